import PyProof.Rows.All
import Wide.All
import OpenK.AllK
import Wide.FinOn
import Lean
import PyProof.EqAt
import PyProof.EqKinds
import PyProof.TupleCall
import PyProof.ReprRoads
import PyProof.FitsInt
import PyProof.FitsBits
import PyProof.Rows.IntMath
import PyProof.ConsumeWalk
import PyProof.WalkInts
import PyProof.ListRange
import PySem.SetTable
import PyProof.SetKind
import PyProof.TupleKey
import PyProof.DictKinds
import PyProof.IsRules
import PyProof.Rows.SetFrom
import PyProof.CollectIter
import PyProof.ForAny
import PyProof.Rows.SortRuns
import PyProof.Rows.SortKey
import KE.KSortTup
import PyProof.ZipIter
import PyProof.Draws
import PyProof.EnumMake
import PyProof.TupleIter
import PyProof.P3Eq
import PyProof.StrCalls2
import PyProof.StrCalls3
import PyProof.FString
import PyProof.SetRoads
import PyProof.Rows.SeqMore
import PyProof.CallFns
import PyProof.StrOps
import PyProof.Rows.Chain
import PyProof.Rows.TupDisplay
import PySem.Challenge.RW_fewfills_k18_rings_that_need_more
set_option Elab.async false
set_option bootstrap.genMatcherCode false
set_option compiler.extract_closed false
set_option genSizeOf false
set_option linter.all false
set_option maxRecDepth 100000
open PySem
abbrev qaa:=@PySem.W.Frag
abbrev qab:=@wpAny_bind
abbrev qac:=@Bool.false_eq_true
abbrev qad:=@List.getElem?_eq_some_iff
abbrev qae:=@Heap.get?_push_of_some
abbrev qaf:=@List.mem_cons_of_mem
abbrev qag:=@if_pos
abbrev qah:=@Nat.le_refl
abbrev qai:=@List.getElem?_set_ne
abbrev qaj:=@List.mem_cons
abbrev qak:=@wpAny_pure
abbrev qal:=@List.length_map
abbrev qam:=@List.mem_append_right
abbrev qan:=@List.getElem?_append_left
abbrev qao:=@if_neg
abbrev qap:=@List.size_toArray
abbrev qaq:=@List.set_cons_succ
abbrev qar:=@List.set_cons_zero
abbrev qas:=@Heap.lt_size
abbrev qat:=@List.getElem?_map
abbrev qau:=@List.getElem?_eq_getElem
abbrev qav:=@List.mem_append
abbrev qaw:=@List.getElem?_set_self
abbrev qax:=@Option.map_eq_some_iff
abbrev qay:=@Array.getElem?_toList
abbrev qaz:=@Heap.get?_push_size
abbrev qaA:=@List.mem_iff_getElem?
abbrev qaB:=@Nat.lt_of_lt_of_le
abbrev qaC:=@List.mem_map
abbrev qaD:=@List.getElem?_append_right
abbrev qaE:=@Nat.le_trans
abbrev qaF:=@List.map_cons
abbrev qaG:=@Int.toNat_natCast
abbrev qaH:=@Array.length_toList
abbrev qaI:=@Bool.not_true
abbrev qaJ:=@Nat.ne_of_lt
abbrev qaK:=@List.mem_append_left
abbrev qaL:=@List.mem_of_getElem?
abbrev qaM:=@List.mem_cons_self
abbrev qaN:=@List.not_mem_nil
abbrev qaO:=@Option.bind_some
abbrev qaP:=@Option.bind_eq_some_iff
abbrev qaQ:=@List.length_append
abbrev qaR:=@Nat.zero_le
abbrev qaS:=@Nat.zero_add
abbrev qaT:=@List.getElem?_eq_none
abbrev qaU:=@Nat.lt_irrefl
abbrev qaV:=@List.getElem?_replicate
abbrev qaW:=@List.take_of_length_le
abbrev qaX:=@List.all_eq_true
abbrev qaY:=@List.length_cons
abbrev qaZ:=@List.take_append_drop
abbrev qba:=@Array.toList_push
abbrev qbb:=@Bool.not_false
abbrev qbc:=@List.getElem?_cons_zero
abbrev qbd:=@List.lookup_cons
abbrev qbe:=@Array.getElem?_eq_some_iff
abbrev qbf:=@List.append_assoc
abbrev qbg:=@Array.toList_append
abbrev qbh:=@Array.getElem?_eq_getElem
abbrev qbi:=@List.pairwise_iff_getElem
abbrev qbj:=@List.getElem?_toArray
abbrev qbk:=@Array.size_push
abbrev qbl:=@List.map_map
abbrev qbm:=@List.length_drop
abbrev qbn:=@Array.toList_inj
abbrev qbo:=@List.getElem?_cons_succ
abbrev qbp:=@List.mem_range
abbrev qbq:=@Bool.not_eq_true'
abbrev qbr:=@List.mem_filter
abbrev qbs:=@Array.getElem?_extract
abbrev qbt:=@List.drop_eq_nil_of_le
abbrev qbu:=@Option.getD_some
abbrev qbv:=@List.length_replicate
abbrev qbw:=@Heap.get?_update_self
abbrev qbx:=@Heap.size_push
abbrev qby:=@Bool.false_and
abbrev qbz:=@List.getElem?_take_of_lt
abbrev qbA:=@List.reverse_cons
abbrev qbB:=@Option.map_some
abbrev qbC:=@Nat.lt_succ_of_lt
abbrev qbD:=@List.ext_getElem?
abbrev qbE:=@Nat.ne_of_gt
abbrev qbF:=@List.map_nil
abbrev qbG:=@List.length_eq_zero_iff
abbrev qbH:=@Heap.get?_update_ne
abbrev qbI:=@List.getElem_of_mem
abbrev qbJ:=@List.length_take
abbrev qbK:=@Bool.and_eq_true
abbrev qbL:=@Heap.get?_update_other
abbrev qbM:=@Bool.false_ne_true
abbrev qbN:=@Array.size_append
abbrev qbO:=@List.getElem?_inj
abbrev qbP:=@Bool.true_and
abbrev qbQ:=@Array.getElem?_eq_none_iff
abbrev qbR:=@Array.perm_iff_toList_perm
abbrev qbS:=@Int.fmod_eq_emod_of_nonneg
abbrev qbT:=@Array.toList_extract
abbrev qbU:=@List.mem_of_mem_drop
abbrev qbV:=@List.mem_of_mem_take
abbrev qbW:=@List.extract_eq_take_drop
abbrev qbX:=@Nat.lt_succ_self
abbrev qbY:=@List.perm_middle
abbrev qbZ:=@List.filterMap_cons
abbrev qca:=@Nat.le_of_lt
abbrev qcb:=@List.mem_filterMap
abbrev qcc:=@List.append_nil
abbrev qcd:=@List.mem_singleton
abbrev qce:=@List.getElem?_drop
abbrev qcf:=@Int.lt_or_gt_of_ne
abbrev qcg:=@List.nodup_append
abbrev qch:=@List.pairwise_map
abbrev qci:=@Bool.and_false
abbrev qcj:=@List.mem_flatMap
abbrev qck:=@List.filter_cons
abbrev qcl:=@List.getElem?_zipIdx
abbrev qcm:=@List.nodup_cons
abbrev qcn:=@List.perm_append_singleton
abbrev qco:=@List.pairwise_cons
abbrev qcp:=@Bool.not_eq_false'
abbrev qcq:=@List.drop_eq_getElem_cons
abbrev qcr:=@List.mem_or_eq_of_mem_set
abbrev qcs:=@List.take_sublist
abbrev qct:=@List.all_eq_false
abbrev qcu:=@List.any_cons
abbrev qcv:=@List.all_cons
abbrev qcw:=@Nat.le_succ
abbrev qcx:=@List.pairwise_mergeSort
abbrev qcy:=@List.nodup_range
abbrev qcz:=@List.any_eq_true
abbrev qcA:=@List.getElem_mem
abbrev qcB:=@Array.getElem?_eq_none
abbrev qcC:=@List.getElem_cons_drop
abbrev qcD:=@List.of_mem_zip
abbrev qcE:=@List.foldl_cons
abbrev qcF:=@Nat.lt_trans
abbrev qcG:=@List.all_map
abbrev qcH:=@List.perm_append_comm
abbrev qcI:=@Nat.min_eq_left
abbrev qcJ:=@Bool.eq_iff_iff
abbrev qcK:=@List.length_nil
abbrev qcL:=@List.nodup_nil
abbrev qcM:=@List.take_succ
noncomputable section
local macro_rules | `(tactic| ext) => `(tactic| omega)
namespace L2
open PySem PySem.Spec PyProof.Rows
abbrev Key:=Sum Int Str
def keyIs:Key->Value->Bool
 | .inl k,v=>Value.isInt k v
 | .inr x,v=>Value.isStrOf x v
def keyH(w:World):Key->Int
 | .inl k=>hashInt k
 | .inr x=>hashStr w x
def bM:∀{k:Key} {v:Value},keyIs k v=true->(∃i t,k=Sum.inl i/\v=Value.int i t)\/(∃x t,k=Sum.inr x/\v=Value.str x t)
 | .inl i,v,h=>by
  obtain⟨t,e⟩:=Value.isInt_shape h;exact .inl ⟨i,t,rfl,e⟩
 | .inr x,v,h=>by
  obtain⟨t,e⟩:=Value.isStrOf_shape h;exact .inr ⟨x,t,rfl,e⟩
def key_ll(a b:Int):decide ((Sum.inl a:Key)=Sum.inl b)=(a == b):=by
 by_cases e:a=b
 ·subst e;simp
 ·have h:¬(Sum.inl a:Key)=Sum.inl b:=fun q=>e (Sum.inl.inj q);rw[decide_eq_false h];exact (beq_eq_false_iff_ne.mpr e).symm
def key_rr(a b:Str):decide ((Sum.inr a:Key)=Sum.inr b)=decide (a=b):=by simp
def key_lr(a:Int)(b:Str):decide ((Sum.inl a:Key)=Sum.inr b)=false:=decide_eq_false (fun q=>nomatch q)
def key_rl(a:Str)(b:Int):decide ((Sum.inr a:Key)=Sum.inl b)=false:=decide_eq_false (fun q=>nomatch q)
def nP(prog:Program)(w:World):PySem.KeyKind prog w Key where
 is:=keyIs
 hash:=keyH w
 inj:=fun v a b ha hb=>by
  rcases bM ha with ⟨i,t,rfl,rfl⟩|⟨x,t,rfl,rfl⟩
  ·rcases bM hb with ⟨j,u,rfl,e⟩|⟨y,u,rfl,e⟩
   ·injection e with e1 _;rw[e1]
   ·exact nomatch e
  ·rcases bM hb with ⟨j,u,rfl,e⟩|⟨y,u,rfl,e⟩
   ·exact nomatch e
   ·injection e with e1 _;rw[e1]
 byValue:=fun k v h=>by
  rcases bM h with ⟨i,t,rfl,rfl⟩|⟨x,t,rfl,rfl⟩ <;> rfl
 pyHash:=fun hv h=>by
  rcases bM hv with ⟨i,t,rfl,rfl⟩|⟨x,t,rfl,rfl⟩
  ·exact wpAny_pyHash_int h
  ·exact wpAny_pyHash_str h
 eqBool:=fun hu hv h=>by
  rcases bM hu with ⟨i,t,rfl,rfl⟩|⟨x,t,rfl,rfl⟩
  ·rcases bM hv with ⟨j,u,rfl,rfl⟩|⟨y,u,rfl,rfl⟩
   ·rw[key_ll] at h;exact wpAny_eqBool_int h
   ·rw[key_lr] at h;exact SeqAt.EqAt.int_str i t y u _ _ _ _ h
  ·rcases bM hv with ⟨j,u,rfl,rfl⟩|⟨y,u,rfl,rfl⟩
   ·rw[key_rl] at h;exact SeqAt.EqAt.str_int x t j u _ _ _ _ h
   ·rw[key_rr] at h;exact wpAny_eqBool_str h
 «strs»:=fun k x t v h=>by
  rcases bM h with ⟨i,u,rfl,e⟩|⟨y,u,rfl,e⟩
  ·exact nomatch e
  ·injection e with e1 _
   subst e1;cases v <;> rfl
inductive V where
 | non | bl (b:Bool) | int (i:Int) | str (x:Str) | byt (b:Array UInt8) | flt (b:UInt64) | ref (a:Addr) | ty (n:String)
 deriving DecidableEq
def aW:V->Value->Prop
 | .non,u=>u=Value.none
 | .bl b,u=>u=Value.bool b
 | .int i,u=>∃t,u=Value.int i t
 | .str x,u=>∃t,u=Value.str x t
 | .byt b,u=>∃t,u=Value.bytes b t
 | .flt b,u=>∃t,u=Value.float b t
 | .ref a,u=>u=Value.ref a
 | .ty n,u=>u=Value.type n
abbrev aF:List V->List Value->Prop:=Paired aW
def aF.length(r:aF xs us):xs.length=us.length:=Paired.length r
def aF.get{xs:List V}{us:List Value}{i:Nat}{x:V}(r:aF xs us)(e:xs[i]?=some x):∃u,us[i]?=some u/\aW x u:=by
 induction r generalizing i with
 | nil=>cases e
 | cons r t ih =>
  cases i with
  | zero=>cases e;exact⟨_,rfl,r⟩
  | succ i=>have z:=@ih i e;exact z
def aF.set(r:aW x u)(i:Nat)(q:aF xs us):aF (xs.set i x) (us.set i u):=by
 induction q generalizing i with
 | nil=>exact .nil
 | cons a t ih =>
  cases i with
  | zero=>exact .cons r t
  | succ i=>exact .cons a (ih i)
def aF.append(r:aF xs us)(s:aF ys ws):aF (xs++ys) (us++ws):=by
 induction r with
 | nil=>exact s
 | cons r t ih=>exact .cons r ih
def aF.take(n:Nat)(r:aF xs us):aF (xs.take n) (us.take n):=by
 induction r generalizing n with
 | nil=>cases n <;> exact .nil
 | cons a t ih =>
  cases n with
  | zero=>exact .nil
  | succ n=>exact .cons a (ih n)
def aF.drop(n:Nat)(r:aF xs us):aF (xs.drop n) (us.drop n):=by
 induction r generalizing n with
 | nil=>cases n <;> exact .nil
 | cons a t ih =>
  cases n with
  | zero=>exact .cons a t
  | succ n=>exact ih n
def RelO:Option V->Option Value->Prop
 | some v,some u=>aW v u
 | none,none=>True
 | _,_=>False
def KV{κ:Type}:List (κ × V)->List (κ × Value)->Prop:=Paired fun (p:κ × V) (q:κ × Value)=>p.1=q.1/\aW p.2 q.2
def kV:Key->V
 | .inl i=>.int i
 | .inr x=>.str x
inductive HO where
 | lst (xs:List V)
 | tup (xs:List V)
 | dK (kvs:List (Key × V)) | dT (kvs:List (List Key × V))
 | set (S:Int->Bool) (n:Nat)
 | ins (C dx:Addr) (fs:List (Str × V))
 | own (x:Addr)
 | xd (fs:List (Str × V))
 | met (f x:Addr)
 | rng (lo hi:Int)
 | frz (o:Obj) (u:HO)
 | tbl (ps:Array Value)
 | ext (φ:Heap->Prop)
abbrev Hp:=Addr->Option HO
def upd(H:Hp)(a:Addr)(o:HO):Hp:=fun b=>if b=a then some o else H b
def cj:upd H a o a=some o:=by unfold upd;rw[qag rfl]
def aX(h:b≠a):upd H a o b=H b:=by unfold upd;rw[qao h]
def bC{H:Hp}{a b:Addr}{o:HO}(h:H a=some o)(h':H b=none):a≠b:=by
 intro e;subst e;rw[h] at h';cases h'
def gT(h:Heap)(a:Addr)(its:Array Value):Prop:=∃o,h.get? a=some o/\o.cls=.type "tuple"/\(∃n,o.data=.seq its n)/\o.dict=none
def gT.tup(t:gT h a its):IsTup h a its:=let ⟨o,e,c,d,_⟩:=t;⟨o,e,c,d⟩
def gT.lt(t:gT h a its):a<h.objs.size:=t.tup.lt
def gT.new(h:Heap)(its:Array Value):gT (h.push { cls:=.type "tuple",data:=.seq its}) h.objs.size its:=⟨_,qaz h rfl,rfl,⟨_,rfl⟩,rfl⟩
section
variable (P:Program) (w:World)
def ObjOk(H:Hp)(h:Heap)(a:Addr):HO->Prop
 | .lst xs=>xs.length<=sizeLine/\∃(its:List Value) (n:Nat),aF xs its/\h.get? a=some { cls:=.type "list",data:=.seq its.toArray n}
 | .tup xs=>xs.length<=sizeLine/\∃its:List Value,aF xs its/\gT h a its.toArray
 | .dK kvs=>kvs.length<=sizeLine/\(a == sysModules)=false/\∃vs,KV kvs vs/\h.DictOf (nP P w) a vs
 | .dT kvs=>kvs.length<=sizeLine/\(a == sysModules)=false/\∃xs:List (List Key × Addr × Value),
   Paired (fun (p:List Key × V) (q:List Key × Addr × Value)=>p.1=q.1/\H q.2.1=some (.tup (p.1.map kV))/\aW p.2 q.2.2) kvs xs /\
   ∃o es ep,h.get? a=some o/\o.ExactDict/\o.data=.dict es ep/\es.toList=xs.map (entryOfKey (tupleKind (nP P w)))/\(xs.map (·.1)).Nodup
 | .set S n=>h.SetOf (intKind P w) a S n
 | .ins C dx fs=>H dx=some (.own a)/\fs.length<=1000/\dx≠a/\h.get? a=some (PySem.W.instObj C dx) /\
   ∃mA,h.Ns1 dx mA/\(∀f,RelO (fs.lookup f) (mA f))/\PySem.Within mA (fs.map (·.1))
 | .own _=>∃o,h.get? a=some o
 | .xd fs=>∃mA,h.Ns1 a mA/\∀f,RelO (fs.lookup f) (mA f)
 | .rng lo hi=>∃t u v,h.get? a=some { cls:=.type "range",data:=.fields #[.int lo t,.int hi u,.int 1 v]}
 | .frz o u=>h.get? a=some o/\ObjOk H h a u
 | .tbl ps=>h.get? a=some { cls:=.none,data:=.fields ps}
 | .met f x=>h.get? a=some (PySem.W.methodObj (.ref f) (.ref x))
 | .ext φ=>φ h/\(∃o,h.get? a=some o)/\∀h1 h2:Heap,φ h1->(∀o,h1.get? a=some o->h2.get? a=some o)->φ h2
def HOk(H:Hp)(h:Heap):Prop:=∀a o,H a=some o->ObjOk P w H h a o
end
section
variable {P:Program} {w:World} {H H':Hp} {h h':Heap} {a:Addr} {o:HO}
def ObjOk.lt(x:ObjOk P w H h a o):a<h.objs.size:=by
 cases o with
 | lst xs=>obtain⟨_,_,_,_,e⟩:=x;exact qas e
 | tup xs=>obtain⟨_,_,_,p⟩:=x;exact p.lt
 | dK kvs=>obtain⟨_,_,_,_,o,_,_,e,_⟩:=x;exact qas e
 | dT kvs=>obtain⟨_,_,_,_,o,_,_,e,_⟩:=x;exact qas e
 | set S n=>obtain⟨o,_,_,_,e,_⟩:=x;exact qas e
 | ins C dx fs=>obtain⟨_,_,_,e,_⟩:=x;exact qas e
 | own y=>obtain⟨_,e⟩:=x;exact qas e
 | xd fs=>obtain⟨_,⟨_,_,_,e,_⟩,_⟩:=x;exact qas e
 | rng lo hi=>obtain⟨_,_,_,e⟩:=x;exact qas e
 | frz ob u=>obtain⟨e,_⟩:=x;exact qas e
 | tbl ps=>exact qas (x)
 | met f y=>exact qas (x)
 | ext φ=>obtain⟨_,⟨_,e⟩,_⟩:=x;exact qas e
def Paired.mapP{α β:Type}{F G:α->β->Prop}{l₁:List α}{l₂:List β}(r:Paired F l₁ l₂)(f:∀a b,F a b->G a b):Paired G l₁ l₂:=by
 induction r with
 | nil=>exact .nil
 | cons r t ih=>exact .cons (f _ _ r) ih
def ObjOk.stay(x:ObjOk P w H h a o)(k:∀b u,(b=a\/H b=some (.own a))->h.get? b=some u->h'.get? b=some u)
  (ho:∀b,H b=some (.own a)->H' b=some (.own a)) (ht:∀b xs,H b=some (.tup xs)->H' b=some (.tup xs)):ObjOk P w H' h' a o:=by
 induction o with
 | lst xs=>obtain⟨z,its,n,r,e⟩:=x;exact⟨z,its,n,r,k _ _ (.inl rfl) e⟩
 | tup xs=>obtain⟨z,its,r,ob,e,c⟩:=x;exact⟨z,its,r,ob,k _ _ (.inl rfl) e,c⟩
 | dK kvs=>obtain⟨z,y,vs,r,ob,es,ep,e,c⟩:=x;exact⟨z,y,vs,r,ob,es,ep,k _ _ (.inl rfl) e,c⟩
 | dT kvs =>
  obtain⟨z,y,xs,r,ob,es,ep,e,c⟩:=x;exact⟨z,y,xs,Paired.mapP r fun p q z=>⟨z.1,ht _ _ z.2.1,z.2.2⟩,ob,es,ep,k _ _ (.inl rfl) e,c⟩
 | set S n=>obtain⟨ob,es,ep,t,e,c⟩:=x;exact⟨ob,es,ep,t,k _ _ (.inl rfl) e,c⟩
 | ins C dx fs =>
  obtain⟨d,z,ne,e,mA,⟨od,es,ep,e2,c⟩,r⟩:=x;exact⟨ho _ d,z,ne,k _ _ (.inl rfl) e,mA,⟨od,es,ep,k _ _ (.inr d) e2,c⟩,r⟩
 | own y=>obtain⟨ob,e⟩:=x;exact⟨ob,k _ _ (.inl rfl) e⟩
 | xd fs=>obtain⟨mA,⟨od,es,ep,e,c⟩,r⟩:=x;exact⟨mA,⟨od,es,ep,k _ _ (.inl rfl) e,c⟩,r⟩
 | rng lo hi=>obtain⟨t,u,v,e⟩:=x;exact⟨t,u,v,k _ _ (.inl rfl) e⟩
 | frz ob u ih=>obtain⟨e,q⟩:=x;exact⟨k _ _ (.inl rfl) e,ih q⟩
 | tbl ps =>
  have e:=x;exact k a _ (.inl rfl) e
 | met f y =>
  have e:=x;exact k a _ (.inl rfl) e
 | ext φ=>obtain⟨p,⟨o,e⟩,st⟩:=x;exact⟨st _ _ p fun o q=>k _ _ (.inl rfl) q,⟨o,k _ _ (.inl rfl) e⟩,st⟩
def HOk.lt(x:HOk P w H h)(e:H a=some o):a<h.objs.size:=(x a o e).lt
def HOk.fresh(x:HOk P w H h)(e:h.objs.size<=a):H a=none:=by
 cases q:H a with
 | none=>rfl
 | some u=>exact absurd (qaB (x.lt q) e) (qaU _)
def HOk.kept(x:HOk P w H h)(k:∀b u,h.get? b=some u->h'.get? b=some u):HOk P w H h':=fun a o e =>
 (x a o e).stay (fun b u _ q=>k b u q) (fun _ q=>q) fun _ _ q=>q
def HOk.laid(x:HOk P w H h)(k:∀b u,h.get? b=some u->h'.get? b=some u)(hp:h.objs.size<=a)(new:ObjOk P w (upd H a o) h' a o):HOk P w (upd H a o) h':=fun b u e=>by
 have hn:=x.fresh hp;by_cases hb:b=a
 ·subst hb;rw[cj] at e;cases e;exact new
 ·rw[aX hb] at e;exact (x b u e).stay (fun c v _ q=>k c v q) (fun c q=>by rw[aX (bC q hn)];exact q) fun c xs q=>by rw[aX (bC q hn)];exact q
end
def Rd(H:Hp)(a:Addr)(u:HO):Prop:=H a=some u\/∃o,H a=some (.frz o u)
def Rd.ok(r:Rd H a u)(x:HOk P w H h):ObjOk P w H h a u:=by
 rcases r with r|⟨o,r⟩
 ·exact x a u r
 ·obtain⟨_,q⟩:=x a _ r;exact q
def Mut:Option HO->Prop
 | some (.lst _)=>True
 | some (.dK _)=>True
 | some (.dT _)=>True
 | some (.set _ _)=>True
 | some (.ins _ _ _)=>True
 | some (.ext _)=>True
 | _=>False
section
variable {P:Program} {w:World} {H:Hp} {h h':Heap} {x e:Addr} {o':HO}
def HOk.write(ok:HOk P w H h)(mu:Mut (H x))(he:e=x\/H e=some (.own x))(k:∀b u,b≠e->h.get? b=some u->h'.get? b=some u)(heo:∃u,h'.get? e=some u)
  (new:ObjOk P w (upd H x o') h' x o'):HOk P w (upd H x o') h':=fun b u q=>by
 have nown:∀c y,H c=some (.own y)->c≠x:=fun c y r z=>by subst z;rw[r] at mu;exact mu
 have ntup:∀c xs,H c=some (.tup xs)->c≠x:=fun c xs r z=>by subst z;rw[r] at mu;exact mu
 by_cases hb:b=x
 ·subst hb;rw[cj] at q;cases q;exact new
 ·rw[aX hb] at q;by_cases hbe:b=e
  ·have q':H b=some (.own x):=by
    rcases he with z|z
    ·exact absurd (hbe.trans z) hb
    ·rw[hbe];exact z
   rw[q] at q';cases q';obtain⟨v,hv⟩:=heo;exact⟨v,by rw[hbe];exact hv⟩
  ·refine (ok b u q).stay (fun c v hc r=>k c v ?_ r) (fun c r=>by rw[aX (nown c b r)];exact r) fun c xs r=>by rw[aX (ntup c xs r)];exact r
   grind
end
structure Un (fs ex:List Addr) (H H':Hp) (h h':Heap):Prop where
 keep:∀b o,h.get? b=some o->H b=none->b∉fs->b∉ex->h'.get? b=some o
 slot:∀b o,h.get? b=some o->H b=none->b∈fs->b∉ex->∃sl,h'.get? b=some { o with slots:=sl}
 free:∀b o,h.get? b=some o->H b=none->b∉ex->H' b=none
 there:∀b o,h.get? b=some o->b∉ex->∃o',h'.get? b=some o'
 tups:∀b xs,H b=some (.tup xs)->H' b=some (.tup xs)
 frzs:∀b o u,H b=some (.frz o u)->H' b=some (.frz o u)
 tbls:∀b ps,H b=some (.tbl ps)->∃more,H' b=some (.tbl (ps++more))
section
variable {fs fs' ex ex':List Addr} {H H1 H2:Hp} {h h1 h2 h':Heap} {a x e:Addr} {o:HO}
def Un.any(u:Un fs ex H H1 h h1)(q:h.get? b=some ob)(n:H b=none)(hx:b∉ex):∃sl,h1.get? b=some { ob with slots:=sl}:=by
 by_cases hb:b∈fs
 ·exact u.slot b ob q n hb hx
 ·exact⟨ob.slots,u.keep b ob q n hb hx⟩
def Un.kept(k:∀b u,h.get? b=some u->h'.get? b=some u):Un fs ex H H h h' :=
 ⟨fun b ob q _ _ _=>k b ob q,fun b ob q _ _ _=>⟨ob.slots,k b ob q⟩,fun _ _ _ n _=>n,fun b ob q _=>⟨ob,k b ob q⟩,fun _ _ q=>q,fun _ _ _ q=>q,fun _ ps q=>⟨#[],by rw[q];simp⟩⟩
def Un.refl:Un fs ex H H h h:=Un.kept fun _ _ q=>q
def Un.laid(k:∀b u,h.get? b=some u->h'.get? b=some u)(hp:h.objs.size<=a)(hn:H a=none):Un fs ex H (upd H a o) h h' where
 keep:=fun b u q _ _ _=>k b u q
 slot:=fun b u q _ _ _=>⟨u.slots,k b u q⟩
 free:=fun b u q n _=>by rw[aX (qaJ (qaB (qas q) hp))];exact n
 there:=fun b u q _=>⟨u,k b u q⟩
 tups:=fun b xs q=>by rw[aX (bC q hn)];exact q
 frzs:=fun b u xs q=>by rw[aX (bC q hn)];exact q
 tbls:=fun b ps q=>⟨#[],by rw[aX (bC q hn),q];simp⟩
def Un.write(mu:Mut (H x))(he:e=x\/H e=some (.own x))(k:∀b u,b≠e->h.get? b=some u->h'.get? b=some u)(heo:∃u,h'.get? e=some u):Un fs ex H (upd H x o) h h':=by
 have hx:∀b,H b=none->b≠x:=fun b n z=>by subst z;rw[n] at mu;exact mu
 have hb:∀b,H b=none->b≠e:=fun b n z=>by
  simp_all
 have hm:∀b u,H b=some u->¬Mut (some u)->b≠x:=fun b u q nm z=>by subst z;rw[q] at mu;exact nm mu
 refine⟨fun b u q n _ _=>k b u (hb b n) q,fun b u q n _ _=>⟨u.slots,k b u (hb b n) q⟩,fun b u q n _=>by rw[aX (hx b n)];exact n,fun b u q _=>?_,
  fun b xs q=>by rw[aX (hm b _ q fun z=>z)];exact q,fun b u xs q=>by rw[aX (hm b _ q fun z=>z)];exact q,fun b ps q=>⟨#[],by rw[aX (hm b _ q fun z=>z),q];simp⟩⟩
 by_cases hbe:b=e
 ·subst hbe;exact heo
 ·exact⟨u,k b u hbe q⟩
end
def trk(h:Heap)(H:Hp):List Addr:=(List.range h.objs.size).filter fun a=>(H a).isSome
def jf(h:Heap)(H:Hp):Heap:=PySem.W.hideAll h (trk h H)
def vj(h:Heap)(H:Hp):(jf h H).objs.size=h.objs.size:=PySem.W.hideAll_size _ _
def xq(e:h.get? b=some o)(n:H b=none):(jf h H).get? b=some o :=
 PySem.W.hideAll_get _ e fun hm=>by
  have q:=(qbr.mp hm).2;rw[n] at q;simp at q
def of_hidT(e:(jf h H).get? b=some o):h.get? b=some o/\H b=none:=by
 have e':=PySem.W.of_hideAll (trk h H) e;refine⟨e',?_⟩
 cases q:H b with
 | none=>rfl
 | some x =>
  have hm:b∈trk h H:=qbr.mpr ⟨qbp.mpr (qas e'),by simp[q]⟩;have z:(jf h H).get? b=none:=PySem.W.hideAll_none (trk h H) hm;rw[z] at e;cases e
structure Mod (K:qaa) (mg:Str->Option Value) (base:Heap):Prop where
 kin:K.In base
 glob:base.Ns mainGlobals mg
 blt:∃mb,base.Ns builtinsNs mb/\∀x:Str,x≠"__name__"->mb x=bootBuiltins x
 nolimit:base.NoLimit
structure Cx where
 prog:Program
 w:World
 K:qaa
 mg:Str->Option Value
 base:Heap
 A:Around
 N:List Str
 s₀:Shared
 H₀:Hp
 env:Env
 outer:List Env
 stack:List Env
 ex:List Addr
 fn:Str->Bool
 calm:Bool
 pn:List (Addr × Obj)
 xe:Value->Shared->Prop
def frs(l:List Env):List Addr:=l.filterMap (·.frame)
abbrev Cx.fs(X:Cx):List Addr:=frs X.outer
def Vis(sc:Scope)(x:Str):Prop:=sc.names.lookup x=some .local\/sc.names.lookup x=some .cell\/sc.names.lookup x=some .free
def Loc(sc:Scope)(x:Str):Prop:=sc.names.lookup x=some .local\/sc.names.lookup x=some .cell
def Look(env:Env)(h:Heap)(m:Str->Option Value)(x:Str)(u:Value):Prop :=
 (env.kindOf x=some .local/\m x=some u)\/((env.kindOf x=some .cell\/env.kindOf x=some .free)/\∃c,env.cells.lookup x=some c/\h.IsCell c (some u))
structure Cx.Ok (X:Cx):Prop where
 mod:Mod X.K X.mg X.base
 kind:X.env.scope.kind=.function
 glob:X.env.globals=mainGlobals
 blt:X.env.builtins=builtinsNs
 above:X.s₀.heap.objs.size<=X.env.locals
 inj:∀x y c,X.env.cells.lookup x=some c->X.env.cells.lookup y=some c->x=y
 has:∀x,(X.env.kindOf x=some .cell\/X.env.kindOf x=some .free)->∃c,X.env.cells.lookup x=some c
 cab:∀x c,X.fn x=true->X.env.cells.lookup x=some c->X.s₀.heap.objs.size<=c
 hd:X.calm=true->X.A.handled=none
 frames:X.A.frames=some X.stack
 stk:X.stack=X.outer\/(X.stack=X.env::X.outer/\X.env.frame=some X.env.locals)
 exf:∀b∈X.ex,b≠X.env.locals/\∀x c,X.env.cells.lookup x=some c->c≠b
 bs:∀b o,X.base.get? b=some o->X.s₀.heap.get? b=some o/\X.H₀ b=none
 bsz:X.base.objs.size<=X.s₀.heap.objs.size
 noex:∀b o,X.base.get? b=some o->b∉X.ex
 exfs:∀b∈X.ex,b∉X.fs
 funs:X.s₀.heap.FunFrames X.base X.outer
 frf:∀b∈X.fs,X.H₀ b=none
structure Inv (X:Cx) (Iv:List (Addr × Obj)) (σ:List (Option V)) (H:Hp) (s:Shared):Prop where
 ok:X.Ok
 os:s.os=X.s₀.os
 bare:AllBare s.gens
 base:Un X.fs X.ex X.H₀ H X.s₀.heap s.heap
 loc:∃m,s.heap.Ns X.env.locals m/\∀(i:Nat) (x:Str) (v:V),X.N[i]?=some x->σ[i]?=some (some v)->Vis X.env.scope x->∃u,aW v u/\Look X.env s.heap m x u
 cell:∀x c,X.env.cells.lookup x=some c->∃v,s.heap.IsCell c v
 free:H X.env.locals=none
 freeC:∀x c,X.env.cells.lookup x=some c->H c=none
 pin:∀p∈X.pn++Iv,s.heap.get? p.1=some p.2/\H p.1=none/\p.1≠X.env.locals/\p.1∉X.fs/\∀v,p.2.data≠.cell v
 hok:HOk X.prog X.w H s.heap
 len:σ.length=X.N.length
section
variable {X:Cx} {Iv:List (Addr × Obj)} {σ:List (Option V)} {H H':Hp} {s:Shared} {h':Heap}
def Cx.Ok.nofr(ok:X.Ok)(e:X.base.get? b=some o):b∉X.fs:=fun hb=>by
 have:=(ok.funs.mem hb).1
 rw[e] at this;cases this
def Inv.bs(I:Inv X Iv σ H s):∀b o,X.base.get? b=some o->s.heap.get? b=some o/\H b=none:=fun b o e =>
 ⟨I.base.keep b o (I.ok.bs b o e).1 (I.ok.bs b o e).2 (I.ok.nofr e) (I.ok.noex b o e),I.base.free b o (I.ok.bs b o e).1 (I.ok.bs b o e).2 (I.ok.noex b o e)⟩
def Inv.bk(I:Inv X Iv σ H s):∀b o,X.base.get? b=some o->s.heap.get? b=some o:=fun b o e=>(I.bs b o e).1
def Inv.mod(I:Inv X Iv σ H s):Mod X.K X.mg X.base:=I.ok.mod
def Inv.kIn(I:Inv X Iv σ H s):X.K.In s.heap:=I.ok.mod.kin.keeps I.bk
def Inv.lt(I:Inv X Iv σ H s):X.env.locals<s.heap.objs.size:=let ⟨_,hn,_⟩:=I.loc;hn.lt
def Inv.sz(I:Inv X Iv σ H s):X.s₀.heap.objs.size<=s.heap.objs.size:=qaE I.ok.above (qca I.lt)
def Inv.nofs(I:Inv X Iv σ H s){a:Addr}(h:s.heap.objs.size<=a):a∉X.fs:=fun hb=>by
 obtain⟨_,o,ho,_⟩:=I.ok.funs.mem hb;exact absurd (qaB (qas ho) (qaE I.sz h)) (qaU _)
def Inv.cne(I:Inv X Iv σ H s):∀x c,X.env.cells.lookup x=some c->c≠X.env.locals:=fun x c e z=>by
 obtain⟨v,o,ho,hd⟩:=I.cell x c e;obtain⟨m,⟨o',es,ep,ho',hd',_⟩,_⟩:=I.loc;rw[z,ho'] at ho;cases ho;rw[hd'] at hd;cases hd
def Inv.funs(I:Inv X Iv σ H s):s.heap.FunFrames X.base X.outer:=by
 have all:∀(l:List Env),(∀b∈frs l,b∈X.fs)->X.s₀.heap.FunFrames X.base l->s.heap.FunFrames X.base l:=by
  intro l
  induction l with
  | nil=>intro _ _;trivial
  | cons env r ih =>
   intro hs hl;obtain⟨hk,⟨L,o,hf,hn,ho,hd⟩,hr⟩:=hl;have hL:=hs L (by unfold frs;rw[qbZ,hf];exact qaM);obtain⟨sl,e⟩:=I.base.slot L o ho (I.ok.frf L hL) hL fun z=>I.ok.exfs L z hL;exact⟨hk,⟨L,_,hf,hn,e,hd⟩,ih (fun b hb=>hs b (by unfold frs;rw[qbZ,hf];exact qaf _ hb)) hr⟩
 exact all X.outer (fun _ hb=>hb) I.ok.funs
def Inv.stack(I:Inv X Iv σ H s):s.heap.FunFrames X.base X.stack:=by
 rcases I.ok.stk with e|⟨e,hf⟩
 ·rw[e];exact I.funs
 ·rw[e];obtain⟨m,hn,_⟩:=I.loc;refine .cons (by rw[I.ok.kind];decide) hf hn ?_ I.funs;exact Heap.get?_none_of_le (qaE I.ok.bsz I.ok.above)
def Inv.stkSub(I:Inv X Iv σ H s):∀b∈frs X.stack,b∈X.env.locals::X.fs:=fun b hb=>by
 rcases I.ok.stk with e|⟨e,hf⟩
 ·rw[e] at hb;exact qaf _ hb
 ·rw[e] at hb;unfold frs at hb;rw[qbZ,hf] at hb;exact hb
def Inv.stkFree(I:Inv X Iv σ H s):∀b∈frs X.stack,H b=none:=fun b hb=>by
 rcases qaj.mp (I.stkSub b hb) with e|hb
 ·rw[e];exact I.free
 ·obtain⟨_,o,ho,_⟩:=I.ok.funs.mem hb;exact I.base.free b o ho (I.ok.frf b hb) fun z=>I.ok.exfs b z hb
def Inv.step{g':Array GenState}{t':Nat}{d':Drawn}{ch:List Addr}(I:Inv X Iv σ H s)
  (hch:∀b∈ch,(b∈X.ex\/X.s₀.heap.objs.size<=b)/\b≠X.env.locals/\(∀x c,X.env.cells.lookup x=some c->c≠b)/\∀p∈X.pn++Iv,p.1≠b)
  (keep:∀b o,b≠X.env.locals->b∉X.fs->b∉ch->s.heap.get? b=some o->H b=none->h'.get? b=some o)
  (slot:∀b o,b≠X.env.locals->b∈X.fs->b∉ch->s.heap.get? b=some o->H b=none->∃sl,h'.get? b=some { o with slots:=sl}) (free:∀b o,b∉ch->s.heap.get? b=some o->H b=none->H' b=none)
  (there:∀b o,b∉ch->s.heap.get? b=some o->∃o',h'.get? b=some o')
  (tups:∀b xs,H b=some (.tup xs)->H' b=some (.tup xs)) (frzs:∀b o u,H b=some (.frz o u)->H' b=some (.frz o u)) (tbls:∀b ps,H b=some (.tbl ps)->∃more,H' b=some (.tbl (ps++more)))
  (ns:∀m,s.heap.Ns X.env.locals m->h'.Ns X.env.locals m) (hok:HOk X.prog X.w H' h') (hg:AllBare g') :
  Inv X Iv σ H' { s with heap:=h',gens:=g',drawn:=d',toks:=t'}:=by
 have neL:∀b o,X.s₀.heap.get? b=some o->b≠X.env.locals:=fun b o e=>qaJ (qaB (qas e) I.ok.above);have neC:∀b o,X.s₀.heap.get? b=some o->b∉X.ex->b∉ch:=fun b o e hx hb=>by
  rcases (hch b hb).1 with z|z
  ·exact hx z
  ·exact absurd (qaB (qas e) z) (qaU _)
 have cellK:∀x c,X.env.cells.lookup x=some c->∀v,s.heap.IsCell c v->h'.IsCell c v:=fun x c e v ⟨o,ho,hd⟩=>by
  have nch:c∉ch:=fun z=>(hch c z).2.2.1 x c e rfl;by_cases hc:c∈X.fs
  ·obtain⟨sl,q⟩:=slot c o (I.cne x c e) hc nch ho (I.freeC x c e);exact⟨_,q,hd⟩
  ·exact⟨o,keep c o (I.cne x c e) hc nch ho (I.freeC x c e),hd⟩
 refine⟨I.ok,I.os,hg,⟨fun b o e n hb hx=>?_,fun b o e n hb hx=>?_,fun b o e n hx=>?_,fun b o e hx=>?_,fun b xs e=>tups b xs (I.base.tups b xs e),fun b o xs e=>frzs b o xs (I.base.frzs b o xs e),fun b ps e=>?_⟩,?_,fun x c e=>?_,?_,fun x c e=>?_,fun p hp=>?_,hok,I.len⟩
 ·exact keep b o (neL b o e) hb (neC b o e hx) (I.base.keep b o e n hb hx) (I.base.free b o e n hx)
 ·obtain⟨sl,e1⟩:=I.base.slot b o e n hb hx;obtain⟨sl',e2⟩:=slot b _ (neL b o e) hb (neC b o e hx) e1 (I.base.free b o e n hx);exact⟨sl',e2⟩
 ·obtain⟨o',e1⟩:=I.base.there b o e hx;exact free b o' (neC b o e hx) e1 (I.base.free b o e n hx)
 ·obtain⟨o',e1⟩:=I.base.there b o e hx;exact there b o' (neC b o e hx) e1
 ·obtain⟨m1,e1⟩:=I.base.tbls b ps e;obtain⟨m2,e2⟩:=tbls b _ e1;exact⟨m1++m2,by rw[e2,Array.append_assoc]⟩
 ·obtain⟨m,hn,hl⟩:=I.loc;refine⟨m,ns m hn,fun i x v e1 e2 e3=>?_⟩;obtain⟨u,r,l⟩:=hl i x v e1 e2 e3;refine⟨u,r,?_⟩;rcases l with l|⟨k,c,e,z⟩
  ·exact .inl l
  ·exact .inr ⟨k,c,e,cellK x c e _ z⟩
 ·obtain⟨v,z⟩:=I.cell x c e;exact⟨v,cellK x c e v z⟩
 ·obtain⟨m,⟨o,_,_,ho,_⟩,_⟩:=I.loc;exact free _ o (fun z=>(hch _ z).2.1 rfl) ho I.free
 ·obtain⟨v,o,ho,hd⟩:=I.cell x c e;exact free c o (fun z=>(hch c z).2.2.1 x c e rfl) ho (I.freeC x c e)
 ·obtain⟨e,n,ne,nf,d⟩:=I.pin p hp;have nch:p.1∉ch:=fun z=>(hch p.1 z).2.2.2 p hp rfl;exact⟨keep p.1 p.2 ne nf nch e n,free p.1 p.2 nch e n,ne,nf,d⟩
def Inv.un{t':Nat}(I:Inv X Iv σ H s)(u:Un X.fs [] H H' s.heap h')(hok:HOk X.prog X.w H' h'):Inv X Iv σ H' { s with heap:=h',toks:=t'}:=by
 obtain⟨m,⟨o,es,ep,ho,r⟩,_⟩:=id I.loc;obtain⟨sl,hL⟩:=u.any ho I.free (by simp)
 exact I.step (g':=s.gens) (d':=s.drawn) (ch:=[]) (fun _ z=>nomatch z) (fun b o _ hb _ e n=>u.keep b o e n hb (by simp)) (fun b o _ hb _ e n=>u.slot b o e n hb (by simp)) (fun b o _ e n=>u.free b o e n (by simp)) (fun b o _ e=>u.there b o e (by simp)) u.tups u.frzs u.tbls (fun m' hm=>by
  obtain⟨o',es',ep',ho',r'⟩:=hm;rw[ho] at ho';cases ho'
  exact⟨_,es',ep',hL,r'⟩) hok I.bare
def Inv.call{g':Array GenState}{t':Nat}{d':Drawn}{ch:List Addr}(I:Inv X Iv σ H s)(u:Un (frs X.stack) ch H H' s.heap h')(hok:HOk X.prog X.w H' h')(hg:AllBare g')
  (hch:∀b∈ch,(b∈X.ex\/X.s₀.heap.objs.size<=b)/\b≠X.env.locals/\(∀x c,X.env.cells.lookup x=some c->c≠b)/\∀p∈X.pn++Iv,p.1≠b) :
  Inv X Iv σ H' { s with heap:=h',gens:=g',drawn:=d',toks:=t'}:=by
 obtain⟨m,⟨o,es,ep,ho,r⟩,_⟩:=id I.loc;obtain⟨sl,hL⟩:=u.any ho I.free fun z=>(hch _ z).2.1 rfl
 exact I.step hch (fun b o hL hb hc e n=>u.keep b o e n (fun z=>(qaj.mp (I.stkSub b z)).elim hL hb) hc) (fun b o _ _ hc e n=>u.any e n hc) (fun b o hc e n=>u.free b o e n hc) (fun b o hc e=>u.there b o e hc) u.tups u.frzs u.tbls (fun m' hm=>by
  obtain⟨o',es',ep',ho',r'⟩:=hm;rw[ho] at ho';cases ho'
  exact⟨_,es',ep',hL,r'⟩) hok hg
def Inv.turned{t':Nat}{it:Addr}(I:Inv X Iv σ H s)(k:∀b o,b≠it->s.heap.get? b=some o->h'.get? b=some o)(hn:H it=none)(hL:it≠X.env.locals)
  (h1:it∈X.ex\/X.s₀.heap.objs.size<=it) (h2:∀x c,X.env.cells.lookup x=some c->c≠it) (h3:∀p∈X.pn++Iv,p.1≠it):Inv X Iv σ H { s with heap:=h',toks:=t'}:=by
 have nit:∀b u,H b=some u->b≠it:=fun b u e z=>by rw[z,hn] at e;cases e
 refine I.step (g':=s.gens) (d':=s.drawn) (ch:=[it]) (fun b hb=>?_) (fun b o _ _ hc e _=>k b o (fun z=>hc (by simp[z])) e) (fun b o _ _ hc e _=>⟨o.slots,k b o (fun z=>hc (by simp[z])) e⟩) (fun _ _ _ _ n=>n)
  (fun b o hc e=>⟨o,k b o (fun z=>hc (by simp[z])) e⟩) (fun _ _ e=>e) (fun _ _ _ e=>e) (fun b ps e=>⟨#[],by rw[e];simp⟩) (fun m hm=>?_) (fun b u e=>?_) I.bare
 ·have e:b=it:=by simpa using hb
  subst e;exact⟨h1,hL,h2,h3⟩
 ·obtain⟨o,es,ep,ho,r⟩:=hm;exact⟨o,es,ep,k _ o (Ne.symm hL) ho,r⟩
 ·refine (I.hok b u e).stay (fun c v hc q=>k c v ?_ q) (fun _ q=>q) fun _ _ q=>q;rcases hc with z|z
  ·rw[z];exact nit b u e
  ·exact nit c _ z
def Inv.tok(I:Inv X Iv σ H s)(t:Nat):Inv X Iv σ H { s with toks:=t}:=I.un (h':=s.heap) (t':=t) Un.refl I.hok
def Inv.kept(I:Inv X Iv σ H s)(k:∀b u,s.heap.get? b=some u->h'.get? b=some u):Inv X Iv σ H { s with heap:=h',toks:=t'}:=I.un (Un.kept k) (I.hok.kept k)
def Inv.laid{a:Addr}{o:HO}{t':Nat}(I:Inv X Iv σ H s)(k:∀b u,s.heap.get? b=some u->h'.get? b=some u)(hp:s.heap.objs.size<=a)(new:ObjOk X.prog X.w (upd H a o) h' a o) :
  Inv X Iv σ (upd H a o) { s with heap:=h',toks:=t'}:=I.un (Un.laid k hp (I.hok.fresh hp)) (I.hok.laid k hp new)
def Inv.write(I:Inv X Iv σ H s)(mu:Mut (H x))(he:e=x\/H e=some (.own x))(k:∀b u,b≠e->s.heap.get? b=some u->h'.get? b=some u)(heo:∃u,h'.get? e=some u)
  (new:ObjOk X.prog X.w (upd H x o) h' x o):Inv X Iv σ (upd H x o) { s with heap:=h',toks:=t'}:=I.un (Un.write mu he k heo) (I.hok.write mu he k heo new)
def Inv.pins_of(I:Inv X Iv σ H s)(h:∀p∈pins',s.heap.get? p.1=some p.2/\H p.1=none/\p.1≠X.env.locals/\p.1∉X.fs/\∀v,p.2.data≠.cell v):Inv X pins' σ H s :=
 ⟨I.ok,I.os,I.bare,I.base,I.loc,I.cell,I.free,I.freeC,fun p hp=>(qav.mp hp).elim (fun z=>I.pin p (qaK _ z)) (h p),I.hok,I.len⟩
def pV{N:List Str}(hN:N.Nodup){i j:Nat}{x:Str}(a:N[i]?=some x)(b:N[j]?=some x):i=j:=by
 obtain⟨h1,e1⟩:=qad.mp a;obtain⟨h2,e2⟩:=qad.mp b;exact (List.getElem_inj hN).mp (e1.trans e2.symm)
def wz{M:Model}{A:Around}{E:Value->Shared->Prop}{i:Nat}{x:Str}{v:V}{u:Value}{Q:Unit->Shared->Prop}(I:Inv X Iv σ H s)(hN:X.N.Nodup)(hi:X.N[i]?=some x)(hx:Loc X.env.scope x)(r:aW v u)
  (h:∀s',Inv X Iv (σ.set i (some v)) H s'->(∃a,Heap.SameBut a s.heap s'.heap/\(a=X.env.locals\/X.env.cells.lookup x=some a))->Q () s') (hf:X.fn x=true\/X.env.scope.names.lookup x=some .local:=by first | exact .inl rfl | exact .inr rfl | assumption):wpAny M A (storeName X.env x u) Q E s:=by
 obtain⟨m,hn,hl⟩:=id I.loc;have hcls:(X.env.scope.kind == .class || (X.env.scope.kind == .module && X.env.locals != X.env.globals))=false:=by rw[I.ok.kind];rfl
 have hiσ:i<σ.length:=by rw[I.len];exact (qad.mp hi).1
 have cne:=I.cne;have tracked:∀{a:Addr} {h':Heap},(∃o,s.heap.get? a=some o/\H a=none)->Heap.SameBut a s.heap h'->HOk X.prog X.w H h':=fun {a h'} ha hs b ob e=>by
  obtain⟨_,_,hfree⟩:=ha;refine (I.hok b ob e).stay (fun c w' hc q=>(hs.2 c ?_).trans q) (fun _ q=>q) fun _ _ q=>q;rintro rfl;rcases hc with rfl|hc
  ·rw[hfree] at e;cases e
  ·rw[hfree] at hc;cases hc
 rcases hx with hk|hk
 ·refine wpAny_storeName_local hk hn (fun h' hn' hs=>?_) hcls;obtain⟨oL,_,_,hoL,_⟩:=id hn;refine h _ ⟨I.ok,I.os,I.bare,⟨fun b o e n hb hx=>?_,fun b o e n hb hx=>?_,I.base.free,fun b o e hx=>?_,I.base.tups,I.base.frzs,I.base.tbls⟩,⟨_,hn',fun j y v' e1 e2 e3=>?_⟩,fun y c e=>?_,I.free,I.freeC,fun p hp=>?_,tracked ⟨oL,hoL,I.free⟩ hs,by simpa using I.len⟩ ⟨_,hs,.inl rfl⟩
  ·exact (hs.2 b (qaJ (qaB (qas e) I.ok.above))).trans (I.base.keep b o e n hb hx)
  ·obtain⟨sl,e1⟩:=I.base.slot b o e n hb hx;exact⟨sl,(hs.2 b (qaJ (qaB (qas e) I.ok.above))).trans e1⟩
  ·obtain⟨o',e1⟩:=I.base.there b o e hx;exact⟨o',(hs.2 b (qaJ (qaB (qas e) I.ok.above))).trans e1⟩
  ·by_cases hj:j=i
   ·subst hj;rw[hi] at e1;cases e1;rw[qaw hiσ] at e2;cases e2;exact⟨u,r,.inl ⟨hk,by simp⟩⟩
   ·rw[qai (Ne.symm hj)] at e2;obtain⟨u',r',q⟩:=hl j y v' e1 e2 e3;refine⟨u',r',?_⟩;rcases q with ⟨k,e⟩|⟨k,c,e,z⟩
    ·refine .inl ⟨k,?_⟩
     have:y≠x:=fun e=>hj (pV hN e1 (e▸hi))
     simp[this,e]
    ·exact .inr ⟨k,c,e,z.sameBut hs (cne y c e)⟩
  ·obtain⟨w',z⟩:=I.cell y c e;exact⟨w',z.sameBut hs (cne y c e)⟩
  ·obtain⟨e,n,ne,nf,d⟩:=I.pin p hp;exact⟨(hs.2 p.1 ne).trans e,n,ne,nf,d⟩
 ·have hfn:X.fn x=true:=by
   rcases hf with z|z
   ·exact z
   ·rw[z] at hk;cases hk
  obtain⟨c,hc⟩:=I.ok.has x (.inl hk);obtain⟨w',z⟩:=I.cell x c hc;refine wpAny_storeName_cell I.ok.kind hk hc z (fun h' hc' hs=>?_);obtain⟨oc,hoc,hocd⟩:=id z;refine h { s with heap:=h'} ⟨I.ok,I.os,I.bare,⟨fun b o e n hb hx=>?_,fun b o e n hb hx=>?_,I.base.free,fun b o e hx=>?_,I.base.tups,I.base.frzs,I.base.tbls⟩,⟨m,hn.sameBut hs (Ne.symm (cne x c hc)),fun j y v' e1 e2 e3=>?_⟩,fun y c' e=>?_,I.free,I.freeC,fun p hp=>?_,tracked ⟨oc,hoc,I.freeC x c hc⟩ hs,by simpa using I.len⟩ ⟨c,hs,.inr hc⟩
  ·exact (hs.2 b (qaJ (qaB (qas e) (I.ok.cab x c hfn hc)))).trans (I.base.keep b o e n hb hx)
  ·obtain⟨sl,e1⟩:=I.base.slot b o e n hb hx;exact⟨sl,(hs.2 b (qaJ (qaB (qas e) (I.ok.cab x c hfn hc)))).trans e1⟩
  ·obtain⟨o',e1⟩:=I.base.there b o e hx;exact⟨o',(hs.2 b (qaJ (qaB (qas e) (I.ok.cab x c hfn hc)))).trans e1⟩
  ·by_cases hj:j=i
   ·subst hj;rw[hi] at e1;cases e1;rw[qaw hiσ] at e2;cases e2;exact⟨u,r,.inr ⟨.inl hk,c,hc,hc'⟩⟩
   ·rw[qai (Ne.symm hj)] at e2;obtain⟨u',r',q⟩:=hl j y v' e1 e2 e3;refine⟨u',r',?_⟩;rcases q with q|⟨k,c',e,z'⟩
    ·exact .inl q
    ·refine .inr ⟨k,c',e,z'.sameBut hs ?_⟩;rintro rfl;exact hj (pV hN e1 (I.ok.inj _ _ _ e hc▸hi))
  ·by_cases hcc:c'=c
   ·subst hcc;exact⟨_,hc'⟩
   ·obtain⟨w2,z2⟩:=I.cell y c' e;exact⟨w2,z2.sameBut hs hcc⟩
  ·obtain⟨e,n,ne,nf,d⟩:=I.pin p hp;refine⟨(hs.2 p.1 ?_).trans e,n,ne,nf,d⟩;intro q;rw[q,hoc] at e;have q':oc=p.2:=Option.some.inj e;exact d w' (by rw[<-q'];exact hocd)
def jk(I:Inv X Iv σ H s)(hN:X.N.Nodup)(hi:X.N[i]?=some x)(hx:Loc X.env.scope x)(r:aW v u)
  (h:∀s',Inv X Iv (σ.set i (some v)) H s'->Q () s') (hf:X.fn x=true\/X.env.scope.names.lookup x=some .local:=by first | exact .inl rfl | exact .inr rfl | assumption):wpAny M A (storeName X.env x u) Q E s :=
 wz I hN hi hx r (fun s' I' _=>h s' I') hf
def Inv.call'(I:Inv X Iv σ H s)(ho:s'.os=s.os)(u:Un (frs X.stack) ch H H' s.heap s'.heap)(hok:HOk X.prog X.w H' s'.heap)(hg:AllBare s'.gens)
  (hch:∀b∈ch,(b∈X.ex\/X.s₀.heap.objs.size<=b)/\b≠X.env.locals/\(∀x c,X.env.cells.lookup x=some c->c≠b)/\∀p∈X.pn++Iv,p.1≠b):Inv X Iv σ H' s':=by
 obtain⟨h',g',d',t',o'⟩:=s';have e:=ho;subst e;exact I.call (g':=g') (t':=t') (d':=d') u hok hg hch
end
abbrev XK:=Value->Option Addr->Hp->Prop
abbrev St:=List (Option V)
abbrev VK:=V->Hp->Prop
abbrev TE:=St->Hp->VK->Prop
abbrev TT:=St->Hp->(Bool->Hp->Prop)->Prop
abbrev TA:=St->Hp->(List V->Hp->Prop)->Prop
structure Ends where
 nx:St->Hp->Prop
 rt:VK
 bk:St->Hp->Prop:=fun _ _=>False
 ct:St->Hp->Prop:=fun _ _=>False
abbrev TS:=Ends->St->Hp->Prop
inductive EP (X:Cx) (Iv:List (Addr × Obj)) (σ:St) (Q:VK) (u:Value) (s':Shared):Prop
 | mk (v:V) (H':Hp) (i:Inv X Iv σ H' s') (r:aW v u) (q:Q v H'):EP X Iv σ Q u s'
inductive TP (X:Cx) (Iv:List (Addr × Obj)) (σ:St) (Q:Bool->Hp->Prop) (b:Bool) (s':Shared):Prop
 | mk (H':Hp) (i:Inv X Iv σ H' s') (q:Q b H'):TP X Iv σ Q b s'
inductive AP (X:Cx) (Iv:List (Addr × Obj)) (σ:St) (Q:List V->Hp->Prop) (us:List Value) (s':Shared):Prop
 | mk (vs:List V) (H':Hp) (i:Inv X Iv σ H' s') (r:aF vs us) (q:Q vs H'):AP X Iv σ Q us s'
inductive SN (X:Cx) (Iv:List (Addr × Obj)) (Q:St->Hp->Prop) (s':Shared):Prop
 | mk (σ':St) (H':Hp) (i:Inv X Iv σ' H' s') (q:Q σ' H'):SN X Iv Q s'
inductive SR (X:Cx) (Iv:List (Addr × Obj)) (Q:VK) (u:Value) (s':Shared):Prop
 | mk (v:V) (σ':St) (H':Hp) (i:Inv X Iv σ' H' s') (r:aW v u) (q:Q v H'):SR X Iv Q u s'
def SP(X:Cx)(Iv:List (Addr × Obj))(D:Ends)(f:Flow)(s':Shared):Prop :=
 match f with
 | .next=>SN X Iv D.nx s'
 | .brk=>SN X Iv D.bk s'
 | .cont=>SN X Iv D.ct s'
 | .ret u=>SR X Iv D.rt u s'
def PE(X:Cx)(e:Expr)(t:TE):Prop :=
 ∀(Iv:List (Addr × Obj)) (s:Shared) (σ:St) (H:Hp) (Q:VK),Inv X Iv σ H s->t σ H Q->wpAny (model X.prog X.w) X.A (eval e X.env) (EP X Iv σ Q) X.xe s
def PT(X:Cx)(e:Expr)(t:TT):Prop :=
 ∀(Iv:List (Addr × Obj)) (s:Shared) (σ:St) (H:Hp) (Q:Bool->Hp->Prop),Inv X Iv σ H s->t σ H Q->wpAny (model X.prog X.w) X.A (isTrue e X.env (eval e X.env)) (TP X Iv σ Q) X.xe s
def PW(X:Cx)(e:Expr)(t:TT):Prop :=
 ∀(whole:Sem Value) (Iv:List (Addr × Obj)) (s:Shared) (σ:St) (H:Hp) (Q:Bool->Hp->Prop),Inv X Iv σ H s->t σ H Q->wpAny (model X.prog X.w) X.A (isTrue e X.env whole) (TP X Iv σ Q) X.xe s
def PW.pt(h:PW X e t):PT X e t:=h _
def PA(X:Cx)(es:List Expr)(t:TA):Prop :=
 ∀(pos:Pos) (Iv:List (Addr × Obj)) (s:Shared) (σ:St) (H:Hp) (Q:List V->Hp->Prop),Inv X Iv σ H s->t σ H Q->wpAny (model X.prog X.w) X.A (spliced (backTo pos (starEach es X.env))) (AP X Iv σ Q) X.xe s
def PS(X:Cx)(st:Stmt)(t:TS):Prop :=
 ∀(Iv:List (Addr × Obj)) (s:Shared) (σ:St) (H:Hp) (D:Ends),Inv X Iv σ H s->t D σ H->wpAny (model X.prog X.w) X.A (exec st X.env) (SP X Iv D) X.xe s
def PSs(X:Cx)(st:List Stmt)(t:TS):Prop :=
 ∀(Iv:List (Addr × Obj)) (s:Shared) (σ:St) (H:Hp) (D:Ends),Inv X Iv σ H s->t D σ H->wpAny (model X.prog X.w) X.A (execs st X.env) (SP X Iv D) X.xe s
def thn(h:wpAny M A t Q E s)(hQ:∀a s,Q a s->Q' a s):wpAny M A t Q' E s:=wpAny_mono h hQ fun _ _ x=>x
section
variable {X:Cx}
def tVar(i:Nat):TE:=fun σ H Q=>∃v,σ[i]?=some (some v)/\Q v H
def tC(v:V):TE:=fun _ H Q=>Q v H
def pe_var{i:Nat}{x:Str}{pos:Pos}(hN:X.N[i]?=some x)(hv:Vis X.env.scope x)(hd:(x == ("__debug__":Str))=false:=by decide)(hcd:(x == ("__classdict__":Str))=false:=by decide):PE X (.Name x pos) (tVar i):=by
 intro Iv s σ H Q I h;obtain⟨v,e,h⟩:=h;obtain⟨m,hn,hl⟩:=I.loc;obtain⟨u,r,l⟩:=hl i x v hN e hv;have fin:EP X Iv σ Q u s:=⟨v,H,I,r,h⟩;rcases l with ⟨hk,hm⟩|⟨hk,c,hc,hcell⟩
 ·exact wpAny_Name (wpAny_loadName_local I.ok.kind hk hn hm fin) hd
 ·rcases hk with hk|hk
  ·exact wpAny_Name (wpAny_loadName_cell I.ok.kind hk hc hcell fin) hd
  ·exact wpAny_Name (wpAny_loadName_free I.ok.kind hk hc hcell fin hcd) hd
def pe_int{i j pos}:PE X (.Constant (.int i) j pos) (tC (.int i)):=fun _ _ _ H _ I h=>wpAny_Constant_int ⟨.int i,H,I.tok _,⟨_,rfl⟩,h⟩
def pe_bl{b j pos}:PE X (.Constant (.bool b) j pos) (tC (.bl b)):=fun _ _ _ H _ I h=>Constant_bool ⟨.bl b,H,I,rfl,h⟩
def pe_non{j pos}:PE X (.Constant .none j pos) (tC .non):=fun _ _ _ H _ I h=>Constant_none ⟨.non,H,I,rfl,h⟩
def pe_str{x j pos}:PE X (.Constant (.str x) j pos) (tC (.str x)):=fun _ _ _ H _ I h=>Calls.Constant_str ⟨.str x,H,I.tok _,⟨_,rfl⟩,h⟩
def Gl(X:Cx)(x:Str):Prop:=X.env.kindOf x=some .globalImplicit
def ld_glob{E:Value->Shared->Prop}{Iv:List (Addr × Obj)}{s:Shared}{σ:St}{H:Hp}{x:Str}{u:Value}{pos:Pos}{Q:Value->Shared->Prop}(I:Inv X Iv σ H s)(hg:Gl X x)(hm:X.mg x=some u)(h:Q u s)
  (hd:(x == ("__debug__":Str))=false:=by decide):wpAny (model X.prog X.w) X.A (eval (.Name x pos) X.env) Q E s :=
 Calls.Name_function_global I.ok.kind hg (Calls.loadGlobal_global (by rw[I.ok.glob];exact I.mod.glob.keeps I.bk) hm h) hd
def iK{E:Value->Shared->Prop}{Iv:List (Addr × Obj)}{s:Shared}{σ:St}{H:Hp}{x:Str}{u:Value}{pos:Pos}{Q:Value->Shared->Prop}(I:Inv X Iv σ H s)(hg:Gl X x)(hm:X.mg x=none)(hv:bootBuiltins x=some u)(h:Q u s)
  (hn:x≠"__name__":=by decide) (hd:(x == ("__debug__":Str))=false:=by decide):wpAny (model X.prog X.w) X.A (eval (.Name x pos) X.env) Q E s:=by
 obtain⟨mb,h1,h2⟩:=I.mod.blt;exact Calls.Name_function_global I.ok.kind hg (Calls.loadGlobal_builtin (by rw[I.ok.glob];exact I.mod.glob.keeps I.bk) hm (by rw[I.ok.blt];exact h1.keeps I.bk) ((h2 x hn).trans hv) h) hd
def pe_bltn{x:Str}{v:V}{u:Value}{pos:Pos}(hg:Gl X x)(hm:X.mg x=none)(hv:bootBuiltins x=some u)(r:aW v u)(hn:x≠"__name__":=by decide)(hd:(x == ("__debug__":Str))=false:=by decide):PE X (.Name x pos) (tC v) :=
 fun _ _ _ H _ I h=>iK I hg hm hv ⟨v,H,I,r,h⟩ hn hd
variable {a b:Expr} {ta tb:TE} {pos:Pos}
def tB(t:TE):TT:=fun σ H Q=>t σ H fun x H1=>∃c,x=.bl c/\Q c H1
def pt_val(h:PE X e t)(he:∀whole,isTrue e X.env whole=(do let v <-whole;standAt e.pos;holding [v] (truthy v)):=by intro _;rfl):PT X e (tB t):=by
 intro Iv s σ H Q I hw;refine isTrue_plain (thn (h Iv s σ H _ I hw) fun v s1 ⟨x,H1,I1,r1,q1⟩=>?_) (he _);obtain⟨d,rfl,q⟩:=q1;cases r1;exact wpAny_truthy_bool ⟨H1,I1,q⟩
variable {tA tB':TT} {rest:List Expr}
def tAnd(t u:TT):TT:=fun σ H Q=>t σ H fun c H1=>if c=true then u σ H1 Q else Q false H1
def tOr(t u:TT):TT:=fun σ H Q=>t σ H fun c H1=>if c=true then Q true H1 else u σ H1 Q
def tNot(t:TT):TT:=fun σ H Q=>t σ H fun c H1=>Q (!c) H1
def pw_and1(ha:PT X a tA):PW X (.BoolOp .And [a] pos) tA:=by
 intro wh Iv s σ H Q I h;refine isTrue_and (thn (ha Iv s σ H Q I h) fun c s1 e=>?_)
 cases c with
 | true=>exact isTrue_and_nil e
 | false=>exact e
def pw_or1(ha:PT X a tA):PW X (.BoolOp .Or [a] pos) tA:=by
 intro wh Iv s σ H Q I h;refine isTrue_or (thn (ha Iv s σ H Q I h) fun c s1 e=>?_)
 cases c with
 | false=>exact isTrue_or_nil e
 | true=>exact e
def pw_and(ha:PT X a tA)(hb:PW X (.BoolOp .And (b::rest) pos) tB'):PW X (.BoolOp .And (a::b::rest) pos) (tAnd tA tB'):=by
 intro wh Iv s σ H Q I h;refine isTrue_and (thn (ha Iv s σ H _ I h) fun c s1 ⟨H1,I1,q1⟩=>?_)
 cases c with
 | true=>exact hb wh Iv s1 σ H1 Q I1 q1
 | false=>exact⟨H1,I1,q1⟩
def pw_or(ha:PT X a tA)(hb:PW X (.BoolOp .Or (b::rest) pos) tB'):PW X (.BoolOp .Or (a::b::rest) pos) (tOr tA tB'):=by
 intro wh Iv s σ H Q I h;refine isTrue_or (thn (ha Iv s σ H _ I h) fun c s1 ⟨H1,I1,q1⟩=>?_)
 cases c with
 | true=>exact⟨H1,I1,q1⟩
 | false=>exact hb wh Iv s1 σ H1 Q I1 q1
def pt_not(ha:PT X a tA):PT X (.UnaryOp .Not a pos) (tNot tA):=by
 intro Iv s σ H Q I h;exact isTrue_not (thn (ha Iv s σ H (fun c H1=>Q (!c) H1) I h) fun _ _ ⟨H1,I1,q⟩=>⟨H1,I1,q⟩)
def tAndV(ta tb:TE):TE:=fun σ H Q=>ta σ H fun x H1=>∃c,x=.bl c/\if c=true then tb σ H1 Q else Q (.bl false) H1
def tNotV(ta:TE):TE:=fun σ H Q=>ta σ H fun x H1=>∃c,x=.bl c/\Q (.bl (!c)) H1
def pe_one{op}(h:PE X a t):PE X (.BoolOp op [a] pos) t:=fun Iv s σ H Q I hw=>BoolOp_one (h Iv s σ H Q I hw)
def pe_and(ha:PE X a ta)(hb:PE X (.BoolOp .And (b::rest) pos) tb):PE X (.BoolOp .And (a::b::rest) pos) (tAndV ta tb):=by
 intro Iv s σ H Q I h;refine BoolOp_and (thn (ha Iv s σ H _ I h) fun v s1 ⟨x,H1,I1,r1,q1⟩=>?_);obtain⟨c,rfl,q1⟩:=q1;cases r1;refine wpAny_truthy_bool ?_
 cases c with
 | true=>exact hb Iv s1 σ H1 Q I1 q1
 | false=>exact⟨.bl false,H1,I1,rfl,q1⟩
def pe_not(ha:PE X a ta):PE X (.UnaryOp .Not a pos) (tNotV ta):=by
 intro Iv s σ H Q I h;refine UnaryOp_ (thn (ha Iv s σ H _ I h) fun v s1 ⟨x,H1,I1,r1,q1⟩=>?_);obtain⟨c,rfl,q1⟩:=q1;cases r1;exact not_of (wpAny_truthy_bool ⟨.bl (!c),H1,I1,rfl,q1⟩)
end
def SqL(K:qaa)(H:Hp)(a:Addr)(xs:List V):Prop :=
 Rd H a (.lst xs) \/
  ∃(o:Obj) (its:Array Value) (n:Nat),K.lookup a=some o/\o.cls=.type "list"/\o.dict=none/\o.data=.seq its n/\its.size<=sizeLine/\aF xs its.toList
def SqT(K:qaa)(H:Hp)(a:Addr)(xs:List V):Prop :=
 Rd H a (.tup xs) \/
  ∃(o:Obj) (its:Array Value) (n:Nat),K.lookup a=some o/\o.cls=.type "tuple"/\(o.data=.seq its n/\o.dict=none)/\its.size<=sizeLine/\aF xs its.toList
def absV:Value->Option V
 | .none=>some .non
 | .bool b=>some (.bl b)
 | .int i _=>some (.int i)
 | .str x _=>some (.str x)
 | .bytes b _=>some (.byt b)
 | .float b _=>some (.flt b)
 | .ref a=>some (.ref a)
 | .type n=>some (.ty n)
 | _=>none
def aW.abs(r:aW x u):absV u=some x:=by
 cases x with
 | non=>cases r;rfl
 | bl _=>cases r;rfl
 | int _=>obtain⟨t,rfl⟩:=r;rfl
 | str _=>obtain⟨t,rfl⟩:=r;rfl
 | byt _=>obtain⟨t,rfl⟩:=r;rfl
 | flt _=>obtain⟨t,rfl⟩:=r;rfl
 | ref _=>cases r;rfl
 | ty _=>cases r;rfl
def aW.inj(r:aW x u)(q:aW y u):x=y:=Option.some.inj (r.abs.symm.trans q.abs)
def aF.inj(r:aF xs us)(q:aF ys us):xs=ys:=by
 induction r generalizing ys with
 | nil=>cases q;rfl
 | cons r t ih=>cases q with | cons r' t'=>rw[r.inj r',ih t']
section
variable {X:Cx} {Iv:List (Addr × Obj)} {σ:St} {H:Hp} {s:Shared} {a:Addr} {xs ys:List V}
def SqL.of{K:qaa}(h:H a=some (.lst xs)):SqL K H a xs:=.inl (.inl h)
def SqT.of{K:qaa}(h:H a=some (.tup xs)):SqT K H a xs:=.inl (.inl h)
def Inv.list(I:Inv X Iv σ H s)(h:SqL X.K H a xs):∃its:List Value,aF xs its/\PlainL s.heap a its.toArray/\xs.length<=sizeLine:=by
 rcases h with h|⟨o,its,n,hk,hc,hd,hs,hz,r⟩
 ·obtain⟨z,its,n,r,e⟩:=h.ok I.hok;exact⟨its,r,⟨_,n,e,rfl,rfl,rfl⟩,z⟩
 ·refine⟨its.toList,r,⟨o,n,I.kIn a o hk,hc,hd,by simpa using hs⟩,?_⟩;have e:=r.length
  grind
def Inv.tupleN(I:Inv X Iv σ H s)(h:SqT X.K H a xs):∃its:List Value,aF xs its/\gT s.heap a its.toArray/\xs.length<=sizeLine:=by
 rcases h with h|⟨o,its,n,hk,hc,hs,hz,r⟩
 ·obtain⟨z,its,r,p⟩:=h.ok I.hok;exact⟨its,r,p,z⟩
 ·refine⟨its.toList,r,⟨o,I.kIn a o hk,hc,⟨n,by simpa using hs.1⟩,hs.2⟩,?_⟩;have e:=r.length
  grind
def Inv.tuple(I:Inv X Iv σ H s)(h:SqT X.K H a xs):∃its:List Value,aF xs its/\IsTup s.heap a its.toArray/\xs.length<=sizeLine :=
 let ⟨its,r,p,z⟩:=I.tupleN h
 ⟨its,r,p.tup,z⟩
def Inv.list_inj(I:Inv X Iv σ H s)(h:SqL X.K H a xs)(h':SqL X.K H a ys):xs=ys:=by
 obtain⟨its,r,⟨o,n,e,_,_,d⟩,_⟩:=I.list h;obtain⟨its',r',⟨o',n',e',_,_,d'⟩,_⟩:=I.list h';rw[e] at e';cases e';rw[d] at d';injection d' with d1 _
 have:its=its':=by simpa using congrArg Array.toList d1
 subst this;exact r.inj r'
def Inv.tuple_inj(I:Inv X Iv σ H s)(h:SqT X.K H a xs)(h':SqT X.K H a ys):xs=ys:=by
 obtain⟨its,r,⟨o,e,_,n,d⟩,_⟩:=I.tuple h;obtain⟨its',r',⟨o',e',_,n',d'⟩,_⟩:=I.tuple h';rw[e] at e';cases e';rw[d] at d';injection d' with d1 _
 have:its=its':=by simpa using congrArg Array.toList d1
 subst this;exact r.inj r'
end
section
variable {X:Cx} {Iv:List (Addr × Obj)} {σ:St} {H:Hp} {s:Shared} {E:Value→Shared→Prop}
end
section
variable {X:Cx} {st:Stmt} {rest:List Stmt} {t u:TS} {e:Expr} {te:TE} {pos:Pos}
def tNext:TS:=fun D σ H=>D.nx σ H
def tSeq(t u:TS):TS:=fun D σ H=>t { D with nx:=u D} σ H
def pss_nil:PSs X [] tNext:=fun _ _ σ H _ I h=>wpAny_execs_nil ⟨σ,H,I,h⟩
def xT(h1:PS X st t)(h2:PSs X rest u):PSs X (st::rest) (tSeq t u):=by
 intro Iv s σ H D I h;refine wpAny_execs_cons (thn (h1 Iv s σ H { D with nx:=u D} I h) fun f s1 q=>?_)
 cases f with
 | next =>
  obtain⟨σ',H',I',q⟩:=q;exact h2 Iv s1 σ' H' D I' q
 | ret v=>exact q
 | brk=>exact q
 | cont=>exact q
def pss_one(h1:PS X st t):PSs X [st] t:=by
 intro Iv s σ H D I h;refine wpAny_execs_cons (thn (h1 Iv s σ H D I h) fun f s1 q=>?_)
 cases f with
 | next=>exact wpAny_execs_nil q
 | ret v=>exact q
 | brk=>exact q
 | cont=>exact q
def Inv.quiet{Iv:List (Addr × Obj)}{σ:St}{H:Hp}{s:Shared}(I:Inv X Iv σ H s):interactive X.env=false:=by simp[interactive,I.ok.kind]
def tDrop(te:TE):TS:=fun D σ H=>te σ H fun _ H1=>D.nx σ H1
def ps_expr(he:PE X e te)(hs:swapsWith e none pos.line X.env=pure false:=by rfl):PS X (.Expr e pos) (tDrop te):=by
 intro Iv s σ H D I h;exact wpAny_Expr_any (thn (he Iv s σ H _ I h) fun v s1 ⟨x,H1,I1,r1,q1⟩=>⟨σ,H1,I1,q1⟩) I.quiet hs
def tRet(te:TE):TS:=fun D σ H=>te σ H D.rt
def ps_ret(he:PE X e te):PS X (.Return (some e) pos) (tRet te):=by
 intro Iv s σ H D I h;exact wpAny_Return_some (thn (he Iv s σ H _ I h) fun v s1 ⟨x,H1,I1,r1,q1⟩=>⟨x,σ,H1,I1,r1,q1⟩)
def tIfS(c:TT)(t u:TS):TS:=fun D σ H=>c σ H fun b H1=>if b=true then t D σ H1 else u D σ H1
def ps_if(hc:PT X c tc)(ha:PSs X a t)(hb:PSs X b u):PS X (.If c a b pos) (tIfS tc t u):=by
 intro Iv s σ H D I h;refine wpAny_If (thn (hc Iv s σ H _ I h) fun d s1 ⟨H1,I1,q1⟩=>?_)
 cases d with
 | true=>exact ha Iv s1 σ H1 D I1 q1
 | false=>exact hb Iv s1 σ H1 D I1 q1
end
abbrev TG:=V->St->Hp->(St->Hp->Prop)->Prop
abbrev TGs:=List V->St->Hp->(St->Hp->Prop)->Prop
def PG(X:Cx)(target:Expr)(t:TG):Prop :=
 ∀(Iv:List (Addr × Obj)) (s:Shared) (σ:St) (H:Hp) (v:V) (u:Value) (Q:St->Hp->Prop),Inv X Iv σ H s->aW v u->t v σ H Q ->
  wpAny (model X.prog X.w) X.A (assign target X.env u) (fun _ s'=>SN X Iv Q s') X.xe s
def PGs(X:Cx)(ts:List Expr)(t:TGs):Prop :=
 ∀(Iv:List (Addr × Obj)) (s:Shared) (σ:St) (H:Hp) (vs:List V) (us:List Value) (Q:St->Hp->Prop),Inv X Iv σ H s->aF vs us->t vs σ H Q ->
  wpAny (model X.prog X.w) X.A (assignInOrder ((assignEach ts X.env).map (·.2)) us) (fun _ s'=>SN X Iv Q s') X.xe s
abbrev dq:=V->V->V->Hp->(Hp->Prop)->Prop
inductive SE (X:Cx) (Iv:List (Addr × Obj)) (σ:St) (Q:Hp->Prop) (s':Shared):Prop
 | mk (H':Hp) (i:Inv X Iv σ H' s') (q:Q H'):SE X Iv σ Q s'
def PSet(X:Cx)(t:dq):Prop :=
 ∀(Iv:List (Addr × Obj)) (s:Shared) (σ:St) (H:Hp) (o i v:V) (ov iv u:Value) (Q:Hp->Prop),Inv X Iv σ H s->aW o ov->aW i iv->aW v u->t o i v H Q ->
  wpAny (model X.prog X.w) X.A (setItem ov iv u) (fun _ s'=>SE X Iv σ Q s') X.xe s
section
variable {X:Cx} {pos:Pos}
def gName(i:Nat):TG:=fun v σ H Q=>Q (σ.set i (some v)) H
def pg_name(hN:X.N.Nodup)(hi:X.N[i]?=some x)(hx:Loc X.env.scope x)(hf:X.fn x=true\/X.env.scope.names.lookup x=some .local:=by first | exact .inl rfl | exact .inr rfl | assumption):PG X (.Name x pos) (gName i):=by
 intro Iv s σ H v u Q I r h;exact wpAny_assign_Name (jk I hN hi hx r (fun s' I'=>⟨_,H,I',h⟩) hf)
def gNil:TGs:=fun vs σ H Q=>vs=[]/\Q σ H
def gCons(t:TG)(u:TGs):TGs:=fun vs σ H Q=>∃v r,vs=v::r/\t v σ H fun σ' H'=>u r σ' H' Q
def pgs_nil:PGs X [] gNil:=by
 intro Iv s σ H vs us Q I r h;obtain⟨e,h⟩:=h;subst e;cases r;exact assignInOrder_nil ⟨σ,H,I,h⟩
def yJ(h1:PG X e t)(h2:PGs X es u)
  (hs:(assignEach (e::es) X.env).map (·.2)=assign e X.env::(assignEach es X.env).map (·.2):=by rfl):PGs X (e::es) (gCons t u):=by
 intro Iv s σ H vs us Q I r h;obtain⟨v,vr,e1,h⟩:=h;subst e1
 cases r with
 | cons r rr =>
  rw[hs];refine assignInOrder_cons (thn (h1 Iv s σ H _ _ _ I r h) fun _ s1 ⟨σ1,H1,I1,q1⟩=>?_);exact h2 Iv s1 σ1 H1 _ _ Q I1 rr q1
def gTup(K:qaa)(n:Nat)(t:TGs):TG:=fun v σ H Q=>∃a xs,v=.ref a/\SqT K H a xs/\xs.length=n/\t xs σ H Q
def pg_tup{es:List Expr}{k:Nat}{t:TGs}{n:Nat}(hc:X.calm=true)(h:PGs X es t)
  (hn:(assignEach es X.env).length=n:=by rfl) (hst:(assignEach es X.env).findIdx? (·.1)=none:=by rfl):PG X (.Tuple es k pos) (gTup X.K n t):=by
 intro Iv s σ H v u Q I r hw;obtain⟨a,xs,e1,hq,hl,hw⟩:=hw;subst e1;cases r;obtain⟨its,rv,ht,hz⟩:=I.tuple hq;refine assign_Tuple_tuple (I.ok.hd hc) ht (by simp[hn,<-hl,rv.length]) hst fun h' hx=>?_;have I1:=I.kept (t':=s.toks) fun b o e=>hx b o (qaJ (qas e)) e;exact h Iv _ σ H xs _ Q I1 (by simpa using rv) hw
def gSub(to ti:TE)(t:dq):TG:=fun v σ H Q=>to σ H fun o H1=>ti σ H1 fun i H2=>t o i v H2 fun H3=>Q σ H3
def pg_sub(ho:PE X o to)(hi:PE X i ti)(hs:PSet X t)
  (ha:∀v,assign (.Subscript o i pos) X.env v=(do
   let ov <-holding [v] (eval o X.env)
   let iv <-holding [v,ov] (eval i X.env)
   standAt pos
   holding [v,ov,iv] (setItem ov iv v)
   release [v,ov,iv] []):=by intro _;rfl):PG X (.Subscript o i pos) (gSub to ti t):=by
 intro Iv s σ H v u Q I r h;refine qab (wpAny_holding (thn (ho Iv s σ H _ I h) fun ov s1 ⟨x,H1,I1,r1,q1⟩=>?_));refine qab (wpAny_holding (thn (hi Iv s1 σ H1 _ I1 q1) fun iv s2 ⟨y,H2,I2,r2,q2⟩=>?_));refine qab (wpAny_standAt (qab (wpAny_holding (thn (hs Iv s2 σ H2 x y v ov iv u _ I2 r1 r2 r q2) fun _ s3 ⟨H3,I3,q3⟩=>?_))));exact wpAny_release ⟨σ,H3,I3,q3⟩
def tAsg(te:TE)(g:TG):TS:=fun D σ H=>te σ H fun x H1=>g x σ H1 D.nx
def ps_asg(he:PE X e te)(hg:PG X tg g)(hs:swapsWithSole [tg] e pos.line X.env=pure false:=by rfl)(hw:swappedStores [tg] e X.env=pure none:=by rfl)
  (h1:(assignEach [tg] X.env).map (·.2)=[assign tg X.env]:=by rfl):PS X (.Assign [tg] e pos) (tAsg te g):=by
 intro Iv s σ H D I h;refine wpAny_Assign_stores (thn (he Iv s σ H _ I h) fun v s1 ⟨x,H1,I1,r1,q1⟩=>?_) hs hw;rw[h1];exact thn (hg Iv s1 σ H1 x v _ I1 r1 q1) fun _ s2 q=>q
def ps_set(hN:X.N.Nodup)(hi:X.N[i]?=some x)(hx:Loc X.env.scope x)(he:PE X e te)(hs:swapsWith e (some (.Name x pos')) pos.line X.env=pure false:=by rfl)(hf:X.fn x=true\/X.env.scope.names.lookup x=some .local:=by first | exact .inl rfl | exact .inr rfl | assumption) :
  PS X (.Assign [.Name x pos'] e pos) (tAsg te (gName i)):=by
 intro Iv s σ H D I h;refine wpAny_Assign_Name (thn (he Iv s σ H _ I h) fun v s1 ⟨y,H1,I1,r1,q1⟩=>?_) hs;exact jk I1 hN hi hx r1 (fun s2 I2=>⟨_,H1,I2,q1⟩) hf
def tPar(i j:Nat)(ta:TA):TS:=fun D σ H=>ta σ H fun vs H1=>∃v w,vs=[v,w]/\D.nx ((σ.set i (some v)).set j (some w)) H1
def ps_par{kt k2 pt2}(hc:X.calm=true)(hN:X.N.Nodup)(hi:X.N[i]?=some x)(hj:X.N[j]?=some y)(hij:i≠j)
  (hx:X.env.scope.names.lookup x=some .local) (hy:X.env.scope.names.lookup y=some .local) (ha:PA X [a,b] ta)
  (hw:swappedStores [.Tuple [.Name x px,.Name y py] kt pt] (.Tuple [a,b] k2 pt2) X.env=pure (some [x,y]))
  (hs:swapsWithSole [.Tuple [.Name x px,.Name y py] kt pt] (.Tuple [a,b] k2 pt2) pos.line X.env=pure false:=by rfl) :
  PS X (.Assign [.Tuple [.Name x px,.Name y py] kt pt] (.Tuple [a,b] k2 pt2) pos) (tPar i j ta):=by
 intro Iv s σ H D I h;refine qab (wpAny_standAt ?_);refine qab (qak ?_);refine qab (Tuple_ (thn (ha _ Iv s σ H _ I h) fun us s1 ⟨vs,H1,I1,r1,q1⟩=>?_));obtain⟨v,w,e1,q1⟩:=q1;subst e1;obtain⟨u1,u2,rfl,rv,rw'⟩:∃u1 u2,us=[u1,u2]/\aW v u1/\aW w u2:=by
  cases r1 with
  | cons p q =>
   cases q with
   | cons p' q' =>
    cases q';exact⟨_,_,rfl,p,p'⟩
 refine wpAny_newObj_type ?_ (by show 2<=sizeLine;decide);have I2:Inv X Iv σ H1 { s1 with heap:=s1.heap.push { cls:=.type "tuple",data:=.seq [u1,u2].toArray}}:=I1.kept (t':=s1.toks) fun b o e=>qae _ e;rw[hw];show wpAny (model X.prog X.w) X.A (do rule "assign.swapped-stores";let items <-unpackItems (.ref s1.heap.objs.size) 2 none;assignInOrder [fun v=>bindName X.env y v,fun v=>bindName X.env x v] items.reverse;pure Flow.next) _ _ _;refine qab (wpAny_rule (qab (unpackItems_tuple (items:=#[u1,u2]) (I.ok.hd hc) (IsTup.new s1.heap _) fun h' hx'=>?_)));have I3:=I2.kept (h':=h') (t':=s1.toks) fun b o e=>hx' b o (qaJ (qas e)) e;refine qab (assignInOrder_cons (wpAny_bindName (jk I3 hN hj (.inl hy) rw' (fun s2 I4=>?_) (.inr hy))));refine assignInOrder_cons (wpAny_bindName (jk I4 hN hi (.inl hx) rv (fun s3 I5=>assignInOrder_nil (qak ?_)) (.inr hx)));rw[List.set_comm _ _ (Ne.symm hij)] at I5;exact⟨_,H1,I5,q1⟩
end
structure It where
 go:Nat->Hp->Prop
 yld:Nat->Hp->V->Hp->Prop
 stop:Nat->Hp->Prop
def ip(X:Cx)(Iv:List (Addr × Obj))(H:Hp)(b:Addr):Prop :=
 H b=none/\b≠X.env.locals/\b∉X.fs/\(b∈X.ex\/X.s₀.heap.objs.size<=b)/\(∀x c,X.env.cells.lookup x=some c->c≠b)/\∀p∈X.pn++Iv,p.1≠b
def Inv.fpOk{X:Cx}{Iv:List (Addr × Obj)}{σ:St}{H H':Hp}{s:Shared}{b:Addr}(I:Inv X Iv σ H s)(hb:s.heap.objs.size<=b)(hn:H' b=none):ip X Iv H' b:=by
 refine⟨hn,qbE (qaB I.lt hb),I.nofs hb,.inr (qaE I.sz hb),fun x c e z=>?_,fun p hp z=>?_⟩
 ·obtain⟨v,q⟩:=I.cell x c e;exact absurd (qaB q.lt (by rw[z];exact hb)) (qaU _)
 ·exact absurd (qaB (qas (I.pin p hp).1) (by rw[z];exact hb)) (qaU _)
inductive TIt (X:Cx) (Iv:List (Addr × Obj)) (σ:St) (u:Value) (Y:V->Hp->Prop) (n:Heap->Prop) (fp:List Addr) (s2:Shared):Prop
 | mk (x:V) (H':Hp) (i:Inv X Iv σ H' s2) (r:aW x u) (y:Y x H') (t:n s2.heap) (f:∀b∈fp,H' b=none):TIt X Iv σ u Y n fp s2
structure Turn (P:Program) (w:World) (K:qaa) (tg:Expr) (J:It) (fp:List Addr) (it:Addr) (tn:Nat->Heap->Prop):Prop where
 mem:it∈fp
 obj:∀i h,tn i h->∀b∈fp,∃o,h.get? b=some o/\∀v,o.data≠.cell v
 keep:∀i h h',tn i h->(∀b∈fp,∀o,h.get? b=some o->h'.get? b=some o)->tn i h'
 item:∀(X:Cx),X.prog=P->X.w=w->X.K=K->X.calm=true->∀(i:Nat) (Iv:List (Addr × Obj)) (s:Shared) (σ:St) (H:Hp) (E:Value->Shared->Prop),Inv X Iv σ H s->(∀b∈fp,ip X Iv H b)->tn i s.heap->J.go i H ->
  wpAny (model P w) X.A (pyNext (.ref it)) (fun r s1=>∃u,r=some u /\
   wpAny (model P w) X.A (letOwnedTupleGo tg (.ref it) u) (fun _ s2=>TIt X Iv σ u (J.yld i H) (tn (i+1)) fp s2) E s1) E s
 done:∀(X:Cx),X.prog=P->X.w=w->X.K=K->X.calm=true->∀(i:Nat) (Iv:List (Addr × Obj)) (s:Shared) (σ:St) (H:Hp) (E:Value->Shared->Prop),Inv X Iv σ H s->(∀b∈fp,ip X Iv H b)->tn i s.heap->J.stop i H ->
  wpAny (model P w) X.A (pyNext (.ref it)) (fun r s1=>r=none/\Inv X Iv σ H s1) E s
 self:∀(A:Around) (i:Nat) (s:Shared) (Q:Value->Shared->Prop) (E:Value->Shared->Prop),tn i s.heap->Q (.ref it) s->wpAny (model P w) A (pyIter (.ref it)) Q E s
abbrev TI:=St->Hp->(It->Hp->Prop)->Prop
inductive PIE (X:Cx) (Iv:List (Addr × Obj)) (σ:St) (tg:Expr) (R:It->Hp->Prop) (itv:Value) (s2:Shared):Prop
 | mk (it:Addr) (fp:List Addr) (tn:Nat->Heap->Prop) (J:It) (H':Hp) (e:itv=.ref it) (i:Inv X Iv σ H' s2) (t:Turn X.prog X.w X.K tg J fp it tn) (n:tn 0 s2.heap) (f:∀b∈fp,ip X Iv H' b) (r:R J H'):PIE X Iv σ tg R itv s2
def PI(X:Cx)(tg iter:Expr)(wi:TI):Prop :=
 ∀(Iv:List (Addr × Obj)) (s:Shared) (σ:St) (H:Hp) (R:It->Hp->Prop),Inv X Iv σ H s->wi σ H R ->
  wpAny (model X.prog X.w) X.A (eval iter X.env) (fun v s1=>wpAny (model X.prog X.w) X.A (pyIter v) (PIE X Iv σ tg R) X.xe s1) X.xe s
def uw(ho:s.heap.get? it=some o)(hc:o.cls=.type n)(hd:o.data=.fields vs)
  (hn:["enumerate","zip","dict_itemiterator","dict_reverseitemiterator","odict_iterator","itertools.zip_longest","itertools.pairwise"].contains n=false) (hQ:Q () s):wpAny M A (letOwnedTupleGo tg (.ref it) u) Q E s:=by
 cases tg <;> first
  | exact qak hQ
  | (cases u <;> first
    | exact qak hQ
    | (refine qab (wpAny_load ho ?_)
       rw[hc,hd];show wpAny M A (if (["enumerate","zip","dict_itemiterator","dict_reverseitemiterator","odict_iterator","itertools.zip_longest","itertools.pairwise"].contains n && vs[0]? == some (rawInt _))=true then _ else _) Q E s;rw[qao (by intro h;rw[hn] at h;cases h)]
       exact qak hQ))
def Itl(K:qaa)(a:Addr):It :=
 ⟨fun i H=>∃xs x,SqL K H a xs/\xs[i]?=some x,fun i H x H'=>H'=H/\∀xs,SqL K H a xs->xs[i]?=some x,fun i H=>∃xs,SqL K H a xs/\xs.length<=i⟩
def Itt(K:qaa)(a:Addr):It :=
 ⟨fun i H=>∃xs x,SqT K H a xs/\xs[i]?=some x,fun i H x H'=>H'=H/\∀xs,SqT K H a xs->xs[i]?=some x,fun i H=>∃xs,SqT K H a xs/\xs.length<=i⟩
def Itr(lo:Int)(n:Nat):It:=⟨fun i _=>i<n,fun i H x H'=>H'=H/\x=.int (lo+i),fun i _=>n<=i⟩
def vp{P:Program}{w:World}{K:qaa}{tg:Expr}(a it:Addr):Turn P w K tg (Itl K a) [it] it (fun i h=>h.IsListIter it a i) where
 mem:=by simp
 obj:=fun i h st b hb=>by
  have e:b=it:=by simpa using hb
  subst e;obtain⟨o,e,c,d⟩:=st;exact⟨o,e,fun v z=>by rw[d] at z;cases z⟩
 keep:=fun i h h' st k=>st.at fun o e=>k it (by simp) o e
 item:=by
  intro X hP hw hK hc i Iv s σ H E I hf st hg;subst hP hw hK;obtain⟨xs,x,hq,hx⟩:=hg;obtain⟨its,rv,p,hz⟩:=I.list hq;obtain⟨u,hu,ru⟩:=rv.get hx;obtain⟨f0,f1,f2,f3,f4,f5⟩:=hf it (by simp);refine wpAny_pyNext_list_item st p.isList (by simpa using hu) fun h' st' sb=>?_;have I1:=I.turned (t':=s.toks) (fun b o hb e=>(sb.2 b hb).trans e) f0 f1 f3 f4 f5;obtain⟨o,e,c,d⟩:=id st';exact⟨u,rfl,uw e c d (by decide) ⟨x,H,I1,ru,⟨rfl,fun ys hy=>by rw[I.list_inj hy hq];exact hx⟩,st',fun b hb=>(hf b hb).1⟩⟩
 done:=by
  intro X hP hw hK hc i Iv s σ H E I hf st hg;subst hP hw hK;obtain⟨xs,hq,hx⟩:=hg;obtain⟨its,rv,p,hz⟩:=I.list hq;obtain⟨f0,f1,f2,f3,f4,f5⟩:=hf it (by simp);have hl:=rv.length;exact wpAny_pyNext_list_end (I.ok.hd hc) st p.isList (by simp;ext) fun h' eb=>⟨rfl,I.turned (t':=s.toks) (fun b o hb e=>eb b o hb e) f0 f1 f3 f4 f5⟩
 self:=fun _ _ _ _ _ st h=>wpAny_pyIter_listiter st h
def uP{P:Program}{w:World}{K:qaa}{tg:Expr}(a it:Addr):Turn P w K tg (Itt K a) [it] it (fun i h=>h.IsTupleIter it a i) where
 mem:=by simp
 obj:=fun i h st b hb=>by
  have e:b=it:=by simpa using hb
  subst e;obtain⟨o,e,c,d⟩:=st;exact⟨o,e,fun v z=>by rw[d] at z;cases z⟩
 keep:=fun i h h' st k=>st.at fun o e=>k it (by simp) o e
 item:=by
  intro X hP hw hK hc i Iv s σ H E I hf st hg;subst hP hw hK;obtain⟨xs,x,hq,hx⟩:=hg;obtain⟨its,rv,p,hz⟩:=I.tuple hq;obtain⟨u,hu,ru⟩:=rv.get hx;obtain⟨f0,f1,f2,f3,f4,f5⟩:=hf it (by simp);refine wpAny_pyNext_tuple_item st (p) (by simpa using hu) fun h' st' sb=>?_;have I1:=I.turned (t':=s.toks) (fun b o hb e=>(sb.2 b hb).trans e) f0 f1 f3 f4 f5;obtain⟨o,e,c,d⟩:=id st';exact⟨u,rfl,uw e c d (by decide) ⟨x,H,I1,ru,⟨rfl,fun ys hy=>by rw[I.tuple_inj hy hq];exact hx⟩,st',fun b hb=>(hf b hb).1⟩⟩
 done:=by
  intro X hP hw hK hc i Iv s σ H E I hf st hg;subst hP hw hK;obtain⟨xs,hq,hx⟩:=hg;obtain⟨its,rv,p,hz⟩:=I.tuple hq;obtain⟨f0,f1,f2,f3,f4,f5⟩:=hf it (by simp);have hl:=rv.length;exact wpAny_pyNext_tuple_end (I.ok.hd hc) st (p) (by simp;ext) fun h' eb=>⟨rfl,I.turned (t':=s.toks) (fun b o hb e=>eb b o hb e) f0 f1 f3 f4 f5⟩
 self:=fun _ _ _ _ _ st h=>wpAny_pyIter_tupleiter st h
def uu{P:Program}{w:World}{K:qaa}{tg:Expr}(it:Addr)(lo:Int)(n:Nat):Turn P w K tg (Itr lo n) [it] it (fun i h=>IsRangeIter h it (lo+(i:Nat) * 1) ((n:Int) - (i:Nat)) 1) where
 mem:=by simp
 obj:=fun i h st b hb=>by
  have e:b=it:=by simpa using hb
  subst e
  exact⟨_,st,fun v z=>by
   have z':=z
   cases z'⟩
 keep:=fun i h h' st k=>k it (by simp) _ st
 item:=by
  intro X hP hw hK hc i Iv s σ H E I hf st hg;subst hP hw hK;obtain⟨f0,f1,f2,f3,f4,f5⟩:=hf it (by simp);have W:=Walks.range (prog:=X.prog) (w:=X.w) (I.ok.hd hc) it lo 1 n;refine W.item i s _ _ hg st fun v h' tk hv st' kk=>?_;obtain⟨t,rfl⟩:=hv;have I1:Inv X Iv σ H { s with heap:=h',toks:=tk}:=I.turned (fun b o hb e=>kk b o (by simpa using hb) e) f0 f1 f3 f4 f5;refine⟨_,rfl,uw st' rfl rfl (by decide) ⟨.int (lo+i),H,I1,⟨t,?_⟩,⟨rfl,rfl⟩,st',fun b hb=>(hf b hb).1⟩⟩;rw[Int.mul_one]
 done:=by
  intro X hP hw hK hc i Iv s σ H E I hf st hg;obtain⟨f0,f1,f2,f3,f4,f5⟩:=hf it (by simp);exact wpAny_pyNext_range_end (I.ok.hd hc) st (by have:n<=i:=hg;ext) fun h' eb=>⟨rfl,I.turned (t':=s.toks) (fun b o hb e=>eb b o hb e) f0 f1 f3 f4 f5⟩
 self:=fun _ _ _ _ _ st h=>wpAny_pyIter_rangeiter st h
section
variable {X:Cx} {tg:Expr}
def iList(K:qaa)(tl:TE):TI:=fun σ H R=>tl σ H fun x H1=>∃a,x=.ref a/\(∃xs,SqL K H1 a xs)/\R (Itl K a) H1
def iTup(K:qaa)(tl:TE):TI:=fun σ H R=>tl σ H fun x H1=>∃a,x=.ref a/\(∃xs,SqT K H1 a xs)/\R (Itt K a) H1
def pi_list{l:Expr}{tl:TE}(hl:PE X l tl):PI X tg l (iList X.K tl):=by
 intro Iv s σ H R I h;refine thn (hl Iv s σ H _ I h) fun v s1 ⟨x,H1,I1,r1,q1⟩=>?_;obtain⟨a,e,⟨xs,hq⟩,q⟩:=q1;subst e;cases r1;obtain⟨its,rv,p,hz⟩:=I1.list hq;refine wpAny_pyIter_list p.isList ?_;refine⟨s1.heap.objs.size,[s1.heap.objs.size],_,_,H1,rfl,I1.kept (t':=s1.toks) fun b o e=>qae _ e,vp a _,⟨_,qaz _ rfl,rfl,rfl⟩,fun b hb=>?_,q⟩;have e:b=s1.heap.objs.size:=by simpa using hb
 subst e;exact I1.fpOk (qah _) (I1.hok.fresh (qah _))
def pi_tup{l:Expr}{tl:TE}(hl:PE X l tl):PI X tg l (iTup X.K tl):=by
 intro Iv s σ H R I h;refine thn (hl Iv s σ H _ I h) fun v s1 ⟨x,H1,I1,r1,q1⟩=>?_;obtain⟨a,e,⟨xs,hq⟩,q⟩:=q1;subst e;cases r1;obtain⟨its,rv,p,hz⟩:=I1.tuple hq;refine wpAny_pyIter_tuple (p) ?_;refine⟨s1.heap.objs.size,[s1.heap.objs.size],_,_,H1,rfl,I1.kept (t':=s1.toks) fun b o e=>qae _ e,uP a _,⟨_,qaz _ rfl,rfl,rfl⟩,fun b hb=>?_,q⟩;have e:b=s1.heap.objs.size:=by simpa using hb
 subst e;exact I1.fpOk (qah _) (I1.hok.fresh (qah _))
def qz{Iv:List (Addr × Obj)}{σ:St}{H:Hp}{s:Shared}{R:It->Hp->Prop}{E:Value->Shared->Prop}{lo hi:Int}{t u v:Tok}{tk:Nat}(I:Inv X Iv σ H s)(h1:-(2 ^ 62)<=lo)(h2:lo<2 ^ 62)(h3:-(2 ^ 62)<=hi)(h4:hi<2 ^ 62)
  (q:R (Itr lo (hi - lo).toNat) H):wpAny (model X.prog X.w) X.A (pyIter (.ref s.heap.objs.size)) (PIE X Iv σ tg R) E { s with heap:=s.heap.push { cls:=.type "range",data:=.fields #[.int lo t,.int hi u,.int 1 v]},toks:=tk}:=by
 refine wpAny_pyIter_range (IsRange.new ..) (small_one h1 h2 h3 h4) ?_;have I1:Inv X Iv σ H { s with heap:=s.heap.push { cls:=.type "range",data:=.fields #[.int lo t,.int hi u,.int 1 v]},toks:=tk}:=I.kept fun b o e=>qae _ e
 refine⟨(s.heap.push { cls:=.type "range",data:=.fields #[.int lo t,.int hi u,.int 1 v]}).objs.size,[(s.heap.push { cls:=.type "range",data:=.fields #[.int lo t,.int hi u,.int 1 v]}).objs.size],_,_,H,rfl,
  I1.kept (t':=tk) fun b o e=>qae _ e,uu _ lo (hi - lo).toNat,?_,fun b hb=>?_,q⟩
 ·have e1:lo+((0:Nat):Int) * 1=lo:=by simp
  have e2:(((hi - lo).toNat:Nat):Int) - ((0:Nat):Int)=Builtin.Range.rangeSize lo hi 1:=by rw[rangeSize_one];split <;> ext
  rw[e1,e2];exact qaz _ rfl
 ·have e:b=(s.heap.push { cls:=.type "range",data:=.fields #[.int lo t,.int hi u,.int 1 v]}).objs.size:=by simpa using hb
  subst e;exact I1.fpOk (qah _) (I1.hok.fresh (qah _))
def iRng1(ta:TA):TI:=fun σ H R=>ta σ H fun vs H1=>∃j:Int,vs=[.int j] /\ -(2 ^ 62)<=j/\j<2 ^ 62/\R (Itr 0 j.toNat) H1
def iRng2(ta:TA):TI:=fun σ H R=>ta σ H fun vs H1=>∃i j:Int,vs=[.int i,.int j]/\(-(2 ^ 62)<=i/\i<2 ^ 62 /\ -(2 ^ 62)<=j/\j<2 ^ 62)/\R (Itr i (j - i).toNat) H1
def vH{a:Expr}{ta:TA}{p pos:Pos}(hg:Gl X "range")(hm:X.mg "range"=none)(ha:PA X [a] ta)(hs:starEach [a] X.env=[(false,eval a X.env)]:=by rfl):PI X tg (.Call (.Name "range" p) [a] [] pos) (iRng1 ta):=by
 intro Iv s σ H R I h;refine Call_ (iK I hg hm boot_range (PyProof.Rows.callWith_type1 (thn (ha pos Iv s σ H _ I h) fun us s1 ⟨vs,H1,I1,r1,q1⟩=>?_) hs rfl));obtain⟨j,e,q1,q2,q⟩:=q1;subst e
 cases r1 with
 | cons r rr =>
  cases rr;obtain⟨t,rfl⟩:=r;exact call_range_1 (qz I1 (by ext) (by ext) q1 q2 (by simpa using q))
def wj{a b:Expr}{ta:TA}{p pos:Pos}(hg:Gl X "range")(hm:X.mg "range"=none)(ha:PA X [a,b] ta)(hs:starEach [a,b] X.env=[(false,eval a X.env),(false,eval b X.env)]:=by rfl)(hs2:starEach [b] X.env=[(false,eval b X.env)]:=by rfl) :
  PI X tg (.Call (.Name "range" p) [a,b] [] pos) (iRng2 ta):=by
 intro Iv s σ H R I h;refine Call_ (iK I hg hm boot_range (PyProof.Rows.callWith_type1 (thn (ha pos Iv s σ H _ I h) fun us s1 ⟨vs,H1,I1,r1,q1⟩=>?_) (by rw[hs,hs2]) (by rw[hs2];rfl)));obtain⟨i,j,e,⟨q1,q2,q3,q4⟩,q⟩:=q1;subst e
 cases r1 with
 | cons r rr =>
  cases rr with
  | cons r' rr =>
   cases rr;obtain⟨t,rfl⟩:=r;obtain⟨t',rfl⟩:=r';exact call_range_2 (qz I1 q1 q2 q3 q4 q)
def tFor(wi:TI)(g:TG)(tb:TS):TS:=fun D σ H=>wi σ H fun J H1=>∃W:Nat->Nat->St->Hp->Prop,(∃m,W 0 m σ H1)/\∀i m σ H,W i m σ H ->
 (J.stop i H/\D.nx σ H)\/(J.go i H/\∃N:St->Hp->Prop,(∀σ' H',N σ' H'->∃m',m'<m/\W (i+1) m' σ' H')/\∀x H',J.yld i H x H'->g x σ H' fun σ2 H2=>tb { D with nx:=N,ct:=N,bk:=D.nx} σ2 H2)
def jI(fp:List Addr)(h:Heap):List (Addr × Obj):=fp.filterMap fun b=>(h.get? b).map fun o=>(b,o)
def gr(hb:b∈fp)(e:h.get? b=some o):(b,o)∈jI fp h:=qcb.mpr ⟨b,hb,by rw[e];rfl⟩
def wK(hp:p∈jI fp h):p.1∈fp/\h.get? p.1=some p.2:=by
 obtain⟨b,hb,e⟩:=qcb.mp hp
 cases q:h.get? b with
 | none=>rw[q] at e;cases e
 | some o =>
  rw[q] at e;have e':=Option.some.inj e;subst e';exact⟨hb,q⟩
def Inv.pinned{Iv:List (Addr × Obj)}{σ:St}{H:Hp}{s:Shared}{fp:List Addr}(I:Inv X Iv σ H s)(hf:∀b∈fp,ip X Iv H b)(ho:∀b∈fp,∃o,s.heap.get? b=some o/\∀v,o.data≠.cell v):Inv X (Iv++jI fp s.heap) σ H s :=
 I.pins_of fun p hp=>(qav.mp hp).elim (fun z=>I.pin p (qam _ z)) fun z=>by
  obtain⟨hb,e⟩:=wK z;obtain⟨f0,f1,f2,_⟩:=hf p.1 hb;obtain⟨o,e',d⟩:=ho p.1 hb
  simp_all
def Inv.unpinned{Iv pl:List (Addr × Obj)}{σ:St}{H:Hp}{s:Shared}(I:Inv X (Iv++pl) σ H s):Inv X Iv σ H s:=I.pins_of fun p hp=>I.pin p (qam _ (qaK _ hp))
def ps_for(hp:PassesOwn (model X.prog X.w) X.A X.env X.xe)(hc:X.calm=true)(hi:PI X tg iter wi)(hg:PG X tg g)(hb:PSs X body tb)
  (hs:∀x,foldedSetIterable iter X.env x=pure x:=by intro _;rfl):PS X (.For tg iter body [] pos) (tFor wi g tb):=by
 intro Iv s σ H D I h;refine wpAny_For (thn (hi Iv s σ H _ I h) fun v s1 h1=>thn h1 fun itv s2 h2=>?_) hs;obtain⟨it,fp,tn,J,H2,e,I2,T,st2,f2,W,⟨m0,w0⟩,turn⟩:=h2;subst e;have stat:∀{H':Hp},(∀b∈fp,H' b=none)->∀b∈fp,ip X Iv H' b:=fun hn b hb=>⟨hn b hb,(f2 b hb).2⟩;refine codeAny_forLoop_any (fun n s'=>∃i σ' H',Inv X Iv σ' H' s'/\tn i s'.heap/\(∀b∈fp,H' b=none)/\W i n σ' H') ?_ m0 ⟨0,σ,H2,I2,st2,fun b hb=>(f2 b hb).1,w0⟩;rintro n s3 ⟨i,σ3,H3,I3,st3,fr3,w3⟩;rcases turn i n σ3 H3 w3 with ⟨stop,qn⟩|⟨go,N,hN,step⟩
 ·refine wpAny_passesOwn hp (thn (T.done X rfl rfl rfl hc i Iv s3 σ3 H3 X.xe I3 (stat fr3) st3 stop) fun r s4 ⟨hr,I4⟩=>?_);subst hr;exact wpAny_execs_nil ⟨σ3,H3,I4,qn⟩
 ·refine wpAny_passesOwn hp (thn (T.item X rfl rfl rfl hc i Iv s3 σ3 H3 X.xe I3 (stat fr3) st3 go) fun r s4 ⟨u,hr,h4⟩=>?_);subst hr;refine wpAny_passesOwn hp (thn h4 fun _ s5 ⟨x,H5,I5,r5,y5,st5,fr5⟩=>?_);have I5':=I5.pinned (stat fr5) (T.obj _ _ st5);refine wpAny_passesOwn hp (thn (hg _ s5 σ3 H5 x u _ I5' r5 (step x H5 y5)) fun _ s6 ⟨σ6,H6,I6,q6⟩=>?_);refine wpAny_passesOwn hp (thn (hb _ s6 σ6 H6 _ I6 q6) fun f s7 q7=>?_);have again:∀{σ7:St} {H7:Hp},Inv X (Iv++jI fp s5.heap) σ7 H7 s7->N σ7 H7->∃m,m<n/\∃i σ' H',Inv X Iv σ' H' s7/\tn i s7.heap/\(∀b∈fp,H' b=none)/\W i m σ' H':=fun {σ7 H7} I7 n7=>by
   obtain⟨m',hm,w7⟩:=hN σ7 H7 n7;refine⟨m',hm,i+1,σ7,H7,I7.unpinned,T.keep _ _ _ st5 fun b hb o e=>(I7.pin (b,o) (qam _ (qam _ (gr hb e)))).1,fun b hb=>?_,w7⟩;obtain⟨o,e,d⟩:=T.obj _ _ st5 b hb;exact (I7.pin (b,o) (qam _ (qam _ (gr hb e)))).2.1
  cases f with
  | next=>obtain⟨σ7,H7,I7,n7⟩:=q7;exact again I7 n7
  | cont=>obtain⟨σ7,H7,I7,n7⟩:=q7;exact again I7 n7
  | brk=>obtain⟨σ7,H7,I7,q7⟩:=q7;exact⟨σ7,H7,I7.unpinned,q7⟩
  | ret v=>obtain⟨x7,σ7,H7,I7,r7,q7⟩:=q7;exact⟨x7,σ7,H7,I7.unpinned,r7,q7⟩
end
abbrev R2:=V->V->Hp->VK->Prop
def OpR(X:Cx)(f:Value->Value->Sem Value)(r:R2):Prop :=
 ∀(Iv:List (Addr × Obj)) (s:Shared) (σ:St) (H:Hp) (x y:V) (v u:Value) (Q:VK),Inv X Iv σ H s->aW x v->aW y u->r x y H Q ->
  wpAny (model X.prog X.w) X.A (f v u) (EP X Iv σ Q) X.xe s
def UnR(X:Cx)(f:Value->Sem Value)(r:V->Hp->VK->Prop):Prop :=
 ∀(Iv:List (Addr × Obj)) (s:Shared) (σ:St) (H:Hp) (x:V) (v:Value) (Q:VK),Inv X Iv σ H s->aW x v->r x H Q ->
  wpAny (model X.prog X.w) X.A (f v) (EP X Iv σ Q) X.xe s
def cF(X:Cx)(f:Value)(r:List V->Hp->VK->Prop):Prop :=
 ∀(Iv:List (Addr × Obj)) (s:Shared) (σ:St) (H:Hp) (xs:List V) (us:List Value) (Q:VK),Inv X Iv σ H s->aF xs us->r xs H Q ->
  wpAny (model X.prog X.w) X.A (call f us) (EP X Iv σ Q) X.xe s
def TruR(X:Cx)(r:V->Hp->(Bool->Hp->Prop)->Prop):Prop :=
 ∀(Iv:List (Addr × Obj)) (s:Shared) (σ:St) (H:Hp) (x:V) (v:Value) (Q:Bool->Hp->Prop),Inv X Iv σ H s->aW x v->r x H Q ->
  wpAny (model X.prog X.w) X.A (truthy v) (TP X Iv σ Q) X.xe s
def tOp(r:R2)(ta tb:TE):TE:=fun σ H Q=>ta σ H fun x H1=>tb σ H1 fun y H2=>r x y H2 Q
def tUn(r:V->Hp->VK->Prop)(ta:TE):TE:=fun σ H Q=>ta σ H fun x H1=>r x H1 Q
def rI(C:Int->Int->Prop)(g:Int->Int->V):R2:=fun x y H Q=>∃i j,x=.int i/\y=.int j/\C i j/\Q (g i j) H
def rI0(g:Int->Int->V):R2:=fun x y H Q=>∃i j,x=.int i/\y=.int j/\Q (g i j) H
def rU(g:Int->V):V->Hp->VK->Prop:=fun x H Q=>∃i,x=.int i/\Q (g i) H
section
variable {X:Cx} {a b c:Expr} {ta tb tc:TE} {pos:Pos}
def binT(ha:PE X a ta)(hb:PE X b tb){Iv:List (Addr × Obj)}{s:Shared}{σ:St}{H:Hp}{R:V->V->Hp->Prop}(I:Inv X Iv σ H s)
  (h:ta σ H fun x H1=>tb σ H1 fun y H2=>R x y H2) {Q:Value->Shared->Prop} {f:Value->Value->Sem Value}
  (hf:∀v u s2 x y H2,Inv X Iv σ H2 s2->aW x v->aW y u->R x y H2->wpAny (model X.prog X.w) X.A (f v u) Q X.xe s2) :
  wpAny (model X.prog X.w) X.A (eval a X.env) (fun v s₁=>wpAny (model X.prog X.w) X.A (eval b X.env) (fun u s₂=>wpAny (model X.prog X.w) X.A (f v u) Q X.xe s₂) X.xe s₁) X.xe s:=by
 refine thn (ha Iv s σ H _ I h) fun v s1 ⟨x,H1,I1,r1,q1⟩=>?_;refine thn (hb Iv s1 σ H1 _ I1 q1) fun u s2 ⟨y,H2,I2,r2,q2⟩=>?_;exact hf v u s2 x y H2 I2 r1 r2 q2
def pe_op{op:Operator}{r:R2}(ho:OpR X (binaryOp op) r)(ha:PE X a ta)(hb:PE X b tb):PE X (.BinOp a op b pos) (tOp r ta tb):=by
 intro Iv s σ H Q I h;exact wpAny_BinOp (binT ha hb I h fun v u s2 x y H2 I2 rx ry q=>ho Iv s2 σ H2 x y v u Q I2 rx ry q)
def pe_un(ho:UnR X (unaryOp op) r)(ha:PE X a ta):PE X (.UnaryOp op a pos) (tUn r ta):=by
 intro Iv s σ H Q I h;exact UnaryOp_ (thn (ha Iv s σ H _ I h) fun v s1 ⟨x,H1,I1,r1,q1⟩=>ho Iv s1 σ H1 x v Q I1 r1 q1)
def opI{f:Value->Value->Sem Value}{C:Int->Int->Prop}{g:Int->Int->Int}
  (rule:∀(i j:Int) (t u:Tok) (s:Shared) (Q:Value->Shared->Prop) (E:Value->Shared->Prop),C i j->Q (.int (g i j) s.toks) { s with toks:=s.toks+1}->wpAny (model X.prog X.w) X.A (f (.int i t) (.int j u)) Q E s) :
  OpR X f (rI C fun i j=>.int (g i j)):=by
 intro Iv s σ H x y v u Q I rx ry h;obtain⟨i,j,rfl,rfl,hc,q⟩:=h;obtain⟨t,rfl⟩:=rx;obtain⟨t',rfl⟩:=ry;exact rule i j t t' s _ _ hc ⟨.int (g i j),H,I.tok _,⟨_,rfl⟩,q⟩
def opI0{f:Value->Value->Sem Value}{g:Int->Int->Int}
  (rule:∀(i j:Int) (t u:Tok) (s:Shared) (Q:Value->Shared->Prop) (E:Value->Shared->Prop),Q (.int (g i j) s.toks) { s with toks:=s.toks+1}->wpAny (model X.prog X.w) X.A (f (.int i t) (.int j u)) Q E s) :
  OpR X f (rI0 fun i j=>.int (g i j)):=by
 intro Iv s σ H x y v u Q I rx ry h;obtain⟨i,j,rfl,rfl,q⟩:=h;obtain⟨t,rfl⟩:=rx;obtain⟨t',rfl⟩:=ry;exact rule i j t t' s _ _ ⟨.int (g i j),H,I.tok _,⟨_,rfl⟩,q⟩
def opB0{f:Value->Value->Sem Value}{g:Int->Int->Bool}
  (rule:∀(i j:Int) (t u:Tok) (s:Shared) (Q:Value->Shared->Prop) (E:Value->Shared->Prop),Q (.bool (g i j)) s->wpAny (model X.prog X.w) X.A (f (.int i t) (.int j u)) Q E s) :
  OpR X f (rI0 fun i j=>.bl (g i j)):=by
 intro Iv s σ H x y v u Q I rx ry h;obtain⟨i,j,rfl,rfl,q⟩:=h;obtain⟨t,rfl⟩:=rx;obtain⟨t',rfl⟩:=ry;exact rule i j t t' s _ _ ⟨.bl (g i j),H,I,rfl,q⟩
def dr(i j:Int):Prop:=0<=j/\j<=1000000/\i.natAbs<2 ^ 64
def op_add:OpR X (binaryOp .Add) (rI0 fun i j=>.int (i+j)):=opI0 fun _ _ _ _ _ _ _ q=>add_int q
def op_sub:OpR X (binaryOp .Sub) (rI0 fun i j=>.int (i - j)):=opI0 fun _ _ _ _ _ _ _ q=>sub_int q
def op_pow:OpR X (binaryOp .Pow) (rI dr fun i j=>.int (i ^ j.toNat)):=opI fun _ _ _ _ _ _ _ hc q=>pow_int_small hc.1 hc.2.1 hc.2.2 q
def unI{f:Value->Sem Value}{g:Int->Int}
  (rule:∀(i:Int) (t:Tok) (s:Shared) (Q:Value->Shared->Prop) (E:Value->Shared->Prop),Q (.int (g i) s.toks) { s with toks:=s.toks+1}->wpAny (model X.prog X.w) X.A (f (.int i t)) Q E s) :
  UnR X f (rU fun i=>.int (g i)):=by
 intro Iv s σ H x v Q I rx h;obtain⟨i,rfl,q⟩:=h;obtain⟨t,rfl⟩:=rx;exact rule i t s _ _ ⟨.int (g i),H,I.tok _,⟨_,rfl⟩,q⟩
def un_neg:UnR X (unaryOp .USub) (rU fun i=>.int (-i)):=unI fun _ _ _ _ _ q=>neg_int q
def op_lt:OpR X (compareOp .Lt) (rI0 fun i j=>.bl (decide (i<j))):=opB0 fun _ _ _ _ _ _ _ q=>lt_int q
def op_le:OpR X (compareOp .LtE) (rI0 fun i j=>.bl (decide (i<=j))):=opB0 fun _ _ _ _ _ _ _ q=>le_int q
def op_gt:OpR X (compareOp .Gt) (rI0 fun i j=>.bl (decide (j<i))):=opB0 fun _ _ _ _ _ _ _ q=>gt_int q
def op_ge:OpR X (compareOp .GtE) (rI0 fun i j=>.bl (decide (j<=i))):=opB0 fun _ _ _ _ _ _ _ q=>ge_int q
def nomark(b:Expr)(h:op≠.In:=by decide)(h2:op≠.NotIn:=by decide):behindInMarks op b=false:=by
 have e1:(op == CmpOp.In)=false:=by cases op <;> first | rfl | exact absurd rfl h
 have e2:(op == CmpOp.NotIn)=false:=by cases op <;> first | rfl | exact absurd rfl h2
 cases b <;> simp[behindInMarks,e1,e2]
def pe_cmpR{op:CmpOp}{r:R2}(ho:OpR X (compareOp op) r)(ha:PE X a ta)(hb:PE X b tb)(hm:behindInMarks op b=false):PE X (.Compare a [op] [b] pos) (tOp r ta tb):=by
 intro Iv s σ H Q I h;exact wpAny_Compare1 (binT ha hb I h fun v u s2 x y H2 I2 rx ry q=>ho Iv s2 σ H2 x y v u Q I2 rx ry q) hm
def tTest(t:TE):TT:=fun σ H Q=>t σ H fun x H'=>∃k,x=.bl k/\Q k H'
def pt_cmpR(ho:OpR X (compareOp op) r)(ha:PE X a ta)(hb:PE X b tb)(hm:behindInMarks op b=false):PT X (.Compare a [op] [b] pos) (tTest (tOp r ta tb)):=by
 intro Iv s σ H Q I h
 refine wpAny_isTrue_Compare1 (thn (ha Iv s σ H _ I h) fun v s1 ⟨x,H1,I1,r1,q1⟩=>thn (hb Iv s1 σ H1 _ I1 q1) fun u s2 ⟨y,H2,I2,r2,q2⟩ =>
  thn (ho Iv s2 σ H2 x y v u _ I2 r1 r2 q2) fun c s3 ⟨z,H3,I3,r3,k,e,q3⟩=>?_) hm
 subst e;cases r3;exact wpAny_truthy_bool ⟨H3,I3,q3⟩
def wW(r r':R2)(ta tb tc:TE):TE:=fun σ H Q=>ta σ H fun x H1=>tb σ H1 fun y H2=>r x y H2 fun z H3=>∃k,z=.bl k /\
 (if k=true then tc σ H3 fun w' H4=>r' y w' H4 Q else Q (.bl false) H3)
def xH(ho:OpR X (compareOp op) r)(ho':OpR X (compareOp op') r')(ha:PE X a ta)(hb:PE X b tb)(hc:PE X c tc)
  (hm:lastMarks [op,op'] [b,c]=false:=by with_unfolding_all rfl):PE X (.Compare a [op,op'] [b,c] pos) (wW r r' ta tb tc):=by
 intro Iv s σ H Q I h
 refine Compare_chain (thn (ha Iv s σ H _ I h) fun v s1 ⟨x,H1,I1,r1,q1⟩=>chain_link (thn (hb Iv s1 σ H1 _ I1 q1) fun u s2 ⟨y,H2,I2,r2,q2⟩ =>
  thn (ho Iv s2 σ H2 x y v u _ I2 r1 r2 q2) fun d s3 ⟨z,H3,I3,r3,k,e,q3⟩=>?_)) hm
 subst e;cases r3;refine wpAny_truthy_bool ?_
 cases k with
 | false=>exact ite_ff ⟨.bl false,H3,I3,rfl,q3⟩
 | true=>exact ite_tt (chain_last (thn (hc Iv s3 σ H3 _ I3 q3) fun w' s4 ⟨z',H4,I4,r4,q4⟩=>ho' Iv s4 σ H4 y z' u w' Q I4 r2 r4 q4))
def TruV(K:qaa)(x:V)(H:Hp)(k:Bool):Prop :=
 match x with
 | .non=>k=false
 | .bl b=>k=b
 | .int i=>k=(i != 0)
 | .str y=>y.length<=sizeLine/\k=((y.length:Int) != 0)
 | .byt y=>y.size<=sizeLine/\k=((y.size:Int) != 0)
 | .ref p=>(∃xs,SqL K H p xs/\k=!xs.isEmpty)\/(∃xs,SqT K H p xs/\k=!xs.isEmpty)\/∃kvs,H p=some (.dK kvs)/\k=!kvs.isEmpty
 | _=>False
def uN{κ:Type}{kvs:List (κ × V)}{vs:List (κ × Value)}(r:KV kvs vs):(!vs.isEmpty)=!kvs.isEmpty:=by
 cases r <;> rfl
def mG(r:aF xs its):(!its.toArray.isEmpty)=!xs.isEmpty:=by
 cases r <;> simp
def lZ:(sizeLine:Nat)<2 ^ 63:=by rw[sizeLine_eq];decide
def qg:TruR X (fun x H Q=>∃k,TruV X.K x H k/\Q k H):=by
 intro Iv s σ H x v Q I rx h;obtain⟨k,e,q⟩:=h;have hs:sizeLine=16777216:=sizeLine_eq
 cases x with
 | non =>
  cases rx;have e':k=false:=e;subst e';exact truthy_none ⟨H,I,q⟩
 | bl b =>
  cases rx;have e':k=b:=e;subst e';exact wpAny_truthy_bool ⟨H,I,q⟩
 | int i =>
  obtain⟨t,rfl⟩:=rx;have e':k=(i != 0):=e;subst e';exact PySem.P.truthy_int ⟨H,I,q⟩
 | str y =>
  obtain⟨t,rfl⟩:=rx;obtain⟨hy,e'⟩:y.length<=sizeLine/\k=((y.length:Int) != 0):=e;subst e';exact PySem.P.truthy_str (by ext) ⟨H,I.tok _,q⟩
 | byt y =>
  obtain⟨t,rfl⟩:=rx;obtain⟨hy,e'⟩:y.size<=sizeLine/\k=((y.size:Int) != 0):=e;subst e';exact PySem.W.truthy_bytes (by ext) ⟨H,I.tok _,q⟩
 | ref p =>
  cases rx;have e':(∃xs,SqL X.K H p xs/\k=!xs.isEmpty)\/(∃xs,SqT X.K H p xs/\k=!xs.isEmpty)\/∃kvs,H p=some (.dK kvs)/\k=!kvs.isEmpty:=e;rcases e' with ⟨xs,hx,e'⟩|⟨xs,hx,e'⟩|⟨kvs,hx,e'⟩
  ·subst e';obtain⟨its,r,pl,hz⟩:=I.list hx;have hlen:=r.length;exact wpAny_truthy_list pl.isList (by simp only[qap];ext) ⟨H,I.tok _,by rw[mG r];exact q⟩
  ·subst e';obtain⟨its,r,pl,hz⟩:=I.tuple hx;have hlen:=r.length;exact truthy_tuple pl (by simp only[qap];ext) ⟨H,I.tok _,by rw[mG r];exact q⟩
  ·subst e';obtain⟨hz,hS,vs,r,m⟩:kvs.length<=sizeLine/\(p == sysModules)=false/\∃vs,KV kvs vs/\s.heap.DictOf (nP X.prog X.w) p vs:=I.hok p _ hx;have hlen:kvs.length=vs.length:=Paired.length r;exact wpAny_truthy_dict hS m (by ext) ⟨H,I.tok _,by rw[uN r];exact q⟩
 | _=>exact (show False from e).elim
def uE:OpR X (binaryOp .Add) (fun x y H Q=>∃i j,x=.str i/\y=.str j/\i.length+j.length<=sizeLine/\Q (.str (i++j)) H):=by
 intro Iv s σ H x y v u Q I rx ry h;obtain⟨i,j,rfl,rfl,hz,q⟩:=h;obtain⟨t,rfl⟩:=rx;obtain⟨t',rfl⟩:=ry;exact add_str (fun t' tk=>⟨.str (i++j),H,I.tok _,⟨_,rfl⟩,q⟩) hz
def eX(r:aF [x] us):∃u,us=[u]/\aW x u:=by
 cases r with
 | cons r1 r2=>cases r2;exact⟨_,rfl,r1⟩
def vals2(r:aF [x,y] us):∃u w',us=[u,w']/\aW x u/\aW y w':=by
 cases r with
 | cons r1 r2 =>
  cases r2 with
  | cons r3 r4=>cases r4;exact⟨_,_,rfl,r1,r3⟩
def xu:cF X (.builtin "abs") (fun xs H Q=>∃i,xs=[.int i]/\Q (.int (if i<0 then -i else i)) H):=by
 intro Iv s σ H xs us Q I r h;obtain⟨i,rfl,q⟩:=h;obtain⟨u,rfl,t,rfl⟩:=eX r;exact call_abs_int fun u tk=>⟨.int (if i<0 then -i else i),H,I.tok _,⟨_,rfl⟩,q⟩
def oJ(hc:X.calm=true):cF X (.builtin "max") (fun xs H Q=>∃i j,xs=[.int i,.int j]/\Q (.int (if j>i then j else i)) H):=by
 intro Iv s σ H xs us Q I r h;obtain⟨i,j,rfl,q⟩:=h;obtain⟨u,w',rfl,⟨t,rfl⟩,⟨t',rfl⟩⟩:=vals2 r;refine max_two_ints (I.ok.hd hc) fun h' tk k=>⟨_,H,I.kept k,?_,q⟩;by_cases hj:j>i
 ·rw[qag hj,qag hj];exact⟨_,rfl⟩
 ·rw[qao hj,qao hj];exact⟨_,rfl⟩
def oM(hc:X.calm=true):cF X (.builtin "min") (fun xs H Q=>∃i j,xs=[.int i,.int j]/\Q (.int (if j<i then j else i)) H):=by
 intro Iv s σ H xs us Q I r h;obtain⟨i,j,rfl,q⟩:=h;obtain⟨u,w',rfl,⟨t,rfl⟩,⟨t',rfl⟩⟩:=vals2 r;refine min_two_ints (I.ok.hd hc) fun h' tk k=>⟨_,H,I.kept k,?_,q⟩;by_cases hj:j<i
 ·rw[qag hj,qag hj];exact⟨_,rfl⟩
 ·rw[qao hj,qao hj];exact⟨_,rfl⟩
def LenV(K:qaa)(x:V)(H:Hp)(n:Nat):Prop :=
 match x with
 | .str y=>y.length<=sizeLine/\n=y.length
 | .byt y=>y.size<=sizeLine/\n=y.size
 | .ref p=>(∃xs,SqL K H p xs/\n=xs.length)\/∃xs,SqT K H p xs/\n=xs.length
 | _=>False
def jo:cF X (.builtin "len") (fun xs H Q=>∃x n,xs=[x]/\LenV X.K x H n/\Q (.int n) H):=by
 intro Iv s σ H xs us Q I r h;obtain⟨x,n,rfl,e,q⟩:=h;obtain⟨u,rfl,rx⟩:=eX r;have hs:=sizeLine_eq
 cases x with
 | str y =>
  obtain⟨t,rfl⟩:=rx;obtain⟨hy,e'⟩:=e;subst e';exact len_str (by ext) ⟨.int _,H,I.tok _,⟨_,rfl⟩,q⟩
 | byt y =>
  obtain⟨t,rfl⟩:=rx;obtain⟨hy,e'⟩:=e;subst e';exact PySem.W.len_bytes (by ext) ⟨.int _,H,I.tok _,⟨_,rfl⟩,q⟩
 | ref p =>
  cases rx;have e':=e;rcases e' with ⟨xs,hx,e'⟩|⟨xs,hx,e'⟩
  ·subst e';obtain⟨its,r',pl,hz⟩:=I.list hx;have hlen:=r'.length;exact Calls.call_len_list pl.isList (by simp only[qap];ext) ⟨.int xs.length,H,I.tok _,⟨_,by simp only[qap];rw[hlen]⟩,q⟩
  ·subst e';obtain⟨its,r',pl,hz⟩:=I.tuple hx;have hlen:=r'.length;exact len_tuple pl (by simp only[qap];ext) ⟨.int xs.length,H,I.tok _,⟨_,by simp only[qap];rw[hlen]⟩,q⟩
 | _=>exact (e).elim
end
section
variable {prog:Program} {w:World} {A:Around} {E:Value→Shared→Prop} {s:Shared} {K:qaa} {x dx C f:Addr} {mA:Str→Option Value} {name:Str} {v:Value}
end
section
variable {P:Program} {w:World} {H H':Hp} {h h':Heap} {a C dx:Addr} {fs fs':List (Str × V)}
end
section
variable {X:Cx} {Iv:List (Addr × Obj)} {σ:St} {H:Hp} {s:Shared} {a C dx:Addr} {fs:List (Str × V)} {f:Str} {v:V} {A:Around} {E:Value→Shared→Prop}
end
section
variable {X:Cx} {o e value:Expr} {f:Str} {pos pos' tpos:Pos} {ta tv:TE}
end
section
variable {X:Cx} {Iv:List (Addr × Obj)} {σ:St} {H:Hp} {s:Shared} {A:Around} {E:Value→Shared→Prop} {Q:Value→Shared→Prop} {c:Value} {b:Bool}
end
structure Room (k:Nat) (A:Around):Prop where
 hd:A.handled=none
 dp:A.depth+3 * k+5<recursionLimit
 un:A.units+16 * k+200<cLine
 gd:A.guards=some []
def Room.mono(r:Room k A)(h:j<=k):Room j A:=⟨r.hd,by have:=r.dp;ext,by have:=r.un;ext,r.gd⟩
def Room.deeper(r:Room (k+1) A)(env:Env):Room k (A.deeper env) :=
 ⟨r.hd,by have:=r.dp;show A.depth+1+3 * k+5<_;ext,by have:=r.un;show A.units+3+16 * k+200<_;ext,r.gd⟩
def Room.depth(r:Room k A):A.depth<recursionLimit:=by have:=r.dp;ext
def Room.units(r:Room k A):A.units+64<cLine:=by have:=r.un;ext
def tNil:TA:=fun _ H Q=>Q [] H
def tCons(ta:TE)(tr:TA):TA:=fun σ H Q=>ta σ H fun x H1=>tr σ H1 fun xs H2=>Q (x::xs) H2
section
variable {X:Cx} {e:Expr} {es:List Expr} {te:TE} {t:TA} {pos:Pos}
def mD:PA X [] tNil:=fun _ _ _ _ H Q I h=>Calls.spliced_nil ⟨[],H,I,.nil,h⟩
def iG(ha:PE X e te)(hr:PA X es t)(hs:starEach (e::es) X.env=(false,eval e X.env)::starEach es X.env:=by rfl):PA X (e::es) (tCons te t):=by
 intro pos Iv s σ H Q I h;rw[hs];show wpAny _ _ (spliced ((false,eval e X.env)::backTo pos (starEach es X.env))) _ _ s;refine Calls.spliced_cons (thn (ha Iv s σ H _ I h) fun u s1 ⟨x,H1,I1,r1,q1⟩=>?_);exact thn (hr pos Iv s1 σ H1 _ I1 q1) fun us s2 ⟨xs,H2,I2,r2,q2⟩=>⟨x::xs,H2,I2,.cons r1 r2,q2⟩
def tTup(t:TA):TE:=fun σ H Q=>t σ H fun xs H1=>xs.length<=sizeLine/\∀p,H1 p=none->Q (.ref p) (upd H1 p (.tup xs))
def tLst(t:TA):TE:=fun σ H Q=>t σ H fun xs H1=>xs.length<=sizeLine/\∀p,H1 p=none->Q (.ref p) (upd H1 p (.lst xs))
def pe_tup{x1}(h:PA X es t):PE X (.Tuple es x1 pos) (tTup t):=by
 intro Iv s σ H Q I hq;refine wpAny_Tuple_spliced (thn (h pos Iv s σ H _ I hq) fun us s1 ⟨xs,H1,I1,r,z,q⟩=>⟨by rw[<-r.length];exact z,?_⟩);have hf:=I1.hok.fresh (qah _);refine⟨.ref s1.heap.objs.size,upd H1 s1.heap.objs.size (.tup xs),I1.laid (t':=s1.toks) (fun b u e=>qae _ e) (qah _) ?_,rfl,q _ hf⟩;exact⟨z,us,r,⟨_,qaz _ rfl,rfl,⟨_,rfl⟩,rfl⟩⟩
def pe_lst(h:PA X es t):PE X (.List es pos) (tLst t):=by
 intro Iv s σ H Q I hq;refine wpAny_List_spliced (thn (h pos Iv s σ H _ I hq) fun us s1 ⟨xs,H1,I1,r,z,q⟩=>⟨by rw[<-r.length];exact z,?_⟩);have hf:=I1.hok.fresh (qah _);refine⟨.ref s1.heap.objs.size,upd H1 s1.heap.objs.size (.lst xs),I1.laid (t':=s1.toks) (fun b u e=>qae _ e) (qah _) ?_,rfl,q _ hf⟩;exact⟨z,us,0,r,qaz _ rfl⟩
end
abbrev Sp:=List V->Hp->VK->XK->Prop
abbrev CXT:=List Env->Hp->Shared->XK->Value->Shared->Prop
structure Env0 (P:Program) (w:World) (K:qaa) (mg:Str->Option Value) (base:Heap) (A:Around) (outer:List Env) (s:Shared) (H:Hp):Prop where
 frames:A.frames=some outer
 mod:Mod K mg base
 bs:∀b o,base.get? b=some o->s.heap.get? b=some o/\H b=none
 bsz:base.objs.size<=s.heap.objs.size
 funs:s.heap.FunFrames base outer
 frf:∀b∈frs outer,H b=none
 hok:HOk P w H s.heap
 bare:AllBare s.gens
inductive CE (outer:List Env) (P:Program) (w:World) (H:Hp) (s:Shared) (Q:VK) (u:Value) (s':Shared):Prop
 | mk (v:V) (H':Hp) (o:s'.os=s.os) (b:AllBare s'.gens) (n:Un (frs outer) [] H H' s.heap s'.heap) (k:HOk P w H' s'.heap) (r:aW v u) (q:Q v H'):CE outer P w H s Q u s'
def CR(CX:CXT)(outer:List Env)(P:Program)(w:World)(H:Hp)(s:Shared)(Q:VK)(E:XK)(r:Result)(s':Shared):Prop :=
 match r with
 | .ok (.ret u)=>CE outer P w H s Q u s'
 | .ok _=>False
 | .error e=>CX outer H s E e s'
structure FnOk (P:Program) (w:World) (K:qaa) (mg:Str->Option Value) (base:Heap) (CX:CXT) (k:Nat) (f:Addr) (fd:FuncData) (ps:List Str) (sp:Sp):Prop where
 len:∀vs H Q E,sp vs H Q E->vs.length=ps.length
 run:∀(A:Around) (outer:List Env) (s:Shared) (H:Hp) (args:Args) (us:List Value) (vs:List V) (Q:VK) (E:XK),Room k A->Env0 P w K mg base A outer s H->BindsTo s fd args (ps.zip us)->aF vs us->sp vs H Q E ->
  codeAny (model P w) A (.call (.ref f) args) (CR CX outer P w H s Q E) s
def FnOk.mono{P:Program}{w:World}{K:qaa}{mg:Str->Option Value}{base:Heap}{CX:CXT}{j k:Nat}{f:Addr}{fd:FuncData}{ps:List Str}{sp:Sp}(F:FnOk P w K mg base CX j f fd ps sp)(h:j<=k) :
  FnOk P w K mg base CX k f fd ps sp:=⟨F.len,fun A outer s H args us vs Q E hr=>F.run A outer s H args us vs Q E (hr.mono h)⟩
def FnOk.imp{P:Program}{w:World}{K:qaa}{mg:Str->Option Value}{base:Heap}{CX:CXT}{k:Nat}{f:Addr}{fd:FuncData}{ps:List Str}{sp sp':Sp}(F:FnOk P w K mg base CX k f fd ps sp)
  (h:∀vs H Q E,sp' vs H Q E->sp vs H Q E):FnOk P w K mg base CX k f fd ps sp' :=
 ⟨fun vs H Q E q=>F.len vs H Q E (h _ _ _ _ q),fun A outer s H args us vs Q E hr he hb hv hs=>F.run A outer s H args us vs Q E hr he hb hv (h _ _ _ _ hs)⟩
section
variable {X:Cx} {Iv:List (Addr × Obj)} {σ:St} {H:Hp} {s s':Shared}
def Inv.env0(I:Inv X Iv σ H s):Env0 X.prog X.w X.K X.mg X.base X.A X.stack s H :=
 ⟨I.ok.frames,I.ok.mod,I.bs,qaE I.ok.bsz I.sz,I.stack,I.stkFree,I.hok,I.bare⟩
def Inv.after(I:Inv X Iv σ H s)(h:CE X.stack X.prog X.w H s Q u s'):EP X Iv σ Q u s':=by
 obtain⟨v,H',os,bare,un,hok,r,q⟩:=h;obtain⟨hh,g,d,t,os'⟩:=s';obtain rfl:=os;exact⟨v,H',I.call (h':=hh) (g':=g) (d':=d) (t':=t) un hok bare (fun b z=>absurd z (by simp)),r,q⟩
end
def mK(K:qaa)(fd:FuncData)(ps:List Str)(ds:List Value):Prop :=
 ∀(s:Shared) (us:List Value),K.In s.heap->(us++ds).length=ps.length->BindsTo s fd ⟨us,[]⟩ (ps.zip (us++ds))
def mK.all{K:qaa}{fd:FuncData}{ps:List Str}(h:∀us:List Value,us.length=ps.length->bindArgs fd ⟨us,[]⟩=pure (ps.zip us)):mK K fd ps []:=fun s us _ hl=>by
 rw[qcc] at hl ⊢;exact .of_eq (h us hl)
section
variable {X:Cx} {CX:CXT} {k:Nat} {f C:Addr} {fd:FuncData} {ps:List Str} {sp:Sp} {dvs:List V} {ds:List Value} {E:XK} {x m:Str} {p pos apos:Pos} {e o:Expr} {es:List Expr} {ta:TE} {t:TA}
end
section
variable {X:Cx} {CX:CXT} {k:Nat} {f C:Addr} {fd:FuncData} {ps ks:List Str} {sp:Sp} {E:XK} {x m:Str} {p pos apos kpos:Pos} {e o:Expr} {es:List Expr} {kws:List Keyword} {te ta:TE} {t tk:TA} {nm:Option Str} {g:List Value→List Value→List Value} {gV:List V→List V→List V}
end
structure FnScope (N P:List Str) (sc:Scope):Prop where
 kind:sc.kind=.function
 co:sc.isCoroutine=false
 gen:sc.isGenerator=false
 nd:N.Nodup
 pre:N.take P.length=P
 par:∀x∈P,sc.names.lookup x=some .local\/sc.names.lookup x=some .cell
 nofree:∀y∈sc.names,y.2≠.free
def oq{kindOf:Str->Option NameKind}{x:Str}:∀{binds:List (Str × Value)} {m:Str->Option Value},(∀v,(x,v)∉binds)->bindL kindOf binds m x=m x
 | [],_,_=>rfl
 | (n,v)::r,m,h=>by
  unfold bindL;rw[oq fun w hw=>h w (qaf _ hw)];split
  ·have:x≠n:=by rintro rfl;exact h v qaM
   simp[this]
  ·rfl
def oz{kindOf:Str->Option NameKind}{x:Str}:∀{binds:List (Str × Value)} {m:Str->Option Value},(∀v,(x,v)∉binds)->bindC kindOf binds m x=m x
 | [],_,_=>rfl
 | (n,v)::r,m,h=>by
  unfold bindC;rw[oz fun w hw=>h w (qaf _ hw)];split
  ·rfl
  ·have:x≠n:=by rintro rfl;exact h v qaM
   simp[this]
def oE{kindOf:Str->Option NameKind}{x:Str}{v:Value}:∀{P:List Str} {vs:List Value} {i:Nat} {m:Str->Option Value},P.Nodup->P[i]?=some x->vs[i]?=some v->kindOf x=some .local ->
  bindL kindOf (P.zip vs) m x=some v
 | p::P,w::vs,0,m,nd,h1,h2,hk=>by
  simp at h1 h2;subst h1;subst h2;show bindL kindOf ((p,w)::P.zip vs) m p=_;unfold bindL;rw[oq fun v hv=>(qcm.mp nd).1 (qcD hv).1,qag hk];simp
 | p::P,w::vs,i+1,m,nd,h1,h2,hk=>by
  unfold bindL;exact oE (qcm.mp nd).2 (by simpa using h1) (by simpa using h2) hk
def oY{kindOf:Str->Option NameKind}{x:Str}{v:Value}:∀{P:List Str} {vs:List Value} {i:Nat} {m:Str->Option Value},P.Nodup->P[i]?=some x->vs[i]?=some v->kindOf x≠some .local ->
  bindC kindOf (P.zip vs) m x=some v
 | p::P,w::vs,0,m,nd,h1,h2,hk=>by
  simp at h1 h2;subst h1;subst h2;show bindC kindOf ((p,w)::P.zip vs) m p=_;unfold bindC;rw[oz fun v hv=>(qcm.mp nd).1 (qcD hv).1,qao hk];simp
 | p::P,w::vs,i+1,m,nd,h1,h2,hk=>by
  unfold bindC;exact oY (qcm.mp nd).2 (by simpa using h1) (by simpa using h2) hk
def start(N:List Str)(vs:List V):St:=vs.map some++List.replicate (N.length - vs.length) none
def rj(CX:CXT)(P:Program)(w:World)(K:qaa)(mg:Str->Option Value)(base:Heap)(N:List Str)(qual:Str)(scope:Scope)(f:Addr)(cd:Value)(A:Around)(outer:List Env)(s:Shared)(H:Hp)(E:XK):Cx where
 prog:=P
 w:=w
 K:=K
 mg:=mg
 base:=base
 A:=A.deeper (envOfC qual scope s.heap.objs.size f cd)
 N:=N
 s₀:=s
 H₀:=H
 env:=envOfC qual scope s.heap.objs.size f cd
 outer:=outer
 stack:=envOfC qual scope s.heap.objs.size f cd::outer
 ex:=[]
 calm:=true
 fn:=fun _=>true
 pn:=[]
 xe:=fun e s'=>wpAny (model P w) (A.deeper (envOfC qual scope s.heap.objs.size f cd)) (leaving (envOfC qual scope s.heap.objs.size f cd) e) (fun _ s''=>CX outer H s E e s'') (fun e' s''=>CX outer H s E e' s'') s'
def qm{sc:Scope}{n:Nat}{x:Str}(h:sc.names.lookup x=some .cell):∃c,(cellsFrom n sc.names []).lookup x=some c:=by
 have q:=PySem.W.cellsFrom_some sc.names n [] (.inl h);exact Option.isSome_iff_exists.mp q
def wA{CX:CXT}{P:Program}{w:World}{K:qaa}{mg:Str->Option Value}{base:Heap}{N ps:List Str}{qual:Str}{scope:Scope}{f:Addr}{cd:Value}{A:Around}{outer:List Env}{s s1:Shared}{H:Hp}{E:XK}{us:List Value}{vs:List V}
  (S:FnScope N ps scope) (hd:A.handled=none) (e0:Env0 P w K mg base A outer s H) (hl:vs.length=ps.length) (r:aF vs us)
  (x:InCallC s s.heap.objs.size (bindL (envOfC qual scope s.heap.objs.size f cd).kindOf (ps.zip us) fun _=>none) (cellsFrom (s.heap.objs.size+1) scope.names []) (bindC (envOfC qual scope s.heap.objs.size f cd).kindOf (ps.zip us) fun _=>none) s1) :
  Inv (rj CX P w K mg base N qual scope f cd A outer s H E) [] (start N vs) H s1:=by
 have hpl:ps.length<=N.length:=by have:=congrArg List.length S.pre;rw[qbJ] at this;ext
 obtain⟨h1,tk,rfl,hk⟩:=x.done;have noA:∀b:Addr,b∉(rj CX P w K mg base N qual scope f cd A outer s H E).ex:=fun b z=>absurd (show b∈([]:List Addr) from z) (by simp)
 refine⟨⟨e0.mod,S.kind,rfl,rfl,qah _,fun y z c h1 h2=>?_,fun y hy=>?_,fun y c _ h=>?_,fun _=>hd,Around.frames_deeper e0.frames,.inr ⟨rfl,rfl⟩,fun b z=>absurd z (noA b),e0.bs,e0.bsz,fun b _ _=>noA b,fun b z=>absurd z (noA b),e0.funs,e0.frf⟩,
  rfl,e0.bare,Un.kept hk,⟨_,x.toInCall.ns,fun i y v h1 h2 h3=>?_⟩,fun y c h=>⟨_,x.cell y c h⟩,e0.hok.fresh (qah _),fun y c h=>?_,fun p hp=>absurd (show p∈([]:List (Addr × Obj)) from hp) (by simp),e0.hok.kept hk,?_⟩
 ·exact name_of_addr x.apart (PySem.mem_of_lookup h1) (PySem.mem_of_lookup h2)
 ·rcases hy with hy|hy
  ·exact qm hy
  ·exact absurd rfl (S.nofree _ (PySem.mem_of_lookup hy))
 ·exact qca (x.above y c (PySem.mem_of_lookup h))
 ·have hi:i<vs.length:=by
   unfold start at h2;by_cases hi:i<vs.length
   ·exact hi
   ·rw[qaD (by simpa using hi)] at h2;rw[qaV] at h2
    split at h2 <;> cases h2
  have ha:vs[i]?=some v:=by
   unfold start at h2;rw[qan (by simpa using hi),qat] at h2
   cases e:vs[i]? with
   | none=>rw[e] at h2;cases h2
   | some a=>rw[e] at h2;cases h2;rfl
  obtain⟨u,hu,rv⟩:=r.get ha;have hp:ps[i]?=some y:=by
   rw[<-S.pre,qbz (by ext)];exact h1
  have ndP:ps.Nodup:=by rw[<-S.pre];exact S.nd.sublist (qcs _ _)
  refine⟨u,rv,?_⟩;rcases S.par y (qaL hp) with k|k
  ·exact .inl ⟨k,oE ndP hp hu k⟩
  ·obtain⟨c,e⟩:=qm k;refine .inr ⟨.inl k,c,e,?_⟩;have q:=x.cell y c e;rw[oY ndP hp hu (by show scope.names.lookup y≠_;rw[k];decide)] at q;exact q
 ·exact e0.hok.fresh (qca (x.above y c (PySem.mem_of_lookup h)))
 ·unfold start;show _=N.length;rw[qaQ,qal,qbv];ext
def fn_of{CX:CXT}{P:Program}{w:World}{K:qaa}{mg:Str->Option Value}{base:Heap}{k:Nat}{f:Addr}{name qual:Str}{params:Arguments}{body:List Stmt}{scope:Scope}{dV kV doc pm cdv ct oc:Value}{an od:Option Addr}
  {osl:Array (Option Value)} {N ps:List Str} {sp:Sp} (lk:K.lookup f=some ⟨oc,od,.func (PySem.W.fnOf name qual params body scope dV kV doc pm an cdv ct),osl⟩) (hcd:PySem.W.codeIn K cdv qual=true) (S:FnScope N ps scope)
  (len:∀vs H Q E,sp vs H Q E->vs.length=ps.length)
  (hbody:∀(A:Around) (outer:List Env) (s:Shared) (H:Hp) (vs:List V) (Q:VK) (E:XK),Room k (A.deeper (envOfC qual scope s.heap.objs.size f cdv))->sp vs H Q E ->
   ∃t,PSs (rj CX P w K mg base N qual scope f cdv A outer s H E) body t/\t { nx:=fun _ H'=>Q .non H',rt:=Q} (start N vs) H) :
  FnOk P w K mg base CX (k+1) f (PySem.W.fnOf name qual params body scope dV kV doc pm an cdv ct) ps sp:=by
 refine⟨len,fun A outer s H args us vs Q E hr e0 hb r hsp=>?_⟩;have hl:=len _ _ _ _ hsp;have KX:=e0.mod.kin.keeps fun b o e=>(e0.bs b o e).1;have lim:=e0.mod.nolimit.keeps fun b o e=>(e0.bs b o e).1;have hkind:∀y∈ps.zip us,scope.names.lookup y.1=some .local\/(scope.names.lookup y.1=some .cell/\((cellsFrom (s.heap.objs.size+1) scope.names []).lookup y.1).isSome=true):=fun ⟨n,v⟩ hy=>by
  rcases S.par n (qcD hy).1 with q|q
  ·exact .inl q
  ·exact .inr ⟨q,PySem.W.cellsFrom_some _ _ _ (.inl q)⟩
 refine codeAny_call_function hr.depth (KX _ _ lk) rfl S.co S.gen rfl (PySem.W.codeRec_of KX hcd) (hb _ _ _ _ ?_);refine wpAny_newFunctionEnv_cells S.kind hkind fun env he s1 x=>?_;subst he;refine⟨lim.keeps x.toInCall.keep,codeAny_func ?_⟩;obtain⟨t,ht,hq⟩:=hbody A outer s H vs Q E (hr.deeper _) hsp;have I:Inv (rj CX P w K mg base N qual scope f cdv A outer s H E) [] (start N vs) H s1:=wA S hr.hd e0 hl r x;refine wpAny_mono (ht [] s1 (start N vs) H _ I hq) (fun fl s' hs=>?_) fun e s' hs=>hs;have fin:∀{σ':St} {H':Hp} {v:V} {u:Value},Inv (rj CX P w K mg base N qual scope f cdv A outer s H E) [] σ' H' s'->aW v u->Q v H'->CE outer P w H s Q u s' :=
  fun {σ' H' v u} J rv q=>⟨v,H',J.os,J.bare,J.base,J.hok,rv,q⟩
 cases fl with
 | ret u =>
  obtain⟨v,σ',H',J,rv,q⟩:=hs;exact fin J rv q
 | next =>
  obtain⟨σ',H',J,q⟩:=hs;exact fin (v:=V.non) J rfl q
 | brk =>
  obtain⟨_,_,_,q⟩:=hs;exact False.elim q
 | cont =>
  obtain⟨_,_,_,q⟩:=hs;exact False.elim q
section
variable {X:Cx} {x:Str} {p pos:Pos} {e:Expr} {es:List Expr} {t:TA} {id T:String} {r:List V→Hp→VK→Prop}
def tCB(r:List V->Hp->VK->Prop)(t:TA):TE:=fun σ H Q=>t σ H fun vs H1=>r vs H1 Q
def jp(hc:cF X (.builtin id) r)(hg:Gl X x)(hm:X.mg x=none)(hv:bootBuiltins x=some (.builtin id))(ha:PA X (e::es) t)(hn:x≠"__name__":=by decide)(hdb:(x == ("__debug__":Str))=false:=by decide)
  (he:starEach (e::es) X.env=(false,eval e X.env)::starEach es X.env:=by rfl) (hpl:(backTo pos (starEach es X.env)).any (·.1)=false:=by rfl):PE X (.Call (.Name x p) (e::es) [] pos) (tCB r t):=by
 intro Iv s σ H Q I h;refine wpAny_Call_Name_kw (iK I hg hm hv ?_ hn hdb);exact PyProof.Rows.callWith_builtin1 (thn (ha pos Iv s σ H _ I h) fun us s1 ⟨vs,H1,I1,r1,q1⟩=>hc Iv s1 σ H1 vs us Q I1 r1 q1) he hpl
def j4(hc:cF X (.type T) r)(hg:Gl X x)(hm:X.mg x=none)(hv:bootBuiltins x=some (.type T))(ha:PA X (e::es) t)(hn:x≠"__name__":=by decide)(hdb:(x == ("__debug__":Str))=false:=by decide)
  (he:starEach (e::es) X.env=(false,eval e X.env)::starEach es X.env:=by rfl) (hpl:(backTo pos (starEach es X.env)).any (·.1)=false:=by rfl):PE X (.Call (.Name x p) (e::es) [] pos) (tCB r t):=by
 intro Iv s σ H Q I h;refine wpAny_Call_Name_kw (iK I hg hm hv ?_ hn hdb);exact PyProof.Rows.callWith_type1 (thn (ha pos Iv s σ H _ I h) fun us s1 ⟨vs,H1,I1,r1,q1⟩=>hc Iv s1 σ H1 vs us Q I1 r1 q1) he hpl
end
end L2
namespace HT
open PySem PyProof.Rows
section
open PySem.SeqAt
open PySem.AutoSeq1 (wpAny_loadPart')
open PySem.MeetsSeq PySem.MeetsSeq2 PySem.MeetsSeq3
end
section
variable {prog:Program} {w:World} {A:Around} {E:Value→Shared→Prop} {s:Shared}
def cat_tup(ht:IsTup s.heap t vs.toArray)(hb:IsTup s.heap b ws.toArray)(hv:vs≠[])
  (h1:ws=[]->Q (.ref t) s) (h2:ws≠[]->Q (.ref s.heap.objs.size) { s with heap:=s.heap.push { cls:=.type "tuple",data:=.seq (vs++ws).toArray}})
  (hsz:vs.length+ws.length<=sizeLine):wpAny (model prog w) A (binaryOp .Add (.ref t) (.ref b)) Q E s:=by
 obtain⟨⟨cls,dd,data,sl⟩,ho,hc,n,hd⟩:=id ht;obtain⟨⟨cls2,dd2,data2,sl2⟩,ho2,hc2,n2,hd2⟩:=id hb;subst hc hd hc2 hd2;have e:vs.toArray++ws.toArray=(vs++ws).toArray:=by simp
 by_cases hw:ws=[]
 ·exact concat_meets ⟨_,ho,rfl⟩ ⟨_,ho2,rfl⟩ noFill_tuple_add seq_tuple_add PySem.F.slot_tuple_add PySem.F.entry_tuple_add (PySem.F.args_tuple_add_2 _ _)
   (tuple_addW1 t b vs.toArray ws.toArray n n2 dd dd2 sl sl2 (by simpa using hv) (by simp[hw])) ⟨ho,ho2,h1 hw⟩
 ·refine concat_meets ⟨_,ho,rfl⟩ ⟨_,ho2,rfl⟩ noFill_tuple_add seq_tuple_add PySem.F.slot_tuple_add PySem.F.entry_tuple_add (PySem.F.args_tuple_add_2 _ _)
   (tuple_addW2 t b vs.toArray ws.toArray n n2 dd dd2 sl sl2 (by simpa using hv) (by simpa using hw) (by exact hsz)) ⟨ho,ho2,?_⟩
  rw[e];exact h2 hw
def sIx(n d:Nat):Option Int->Nat
 | none=>d
 | some v=>if v<0 then (v+(n:Int)).toNat else min v.toNat n
def qx(n d:Nat):sIx n d none=d:=rfl
def sA(n d k:Nat):sIx n d (some (k:Int))=min k n:=rfl
def sB(v:Int)(n d:Nat):(if v<0 then max (v+(n:Int)) 0 else min v (n:Int))=((sIx n d (some v):Nat):Int):=by
 show (if v<0 then max (v+(n:Int)) 0 else min v (n:Int))=(((if v<0 then (v+(n:Int)).toNat else min v.toNat n):Nat):Int)
 grind
def uc(lo hi:Option Int)(n:Nat):Builtin.Slice.sliceAdjust lo hi 1 (n:Int)=(((sIx n 0 lo:Nat):Int),((sIx n n hi:Nat):Int)):=by
 refine Prod.ext ?_ ?_
 ·cases lo with
  | none=>rfl
  | some v=>exact sB v n 0
 ·cases hi with
  | none=>rfl
  | some v=>exact sB v n n
def uX(i j:Nat):Builtin.Slice.slicePlaces (i:Int) (j:Int) 1=j - i:=by
 unfold Builtin.Slice.slicePlaces;have h1:(1:Int)>0:=by ext
 simp only[h1,if_true,Int.ediv_one]
 split <;> ext
def mQ(p:IsPart v o)(h:Q o s):wpAny (model prog w) A (Builtin.Slice.slicePartIndex v) Q E s:=by
 cases p with
 | none=>exact slicePart_none h
 | int i t=>exact slicePart_int h
def lN{sl:Addr}{vl vu:Value}{lo hi:Option Int}{n:Nat}{Q:Int × Int × Nat->Shared->Prop}(hs:s.heap.IsSliceOf sl vl vu .none)(pl:IsPart vl lo)(pu:IsPart vu hi)
  (h:Q (((sIx n 0 lo:Nat):Int),1,sIx n n hi - sIx n 0 lo) s):wpAny (model prog w) A (Builtin.Slice.sliceApplied (.ref sl) (pure (n:Int))) Q E s:=by
 obtain⟨os,hos,hcs,hds⟩:=id hs;refine qab (qab (wpAny_field hos hds rfl (qab (wpAny_field hos hds rfl (qab (wpAny_field hos hds rfl (qak ?_)))))));refine qab (slicePart_none ?_);refine qab (mQ pl (qab (mQ pu (qab (qak ?_)))));show wpAny _ _ (match Builtin.Slice.sliceAdjust lo hi 1 (n:Int) with | (lo,hi)=>pure (lo,(1:Int),Builtin.Slice.slicePlaces lo hi 1)) _ _ s;rw[uc lo hi n];show wpAny _ _ (pure (((sIx n 0 lo:Nat):Int),(1:Int),Builtin.Slice.slicePlaces ((sIx n 0 lo:Nat):Int) ((sIx n n hi:Nat):Int) 1)) _ _ s;rw[uX];exact qak h
def xv(xs:Array Value)(i k:Nat):((List.range k).filterMap fun (m:Nat)=>xs[((i:Int)+(m:Int) * 1).toNat]?).toArray=((xs.toList.drop i).take k).toArray:=by
 have e:(fun (m:Nat)=>xs[((i:Int)+(m:Int) * 1).toNat]?)=fun m=>xs[i+m]?:=by
  grind
 rw[e]
 have:=pick_run xs i k
 rw[List.filterMap_map] at this;have e2:((fun x=>xs[x]?)∘fun x=>i+x)=fun m=>xs[i+m]?:=rfl;rw[e2] at this;rw[this]
def k9{t sl:Addr}{items:Array Value}{vl vu:Value}{lo hi:Option Int}{Q:Value->Shared->Prop}(ht:IsTup s.heap t items)(hs:s.heap.IsSliceOf sl vl vu .none)(pl:IsPart vl lo)(pu:IsPart vu hi)
  (hw:¬(sIx items.size 0 lo=0/\sIx items.size items.size hi=items.size))
  (h:Q (.ref s.heap.objs.size) { s with heap:=s.heap.push { cls:=.type "tuple",data:=.seq ((items.toList.drop (sIx items.size 0 lo)).take (sIx items.size items.size hi - sIx items.size 0 lo)).toArray}})
  (hsz:items.size<=sizeLine):wpAny (model prog w) A (getItem (.ref t) (.ref sl)) Q E s:=by
 have htake:sizeOk (.seq ((items.toList.drop (sIx items.size 0 lo)).take (sIx items.size items.size hi - sIx items.size 0 lo)).toArray):=by
  show ((items.toList.drop (sIx items.size 0 lo)).take (sIx items.size items.size hi - sIx items.size 0 lo)).toArray.size<=sizeLine;rw[qap,qbJ,qbm,qaH];ext
 obtain⟨os,hos,hcs,hds⟩:=id hs;have hTs:s.TypeIs (.ref sl) "slice":=⟨os,hos,hcs⟩;unfold getItem
 try with_reducible refine wpAny_holding ?_
 refine qab (wpAny_sequenceKey ht.typeIs (by decide) ?_)
 refine qab (wpAny_callSpecial?_slot ht.typeIs PyProof.Rows.slot_tuple_getitem
  (wpAny_call_entry PyProof.Rows.slot_tuple_getitem ht.typeIs entry_tuple_getitem ?_ (args_tuple_getitem _ _)))
 show wpAny _ _ (Builtin.Tuple.tupleItemsOf (.ref t) >>= _) _ _ s;refine qab (tupleItemsOf_ ht ?_);refine qab (wpAny_typeOf hTs ?_);refine qab (lN hs pl pu ?_);have hno:¬((((sIx items.size 0 lo:Nat):Int) == 0 && (1:Int) == 1 && (sIx items.size items.size hi - sIx items.size 0 lo) == items.size)=true):=by
  intro q;rw[qbK,qbK] at q;have q1:=eq_of_beq q.1.1;have q2:=eq_of_beq q.2;exact hw ⟨by ext,by ext⟩
 show wpAny _ _ (if (((sIx items.size 0 lo:Nat):Int) == 0 && (1:Int) == 1 && (sIx items.size items.size hi - sIx items.size 0 lo) == items.size)=true then _ else _) _ _ s;rw[qao hno,xv]
 first
  | exact qab (m:=Builtin.Tuple.tupleExact _) (wpAny_newObj_type (qab (qak (qak ⟨_,rfl,qak h⟩))) htake)
end
end HT
namespace L2
open PySem PySem.Spec PyProof.Rows
abbrev TO:=St->Hp->(Option Int->Hp->Prop)->Prop
def PO(X:Cx)(e:Option Expr)(t:TO):Prop :=
 ∀(Iv:List (Addr × Obj)) (s:Shared) (σ:St) (H:Hp) (Q:Option Int->Hp->Prop),Inv X Iv σ H s->t σ H Q ->
  wpAny (model X.prog X.w) X.A (evalPart e X.env) (fun u s'=>∃o H',Inv X Iv σ H' s'/\IsPart u o/\Q o H') X.xe s
def tNoPart:TO:=fun _ H Q=>Q none H
def tPart(t:TE):TO:=fun σ H Q=>t σ H fun x H1=>∃i,x=.int i/\Q (some i) H1
def uK:∀{us:List Value},aF (ns.map V.int) us->IntsAre us ns:=by
 induction ns with
 | nil=>intro us r;cases r;exact .nil
 | cons n ns ih =>
  intro us r
  cases r with
  | cons r1 r2 =>
   obtain⟨t,e⟩:=r1;subst e;exact .cons n t (ih r2)
section
variable {X:Cx} {e:Expr} {te:TE} {lo hi:Option Expr} {tl th:TO} {pos p2:Pos}
def po_none:PO X none tNoPart:=by
 intro Iv s σ H Q I h;rw[evalPart_none];exact qak ⟨none,H,I,.none,h⟩
def po_some(h:PE X e te):PO X (some e) (tPart te):=by
 intro Iv s σ H Q I hw;refine thn (h Iv s σ H _ I hw) fun u s1 ⟨x,H1,I1,r1,q1⟩=>?_;obtain⟨i,rfl,q⟩:=q1;obtain⟨t,rfl⟩:=r1;exact⟨some i,H1,I1,.int i t,q⟩
def SlR(X:Cx)(r:V->Option Int->Option Int->Hp->VK->Prop):Prop :=
 ∀(Iv:List (Addr × Obj)) (s:Shared) (σ:St) (H:Hp) (x:V) (v vl vu:Value) (lo hi:Option Int) (sl:Addr) (Q:VK),Inv X Iv σ H s->aW x v->s.heap.IsSliceOf sl vl vu .none->IsPart vl lo->IsPart vu hi->r x lo hi H Q ->
  ∃T id,typeLookup (.type T) "__getitem__"=pure (some (.builtin id))/\s.TypeIs v T/\wpAny (model X.prog X.w) X.A (getItem v (.ref sl)) (EP X Iv σ Q) X.xe s
def tSl(r:V->Option Int->Option Int->Hp->VK->Prop)(te:TE)(tl th:TO):TE:=fun σ H Q=>te σ H fun x H1=>tl σ H1 fun l H2=>th σ H2 fun u H3=>r x l u H3 Q
def xK(hr:SlR X r)(he:PE X e te)(hl:PO X lo tl)(hu:PO X hi th):PE X (.Subscript e (.Slice lo hi none p2) pos) (tSl r te tl th):=by
 intro Iv s σ H Q I h;refine Subscript_ (thn (he Iv s σ H _ I h) fun v s1 ⟨x,H1,I1,r1,q1⟩=>?_);refine wpAny_Slice (thn (hl Iv s1 σ H1 _ I1 q1) fun vl s2 ⟨l,H2,I2,pl,q2⟩=>thn (hu Iv s2 σ H2 _ I2 q2) fun vu s3 ⟨u,H3,I3,pu,q3⟩=>?_);refine qak ?_;have I4:Inv X Iv σ H3 { s3 with heap:=s3.heap.push { cls:=.type "slice",data:=.fields #[vl,vu,.none]}}:=I3.kept (t':=s3.toks) fun b ob q=>qae _ q;obtain⟨T,id,hT,ht,hg⟩:=hr Iv { s3 with heap:=s3.heap.push { cls:=.type "slice",data:=.fields #[vl,vu,.none]}} σ H3 x v vl vu l u s3.heap.objs.size Q I4 r1 (Heap.IsSliceOf.new ..) pl pu q3;exact tail_any ht hT hg (by with_unfolding_all rfl)
def lI(xs:List V)(lo hi:Option Int):List V:=(xs.drop (HT.sIx xs.length 0 lo)).take (HT.sIx xs.length xs.length hi - HT.sIx xs.length 0 lo)
def lb(xs:List V)(lo hi:Option Int):(lI xs lo hi).length<=xs.length:=by
 unfold lI;rw[qbJ,qbm];ext
def rSlT(K:qaa):V->Option Int->Option Int->Hp->VK->Prop:=fun x lo hi H Q=>∃a xs,x=.ref a/\SqT K H a xs /\
 ¬(HT.sIx xs.length 0 lo=0/\HT.sIx xs.length xs.length hi=xs.length)/\∀p,H p=none->Q (.ref p) (upd H p (.tup (lI xs lo hi)))
def sl_tup:SlR X (rSlT X.K):=by
 intro Iv s σ H x v vl vu lo hi sl Q I rx hs pl pu h;obtain⟨a,xs,rfl,hx,hw,q⟩:=h;cases rx;obtain⟨its,r,ht,hz⟩:=I.tuple hx;have hlen:its.toArray.size=xs.length:=by exact r.length.symm
 refine⟨"tuple",_,PyProof.Rows.slot_tuple_getitem.lookup,ht.typeIs,?_⟩;refine HT.k9 ht hs pl pu (by rw[hlen];exact hw) ?_ (by rw[hlen];exact hz);rw[hlen];refine⟨.ref s.heap.objs.size,_,I.laid (t':=s.toks) (fun b ob q=>qae _ q) (qah _) ?_,rfl,q _ (I.hok.fresh (qah _))⟩;exact⟨qaE (lb xs lo hi) hz,_,(r.drop (HT.sIx xs.length 0 lo)).take (HT.sIx xs.length xs.length hi - HT.sIx xs.length 0 lo),gT.new _ _⟩
def rCatT(K:qaa):R2:=fun x y H Q=>∃a b xs ys,x=.ref a/\y=.ref b/\SqT K H a xs/\SqT K H b ys/\xs≠[]/\xs.length+ys.length<=sizeLine /\
 (ys=[]->Q (.ref a) H)/\(ys≠[]->∀p,H p=none->Q (.ref p) (upd H p (.tup (xs++ys))))
def aF.nil_iff(r:aF xs us):us=[]↔xs=[]:=by
 cases r with
 | nil=>simp
 | cons _ _=>simp
def op_catT:OpR X (binaryOp .Add) (rCatT X.K):=by
 intro Iv s σ H x y v u Q I rx ry h;obtain⟨a,b,xs,ys,rfl,rfl,ha,hb,hx,hz,q1,q2⟩:=h;cases rx;cases ry;obtain⟨its,r1,p1,_⟩:=I.tuple ha;obtain⟨its2,r2,p2,_⟩:=I.tuple hb;refine HT.cat_tup p1 p2 (fun z=>hx (r1.nil_iff.mp z)) (fun z=>⟨.ref a,H,I,rfl,q1 (r2.nil_iff.mp z)⟩) (fun z=>?_) (by rw[<-r1.length,<-r2.length];exact hz);refine⟨.ref s.heap.objs.size,_,I.laid (t':=s.toks) (fun b ob q=>qae _ q) (qah _) ?_,rfl,q2 (fun w=>z (r2.nil_iff.mpr w)) _ (I.hok.fresh (qah _))⟩;exact⟨by rw[qaQ];exact hz,_,r1.append r2,gT.new _ _⟩
end
def ixN(n:Nat)(i:Int):Option Nat:=if 0<=i then (if i<n then some i.toNat else none) else if -(n:Int)<=i then some (i+n).toNat else none
def atI{α:Type}(xs:List α)(i:Int):Option α:=(ixN xs.length i).bind fun j=>xs[j]?
def tP(h:ixN n i=some j):seqIndex? i n=some j/\j<n /\ -(n:Int)<=i/\i<n:=by
 unfold ixN at h;by_cases h0:0<=i
 ·rw[qag h0] at h;by_cases h1:i<n
  ·rw[qag h1] at h;have e:=Option.some.inj h;exact⟨by rw[seqIndex_of h0 h1,e],by ext,by ext,h1⟩
  ·rw[qao h1] at h;cases h
 ·rw[qao h0] at h;by_cases h1:-(n:Int)<=i
  ·rw[qag h1] at h;have e:=Option.some.inj h;exact⟨by rw[seqIndex_neg (by ext) h1,e],by ext,h1,by ext⟩
  ·rw[qao h1] at h;cases h
def nW(h:atI xs i=some v):∃j,seqIndex? i xs.length=some j/\xs[j]?=some v/\j<xs.length /\ -(xs.length:Int)<=i/\i<xs.length:=by
 unfold atI at h
 cases e:ixN xs.length i with
 | none=>rw[e] at h;cases h
 | some j =>
  rw[e] at h;obtain⟨h1,h2,h3,h4⟩:=tP e;exact⟨j,h1,h,h2,h3,h4⟩
def dj{α:Type}{xs:List α}{j:Nat}{v:α}(h:xs[j]?=some v):atI xs (j:Int)=some v:=by
 have hj:=(qad.mp h).1;have e:ixN xs.length (j:Int)=some j:=by
  unfold ixN
  simp_all
 unfold atI;rw[e];exact h
def kU(b:Expr):Prop:=∀o i,subscripted b false o i=operate [o,i] (getItem o i)
def IxR(X:Cx)(r:R2):Prop :=
 ∀(value slice:Expr) (Iv:List (Addr × Obj)) (s:Shared) (σ:St) (H:Hp) (x y:V) (v u:Value) (Q:VK),Inv X Iv σ H s->aW x v->aW y u->r x y H Q ->
  subscripted slice false v u=operate [v,u] (getItem v u)->wpAny (model X.prog X.w) X.A (subscriptTail value slice v u) (EP X Iv σ Q) X.xe s
def MtR(X:Cx)(id:String)(r:V->List V->Hp->VK->Prop):Prop :=
 ∀(Iv:List (Addr × Obj)) (s:Shared) (σ:St) (H:Hp) (x:V) (xs:List V) (v:Value) (us:List Value) (Q:VK),Inv X Iv σ H s->aW x v->aF xs us->r x xs H Q ->
  wpAny (model X.prog X.w) X.A (call (.builtin id) (v::us)) (EP X Iv σ Q) X.xe s
section
variable {X:Cx} {a b:Expr} {ta tb:TE} {pos:Pos}
def IxR.or(h:IxR X r)(h':IxR X r'):IxR X (fun x y H Q=>r x y H Q\/r' x y H Q):=by
 intro value slice Iv s σ H x y v u Q I rx ry q hs;rcases q with q|q
 ·exact h value slice Iv s σ H x y v u Q I rx ry q hs
 ·exact h' value slice Iv s σ H x y v u Q I rx ry q hs
def pe_ix{r:R2}(hr:IxR X r)(ha:PE X a ta)(hb:PE X b tb)(hs:kU b):PE X (.Subscript a b pos) (tOp r ta tb):=by
 intro Iv s σ H Q I h;exact Subscript_ (binT ha hb I h fun v u s2 x y H2 I2 rx ry q=>hr a b Iv s2 σ H2 x y v u Q I2 rx ry q (hs _ _))
def rIxL(K:qaa):R2:=fun x y H Q=>∃p xs i v,x=.ref p/\y=.int i/\SqL K H p xs/\atI xs i=some v/\Q v H
def rIxT(K:qaa):R2:=fun x y H Q=>∃p xs i v,x=.ref p/\y=.int i/\SqT K H p xs/\atI xs i=some v/\Q v H
def rIxS:R2:=fun x y H Q=>∃z i c,x=.str z/\y=.int i/\z.length<=sizeLine/\atI z.cps.toList i=some c/\Q (.str ⟨#[c]⟩) H
def ix_list:IxR X (rIxL X.K):=by
 intro value slice Iv s σ H x y v u Q I rx ry h hs;obtain⟨p,xs,i,z,rfl,rfl,hq,he,q⟩:=h;cases rx;obtain⟨t,rfl⟩:=ry;obtain⟨its,r,pl,hz⟩:=I.list hq;obtain⟨j,h1,h2,h3,h4,h5⟩:=nW he;obtain⟨w,ew,rw'⟩:=r.get h2;have hl:=r.length;have hn:=lZ;have fin:EP X Iv σ Q w s:=⟨z,H,I,rw',q⟩;by_cases h0:0<=i
 ·have hj:i.toNat=j:=by
   rw[seqIndex_of h0 h5] at h1;exact Option.some.inj h1
  exact item_listR pl.isList h0 (by ext) (by rw[hj];simpa using ew) fin hs
 ·have hj:(i+(its.toArray.size:Int)).toNat=j:=by
   rw[seqIndex_neg (by ext) h4] at h1;rw[qap,<-hl];exact Option.some.inj h1
  exact subscriptTail_builtinR pl.isList.typeIs slot_list_getitem.lookup
   (wpAny_getItem_list_neg pl.isList (by ext) (by rw[qap] <;> ext) (by ext) (by rw[hj];simpa using ew) ⟨rfl,fin⟩) hs
def ix_tup:IxR X (rIxT X.K):=by
 intro value slice Iv s σ H x y v u Q I rx ry h hs;obtain⟨p,xs,i,z,rfl,rfl,hq,he,q⟩:=h;cases rx;obtain⟨t,rfl⟩:=ry;obtain⟨its,r,pl,hz⟩:=I.tuple hq;obtain⟨j,h1,h2,h3,h4,h5⟩:=nW he;obtain⟨w,ew,rw'⟩:=r.get h2;have hl:=r.length;have hn:=lZ;have fin:EP X Iv σ Q w s:=⟨z,H,I,rw',q⟩;exact subscriptTail_builtinR pl.typeIs slot_tuple_getitem.lookup
  (getItem_tuple pl (by ext) (by ext) (by rw[qap,<-hl];exact h1) (by simpa using ew) ⟨rfl,fin⟩) hs
def ix_str:IxR X rIxS:=by
 intro value slice Iv s σ H x y v u Q I rx ry h hs;obtain⟨z,i,c,rfl,rfl,hz,he,q⟩:=h;obtain⟨t,rfl⟩:=rx;obtain⟨t',rfl⟩:=ry;obtain⟨j,h1,h2,h3,h4,h5⟩:=nW he;have hl:z.cps.toList.length=z.length:=by simp[Str.length]
 rw[hl] at h1 h4 h5;have hn:=lZ
 exact tail_any (typeIs_str s z t) slot_str_getitem.lookup (getItem_str (by
  have e1:decide (i < -(2 ^ 63:Int))=false:=decide_eq_false (by ext);have e2:decide (i>=2 ^ 63)=false:=decide_eq_false (by ext)
  rw[e1,e2,Bool.or_false]) (by rw[h1];simpa using h2) ⟨.str ⟨#[c]⟩,H,I.tok _,⟨_,rfl⟩,q⟩) hs
def rIx(K:qaa):R2:=fun x y H Q=>rIxL K x y H Q\/rIxT K x y H Q\/rIxS x y H Q
def ix_seq:IxR X (rIx X.K):=ix_list.or (ix_tup.or ix_str)
def uL(its:List Value)(n j:Nat)(u:Value):Obj.mapSeq (·.setIfInBounds j u) { cls:=.type "list",data:=.seq its.toArray n}={ cls:=.type "list",data:=.seq (its.set j u).toArray n}:=by
 simp[Obj.mapSeq]
def Inv.lst{Iv:List (Addr × Obj)}{σ:St}{H:Hp}{s:Shared}{p:Addr}{xs:List V}(I:Inv X Iv σ H s)(h:H p=some (.lst xs)) :
  ∃(its:List Value) (n:Nat),aF xs its/\s.heap.get? p=some { cls:=.type "list",data:=.seq its.toArray n}/\xs.length<=sizeLine:=by
 obtain⟨z,its,n,r,e⟩:=I.hok p _ h;exact⟨its,n,r,e,z⟩
def Inv.lstUpd{Iv:List (Addr × Obj)}{σ:St}{H:Hp}{s:Shared}{p:Addr}{xs ys:List V}{its its':List Value}{n n':Nat}{f:Obj->Obj}(I:Inv X Iv σ H s)(h:H p=some (.lst xs))
  (ho:s.heap.get? p=some { cls:=.type "list",data:=.seq its.toArray n}) (hf:f { cls:=.type "list",data:=.seq its.toArray n}={ cls:=.type "list",data:=.seq its'.toArray n'}) (r:aF ys its') (hz:ys.length<=sizeLine) (t:Nat) :
  Inv X Iv σ (upd H p (.lst ys)) { s with heap:=s.heap.update p f,toks:=t}:=by
 have e:(s.heap.update p f).get? p=some { cls:=.type "list",data:=.seq its'.toArray n'}:=by
  rw[qbw f ho (by rw[hf] <;> rfl),hf]
 refine I.write (by rw[h];trivial) (.inl rfl) (fun b u hb q=>(qbL _ _ (Ne.symm hb)).trans q) ⟨_,e⟩ ?_;exact⟨hz,its',n',r,e⟩
def rSetL:V->V->V->Hp->(Hp->Prop)->Prop:=fun o i v H Q=>∃p xs k j,o=.ref p/\i=.int k/\H p=some (.lst xs)/\ixN xs.length k=some j/\Q (upd H p (.lst (xs.set j v)))
def yB:PSet X rSetL:=by
 intro Iv s σ H o i v ov iv u Q I ro ri rv h;obtain⟨p,xs,k,j,rfl,rfl,hp,hj,q⟩:=h;cases ro;obtain⟨t,rfl⟩:=ri;obtain⟨its,n,r,ho,hz⟩:=I.lst hp;obtain⟨h1,h2,h3,h4⟩:=tP hj;have hl:=r.length;have hn:=lZ;have I' :=
  I.lstUpd hp ho (uL its n j u) (r.set rv j) (by rw[List.length_set];exact hz) s.toks
 by_cases h0:0<=k
 ·have hk:k.toNat=j:=by
   rw[seqIndex_of h0 h4] at h1;exact Option.some.inj h1
  exact PySem.W.ki_setAt ho h0 (by ext) (by rw[qap,<-hl];exact h4) (by rw[hk];exact⟨_,I',q⟩)
 ·have hk:(k+(its.toArray.size:Int)).toNat=j:=by
   rw[seqIndex_neg (by ext) h3] at h1;rw[qap,<-hl];exact Option.some.inj h1
  exact PySem.W.ki_setBack ho (by ext) (by rw[qap,<-hl];exact h3) (by ext) (by rw[hk];exact⟨_,I',q⟩)
def re(lo hi:Option Int)(n:Nat):(sliceBounds lo hi none n).1=((HT.sIx n 0 lo:Nat):Int)/\(sliceBounds lo hi none n).2.1=((HT.sIx n n hi:Nat):Int)/\(sliceBounds lo hi none n).2.2=1:=by
 refine⟨?_,?_,rfl⟩
 ·cases lo with
  | none=>simp[sliceBounds,HT.sIx]
  | some i =>
   simp only[sliceBounds,HT.sIx,Option.getD_none,show (1:Int)>0 by decide,if_true];by_cases h:i<0
   ·simp only[h,if_true] <;> ext
   ·simp only[h,if_false] <;> ext
 ·cases hi with
  | none=>simp[sliceBounds,HT.sIx]
  | some i =>
   simp only[sliceBounds,HT.sIx,Option.getD_none,show (1:Int)>0 by decide,if_true];by_cases h:i<0
   ·simp only[h,if_true] <;> ext
   ·simp only[h,if_false] <;> ext
def pi(its:List Value)(lo hi:Option Int):slicePick its.toArray lo hi none=((its.drop (HT.sIx its.length 0 lo)).take (HT.sIx its.length its.length hi - HT.sIx its.length 0 lo)).toArray:=by
 obtain⟨h1,h2,h3⟩:=re lo hi its.toArray.size;unfold slicePick;rw[h1,h2,h3];simp only[sliceRange_one,pick_run] <;> rfl
def rSlL(K:qaa):V->Option Int->Option Int->Hp->VK->Prop:=fun x lo hi H Q=>∃a xs,x=.ref a/\SqL K H a xs/\∀p,H p=none->Q (.ref p) (upd H p (.lst (lI xs lo hi)))
def sn:SlR X (rSlL X.K):=by
 intro Iv s σ H x v vl vu lo hi sl Q I rx hs pl pu h;obtain⟨a,xs,rfl,hx,q⟩:=h;cases rx;obtain⟨its,r,ht,hz⟩:=I.list hx;have hlen:=r.length;refine⟨"list",_,slot_list_getitem.lookup,ht.isList.typeIs,?_⟩;refine wpAny_getItem_list_slice ht.isList hs pl pu .none (by simp) ?_ (by rw[qap] <;> ext);rw[pi,<-hlen];refine⟨.ref s.heap.objs.size,_,I.laid (t':=s.toks) (fun b ob q=>qae _ q) (qah _) ?_,rfl,q _ (I.hok.fresh (qah _))⟩;exact⟨qaE (lb xs lo hi) hz,_,0,(r.drop (HT.sIx xs.length 0 lo)).take (HT.sIx xs.length xs.length hi - HT.sIx xs.length 0 lo),qaz _ rfl⟩
def qL:cF X (.type "list") (fun xs H Q=>∃p ys,xs=[.ref p]/\(SqL X.K H p ys\/SqT X.K H p ys)/\∀l,H l=none->Q (.ref l) (upd H l (.lst ys))):=by
 intro Iv s σ H xs us Q I r h;obtain⟨p,ys,rfl,hq,q⟩:=h;obtain⟨u,rfl,rx⟩:=eX r;cases rx;have fin:∀(its:List Value),aF ys its->ys.length<=sizeLine->∀(h':Heap) (c':Nat),(∀b o',s.heap.get? b=some o'->h'.get? b=some o') ->
   h'.get? s.heap.objs.size=some { cls:=.type "list",dict:=none,data:=.seq its.toArray c',slots:=#[]}->EP X Iv σ Q (.ref s.heap.objs.size) { s with heap:=h'}:=fun its r' hz h' c' kp e =>
  ⟨.ref s.heap.objs.size,_,I.laid (t':=s.toks) kp (qah _) (show ObjOk X.prog X.w _ h' _ (.lst ys) from⟨hz,its,c',r',e⟩),rfl,q _ (I.hok.fresh (qah _))⟩
 rcases hq with hq|hq
 ·obtain⟨its,r',pl,hz⟩:=I.list hq;have hlen:=r'.length;obtain⟨o,ho,hc,n,hd⟩:=pl.isList;exact call_list_seq p (.inl rfl) ho hc hd (fun h' c' kp e=>fin its r' hz h' c' kp e) (by simp only[qap] <;> ext)
 ·obtain⟨its,r',pl,hz⟩:=I.tuple hq;have hlen:=r'.length;obtain⟨o,ho,hc,n,hd⟩:=pl;exact call_list_seq p (.inr rfl) ho hc hd (fun h' c' kp e=>fin its r' hz h' c' kp e) (by simp only[qap] <;> ext)
def jA:cF X (.type "tuple") (fun xs H Q=>∃p ys,xs=[.ref p]/\((SqL X.K H p ys/\∀l,H l=none->Q (.ref l) (upd H l (.tup ys)))\/(SqT X.K H p ys/\Q (.ref p) H))):=by
 intro Iv s σ H xs us Q I r h;obtain⟨p,ys,rfl,h⟩:=h;obtain⟨u,rfl,rx⟩:=eX r;cases rx;rcases h with ⟨hq,q⟩|⟨hq,q⟩
 ·obtain⟨its,r',pl,hz⟩:=I.list hq;have hlen:=r'.length;refine call_tuple_list pl.isList (fun h' kp=>?_) (by simp only[qap] <;> ext);have I1:=I.kept (t':=s.toks) kp;have I2 :=
   I1.laid (t':=s.toks) (fun b o e=>qae _ e) (qah _) (show ObjOk X.prog X.w _ _ _ (.tup ys) from⟨hz,its,r',gT.new _ _⟩)
  exact⟨.ref h'.objs.size,_,I2,rfl,q _ (I1.hok.fresh (qah _))⟩
 ·obtain⟨its,r',pl,hz⟩:=I.tuple hq;exact call_tuple_same pl ⟨.ref p,H,I,rfl,q⟩
def tyV(K:qaa)(T:String)(x:V)(H:Hp):Prop:=match x with
 | .str _=>T="str"
 | .int _=>T="int"
 | .ref p=>(T="list"/\∃xs,SqL K H p xs)\/(T="tuple"/\∃o,K.lookup p=some o/\o.cls=.type "tuple"/\o.dict=none) \/
   (T="dict"/\((∃kvs,H p=some (.dK kvs))\/∃kvs,H p=some (.dT kvs)))\/(T="set"/\∃S n,H p=some (.set S n))
 | _=>False
def vi{Iv:List (Addr × Obj)}{σ:St}{H:Hp}{s:Shared}{T:String}{x:V}{v:Value}(I:Inv X Iv σ H s)(r:aW x v)(ty:tyV X.K T x H) :
  s.TypeIs v T/\∀a,v=.ref a->∃ob,s.heap.get? a=some ob/\ob.dict=none:=by
 cases x with
 | str z =>
  obtain⟨t,rfl⟩:=r;cases (ty);exact⟨typeIs_str s z t,fun _ e=>nomatch e⟩
 | int i =>
  obtain⟨t,rfl⟩:=r;cases (ty);exact⟨typeIs_int s i t,fun _ e=>nomatch e⟩
 | ref p =>
  cases r;rcases ty with ⟨rfl,xs,hq⟩|⟨rfl,o,hk,hc,hd⟩|⟨rfl,hk⟩|⟨rfl,S,n,hk⟩
  ·obtain⟨its,_,pl,_⟩:=I.list hq;refine⟨pl.isList.typeIs,fun a e=>?_⟩;cases e;obtain⟨o,n,e,c,hd,_⟩:=pl;exact⟨o,e,hd⟩
  ·refine⟨⟨o,I.kIn p o hk,hc⟩,fun a e=>?_⟩;cases e;exact⟨o,I.kIn _ o hk,hd⟩
  ·have z:∃o,s.heap.get? p=some o/\o.ExactDict:=by
    rcases hk with ⟨kvs,hk⟩|⟨kvs,hk⟩
    ·obtain⟨_,_,_,_,o,_,_,e,ex,_⟩:=I.hok p _ hk;exact⟨o,e,ex⟩
    ·obtain⟨_,_,_,_,o,_,_,e,ex,_⟩:=I.hok p _ hk;exact⟨o,e,ex⟩
   obtain⟨o,e,ex⟩:=z;refine⟨⟨o,e,ex.1⟩,fun a e2=>?_⟩;cases e2;exact⟨o,e,ex.2.1⟩
  ·obtain⟨o,_,_,_,e,ex,_⟩:=I.hok p _ hk;refine⟨⟨o,e,ex.1⟩,fun a e2=>?_⟩;cases e2;exact⟨o,e,ex.2.1⟩
 | _=>exact False.elim ty
def tBM0(K:qaa)(T:String)(r:V->List V->Hp->VK->Prop)(to:TE):TE:=fun σ H Q=>to σ H fun x H1=>tyV K T x H1/\r x [] H1 Q
def tBM(K:qaa)(T:String)(r:V->List V->Hp->VK->Prop)(to:TE)(t:TA):TE:=fun σ H Q=>to σ H fun x H1=>tyV K T x H1/\t σ H1 fun xs H2=>r x xs H2 Q
variable {o e:Expr} {es:List Expr} {to:TE} {t:TA} {name:Str} {apos cpos:Pos} {T id:String} {r:V→List V→Hp→VK→Prop}
def pe_bm0(pa:PlainAttrs T)(slot:Slot T name id)(hty:typeOf (.builtin id)=pure (.type "method_descriptor"))(hm:MtR X id r)(ho:PE X o to)
  (hbase:attributeBase o name X.env (eval o X.env)=eval o X.env:=by rfl) (hline:(apos.endLine == cpos.line)=true:=by rfl):PE X (.Call (.Attribute o name apos) [] [] cpos) (tBM0 X.K T r to):=by
 intro Iv s σ H Q I h;refine wpAny_Call_method0_late hbase hline (thn (ho Iv s σ H _ I h) fun v s1 ⟨x,H1,I1,r1,ty,q1⟩=>?_);obtain⟨h1,h2⟩:=vi I1 r1 ty;exact⟨T,id,pa,slot,hty,h1,h2,Calls.callWith_builtin rfl (PySem.evalArgs_none (hm Iv s1 σ H1 x [] v [] Q I1 r1 .nil q1))⟩
def pe_bm(pa:PlainAttrs T)(slot:Slot T name id)(hty:typeOf (.builtin id)=pure (.type "method_descriptor"))(hm:MtR X id r)(ho:PE X o to)(ha:PA X (e::es) t)
  (hbase:attributeBase o name X.env (eval o X.env)=eval o X.env:=by rfl)
  (hfew:((backTo cpos (starEach (e::es) X.env)).all (fun x=>!x.1) && (backToKw cpos (keywordEach [] X.env)).all (fun x=>x.1.isSome)
   && decide ((e::es).length+([]:List Keyword).length+(if ([]:List Keyword).isEmpty then 0 else 1)<30))=true:=by rfl)
  (hline:(apos.endLine == cpos.line)=true:=by rfl) (hs:starEach (e::es) X.env=(false,eval e X.env)::starEach es X.env:=by rfl) (hplain:(backTo cpos (starEach es X.env)).any (·.1)=false:=by rfl) :
  PE X (.Call (.Attribute o name apos) (e::es) [] cpos) (tBM X.K T r to t):=by
 intro Iv s σ H Q I h;refine wpAny_Call_method_late hbase hfew hline rfl (thn (ho Iv s σ H _ I h) fun v s1 ⟨x,H1,I1,r1,ty,q1⟩=>?_);obtain⟨h1,h2⟩:=vi I1 r1 ty;refine⟨T,id,pa,slot,hty,h1,h2,?_⟩;have hA:=ha cpos Iv s1 σ H1 _ I1 q1;rw[hs] at hA ⊢;refine Calls.callWith_builtin (by show (false || (backTo cpos (starEach es X.env)).any (·.1))=false;rw[hplain] <;> rfl) (Calls.evalArgs_plain ?_);exact thn hA fun us s2 ⟨vs,H2,I2,r2,q2⟩=>hm Iv s2 σ H2 x vs v us Q I2 r1 r2 q2
end
def MtM(X:Cx)(id:String)(r:V->List V->Hp->VK->Prop):Prop :=
 ∀(Iv:List (Addr × Obj)) (s:Shared) (σ:St) (H:Hp) (x:V) (xs:List V) (v:Value) (us:List Value) (Q:VK),Inv X Iv σ H s->aW x v->aF xs us->r x xs H Q ->
  wpAny (model X.prog X.w) X.A (call (.builtin id) (v::us)) (EP X Iv σ Q) X.xe s
def aF.zero(h:aF [] us):us=[]:=by cases h;rfl
def aF.one(h:aF [x] us):∃u,us=[u]/\aW x u:=by
 cases h with|cons r t=>exact⟨_,by rw[aF.zero t],r⟩
def aF.reverse(h:aF xs us):aF xs.reverse us.reverse:=by
 induction h with
 | nil=>exact .nil
 | cons r t ih=>rw[qbA,qbA];exact aF.append ih (.cons r .nil)
def aF.rep(h:aF xs us):∀k:Nat,aF (List.replicate k xs).flatten (List.replicate k us).flatten
 | 0=>.nil
 | k+1=>by
  exact aF.append h (aF.rep h k)
def oU(its:List Value):∀(k:Nat) (acc:List Value),
  List.foldl (fun x1 x2=>x1++x2) acc.toArray (List.replicate k its.toArray)=(acc++(List.replicate k its).flatten).toArray
 | 0,acc=>by simp
 | k+1,acc=>by
  have e:acc.toArray++its.toArray=(acc++its).toArray:=by simp
  have e2:(acc++its)++(List.replicate k its).flatten=acc++(List.replicate (k+1) its).flatten:=by
   rw[List.replicate_succ,List.flatten_cons,qbf]
  rw[<-e2,<-oU its k (acc++its),<-e,List.replicate_succ,qcE]
section
variable {X:Cx} {Iv:List (Addr × Obj)} {σ:St} {H:Hp} {s:Shared} {l b:Addr} {xs ys zs:List V}
def Inv.lset{its its':List Value}{n:Nat}{f:Array Value->Array Value}{t':Nat}(I:Inv X Iv σ H s)(hH:H l=some (.lst xs))
  (e:s.heap.get? l=some { cls:=.type "list",data:=.seq its.toArray n}) (hf:f its.toArray=its'.toArray) (hv:aF ys its') (hz:ys.length<=sizeLine) :
  Inv X Iv σ (upd H l (.lst ys)) { s with heap:=s.heap.update l (Obj.mapSeq f),toks:=t'}:=by
 have q:=PySem.IsL.update e f;rw[hf] at q;refine I.write (x:=l) (e:=l) (by rw[hH];exact trivial) (.inl rfl) (fun b' u hb hu=>(qbL s.heap (Obj.mapSeq f) (Ne.symm hb)).trans hu) ⟨_,q⟩ ?_;exact⟨hz,its',_,hv,q⟩
def Inv.lnew(I:Inv X Iv σ H s)(hv:aF ys its)(hz:ys.length<=sizeLine) :
  Inv X Iv σ (upd H s.heap.objs.size (.lst ys)) { s with heap:=s.heap.push { cls:=.type "list",data:=.seq its.toArray},toks:=t'} :=
 I.laid (fun _ _ q=>qae _ q) (qah _) ⟨hz,its,0,hv,qaz _ rfl⟩
def Inv.fresh(I:Inv X Iv σ H s):H s.heap.objs.size=none:=I.hok.fresh (qah _)
def Inv.lstM(I:Inv X Iv σ H s)(hH:H l=some (.lst xs)):xs.length<=sizeLine/\∃(its:List Value) (n:Nat),aF xs its/\xs.length=its.length/\s.heap.get? l=some { cls:=.type "list",data:=.seq its.toArray n}:=by
 obtain⟨z,its,n,r,e⟩:=I.hok l _ hH;exact⟨z,its,n,r,r.length,e⟩
def lK(h:n<=sizeLine):Builtin.List.listTooLong n=false:=by
 unfold Builtin.List.listTooLong;exact decide_eq_false (by ext)
end
section
variable {X:Cx}
def rAppend:V->List V->Hp->VK->Prop:=fun x vs H Q=>∃l xs y,x=.ref l/\vs=[y]/\H l=some (.lst xs)/\xs.length<sizeLine/\Q .non (upd H l (.lst (xs++[y])))
def oP:MtM X "list.append" rAppend:=by
 intro Iv s σ H x vs v us Q I rx rv h;obtain⟨l,xs,y,rfl,rfl,hH,hz,q⟩:=h;cases rx;obtain⟨u,rfl,ru⟩:=rv.one;obtain⟨z,its,n,r,hl,e⟩:=I.lstM hH;refine call_meets F.slot_list_append ⟨_,e,rfl⟩ F.entry_list_append (F.args_list_append_2 _ _) (PySem.list_append l its.toArray n u (by rw[qap];ext)) ⟨e,?_⟩;refine⟨.non,_,I.lset (its':=its++[u]) hH e (by simp) (r.append (.cons ru .nil)) ?_,rfl,q⟩
 grind
def rExtend:V->List V->Hp->VK->Prop:=fun x vs H Q=>∃l b xs zs,x=.ref l/\vs=[.ref b]/\H l=some (.lst xs)/\H b=some (.lst zs)/\xs.length+zs.length<=sizeLine/\Q .non (upd H l (.lst (xs++zs)))
def wJ:MtM X "list.extend" rExtend:=by
 intro Iv s σ H x vs v us Q I rx rv h;obtain⟨l,b,xs,zs,rfl,rfl,hH,hB,hz,q⟩:=h;cases rx;obtain⟨u,rfl,ru⟩:=rv.one;cases ru;obtain⟨z,its,n,r,hl,e⟩:=I.lstM hH;obtain⟨z2,its2,n2,r2,hl2,e2⟩:=I.lstM hB;have hsz:its.toArray.size+its2.toArray.size<=sizeLine:=by rw[qap,qap];ext
 have hlong:¬(!its.toArray.isEmpty && Builtin.List.listTooLong (its.toArray.size+its2.toArray.size))=true:=by
  rw[lK hsz,qci];exact qbM
 refine call_meets F.slot_list_extend ⟨_,e,rfl⟩ F.entry_list_extend (F.args_list_extend_2 _ _)
  (AutoSeq1.list_extend_list_list_0 l its.toArray n b its2.toArray n2 hlong (by rw[qap];ext) (by ext)) ⟨e,e2,?_⟩
 refine⟨.non,_,I.lset (its':=its++its2) hH e (by simp) (r.append r2) ?_,rfl,q⟩;rw[qaQ];ext
def rReverse:V->List V->Hp->VK->Prop:=fun x vs H Q=>∃l xs,x=.ref l/\vs=[]/\H l=some (.lst xs)/\Q .non (upd H l (.lst xs.reverse))
def uz:MtM X "list.reverse" rReverse:=by
 intro Iv s σ H x vs v us Q I rx rv h;obtain⟨l,xs,rfl,rfl,hH,q⟩:=h;cases rx;have hus:=rv.zero;subst hus;obtain⟨z,its,n,r,hl,e⟩:=I.lstM hH;refine call_meets F.slot_list_reverse ⟨_,e,rfl⟩ F.entry_list_reverse (F.args_list_reverse_1 _) (AutoSeq1.list_reverse_list_0 l its.toArray n (by rw[qap];ext)) ⟨e,?_⟩;refine⟨.non,_,I.lset (its':=its.reverse) hH e (by simp) r.reverse ?_,rfl,q⟩;rw[List.length_reverse];ext
def rCat:R2:=fun x y H Q=>∃l b xs zs,x=.ref l/\y=.ref b/\H l=some (.lst xs)/\H b=some (.lst zs)/\xs.length+zs.length<=sizeLine/\∀p,H p=none->Q (.ref p) (upd H p (.lst (xs++zs)))
def op_cat:OpR X (binaryOp .Add) rCat:=by
 intro Iv s σ H x y v u Q I rx ry h;obtain⟨l,b,xs,zs,rfl,rfl,hH,hB,hz,q⟩:=h;cases rx;cases ry;obtain⟨z,its,n,r,hl,e⟩:=I.lstM hH;obtain⟨z2,its2,n2,r2,hl2,e2⟩:=I.lstM hB;refine PySem.P.add_list e e2 ?_ (by rw[qap,qap];ext);have ea:its.toArray++its2.toArray=(its++its2).toArray:=by simp
 rw[ea];exact⟨.ref _,_,I.lnew (t':=s.toks) (r.append r2) (by rw[qaQ];ext),rfl,q _ I.fresh⟩
def rRep:R2:=fun x y H Q=>∃l k xs,x=.ref l/\y=.int k/\H l=some (.lst xs) /\ -(2 ^ 63)<=k/\k<2 ^ 63/\xs.length * k.toNat<=sizeLine /\
 ∀p,H p=none->Q (.ref p) (upd H p (.lst (List.replicate k.toNat xs).flatten))
def sC{α:Type}(xs:List α)(k:Nat):(List.replicate k xs).flatten.length=k * xs.length:=by simp
def op_rep:OpR X (binaryOp .Mult) rRep:=by
 intro Iv s σ H x y v u Q I rx ry h;obtain⟨l,k,xs,rfl,rfl,hH,h1,h2,hz,q⟩:=h;cases rx;obtain⟨t,rfl⟩:=ry;obtain⟨z,its,n,r,hl,e⟩:=I.lstM hH;have hlen:its.toArray.size * k.toNat<=sizeLine:=by rw[qap,<-hl];exact hz
 have hcap:¬its.toArray.size * k.toNat>(2 ^ 63 - 1) / 8:=by
  have:(sizeLine:Nat)<=(2 ^ 63 - 1) / 8:=by decide
  ext
 have hfit:¬(!Builtin.List.listFitsIndex k)=true:=by
  rw[fitsIndex_both h1 h2];exact qbM
 have hlong:¬Builtin.List.listTooLong (its.toArray.size * k.toNat)=true:=by
  rw[lK hlen];exact qbM
 have hnew:List.foldl (fun x1 x2=>x1++x2) #[] (List.replicate (if its.toArray.isEmpty=true then 0 else k.toNat) its.toArray)=(List.replicate k.toNat its).flatten.toArray:=by
  have f0:∀m:Nat,List.foldl (fun x1 x2=>x1++x2) #[] (List.replicate m its.toArray)=(List.replicate m its).flatten.toArray:=fun m=>by
   have:=oU its m []
   exact this
  rw[f0]
  cases its with
  | nil=>simp
  | cons a r'=>rw[qao (by simp)]
 refine wpAny_binaryOp_repeat_ref (by decide) ⟨_,e,rfl⟩ (fun s'=>typeIs_int s' k t) noFill_list_mul F.fills_int_mul F.slot_int_rmul repeat_list F.slot_int_index.lookup
  (call_meets F.slot_int_rmul (typeIs_int s k t) F.entry_int_rmul (F.args_int_rmul_2 _ _) (int___rmul___int_list k t l its.toArray n)
   ⟨e,rfl,⟨_,e,rfl⟩,call_meets F.slot_list_mul ⟨_,e,rfl⟩ F.entry_list_mul (F.args_list_mul_2 _ _) (AutoListH.list___mul___list_int_3 l its.toArray n k t hfit hcap hlong) ⟨e,?_⟩⟩)
 rw[hnew];exact⟨.ref _,_,I.lnew (t':=s.toks) (r.rep k.toNat) (by rw[sC,Nat.mul_comm];exact hz),rfl,q _ I.fresh⟩
end
section
variable {prog:Program} {w:World} {A:Around} {E:Value→Shared→Prop} {s:Shared}
end
section
variable {X:Cx}
end
end L2
namespace Att
open PySem PySem.W PySem.Calls PyProof.Rows
def nj:∀(ns:List Int) (vs:List Value),WellAll P h vs (ns.map WData.int)->IntsAre vs ns:=by
 intro ns
 induction ns with
 | nil =>
  intro vs w;rw[qbF] at w;cases w;exact .nil
 | cons n ns ih =>
  intro vs w;rw[qaF] at w
  cases w with
  | cons a b =>
   cases a;exact .cons _ _ (ih _ b)
def vx{l:OpenLaw}{n:Nat}(hn:l.most=some n){P:Params}{h:Heap}{args:List WData}{vals:List Value}
  (hpre:l.row.toRowW.claim.pre args=true) (hwl:WellAll P h vals args) :
  ∃a vs ns,vals=[Value.ref a]/\args=[WData.list (ns.map WData.int)]/\h.get? a=some { cls:=.type "list",data:=.seq vs.toArray}/\IntsAre vs ns/\ns.length<=n:=by
 have hsh:=(pre_splitW hpre).1;have hc:=(pre_splitW hpre).2;obtain⟨d,r,rfl,h1,h2⟩:=hasAllW_cons hsh;obtain rfl:=hasAllW_nil h2;obtain⟨xs,rfl,h3⟩:=hasW_list h1;obtain⟨ns,rfl⟩:=items_int h3;have hlen:ns.length<=n:=by
  have h4:(WTm.not (.lt (.lit (.int (n:Int))) (.len (.arg 0)))).holds [] { args:=[.list (ns.map .int)]}=true:=by
   have h4:=(holds_andW hc).1;rw[hn] at h4;exact h4
  have h5:=condW_of h4 (w_not (w_lt w_lit (w_len_list (w_arg rfl))))
  simp_all
 cases hwl with
 | cons w1 w2 =>
  cases w2
  cases w1 with
  | list ho hall=>exact⟨_,_,ns,rfl,rfl,ho,nj ns _ hall,hlen⟩
def wI(l:OpenLaw)(args:List WData):l.row.toRowW.claim.post args (.bool true) args=true :=
 postW_of
  (show WShape.has [] (.bool true) .bool=true by first | rfl | decide | simp)
  (w_eq_bool (w_res rfl) w_lit) rfl
def rP{l:OpenLaw}{n:Nat}{q:Program}{loose:List Str}{XP:(Str->Option Value)->Heap->Prop}{YP:World->Heap->Prop}{d:DefRec}
  (hn:l.most=some n) (hdf:d.params.defaults=[])
  (call:∀(w:World) (s₀ s₁:Shared) (mg mb:Str->Option Value) (fa:Addr) (o:Obj) (pm cd doc:Value) (a:Addr) (vs:List Value) (ns:List Int),
   Ground q loose [] XP w s₀ mg mb s₁.heap->YP w s₁.heap ->
   s₁.heap.get? fa=some o->o.data=.func (docDef d.name d.params d.body d.scope pm cd doc)->s₁.heap.CodeRec cd d.name->mg d.name=some (.ref fa) ->
   s₁.heap.get? a=some { cls:=.type "list",data:=.seq vs.toArray}->IntsAre vs ns->ns.length<=n->s₁.gens=#[] ->
   codeAny (model l.prog w) callerA (.call (.ref fa) ⟨[.ref a],[]⟩) (fun r s'=>r=.ok (.ret (.bool true))/\OldK s₁.heap s'.heap/\s'.os=s₁.os/\AllBare s'.gens) s₁) :
  WalkO q loose XP YP l.row.toRowW d [] (fun f vs=>PySem.call f vs):=by
 intro w s₀ s₁ mg mb G Y fa o pm cd doc dV kV ho hd hcd hD hmg hg args vals as hpre hlay hrd hwl hlo;obtain rfl:=Dflts.none hD hdf;obtain rfl:=Dflts.noKw hD;obtain⟨a,vs,ns,rfl,rfl,hobj,hints,hlen⟩:=vx hn hpre hwl;refine enter_call (codeAny_mono (call w s₀ s₁ mg mb fa o pm cd doc a vs ns G Y ho (fd_plain hd) hcd hmg hobj hints hlen hg) fun r s' hq=>?_);obtain⟨rfl,h2,h3,h4⟩:=hq;exact⟨.inl ⟨.bool true,.bool true,[],rfl,fun _=>rfl,.bool true,wI l _,fun _=>⟨List.Pairwise.nil,fun _ hm=>(nomatch hm)⟩⟩,h2,h3,h4⟩
section
variable {prog:Program} {w:World} {A:Around} {E:Value→Shared→Prop} {s:Shared} {K:Frag}
end
end Att
namespace L2
open PySem PySem.Spec PyProof.Rows
def oB:∀{vs:List Value} {ns:List Int},IntsAre vs ns->aF (ns.map V.int) vs
 | _,_,.nil=>.nil
 | _,_,.cons n t h=>.cons ⟨t,rfl⟩ (oB h)
def Only(H:Hp):Prop:=∀b,H b=none\/∃o xs,H b=some (.frz o (.lst xs))
def yb{P:Program}{w:World}{K:qaa}{mg mb:Str->Option Value}{CX:CXT}{k:Nat}{fa a:Addr}{fd:FuncData}{x:Str}{sp:Sp}{s₁:Shared}{vs:List Value}{ns:List Int}
  (KX:K.In s₁.heap) (hns:s₁.heap.Ns mainGlobals mg) (hb:s₁.heap.Ns builtinsNs mb) (hbb:∀x:Str,x≠"__name__"->mb x=bootBuiltins x) (hlim:s₁.heap.NoLimit) (hg:s₁.gens=#[])
  (ha:s₁.heap.get? a=some { cls:=.type "list",data:=.seq vs.toArray}) (hi:IntsAre vs ns) (hl:ns.length<=sizeLine) (hr:Room k callerA)
  (F:∀base:Heap,K.In base->base.Ns mainGlobals mg->FnOk P w K mg base CX k fa fd [x] sp) (hbind:∀(s:Shared) (u:Value),BindsTo s fd ⟨[u],[]⟩ [(x,u)])
  (hsp:∀H:Hp,Only H->SqL K H a (ns.map V.int)->sp [.ref a] H (fun v _=>v=.bl true) fun _ _ _=>False)
  (hCX:∀H e s',CX [] H s₁ (fun _ _ _=>False) e s'->False) :
  codeAny (model P w) callerA (.call (.ref fa) ⟨[.ref a],[]⟩) (fun r s'=>r=.ok (.ret (.bool true))/\OldK s₁.heap s'.heap/\s'.os=s₁.os/\AllBare s'.gens) s₁:=by
 have rv:=oB hi;have lenV:=hi.length;have core:∀H:Hp,Only H->SqL K H a (ns.map V.int)->HOk P w H s₁.heap->(∀b,H b≠none->b=a)->(H a≠none->K.lookup a=none) ->
   codeAny (model P w) callerA (.call (.ref fa) ⟨[.ref a],[]⟩) (fun r s'=>r=.ok (.ret (.bool true))/\OldK s₁.heap s'.heap/\s'.os=s₁.os/\AllBare s'.gens) s₁:=by
  intro H hO hS hok hA hK;have base_of:∀{b:Addr} {o:Obj},s₁.heap.get? b=some o->H b=none->(jf s₁.heap H).get? b=some o:=fun e n=>xq e n;have noA:∀{b:Addr} {o:Obj} {es:Array DictEntry} {ep:Nat},s₁.heap.get? b=some o->o.data=.dict es ep->H b=none:=fun {b o es ep} e d=>by
   cases q:H b with
   | none=>rfl
   | some u =>
    have e':b=a:=hA b (by rw[q];simp);subst e';rw[ha] at e;cases e;have d':Data.seq vs.toArray _=Data.dict es ep:=d;cases d'
  have nsK:∀{b:Addr} {m:Str->Option Value},s₁.heap.Ns b m->(jf s₁.heap H).Ns b m:=fun {b m} ⟨o,es,ep,e,d,r⟩=>⟨o,es,ep,base_of e (noA e d),d,r⟩
  have hKb:K.In (jf s₁.heap H):=fun b o e=>base_of (KX b o e) (by
   cases q:H b with
   | none=>rfl
   | some u =>
    have e':b=a:=hA b (by rw[q];simp);subst e'
    rw[hK (by rw[q];simp)] at e;cases e)
  have hM:Mod K mg (jf s₁.heap H):=⟨hKb,nsK hns,⟨mb,nsK hb,hbb⟩,let ⟨mc,h1,h2⟩:=hlim;⟨mc,nsK h1,h2⟩⟩;have e0:Env0 P w K mg (jf s₁.heap H) callerA [] s₁ H:=⟨rfl,hM,fun b o e=>of_hidT e,Nat.le_of_eq (vj _ _),trivial,fun b hb=>absurd (show b∈([]:List Addr) from hb) (by simp),hok,.of_eq hg⟩;refine codeAny_mono ((F _ hKb (nsK hns)).run callerA [] s₁ H ⟨[.ref a],[]⟩ [.ref a] [.ref a] _ _ hr e0 (hbind s₁ (.ref a)) (.cons rfl .nil) (hsp H hO hS)) fun r s' h=>?_
  cases r with
  | error e=>exact (hCX H e s' h).elim
  | ok fl =>
   cases fl with
   | next=>exact False.elim h
   | brk=>exact False.elim h
   | cont=>exact False.elim h
   | ret u =>
    obtain⟨v,H',os,bare,un,hok',r',q⟩:=h;have q':v=.bl true:=q;subst q';obtain rfl:u=Value.bool true:=r';refine⟨rfl,OldK.of_keep fun b o e=>?_,os,bare⟩
    cases q:H b with
    | none=>exact un.keep b o e q (by intro z;exact absurd (show b∈([]:List Addr) from z) (by simp)) (by simp)
    | some u =>
     rcases hO b with z|⟨ob,xs,z⟩
     ·rw[q] at z;cases z
     ·have z2:=un.frzs b ob _ z;obtain⟨e1,_⟩:=hok b _ z;obtain⟨e2,_⟩:=hok' b _ z2;rw[e] at e1;cases e1;exact e2
 cases hk:K.lookup a with
 | some o =>
  have e:=KX a o hk;rw[ha] at e;cases e;refine core (fun _=>none) (fun _=>.inl rfl) (.inr ⟨_,vs.toArray,_,hk,rfl,rfl,rfl,by rw[qap,lenV];exact hl,by simpa using rv⟩) (fun b u z=>by have z':(none:Option HO)=some u:=z;cases z') (fun b z=>absurd rfl z) fun z=>absurd rfl z
 | none =>
  refine core (fun b=>if b=a then some (.frz { cls:=.type "list",data:=.seq vs.toArray} (.lst (ns.map V.int))) else none) (fun b=>?_) (.inl (.inr ⟨{ cls:=.type "list",data:=.seq vs.toArray},qag rfl⟩)) (fun b u z=>?_) (fun b z=>?_) fun _=>hk
  ·by_cases hb:b=a
   ·exact .inr ⟨_,_,qag hb⟩
   ·exact .inl (qao hb)
  ·by_cases hb:b=a
   ·have z':=(qag hb).symm.trans z;cases z';subst hb;exact⟨ha,by rw[qal];exact hl,vs,_,rv,ha⟩
   ·have z':=(qao hb).symm.trans z;cases z'
  ·by_cases hb:b=a
   ·exact hb
   ·exact absurd (qao hb) z
abbrev KOf{K:qaa}{h:Heap}(_:K.In h):qaa:=K
def walk_of{l:PySem.W.OpenLaw}{n k:Nat}{q:Program}{loose:List Str}{XP:(Str->Option Value)->Heap->Prop}{YP:World->Heap->Prop}{d:DefRec}{K:Params->qaa}{CX:World->CXT}{sp:World->Sp}{x:Str}
  (hn:l.most=some n) (hn2:n<=sizeLine) (hdf:d.params.defaults=[]) (hr:Room k callerA)
  (hY:∀(w:World) (h:Heap),YP w h->(K w.params).In h)
  (F:∀(w:World) (mg:Str->Option Value) (fa:Addr) (h:Heap),(K w.params).In h->h.Ns mainGlobals mg->mg d.name=some (.ref fa) ->
   ∃fd:FuncData,(∀(s:Shared) (u:Value),BindsTo s fd ⟨[u],[]⟩ [(x,u)]) /\
    ∀base:Heap,(K w.params).In base->base.Ns mainGlobals mg->FnOk l.prog w (K w.params) mg base (CX w) k fa fd [x] (sp w))
  (hsp:∀(w:World) (H:Hp) (a:Addr) (ns:List Int),ns.length<=n->Only H->SqL (K w.params) H a (ns.map V.int)->sp w [.ref a] H (fun v _=>v=.bl true) fun _ _ _=>False)
  (hCX:∀(w:World) (H:Hp) (s:Shared) (e:Value) (s':Shared),CX w [] H s (fun _ _ _=>False) e s'->False) :
  PySem.W.WalkO q loose XP YP l.row.toRowW d [] (fun f vs=>PySem.call f vs):=by
 refine Att.rP hn hdf fun w s₀ s₁ mg mb fa o pm cd doc a vs ns G Y ho hd hcd hmg hobj hints hlen hg=>?_;have KX:=hY w _ Y;obtain⟨fd,hb,hF⟩:=F w mg fa _ KX G.T.g hmg;exact yb KX G.T.g G.T.b G.T.builtins G.T.nolimit hg hobj hints (qaE hlen hn2) hr hF hb (fun H hO hS=>hsp w H a ns hlen hO hS) fun H e s'=>hCX w H s₁ e s'
def gz(s:Stmt):Arguments:=match s with
 | .FunctionDef _ a _ _ _ _ _ _ _ _=>a
 | _=>{ posonlyargs:=[],args:=[],vararg:=none,kwonlyargs:=[],kw_defaults:=[],kwarg:=none,defaults:=[]}
def aI(s:Stmt):List Stmt:=match s with
 | .FunctionDef _ _ b _ _ _ _ _ _ _=>b
 | _=>[]
def am(s:Stmt):Scope:=match s with
 | .FunctionDef _ _ _ _ _ _ sc _ _ _=>sc
 | _=>{ kind:=.function,names:=[],isGenerator:=false,isCoroutine:=false}
structure Fun (K:qaa) (x qual:Str) (st:Stmt) (f:Addr) (fd:FuncData):Prop where
 ex:∃(oc:Value) (od:Option Addr) (kV doc pm:Value) (an:Option Addr) (cdv ct:Value) (osl:Array (Option Value)),
  fd=PySem.W.fnOf x qual (gz st) (aI st) (am st) .none kV doc pm an cdv ct/\K.lookup f=some ⟨oc,od,.func fd,osl⟩/\PySem.W.codeIn K cdv qual=true
 kp:PySem.W.keepIn K (.ref f)=true
section
variable {P:Program} {w:World} {K:qaa} {mg:Str→Option Value} {base:Heap}
def Fun.binds{x qual:Str}{st:Stmt}{f:Addr}{fd:FuncData}{ps:List Str}(F:Fun K x qual st f fd)
  (h:∀(kV doc pm:Value) (an:Option Addr) (cdv ct:Value) (us:List Value),us.length=ps.length->bindArgs (PySem.W.fnOf x qual (gz st) (aI st) (am st) .none kV doc pm an cdv ct) ⟨us,[]⟩=pure (ps.zip us)):mK K fd ps []:=by
 obtain⟨oc,od,kV,doc,pm,an,cdv,ct,osl,rfl,lk,hcd⟩:=F.ex;exact .all (h kV doc pm an cdv ct)
def fun_mk{x qual:Str}{st:Stmt}{f:Addr}{oc:Value}{od an:Option Addr}{osl:Array (Option Value)}{kV doc pm cdv ct:Value}(l:K.lookup f=some ⟨oc,od,.func (PySem.W.fnOf x qual (gz st) (aI st) (am st) .none kV doc pm an cdv ct),osl⟩)
  (c:PySem.W.codeIn K cdv qual=true) (k:PySem.W.keepIn K (.ref f)=true):Fun K x qual st f (PySem.W.fnOf x qual (gz st) (aI st) (am st) .none kV doc pm an cdv ct):=⟨⟨oc,od,kV,doc,pm,an,cdv,ct,osl,rfl,l,c⟩,k⟩
end
section
variable {X:Cx}
end
end L2
namespace MM
open PySem PySem.Spec PyProof.Rows L2
inductive PV where
 | non | bl (b:Bool) | int (i:Int) | str (x:Str) | tup (xs:List PV) | frl (xs:List PV) | loc (n:Nat)
structure MExc where
 cls:Str
 fs:List (Str × PV):=[]
inductive MO where
 | lst (xs:List PV)
 | dic (kvs:List (PV × PV))
 | exc (x:MExc)
abbrev MH:=List MO
abbrev PSt:=List (Option PV)
inductive Out (α:Type) where
 | ok (a:α) (h:MH)
 | exc (x:MExc) (h:MH)
 | bad
def Out.bind{α β:Type}(o:Out α)(f:α->MH->Out β):Out β:=match o with
 | .ok a h=>f a h
 | .exc x h=>.exc x h
 | .bad=>.bad
@[simp] theorem Out.bind_ok(a:α)(h:MH)(f:α->MH->Out β):(Out.ok a h).bind f=f a h:=rfl
@[simp] theorem Out.bind_exc(x:MExc)(h:MH)(f:α->MH->Out β):(Out.exc x h).bind f=.exc x h:=rfl
@[simp] theorem Out.bind_bad(f:α->MH->Out β):(Out.bad:Out α).bind f=.bad:=rfl
inductive SOut where
 | nx (σ:PSt) (h:MH)
 | rt (v:PV) (h:MH)
 | bk (σ:PSt) (h:MH)
 | ct (σ:PSt) (h:MH)
 | exc (x:MExc) (σ:PSt) (h:MH)
 | rse (x:MExc) (σ:PSt) (h:MH)
 | bad
def Out.ne{α:Type}(o:Out α):Out α:=match o with
 | .exc _ _=>.bad
 | o=>o
@[simp] theorem Out.ne_ok(a:α)(h:MH):(Out.ok a h).ne=.ok a h:=rfl
@[simp] theorem Out.ne_bad:(Out.bad:Out α).ne=.bad:=rfl
@[simp] theorem Out.ne_ne(o:Out α):o.ne.ne=o.ne:=by cases o <;> rfl
def SqF(K:qaa)(H:Hp)(a:Addr)(ys:List V):Prop :=
 (∃o,H a=some (.frz o (.lst ys))) \/
  ∃(o:Obj) (its:Array Value) (n:Nat),K.lookup a=some o/\o.cls=.type "list"/\o.dict=none/\o.data=.seq its n/\its.size<=sizeLine/\aF ys its.toList
def SqF.sq{K:qaa}{H:Hp}{a:Addr}{ys:List V}(h:SqF K H a ys):SqL K H a ys:=by
 rcases h with h|h
 ·exact .inl (.inr h)
 ·exact .inr h
mutual
inductive RP (K:qaa) (ρ:List Addr) (H:Hp):PV->V->Prop where
 | non:RP K ρ H .non .non
 | bl (b:Bool):RP K ρ H (.bl b) (.bl b)
 | int (i:Int):RP K ρ H (.int i) (.int i)
 | str (x:Str):RP K ρ H (.str x) (.str x)
 | tup {xs:List PV} {a:Addr} {ys:List V} (s:SqT K H a ys) (r:RPs K ρ H xs ys):RP K ρ H (.tup xs) (.ref a)
 | frl {xs:List PV} {a:Addr} {ys:List V} (s:SqF K H a ys) (r:RPs K ρ H xs ys):RP K ρ H (.frl xs) (.ref a)
 | loc {n:Nat} {a:Addr} (e:ρ[n]?=some a):RP K ρ H (.loc n) (.ref a)
inductive RPs (K:qaa) (ρ:List Addr) (H:Hp):List PV->List V->Prop where
 | nil:RPs K ρ H [] []
 | cons {x:PV} {y:V} {xs:List PV} {ys:List V} (r:RP K ρ H x y) (t:RPs K ρ H xs ys):RPs K ρ H (x::xs) (y::ys)
end
structure Le (ρ:List Addr) (H:Hp) (ρ':List Addr) (H':Hp):Prop where
 pre:∃m,ρ'=ρ++m
 tup:∀a xs,H a=some (.tup xs)->H' a=some (.tup xs)
 frz:∀a o u,H a=some (.frz o u)->H' a=some (.frz o u)
def Le.refl(ρ:List Addr)(H:Hp):Le ρ H ρ H:=⟨⟨[],by simp⟩,fun _ _ h=>h,fun _ _ _ h=>h⟩
def Le.trans(a:Le ρ H ρ1 H1)(b:Le ρ1 H1 ρ2 H2):Le ρ H ρ2 H2:=by
 obtain⟨m,e⟩:=a.pre;obtain⟨m',e'⟩:=b.pre;exact⟨⟨m++m',by rw[e',e,qbf]⟩,fun c xs h=>b.tup c xs (a.tup c xs h),fun c o u h=>b.frz c o u (a.frz c o u h)⟩
def Le.get{ρ ρ':List Addr}{H H':Hp}(l:Le ρ H ρ' H'){n:Nat}{a:Addr}(e:ρ[n]?=some a):ρ'[n]?=some a:=by
 obtain⟨m,e'⟩:=l.pre;rw[e',qan (qad.mp e).1];exact e
def Le.sqt{K:qaa}{ρ ρ':List Addr}{H H':Hp}(l:Le ρ H ρ' H'){a:Addr}{xs:List V}(h:SqT K H a xs):SqT K H' a xs:=by
 rcases h with (h|⟨o,h⟩)|h
 ·exact .inl (.inl (l.tup _ _ h))
 ·exact .inl (.inr ⟨o,l.frz _ _ _ h⟩)
 ·exact .inr h
def Le.sqf{K:qaa}{ρ ρ':List Addr}{H H':Hp}(l:Le ρ H ρ' H'){a:Addr}{xs:List V}(h:SqF K H a xs):SqF K H' a xs:=by
 rcases h with ⟨o,h⟩|h
 ·exact .inl ⟨o,l.frz _ _ _ h⟩
 ·exact .inr h
section
variable {K:qaa} {ρ ρ':List Addr} {H H':Hp}
def RP.le(l:Le ρ H ρ' H'){x:PV}{y:V}(r:RP K ρ H x y):RP K ρ' H' x y :=
 RP.rec .non .bl .int .str (fun s _ i=>.tup (l.sqt s) i) (fun s _ i=>.frl (l.sqf s) i) (fun e=>.loc (l.get e)) .nil (fun _ _ a b=>.cons a b) r
def RPs.le(l:Le ρ H ρ' H')(r:RPs K ρ H xs ys):RPs K ρ' H' xs ys:=by
 induction xs generalizing ys with
 | nil=>cases r;exact .nil
 | cons x xs ih=>cases r with | cons a t=>exact .cons (a.le l) (ih t)
def RPs.length(r:RPs K ρ H xs ys):xs.length=ys.length:=by
 induction xs generalizing ys with
 | nil=>cases r;rfl
 | cons x xs ih=>cases r with | cons a t=>exact congrArg (·+1) (ih t)
def RPs.get{xs:List PV}{ys:List V}{i:Nat}{x:PV}(r:RPs K ρ H xs ys)(e:xs[i]?=some x):∃y,ys[i]?=some y/\RP K ρ H x y:=by
 induction xs generalizing ys i with
 | nil=>cases e
 | cons x xs ih =>
  cases r with
  | cons a t =>
   cases i with
   | zero=>cases e;exact⟨_,rfl,a⟩
   | succ i=>have z:=@ih _ i t e;exact z
def RPs.set(r:RP K ρ H x u)(i:Nat)(q:RPs K ρ H xs us):RPs K ρ H (xs.set i x) (us.set i u):=by
 induction xs generalizing us i with
 | nil=>cases q;exact .nil
 | cons x xs ih =>
  cases q with
  | cons a t =>
   cases i with
   | zero=>exact .cons r t
   | succ i=>exact .cons a (ih i t)
def RPs.append(r:RPs K ρ H xs us)(s:RPs K ρ H ys ws):RPs K ρ H (xs++ys) (us++ws):=by
 induction xs generalizing us with
 | nil=>cases r;exact s
 | cons x xs ih=>cases r with | cons a t=>exact .cons a (ih t)
def RPs.take(n:Nat)(r:RPs K ρ H xs us):RPs K ρ H (xs.take n) (us.take n):=by
 induction n generalizing xs us with
 | zero=>exact .nil
 | succ n ih =>
  cases xs with
  | nil=>cases r;exact .nil
  | cons x xs=>cases r with | cons a t=>exact .cons a (ih t)
def RPs.drop(n:Nat)(r:RPs K ρ H xs us):RPs K ρ H (xs.drop n) (us.drop n):=by
 induction n generalizing xs us with
 | zero=>exact r
 | succ n ih =>
  cases xs with
  | nil=>cases r;exact .nil
  | cons x xs=>cases r with | cons a t=>exact ih t
def RPs.ints:∀(ns:List Int),RPs K ρ H (ns.map PV.int) (ns.map V.int)
 | []=>.nil
 | n::r=>.cons (.int n) (RPs.ints r)
end
def ExcAt(a C:Addr)(h:Heap):Prop:=∃o vs,h.get? a=some o/\o.cls=.ref C/\o.data=.fields vs
abbrev MGl:=Str->Option Value
def RO(K:qaa)(mg:MGl)(ρ:List Addr)(H:Hp)(a:Addr):MO->Option HO->Prop
 | .lst xs,oh=>∃ys,oh=some (.lst ys)/\RPs K ρ H xs ys
 | .dic kvs,oh=>kvs=[]/\oh=some (.dK [])
 | .exc x,oh=>x.fs=[]/\∃C,mg x.cls=some (.ref C)/\oh=some (.ext (ExcAt a C))
structure RH (K:qaa) (mg:MGl) (ρ:List Addr) (H:Hp) (h:MH):Prop where
 len:ρ.length=h.length
 nd:ρ.Nodup
 at':∀(n:Nat) (a:Addr) (o:MO),ρ[n]?=some a->h[n]?=some o->RO K mg ρ H a o (H a)
def RO.le{K:qaa}{mg:MGl}{ρ ρ':List Addr}{H H':Hp}{a:Addr}(l:Le ρ H ρ' H'){o:MO}{oh:Option HO}(r:RO K mg ρ H a o oh):RO K mg ρ' H' a o oh:=by
 cases o with
 | lst xs=>obtain⟨ys,e,r⟩:=r;exact⟨ys,e,r.le l⟩
 | dic kvs=>exact r
 | exc x=>exact r
def RO.some{K:qaa}{mg:MGl}{ρ:List Addr}{H:Hp}{a:Addr}{o:MO}{oh:Option HO}(r:RO K mg ρ H a o oh):oh≠none:=by
 cases o with
 | lst xs=>obtain⟨ys,e,_⟩:=r;rw[e];simp
 | dic kvs=>obtain⟨_,e⟩:=r;rw[e];simp
 | exc x=>obtain⟨_,C,_,e⟩:=r;rw[e];simp
def RO.plain{K:qaa}{mg:MGl}{ρ:List Addr}{H:Hp}{a:Addr}{o:MO}{oh:Option HO}(r:RO K mg ρ H a o oh):(∀xs,oh≠Option.some (.tup xs))/\∀p u,oh≠Option.some (.frz p u):=by
 cases o with
 | lst xs=>obtain⟨ys,e,_⟩:=r;rw[e];exact⟨(fun _ z=>nomatch z),(fun _ _ z=>nomatch z)⟩
 | dic kvs=>obtain⟨_,e⟩:=r;rw[e];exact⟨(fun _ z=>nomatch z),(fun _ _ z=>nomatch z)⟩
 | exc x=>obtain⟨_,C,_,e⟩:=r;rw[e];exact⟨(fun _ z=>nomatch z),(fun _ _ z=>nomatch z)⟩
section
variable {K:qaa} {mg:MGl} {ρ:List Addr} {H:Hp} {h:MH}
def RH.obj(r:RH K mg ρ H h){n:Nat}{a:Addr}(e:ρ[n]?=some a):∃o,h[n]?=some o/\RO K mg ρ H a o (H a):=by
 have hn:n<h.length:=by rw[<-r.len];exact (qad.mp e).1
 exact⟨h[n],by simp,r.at' n a _ e (by simp)⟩
def RH.new(r:RH K mg ρ H h){p:Addr}(hp:H p=none){o:MO}{ho:HO}(hn:RO K mg ρ H p o (some ho)):RH K mg (ρ++[p]) (upd H p ho) (h++[o])/\Le ρ H (ρ++[p]) (upd H p ho):=by
 have hne:∀n a,ρ[n]?=some a->a≠p:=fun n a e z=>by
  obtain⟨o',_,q⟩:=r.obj e;rw[z,hp] at q;exact q.some rfl
 have l:Le ρ H (ρ++[p]) (upd H p ho):=⟨⟨[p],rfl⟩,fun a xs e=>by rw[aX (bC e hp)];exact e,fun a ob u e=>by rw[aX (bC e hp)];exact e⟩;refine⟨⟨by simp[r.len],?_,fun n a o' e1 e2=>?_⟩,l⟩
 ·rw[qcg];refine⟨r.nd,by simp,fun a ha b hb=>?_⟩;obtain⟨n,e⟩:=qaA.mp ha;have hb':b=p:=by simpa using hb
  rw[hb'];exact hne n a e
 ·by_cases hlt:n<ρ.length
  ·rw[qan hlt] at e1;rw[qan (by rw[<-r.len];exact hlt)] at e2;rw[aX (hne n a e1)];exact (r.at' n a o' e1 e2).le l
  ·rw[qaD (by lia)] at e1;rw[qaD (by rw[<-r.len];lia)] at e2;have hn0:n - ρ.length=0:=by
    grind
   rw[hn0] at e1;have hn1:n - h.length=0:=by have:=r.len;lia
   rw[hn1] at e2;simp at e1 e2;subst e1;subst e2;rw[cj];exact hn.le l
def RH.put(r:RH K mg ρ H h){n:Nat}{a:Addr}(e:ρ[n]?=some a){o:MO}{ho:HO}(hn:RO K mg ρ H a o (some ho)):RH K mg ρ (upd H a ho) (h.set n o)/\Le ρ H ρ (upd H a ho):=by
 obtain⟨o0,_,q⟩:=r.obj e;obtain⟨q1,q2⟩:=q.plain
 have l:Le ρ H ρ (upd H a ho):=⟨⟨[],by simp⟩,fun b xs z=>by
   have:b≠a:=by rintro rfl;exact q1 _ z
   rw[aX this];exact z,fun b ob u z=>by
   have:b≠a:=by rintro rfl;exact q2 _ _ z
   rw[aX this];exact z⟩
 refine⟨⟨by simp[r.len],r.nd,fun m b o' e1 e2=>?_⟩,l⟩;by_cases hm:m=n
 ·subst hm;rw[e] at e1;cases e1;rw[cj]
  have:m<h.length:=by rw[<-r.len];exact (qad.mp e).1
  rw[qaw this] at e2;cases e2;exact hn.le l
 ·rw[qai (fun z=>hm z.symm)] at e2;have hb:b≠a:=by
   rintro rfl;have h1:=qad.mp e;have h2:=qad.mp e1;obtain⟨l1,g1⟩:=h1;obtain⟨l2,g2⟩:=h2;exact hm ((List.getElem_inj r.nd).mp (g2.trans g1.symm))
  rw[aX hb];exact (r.at' m b o' e1 e2).le l
def RH.tup(r:RH K mg ρ H h){p:Addr}(hp:H p=none)(ys:List V):RH K mg ρ (upd H p (.tup ys)) h/\Le ρ H ρ (upd H p (.tup ys)):=by
 have hne:∀n a,ρ[n]?=some a->a≠p:=fun n a e z=>by
  obtain⟨o',_,q⟩:=r.obj e;rw[z,hp] at q;exact q.some rfl
 have l:Le ρ H ρ (upd H p (.tup ys)):=⟨⟨[],by simp⟩,fun a xs e=>by rw[aX (bC e hp)];exact e,fun a ob u e=>by rw[aX (bC e hp)];exact e⟩;exact⟨⟨r.len,r.nd,fun n a o e1 e2=>by rw[aX (hne n a e1)];exact (r.at' n a o e1 e2).le l⟩,l⟩
end
def RS(K:qaa)(ρ:List Addr)(H:Hp)(σp:PSt)(σ:L2.St):Prop :=
 σ.length=σp.length/\∀(i:Nat) (v:PV),σp[i]?=some (some v)->∃v',σ[i]?=some (some v')/\RP K ρ H v v'
def RS.le{K:qaa}{ρ ρ':List Addr}{H H':Hp}{σp:PSt}{σ:L2.St}(l:Le ρ H ρ' H')(r:RS K ρ H σp σ):RS K ρ' H' σp σ :=
 ⟨r.1,fun i v e=>by obtain⟨v',e',q⟩:=r.2 i v e;exact⟨v',e',q.le l⟩⟩
def RS.set{K:qaa}{ρ:List Addr}{H:Hp}{σp:PSt}{σ:L2.St}(r:RS K ρ H σp σ)(i:Nat){v:PV}{v':V}(q:RP K ρ H v v'):RS K ρ H (σp.set i (some v)) (σ.set i (some v')):=by
 refine⟨by simp[r.1],fun j u e=>?_⟩;by_cases hj:j=i
 ·subst hj;by_cases hl:j<σp.length
  ·rw[qaw hl] at e;cases e;exact⟨v',qaw (by rw[r.1];exact hl),q⟩
  ·rw[qaT (by simp;lia)] at e;cases e
 ·rw[qai (fun z=>hj z.symm)] at e;obtain⟨u',e',q'⟩:=r.2 j u e;exact⟨u',by rw[qai (fun z=>hj z.symm)];exact e',q'⟩
def Cov(B:Heap)(fs:List Addr)(h:Heap):Prop:=∀b o,h.get? b=some o->b∉fs->∃ob,B.get? b=some ob
def Fly(l:List Env)(H:Hp)(lim:Heap)(C ea:Addr)(h:Heap):Prop :=
 ∃B t,Heap.FlyingW B l ea (.ref C) (.ref t) h/\(∀b o,H b=some o->∃ob,B.get? b=some ob)/\Cov B (frs l) lim/\H ea=none
structure Bears (X:Cx) (h:Heap):Prop where
 old:∀b o,X.s₀.heap.get? b=some o->b∉X.ex->∃o',h.get? b=some o'
 cell:∀x c,X.env.cells.lookup x=some c->∃o,h.get? c=some o
 pin:∀p∈X.pn,∃o,h.get? p.1=some o
def Inv.bears{X:Cx}{Iv:List (Addr × Obj)}{σ:L2.St}{H:Hp}{s:Shared}(I:Inv X Iv σ H s):Bears X s.heap :=
 ⟨fun b o e n=>I.base.there b o e n,fun x c e=>let ⟨_,o,eo,_⟩:=I.cell x c e;⟨o,eo⟩,fun p hp=>⟨_,(I.pin p (qaK _ hp)).1⟩⟩
def XP(X:Cx)(σp:PSt)(ρ:List Addr)(H:Hp)(x:MExc)(h:MH):Prop:=∀(ea C:Addr) (ρ':List Addr) (H':Hp) (σ':L2.St) (s':Shared) (lim:Heap),x.fs=[]->X.mg x.cls=some (.ref C)->Le ρ H ρ' H'->RH X.K X.mg ρ' H' h->RS X.K ρ' H' σp σ' ->
 Inv X [] σ' H' s'->Bears X lim->Fly X.stack H' lim C ea s'.heap->X.xe (.ref ea) s'
def XM(X:Cx)(σp:PSt)(ρ:List Addr)(H:Hp)(x:MExc)(h:MH):Prop:=∀(ea C:Addr) (ρ':List Addr) (H':Hp) (σ':L2.St) (s':Shared) (h0:Heap) (args:List Value),x.fs=[]->X.mg x.cls=some (.ref C)->Le ρ H ρ' H'->RH X.K X.mg ρ' H' h->RS X.K ρ' H' σp σ' ->
 Inv X [] σ' H' { s' with heap:=h0}->Heap.MadeExcOf h0 s'.heap ea (.ref C) args->X.xe (.ref ea) s'
def XP.le(l:Le ρ H ρ' H')(q:XP X σp ρ H x h):XP X σp ρ' H' x h :=
 fun ea C ρ2 H2 σ2 s2 lim e1 e2 l2=>q ea C ρ2 H2 σ2 s2 lim e1 e2 (l.trans l2)
def XM.le(l:Le ρ H ρ' H')(q:XM X σp ρ H x h):XM X σp ρ' H' x h :=
 fun ea C ρ2 H2 σ2 s2 lim args e1 e2 l2=>q ea C ρ2 H2 σ2 s2 lim args e1 e2 (l.trans l2)
abbrev Rl(α β:Type):=List Addr->Hp->α->β->Prop
def Ful{α β:Type}(X:Cx)(R:Rl α β)(σp:PSt)(ρ:List Addr)(H:Hp)(o:Out α)(Q:β->Hp->Prop):Prop:=match o with
 | .ok v h'=>∀ρ' H' v',Le ρ H ρ' H'->RH X.K X.mg ρ' H' h'->R ρ' H' v v'->Q v' H'
 | .exc x h'=>XP X σp ρ H x h'
 | .bad=>False
def gP{α β:Type}(X:Cx)(R:Rl α β)(ρ:List Addr)(H:Hp)(o:Out α)(Q:β->Hp->Prop):Prop:=match o with
 | .ok v h'=>∀ρ' H' v',Le ρ H ρ' H'->RH X.K X.mg ρ' H' h'->R ρ' H' v v'->Q v' H'
 | _=>False
def Ful.zero(f:Ful X R σp ρ H o.ne Q):gP X R ρ H o Q:=by
 cases o with
 | ok v h=>exact f
 | exc x h=>exact f
 | bad=>exact f
def Ful.le(l:Le ρ H ρ1 H1)(f:Ful X R σp ρ H o Q):Ful X R σp ρ1 H1 o Q:=by
 cases o with
 | ok v h=>exact fun ρ' H' v' l'=>f ρ' H' v' (l.trans l')
 | exc x h=>exact XP.le l f
 | bad=>exact f
def Ful.bind{α β γ δ:Type}{X:Cx}{R:Rl α β}{S:Rl γ δ}{σp:PSt}{ρ:List Addr}{H:Hp}{o:Out α}{f:α->MH->Out γ}{Q:δ->Hp->Prop}{Q':β->Hp->Prop}(q:Ful X S σp ρ H (o.bind f) Q)
  (k:∀ρ1 H1 v v' h1,o=.ok v h1->Le ρ H ρ1 H1->RH X.K X.mg ρ1 H1 h1->R ρ1 H1 v v'->Ful X S σp ρ1 H1 (f v h1) Q->Q' v' H1):Ful X R σp ρ H o Q':=by
 cases o with
 | ok v h=>exact fun ρ' H' v' l r w=>k ρ' H' v v' h rfl l r w (Ful.le l q)
 | exc x h=>exact q
 | bad=>exact q
abbrev RV'(X:Cx):Rl PV V:=fun ρ H=>RP X.K ρ H
abbrev RVs'(X:Cx):Rl (List PV) (List V):=fun ρ H=>RPs X.K ρ H
abbrev REq{α:Type}:Rl α α:=fun _ _ x y=>x=y
abbrev Mx(α:Type):=PSt->MH->Out α
inductive tM {α β:Type} (X:Cx) (R:Rl α β) (m:Mx α) (σ:L2.St) (H:Hp) (Q:β->Hp->Prop):Prop
 | mk (ρ:List Addr) (σp:PSt) (h:MH) (rs:RS X.K ρ H σp σ) (rh:RH X.K X.mg ρ H h) (q:Ful X R σp ρ H (m σp h) Q):tM X R m σ H Q
def ME(X:Cx)(e:Expr)(m:Mx PV):Prop:=PE X e (tM X (RV' X) m)
def MT(X:Cx)(e:Expr)(m:Mx Bool):Prop:=PT X e (tM X REq m)
def MW(X:Cx)(e:Expr)(m:Mx Bool):Prop:=PW X e (tM X REq m)
def MA(X:Cx)(es:List Expr)(m:Mx (List PV)):Prop:=PA X es (tM X (RVs' X) m)
def PE.imp(h:PE X e t)(i:∀σ H Q,t' σ H Q->t σ H Q):PE X e t':=fun Iv s σ H Q I q=>h Iv s σ H Q I (i σ H Q q)
def PT.imp(h:PT X e t)(i:∀σ H Q,t' σ H Q->t σ H Q):PT X e t':=fun Iv s σ H Q I q=>h Iv s σ H Q I (i σ H Q q)
def PW.imp(h:PW X e t)(i:∀σ H Q,t' σ H Q->t σ H Q):PW X e t':=fun whole Iv s σ H Q I q=>h whole Iv s σ H Q I (i σ H Q q)
def PA.imp(h:PA X e t)(i:∀σ H Q,t' σ H Q->t σ H Q):PA X e t':=fun pos Iv s σ H Q I q=>h pos Iv s σ H Q I (i σ H Q q)
def PS.imp(h:PS X e t)(i:∀D σ H,t' D σ H->t D σ H):PS X e t':=fun Iv s σ H D I q=>h Iv s σ H D I (i D σ H q)
def PSs.imp(h:PSs X e t)(i:∀D σ H,t' D σ H->t D σ H):PSs X e t':=fun Iv s σ H D I q=>h Iv s σ H D I (i D σ H q)
def bV(X:Cx)(ρ:List Addr)(H:Hp)(o:SOut)(D:Ends):Prop:=match o with
 | .nx σp h'=>∀ρ' H' σ',Le ρ H ρ' H'->RH X.K X.mg ρ' H' h'->RS X.K ρ' H' σp σ'->D.nx σ' H'
 | .bk σp h'=>∀ρ' H' σ',Le ρ H ρ' H'->RH X.K X.mg ρ' H' h'->RS X.K ρ' H' σp σ'->D.bk σ' H'
 | .ct σp h'=>∀ρ' H' σ',Le ρ H ρ' H'->RH X.K X.mg ρ' H' h'->RS X.K ρ' H' σp σ'->D.ct σ' H'
 | .rt v h'=>∀ρ' H' v',Le ρ H ρ' H'->RH X.K X.mg ρ' H' h'->RP X.K ρ' H' v v'->D.rt v' H'
 | .exc x σp h'=>XP X σp ρ H x h'
 | .rse x σp h'=>XM X σp ρ H x h'
 | .bad=>False
def bV.le(l:Le ρ H ρ1 H1)(f:bV X ρ H o D):bV X ρ1 H1 o D:=by
 cases o with
 | nx σp h=>exact fun ρ' H' v' l'=>f ρ' H' v' (l.trans l')
 | bk σp h=>exact fun ρ' H' v' l'=>f ρ' H' v' (l.trans l')
 | ct σp h=>exact fun ρ' H' v' l'=>f ρ' H' v' (l.trans l')
 | rt v h=>exact fun ρ' H' v' l'=>f ρ' H' v' (l.trans l')
 | exc x σp h=>exact XP.le l f
 | rse x σp h=>exact XM.le l f
 | bad=>exact f
abbrev Mst:=PSt->MH->SOut
inductive tMS (X:Cx) (m:Mst) (D:Ends) (σ:L2.St) (H:Hp):Prop
 | mk (ρ:List Addr) (σp:PSt) (h:MH) (rs:RS X.K ρ H σp σ) (rh:RH X.K X.mg ρ H h) (q:bV X ρ H (m σp h) D):tMS X m D σ H
def MS(X:Cx)(st:Stmt)(m:Mst):Prop:=PS X st (tMS X m)
def MSs(X:Cx)(st:List Stmt)(m:Mst):Prop:=PSs X st (tMS X m)
section
variable {X:Cx} {N W G:List Str} {k:Nat}
structure Good (X:Cx) (N W G:List Str) (k:Nat):Prop where
 hN:X.N=N
 nd:N.Nodup
 loc:∀x∈N,Loc X.env.scope x
 fn:∀x∈W,X.fn x=true\/X.env.scope.names.lookup x=some .local
 gl:∀x∈G,Gl X x
 dbg:∀x∈N++G,(x == ("__debug__":Str))=false/\(x == ("__classdict__":Str))=false/\x≠"__name__"
 calm:X.calm=true
 room:Room k X.A
 po:PassesOwn (model X.prog X.w) X.A X.env X.xe
def Good.x(g:Good X N W G k){i:Nat}{x:Str}(hi:N[i]?=some x):X.N[i]?=some x:=by rw[g.hN];exact hi
def aZ{l:List Str}{i:Nat}{x:Str}(hi:l[i]?=some x):x∈l:=qaL hi
def rJ(X:Cx)(g:PV->PV->MH->Out PV):R2:=fun x' y' H Q=>∃ρ h x y,RH X.K X.mg ρ H h/\RP X.K ρ H x x'/\RP X.K ρ H y y'/\gP X (RV' X) ρ H (g x y h) Q
abbrev OpJ(X:Cx)(f:Value->Value->Sem Value)(g:PV->PV->MH->Out PV):Prop:=OpR X f (rJ X g)
def uJ(X:Cx)(g:PV->MH->Out PV):V->Hp->VK->Prop:=fun x' H Q=>∃ρ h x,RH X.K X.mg ρ H h/\RP X.K ρ H x x'/\gP X (RV' X) ρ H (g x h) Q
abbrev UnJ(X:Cx)(f:Value->Sem Value)(g:PV->MH->Out PV):Prop:=UnR X f (uJ X g)
def cJ(X:Cx)(g:List PV->MH->Out PV):List V->Hp->VK->Prop:=fun xs' H Q=>∃ρ h xs,RH X.K X.mg ρ H h/\RPs X.K ρ H xs xs'/\gP X (RV' X) ρ H (g xs h) Q
abbrev cu(X:Cx)(f:Value)(g:List PV->MH->Out PV):Prop:=cF X f (cJ X g)
def aq(i:Nat):Mx PV:=fun σ h=>match σ[i]? with
 | some (some v)=>.ok v h
 | _=>.bad
def mC(v:PV):Mx PV:=fun _ h=>.ok v h
def wM(g:Good X N W G k)(i:Nat){x:Str}{pos:Pos}(hi:N[i]?=some x):ME X (.Name x pos) (aq i):=by
 have d:=g.dbg x (qaK _ (aZ hi));have hv:Vis X.env.scope x:=by
  rcases g.loc x (aZ hi) with q|q
  ·exact .inl q
  ·exact .inr (.inl q)
 refine PE.imp (pe_var (g.x hi) hv d.1 d.2.1) fun σ H Q ⟨ρ,σp,h,rs,rh,f⟩=>?_;unfold aq at f
 cases e:σp[i]? with
 | none=>rw[e] at f;exact f.elim
 | some o =>
  rw[e] at f
  cases o with
  | none=>exact f.elim
  | some v =>
   obtain⟨v',e',r⟩:=rs.2 i v e;exact⟨v',e',f ρ H v' (Le.refl _ _) rh r⟩
def aC:ME X (.Constant (.int i) j pos) (mC (.int i)):=PE.imp pe_int fun _ H _ ⟨ρ,_,_,_,rh,f⟩=>f ρ H _ (Le.refl _ _) rh (.int i)
def vD:ME X (.Constant (.str i) j pos) (mC (.str i)):=PE.imp pe_str fun _ H _ ⟨ρ,_,_,_,rh,f⟩=>f ρ H _ (Le.refl _ _) rh (.str i)
def k8:ME X (.Constant (.bool i) j pos) (mC (.bl i)):=PE.imp pe_bl fun _ H _ ⟨ρ,_,_,_,rh,f⟩=>f ρ H _ (Le.refl _ _) rh (.bl i)
def me_non:ME X (.Constant .none j pos) (mC .non):=PE.imp pe_non fun _ H _ ⟨ρ,_,_,_,rh,f⟩=>f ρ H _ (Le.refl _ _) rh .non
def az(f:PV->PV->MH->Out PV)(ma mb:Mx PV):Mx PV:=fun σ h=>(ma σ h).bind fun x h1=>(mb σ h1).bind fun y h2=>(f x y h2).ne
def mUn(f:PV->MH->Out PV)(ma:Mx PV):Mx PV:=fun σ h=>(ma σ h).bind fun x h1=>(f x h1).ne
def qV{f:PV->PV->MH->Out PV}{ma mb:Mx PV}{σ:L2.St}{H:Hp}{Q:VK}(q:tM X (RV' X) (az f ma mb) σ H Q):tOp (rJ X f) (tM X (RV' X) ma) (tM X (RV' X) mb) σ H Q:=by
 obtain⟨ρ,σp,h,rs,rh,q⟩:=q;refine⟨ρ,σp,h,rs,rh,Ful.bind q fun ρ1 H1 x x' h1 _ l1 rh1 rx q1=>?_⟩;refine⟨ρ1,σp,h1,rs.le l1,rh1,Ful.bind q1 fun ρ2 H2 y y' h2 _ l2 rh2 ry q2=>?_⟩;exact⟨ρ2,h2,x,y,rh2,rx.le l2,ry,q2.zero⟩
def aL(ho:OpJ X (binaryOp op) f)(ha:ME X a ma)(hb:ME X b mb):ME X (.BinOp a op b pos) (az f ma mb) :=
 PE.imp (pe_op ho ha hb) fun _ _ _ q=>qV q
def ur(ho:UnJ X (unaryOp op) f)(ha:ME X a ma):ME X (.UnaryOp op a pos) (mUn f ma) :=
 PE.imp (pe_un ho ha) fun _ _ _ ⟨ρ,σp,h,rs,rh,q⟩=>⟨ρ,σp,h,rs,rh,Ful.bind q fun ρ1 H1 x x' h1 _ l1 rh1 rx q1=>⟨ρ1,h1,x,rh1,rx,q1.zero⟩⟩
def vK(ho:OpJ X (compareOp op) f)(ha:ME X a ma)(hb:ME X b mb)(hm:behindInMarks op b=false):ME X (.Compare a [op] [b] pos) (az f ma mb) :=
 PE.imp (pe_cmpR ho ha hb hm) fun _ _ _ q=>qV q
def mB(m:Mx PV):Mx Bool:=fun σ h=>(m σ h).bind fun v h1=>match v with
 | .bl b=>.ok b h1
 | _=>.bad
def tM_B(q:tM X REq (mB m) σ H Q):tM X (RV' X) m σ H fun x H1=>∃c,x=.bl c/\Q c H1:=by
 obtain⟨ρ,σp,h,rs,rh,q⟩:=q;refine⟨ρ,σp,h,rs,rh,Ful.bind q fun ρ1 H1 x x' h1 _ l1 rh1 rx q1=>?_⟩
 cases rx with
 | bl b=>exact⟨b,rfl,q1 ρ1 H1 b (Le.refl _ _) rh1 rfl⟩
 | _=>exact q1.elim
def wG(ho:OpJ X (compareOp op) f)(ha:ME X a ma)(hb:ME X b mb)(hm:behindInMarks op b=false):MT X (.Compare a [op] [b] pos) (mB (az f ma mb)) :=
 PT.imp (pt_cmpR ho ha hb hm) fun σ H Q q=>by
  obtain⟨ρ,σp,h,rs,rh,q⟩:=tM_B q;exact qV ⟨ρ,σp,h,rs,rh,q⟩
def rf(h:ME X e m)(he:∀whole,isTrue e X.env whole=(do let v <-whole;standAt e.pos;holding [v] (truthy v)):=by intro _;rfl):MT X e (mB m) :=
 PT.imp (pt_val h he) fun _ _ _ q=>tM_B q
def rq(m:Mx Bool):Mx Bool:=fun σ h=>(m σ h).bind fun b h1=>.ok (!b) h1
def qS(h:MT X e m):MT X (.UnaryOp .Not e pos) (rq m) :=
 PT.imp (pt_not h) fun _ _ _ ⟨ρ,σp,h,rs,rh,q⟩=>⟨ρ,σp,h,rs,rh,Ful.bind q fun ρ1 H1 x x' h1 _ l1 rh1 rx q1=>by
  cases rx;exact q1 ρ1 H1 _ (Le.refl _ _) rh1 rfl⟩
def mAnd(a b:Mx Bool):Mx Bool:=fun σ h=>(a σ h).bind fun x h1=>if x=true then b σ h1 else .ok false h1
def mOr(a b:Mx Bool):Mx Bool:=fun σ h=>(a σ h).bind fun x h1=>if x=true then .ok true h1 else b σ h1
section
variable {a b:Expr} {rest:List Expr} {ma mb:Mx Bool} {pos:Pos}
def mw_and1(ha:MT X a ma):MW X (.BoolOp .And [a] pos) ma:=pw_and1 ha
def mw_or1(ha:MT X a ma):MW X (.BoolOp .Or [a] pos) ma:=pw_or1 ha
def mw_and(ha:MT X a ma)(hb:MW X (.BoolOp .And (b::rest) pos) mb):MW X (.BoolOp .And (a::b::rest) pos) (mAnd ma mb) :=
 PW.imp (pw_and ha hb) fun σ H Q ⟨ρ,σp,h,rs,rh,q⟩=>⟨ρ,σp,h,rs,rh,Ful.bind q fun ρ1 H1 x x' h1 _ l1 rh1 rx q1=>by
  cases rx
  cases x with
  | true=>exact⟨ρ1,σp,h1,rs.le l1,rh1,q1⟩
  | false=>exact q1 ρ1 H1 _ (Le.refl _ _) rh1 rfl⟩
def mw_or(ha:MT X a ma)(hb:MW X (.BoolOp .Or (b::rest) pos) mb):MW X (.BoolOp .Or (a::b::rest) pos) (mOr ma mb) :=
 PW.imp (pw_or ha hb) fun σ H Q ⟨ρ,σp,h,rs,rh,q⟩=>⟨ρ,σp,h,rs,rh,Ful.bind q fun ρ1 H1 x x' h1 _ l1 rh1 rx q1=>by
  cases rx
  cases x with
  | true=>exact q1 ρ1 H1 _ (Le.refl _ _) rh1 rfl
  | false=>exact⟨ρ1,σp,h1,rs.le l1,rh1,q1⟩⟩
def MW.mt(h:MW X e m):MT X e m:=PW.pt h
end
def mN(a b:Mx PV):Mx PV:=fun σ h=>(a σ h).bind fun x h1=>match x with
 | .bl c=>if c=true then b σ h1 else .ok (.bl false) h1
 | _=>.bad
def um(a:Mx PV):Mx PV:=fun σ h=>(a σ h).bind fun x h1=>match x with
 | .bl c=>.ok (.bl (!c)) h1
 | _=>.bad
section
variable {a b:Expr} {rest:List Expr} {ma mb:Mx PV} {pos:Pos}
def wg(ha:ME X a ma):ME X (.BoolOp op [a] pos) ma:=pe_one ha
def pQ(ha:ME X a ma)(hb:ME X (.BoolOp .And (b::rest) pos) mb):ME X (.BoolOp .And (a::b::rest) pos) (mN ma mb) :=
 PE.imp (pe_and ha hb) fun σ H Q ⟨ρ,σp,h,rs,rh,q⟩=>⟨ρ,σp,h,rs,rh,Ful.bind q fun ρ1 H1 x x' h1 _ l1 rh1 rx q1=>by
  cases rx with
  | bl c =>
   refine⟨c,rfl,?_⟩
   cases c with
   | true=>exact⟨ρ1,σp,h1,rs.le l1,rh1,q1⟩
   | false=>exact q1 ρ1 H1 _ (Le.refl _ _) rh1 (.bl false)
  | _=>exact q1.elim⟩
def me_not(ha:ME X a ma):ME X (.UnaryOp .Not a pos) (um ma) :=
 PE.imp (pe_not ha) fun σ H Q ⟨ρ,σp,h,rs,rh,q⟩=>⟨ρ,σp,h,rs,rh,Ful.bind q fun ρ1 H1 x x' h1 _ l1 rh1 rx q1=>by
  cases rx with
  | bl c=>exact⟨c,rfl,q1 ρ1 H1 _ (Le.refl _ _) rh1 (.bl _)⟩
  | _=>exact q1.elim⟩
end
def mNil:Mx (List PV):=fun _ h=>.ok [] h
def aj(a:Mx PV)(r:Mx (List PV)):Mx (List PV):=fun σ h=>(a σ h).bind fun x h1=>(r σ h1).bind fun xs h2=>.ok (x::xs) h2
def aU:MA X [] mNil:=PA.imp mD fun σ H Q ⟨ρ,σp,h,rs,rh,q⟩=>q ρ H _ (Le.refl _ _) rh .nil
def aD(ha:ME X e m)(hr:MA X es ms)(hs:starEach (e::es) X.env=(false,eval e X.env)::starEach es X.env:=by rfl):MA X (e::es) (aj m ms) :=
 PA.imp (iG ha hr hs) fun σ H Q ⟨ρ,σp,h,rs,rh,q⟩=>⟨ρ,σp,h,rs,rh,Ful.bind q fun ρ1 H1 x x' h1 _ l1 rh1 rx q1 =>
  ⟨ρ1,σp,h1,rs.le l1,rh1,Ful.bind q1 fun ρ2 H2 y y' h2 _ l2 rh2 ry q2=>q2 ρ2 H2 _ (Le.refl _ _) rh2 (.cons (rx.le l2) ry)⟩⟩
def newL(xs:List PV)(h:MH):Out PV:=if xs.length<=sizeLine then .ok (.loc h.length) (h++[.lst xs]) else .bad
def newT(xs:List PV)(h:MH):Out PV:=if xs.length<=sizeLine then .ok (.tup xs) h else .bad
def ko{ρ:List Addr}{H:Hp}{h:MH}{xs:List PV}{ys:List V}{Q:VK}(rh:RH X.K X.mg ρ H h)(rs:RPs X.K ρ H xs ys)(f:gP X (RV' X) ρ H (newL xs h) Q):ys.length<=sizeLine/\∀p,H p=none->Q (.ref p) (upd H p (.lst ys)):=by
 unfold newL at f
 split at f
 ·rename_i hl
  refine⟨by rw[<-rs.length];exact hl,fun p hp=>?_⟩;obtain⟨r1,l1⟩:=rh.new hp (o:=.lst xs) ⟨ys,rfl,rs⟩;refine f _ _ _ l1 r1 (.loc ?_);rw[<-rh.len];simp
 ·exact f.elim
def tz{ρ:List Addr}{H:Hp}{h:MH}{xs:List PV}{ys:List V}{Q:VK}(rh:RH X.K X.mg ρ H h)(rs:RPs X.K ρ H xs ys)(f:gP X (RV' X) ρ H (newT xs h) Q):ys.length<=sizeLine/\∀p,H p=none->Q (.ref p) (upd H p (.tup ys)):=by
 unfold newT at f
 split at f
 ·rename_i hl
  refine⟨by rw[<-rs.length];exact hl,fun p hp=>?_⟩;obtain⟨r1,l1⟩:=rh.tup hp ys;exact f _ _ _ l1 r1 (.tup (.inl (.inl cj)) (rs.le l1))
 ·exact f.elim
def newL_f{σp:PSt}{ρ:List Addr}{H:Hp}{h:MH}{xs:List PV}{Q:VK}(f:Ful X (RV' X) σp ρ H (newL xs h) Q):gP X (RV' X) ρ H (newL xs h) Q:=by
 unfold newL at f ⊢
 split at f
 ·rw[qag (by assumption)];exact f
 ·exact f.elim
def newT_f{σp:PSt}{ρ:List Addr}{H:Hp}{h:MH}{xs:List PV}{Q:VK}(f:Ful X (RV' X) σp ρ H (newT xs h) Q):gP X (RV' X) ρ H (newT xs h) Q:=by
 unfold newT at f ⊢
 split at f
 ·rw[qag (by assumption)];exact f
 ·exact f.elim
def fo(m:Mx (List PV)):Mx PV:=fun σ h=>(m σ h).bind newL
def ir(m:Mx (List PV)):Mx PV:=fun σ h=>(m σ h).bind newT
def me_lst(h:MA X es ms):ME X (.List es pos) (fo ms) :=
 PE.imp (pe_lst h) fun σ H Q ⟨ρ,σp,h,rs,rh,q⟩=>⟨ρ,σp,h,rs,rh,Ful.bind q fun ρ1 H1 x x' h1 _ l1 rh1 rx q1=>ko rh1 rx (newL_f q1)⟩
def ve(h:MA X es ms):ME X (.Tuple es j pos) (ir ms) :=
 PE.imp (pe_tup h) fun σ H Q ⟨ρ,σp,h,rs,rh,q⟩=>⟨ρ,σp,h,rs,rh,Ful.bind q fun ρ1 H1 x x' h1 _ l1 rh1 rx q1=>tz rh1 rx (newT_f q1)⟩
def SOut.then(o:SOut)(k:Mst):SOut:=match o with
 | .nx σ h=>k σ h
 | o=>o
def bq(a b:Mst):Mst:=fun σ h=>(a σ h).then b
def mSkip:Mst:=fun σ h=>.nx σ h
def fv:MSs X [] mSkip:=PSs.imp pss_nil fun D σ H ⟨ρ,σp,h,rs,rh,q⟩=>q ρ H σ (Le.refl _ _) rh rs
def mss_one{st:Stmt}{m:Mst}(h:MS X st m):MSs X [st] m:=pss_one h
def bV.then{ρ:List Addr}{H:Hp}{o:SOut}{k:Mst}{D:Ends}(q:bV X ρ H (o.then k) D):bV X ρ H o { D with nx:=fun σ H=>tMS X k D σ H}:=by
 cases o with
 | nx σp h=>exact fun ρ' H' σ' l r s=>⟨ρ',σp,h,s,r,bV.le l q⟩
 | _=>exact q
def xF{st:Stmt}{rest:List Stmt}{m u:Mst}(h1:MS X st m)(h2:MSs X rest u):MSs X (st::rest) (bq m u) :=
 PSs.imp (xT h1 h2) fun D σ H ⟨ρ,σp,h,rs,rh,q⟩=>⟨ρ,σp,h,rs,rh,bV.then q⟩
def b7(m:Mx PV):Mst:=fun σ h=>match m σ h with
 | .ok v h'=>.rt v h'
 | .exc x h'=>.exc x σ h'
 | .bad=>.bad
def ms_ret(he:ME X e m):MS X (.Return (some e) pos) (b7 m) :=
 PS.imp (ps_ret he) fun D σ H ⟨ρ,σp,h,rs,rh,q⟩=>⟨ρ,σp,h,rs,rh,by
  unfold b7 at q
  cases e:m σp h with
  | ok v h'=>rw[e] at q;exact q
  | exc x h'=>rw[e] at q;exact q
  | bad=>rw[e] at q;exact q⟩
def mEx{α:Type}(m:Mx α)(k:α->Mst):Mst:=fun σ h=>match m σ h with
 | .ok v h'=>k v σ h'
 | .exc x h'=>.exc x σ h'
 | .bad=>.bad
def bV.ex{α β:Type}{R:Rl α β}{m:Mx α}{k:α->Mst}{ρ:List Addr}{H:Hp}{σp:PSt}{h:MH}{D:Ends}{Q:β->Hp->Prop}(q:bV X ρ H (mEx m k σp h) D)
  (w:∀ρ1 H1 v v' h1,Le ρ H ρ1 H1->RH X.K X.mg ρ1 H1 h1->R ρ1 H1 v v'->bV X ρ1 H1 (k v σp h1) D->Q v' H1):Ful X R σp ρ H (m σp h) Q:=by
 unfold mEx at q
 cases e:m σp h with
 | ok v h'=>rw[e] at q;exact fun ρ1 H1 v' l r z=>w ρ1 H1 v v' h' l r z (bV.le l q)
 | exc x h'=>rw[e] at q;exact q
 | bad=>rw[e] at q;exact q
def pH(m:Mx PV):Mst:=mEx m fun _=>mSkip
def ms_expr{e:Expr}{m:Mx PV}{pos:Pos}(he:ME X e m)(hs:swapsWith e none pos.line X.env=pure false:=by rfl):MS X (.Expr e pos) (pH m) :=
 PS.imp (ps_expr he hs) fun D σ H ⟨ρ,σp,h,rs,rh,q⟩=>⟨ρ,σp,h,rs,rh,bV.ex q fun ρ1 H1 v v' h1 l r z w=>w ρ1 H1 σ (Le.refl _ _) r (rs.le l)⟩
def mIf(c:Mx Bool)(a b:Mst):Mst:=mEx c fun x=>if x=true then a else b
def hX{c:Expr}{a b:List Stmt}{mc:Mx Bool}{ma mb:Mst}{pos:Pos}(hc:MT X c mc)(ha:MSs X a ma)(hb:MSs X b mb):MS X (.If c a b pos) (mIf mc ma mb) :=
 PS.imp (ps_if hc ha hb) fun D σ H ⟨ρ,σp,h,rs,rh,q⟩=>⟨ρ,σp,h,rs,rh,bV.ex q fun ρ1 H1 v v' h1 l r z w=>by
  cases z
  cases v with
  | true=>exact⟨ρ1,σp,h1,rs.le l,r,w⟩
  | false=>exact⟨ρ1,σp,h1,rs.le l,r,w⟩⟩
def bG(i:Nat)(m:Mx PV):Mst:=mEx m fun v σ h=>.nx (σ.set i (some v)) h
def nc(g:Good X N W G k)(i:Nat){x:Str}{e:Expr}{m:Mx PV}{pos pos':Pos}(hi:N[i]?=some x)(hw:W[i]?=some x)(he:ME X e m)(hs:swapsWith e (some (.Name x pos')) pos.line X.env=pure false:=by rfl) :
  MS X (.Assign [.Name x pos'] e pos) (bG i m):=by
 refine PS.imp (ps_set (by rw[g.hN];exact g.nd) (g.x hi) (g.loc x (aZ hi)) he hs (g.fn x (aZ hw))) fun D σ H ⟨ρ,σp,h,rs,rh,q⟩=>?_;exact⟨ρ,σp,h,rs,rh,bV.ex q fun ρ1 H1 v v' h1 l r z w=>w ρ1 H1 _ (Le.refl _ _) r ((rs.le l).set i z)⟩
end
end MM
namespace MM
open PySem PySem.Spec PyProof.Rows L2
local instance (priority:=1) cdec (p:Prop):Decidable p:=Classical.propDecidable p
section
variable {X:Cx} {N W G:List Str} {k:Nat}
abbrev Mg:=PV->Mst
def lr(X:Cx)(ρ:List Addr)(H:Hp)(o:SOut)(Q:L2.St->Hp->Prop):Prop:=match o with
 | .nx σp h'=>∀ρ' H' σ',Le ρ H ρ' H'->RH X.K X.mg ρ' H' h'->RS X.K ρ' H' σp σ'->Q σ' H'
 | .exc x σp h'=>XP X σp ρ H x h'
 | _=>False
def lr.le(l:Le ρ H ρ1 H1)(f:lr X ρ H o Q):lr X ρ1 H1 o Q:=by
 cases o with
 | nx σp h=>exact fun ρ' H' v' l'=>f ρ' H' v' (l.trans l')
 | exc x σp h=>exact XP.le l f
 | _=>exact f
inductive tG (X:Cx) (g:Mg) (v':V) (σ:L2.St) (H:Hp) (Q:L2.St->Hp->Prop):Prop
 | mk (ρ:List Addr) (σp:PSt) (h:MH) (v:PV) (rs:RS X.K ρ H σp σ) (rh:RH X.K X.mg ρ H h) (rv:RP X.K ρ H v v') (q:lr X ρ H (g v σp h) Q):tG X g v' σ H Q
def MG(X:Cx)(tg:Expr)(g:Mg):Prop:=PG X tg (tG X g)
def PG.imp(h:PG X e t)(i:∀v σ H Q,t' v σ H Q->t v σ H Q):PG X e t':=fun Iv s σ H v u Q I r q=>h Iv s σ H v u Q I r (i v σ H Q q)
def gNm(i:Nat):Mg:=fun v σ h=>.nx (σ.set i (some v)) h
def sX(g:Good X N W G k)(i:Nat)(hi:N[i]?=some x)(hw:W[i]?=some x):MG X (.Name x pos) (gNm i) :=
 PG.imp (pg_name (by rw[g.hN];exact g.nd) (g.x hi) (g.loc x (aZ hi)) (g.fn x (aZ hw))) fun v' σ H Q ⟨ρ,σp,h,v,rs,rh,rv,q⟩=>q ρ H _ (Le.refl _ _) rh (rs.set i rv)
abbrev Mgs:=List PV->Mst
inductive tGs (X:Cx) (g:Mgs) (v':List V) (σ:L2.St) (H:Hp) (Q:L2.St->Hp->Prop):Prop
 | mk (ρ:List Addr) (σp:PSt) (h:MH) (v:List PV) (rs:RS X.K ρ H σp σ) (rh:RH X.K X.mg ρ H h) (rv:RPs X.K ρ H v v') (q:lr X ρ H (g v σp h) Q):tGs X g v' σ H Q
def MGs(X:Cx)(tg:List Expr)(g:Mgs):Prop:=PGs X tg (tGs X g)
def PGs.imp(h:PGs X e t)(i:∀v σ H Q,t' v σ H Q->t v σ H Q):PGs X e t':=fun Iv s σ H v u Q I r q=>h Iv s σ H v u Q I r (i v σ H Q q)
def gNl:Mgs:=fun vs σ h=>match vs with
 | []=>.nx σ h
 | _=>.bad
def gCn(a:Mg)(r:Mgs):Mgs:=fun vs σ h=>match vs with
 | v::vr=>(a v σ h).then (r vr)
 | []=>.bad
def kw:MGs X [] gNl:=PGs.imp pgs_nil fun v' σ H Q ⟨ρ,σp,h,v,rs,rh,rv,q⟩=>by
 cases rv with
 | nil=>exact⟨rfl,q ρ H σ (Le.refl _ _) rh rs⟩
 | cons _ _=>exact q.elim
def eI(h1:MG X e a)(h2:MGs X es r)
  (hs:(assignEach (e::es) X.env).map (·.2)=assign e X.env::(assignEach es X.env).map (·.2):=by rfl):MGs X (e::es) (gCn a r) :=
 PGs.imp (yJ h1 h2 hs) fun v' σ H Q ⟨ρ,σp,h,v,rs,rh,rv,q⟩=>by
  cases rv with
  | nil=>exact q.elim
  | @cons x y xs ys rx rr =>
   refine⟨_,_,rfl,ρ,σp,h,x,rs,rh,rx,?_⟩;dsimp only[gCn] at q
   cases e:a x σp h with
   | nx σ1 h1=>rw[e] at q;exact fun ρ' H' σ' l r1 s1=>⟨ρ',σ1,h1,xs,s1,r1,rr.le l,lr.le l q⟩
   | _=>rw[e] at q;exact q
def gTp(r:Mgs)(n:Nat):Mg:=fun v σ h=>match v with
 | .tup xs=>if xs.length=n then r xs σ h else .bad
 | _=>.bad
def mU(g:Good X N W G k){es:List Expr}{j:Nat}{r:Mgs}{n:Nat}{pos:Pos}(h:MGs X es r)(hn:(assignEach es X.env).length=n:=by rfl)(hst:(assignEach es X.env).findIdx? (·.1)=none:=by rfl) :
  MG X (.Tuple es j pos) (gTp r n) :=
 PG.imp (pg_tup g.calm h hn hst) fun v' σ H Q ⟨ρ,σp,h,v,rs,rh,rv,q⟩=>by
  cases rv with
  | tup s rr =>
   dsimp only[gTp] at q
   split at q
   ·rename_i hl
    exact⟨_,_,rfl,s,by rw[<-rr.length];exact hl,ρ,σp,h,_,rs,rh,rr,q⟩
   ·exact q.elim
  | _=>exact q.elim
def e9(m:Mx PV)(g:Mg):Mst:=mEx m fun v σ h=>match g v σ h with
 | .nx σ2 h2=>.nx σ2 h2
 | .exc x σ2 h2=>.exc x σ2 h2
 | _=>.bad
def ni{tg e:Expr}{m:Mx PV}{g:Mg}{pos:Pos}(he:ME X e m)(hg:MG X tg g)(hs:swapsWithSole [tg] e pos.line X.env=pure false:=by rfl)(hw:swappedStores [tg] e X.env=pure none:=by rfl)
  (h1:(assignEach [tg] X.env).map (·.2)=[assign tg X.env]:=by rfl):MS X (.Assign [tg] e pos) (e9 m g) :=
 PS.imp (ps_asg he hg hs hw h1) fun D σ H ⟨ρ,σp,h,rs,rh,q⟩=>⟨ρ,σp,h,rs,rh,bV.ex q fun ρ1 H1 v v' h1 l r z w=>⟨ρ1,σp,h1,v,rs.le l,r,z,by
  cases e:g v σp h1 with
  | _=>rw[e] at w;exact w⟩⟩
def mPar(i j:Nat)(m:Mx (List PV)):Mst:=mEx m fun vs σ h=>match vs with
 | [v,w]=>.nx ((σ.set i (some v)).set j (some w)) h
 | _=>.bad
def ms_par(g:Good X N W G k)(i j:Nat)(hi:N[i]?=some x)(hj:N[j]?=some y)(hij:i≠j)(ha:MA X [a,b] m)
  (hx:X.env.scope.names.lookup x=some .local) (hy:X.env.scope.names.lookup y=some .local)
  (hw:swappedStores [.Tuple [.Name x px,.Name y py] kt pt] (.Tuple [a,b] k2 pt2) X.env=pure (some [x,y]))
  (hs:swapsWithSole [.Tuple [.Name x px,.Name y py] kt pt] (.Tuple [a,b] k2 pt2) pos.line X.env=pure false:=by rfl) :
  MS X (.Assign [.Tuple [.Name x px,.Name y py] kt pt] (.Tuple [a,b] k2 pt2) pos) (mPar i j m) :=
 PS.imp (ps_par g.calm (by rw[g.hN];exact g.nd) (g.x hi) (g.x hj) hij hx hy ha hw hs) fun D σ H ⟨ρ,σp,h,rs,rh,q⟩=>⟨ρ,σp,h,rs,rh,bV.ex q fun ρ1 H1 v v' h1 l r z w=>by
  cases z with
  | nil=>exact w.elim
  | cons z1 z =>
   cases z with
   | nil=>exact w.elim
   | cons z2 z =>
    cases z with
    | nil=>exact⟨_,_,rfl,w ρ1 H1 _ (Le.refl _ _) r (((rs.le l).set i z1).set j z2)⟩
    | cons _ _=>exact w.elim⟩
def lu(o i v:PV)(h:MH):Option MH:=match o,i with
 | .loc n,.int j=>(match h[n]? with
  | some (.lst xs)=>(ixN xs.length j).map fun p=>h.set n (.lst (xs.set p v))
  | _=>none)
 | _,_=>none
def gSb(mo mi:Mx PV):Mg:=fun v=>mEx mo fun o=>mEx mi fun i σ h=>match lu o i v h with
 | some h2=>.nx σ h2
 | none=>.bad
def nh(ho:ME X o mo)(hi:ME X i mi)
  (ha:∀v,assign (.Subscript o i pos) X.env v=(do
   let ov <-holding [v] (eval o X.env)
   let iv <-holding [v,ov] (eval i X.env)
   standAt pos
   holding [v,ov,iv] (setItem ov iv v)
   release [v,ov,iv] []):=by intro _;rfl):MG X (.Subscript o i pos) (gSb mo mi) :=
 PG.imp (pg_sub ho hi yB ha) fun v' σ H Q ⟨ρ,σp,h,v,rs,rh,rv,q⟩=>by
  refine⟨ρ,σp,h,rs,rh,?_⟩;unfold gSb mEx at q
  cases e:mo σp h with
  | exc x h1=>rw[e] at q;exact q
  | bad=>rw[e] at q;exact q
  | ok ov h1 =>
   rw[e] at q;intro ρ1 H1 o' l1 rh1 ro;refine⟨ρ1,σp,h1,rs.le l1,rh1,?_⟩;dsimp only at q
   cases e2:mi σp h1 with
   | exc x h2=>rw[e2] at q;exact XP.le l1 q
   | bad=>rw[e2] at q;exact q
   | ok iv h2 =>
    rw[e2] at q;intro ρ2 H2 i' l2 rh2 ri;have ro2:=ro.le l2;have rv2:=(rv.le l1).le l2;unfold lu at q
    cases ro2 with
    | @loc n a en =>
     cases ri with
     | int j =>
      dsimp only at q;obtain⟨ob,eo,rob⟩:=rh2.obj en;rw[eo] at q
      cases ob with
      | dic kvs=>exact q.elim
      | exc x=>exact q.elim
      | lst xs =>
       obtain⟨ys,ey,ry⟩:=rob;dsimp only at q
       cases ep:ixN xs.length j with
       | none=>rw[ep] at q;exact q.elim
       | some p =>
        rw[ep] at q;refine⟨a,ys,j,p,rfl,rfl,ey,by rw[<-ry.length];exact ep,?_⟩;obtain⟨r3,l3⟩:=rh2.put en (o:=.lst (xs.set p v)) ⟨_,rfl,RPs.set rv2 p ry⟩;exact q ρ2 _ σ (l1.trans (l2.trans l3)) r3 (rs.le (l1.trans (l2.trans l3)))
     | _=>exact q.elim
    | _=>exact q.elim
structure MIt where
 xs:List PV
 gd:List (Nat × List PV):=[]
def MIt.ok(it:MIt)(h:MH):Prop:=∀p∈it.gd,h[p.1]?=some (.lst p.2)
def pT(X:Cx):Rl MIt It:=fun ρ0 H0 it J=>∀ρ H h (i:Nat),Le ρ0 H0 ρ H->RH X.K X.mg ρ H h->it.ok h ->
 (i<it.xs.length->J.go i H/\∀x' H',J.yld i H x' H'->∃ρ' x,Le ρ H ρ' H'/\RH X.K X.mg ρ' H' h/\it.xs[i]?=some x/\RP X.K ρ' H' x x')/\(it.xs.length<=i->J.stop i H)
def MI(X:Cx)(tg iter:Expr)(m:Mx MIt):Prop:=PI X tg iter (tM X (pT X) m)
def PI.imp(h:PI X tg e t)(i:∀σ H Q,t' σ H Q->t σ H Q):PI X tg e t':=fun Iv s σ H Q I q=>h Iv s σ H Q I (i σ H Q q)
def mGo(it:MIt)(g:Mg)(b:Mst):List PV->Mst
 | []=>fun σ h=>if it.ok h then .nx σ h else .bad
 | x::r=>fun σ h=>if it.ok h then (match g x σ h with
   | .nx σ1 h1=>(match b σ1 h1 with
    | .nx σ2 h2=>mGo it g b r σ2 h2
    | .ct σ2 h2=>mGo it g b r σ2 h2
    | .bk σ2 h2=>.nx σ2 h2
    | .rt v h2=>.rt v h2
    | .exc e σ2 h2=>.exc e σ2 h2
    | .rse e σ2 h2=>.rse e σ2 h2
    | .bad=>.bad)
   | .exc e σ1 h1=>.exc e σ1 h1
   | _=>.bad) else .bad
def jq(mi:Mx MIt)(g:Mg)(b:Mst):Mst:=mEx mi fun it=>mGo it g b it.xs
def jX(gd:Good X N W G k)(hi:MI X tg iter mi)(hg:MG X tg g)(hb:MSs X body mb)
  (hs:∀x,foldedSetIterable iter X.env x=pure x:=by intro _;rfl):MS X (.For tg iter body [] pos) (jq mi g mb):=by
 refine PS.imp (ps_for gd.po gd.calm hi hg hb hs) fun D σ H ⟨ρ,σp,h,rs,rh,q⟩=>⟨ρ,σp,h,rs,rh,bV.ex q fun ρ1 H1 it J h1 l1 rh1 jr w=>?_⟩;refine⟨fun i m σ H=>m=it.xs.length - i/\i<=it.xs.length/\∃ρ σp h,Le ρ1 H1 ρ H/\RS X.K ρ H σp σ/\RH X.K X.mg ρ H h/\bV X ρ H (mGo it g mb (it.xs.drop i) σp h) D,⟨_,rfl,qaR _,ρ1,σp,h1,Le.refl _ _,rs.le l1,rh1,w⟩,?_⟩;rintro i m σ2 H2 ⟨rfl,hi,ρ2,σp2,h2,l2,rs2,rh2,w2⟩;by_cases hlt:i<it.xs.length
 ·have ed:it.xs.drop i=it.xs[i]::it.xs.drop (i+1):=qcq hlt;rw[ed] at w2;unfold mGo at w2
  split at w2
  ·rename_i hok
   obtain⟨j1,j2⟩:=jr ρ2 H2 h2 i l2 rh2 hok;obtain⟨go,yl⟩:=j1 hlt;refine .inr ⟨go,fun σ3 H3=>∃ρ3 σp3 h3,Le ρ1 H1 ρ3 H3/\RS X.K ρ3 H3 σp3 σ3/\RH X.K X.mg ρ3 H3 h3/\bV X ρ3 H3 (mGo it g mb (it.xs.drop (i+1)) σp3 h3) D,fun σ3 H3 z=>⟨_,by ext,rfl,hlt,z⟩,fun x' H' y=>?_⟩;obtain⟨ρ',x,l',rh',ex,rx⟩:=yl x' H' y;have ex':x=it.xs[i]:=by rw[qau hlt] at ex;exact (Option.some.inj ex).symm
   subst ex';refine⟨ρ',σp2,h2,_,rs2.le l',rh',rx,?_⟩;have w2':=bV.le l' w2
   cases eg:g it.xs[i] σp2 h2 with
   | nx σ4 h4 =>
    rw[eg] at w2';intro ρ5 H5 σ5 l5 r5 s5;refine⟨ρ5,σ4,h4,s5,r5,?_⟩;have w3:=bV.le l5 w2';have l6:Le ρ1 H1 ρ5 H5:=l2.trans (l'.trans l5);dsimp only at w3
    cases em:mb σ4 h4 with
    | nx σ6 h6=>rw[em] at w3;exact fun ρ7 H7 σ7 l7 r7 s7=>⟨ρ7,σ6,h6,l6.trans l7,s7,r7,bV.le l7 w3⟩
    | ct σ6 h6=>rw[em] at w3;exact fun ρ7 H7 σ7 l7 r7 s7=>⟨ρ7,σ6,h6,l6.trans l7,s7,r7,bV.le l7 w3⟩
    | bk σ6 h6=>rw[em] at w3;exact w3
    | rt v h6=>rw[em] at w3;exact w3
    | exc e σ6 h6=>rw[em] at w3;exact w3
    | rse e σ6 h6=>rw[em] at w3;exact w3
    | bad=>rw[em] at w3;exact w3
   | exc e σ4 h4=>rw[eg] at w2';exact w2'
   | _=>rw[eg] at w2';exact w2'.elim
  ·exact w2.elim
 ·have e:i=it.xs.length:=by ext
  rw[e,List.drop_length] at w2;unfold mGo at w2
  split at w2
  ·rename_i hok
   obtain⟨j1,j2⟩:=jr ρ2 H2 h2 i l2 rh2 hok;exact .inl ⟨j2 (by ext),w2 ρ2 H2 σ2 (Le.refl _ _) rh2 rs2⟩
  ·exact w2.elim
def itSeq(v:PV)(h:MH):Out MIt:=match v with
 | .loc n=>(match h[n]? with
  | some (.lst xs)=>.ok ⟨xs,[(n,xs)]⟩ h
  | _=>.bad)
 | .frl xs=>.ok ⟨xs,[]⟩ h
 | _=>.bad
def mItL(m:Mx PV):Mx MIt:=fun σ h=>(m σ h).bind itSeq
def su(hS:∀ρ' H' h,Le ρ H ρ' H'->RH X.K X.mg ρ' H' h->(⟨xs,gd⟩:MIt).ok h->∃ys,SqL X.K H' a ys/\RPs X.K ρ' H' xs ys):pT X ρ H ⟨xs,gd⟩ (Itl X.K a):=by
 intro ρ' H' h i l rh ok;obtain⟨ys,hs,rs⟩:=hS ρ' H' h l rh ok;refine⟨fun hi=>?_,fun hi=>⟨ys,hs,by rw[<-rs.length];exact hi⟩⟩;have hx:=qau hi;obtain⟨y,ey,ry⟩:=rs.get hx;refine⟨⟨ys,y,hs,ey⟩,fun x' H2 ⟨e,z⟩=>?_⟩;subst e
 have:=z ys hs
 rw[ey] at this;cases this;exact⟨ρ',_,Le.refl _ _,rh,hx,ry⟩
def mi_list(hl:ME X l m):MI X tg l (mItL m) :=
 PI.imp (pi_list hl) fun σ H Q ⟨ρ,σp,h,rs,rh,q⟩=>⟨ρ,σp,h,rs,rh,Ful.bind q fun ρ1 H1 x x' h1 _ l1 rh1 rx q1=>by
  cases rx with
  | @loc n a e =>
   obtain⟨ob,eo,rob⟩:=rh1.obj e;dsimp only[itSeq] at q1;rw[eo] at q1
   cases ob with
   | dic kvs=>exact q1.elim
   | exc x=>exact q1.elim
   | lst xs =>
    obtain⟨ys,ey,ry⟩:=rob;refine⟨a,rfl,⟨ys,SqL.of ey⟩,q1 ρ1 H1 _ (Le.refl _ _) rh1 (su fun ρ' H' h' l rh' ok=>?_)⟩;obtain⟨ys',ey',ry'⟩:=rh'.at' n a _ (l.get e) (ok (n,xs) (by simp));exact⟨ys',SqL.of ey',ry'⟩
  | frl s r =>
   exact⟨_,rfl,⟨_,s.sq⟩,q1 ρ1 H1 _ (Le.refl _ _) rh1 (su fun ρ' H' h' l rh' ok=>⟨_,(l.sqf s).sq,r.le l⟩)⟩
  | _=>exact q1.elim⟩
def mItT(m:Mx PV):Mx MIt:=fun σ h=>(m σ h).bind fun v h1=>match v with
 | .tup xs=>.ok ⟨xs,[]⟩ h1
 | _=>.bad
def mi_tup(hl:ME X l m):MI X tg l (mItT m) :=
 PI.imp (pi_tup hl) fun σ H Q ⟨ρ,σp,h,rs,rh,q⟩=>⟨ρ,σp,h,rs,rh,Ful.bind q fun ρ1 H1 x x' h1 _ l1 rh1 rx q1=>by
  cases rx with
  | @tup xs a ys s r =>
   refine⟨_,rfl,⟨_,s⟩,q1 ρ1 H1 _ (Le.refl _ _) rh1 ?_⟩;intro ρ' H' h' i l rh' ok;have s':=l.sqt s;have r':=r.le l;refine⟨fun hi=>?_,fun hi=>⟨ys,s',by rw[<-r.length];exact hi⟩⟩;have hx:=qau hi;obtain⟨y,ey,ry⟩:=r'.get hx;refine⟨⟨ys,y,s',ey⟩,fun x' H2 ⟨e,z⟩=>?_⟩;subst e
   have:=z ys s'
   rw[ey] at this;cases this;exact⟨ρ',_,Le.refl _ _,rh',hx,ry⟩
  | _=>exact q1.elim⟩
def bY(lo:Int)(n:Nat):List PV:=(List.range n).map fun (i:Nat)=>PV.int (lo+(i:Int))
def uZ(lo:Int)(n:Nat):(bY lo n).length=n:=by simp[bY]
def tQ(lo:Int)(n:Nat):pT X ρ H ⟨bY lo n,[]⟩ (Itr lo n):=by
 intro ρ' H' h i l rh ok;have hl:=uZ lo n;refine⟨fun hi=>⟨by rw[hl] at hi;exact hi,fun x' H2 ⟨e1,e2⟩=>?_⟩,fun hi=>by rw[hl] at hi;exact hi⟩;subst e1;subst e2;rw[hl] at hi;exact⟨ρ',.int (lo+i),Le.refl _ _,rh,by simp[bY,hi],.int _⟩
def kJ(m:Mx (List PV)):Mx MIt:=fun σ h=>(m σ h).bind fun vs h1=>match vs with
 | [.int j]=>if -(2 ^ 62)<=j/\j<2 ^ 62 then .ok ⟨bY 0 j.toNat,[]⟩ h1 else .bad
 | _=>.bad
def mItR2(m:Mx (List PV)):Mx MIt:=fun σ h=>(m σ h).bind fun vs h1=>match vs with
 | [.int i,.int j]=>if -(2 ^ 62)<=i/\i<2 ^ 62 /\ -(2 ^ 62)<=j/\j<2 ^ 62 then .ok ⟨bY i (j - i).toNat,[]⟩ h1 else .bad
 | _=>.bad
def oW(hg:Gl X "range")(hm:X.mg "range"=none)(ha:MA X [a] m)(hs:starEach [a] X.env=[(false,eval a X.env)]:=by rfl):MI X tg (.Call (.Name "range" p) [a] [] pos) (kJ m):=by
 refine PI.imp (vH hg hm ha hs) fun σ H Q ⟨ρ,σp,h,rs,rh,q⟩=>⟨ρ,σp,h,rs,rh,Ful.bind q fun ρ1 H1 x x' h1 _ l1 rh1 rx q1=>?_⟩
 cases rx with
 | nil=>exact q1.elim
 | cons r1 t1 =>
  cases t1 with
  | nil =>
   cases r1 with
   | int j =>
    dsimp only at q1
    split at q1
    ·rename_i hj
     exact⟨j,rfl,hj.1,hj.2,q1 ρ1 H1 _ (Le.refl _ _) rh1 (tQ 0 j.toNat)⟩
    ·exact q1.elim
   | _=>exact q1.elim
  | cons r2 t2=>cases r1 <;> exact q1.elim
def vm{tg a b:Expr}{m:Mx (List PV)}{p pos:Pos}(hg:Gl X "range")(hm:X.mg "range"=none)(ha:MA X [a,b] m)(hs:starEach [a,b] X.env=[(false,eval a X.env),(false,eval b X.env)]:=by rfl)(hs2:starEach [b] X.env=[(false,eval b X.env)]:=by rfl):MI X tg (.Call (.Name "range" p) [a,b] [] pos) (mItR2 m):=by
 refine PI.imp (wj hg hm ha hs hs2) fun σ H Q ⟨ρ,σp,h,rs,rh,q⟩=>⟨ρ,σp,h,rs,rh,Ful.bind q fun ρ1 H1 x x' h1 _ l1 rh1 rx q1=>?_⟩
 split at q1
 ·cases rx with
  | cons r1 t1 =>
   cases t1 with
   | cons r2 t2 =>
    cases t2;cases r1;cases r2
    split at q1
    ·rename_i hj
     exact⟨_,_,rfl,hj,q1 ρ1 H1 _ (Le.refl _ _) rh1 (tQ _ _)⟩
    ·exact q1.elim
 ·exact q1.elim
def cm(f:PV->Option PyData):List PV->Option (List PyData)
 | []=>some []
 | x::r=>match f x,cm f r with
  | some d,some ds=>some (d::ds)
  | _,_=>none
def rd:Nat->MH->PV->Option PyData
 | 0,_,v=>(match v with
  | .non=>some .none
  | .bl b=>some (.bool b)
  | .int i=>some (.int i)
  | .str x=>some (.str x)
  | _=>none)
 | n+1,h,v=>(match v with
  | .non=>some .none
  | .bl b=>some (.bool b)
  | .int i=>some (.int i)
  | .str x=>some (.str x)
  | .tup xs=>(cm (rd n h) xs).map PyData.tuple
  | .frl xs=>(cm (rd n h) xs).map PyData.list
  | .loc m=>(match h[m]? with
   | some (.lst xs)=>(cm (rd n h) xs).map PyData.list
   | _=>none))
def fI{hp:Heap}{f:PV->Option PyData}{K:qaa}{ρ:List Addr}{H:Hp}(hf:∀v v' u d,RP K ρ H v v'->aW v' u->f v=some d->∃as,Reads hp u d as) :
  ∀{xs:List PV} {ys:List V} {us:List Value} {ds:List PyData},RPs K ρ H xs ys->aF ys us->cm f xs=some ds->∃as,ReadsAll hp us ds as:=by
 intro xs
 induction xs with
 | nil =>
  intro ys us ds r v e;cases r;cases v;cases e;exact⟨_,.nil⟩
 | cons x xs ih =>
  intro ys us ds r v e;cases r with|cons r t=>cases v with|cons v w =>
  simp only[cm] at e
  split at e
  ·rename_i d ds' e1 e2
   cases e;obtain⟨a1,q1⟩:=hf _ _ _ _ r v e1;obtain⟨a2,q2⟩:=ih t w e2;exact⟨_,.cons q1 q2⟩
  ·cases e
def eG{Iv:List (Addr × Obj)}{σ:L2.St}{H:Hp}{s:Shared}{ρ:List Addr}{h:MH}(I:Inv X Iv σ H s)(rh:RH X.K X.mg ρ H h) :
  ∀(n:Nat) (v:PV) (v':V) (u:Value) (d:PyData),RP X.K ρ H v v'->aW v' u->rd n h v=some d->∃as,Reads s.heap u d as:=by
 intro n
 induction n with
 | zero =>
  intro v v' u d rp r e
  cases rp with
  | non=>cases e;cases r;exact⟨_,.none⟩
  | bl b=>cases e;cases r;exact⟨_,.bool b⟩
  | int i=>cases e;obtain⟨t,rfl⟩:=r;exact⟨_,.int i t⟩
  | str i=>cases e;obtain⟨t,rfl⟩:=r;exact⟨_,.str i t⟩
  | _=>cases e
 | succ n ih =>
  intro v v' u d rp r e
  cases rp with
  | non=>cases e;cases r;exact⟨_,.none⟩
  | bl b=>cases e;cases r;exact⟨_,.bool b⟩
  | int i=>cases e;obtain⟨t,rfl⟩:=r;exact⟨_,.int i t⟩
  | str i=>cases e;obtain⟨t,rfl⟩:=r;exact⟨_,.str i t⟩
  | @tup xs a ys s rr =>
   cases r;simp only[rd] at e
   cases q:cm (rd n h) xs with
   | none=>rw[q] at e;cases e
   | some ds =>
    rw[q] at e;cases e;obtain⟨its,rv,⟨o,e1,e2,m,e3⟩,_⟩:=I.tuple s;obtain⟨as,ra⟩:=fI (ih) rr rv q;exact⟨_,.tuple e1 e2 e3 (by simpa using ra)⟩
  | @frl xs a ys s rr =>
   cases r;simp only[rd] at e
   cases q:cm (rd n h) xs with
   | none=>rw[q] at e;cases e
   | some ds =>
    rw[q] at e;cases e;obtain⟨its,rv,⟨o,m,e1,e2,_,e3⟩,_⟩:=I.list s.sq;obtain⟨as,ra⟩:=fI (ih) rr rv q;exact⟨_,.list e1 e2 e3 (by simpa using ra)⟩
  | loc en =>
   cases r;simp only[rd] at e;obtain⟨ob,eo,rob⟩:=rh.obj en;rw[eo] at e
   cases ob with
   | dic kvs=>cases e
   | exc x=>cases e
   | lst xs =>
    obtain⟨ys,ey,ry⟩:=rob;dsimp only at e
    cases q:cm (rd n h) xs with
    | none=>rw[q] at e;cases e
    | some ds =>
     rw[q] at e;cases e;obtain⟨its,rv,⟨o,m',e1,e2,_,e3⟩,_⟩:=I.list (SqL.of ey);obtain⟨as,ra⟩:=fI (ih) ry rv q;exact⟨_,.list e1 e2 e3 (by simpa using ra)⟩
def opEq(x y:PV)(h:MH):Out PV:=match rd 60 h x,rd 60 h y with
 | some a,some b=>if SeqAt.shaped a=true/\SeqAt.shaped b=true then .ok (.bl (PyData.eqv a b)) h else .bad
 | _,_=>.bad
def opNe(x y:PV)(h:MH):Out PV:=match rd 60 h x,rd 60 h y with
 | some a,some b=>if SeqAt.shaped a=true/\SeqAt.shaped b=true then .ok (.bl (!PyData.eqv a b)) h else .bad
 | _,_=>.bad
def oj_eq(hr:Room k X.A):OpJ X (compareOp .Eq) opEq:=by
 intro Iv s σ H x' y' u v Q I rx' ry' ⟨ρ,h,x,y,rh,rx,ry,q⟩;unfold opEq at q
 split at q
 ·rename_i a b ea eb
  split at q
  ·rename_i hs
   obtain⟨_,ra⟩:=eG I rh 60 x x' u a rx rx' ea;obtain⟨_,rb⟩:=eG I rh 60 y y' v b ry ry' eb;exact eq_dataH ra rb hs.1 hs.2 hr.units ⟨.bl _,H,I,rfl,q ρ H _ (Le.refl _ _) rh (.bl _)⟩
  ·exact q.elim
 ·exact q.elim
def oj_ne(hr:Room k X.A):OpJ X (compareOp .NotEq) opNe:=by
 intro Iv s σ H x' y' u v Q I rx' ry' ⟨ρ,h,x,y,rh,rx,ry,q⟩;unfold opNe at q
 split at q
 ·rename_i a b ea eb
  split at q
  ·rename_i hs
   obtain⟨_,ra⟩:=eG I rh 60 x x' u a rx rx' ea;obtain⟨_,rb⟩:=eG I rh 60 y y' v b ry ry' eb;exact ne_dataH ra rb hs.1 hs.2 hr.units ⟨.bl _,H,I,rfl,q ρ H _ (Le.refl _ _) rh (.bl _)⟩
  ·exact q.elim
 ·exact q.elim
def lQ(f:Int->Int->PV):PV->PV->MH->Out PV:=fun x y h=>match x,y with
 | .int i,.int j=>.ok (f i j) h
 | _,_=>.bad
def mJ(ho:OpR X F (rI0 f))(hfg:∀ρ H i j,RP X.K ρ H (g i j) (f i j)):OpJ X F (lQ g):=by
 intro Iv s σ H x' y' u v Q I rx' ry' ⟨ρ,h,x,y,rh,rx,ry,q⟩;unfold lQ at q
 split at q
 ·cases rx;cases ry;exact ho Iv s σ H _ _ u v Q I rx' ry' ⟨_,_,rfl,rfl,q ρ H _ (Le.refl _ _) rh (hfg ρ H _ _)⟩
 ·exact q.elim
def opLt:=lQ fun i j=>.bl (decide (i<j))
def opLe:=lQ fun i j=>.bl (decide (i<=j))
def opGt:=lQ fun i j=>.bl (decide (j<i))
def opGe:=lQ fun i j=>.bl (decide (j<=i))
def oj_lt:OpJ X (compareOp .Lt) opLt:=mJ op_lt fun _ _ _ _=>.bl _
def oj_le:OpJ X (compareOp .LtE) opLe:=mJ op_le fun _ _ _ _=>.bl _
def uy:OpJ X (compareOp .Gt) opGt:=mJ op_gt fun _ _ _ _=>.bl _
def uM:OpJ X (compareOp .GtE) opGe:=mJ op_ge fun _ _ _ _=>.bl _
def opMul(x y:PV)(h:MH):Out PV:=match x,y with
 | .int i,.int j=>if IntMulOk i j then .ok (.int (i * j)) h else .bad
 | .loc n,.int j=>(match h[n]? with
  | some (.lst xs)=>if -(2 ^ 63)<=j/\j<2 ^ 63 then newL (List.flatten (List.replicate j.toNat xs)) h else .bad
  | _=>.bad)
 | _,_=>.bad
def opFd(x y:PV)(h:MH):Out PV:=match x,y with
 | .int i,.int j=>if j≠0/\Builtin.divisionGoesByPylong i j=false then .ok (.int (i.fdiv j)) h else .bad
 | _,_=>.bad
def opMod(x y:PV)(h:MH):Out PV:=match x,y with
 | .int i,.int j=>if j≠0 then .ok (.int (i.fmod j)) h else .bad
 | _,_=>.bad
def opPow(x y:PV)(h:MH):Out PV:=match x,y with
 | .int i,.int j=>if dr i j then .ok (.int (i ^ j.toNat)) h else .bad
 | _,_=>.bad
def opAdd(x y:PV)(h:MH):Out PV:=match x,y with
 | .int i,.int j=>.ok (.int (i+j)) h
 | .str a,.str b=>if a.length+b.length<=sizeLine then .ok (.str (a++b)) h else .bad
 | .loc n,.loc m=>(match h[n]?,h[m]? with
  | some (.lst xs),some (.lst ys)=>newL (xs++ys) h
  | _,_=>.bad)
 | .tup xs,.tup ys=>if xs≠[] then newT (xs++ys) h else .bad
 | _,_=>.bad
def opSub:=lQ fun i j=>.int (i - j)
def opNeg(x:PV)(h:MH):Out PV:=match x with
 | .int i=>.ok (.int (-i)) h
 | _=>.bad
def iL:OpJ X (binaryOp .Sub) opSub:=mJ op_sub fun _ _ _ _=>.int _
def qM:UnJ X (unaryOp .USub) opNeg:=by
 intro Iv s σ H x' u Q I rx' ⟨ρ,h,x,rh,rx,q⟩
 cases rx with
 | int i=>exact un_neg Iv s σ H _ u Q I rx' ⟨i,rfl,q ρ H _ (Le.refl _ _) rh (.int _)⟩
 | _=>exact q.elim
def oj_fd:OpJ X (binaryOp .FloorDiv) opFd:=by
 intro Iv s σ H x' y' u v Q I rx' ry' ⟨ρ,h,x,y,rh,rx,ry,q⟩;unfold opFd at q
 split at q
 ·cases rx;cases ry
  split at q
  ·rename_i hc
   obtain⟨t,rfl⟩:=rx';obtain⟨t',rfl⟩:=ry';exact floordiv_int hc.1 ⟨.int _,H,I.tok _,⟨_,rfl⟩,q ρ H _ (Le.refl _ _) rh (.int _)⟩ (.inl hc.2)
  ·exact q.elim
 ·exact q.elim
def dR:OpJ X (binaryOp .Mod) opMod:=by
 intro Iv s σ H x' y' u v Q I rx' ry' ⟨ρ,h,x,y,rh,rx,ry,q⟩;unfold opMod at q
 split at q
 ·cases rx;cases ry
  split at q
  ·rename_i hc
   obtain⟨t,rfl⟩:=rx';obtain⟨t',rfl⟩:=ry';exact mod_int' hc ⟨.int _,H,I.tok _,⟨_,rfl⟩,q ρ H _ (Le.refl _ _) rh (.int _)⟩
  ·exact q.elim
 ·exact q.elim
def rC:OpJ X (binaryOp .Pow) opPow:=by
 intro Iv s σ H x' y' u v Q I rx' ry' ⟨ρ,h,x,y,rh,rx,ry,q⟩;unfold opPow at q
 split at q
 ·rename_i i j
  cases rx;cases ry
  split at q
  ·rename_i hc
   exact op_pow Iv s σ H _ _ u v Q I rx' ry' ⟨i,j,rfl,rfl,hc,q ρ H _ (Le.refl _ _) rh (.int _)⟩
  ·exact q.elim
 ·exact q.elim
def dW:OpJ X (binaryOp .Add) opAdd:=by
 intro Iv s σ H x' y' u v Q I rx' ry' ⟨ρ,h,x,y,rh,rx,ry,q⟩
 cases rx with
 | int i =>
  cases ry with
  | int j=>exact op_add Iv s σ H _ _ u v Q I rx' ry' ⟨i,j,rfl,rfl,q ρ H _ (Le.refl _ _) rh (.int _)⟩
  | _=>exact q.elim
 | str a =>
  cases ry with
  | str b =>
   dsimp only[opAdd] at q
   split at q
   ·rename_i hl
    exact uE Iv s σ H _ _ u v Q I rx' ry' ⟨a,b,rfl,rfl,hl,q ρ H _ (Le.refl _ _) rh (.str _)⟩
   ·exact q.elim
  | _=>exact q.elim
 | @loc n a e =>
  cases ry with
  | @loc m b e2 =>
   dsimp only[opAdd] at q;obtain⟨o1,h1,r1⟩:=rh.obj e;obtain⟨o2,h2,r2⟩:=rh.obj e2;rw[h1,h2] at q
   cases o1 with
   | dic kvs=>exact q.elim
   | exc x=>exact q.elim
   | lst xs =>
    cases o2 with
    | dic kvs=>exact q.elim
    | exc x=>exact q.elim
    | lst ys =>
     obtain⟨xs',ex,rx1⟩:=r1;obtain⟨ys',ey,ry1⟩:=r2;obtain⟨z1,z2⟩:=ko rh (rx1.append ry1) q;exact op_cat Iv s σ H _ _ u v Q I rx' ry' ⟨a,b,xs',ys',rfl,rfl,ex,ey,by rw[<-qaQ];exact z1,z2⟩
  | _=>exact q.elim
 | tup s1 r1 =>
  cases ry with
  | tup s2 r2 =>
   dsimp only[opAdd] at q
   split at q
   ·rename_i hne
    obtain⟨z1,z2⟩:=tz rh (r1.append r2) q;refine op_catT Iv s σ H _ _ u v Q I rx' ry' ⟨_,_,_,_,rfl,rfl,s1,s2,?_,by rw[<-qaQ];exact z1,fun z=>?_,fun _=>z2⟩
    ·rintro rfl;cases r1;exact hne rfl
    ·subst z;cases r2;unfold newT at q
     split at q
     ·exact q ρ H _ (Le.refl _ _) rh (by rw[qcc];exact .tup s1 r1)
     ·exact q.elim
   ·exact q.elim
  | _=>exact q.elim
 | _=>cases ry <;> exact q.elim
def RPs.rep{K:qaa}{ρ:List Addr}{H:Hp}{xs:List PV}{ys:List V}(r:RPs K ρ H xs ys):∀n:Nat,RPs K ρ H (List.replicate n xs).flatten (List.replicate n ys).flatten
 | 0=>.nil
 | n+1=>by exact r.append (RPs.rep r n)
def fO:OpJ X (binaryOp .Mult) opMul:=by
 intro Iv s σ H x' y' u v Q I rx' ry' ⟨ρ,h,x,y,rh,rx,ry,q⟩
 cases rx with
 | int i =>
  cases ry with
  | int j =>
   dsimp only[opMul] at q
   split at q
   ·rename_i hc
    obtain⟨t,rfl⟩:=rx';obtain⟨t',rfl⟩:=ry';exact PyProof.Rows.mul_int ⟨.int _,H,I.tok _,⟨_,rfl⟩,q ρ H _ (Le.refl _ _) rh (.int _)⟩ hc
   ·exact q.elim
  | _=>exact q.elim
 | @loc n a e =>
  cases ry with
  | int j =>
   dsimp only[opMul] at q;obtain⟨o1,h1,r1⟩:=rh.obj e;rw[h1] at q
   cases o1 with
   | dic kvs=>exact q.elim
   | exc x=>exact q.elim
   | lst xs =>
    dsimp only at q
    split at q
    ·rename_i hj
     obtain⟨xs',ex,rx1⟩:=r1;obtain⟨z1,z2⟩:=ko rh (rx1.rep j.toNat) q;refine op_rep Iv s σ H _ _ u v Q I rx' ry' ⟨a,j,xs',rfl,rfl,ex,hj.1,hj.2,?_,z2⟩;rw[sC] at z1;rw[Nat.mul_comm];exact z1
    ·exact q.elim
  | _=>exact q.elim
 | _=>cases ry <;> exact q.elim
def bT(x y:PV)(h:MH):Out PV:=match y with
 | .int i=>(match x with
  | .loc n=>(match h[n]? with
   | some (.lst xs)=>(match atI xs i with
    | some v=>.ok v h
    | none=>.bad)
   | _=>.bad)
  | .tup xs=>(match atI xs i with
   | some v=>.ok v h
   | none=>.bad)
  | .frl xs=>(match atI xs i with
   | some v=>.ok v h
   | none=>.bad)
  | .str z=>(match atI z.cps.toList i with
   | some c=>if z.length<=sizeLine then .ok (.str ⟨#[c]⟩) h else .bad
   | none=>.bad)
  | _=>.bad)
 | _=>.bad
def nU{K:qaa}{ρ:List Addr}{H:Hp}{xs:List PV}{ys:List V}{i:Int}{v:PV}(r:RPs K ρ H xs ys)(e:atI xs i=some v):∃v',atI ys i=some v'/\RP K ρ H v v':=by
 unfold atI at e ⊢;rw[<-r.length]
 cases q:ixN xs.length i with
 | none=>rw[q] at e;cases e
 | some j =>
  rw[q] at e;exact r.get e
def me_ix{a b:Expr}{ma mb:Mx PV}{pos:Pos}(ha:ME X a ma)(hb:ME X b mb)(hs:kU b):ME X (.Subscript a b pos) (az bT ma mb):=by
 refine PE.imp (pe_ix ix_seq ha hb hs) fun σ H Q q=>?_;obtain⟨ρ,σp,h,rs,rh,q⟩:=q;refine⟨ρ,σp,h,rs,rh,Ful.bind q fun ρ1 H1 x x' h1 _ l1 rh1 rx q1=>⟨ρ1,σp,h1,rs.le l1,rh1,Ful.bind q1 fun ρ2 H2 y y' h2 _ l2 rh2 ry q2=>?_⟩⟩;have rx2:=rx.le l2
 cases ry with
 | int i =>
  cases rx2 with
  | @loc n a e =>
   obtain⟨ob,eo,rob⟩:=rh2.obj e;dsimp only[bT] at q2;rw[eo] at q2
   cases ob with
   | dic kvs=>exact q2.elim
   | exc x=>exact q2.elim
   | lst xs =>
    obtain⟨ys,ey,rr⟩:=rob;dsimp only at q2
    cases ea:atI xs i with
    | none=>rw[ea] at q2;exact q2.elim
    | some v =>
     rw[ea] at q2;obtain⟨v',e',rv⟩:=nU rr ea;exact .inl ⟨a,ys,i,v',rfl,rfl,SqL.of ey,e',q2 ρ2 H2 _ (Le.refl _ _) rh2 rv⟩
  | @tup xs a ys s1 rr =>
   dsimp only[bT] at q2
   cases ea:atI xs i with
   | none=>rw[ea] at q2;exact q2.elim
   | some v =>
    rw[ea] at q2;obtain⟨v',e',rv⟩:=nU rr ea;exact .inr (.inl ⟨_,_,i,v',rfl,rfl,s1,e',q2 ρ2 H2 _ (Le.refl _ _) rh2 rv⟩)
  | @frl xs a ys s1 rr =>
   dsimp only[bT] at q2
   cases ea:atI xs i with
   | none=>rw[ea] at q2;exact q2.elim
   | some v =>
    rw[ea] at q2;obtain⟨v',e',rv⟩:=nU rr ea;exact .inl ⟨_,_,i,v',rfl,rfl,s1.sq,e',q2 ρ2 H2 _ (Le.refl _ _) rh2 rv⟩
  | str z =>
   dsimp only[bT] at q2
   cases ea:atI z.cps.toList i with
   | none=>rw[ea] at q2;exact q2.elim
   | some c =>
    rw[ea] at q2;dsimp only at q2
    split at q2
    ·rename_i hz
     exact .inr (.inr ⟨z,i,c,rfl,rfl,hz,ea,q2 ρ2 H2 _ (Le.refl _ _) rh2 (.str _)⟩)
    ·exact q2.elim
  | _=>exact q2.elim
 | _=>exact q2.elim
def mCB(f:List PV->MH->Out PV)(m:Mx (List PV)):Mx PV:=fun σ h=>(m σ h).bind fun xs h1=>(f xs h1).ne
section
variable {x:Str} {id T:String} {e:Expr} {es:List Expr} {f:List PV→MH→Out PV} {m:Mx (List PV)} {p pos:Pos}
def tM_cb{σ:L2.St}{H:Hp}{Q:VK}(q:tM X (RV' X) (mCB f m) σ H Q):tCB (cJ X f) (tM X (RVs' X) m) σ H Q:=by
 obtain⟨ρ,σp,h,rs,rh,q⟩:=q;exact⟨ρ,σp,h,rs,rh,Ful.bind q fun ρ1 H1 x x' h1 _ l1 rh1 rx q1=>⟨ρ1,h1,x,rh1,rx,q1.zero⟩⟩
def pN(g:Good X N W G k)(j:Nat)(hj:G[j]?=some x)(hc:cu X (.builtin id) f)(hm:X.mg x=none)(hv:bootBuiltins x=some (.builtin id))(ha:MA X (e::es) m)
  (he:starEach (e::es) X.env=(false,eval e X.env)::starEach es X.env:=by rfl) (hpl:(backTo pos (starEach es X.env)).any (·.1)=false:=by rfl):ME X (.Call (.Name x p) (e::es) [] pos) (mCB f m) :=
 have d:=g.dbg x (qam _ (aZ hj))
 PE.imp (jp hc (g.gl x (aZ hj)) hm hv ha d.2.2 d.1 he hpl) fun _ _ _ q=>tM_cb q
def vC(g:Good X N W G k)(j:Nat)(hj:G[j]?=some x)(hc:cu X (.type T) f)(hm:X.mg x=none)(hv:bootBuiltins x=some (.type T))(ha:MA X (e::es) m)
  (he:starEach (e::es) X.env=(false,eval e X.env)::starEach es X.env:=by rfl) (hpl:(backTo pos (starEach es X.env)).any (·.1)=false:=by rfl):ME X (.Call (.Name x p) (e::es) [] pos) (mCB f m) :=
 have d:=g.dbg x (qam _ (aZ hj))
 PE.imp (j4 hc (g.gl x (aZ hj)) hm hv ha d.2.2 d.1 he hpl) fun _ _ _ q=>tM_cb q
end
def fAbs(xs:List PV)(h:MH):Out PV:=match xs with
 | [.int i]=>.ok (.int (if i<0 then -i else i)) h
 | _=>.bad
def fMin(xs:List PV)(h:MH):Out PV:=match xs with
 | [.int i,.int j]=>.ok (.int (if j<i then j else i)) h
 | _=>.bad
def fMax(xs:List PV)(h:MH):Out PV:=match xs with
 | [.int i,.int j]=>.ok (.int (if j>i then j else i)) h
 | _=>.bad
def fLen(xs:List PV)(h:MH):Out PV:=match xs with
 | [.loc n]=>(match h[n]? with
  | some (.lst ys)=>.ok (.int ys.length) h
  | _=>.bad)
 | [.tup ys]=>.ok (.int ys.length) h
 | [.frl ys]=>.ok (.int ys.length) h
 | [.str z]=>if z.length<=sizeLine then .ok (.int z.length) h else .bad
 | _=>.bad
def wm:cu X (.builtin "abs") fAbs:=by
 intro Iv s σ H xs us Q I r ⟨ρ,h,ps,rh,rp,q⟩
 cases rp with
 | nil=>exact q.elim
 | cons r1 t1 =>
  cases t1 with
  | cons _ _=>cases r1 <;> exact q.elim
  | nil =>
   cases r1 with
   | int i=>exact xu Iv s σ H _ us Q I r ⟨i,rfl,q ρ H _ (Le.refl _ _) rh (.int _)⟩
   | _=>exact q.elim
def qI{f:List PV->MH->Out PV}{F:Int->Int->Int}{r:List V->Hp->VK->Prop}{V0:Value}(hf:∀i j h,f [.int i,.int j] h=.ok (.int (F i j)) h)(hb:∀xs h,(∀i j,xs≠[.int i,.int j])->f xs h=.bad)
  (hc:cF X V0 (fun xs H Q=>∃i j,xs=[.int i,.int j]/\Q (.int (F i j)) H)):cu X V0 f:=by
 intro Iv s σ H xs us Q I r ⟨ρ,h,ps,rh,rp,q⟩;by_cases z:∃i j,ps=[.int i,.int j]
 ·obtain⟨i,j,rfl⟩:=z
  cases rp with
  | cons r1 t1=>cases t1 with
   | cons r2 t2 =>
    cases t2;cases r1;cases r2;rw[hf] at q;exact hc Iv s σ H _ us Q I r ⟨i,j,rfl,q ρ H _ (Le.refl _ _) rh (.int _)⟩
 ·rw[hb ps h fun i j e=>z ⟨i,j,e⟩] at q;exact q.elim
def mL(g:Good X N W G k):cu X (.builtin "min") fMin:=qI (r:=fun _ _ _=>True) (fun _ _ _=>rfl) (fun xs h z=>by unfold fMin;split <;> first | rfl | exact absurd rfl (z _ _)) (oM g.calm)
def cj_max(g:Good X N W G k):cu X (.builtin "max") fMax:=qI (r:=fun _ _ _=>True) (fun _ _ _=>rfl) (fun xs h z=>by unfold fMax;split <;> first | rfl | exact absurd rfl (z _ _)) (oJ g.calm)
def fP:cu X (.builtin "len") fLen:=by
 intro Iv s σ H xs us Q I r ⟨ρ,h,ps,rh,rp,q⟩
 cases rp with
 | nil=>exact q.elim
 | cons r1 t1 =>
  cases t1 with
  | cons _ _=>cases r1 <;> exact q.elim
  | nil =>
   cases r1 with
   | @loc n a e =>
    obtain⟨ob,eo,rob⟩:=rh.obj e;dsimp only[fLen] at q;rw[eo] at q
    cases ob with
    | dic kvs=>exact q.elim
    | exc x=>exact q.elim
    | lst xs =>
     obtain⟨ys,ey,rr⟩:=rob;exact jo Iv s σ H _ us Q I r ⟨_,_,rfl,.inl ⟨ys,SqL.of ey,rfl⟩,by rw[<-rr.length];exact q ρ H _ (Le.refl _ _) rh (.int _)⟩
   | tup s1 rr=>exact jo Iv s σ H _ us Q I r ⟨_,_,rfl,.inr ⟨_,s1,rfl⟩,by rw[<-rr.length];exact q ρ H _ (Le.refl _ _) rh (.int _)⟩
   | frl s1 rr=>exact jo Iv s σ H _ us Q I r ⟨_,_,rfl,.inl ⟨_,s1.sq,rfl⟩,by rw[<-rr.length];exact q ρ H _ (Le.refl _ _) rh (.int _)⟩
   | str z =>
    dsimp only[fLen] at q
    split at q
    ·rename_i hz
     exact jo Iv s σ H _ us Q I r ⟨_,_,rfl,⟨hz,rfl⟩,q ρ H _ (Le.refl _ _) rh (.int _)⟩
    ·exact q.elim
   | _=>exact q.elim
def tyP(h:MH):PV->Option String
 | .non=>some "NoneType"
 | .bl _=>some "bool"
 | .int _=>some "int"
 | .str _=>some "str"
 | .tup _=>some "tuple"
 | .frl _=>some "list"
 | .loc n=>match h[n]? with
  | some (.lst _)=>some "list"
  | some (.dic _)=>some "dict"
  | _=>none
def bL(t:String)(T:String):Bool:=t == T || (t == "bool" && T == "int")
def qe(Ts:List String)(x:PV)(h:MH):Out PV:=match tyP h x with
 | some t=>.ok (.bl (Ts.any (bL t))) h
 | none=>.bad
def okT(T:String):Prop:=∀K:qaa,∀t∈["NoneType","bool","int","str","tuple","list","dict"],PySem.W.kitOne K (.type t) (.type T)=some (bL t T)
def jJ(h1:∀K,PySem.W.kitOne K (.type "NoneType") (.type T)=some (bL "NoneType" T))(h2:∀K,PySem.W.kitOne K (.type "bool") (.type T)=some (bL "bool" T))(h3:∀K,PySem.W.kitOne K (.type "int") (.type T)=some (bL "int" T))
  (h4:∀K,PySem.W.kitOne K (.type "str") (.type T)=some (bL "str" T)) (h5:∀K,PySem.W.kitOne K (.type "tuple") (.type T)=some (bL "tuple" T)) (h6:∀K,PySem.W.kitOne K (.type "list") (.type T)=some (bL "list" T))
  (h7:∀K,PySem.W.kitOne K (.type "dict") (.type T)=some (bL "dict" T)):okT T:=by
 intro K t ht;simp only[qaj,qaN,or_false] at ht;rcases ht with rfl|rfl|rfl|rfl|rfl|rfl|rfl
 ·exact h1 K
 ·exact h2 K
 ·exact h3 K
 ·exact h4 K
 ·exact h5 K
 ·exact h6 K
 ·exact h7 K
def okT_int:okT "int":=jJ (fun _=>rfl) (fun _=>rfl) (fun _=>rfl) (fun _=>rfl) (fun _=>rfl) (fun _=>rfl) (fun _=>rfl)
def ye:okT "bool":=jJ (fun _=>rfl) (fun _=>rfl) (fun _=>rfl) (fun _=>rfl) (fun _=>rfl) (fun _=>rfl) (fun _=>rfl)
def okT_str:okT "str":=jJ (fun _=>rfl) (fun _=>rfl) (fun _=>rfl) (fun _=>rfl) (fun _=>rfl) (fun _=>rfl) (fun _=>rfl)
def yF:okT "list":=jJ (fun _=>rfl) (fun _=>rfl) (fun _=>rfl) (fun _=>rfl) (fun _=>rfl) (fun _=>rfl) (fun _=>rfl)
def vM:okT "tuple":=jJ (fun _=>rfl) (fun _=>rfl) (fun _=>rfl) (fun _=>rfl) (fun _=>rfl) (fun _=>rfl) (fun _=>rfl)
def kitx_of{Iv:List (Addr × Obj)}{σ:L2.St}{H:Hp}{s:Shared}{ρ:List Addr}{h:MH}{x:PV}{x':V}{u:Value}{t:String}(I:Inv X Iv σ H s)(rh:RH X.K X.mg ρ H h)(rx:RP X.K ρ H x x')(ru:aW x' u)(e:tyP h x=some t) :
  t∈["NoneType","bool","int","str","tuple","list","dict"]/\u≠.builtin "__main__.__loader__#opaque"/\∃Hq,PySem.W.KitX X.K u (.type t) Hq/\Hq s.heap:=by
 cases rx with
 | non=>cases e;cases ru;exact⟨by simp,(fun z=>nomatch z),_,PySem.W.kitx_none,trivial⟩
 | bl b=>cases e;cases ru;exact⟨by simp,(fun z=>nomatch z),_,PySem.W.kitx_bool,trivial⟩
 | int i=>cases e;obtain⟨t,rfl⟩:=ru;exact⟨by simp,(fun z=>nomatch z),_,PySem.W.kitx_int,trivial⟩
 | str i=>cases e;obtain⟨t,rfl⟩:=ru;exact⟨by simp,(fun z=>nomatch z),_,PySem.W.kitx_str,trivial⟩
 | tup s1 r1 =>
  cases e;cases ru;obtain⟨its,rv,⟨o,e1,e2,_⟩,_⟩:=I.tuple s1;exact⟨by simp,(fun z=>nomatch z),_,PySem.W.kitx_tuple,⟨o,e1,e2⟩⟩
 | frl s1 r1 =>
  cases e;cases ru;obtain⟨its,rv,⟨o,m,e1,e2,_,e3⟩,_⟩:=I.list s1.sq;exact⟨by simp,(fun z=>nomatch z),_,PySem.W.kitx_list,⟨o,e1,e2⟩⟩
 | @loc n a en =>
  obtain⟨ob,eo,rob⟩:=rh.obj en;dsimp only[tyP] at e;rw[eo] at e;cases ru
  cases ob with
  | lst xs =>
   cases e;obtain⟨ys,ey,_⟩:=rob;obtain⟨its,rv,⟨o,m,e1,e2,_,e3⟩,_⟩:=I.list (SqL.of ey);exact⟨by simp,(fun z=>nomatch z),_,PySem.W.kitx_list,⟨o,e1,e2⟩⟩
  | dic kvs =>
   cases e;obtain⟨_,ey⟩:=rob;obtain⟨_,_,vs,_,p⟩:=(I.hok a _ ey);obtain⟨o,es,ep,h1,h2,_⟩:=p;exact⟨by simp,(fun z=>nomatch z),_,PySem.W.kitx_dict,⟨o,h1,h2.1⟩⟩
  | exc x=>cases e
def me_isi(g:Good X N W G k){a:Expr}{m:Mx PV}{T:String}{c:Str}{i j:Nat}{p q pos:Pos}(hi:G[i]?=some "isinstance")(hm:X.mg "isinstance"=none)(hj:G[j]?=some c)(hc:X.mg c=none)(hv:bootBuiltins c=some (.type T))(hT:okT T)(ha:ME X a m)
  (he:starEach [a,.Name c q] X.env=(false,eval a X.env)::starEach [.Name c q] X.env:=by rfl) (he2:starEach [.Name c q] X.env=[(false,eval (.Name c q) X.env)]:=by rfl) (hpl:(backTo pos (starEach [.Name c q] X.env)).any (·.1)=false:=by rfl) :
  ME X (.Call (.Name "isinstance" p) [a,.Name c q] [] pos) (mUn (qe [T]) m):=by
 have d1:=g.dbg _ (qam _ (aZ hi));have d:=g.dbg c (qam _ (aZ hj));have hcall:cF X (.builtin "isinstance") (fun xs H Q=>∃x',xs=[x',.ty T]/\uJ X (qe [T]) x' H Q):=by
  intro Iv s σ H xs us Q I r ⟨x',e,ρ,h,x,rh,rx,q⟩;subst e
  cases r with
  | cons r1 t1=>cases t1 with
   | cons r2 t2 =>
    cases t2;obtain rfl:=(r2);unfold qe at q
    cases et:tyP h x with
    | none=>rw[et] at q;exact q.elim
    | some t =>
     rw[et] at q;obtain⟨ht,hne,Hq,Z,hz⟩:=kitx_of I rh rx r1 et
     exact PySem.W.kia_one Z I.kIn hz (hT X.K t ht) hne fun tk=>⟨.bl _,H,I.tok _,rfl,by
      have q':=q ρ H _ (Le.refl _ _) rh (.bl _)
      simpa using q'⟩
 refine PE.imp (jp hcall (g.gl _ (aZ hi)) hm PyProof.Rows.Boot.«isinstance» (iG ha (iG (pe_bltn (v:=.ty T) (g.gl c (aZ hj)) hc hv rfl d.2.2 d.1) mD he2) he) d1.2.2 d1.1 he hpl) fun σ H Q ⟨ρ,σp,h,rs,rh,q⟩=>?_;exact⟨ρ,σp,h,rs,rh,Ful.bind q fun ρ1 H1 x x' h1 _ l1 rh1 rx q1=>⟨x',rfl,ρ1,h1,x,rh1,rx,q1.zero⟩⟩
def spM(K:qaa)(mg:MGl)(F:List PV->MH->Out PV):Sp:=fun vs H Q E=>∃ρ ps h,RPs K ρ H ps vs/\RH K mg ρ H h/\match F ps h with
 | .ok v h'=>∀ρ' H' v',Le ρ H ρ' H'->RH K mg ρ' H' h'->RP K ρ' H' v v'->Q v' H'
 | .exc x h'=>∀C ρ' H',x.fs=[]->mg x.cls=some (.ref C)->Le ρ H ρ' H'->RH K mg ρ' H' h'->E (.ref C) none H'
 | .bad=>False
def CXm(P:Program)(w:World):CXT:=fun outer H s E e s'=>∃ea C H',e=.ref ea/\s'.os=s.os/\AllBare s'.gens/\Un (frs outer) [] H H' s.heap s'.heap/\HOk P w H' s'.heap/\Fly outer H' s.heap C ea s'.heap/\E (.ref C) none H'
structure Cal (X:Cx) (x:Str) (ps:List Str) (F:List PV->MH->Out PV) (k:Nat):Prop where
 ex:∃f fd,X.mg x=some (.ref f)/\PySem.W.keepIn X.K (.ref f)=true/\mK X.K fd ps []/\FnOk X.prog X.w X.K X.mg X.base (CXm X.prog X.w) k f fd ps (spM X.K X.mg F)
def b8(F:List PV->MH->Out PV)(m:Mx (List PV)):Mx PV:=fun σ h=>(m σ h).bind F
def nN(g:Good X N W G k){x:Str}{j:Nat}(hj:G[j]?=some x){ps:List Str}{F:List PV->MH->Out PV}(C:Cal X x ps F k){e:Expr}{es:List Expr}{m:Mx (List PV)}{p pos:Pos}(ha:MA X (e::es) m)
  (he:starEach (e::es) X.env=(false,eval e X.env)::starEach es X.env:=by rfl) (hpl:(backTo pos (starEach es X.env)).any (·.1)=false:=by rfl):ME X (.Call (.Name x p) (e::es) [] pos) (b8 F m):=by
 obtain⟨f,fd,hm,hk,hb,F'⟩:=C.ex;have d:=g.dbg x (qam _ (aZ hj));intro Iv s σ H Q I ⟨ρ,σp,h,rs,rh,q⟩;refine wpAny_Call_Name_kw (ld_glob I (g.gl x (aZ hj)) hm ?_ d.1)
 refine PySem.W.callWith_K I.ok.mod.kin hk (thn (ha pos Iv s σ H (fun vs H1=>∃ρ1 xs h1,Le ρ H ρ1 H1/\RH X.K X.mg ρ1 H1 h1/\RPs X.K ρ1 H1 xs vs/\Ful X (RV' X) σp ρ1 H1 (F xs h1) Q) I
  ⟨ρ,σp,h,rs,rh,Ful.bind q fun ρ1 H1 xs vs h1 _ l1 rh1 rx q1=>⟨ρ1,xs,h1,l1,rh1,rx,q1⟩⟩) fun us s1 ⟨vs,H1,I1,r,ρ1,xs,h1,l1,rh1,rx,q1⟩=>⟨I1.kIn,?_⟩) he hpl
 have run:∀E:XK,spM X.K X.mg F vs H1 Q E->(∀ea C H' s',s'.os=s1.os->AllBare s'.gens->Un (frs X.stack) [] H1 H' s1.heap s'.heap->HOk X.prog X.w H' s'.heap->Fly X.stack H' s1.heap C ea s'.heap->E (.ref C) none H'->X.xe (.ref ea) s') ->
   wpAny (model X.prog X.w) X.A (call (.ref f) us) (EP X Iv σ Q) X.xe s1:=fun E hsp hE=>by
  have hl:(us++[]).length=ps.length:=by rw[qcc,<-r.length];exact F'.len _ _ _ _ hsp
  have hb1:=hb s1 us I1.kIn hl;rw[qcc] at hb1;refine wpAny_call (codeAny_mono (F'.run X.A X.stack s1 H1 ⟨us,[]⟩ us vs Q E g.room I1.env0 hb1 r hsp) fun r s' hq=>?_)
  cases r with
  | error e =>
   obtain⟨ea,C,H',rfl,a1,a2,a3,a4,a5,a6⟩:=hq;exact hE ea C H' s' a1 a2 a3 a4 a5 a6
  | ok fl =>
   cases fl with
   | ret u=>exact I1.after hq
   | next=>exact False.elim hq
   | brk=>exact False.elim hq
   | cont=>exact False.elim hq
 cases eF:F xs h1 with
 | bad=>rw[eF] at q1;exact q1.elim
 | ok v h' =>
  rw[eF] at q1;exact run (fun _ _ _=>False) ⟨ρ1,xs,h1,rx,rh1,by rw[eF];exact q1⟩ fun _ _ _ _ _ _ _ _ _ z=>z.elim
 | exc x' h' =>
  rw[eF] at q1;refine run (fun c _ H'=>∃C ρ',c=.ref C/\x'.fs=[]/\X.mg x'.cls=some (.ref C)/\Le ρ1 H1 ρ' H'/\RH X.K X.mg ρ' H' h') ⟨ρ1,xs,h1,rx,rh1,by rw[eF];exact fun C ρ' H' a b c d=>⟨C,ρ',rfl,a,b,c,d⟩⟩ fun ea C H' s' a1 a2 a3 a4 a5 a6=>?_;obtain⟨C',ρ',eC,b1,b2,b3,b4⟩:=a6;cases eC;have IX:=I1.call' (s':=s') a1 a3 a4 a2 (fun b z=>absurd z (by simp));have IX0:=Inv.unpinned (Iv:=[]) IX;exact q1 ea C ρ' H' σ s' s1.heap b1 b2 b3 b4 (rs.le (l1.trans b3)) IX0 (Inv.bears I1) a5
def bX(n:Nat)(ps:List PV):PSt:=ps.map some++List.replicate (n - ps.length) none
def eD(n np:Nat)(m:Mst):List PV->MH->Out PV:=fun ps h=>if ps.length=np then (match m (bX n ps) h with
 | .nx _ h'=>.ok .non h'
 | .rt v h'=>.ok v h'
 | .exc x _ h'=>.exc x h'
 | .rse x _ h'=>.exc x h'
 | _=>.bad) else .bad
def xJ{K:qaa}{ρ:List Addr}{H:Hp}{N:List Str}{ps:List PV}{vs:List V}(r:RPs K ρ H ps vs):RS K ρ H (bX N.length ps) (L2.start N vs):=by
 have hl:=r.length;refine⟨by simp[bX,L2.start,hl],fun i v e=>?_⟩;unfold bX at e;by_cases hi:i<ps.length
 ·rw[qan (by simpa using hi),qat] at e
  cases q:ps[i]? with
  | none=>rw[q] at e;cases e
  | some x =>
   rw[q] at e;cases e;obtain⟨v',e',rv⟩:=r.get q;refine⟨v',?_,rv⟩;unfold L2.start;rw[qan (by simp;lia),qat,e'];rfl
 ·rw[qaD (by simpa using hi),qaV] at e
  split at e <;> cases e
def yt{B h:Heap}(k:B.StaysIn h){b:Addr}{o ob:Obj}(e1:B.get? b=some ob)(e2:h.get? b=some o):ob=o:=by
 have:=k b ob e1
 rw[e2] at this;exact (Option.some.inj this).symm
def tJ{X:Cx}{σ':L2.St}{H':Hp}{s':Shared}{h' B:Heap}(I:Inv X [] σ' H' s')(hex:X.ex=[])(hB:B.StaysIn s'.heap)(hB':B.StaysIn h')(sm:s'.heap.UpToSlots h')
  (cov:∀b o,X.s₀.heap.get? b=some o->b∉X.fs->∃ob,B.get? b=some ob) (cvH:∀b o,H' b=some o->∃ob,B.get? b=some ob):Un X.fs [] X.H₀ H' X.s₀.heap h'/\HOk X.prog X.w H' h':=by
 have nex:∀b:Addr,b∉X.ex:=fun b=>by rw[hex];simp
 have kp:∀b o ob,B.get? b=some ob->s'.heap.get? b=some o->h'.get? b=some o:=fun b o ob e1 e2=>by
  have:=yt hB e1 e2
  subst this;exact hB' b ob e1
 refine⟨⟨fun b o e n hf _=>?_,fun b o e n hf _=>?_,fun b o e n _=>I.base.free b o e n (nex b),fun b o e _=>?_,I.base.tups,I.base.frzs,I.base.tbls⟩,fun a o e=>?_⟩
 ·obtain⟨ob,eb⟩:=cov b o e hf;exact kp b o ob eb (I.base.keep b o e n hf (nex b))
 ·obtain⟨sl,e1⟩:=I.base.slot b o e n hf (nex b);obtain⟨_,oF,eF,dF⟩:=I.ok.funs.mem hf;rw[e] at eF;cases eF;obtain⟨sl',e2⟩:=sm b _ e1 (fun vs z=>dF vs z);exact⟨sl',e2⟩
 ·by_cases hf:b∈X.fs
  ·obtain⟨_,oF,eF,dF⟩:=I.ok.funs.mem hf;rw[e] at eF;cases eF;obtain⟨sl,e1⟩:=I.base.slot b o e (I.ok.frf b hf) hf (nex b);obtain⟨sl',e2⟩:=sm b _ e1 (fun vs z=>dF vs z);exact⟨_,e2⟩
  ·obtain⟨ob,eb⟩:=cov b o e hf;exact⟨ob,hB' b ob eb⟩
 ·refine (I.hok a o e).stay (fun b u hb z=>?_) (fun _ z=>z) fun _ _ z=>z;rcases hb with rfl|hb
  ·obtain⟨ob,eb⟩:=cvH _ _ e;exact kp _ u ob eb z
  ·obtain⟨ob,eb⟩:=cvH _ _ hb;exact kp _ u ob eb z
def _root_.L2.ObjOk.has(x:ObjOk P w H h a o):∃u,h.get? a=some u:=by
 cases o with
 | lst xs=>obtain⟨_,_,_,_,e⟩:=x;exact⟨_,e⟩
 | tup xs=>obtain⟨_,_,_,o,e,_⟩:=x;exact⟨o,e⟩
 | dK kvs=>obtain⟨_,_,_,_,o,_,_,e,_⟩:=x;exact⟨o,e⟩
 | dT kvs=>obtain⟨_,_,_,_,o,_,_,e,_⟩:=x;exact⟨o,e⟩
 | set S n=>obtain⟨o,_,_,_,e,_⟩:=x;exact⟨o,e⟩
 | ins C dx fs=>obtain⟨_,_,_,e,_⟩:=x;exact⟨_,e⟩
 | own y=>obtain⟨o,e⟩:=x;exact⟨o,e⟩
 | xd fs=>obtain⟨_,⟨o,_,_,e,_⟩,_⟩:=x;exact⟨o,e⟩
 | rng lo hi=>obtain⟨_,_,_,e⟩:=x;exact⟨_,e⟩
 | frz ob u=>obtain⟨e,_⟩:=x;exact⟨_,e⟩
 | tbl ps=>exact⟨_,(x)⟩
 | met f y=>exact⟨_,(x)⟩
 | ext φ=>obtain⟨_,⟨o,e⟩,_⟩:=x;exact⟨o,e⟩
structure DefCx (X:Cx):Prop where
 stk:X.stack=X.env::X.outer
 fr:X.env.frame=some X.env.locals
 ex:X.ex=[]
def fn_M{P:Program}{w:World}{K:qaa}{mg:Str->Option Value}{base:Heap}{x qual:Str}{st:Stmt}{f:Addr}{fd:FuncData}{ps:List Str}{m:Mst}(Fu:Fun K x qual st f fd)(S:FnScope N ps (am st))
  (hl:∀y∈N,Loc (am st) y) (hgl:∀y∈G,(am st).names.lookup y=some .globalImplicit)
  (dbg:∀x∈N++G,(x == ("__debug__":Str))=false/\(x == ("__classdict__":Str))=false/\x≠"__name__")
  (hb:∀X:Cx,X.prog=P->X.w=w->X.K=K->X.mg=mg->X.base=base->X.env.scope=am st->Good X N N G k->DefCx X->MSs X (aI st) m) :
  FnOk P w K mg base (CXm P w) (k+1) f fd ps (spM K mg (eD N.length ps.length m)):=by
 have len:∀vs H Q E,spM K mg (eD N.length ps.length m) vs H Q E->vs.length=ps.length:=by
  rintro vs H Q E ⟨ρ,zs,h,r,rh,q⟩;rw[<-r.length];unfold eD at q;by_cases hp:zs.length=ps.length
  ·exact hp
  ·rw[qao hp] at q;exact q.elim
 obtain⟨oc,od,kV,doc,pm,an,cdv,ct,osl,rfl,lk,hcd⟩:=Fu.ex;refine fn_of lk hcd S len fun A outer s H vs Q E hr hsp=>?_;obtain⟨ρ,zs,h,r,rh,q⟩:=hsp;refine⟨_,hb _ rfl rfl rfl rfl rfl rfl ⟨rfl,S.nd,hl,fun _ _=>.inl rfl,hgl,dbg,rfl,hr,PassesOwn.leaving⟩ ⟨rfl,rfl,rfl⟩,ρ,bX N.length zs,h,xJ r,rh,?_⟩;unfold eD at q;by_cases hp:zs.length=ps.length
 ·rw[qag hp] at q
  cases e:m (bX N.length zs) h with
  | nx σ' h'=>rw[e] at q;exact fun ρ' H' σ' l r' s'=>q ρ' H' .non l r' .non
  | rt v h'=>rw[e] at q;exact q
  | bk σ h'=>rw[e] at q;exact q.elim
  | ct σ h'=>rw[e] at q;exact q.elim
  | bad=>rw[e] at q;exact q.elim
  | exc x σ h' =>
   rw[e] at q;intro ea C ρ' H' σ' s' lim hfs hmg l rh' rs' I' brs fly;obtain⟨B,t,hfl,hBH,hcov,hea⟩:=fly;refine wpAny_leaves_onW (base:=B) (env:=envOfC qual (am st) s.heap.objs.size f cdv) (outer:=outer) I'.ok.frames rfl hfl fun h'' hfl' sm=>?_;have hb1:∀b o,s.heap.get? b=some o->b∉frs outer->∃ob,B.get? b=some ob:=fun b o eb hf=>by
    obtain⟨o',e'⟩:=brs.old b o eb (by show b∉([]:List Addr);simp);refine hcov b o' e' fun hm=>?_;rcases qaj.mp (I'.stkSub b hm) with z|z
    ·exact absurd (qas eb) (by rw[z];exact qaU _)
    ·exact hf z
   obtain⟨un,hk'⟩:=tJ (B:=B) I' rfl hfl.1 hfl'.1 sm hb1 hBH;exact⟨ea,C,H',rfl,I'.os,I'.bare,un,hk',⟨B,t,hfl',hBH,hb1,hea⟩,q C ρ' H' hfs hmg l rh'⟩
  | rse x σ h' =>
   rw[e] at q;intro ea C ρ' H' σ' s' h0 args hfs hmg l rh' rs' I' made;have hst:=I'.stack;have hin:∀env∈(envOfC qual (am st) s.heap.objs.size f cdv::outer),∀b,env.frame=some b->b∈frs (envOfC qual (am st) s.heap.objs.size f cdv::outer):=fun env he b hb=>qcb.mpr ⟨env,he,hb⟩;refine wpAny_leaves_madeW (base:=PySem.W.hideAll h0 (frs (envOfC qual (am st) s.heap.objs.size f cdv::outer))) (h:=h0) (env:=envOfC qual (am st) s.heap.objs.size f cdv) (outer:=outer) I'.ok.frames rfl (fun b o z=>PySem.W.of_hideAll _ z)
    (PySem.W.funFrames_hide (base:=base) hst hin) made fun h'' t hfl' _ _ sm=>?_
   have sub:∀b,b∈frs (envOfC qual (am st) s.heap.objs.size f cdv::outer)->b=s.heap.objs.size\/b∈frs outer:=fun b hm=>qaj.mp (I'.stkSub b hm);have hb1:∀b o,s.heap.get? b=some o->b∉frs outer->∃ob,(PySem.W.hideAll h0 (frs (envOfC qual (am st) s.heap.objs.size f cdv::outer))).get? b=some ob:=fun b o eb hf=>by
    obtain⟨o',e'⟩:=I'.base.there b o eb (by show b∉([]:List Addr);simp);refine⟨o',PySem.W.hideAll_get _ e' fun hm=>?_⟩;rcases sub b hm with z|z
    ·exact absurd (qas eb) (by rw[z];exact qaU _)
    ·exact hf z
   have hBH:∀b o,H' b=some o->∃ob,(PySem.W.hideAll h0 (frs (envOfC qual (am st) s.heap.objs.size f cdv::outer))).get? b=some ob:=fun b o eb=>by
    obtain⟨u,eu⟩:∃u,h0.get? b=some u:=(I'.hok b o eb).has;refine⟨u,PySem.W.hideAll_get _ eu fun hm=>?_⟩
    have:=I'.stkFree b hm
    rw[eb] at this;cases this
   have sm0:h0.UpToSlots h'':=(Heap.UpToSlots.of_keeps made.keeps).trans sm;obtain⟨un,hk'⟩:=tJ (B:=PySem.W.hideAll h0 (frs (envOfC qual (am st) s.heap.objs.size f cdv::outer))) I' rfl (fun b o z=>PySem.W.of_hideAll _ z) hfl'.1 sm0 hb1 hBH;have hea:H' ea=none:=by
    cases z:H' ea with
    | none=>rfl
    | some o =>
     obtain⟨u,eu⟩:=(I'.hok ea o z).has;rw[made.new] at eu;cases eu
   exact⟨ea,C,H',rfl,I'.os,I'.bare,un,hk',⟨_,t,hfl',hBH,hb1,hea⟩,q C ρ' H' hfs hmg l rh'⟩
 ·rw[qao hp] at q;exact q.elim
def itAny(v:PV)(h:MH):Out MIt:=match v with
 | .loc n=>(match h[n]? with
  | some (.lst xs)=>.ok ⟨xs,[(n,xs)]⟩ h
  | _=>.bad)
 | .frl xs=>.ok ⟨xs,[]⟩ h
 | .tup xs=>.ok ⟨xs,[]⟩ h
 | _=>.bad
def lC(m:Mx PV):Mx MIt:=fun σ h=>(m σ h).bind itAny
def rL(hl:ME X l m):MI X tg l (lC m):=by
 intro Iv s σ H R I ⟨ρ,σp,h,rs,rh,q⟩;by_cases z:∃xs h1,m σp h=.ok (.tup xs) h1
 ·obtain⟨xs,h1,e⟩:=z;refine mi_tup hl Iv s σ H R I ⟨ρ,σp,h,rs,rh,?_⟩;unfold lC at q;unfold mItT;rw[e] at q ⊢;exact q
 ·refine mi_list hl Iv s σ H R I ⟨ρ,σp,h,rs,rh,?_⟩;unfold lC at q;unfold mItL
  cases e:m σp h with
  | ok v h1 =>
   rw[e] at q
   cases v with
   | tup xs=>exact absurd ⟨xs,h1,e⟩ z
   | _=>exact q
  | exc x h1=>rw[e] at q;exact q
  | bad=>rw[e] at q;exact q
def Inv.bigM{Iv:List (Addr × Obj)}{σ:L2.St}{H:Hp}{s:Shared}(I:Inv X Iv σ H s):sysModules<s.heap.objs.size:=by
 have h:=(I.mod.glob.keeps I.bk).lt;exact qcF (by decide) h
def mDic:Mx PV:=fun _ h=>.ok (.loc h.length) (h++[.dic []])
def me_dic0:ME X (.Dict [] [] pos) mDic:=fun Iv s σ H Q I ⟨ρ,σp,h,rs,rh,q⟩=>by
 have hf:=I.hok.fresh (qah _);obtain⟨r1,l1⟩:=rh.new hf (o:=.dic []) ⟨rfl,rfl⟩;refine wpAny_Dict_empty ⟨.ref s.heap.objs.size,_,I.laid (t':=s.toks) (fun _ _ q=>qae _ q) (qah _) ?_,rfl,q _ _ _ l1 r1 (.loc (by rw[<-rh.len];simp))⟩;exact⟨qaR _,beq_eq_false_iff_ne.mpr (Ne.symm (qaJ (Inv.bigM I))),[],.nil,Heap.DictOf.new s.heap⟩
structure FnAt (P:Program) (w:World) (K:qaa) (mg:Str->Option Value) (base:Heap) (x:Str) (ps:List Str) (F:List PV->MH->Out PV) (k:Nat):Prop where
 ex:∃f fd,mg x=some (.ref f)/\PySem.W.keepIn K (.ref f)=true/\mK K fd ps []/\FnOk P w K mg base (CXm P w) k f fd ps (spM K mg F)/\∃oc od osl,K.lookup f=some ⟨oc,od,.func fd,osl⟩
def FnAt.mono{P:Program}{w:World}{K:qaa}{mg:Str->Option Value}{base:Heap}{x:Str}{ps:List Str}{F:List PV->MH->Out PV}{i j:Nat}(c:FnAt P w K mg base x ps F i)(h:i<=j):FnAt P w K mg base x ps F j :=
 let ⟨f,fd,a,b,d,e,z⟩:=c.ex;⟨f,fd,a,b,d,e.mono h,z⟩
def FnAt.cal{P:Program}{w:World}{K:qaa}{mg:Str->Option Value}{base:Heap}{x:Str}{ps:List Str}{F:List PV->MH->Out PV}{i:Nat}(c:FnAt P w K mg base x ps F i){X:Cx}(e1:X.prog=P)(e2:X.w=w)(e3:X.K=K)(e4:X.mg=mg)(e5:X.base=base):Cal X x ps F i:=by
 subst e1;subst e2;subst e3;subst e4;subst e5;obtain⟨f,fd,a,b,d,e,_⟩:=c.ex;exact⟨f,fd,a,b,d,e⟩
structure DefAt (K:qaa) (x:Str) (st:Stmt):Prop where
 ex:∃f fd,PySem.W.nsIn K mainGlobals x=some (some (.ref f))/\Fun K x x st f fd
def defAt_mk{K:qaa}{x:Str}{st:Stmt}{f:Addr}{oc:Value}{od an:Option Addr}{sl:Array (Option Value)}{kV dc pm cd ct:Value}
  (a:PySem.W.nsIn K mainGlobals x=some (some (.ref f))) (l:K.lookup f=some ⟨oc,od,.func (PySem.W.fnOf x x (gz st) (aI st) (am st) .none kV dc pm an cd ct),sl⟩) (c:PySem.W.codeIn K cd x=true) (kp:PySem.W.keepIn K (.ref f)=true):DefAt K x st :=
 ⟨f,_,a,fun_mk l c kp⟩
def iH(x:Str)(st:Stmt)(ps:List Str):Prop:=∀(kV doc pm:Value) (an:Option Addr) (cdv ct:Value) (us:List Value),us.length=ps.length->bindArgs (PySem.W.fnOf x x (gz st) (aI st) (am st) .none kV doc pm an cdv ct) ⟨us,[]⟩=pure (ps.zip us)
def v8{P:Program}{w:World}{K:qaa}{mg:Str->Option Value}{base:Heap}{x:Str}{st:Stmt}{ps:List Str}{m:Mst}(kin:K.In base)(ns:base.Ns mainGlobals mg)(D:DefAt K x st)(S:FnScope N ps (am st))(B:iH x st ps)
  (hl:∀y∈N,(am st).names.lookup y=some .local\/(am st).names.lookup y=some .cell) (hgl:∀y∈G,(am st).names.lookup y=some .globalImplicit)
  (dbg:∀x∈N++G,(x == ("__debug__":Str))=false/\(x == ("__classdict__":Str))=false/\x≠"__name__")
  (hb:∀X:Cx,X.prog=P->X.w=w->X.K=K->X.mg=mg->X.base=base->X.env.scope=am st->Good X N N G k->DefCx X->MSs X (aI st) m) :
  FnAt P w K mg base x ps (eD N.length ps.length m) (k+1):=by
 obtain⟨f,fd,a,Fu⟩:=D.ex;have Fx:=Fu.ex;obtain⟨oc,od,kV,doc,pm,an,cdv,ct,osl,e1,e2,_⟩:=Fx;exact⟨f,fd,PySem.W.mg_of kin ns a,Fu.kp,Fu.binds B,fn_M Fu S hl hgl dbg hb,oc,od,osl,e2⟩
def head_M{P:Program}{w:World}{K:qaa}{mg:Str->Option Value}{h:Heap}{x y:Str}{st:Stmt}{F:List PV->MH->Out PV}{fa:Addr}(D:DefAt K x st)(B:iH x st [y])(hmg:mg x=some (.ref fa))(kin:K.In h)(ns:h.Ns mainGlobals mg)
  (H:∀base:Heap,K.In base->base.Ns mainGlobals mg->FnAt P w K mg base x [y] F k) :
  ∃fd:FuncData,(∀(s:Shared) (u:Value),BindsTo s fd ⟨[u],[]⟩ [(y,u)])/\∀base:Heap,K.In base->base.Ns mainGlobals mg->FnOk P w K mg base (CXm P w) k fa fd [y] (spM K mg F):=by
 obtain⟨f,fd,a,Fu⟩:=D.ex;have e:=hmg.symm.trans (PySem.W.mg_of kin ns a);obtain⟨oc,od,kV,doc,pm,an,cdv,ct,osl,e1,e2,e3⟩:=Fu.ex;refine⟨fd,fun s u=>.of_eq ?_,fun base kb nb=>?_⟩
 ·rw[e1];exact B kV doc pm an cdv ct [u] rfl
 ·obtain⟨f',fd',g1,g2,g3,g4,oc',od',osl',g5⟩:=(H base kb nb).ex
  grind
def spLaw(K:qaa):Sp:=fun vs H Q _=>∃(a:Addr) (ns:List Int),vs=[.ref a]/\SqF K H a (ns.map V.int)/\ns.length<=63/\∀H',Q (.bl true) H'
def walk_M{l:PySem.W.OpenLaw}{q:Program}{loose:List Str}{XP:(Str->Option Value)->Heap->Prop}{YP:World->Heap->Prop}{d:DefRec}{K:Params->qaa}{x:Str}{F:List PV->MH->Out PV}(hn:l.most=some 63)(hdf:d.params.defaults=[])(hr:Room k callerA)
  (hY:∀(w:World) (h:Heap),YP w h->(K w.params).In h)
  (HF:∀(w:World) (mg:Str->Option Value) (fa:Addr) (h:Heap),(K w.params).In h->h.Ns mainGlobals mg->mg d.name=some (.ref fa) ->
   ∃fd:FuncData,(∀(s:Shared) (u:Value),BindsTo s fd ⟨[u],[]⟩ [(x,u)])/\∀base:Heap,(K w.params).In base->base.Ns mainGlobals mg->FnOk l.prog w (K w.params) mg base (CXm l.prog w) k fa fd [x] (spM (K w.params) mg F))
  (ht:∀ns:List Int,ns.length<=63->∃h',F [.frl (ns.map .int)] []=.ok (.bl true) h') :
  PySem.W.WalkO q loose XP YP l.row.toRowW d [] (fun f vs=>PySem.call f vs):=by
 refine L2.walk_of (x:=x) (CX:=fun w=>CXm l.prog w) (sp:=fun w=>spLaw (K w.params)) hn (by decide) hdf hr hY (fun w mg fa h hK hns hmg=>?_) (fun w H a ns hl hO hS=>?_) fun w H s e s' z=>?_
 ·obtain⟨fd,hb,hF⟩:=HF w mg fa h hK hns hmg;refine⟨fd,hb,fun base kb nb=>(hF base kb nb).imp fun vs H Q E z=>?_⟩;obtain⟨a,ns,rfl,sf,hl,hq⟩:=z;obtain⟨h',e⟩:=ht ns hl;refine⟨[],[.frl (ns.map .int)],[],.cons (.frl sf (RPs.ints ns)) .nil,⟨rfl,qcL,fun n a o z _=>by simp at z⟩,?_⟩;rw[e];intro ρ' H' v' _ _ r;cases r;exact hq H'
 ·have sf:SqF (K w.params) H a (ns.map V.int):=by
   rcases hS with (z|z)|z
   ·rcases hO a with y|⟨o,xs,y⟩
    ·rw[y] at z;cases z
    ·rw[y] at z;cases z
   ·exact .inl z
   ·exact .inr z
  exact⟨a,ns,rfl,sf,hl,fun _=>rfl⟩
 ·obtain⟨_,_,_,_,_,_,_,_,_,z⟩:=z;exact z
end
section
variable {α:Type} {σ:PSt} {h:MH}
@[simp] theorem mC_ap:mC v σ h=.ok v h:=rfl
@[simp] theorem mVar_0{v:PV}{r:PSt}:aq 0 (some v::r) h=.ok v h:=rfl
@[simp] theorem mVar_s{i:Nat}{o:Option PV}{r:PSt}:aq (i+1) (o::r) h=aq i r h:=by simp[aq]
@[simp] theorem mBin_ap:az f a b σ h=(a σ h).bind fun x h1=>(b σ h1).bind fun y h2=>(f x y h2).ne:=rfl
@[simp] theorem mUn_ap:mUn f a σ h=(a σ h).bind fun x h1=>(f x h1).ne:=rfl
@[simp] theorem mCB_ap:mCB f a σ h=(a σ h).bind fun x h1=>(f x h1).ne:=rfl
@[simp] theorem mCall_ap:b8 f a σ h=(a σ h).bind f:=rfl
@[simp] theorem mNil_ap:mNil σ h=.ok [] h:=rfl
@[simp] theorem mCons_ap:aj a r σ h=(a σ h).bind fun x h1=>(r σ h1).bind fun xs h2=>.ok (x::xs) h2:=rfl
@[simp] theorem mLst_ap:fo a σ h=(a σ h).bind newL:=rfl
@[simp] theorem mTup_ap:ir a σ h=(a σ h).bind newT:=rfl
@[simp] theorem mDic_ap:mDic σ h=.ok (.loc h.length) (h++[.dic []]):=rfl
@[simp] theorem mB_ap:mB a σ h=(a σ h).bind fun v h1=>match v with | .bl b=>.ok b h1 | _=>.bad:=rfl
@[simp] theorem mNot_ap:rq a σ h=(a σ h).bind fun b h1=>.ok (!b) h1:=rfl
@[simp] theorem mAnd_ap:mAnd a b σ h=(a σ h).bind fun x h1=>if x=true then b σ h1 else .ok false h1:=rfl
@[simp] theorem mOr_ap:mOr a b σ h=(a σ h).bind fun x h1=>if x=true then .ok true h1 else b σ h1:=rfl
@[simp] theorem mAndV_ap:mN a b σ h=(a σ h).bind fun x h1=>match x with | .bl c=>if c=true then b σ h1 else .ok (.bl false) h1 | _=>.bad:=rfl
@[simp] theorem mNotV_ap:um a σ h=(a σ h).bind fun x h1=>match x with | .bl c=>.ok (.bl (!c)) h1 | _=>.bad:=rfl
@[simp] theorem mSkip_ap:mSkip σ h=.nx σ h:=rfl
@[simp] theorem kq:bq a b σ h=(a σ h).then b:=rfl
@[simp] theorem au:(SOut.nx σ h).then k=k σ h:=rfl
@[simp] theorem cf:(SOut.rt v h).then k=.rt v h:=rfl
@[simp] theorem then_bk:(SOut.bk σ h).then k=.bk σ h:=rfl
@[simp] theorem then_ct:(SOut.ct σ h).then k=.ct σ h:=rfl
@[simp] theorem xO:(SOut.rse x σ h).then k=.rse x σ h:=rfl
@[simp] theorem yI:(SOut.exc x σ h).then k=.exc x σ h:=rfl
@[simp] theorem yP:SOut.bad.then k=.bad:=rfl
def Out.rt(o:Out PV)(σ:PSt):SOut:=match o with
 | .ok v h'=>.rt v h'
 | .exc x h'=>.exc x σ h'
 | .bad=>.bad
@[simp] theorem rt_ok:(Out.ok v h).rt σ=.rt v h:=rfl
@[simp] theorem rt_exc:(Out.exc x h:Out PV).rt σ=.exc x σ h:=rfl
@[simp] theorem rt_bad:(Out.bad:Out PV).rt σ=.bad:=rfl
@[simp] theorem mRet_ap:b7 m σ h=(m σ h).rt σ:=rfl
def Out.go{α:Type}(o:Out α)(σ:PSt)(k:α->Mst):SOut:=match o with
 | .ok v h'=>k v σ h'
 | .exc x h'=>.exc x σ h'
 | .bad=>.bad
@[simp] theorem ar:(Out.ok v h).go σ k=k v σ h:=rfl
@[simp] theorem go_exc:(Out.exc x h:Out α).go σ k=.exc x σ h:=rfl
@[simp] theorem go_bad:(Out.bad:Out α).go σ k=.bad:=rfl
@[simp] theorem mEx_ap:mEx m k σ h=(m σ h).go σ k:=rfl
@[simp] theorem mDrop_ap:pH m σ h=(m σ h).go σ fun _=>mSkip:=rfl
@[simp] theorem mIf_ap:mIf c a b σ h=(c σ h).go σ fun x=>if x=true then a else b:=rfl
@[simp] theorem mSet_ap:bG i m σ h=(m σ h).go σ fun v σ h=>.nx (σ.set i (some v)) h:=rfl
@[simp] theorem mPar_ap:mPar i j m σ h=(m σ h).go σ fun vs σ h=>match vs with | [v,w]=>.nx ((σ.set i (some v)).set j (some w)) h | _=>.bad:=rfl
@[simp] theorem mAsg_ap:e9 m g σ h=(m σ h).go σ fun v σ h=>match g v σ h with | .nx σ2 h2=>.nx σ2 h2 | .exc x σ2 h2=>.exc x σ2 h2 | _=>.bad:=rfl
@[simp] theorem gNm_ap:gNm i v σ h=.nx (σ.set i (some v)) h:=rfl
@[simp] theorem gNl_ap:gNl [] σ h=.nx σ h:=rfl
@[simp] theorem gCn_ap:gCn a r (v::vs) σ h=(a v σ h).then (r vs):=rfl
@[simp] theorem gTp_ap:gTp r n (.tup xs) σ h=if xs.length=n then r xs σ h else .bad:=rfl
@[simp] theorem mFor_ap:jq mi g b σ h=(mi σ h).go σ fun it=>mGo it g b it.xs:=rfl
@[simp] theorem mItS_ap:lC m σ h=(m σ h).bind itAny:=rfl
@[simp] theorem mItR1_ap:kJ m σ h=(m σ h).bind fun vs h1=>match vs with
 | [.int j]=>if -(2 ^ 62)<=j/\j<2 ^ 62 then .ok ⟨bY 0 j.toNat,[]⟩ h1 else .bad
 | _=>.bad:=rfl
@[simp] theorem mItR2_ap:mItR2 m σ h=(m σ h).bind fun vs h1=>match vs with
 | [.int i,.int j]=>if -(2 ^ 62)<=i/\i<2 ^ 62 /\ -(2 ^ 62)<=j/\j<2 ^ 62 then .ok ⟨bY i (j - i).toNat,[]⟩ h1 else .bad
 | _=>.bad:=rfl
@[simp] theorem gSb_ap:gSb mo mi v σ h=(mo σ h).go σ fun o=>mEx mi fun i σ h=>match lu o i v h with
 | some h2=>.nx σ h2
 | none=>.bad:=rfl
def SOut.fin(o:SOut):Out PV:=match o with
 | .nx _ h'=>.ok .non h'
 | .rt v h'=>.ok v h'
 | .exc x _ h'=>.exc x h'
 | .rse x _ h'=>.exc x h'
 | _=>.bad
@[simp] theorem fin_exc:(SOut.exc x σ h).fin=.exc x h:=rfl
@[simp] theorem fin_rse:(SOut.rse x σ h).fin=.exc x h:=rfl
@[simp] theorem aO:(SOut.rt v h).fin=.ok v h:=rfl
@[simp] theorem fin_nx:(SOut.nx σ h).fin=.ok .non h:=rfl
theorem kK(e:ps.length=np):eD n np m ps h=(m (bX n ps) h).fin:=by unfold eD;rw[qag e];rfl
end
section
variable {h:MH} {i j:Int}
@[simp] theorem opAdd_ii:opAdd (.int i) (.int j) h=.ok (.int (i+j)) h:=rfl
@[simp] theorem opSub_ii:opSub (.int i) (.int j) h=.ok (.int (i - j)) h:=rfl
@[simp] theorem opNeg_i:opNeg (.int i) h=.ok (.int (-i)) h:=rfl
@[simp] theorem opLt_ii:opLt (.int i) (.int j) h=.ok (.bl (decide (i<j))) h:=rfl
@[simp] theorem opLe_ii:opLe (.int i) (.int j) h=.ok (.bl (decide (i<=j))) h:=rfl
@[simp] theorem opGt_ii:opGt (.int i) (.int j) h=.ok (.bl (decide (j<i))) h:=rfl
@[simp] theorem opGe_ii:opGe (.int i) (.int j) h=.ok (.bl (decide (j<=i))) h:=rfl
@[simp] theorem opEq_ii:opEq (.int i) (.int j) h=.ok (.bl (decide (i=j))) h:=rfl
@[simp] theorem opNe_ii:opNe (.int i) (.int j) h=.ok (.bl (!decide (i=j))) h:=rfl
@[simp] theorem opEq_bb:opEq (.bl a) (.bl b) h=.ok (.bl (a == b)) h:=by simp[opEq,rd,SeqAt.shaped,PyData.canLay0,PyData.depth,PyData.eqv]
@[simp] theorem opNe_bb:opNe (.bl a) (.bl b) h=.ok (.bl (!(a == b))) h:=by simp[opNe,rd,SeqAt.shaped,PyData.canLay0,PyData.depth,PyData.eqv]
theorem fy(hj:j≠0):opMod (.int i) (.int j) h=.ok (.int (i.fmod j)) h:=by simp[opMod,hj]
def tL(hj:j≠0)(hl:j.natAbs.log2<9000):opFd (.int i) (.int j) h=.ok (.int (i.fdiv j)) h:=by simp[opFd,hj,PyProof.noPylong_of_log2 hl]
def gw(hl:-(2 ^ 64)<i/\i<2 ^ 64):opMul (.int i) (.int j) h=.ok (.int (i * j)) h:=by simp[opMul,IntMulOk.of_left (intBits_le_64 hl.1 hl.2)]
def opMul_r(hl:-(2 ^ 64)<j/\j<2 ^ 64):opMul (.int i) (.int j) h=.ok (.int (i * j)) h:=by simp[opMul,IntMulOk.of_right (intBits_le_64 hl.1 hl.2)]
def qv(hj:0<=j/\j<=1000000/\i.natAbs<2 ^ 64):opPow (.int i) (.int j) h=.ok (.int (i ^ j.toNat)) h:=by simp[opPow,dr,hj]
@[simp] theorem fAbs_i:fAbs [.int i] h=.ok (.int (if i<0 then -i else i)) h:=rfl
@[simp] theorem fMin_ii:fMin [.int i,.int j] h=.ok (.int (if j<i then j else i)) h:=rfl
@[simp] theorem fMax_ii:fMax [.int i,.int j] h=.ok (.int (if j>i then j else i)) h:=rfl
@[simp] theorem fLen_frl:fLen [.frl xs] h=.ok (.int xs.length) h:=rfl
@[simp] theorem fLen_tup:fLen [.tup xs] h=.ok (.int xs.length) h:=rfl
theorem ux(hl:xs.length<=1000):newL xs h=.ok (.loc h.length) (h++[.lst xs]):=by
 unfold newL;rw[qag (qaE hl (by decide))]
def kY(hl:m<n):ixN n (m:Int)=some m:=by unfold ixN;rw[qag (by lia),qag (by lia)];simp
@[simp] theorem atI_0:atI (a::r) 0=some a:=dj (j:=0) rfl
@[simp] theorem atI_1:atI (a::b::r) 1=some b:=dj (j:=1) rfl
@[simp] theorem atI_2:atI (a::b::c::r) 2=some c:=dj (j:=2) rfl
@[simp] theorem atI_3:atI (a::b::c::d::r) 3=some d:=dj (j:=3) rfl
def Out.ofO(o:Option PV)(h:MH):Out PV:=match o with
 | some v=>.ok v h
 | none=>.bad
@[simp] theorem ofO_some:Out.ofO (some v) h=.ok v h:=rfl
@[simp] theorem opIx_tup:bT (.tup xs) (.int i) h=Out.ofO (atI xs i) h:=rfl
@[simp] theorem opIx_frl:bT (.frl xs) (.int i) h=Out.ofO (atI xs i) h:=rfl
theorem jl(e:h[n]?=some (.lst xs)):bT (.loc n) (.int i) h=Out.ofO (atI xs i) h:=by
 simp only[bT,e];rfl
def lR(e:h[n]?=some (.lst xs)):lu (.loc n) (.int i) v h=(ixN xs.length i).map fun p=>h.set n (.lst (xs.set p v)):=by simp only[lu,e]
@[simp] theorem itAny_tup:itAny (.tup xs) h=.ok ⟨xs,[]⟩ h:=rfl
@[simp] theorem itAny_frl:itAny (.frl xs) h=.ok ⟨xs,[]⟩ h:=rfl
@[simp] theorem ok_none:(⟨xs,[]⟩:MIt).ok h↔True:=⟨fun _=>trivial,fun _ p hp=>nomatch hp⟩
@[simp] theorem ok_some:(⟨xs,[(n,zs)]⟩:MIt).ok h↔h[n]?=some (.lst zs):=by
 constructor
 ·intro q;exact q (n,zs) (by simp)
 ·intro q p hp;have e:=qcd.mp hp;subst e;exact q
end
def SOut.turn(o:SOut)(k:Mst):SOut:=match o with
 | .nx σ2 h2=>k σ2 h2
 | .ct σ2 h2=>k σ2 h2
 | .bk σ2 h2=>.nx σ2 h2
 | .rt v h2=>.rt v h2
 | .exc e σ2 h2=>.exc e σ2 h2
 | .rse e σ2 h2=>.rse e σ2 h2
 | .bad=>.bad
@[simp] theorem yv:(SOut.rse x σ h).turn k=.rse x σ h:=rfl
@[simp] theorem yk:(SOut.exc x σ h).turn k=.exc x σ h:=rfl
@[simp] theorem turn_nx:(SOut.nx σ h).turn k=k σ h:=rfl
@[simp] theorem turn_ct:(SOut.ct σ h).turn k=k σ h:=rfl
@[simp] theorem turn_bk:(SOut.bk σ h).turn k=.nx σ h:=rfl
@[simp] theorem turn_rt:(SOut.rt v h).turn k=.rt v h:=rfl
theorem mGo_nil(e:it.ok h):mGo it g b [] σ h=.nx σ h:=by
 rw[mGo];dsimp only;rw[qag e]
def xQ(e:it.ok h)(eg:g x σ h=.nx σ1 h1):mGo it g b (x::r) σ h=(b σ1 h1).turn (mGo it g b r):=by
 rw[mGo];dsimp only;rw[qag e,eg];rfl
def qX(I:Nat->Shared->Prop)
  (turn:∀n s,I n s->wpAny (model prog w) A (pyNext it) (fun r s₁=>match r with
   | none=>R (.ok .next) s₁
   | some v=>wpAny (model prog w) A (letOwnedTupleGo target it v) (fun _ s₂'=>wpAny (model prog w) A (assign target env v) (fun _ s₂ =>
     wpAny (model prog w) A (forIn ifs true fun c r=>if r=true then do let ok <-isTrue c env (eval c env);pure (ForInStep.yield ok) else pure (ForInStep.yield r)) (fun ok s₃ =>
      if ok=true then wpAny (model prog w) A (eval elt env) (fun x s₄ =>
       wpAny (model prog w) A (call (.builtin "list.append") [acc,x]) (fun _ s₅=>∃m,m<n/\I m s₅) (fun _ _=>False) s₄) (fun _ _=>False) s₃
      else ∃m,m<n/\I m s₃) (fun _ _=>False) s₂) (fun _ _=>False) s₂') (fun _ _=>False) s₁) (fun _ _=>False) s)
  (n:Nat) (h:I n s) :
  codeAny (model prog w) A (.compLoop (.ListComp elt [⟨target,iter,ifs,0⟩] scope pos) 0 it acc env) R s:=by
 refine codeAny_loop rfl I (fun n s hI=>?_) n h;refine wpAny_noted ?_;rw[compTurn_list];refine qab (wpAny_standAt (qab (wpAny_mono (turn n s hI) (fun r s₁ h₁=>?_) fun _ _ h'=>h'.elim)))
 cases r with
 | none=>exact qak h₁
 | some v =>
  refine qab (wpAny_mono h₁ (fun _ s₂' h₂'=>?_) fun _ _ h'=>h'.elim);refine qab (wpAny_mono h₂' (fun _ s₂ h₂=>qab (wpAny_mono h₂ (fun ok s₃ h₃=>?_) fun _ _ h'=>h'.elim)) fun _ _ h'=>h'.elim)
  cases ok with
  | false=>exact qak ⟨rfl,h₃⟩
  | true =>
   exact qab (qab (wpAny_mono h₃ (fun x s₄ h₄=>qab (wpAny_mono h₄ (fun _ s₅ h₅=>qak (qak ⟨rfl,h₅⟩)) fun _ _ h'=>h'.elim)) fun _ _ h'=>h'.elim))
def i4(env:Env):List (Str × NameKind)->List (Str × Addr)->List (Str × Addr)
 | [],cs=>cs
 | (n,k)::r,cs=>i4 env r (if (k == NameKind.free)=true then (n,(env.cells.lookup n).getD 0)::cs else cs)
def pq(h:∀y∈scope.names,y.2=.free->∃c,env.cells.lookup y.1=some c):closureFor scope env=pure (i4 env scope.names []):=by
 have key:∀(l:List (Str × NameKind)) (cs:List (Str × Addr)),(∀y∈l,y.2=.free->∃c,env.cells.lookup y.1=some c) ->
   (forIn l cs fun (x:Str × NameKind) (r:List (Str × Addr))=>if (x.2 == NameKind.free)=true then (do let a <-cellOf env x.1;pure (ForInStep.yield ((x.1,a)::r)):Sem _) else pure (ForInStep.yield r))=(pure (i4 env l cs):Sem _):=by
  intro l
  induction l with
  | nil=>intro cs _;rfl
  | cons y l ih =>
   intro cs hh;obtain⟨n,k⟩:=y;rw[List.forIn_cons];have hl:=fun z hz=>hh z (qaf _ hz);by_cases hk:(k == NameKind.free)=true
   ·obtain⟨c,hc⟩:=hh (n,k) qaM (by simpa using hk);rw[qag hk];have hco:cellOf env n=pure c:=by unfold cellOf;rw[hc]
    rw[hco];refine (ih ((n,c)::cs) hl).trans ?_;simp only[i4,hk,if_true,hc,qbu]
   ·rw[qao hk];refine (ih cs hl).trans ?_;simp[i4,hk]
 exact (congrArg (fun z=>z >>= fun r=>pure r) (key scope.names [] h)).trans rfl
def ll:∀(l:List (Str × NameKind)) (cs:List (Str × Addr)),(∀a,cs.lookup x=some a->a=(env.cells.lookup x).getD 0)->(∀a,(i4 env l cs).lookup x=some a->a=(env.cells.lookup x).getD 0)/\((∃k,(x,k)∈l/\k=.free)\/(∃a,cs.lookup x=some a)->∃a,(i4 env l cs).lookup x=some a):=by
 intro l
 induction l with
 | nil =>
  intro cs h;refine⟨h,fun z=>?_⟩;rcases z with ⟨k,z,_⟩|z
  ·cases z
  ·exact z
 | cons y r ih =>
  intro cs h;obtain⟨n,k⟩:=y;have h':∀a,(if (k == NameKind.free)=true then (n,(env.cells.lookup n).getD 0)::cs else cs).lookup x=some a->a=(env.cells.lookup x).getD 0:=fun a ha=>by
   split at ha
   ·rw[qbd] at ha
    split at ha
    ·rename_i e
     have:x=n:=by simpa using e
     subst this;exact (Option.some.inj ha).symm
    ·exact h a ha
   ·exact h a ha
  obtain⟨i1,i2⟩:=ih _ h';refine⟨i1,fun z=>i2 ?_⟩;rcases z with ⟨k',z,hk⟩|⟨a,z⟩
  ·rcases qaj.mp z with e|e
   ·cases e;right;subst hk;exact⟨(env.cells.lookup x).getD 0,by simp⟩
   ·exact .inl ⟨k',e,hk⟩
  ·right;split
   ·rw[qbd];split
    ·exact⟨_,rfl⟩
    ·exact⟨a,z⟩
   ·exact⟨a,z⟩
def cg{env:Env}(hk:env.scope.kind=.function):∀{names:List (Str × NameKind)} {x:Str} {k:NameKind},names.lookup x=some k ->
  (names.map fun (n,k)=>if (k == NameKind.free && env.scope.kind == .function && env.kindOf n == some .cell) then (n,NameKind.cell) else (n,k)).lookup x=some (if k=.free/\env.kindOf x=some .cell then .cell else k):=by
 intro names
 induction names with
 | nil=>intro x k h;simp at h
 | cons y r ih0 =>
  intro x k h;obtain⟨n,k'⟩:=y;have ih:=@ih0 x k;show List.lookup x ((if (k' == NameKind.free && env.scope.kind == .function && env.kindOf n == some .cell)=true then (n,NameKind.cell) else (n,k'))::_)=_
  cases hx:x == n with
  | true =>
   have e:x=n:=by simpa using hx
   subst e;simp only[qbd,hx] at h;cases h;by_cases z:k=.free/\env.kindOf x=some .cell
   ·rw[qag (by simp[z.1,z.2,hk]),qag z];simp
   ·rw[qao (by simp[hk];intro q1 q2;exact z ⟨q1,q2⟩),qao z];simp
  | false =>
   simp only[qbd,hx] at h;by_cases hc:(k' == NameKind.free && env.scope.kind == .function && env.kindOf n == some .cell)=true
   ·rw[qag hc];simp only[qbd,hx];exact ih h
   ·rw[qao hc];simp only[qbd,hx];exact ih h
def dw(X:Cx)(scope:Scope)(cl:List (Str × Addr))(s₃:Shared)(H₃:Hp)(fp:List Addr)(N':List Str):Cx :=
 { X with N:=N',s₀:=s₃,H₀:=H₃,env:=compEnvC scope cl s₃.heap.objs.size X.env,outer:=X.stack,ex:=fp,fn:=fun x=>decide (scope.names.lookup x=some .cell),pn:=[],xe:=fun _ _=>False}
structure CompOk (X:Cx) (N:List Str) (scope:Scope) (vars frees:List Str) (fm:List Nat):Prop where
 kind:scope.kind=.function
 cell:∀y∈scope.names,y.2=.cell->scope.names.lookup y.1=some .cell
 names:∀y∈scope.names,y.2=.local->scope.names.lookup y.1=some .local
 hv:∀x∈vars,scope.names.lookup x=some .local\/scope.names.lookup x=some .cell
 hf:∀x∈frees,scope.names.lookup x=some .free
 all:∀y∈scope.names,y.2=.free->y.1∈frees
 fm:fm.map (fun i=>N[i]?)=frees.map some
 cl:∀x∈frees,X.env.kindOf x=some .cell
def cSt(nv:Nat)(fm:List Nat)(σ:PSt):PSt:=List.replicate nv none++fm.map fun i=>(σ[i]?).getD none
def cGo(it:MIt)(n:Nat)(gt:Mg)(mt:Mx Bool)(me:Mx PV):List PV->PSt->MH->Out Unit
 | [],_,h=>if it.ok h then .ok () h else .bad
 | x::r,σ,h=>if it.ok h then (match gt x σ h with
  | .nx σ1 h1=>(mt σ1 h1).ne.bind fun b h2=>if b=true then (me σ1 h2).ne.bind fun v h3=>(match h3[n]? with
    | some (.lst ys)=>if ys.length<sizeLine then cGo it n gt mt me r σ1 (h3.set n (.lst (ys++[v]))) else .bad
    | _=>.bad) else cGo it n gt mt me r σ1 h2
  | _=>.bad) else .bad
def pG(nv:Nat)(fm:List Nat)(mi:Mx MIt)(gt:Mg)(mt:Mx Bool)(me:Mx PV):Mx PV:=fun σ h =>
 (mi σ h).bind fun it h1=>(cGo it h1.length gt mt me it.xs (cSt nv fm σ) (h1++[.lst []])).bind fun _ h3=>.ok (.loc h1.length) h3
def MTs(X:Cx)(ifs:List Expr)(m:Mx Bool):Prop :=
 ∀(Iv:List (Addr × Obj)) (s:Shared) (σ:L2.St) (H:Hp) (Q:Bool->Hp->Prop),Inv X Iv σ H s->tM X REq m σ H Q ->
  wpAny (model X.prog X.w) X.A (forIn ifs true fun c r=>if r=true then do let ok <-isTrue c X.env (eval c X.env);pure (ForInStep.yield ok) else pure (ForInStep.yield r)) (TP X Iv σ Q) X.xe s
def mTrue:Mx Bool:=fun _ h=>.ok true h
def mts_nil:MTs X [] mTrue:=fun Iv s σ H Q I ⟨ρ,σp,h,rs,rh,q⟩=>wpAny_tests_nil ⟨H,I,q ρ H true (Le.refl _ _) rh rfl⟩
def mts_one(h:MT X c m):MTs X [c] m:=fun Iv s σ H Q I q=>wpAny_tests_one (h Iv s σ H Q I q)
inductive CS (X:Cx) (ρ:List Addr) (H:Hp) (σp:PSt) (gt:Mg) (mt:Mx Bool) (me:Mx PV) (σ0:PSt) (Q:VK) (J:It) (H1:Hp):Prop
 | mk (ρ1:List Addr) (it:MIt) (h1:MH) (l:Le ρ H ρ1 H1) (rh:RH X.K X.mg ρ1 H1 h1) (j:pT X ρ1 H1 it J) (q:Ful X (RV' X) σp ρ1 H1 ((cGo it h1.length gt mt me it.xs σ0 (h1++[.lst []])).bind fun _ h3=>.ok (.loc h1.length) h3) Q):CS X ρ H σp gt mt me σ0 Q J H1
inductive CI (X Y:Cx) (it:MIt) (tn:Nat->Heap->Prop) (fp ρ0:List Addr) (H0:Hp) (σp:PSt) (n1:Nat) (gt:Mg) (mt:Mx Bool) (me:Mx PV) (Q:VK) (n:Nat) (s6:Shared):Prop
 | mk (i:Nat) (σ6:L2.St) (H6:Hp) (ρ6:List Addr) (σp6:PSt) (h6:MH) (e:n=it.xs.length - i) (l:i<=it.xs.length) (v:Inv Y [] σ6 H6 s6) (t:tn i s6.heap) (f:∀b∈fp,H6 b=none) (le:Le ρ0 H0 ρ6 H6) (rs:RS X.K ρ6 H6 σp6 σ6) (rh:RH X.K X.mg ρ6 H6 h6)
   (q:Ful X (RV' X) σp ρ6 H6 ((cGo it n1 gt mt me (it.xs.drop i) σp6 h6).bind fun _ h3=>.ok (.loc n1) h3) Q):CI X Y it tn fp ρ0 H0 σp n1 gt mt me Q n s6
def pj
  (hQ:Q (newEnv scope s.heap.objs.size globals (cellsFrom (s.heap.objs.size+1) scope.names closure) qual none .none (some env) builtinsNs) { s with heap:=pushCells (s.heap.push { cls:=.type "dict",data:=.dict #[]}) scope.names}) :
  wpAny M A (newFunctionEnv scope globals closure [] qual none .none (some env)) Q E s:=by
 simp only[newFunctionEnv,Option.isSome_some,if_true];refine qab (wpAny_alloc ?_);refine qab (wpAny_layCells _ (fun name kind cells=>by cases hkc:kind == NameKind.cell <;> simp) _ _ _ _ ?_);rw[show ({ s with heap:=s.heap.push { cls:=.type "dict",data:=.dict #[]}}:Shared).heap.objs.size=s.heap.objs.size+1 from qbx ..];exact qab (qak (qak hQ))
def cZ:∀(names:List (Str × NameKind)) (n:Nat) (acc:List (Str × Addr)),cellsFrom n names acc=cellsFrom n names []++acc
 | [],n,acc=>rfl
 | (x,k)::r,n,acc=>by
  unfold cellsFrom;split
  ·rw[cZ r (n+1) ((x,n)::acc),cZ r (n+1) [(x,n)]];simp
  ·exact cZ r n acc
def eS:∀(names:List (Str × NameKind)) (n:Nat) (x:Str),(∃c,(x,c)∈cellsFrom n names [])↔(x,NameKind.cell)∈names
 | [],n,x=>by simp[cellsFrom]
 | (y,k)::r,n,x=>by
  unfold cellsFrom;split
  ·rename_i hk
   have hk':k=NameKind.cell:=by simpa using hk
   subst hk';rw[cZ];constructor
   ·rintro⟨c,hc⟩;rcases qav.mp hc with hc|hc
    ·exact qaf _ ((eS r (n+1) x).mp ⟨c,hc⟩)
    ·have:x=y:=by simp at hc;exact hc.1
     rw[this];exact qaM
   ·intro h;rcases qaj.mp h with e|h
    ·have:x=y:=by simpa using e
     subst this;exact⟨n,qam _ (by simp)⟩
    ·obtain⟨c,hc⟩:=(eS r (n+1) x).mpr h;exact⟨c,qaK _ hc⟩
  ·rw[eS r n x];constructor
   ·exact qaf _
   ·intro h;rcases qaj.mp h with e|h
    ·exfalso
     grind
    ·exact h
def lD{α:Type}:∀(a b:List (Str × α)) (x:Str),(a++b).lookup x=(a.lookup x).or (b.lookup x):= by grind
def xU{α:Type}:∀(a:List (Str × α)) (x:Str),a.lookup x=none->∀c,(x,c)∉a:= by grind
section
variable {X:Cx} {N W G:List Str} {k:Nat}
def wo(g:Good X N W G k){tg iter elt:Expr}{ifs:List Expr}{scope:Scope}{pos:Pos}{vars frees G':List Str}{fm:List Nat}{mi:Mx MIt}{gt:Mg}{mt:Mx Bool}{me:Mx PV}(C:CompOk X N scope vars frees fm)
  (nd:(vars++frees).Nodup) (hgl:∀x∈G',scope.names.lookup x=some .globalImplicit) (dbg:∀x∈(vars++frees)++G',(x == ("__debug__":Str))=false/\(x == ("__classdict__":Str))=false/\x≠"__name__")
  (hi:MI X tg iter mi)
  (hY:∀Y:Cx,Y.prog=X.prog->Y.w=X.w->Y.K=X.K->Y.mg=X.mg->Y.base=X.base->Y.env.scope=relabel scope X.env->Good Y (vars++frees) vars G' k->MG Y tg gt/\MTs Y ifs mt/\ME Y elt me)
  (hs:∀x,foldedSetIterable iter X.env x=pure x) {use:Option (Value->Sem Unit)} {Qv:Value->Shared->Prop} {pp:Pos} {Iv:List (Addr × Obj)} {s:Shared} {σ:L2.St} {H:Hp} {Q:VK} (I:Inv X Iv σ H s) (tm:tM X (RV' X) (pG vars.length fm mi gt mt me) σ H Q)
  (fin:∀(acc C:Addr) (H6:Hp) (s7:Shared) (m7:Str->Option Value),Inv X Iv σ H6 s7->H6 C=none->s7.heap.Ns C m7->C≠X.env.locals->X.s₀.heap.objs.size<=C->C∉X.fs->(∀x c,X.env.cells.lookup x=some c->c≠C)->(∀p∈X.pn++Iv,p.1≠C)->Q (.ref acc) H6 ->
   compPost (model X.prog X.w) X.A X.xe use Qv (.ref acc) C (.ok .next) s7) :
  wpAny (model X.prog X.w) X.A (comprehension (.ListComp elt [⟨tg,iter,ifs,0⟩] scope pos) scope X.env pp (newList []) false (eval iter X.env) use) Qv X.xe s:=by
 obtain⟨ρ,σp,h,rs,rh,q⟩:=tm;have hfree:∀y∈scope.names,y.2=.free->∃c,X.env.cells.lookup y.1=some c:=fun y hy e=>I.ok.has y.1 (.inl (C.cl _ (C.all y hy e)));refine wpAny_comprehension_free (use:=use) rfl hs (pq hfree) C.kind C.names ?_;generalize hcl:i4 X.env scope.names []=cl;have clk:∀x a,cl.lookup x=some a->X.env.cells.lookup x=some a\/((X.env.cells.lookup x)=none/\a=0):=fun x a e=>by
  rw[<-hcl] at e
  have:=(ll (env:=X.env) (x:=x) scope.names [] (fun a z=>by simp at z)).1 a e
  cases z:X.env.cells.lookup x with
  | none=>right;rw[z] at this;exact⟨rfl,this⟩
  | some c=>left;rw[z] at this;rw[this];rfl
 have clf:∀x∈frees,∃c,cl.lookup x=some c/\X.env.cells.lookup x=some c:=fun x hx=>by
  obtain⟨c,hc⟩:=I.ok.has x (.inl (C.cl x hx));have hm:(∃kk,(x,kk)∈scope.names/\kk=.free):=⟨.free,PySem.mem_of_lookup (C.hf x hx),rfl⟩;obtain⟨a,ha⟩:=(ll (env:=X.env) (x:=x) scope.names [] (fun a z=>by simp at z)).2 (.inl hm);rw[hcl] at ha;rcases clk x a ha with z|⟨z,_⟩
  ·rw[hc] at z;cases z;exact⟨c,ha,hc⟩
  ·rw[hc] at z;cases z
 have clin:∀x a,cl.lookup x=some a->X.env.cells.lookup x=some a/\x∈frees:=fun x a e=>by
   have only:∀(l:List (Str × NameKind)) (cs:List (Str × Addr)) (x:Str) (a:Addr),(i4 X.env l cs).lookup x=some a->(x,NameKind.free)∈l\/cs.lookup x=some a:=by
    intro l
    induction l with
    | nil=>intro cs x a e;exact .inr e
    | cons y l ih =>
     intro cs x a e;obtain⟨n,kk⟩:=y;rcases ih _ x a e with z|z
     ·exact .inl (qaf _ z)
     ·split at z
      ·rename_i hk
       have hk':kk=NameKind.free:=by simpa using hk
       rw[qbd] at z
       split at z
       ·rename_i e'
        have:x=n:=by simpa using e'
        subst this;subst hk';exact .inl qaM
       ·exact .inr z
      ·exact .inr z
   have e':=e;rw[<-hcl] at e';rcases only _ _ x a e' with z'|z'
   ·refine⟨?_,C.all _ z' rfl⟩;rcases clk x a e with z|⟨z,_⟩
    ·exact z
    ·obtain⟨c,hc⟩:=hfree _ z' rfl;rw[z] at hc;cases hc
   ·simp at z'
 have start:=hi Iv s σ H (CS X ρ H σp gt mt me (cSt vars.length fm σp) Q) I
  ⟨ρ,σp,h,rs,rh,Ful.bind q fun ρ1 H1 it J h1 _ l1 rh1 jr q1=>⟨ρ1,it,h1,l1,rh1,jr,q1⟩⟩
 refine wpAny_mono start (fun x s₁ h₁=>wpAny_mono h₁ (fun itv s₂ h₂=>?_) fun _ _ e=>e) fun _ _ e=>e;obtain⟨ita,fp,tn,J,H2,rfl,I2,T,st2,f2,ρ1,it,h1,l1,rh1,jr,q1⟩:=h₂;refine wpAny_newObj_type ?_;have hf2:H2 s₂.heap.objs.size=none:=I2.hok.fresh (qah _);have I3:=I2.lnew (ys:=[]) (its:=[]) (t':=s₂.toks) .nil (qaR _);obtain⟨rh3,l3⟩:=rh1.new hf2 (o:=.lst []) (ho:=.lst []) ⟨[],rfl,.nil⟩;generalize hs3:({ s₂ with heap:=s₂.heap.push { cls:=.type "list",data:=.seq ([]:List Value).toArray},toks:=s₂.toks}:Shared)=s₃ at I3;generalize hH3:upd H2 s₂.heap.objs.size (.lst [])=H₃ at I3 rh3 l3;have hacc:H₃ s₂.heap.objs.size=some (.lst []):=by rw[<-hH3];exact cj
 have es3:s₃.heap=s₂.heap.push { cls:=.type "list",data:=.seq ([]:List Value).toArray}:=by rw[<-hs3]
 have st3:tn 0 s₃.heap:=T.keep _ _ _ st2 fun b _ o e=>by rw[es3];exact qae _ e
 have fp3:∀b∈fp,ip X Iv H₃ b:=fun b hb=>by
  obtain⟨a0,a1⟩:=f2 b hb;refine⟨?_,a1⟩;obtain⟨o,eo,_⟩:=T.obj _ _ st2 b hb;rw[<-hH3,aX (qaJ (qas eo))];exact a0
 have goal3:wpAny (model X.prog X.w) X.A (newFunctionEnv scope X.env.globals cl [] X.env.qual none .none (some X.env)) (fun cenv s₄ =>
    codeAny (model X.prog X.w) X.A (.compStart (.ListComp elt [⟨tg,iter,ifs,0⟩] scope pos) 0 (.ref ita) (.ref s₂.heap.objs.size) { cenv with scope:=relabel scope X.env}) (compPost (model X.prog X.w) X.A X.xe use Qv (.ref s₂.heap.objs.size) cenv.locals) s₄) X.xe s₃:=by
  refine pj ?_;have keep4:∀b o,s₃.heap.get? b=some o->(pushCells (s₃.heap.push { cls:=.type "dict",data:=.dict #[]}) scope.names).get? b=some o:=fun b o e=>pushCells_keeps _ _ b o (qae _ e);have hns:=(Heap.Ns.new s₃.heap (.type "dict")).keeps (pushCells_keeps scope.names _);have okc:=cellsFrom_ok scope.names (s₃.heap.push { cls:=.type "dict",data:=.dict #[]}) (s₃.heap.objs.size+1) [] ⟨fun _ _ hm=>(nomatch hm),List.Pairwise.nil⟩ (by rw[qbx];exact qah _);rw[qbx] at okc;rw[cZ];have hin:=eS scope.names (s₃.heap.objs.size+1);generalize cellsFrom (s₃.heap.objs.size+1) scope.names []=cn at okc hin ⊢;generalize pushCells (s₃.heap.push { cls:=.type "dict",data:=.dict #[]}) scope.names=h' at keep4 hns okc ⊢;dsimp only[newEnv];have csl:∀x c,(cn++cl).lookup x=some c->((x,c)∈cn/\scope.names.lookup x=some .cell/\s₃.heap.objs.size<c/\h'.IsCell c none)\/(X.env.cells.lookup x=some c/\scope.names.lookup x=some .free):=fun x c e=>by
   rw[lD] at e
   cases z:cn.lookup x with
   | some c' =>
    rw[z] at e
    have:c'=c:=by simpa using e
    subst this;have m:=PySem.mem_of_lookup z;obtain⟨q1,q2⟩:=okc.empty x c' m;exact .inl ⟨m,C.cell _ ((hin x).mp ⟨c',m⟩) rfl,q2,q1⟩
   | none =>
    rw[z] at e;obtain⟨q1,q2⟩:=clin x c (by simpa using e);exact .inr ⟨q1,C.hf x q2⟩
  have csf:∀x c,x∈frees->cl.lookup x=some c->(cn++cl).lookup x=some c:=fun x c hx e=>by
   rw[lD]
   cases z:cn.lookup x with
   | none=>simpa using e
   | some c' =>
    have:=C.cell _ ((hin x).mp ⟨c',PySem.mem_of_lookup z⟩) rfl
    rw[C.hf x hx] at this;cases this
  have old:∀x c,X.env.cells.lookup x=some c->c<s₃.heap.objs.size:=fun x c e=>by
   obtain⟨v,qc⟩:=I3.cell x c e;exact qc.lt
  have ok:(dw X scope (cn++cl) s₃ H₃ fp (vars++frees)).Ok:=by
   refine⟨I3.ok.mod,C.kind,I3.ok.glob,I3.ok.blt,qah _,fun x y c h1 h2=>?_,fun x hx=>?_,fun x c hx e=>?_,I3.ok.hd,I3.ok.frames,.inl rfl,
    fun b hb=>⟨?_,fun x c e z=>?_⟩,I3.bs,qaE I3.ok.bsz I3.sz,fun b o e hb=>?_,fun b hb z=>?_,I3.stack,I3.stkFree⟩
   ·rcases csl x c h1 with ⟨a1,_,a2,_⟩|⟨a1,_⟩ <;> rcases csl y c h2 with ⟨b1,_,b2,_⟩|⟨b1,_⟩
    ·exact PySem.name_of_addr okc.apart a1 b1
    ·exact absurd (qcF a2 (old y c b1)) (qaU _)
    ·exact absurd (qcF b2 (old x c a1)) (qaU _)
    ·exact I3.ok.inj x y c a1 b1
   ·
    have hx':(relabel scope X.env).names.lookup x=some .cell\/(relabel scope X.env).names.lookup x=some .free:=hx
    cases e:scope.names.lookup x with
    | none =>
     exfalso;have nn:∀(l:List (Str × NameKind)),l.lookup x=none->(l.map fun (n,k)=>if (k == NameKind.free && X.env.scope.kind == .function && X.env.kindOf n == some .cell) then (n,NameKind.cell) else (n,k)).lookup x=none:=by
      intro l
      induction l with
      | nil=>intro _;rfl
      | cons y l ih =>
       intro hl;obtain⟨n,kk⟩:=y;rw[qbd] at hl
       split at hl
       ·cases hl
       ·rename_i hx2
        rw[qaF];dsimp only
        split <;> (rw[qbd];simp only[hx2];exact ih hl)
     have e2:=nn scope.names e;rcases hx' with z|z
     ·rw[show (relabel scope X.env).names.lookup x=none from e2] at z;cases z
     ·rw[show (relabel scope X.env).names.lookup x=none from e2] at z;cases z
    | some kk =>
     have e2:=cg (env:=X.env) I3.ok.kind e;have hk:kk=.free\/kk=.cell:=by
      rcases hx' with z|z
      ·rw[show (relabel scope X.env).names.lookup x=_ from e2] at z;have z':=Option.some.inj z;by_cases zz:kk=.free/\X.env.kindOf x=some .cell
       ·exact .inl zz.1
       ·rw[qao zz] at z';exact .inr z'
      ·rw[show (relabel scope X.env).names.lookup x=_ from e2] at z;have z':=Option.some.inj z;by_cases zz:kk=.free/\X.env.kindOf x=some .cell
       ·exact .inl zz.1
       ·rw[qao zz] at z';exact .inl z'
     rcases hk with hk|hk
     ·subst hk;have hf:=C.all _ (PySem.mem_of_lookup e) rfl;obtain⟨c,h1,_⟩:=clf x hf;exact⟨c,csf x c hf h1⟩
     ·subst hk;obtain⟨c,hc⟩:=(hin x).mpr (PySem.mem_of_lookup e);show ∃c,(cn++cl).lookup x=some c;rw[lD]
      cases z:cn.lookup x with
      | some c'=>exact⟨c',rfl⟩
      | none=>exact absurd hc (xU cn x z c)
   ·have hx':=of_decide_eq_true hx;rcases csl x c e with ⟨_,_,q,_⟩|⟨_,q⟩
    ·exact qca q
    ·rw[q] at hx';cases hx'
   ·obtain⟨o,eo,_⟩:=T.obj _ _ st3 b hb;exact qaJ (qas eo)
   ·rcases csl x c e with ⟨_,_,q,_⟩|⟨q,_⟩
    ·obtain⟨o,eo,_⟩:=T.obj _ _ st3 b hb;exact absurd (qcF q (z▸qas eo)) (qaU _)
    ·exact (fp3 b hb).2.2.2.2.1 x c q z
   ·obtain⟨_,_,_,h4,_⟩:=fp3 b hb;rcases h4 with h4|h4
    ·exact I3.ok.noex b o e h4
    ·exact absurd (qaB (qas e) (qaE I3.ok.bsz h4)) (qaU _)
   ·obtain⟨_,h2,h3,_⟩:=fp3 b hb;rcases qaj.mp (I3.stkSub b z) with e|e
    ·exact h2 e
    ·exact h3 e
  obtain⟨mX,nsX,lX⟩:=I3.loc;have l13:Le ρ H (ρ1++[s₂.heap.objs.size]) H₃:=l1.trans l3
  let σY:L2.St:=List.replicate vars.length none++fm.map fun i=>(σ[i]?).getD none
  have fml:fm.length=frees.length:=by have:=congrArg List.length C.fm;simpa using this
  have invY:Inv (dw X scope (cn++cl) s₃ H₃ fp (vars++frees)) [] σY H₃ { s₃ with heap:=h',toks:=s₃.toks}:=by
   refine⟨ok,rfl,I3.bare,Un.kept keep4,⟨_,hns,fun i x v hN hv hvis=>?_⟩,fun x c e=>?_,?_,fun x c e=>?_,fun p hp=>absurd (show p∈([]:List (Addr × Obj)) from hp) (by simp),I3.hok.kept keep4,?_⟩
   ·have hN':(vars++frees)[i]?=some x:=hN;have hiv:vars.length<=i:=by
     by_cases z:vars.length<=i
     ·exact z
     ·exfalso;have hv':σY[i]?=some (some v):=hv;rw[qan (by simp;ext),qaV] at hv'
      split at hv' <;> cases hv'
    have hv':σY[i]?=some (some v):=hv;rw[qaD (by simpa using hiv),qbv,qat] at hv';rw[qaD hiv] at hN'
    cases ej:fm[i - vars.length]? with
    | none=>rw[ej] at hv';cases hv'
    | some j =>
     rw[ej] at hv';have ef:=congrArg (fun l=>l[i - vars.length]?) C.fm;simp only[qat,ej,hN',qbB] at ef;have ef':N[j]?=some x:=by simpa using ef
     have ev:σ[j]?=some (some v):=by
      have:(σ[j]?).getD none=some v:=by simpa using hv'
      cases z:σ[j]? with
      | none=>rw[z] at this;cases this
      | some o=>rw[z] at this;simp at this;rw[this]
     have hx:x∈frees:=qaL hN';have vis:Vis X.env.scope x:=.inr (.inl (C.cl x hx));obtain⟨u,ru,look⟩:=lX j x v (by rw[g.hN];exact ef') ev vis;refine⟨u,ru,.inr ⟨?_,?_⟩⟩
     ·left;show (relabel scope X.env).names.lookup x=some .cell
      have:=cg (env:=X.env) I3.ok.kind (C.hf x hx)
      rw[qag ⟨rfl,C.cl x hx⟩] at this;exact this
     ·rcases look with ⟨hk,_⟩|⟨_,c,hc,hcell⟩
      ·rw[C.cl x hx] at hk;cases hk
      ·obtain⟨c',h1,h2⟩:=clf x hx;rw[hc] at h2;cases h2;obtain⟨o,eo,ed⟩:=hcell;exact⟨c,csf x c hx h1,o,keep4 _ _ eo,ed⟩
   ·rcases csl x c e with ⟨_,_,_,q⟩|⟨q,_⟩
    ·exact⟨none,q⟩
    ·obtain⟨v,o,eo,ed⟩:=I3.cell x c q;exact⟨v,o,keep4 _ _ eo,ed⟩
   ·exact I3.hok.fresh (qah _)
   ·rcases csl x c e with ⟨_,_,q,_⟩|⟨q,_⟩
    ·exact I3.hok.fresh (qca q)
    ·exact I3.freeC x c q
   ·show σY.length=(vars++frees).length;simp[σY,fml]
  have gY:Good (dw X scope (cn++cl) s₃ H₃ fp (vars++frees)) (vars++frees) vars G' k:=by
   refine⟨rfl,nd,fun x hx=>?_,fun x hx=>?_,fun x hx=>?_,dbg,g.calm,g.room,PassesOwn.never⟩
   ·rcases qav.mp hx with z|z
    ·rcases C.hv x z with z|z
     ·left
      have:=cg (env:=X.env) I3.ok.kind z
      rw[qao (fun q=>nomatch q.1)] at this;exact this
     ·right
      have:=cg (env:=X.env) I3.ok.kind z
      rw[qao (fun q=>nomatch q.1)] at this;exact this
    ·right
     have:=cg (env:=X.env) I3.ok.kind (C.hf x z)
     rw[qag ⟨rfl,C.cl x z⟩] at this;exact this
   ·rcases C.hv x hx with z|z
    ·right
     have:=cg (env:=X.env) I3.ok.kind z
     rw[qao (fun q=>nomatch q.1)] at this;exact this
    ·exact .inl (decide_eq_true z)
   ·have:=cg (env:=X.env) I3.ok.kind (hgl x hx)
    rw[qao (fun q=>nomatch q.1)] at this;exact this
  obtain⟨hg,ht,he⟩:=hY (dw X scope (cn++cl) s₃ H₃ fp (vars++frees)) rfl rfl rfl rfl rfl rfl gY;have rsY:RS X.K (ρ1++[s₂.heap.objs.size]) H₃ (cSt vars.length fm σp) σY:=by
   refine⟨by simp[σY,cSt],fun i v e=>?_⟩;unfold cSt at e;by_cases z:vars.length<=i
   ·rw[qaD (by simpa using z),qbv,qat] at e
    cases ej:fm[i - vars.length]? with
    | none=>rw[ej] at e;cases e
    | some j =>
     rw[ej] at e;have ev:σp[j]?=some (some v):=by
      have:(σp[j]?).getD none=some v:=by simpa using e
      cases z:σp[j]? with
      | none=>rw[z] at this;cases this
      | some o=>rw[z] at this;simp at this;rw[this]
     obtain⟨v',e',rv⟩:=rs.2 j v ev;refine⟨v',?_,rv.le l13⟩;show σY[i]?=_;rw[qaD (by simpa using z),qbv,qat,ej];simp[e']
   ·rw[qan (by simp;ext),qaV] at e
    split at e <;> cases e
  have q3:Ful X (RV' X) σp (ρ1++[s₂.heap.objs.size]) H₃ ((cGo it h1.length gt mt me it.xs (cSt vars.length fm σp) (h1++[.lst []])).bind fun _ h3=>.ok (.loc h1.length) h3) Q:=Ful.le l3 q1;have hrho:(ρ1++[s₂.heap.objs.size])[h1.length]?=some s₂.heap.objs.size:=by rw[<-rh1.len];simp
  have loop:∀s₅:Shared,s₅={ s₃ with heap:=h',toks:=s₃.toks}->codeAny (model X.prog X.w) X.A (.compLoop (.ListComp elt [⟨tg,iter,ifs,0⟩] scope pos) 0 (.ref ita) (.ref s₂.heap.objs.size) (compEnvC scope (cn++cl) s₃.heap.objs.size X.env))
    (compPost (model X.prog X.w) X.A X.xe use Qv (.ref s₂.heap.objs.size) s₃.heap.objs.size) s₅:=by
   rintro s₅ rfl;refine qX (CI X (dw X scope (cn++cl) s₃ H₃ fp (vars++frees)) it tn fp (ρ1++[s₂.heap.objs.size]) H₃ σp h1.length gt mt me Q) ?_ it.xs.length
    ⟨0,σY,H₃,_,_,_,rfl,qaR _,invY,T.keep _ _ _ st3 (fun b _ o e=>keep4 b o e),fun b hb=>(fp3 b hb).1,Le.refl _ _,rsY,rh3,by simpa using q3⟩
   rintro n s6 ⟨i,σ6,H6,ρ6,σp6,h6,rfl,hi6,I6,st6,fr6,l6,rs6,rh6,q6⟩;have stat:∀{H':Hp},(∀b∈fp,H' b=none)->∀b∈fp,ip (dw X scope (cn++cl) s₃ H₃ fp (vars++frees)) [] H' b:=fun {H'} hn b hb =>
    ⟨hn b hb,(ok.exf b hb).1,ok.exfs b hb,.inl hb,(ok.exf b hb).2,fun p hp=>absurd (show p∈([]:List (Addr × Obj)) from hp) (by simp)⟩
   by_cases hlt:i<it.xs.length
   ·have ed:it.xs.drop i=it.xs[i]::it.xs.drop (i+1):=qcq hlt;rw[ed] at q6;simp only[cGo] at q6;by_cases hok:it.ok h6
    ·rw[qag hok] at q6;obtain⟨j1,_⟩:=jr ρ6 H6 h6 i (l3.trans l6) rh6 hok;obtain⟨go,yl⟩:=j1 hlt;refine thn (T.item (dw X scope (cn++cl) s₃ H₃ fp (vars++frees)) rfl rfl rfl g.calm i [] s6 σ6 H6 (fun _ _=>False) I6 (stat fr6) st6 go) fun r s7 ⟨u,hr,h7⟩=>?_;subst hr;refine thn h7 fun _ s8 ⟨x8,H8,I8,r8,y8,st8,fr8⟩=>?_;obtain⟨ρ8,x,l8,rh8,ex,rx⟩:=yl x8 H8 y8;have ex':x=it.xs[i]:=by rw[qau hlt] at ex;exact (Option.some.inj ex).symm
     subst ex';have I8p:=I8.pinned (stat fr8) (T.obj _ _ st8);have q8:=Ful.le l8 q6;have back:∀{σ9:L2.St} {H9:Hp} {s9:Shared},Inv (dw X scope (cn++cl) s₃ H₃ fp (vars++frees)) ([]++jI fp s8.heap) σ9 H9 s9->Inv (dw X scope (cn++cl) s₃ H₃ fp (vars++frees)) [] σ9 H9 s9/\tn (i+1) s9.heap/\∀b∈fp,H9 b=none:=fun {σ9 H9 s9} I9=>by
      refine⟨I9.unpinned,T.keep _ _ _ st8 fun b hb o e=>(I9.pin (b,o) (qam _ (qam _ (gr hb e)))).1,fun b hb=>?_⟩;obtain⟨o,e,d⟩:=T.obj _ _ st8 b hb;exact (I9.pin (b,o) (qam _ (qam _ (gr hb e)))).2.1
     cases eg:gt it.xs[i] σp6 h6 with
     | nx σp9 h9 =>
      rw[eg] at q8;dsimp only at q8
      refine thn (hg _ s8 σ6 H8 x8 u (fun σ' H'=>∃ρ',Le ρ8 H8 ρ' H'/\RH X.K X.mg ρ' H' h9/\RS X.K ρ' H' σp9 σ') I8p r8 ⟨ρ8,σp6,h6,_,rs6.le l8,rh8,rx,by
       show lr _ _ _ (gt it.xs[i] σp6 h6) _
       rw[eg];exact fun ρ' H' σ' l r s=>⟨ρ',l,r,s⟩⟩) fun _ s9 ⟨σ9,H9,I9,ρ9,l9,rh9,rs9⟩=>?_
      have q9:=Ful.le l9 q8
      cases em:mt σp9 h9 with
      | ok b h10 =>
       rw[em,Out.ne_ok] at q9;rw[Out.bind_ok] at q9
       refine thn (ht _ s9 σ9 H9 (fun b' H'=>b'=b/\∃ρ',Le ρ9 H9 ρ' H'/\RH X.K X.mg ρ' H' h10) I9 ⟨ρ9,σp9,h9,rs9,rh9,by
        show Ful _ _ _ _ _ (mt σp9 h9) _
        rw[em];exact fun ρ' H' v' l r e=>⟨e.symm,ρ',l,r⟩⟩) fun b' s10 ⟨H10,I10,eb,ρ10,l10,rh10⟩=>?_
       subst eb;have q10:=Ful.le l10 q9
       cases b' with
       | false =>
        rw[qao qbM] at q10 ⊢;obtain⟨I10',st10,fr10⟩:=back I10;exact⟨_,by ext,i+1,σ9,H10,ρ10,σp9,h10,rfl,hlt,I10',st10,fr10,l6.trans (l8.trans (l9.trans l10)),rs9.le l10,rh10,q10⟩
       | true =>
        rw[qag rfl] at q10 ⊢
        cases ee:me σp9 h10 with
        | ok v h11 =>
         rw[ee,Out.ne_ok] at q10;rw[Out.bind_ok] at q10
         refine thn (he _ s10 σ9 H10 (fun v' H'=>∃ρ',Le ρ10 H10 ρ' H'/\RH X.K X.mg ρ' H' h11/\RP X.K ρ' H' v v') I10 ⟨ρ10,σp9,h10,rs9.le l10,rh10,by
          show Ful _ _ _ _ _ (me σp9 h10) _
          rw[ee];exact fun ρ' H' v' l r e=>⟨ρ',l,r,e⟩⟩) fun u11 s11 ⟨v',H11,I11,ru11,ρ11,l11,rh11,rv11⟩=>?_
         have q11:=Ful.le l11 q10;have lall:Le (ρ1++[s₂.heap.objs.size]) H₃ ρ11 H11:=l6.trans (l8.trans (l9.trans (l10.trans l11)));obtain⟨oa,eoa,roa⟩:=rh11.obj (lall.get hrho);rw[eoa] at q11
         cases oa with
         | dic kvs=>exact q11.elim
         | exc x=>exact q11.elim
         | lst ys =>
          dsimp only at q11;by_cases hl11:ys.length<sizeLine
          ·rw[qag hl11] at q11;obtain⟨ys',ey',ry⟩:=roa;obtain⟨rh12,l12⟩:=rh11.put (lall.get hrho) (o:=.lst (ys++[v])) (ho:=.lst (ys'++[v'])) ⟨_,rfl,ry.append (.cons rv11 .nil)⟩;have ap:=oP (X:=dw X scope (cn++cl) s₃ H₃ fp (vars++frees)) _ s11 σ9 H11 (.ref s₂.heap.objs.size) [v'] (.ref s₂.heap.objs.size) [u11] (fun _ H'=>H'=upd H11 s₂.heap.objs.size (.lst (ys'++[v']))) I11 rfl (.cons ru11 .nil) ⟨s₂.heap.objs.size,ys',v',rfl,rfl,ey',by rw[<-ry.length];exact hl11,rfl⟩;refine thn ap fun _ s12 ⟨_,H12,I12,_,eH⟩=>?_;subst eH;obtain⟨I12',st12,fr12⟩:=back I12;exact⟨_,by ext,i+1,σ9,_,ρ11,σp9,_,rfl,hlt,I12',st12,fr12,lall.trans l12,(rs9.le l10).le (l11.trans l12),rh12,Ful.le l12 q11⟩
          ·rw[qao hl11] at q11;exact q11.elim
        | exc x h11=>rw[ee] at q10;exact q10.elim
        | bad=>rw[ee] at q10;exact q10.elim
      | exc x h10=>rw[em] at q9;exact q9.elim
      | bad=>rw[em] at q9;exact q9.elim
     | _=>rw[eg] at q8;exact q8.elim
    ·rw[qao hok] at q6;exact q6.elim
   ·have e:i=it.xs.length:=by ext
    rw[e,List.drop_length] at q6;simp only[cGo] at q6;by_cases hok:it.ok h6
    ·rw[qag hok] at q6;obtain⟨_,j2⟩:=jr ρ6 H6 h6 i (l3.trans l6) rh6 hok;refine thn (T.done (dw X scope (cn++cl) s₃ H₃ fp (vars++frees)) rfl rfl rfl g.calm i [] s6 σ6 H6 (fun _ _=>False) I6 (stat fr6) st6 (j2 (by ext))) fun r s7 ⟨hr,I7⟩=>?_;subst hr;obtain⟨m7,ns7,_⟩:=I7.loc;have IX:=I3.call' (s':=s7) (ch:=fp) I7.os I7.base I7.hok I7.bare fun b hb=>by
      obtain⟨_,a2,_,a4,a5,a6⟩:=fp3 b hb;exact⟨a4,a2,a5,a6⟩
     exact fin _ _ H6 s7 m7 IX I7.free ns7 (qbE I3.lt) I3.sz (I3.nofs (qah _)) (fun x c e z=>by
      obtain⟨v,qc⟩:=I3.cell x c e
      exact absurd qc.lt (by rw[z];exact qaU _)) (fun p hp z=>absurd (qas (I3.pin p hp).1) (by rw[z];exact qaU _)) (q6 ρ6 H6 _ (Le.refl _ _) rh6 (.loc (l6.get hrho)))
    ·rw[qao hok] at q6;exact q6.elim
  exact codeAny_compStart_list (loop _ rfl) (T.self X.A 0 _ _ _ (T.keep _ _ _ st3 (fun b _ o e=>keep4 b o e)) (loop _ rfl))
 exact goal3
def me_comp(g:Good X N W G k){tg iter elt:Expr}{ifs:List Expr}{scope:Scope}{pos:Pos}{vars frees G':List Str}{fm:List Nat}{mi:Mx MIt}{gt:Mg}{mt:Mx Bool}{me:Mx PV}(C:CompOk X N scope vars frees fm)
  (nd:(vars++frees).Nodup) (hgl:∀x∈G',scope.names.lookup x=some .globalImplicit) (dbg:∀x∈(vars++frees)++G',(x == ("__debug__":Str))=false/\(x == ("__classdict__":Str))=false/\x≠"__name__")
  (hi:MI X tg iter mi)
  (hY:∀Y:Cx,Y.prog=X.prog->Y.w=X.w->Y.K=X.K->Y.mg=X.mg->Y.base=X.base->Y.env.scope=relabel scope X.env->Good Y (vars++frees) vars G' k->MG Y tg gt/\MTs Y ifs mt/\ME Y elt me)
  (hs:∀x,foldedSetIterable iter X.env x=pure x:=by intro _;rfl):ME X (.ListComp elt [⟨tg,iter,ifs,0⟩] scope pos) (pG vars.length fm mi gt mt me):=by
 intro Iv s σ H Q I tm;refine wo g C nd hgl dbg hi hY hs I tm fun acc D H6 s7 m7 IX hC ns hL hz hfs hcl hp q=>?_;refine⟨m7,ns,fun h'' hsb=>⟨.ref acc,H6,?_,rfl,q⟩⟩;exact IX.turned (t':=s7.toks) (fun b o hb e=>hsb.extBut b o hb e) hC hL (.inr hz) hcl hp
end
section
variable {X:Cx} {N W G:List Str} {k:Nat} {σ:L2.St} {H:Hp} {s:Shared}
end
section
variable {prog:Program} {w:World} {A:Around} {E:Value→Shared→Prop} {h:Heap} {g:Array GenState} {d:Drawn} {t:Nat} {os:OsState} {a C:Addr} {o:Obj} {K:qaa}
end
section
variable {X:Cx} {N W G:List Str} {k:Nat}
end
def fRepr(xs:List PV)(h:MH):Out PV:=match xs with
 | [x]=>(match x with
  | .tup _=>(match rd 60 h x with
   | some d=>if d.showable=true/\d.shown.length<=sizeLine then .ok (.str d.shown) h else .bad
   | none=>.bad)
  | .frl _=>(match rd 60 h x with
   | some d=>if d.showable=true/\d.shown.length<=sizeLine then .ok (.str d.shown) h else .bad
   | none=>.bad)
  | .loc _=>(match rd 60 h x with
   | some d=>if d.showable=true/\d.shown.length<=sizeLine then .ok (.str d.shown) h else .bad
   | none=>.bad)
  | _=>.bad)
 | _=>.bad
def lc(hf:∀v d,f v=some d->d.depth<=n/\d.hasDict=false):∀{xs:List PV} {ds:List PyData},cm f xs=some ds->PyData.depthAll ds<=n/\PyData.hasDictAll ds=false
 | [],ds,e=>by cases e;simp[PyData.depthAll,PyData.hasDictAll]
 | x::r,ds,e=>by
  simp only[cm] at e
  split at e
  ·rename_i d ds' e1 e2
   cases e;obtain⟨a1,a2⟩:=hf _ _ e1;obtain⟨b1,b2⟩:=lc hf e2;simp only[PyData.depthAll,PyData.hasDictAll,a2,b2];exact⟨by lia,rfl⟩
  ·cases e
def lM:∀(n:Nat) (v:PV) (d:PyData),rd n h v=some d->d.depth<=n/\d.hasDict=false
 | 0,v,d,e=>by
  cases v <;> simp only[rd] at e <;> cases e <;> simp[PyData.depth,PyData.hasDict]
 | n+1,v,d,e=>by
  have key:∀xs,(∀ds,cm (rd n h) xs=some ds->PyData.depthAll ds<=n/\PyData.hasDictAll ds=false):=fun xs ds=>lc (lM n)
  cases v with
  | non=>cases e;simp[PyData.depth,PyData.hasDict]
  | bl b=>cases e;simp[PyData.depth,PyData.hasDict]
  | int b=>cases e;simp[PyData.depth,PyData.hasDict]
  | str b=>cases e;simp[PyData.depth,PyData.hasDict]
  | tup xs =>
   simp only[rd,qax] at e;obtain⟨ds,e1,rfl⟩:=e;obtain⟨a,b⟩:=key xs ds e1;exact⟨by simp only[PyData.depth];lia,by simp only[PyData.hasDict,b]⟩
  | frl xs =>
   simp only[rd,qax] at e;obtain⟨ds,e1,rfl⟩:=e;obtain⟨a,b⟩:=key xs ds e1;exact⟨by simp only[PyData.depth];lia,by simp only[PyData.hasDict,b]⟩
  | loc m =>
   simp only[rd] at e
   split at e
   ·rename_i xs _
    simp only[qax] at e;obtain⟨ds,e1,rfl⟩:=e;obtain⟨a,b⟩:=key xs ds e1;exact⟨by simp only[PyData.depth];lia,by simp only[PyData.hasDict,b]⟩
   ·cases e
section
variable {X:Cx} {N W G:List Str} {k:Nat}
def lP{Iv:List (Addr × Obj)}{σ:L2.St}{H:Hp}{s:Shared}{ρ:List Addr}{h:MH}{x:PV}{a:Addr}{Q:VK}(hr:Room k X.A)(I:Inv X Iv σ H s)(rh:RH X.K X.mg ρ H h)(rx:RP X.K ρ H x (.ref a))
  (q:gP X (RV' X) ρ H (match rd 60 h x with
   | some d=>if d.showable=true/\d.shown.length<=sizeLine then .ok (.str d.shown) h else .bad
   | none=>.bad) Q):wpAny (model X.prog X.w) X.A (call (.builtin "repr") [.ref a]) (EP X Iv σ Q) X.xe s:=by
 cases e:rd 60 h x with
 | none=>rw[e] at q;exact q.elim
 | some d =>
  rw[e] at q;dsimp only at q;by_cases z:d.showable=true/\d.shown.length<=sizeLine
  ·rw[qag z] at q;obtain⟨as,rd1⟩:=eG I rh 60 x (.ref a) (.ref a) d rx rfl e;obtain⟨f1,f2⟩:=lM 60 x d e;refine repr_of_reads' rd1 z.1 (PyData.noDict_hsm f2) hr.gd (by have:=hr.un;lia) (fun _ _ e=>e) (fun h' u tk hk=>⟨.str d.shown,H,I.kept hk,⟨u,rfl⟩,q ρ H _ (Le.refl _ _) rh (.str _)⟩) z.2
  ·rw[qao z] at q;exact q.elim
def iB(g:Good X N W G k):cu X (.builtin "repr") fRepr:=by
 intro Iv s σ H xs us Q I r ⟨ρ,h,ps,rh,rp,q⟩
 cases rp with
 | nil=>exact q.elim
 | cons r1 t1 =>
  cases t1 with
  | cons _ _=>cases r1 <;> exact q.elim
  | nil =>
   cases r with
   | cons ru tu =>
    cases tu
    cases r1 with
    | tup s1 rr=>cases ru;exact lP g.room I rh (.tup s1 rr) q
    | frl s1 rr=>cases ru;exact lP g.room I rh (.frl s1 rr) q
    | loc e=>cases ru;exact lP g.room I rh (.loc e) q
    | _=>exact q.elim
end
def jj{p:Str->Prop}{a:Str}{l:List Str}(h:p a)(t:∀x∈l,p x):∀x∈a::l,p x:=fun x hx=>by
 rcases qaj.mp hx with rfl|z
 ·exact h
 ·exact t x z
section
variable {X:Cx} {N W G:List Str} {k:Nat}
end
end MM
namespace MM
open PySem PySem.Spec PyProof.Rows L2
def compOk(hsc:X.env.scope=sc)(h1:scope.kind=.function)(h2:∀y∈scope.names,y.2=.cell->scope.names.lookup y.1=some .cell)(h3:∀y∈scope.names,y.2=.local->scope.names.lookup y.1=some .local)(h4:∀x∈vars,scope.names.lookup x=some .local\/scope.names.lookup x=some .cell)
  (h5:∀x∈frees,scope.names.lookup x=some .free) (h6:∀y∈scope.names,y.2=.free->y.1∈frees) (h7:fm.map (fun i=>N[i]?)=frees.map some) (h8:∀x∈frees,sc.names.lookup x=some .cell):CompOk X N scope vars frees fm :=
 ⟨h1,h2,h3,h4,h5,h6,h7,fun x hx=>by rw[<-hsc] at h8;exact h8 x hx⟩
end MM
namespace MM
open PySem PySem.Spec PyProof.Rows L2
local instance (priority:=1) cdec16 (p:Prop):Decidable p:=Classical.propDecidable p
section
variable {σ:PSt} {h:MH}
@[simp] theorem mComp_ap{nv:Nat}{fm:List Nat}{mi:Mx MIt}{gt:Mg}{mt:Mx Bool}{me:Mx PV}:pG nv fm mi gt mt me σ h =
 (mi σ h).bind fun it h1=>(cGo it h1.length gt mt me it.xs (cSt nv fm σ) (h1++[.lst []])).bind fun _ h3=>.ok (.loc h1.length) h3:=rfl
def app_0{o:MO}{g:MH}:(h++o::g)[h.length]?=some o:=by simp
end
end MM
namespace MM
open PySem PySem.Spec PyProof.Rows L2
def eJ(s:String):PyData.strOk (Str.ofString s)=true:=by
 rw[Str.ofString_eq_toList];unfold PyData.strOk;simp only[List.all_toArray,qcG,qaX];intro c _;simp only[Function.comp]
 have:=c.valid
 have h2:c.toNat<0x110000:=by
  rcases this with z|z
  ·have:c.toNat<0xd800:=z;ext
  ·exact z.2
 simpa using h2
def dB(ha:PyData.strOk a=true)(hb:PyData.strOk b=true):PyData.strOk (a++b)=true:=by
 unfold PyData.strOk at *;rw[Str.cps_append,Array.all_append,ha,hb];rfl
end MM
namespace MM
open PySem PySem.Spec PyProof.Rows L2
local instance (priority:=1) cdec18 (p:Prop):Decidable p:=Classical.propDecidable p
def mMt(f:Nat->List PV->MH->Out PV)(m:Mx PV)(ma:Mx (List PV)):Mx PV:=fun σ h=>(m σ h).bind fun o h1=>match o with
 | .loc n=>(match h1[n]? with
  | some (.lst _)=>(ma σ h1).bind fun vs h2=>(f n vs h2).ne
  | _=>.bad)
 | _=>.bad
def kR(n:Nat)(vs:List PV)(h:MH):Out PV:=match vs,h[n]? with
 | [v],some (.lst xs)=>if xs.length<sizeLine then .ok .non (h.set n (.lst (xs++[v]))) else .bad
 | _,_=>.bad
def iM(n:Nat)(vs:List PV)(h:MH):Out PV:=match vs with
 | [.loc m]=>(match h[n]?,h[m]? with
  | some (.lst xs),some (.lst ys)=>if xs.length+ys.length<=sizeLine then .ok .non (h.set n (.lst (xs++ys))) else .bad
  | _,_=>.bad)
 | [.tup ys]=>(match h[n]? with
  | some (.lst xs)=>if xs.length+ys.length<=sizeLine then .ok .non (h.set n (.lst (xs++ys))) else .bad
  | _=>.bad)
 | _=>.bad
def ja(n:Nat)(vs:List PV)(h:MH):Out PV:=match vs,h[n]? with
 | [],some (.lst xs)=>.ok .non (h.set n (.lst xs.reverse))
 | _,_=>.bad
def RPs.reverse{K:qaa}{ρ:List Addr}{H:Hp}:∀{xs:List PV} {ys:List V},RPs K ρ H xs ys->RPs K ρ H xs.reverse ys.reverse
 | _,_,.nil=>.nil
 | _,_,.cons r t=>by rw[qbA,qbA];exact (RPs.reverse t).append (.cons r .nil)
section
variable {X:Cx} {N W G:List Str} {k:Nat}
def mtJ(X:Cx)(f:Nat->List PV->MH->Out PV):V->List V->Hp->VK->Prop:=fun x vs H Q=>∃ρ h n a ps,x=.ref a/\ρ[n]?=some a/\RH X.K X.mg ρ H h/\RPs X.K ρ H ps vs/\gP X (RV' X) ρ H (f n ps h) Q
def vk:MtR X "list.append" (mtJ X kR):=by
 intro Iv s σ H x vs v us Q I rx rv ⟨ρ,h,n,a,ps,e,en,rh,rp,q⟩;subst e;obtain⟨o,eo,ro⟩:=rh.obj en;unfold kR at q
 cases rp with
 | nil=>exact q.elim
 | cons r1 t1 =>
  cases t1 with
  | cons _ _=>exact q.elim
  | nil =>
   rw[eo] at q
   cases o with
   | lst xs =>
    dsimp only at q;by_cases hl:xs.length<sizeLine
    ·rw[qag hl] at q;obtain⟨ys,ey,ry⟩:=ro;obtain⟨rh',l'⟩:=rh.put en (o:=.lst (xs++[_])) ⟨_,rfl,ry.append (.cons r1 .nil)⟩;exact oP Iv s σ H _ _ v us Q I rx rv ⟨a,ys,_,rfl,rfl,ey,by rw[<-ry.length];exact hl,q ρ _ .non l' rh' .non⟩
    ·rw[qao hl] at q;exact q.elim
   | _=>exact q.elim
def o7(l b:Addr)(its:Array Value)(n:Nat)(items2:Array Value)(hs0:¬(!its.isEmpty && Builtin.List.listTooLong (its.size+items2.size))=true)(hs1:its.size<=sizeLine)(hs2:its.size+items2.size<=sizeLine+1) :
  Meets (Builtin.«list.extend» ⟨[.ref l,.ref b],[]⟩) (fun _ R s=>s.heap.get? l=some { cls:=.type "list",data:=.seq its n}/\IsTup s.heap b items2/\R (.ok (.ret Value.none)) { s with heap:=s.heap.update l (Obj.mapSeq fun x=>x++items2),toks:=s.toks}):=by
 intro prog w A R s ⟨hl,⟨o,ho,hc,n2,hd⟩,h⟩;have hz':(its++items2).size<=sizeLine+1:=by rw[qbN];exact hs2
 show wpAny _ A.in1 (Builtin.List.listExtendWith (.ref l) (.ref b) .none) _ _ s;refine qab (wpAny_typeOf ⟨o,ho,hc⟩ ?_);have h1:(Builtin.List.listSameRef (.ref l) (.ref b) || Value.type "tuple" == Value.type "list" || Value.type "tuple" == Value.type "tuple")=true:=by simp
 simp only[h1];refine qab ?_;refine qab (wpAny_seqItems ho hd (qak ?_));refine qab ?_;refine qab (wpAny_seqItems hl rfl (qak ?_));simp only[hs0];refine qab (wpAny_updateSeq hl rfl ?_ (hz:=hs1) (_hz':=hz'));exact qak h
def wO:MtR X "list.extend" (mtJ X iM):=by
 intro Iv s σ H x vs v us Q I rx rv ⟨ρ,h,n,a,ps,e,en,rh,rp,q⟩;subst e;obtain⟨o,eo,ro⟩:=rh.obj en;unfold iM at q
 cases rp with
 | nil=>exact q.elim
 | cons r1 t1 =>
  cases t1 with
  | cons _ _=>cases r1 <;> exact q.elim
  | nil =>
   cases r1 with
   | @loc m b em =>
    obtain⟨o2,eo2,ro2⟩:=rh.obj em;dsimp only at q;rw[eo,eo2] at q
    cases o with
    | lst xs =>
     cases o2 with
     | lst zs =>
      dsimp only at q;by_cases hl:xs.length+zs.length<=sizeLine
      ·rw[qag hl] at q;obtain⟨ys,ey,ry⟩:=ro;obtain⟨ws,ew,rw'⟩:=ro2;obtain⟨rh',l'⟩:=rh.put en (o:=.lst (xs++zs)) (ho:=.lst (ys++ws)) ⟨_,rfl,ry.append rw'⟩;exact wJ Iv s σ H _ _ v us Q I rx rv ⟨a,b,ys,ws,rfl,rfl,ey,ew,by rw[<-ry.length,<-rw'.length];exact hl,q ρ _ .non l' rh' .non⟩
      ·rw[qao hl] at q;exact q.elim
     | _=>exact q.elim
    | _=>exact q.elim
   | @tup zs a2 ws sq rr =>
    rw[eo] at q
    cases o with
    | lst xs =>
     dsimp only at q;by_cases hl:xs.length+zs.length<=sizeLine
     ·rw[qag hl] at q;obtain⟨ys,ey,ry⟩:=ro;obtain⟨rh',l'⟩:=rh.put en (o:=.lst (xs++zs)) (ho:=.lst (ys++ws)) ⟨_,rfl,ry.append rr⟩;cases rx;obtain⟨u,rfl,ru⟩:=rv.one;cases ru;obtain⟨z,its,n,r,hl1,e⟩:=I.lstM ey;obtain⟨its2,r2,pl,hz2⟩:=I.tuple sq;have hlen:ys.length+ws.length<=sizeLine:=by rw[<-ry.length,<-rr.length];exact hl
      have hl2:=r2.length;have hsz:its.toArray.size+its2.toArray.size<=sizeLine:=by rw[qap,qap];lia
      have hlong:¬(!its.toArray.isEmpty && Builtin.List.listTooLong (its.toArray.size+its2.toArray.size))=true:=by
       rw[lK hsz,qci];exact qbM
      refine call_meets F.slot_list_extend ⟨_,e,rfl⟩ F.entry_list_extend (F.args_list_extend_2 _ _) (o7 a _ its.toArray n its2.toArray hlong (by rw[qap];lia) (by lia)) ⟨e,pl,?_⟩;refine⟨.non,_,I.lset (its':=its++its2) ey e (by simp) (r.append r2) ?_,rfl,q ρ _ .non l' rh' .non⟩;rw[qaQ];lia
     ·rw[qao hl] at q;exact q.elim
    | _=>exact q.elim
   | _=>exact q.elim
def uj:MtR X "list.reverse" (mtJ X ja):=by
 intro Iv s σ H x vs v us Q I rx rv ⟨ρ,h,n,a,ps,e,en,rh,rp,q⟩;subst e;obtain⟨o,eo,ro⟩:=rh.obj en;unfold ja at q
 cases rp with
 | cons _ _=>exact q.elim
 | nil =>
  rw[eo] at q
  cases o with
  | lst xs =>
   obtain⟨ys,ey,ry⟩:=ro;obtain⟨rh',l'⟩:=rh.put en (o:=.lst xs.reverse) ⟨_,rfl,ry.reverse⟩;exact uz Iv s σ H _ _ v us Q I rx rv ⟨a,ys,rfl,rfl,ey,q ρ _ .non l' rh' .non⟩
  | _=>exact q.elim
variable {o e:Expr} {es:List Expr} {name:Str} {apos cpos:Pos} {id:String} {f:Nat→List PV→MH→Out PV} {m:Mx PV} {ma:Mx (List PV)}
def tM_mt{ta:TA}(hna:∀σ H Q,tM X (RVs' X) ma σ H Q->ta σ H Q){σ:L2.St}{H:Hp}{Q:VK}(tm:tM X (RV' X) (mMt f m ma) σ H Q):tM X (RV' X) m σ H (fun x H1=>tyV X.K "list" x H1/\ta σ H1 fun xs H2=>mtJ X f x xs H2 Q):=by
 obtain⟨ρ,σp,h,rs,rh,q⟩:=tm;refine⟨ρ,σp,h,rs,rh,?_⟩;refine Ful.bind q fun ρ1 H1 x x' h1 _ l1 rh1 rx q1=>?_
 cases rx with
 | @loc n a en =>
  obtain⟨ob,eo,ro⟩:=rh1.obj en;dsimp only at q1;rw[eo] at q1
  cases ob with
  | lst xs =>
   obtain⟨ys,ey,ry⟩:=ro;refine⟨.inl ⟨rfl,ys,SqL.of ey⟩,hna σ H1 _ ⟨ρ1,σp,h1,rs.le l1,rh1,?_⟩⟩;exact Ful.bind q1 fun ρ2 H2 vs vs' h2 _ l2 rh2 rvs q2=>⟨ρ2,h2,n,a,vs,rfl,l2.get en,rh2,rvs,q2.zero⟩
  | _=>exact q1.elim
 | _=>exact q1.elim
def me_bm(slot:Slot "list" name id)(hty:typeOf (.builtin id)=pure (.type "method_descriptor"))(hm:MtR X id (mtJ X f))(ho:ME X o m)(ha:MA X (e::es) ma)
  (hbase:attributeBase o name X.env (eval o X.env)=eval o X.env:=by rfl)
  (hfew:((backTo cpos (starEach (e::es) X.env)).all (fun x=>!x.1) && (backToKw cpos (keywordEach [] X.env)).all (fun x=>x.1.isSome)
   && decide ((e::es).length+([]:List Keyword).length+(if ([]:List Keyword).isEmpty then 0 else 1)<30))=true:=by rfl)
  (hline:(apos.endLine == cpos.line)=true:=by rfl) (hs:starEach (e::es) X.env=(false,eval e X.env)::starEach es X.env:=by rfl) (hplain:(backTo cpos (starEach es X.env)).any (·.1)=false:=by rfl) :
  ME X (.Call (.Attribute o name apos) (e::es) [] cpos) (mMt f m ma) :=
 PE.imp (pe_bm PySem.F.plainAttrs_list slot hty hm ho ha hbase hfew hline hs hplain) fun σ H Q q=>tM_mt (fun _ _ _ z=>z) q
def me_bm0(slot:Slot "list" name id)(hty:typeOf (.builtin id)=pure (.type "method_descriptor"))(hm:MtR X id (mtJ X f))(ho:ME X o m)
  (hbase:attributeBase o name X.env (eval o X.env)=eval o X.env:=by rfl) (hline:(apos.endLine == cpos.line)=true:=by rfl) :
  ME X (.Call (.Attribute o name apos) [] [] cpos) (mMt f m mNil) :=
 PE.imp (pe_bm0 PySem.F.plainAttrs_list slot hty hm ho hbase hline) fun σ H Q q=>by
  have z:=tM_mt (fun σ H Q ⟨ρ,σp,h,rs,rh,z⟩=>z ρ H [] (Le.refl _ _) rh .nil) q;exact z
@[simp] theorem mMt_ap:mMt f m ma σ h=(m σ h).bind fun o h1=>match o with
 | .loc n=>(match h1[n]? with
  | some (.lst _)=>(ma σ h1).bind fun vs h2=>(f n vs h2).ne
  | _=>.bad)
 | _=>.bad:=rfl
end
end MM
namespace MM
open PySem PySem.Spec PyProof.Rows L2
def sU(hs:PyData.strOk sep=true):∀{ts:List Str},(∀t∈ts,PyData.strOk t=true)->PyData.strOk (Str.join sep ts)=true
 | [],_=>by simp[Str.join,PyData.strOk,Str.empty]
 | [x],h=>h x (by simp)
 | x::y::r,h=>by
  show PyData.strOk (x++sep++Str.join sep (y::r))=true;exact dB (dB (h x (by simp)) hs) (sU hs fun t ht=>h t (qaf _ ht))
def qH:∀{ts:List Str},(∀t∈ts,t.length<=L)->(Str.join ", " ts).length<=(L+2) * ts.length
 | [],_=>qaR _
 | [x],h=>by have:=h x (by simp);show x.length<=_;simp;lia
 | x::y::r,h=>by
  show (x++(", ":Str)++Str.join ", " (y::r)).length<=_
  have:=h x (by simp)
  have ih:=qH (ts:=y::r) fun t ht=>h t (qaf _ ht);have e2:(", ":Str).length=2:=by decide
  rw[Str.length_append,Str.length_append,e2]
  have:(L+2) * (x::y::r).length=(L+2)+(L+2) * (y::r).length:=by rw[qaY,Nat.mul_succ];lia
  lia
structure Sh (L:Nat) (d:PyData):Prop where
 able:d.showable=true
 ok:PyData.strOk d.shown=true
 len:d.shown.length<=L
def Sh.mono(s:Sh L d)(h:L<=M):Sh M d:=⟨s.able,s.ok,qaE s.len h⟩
def qY:∀{ds:List PyData},(∀d∈ds,Sh L d)->PyData.showableAll ds=true/\(∀t∈PyData.shownAll ds,PyData.strOk t=true/\t.length<=L)/\(PyData.shownAll ds).length=ds.length
 | [],_=>⟨rfl,(fun t h=>nomatch h),rfl⟩
 | d::ds,h=>by
  obtain⟨a,b,c⟩:=qY (ds:=ds) fun x hx=>h x (qaf _ hx);have hd:=h d (by simp);refine⟨by simp only[PyData.showableAll,a,hd.able,Bool.and_self],fun t ht=>?_,by simp only[PyData.shownAll,qaY,c]⟩;simp only[PyData.shownAll,qaj] at ht;rcases ht with rfl|ht
  ·exact⟨hd.ok,hd.len⟩
  ·exact b t ht
def tj:∀{ts:List Str} {k:Nat} {acc:Str},PyData.strOk acc=true->(∀t∈ts,PyData.strOk t=true)->PyData.strOk (textFrom k acc ts)=true
 | [],k,acc,ha,_=>ha
 | t::r,k,acc,ha,h=>by
  show PyData.strOk (textFrom (k+1) _ r)=true;refine tj (dB ?_ (h t (by simp))) fun t ht=>h t (qaf _ ht);exact dB ha (eJ _)
def qR:∀{ts:List Str} {k:Nat} {acc:Str},(∀t∈ts,t.length<=L)->(textFrom k acc ts).length<=acc.length+(L+2) * ts.length
 | [],k,acc,_=>by show acc.length<=_;simp
 | t::r,k,acc,h=>by
  have e2:(", ":Str).length=2:=by decide
  have ht:=h t (by simp);have ih:∀b:Str,(textFrom (k+1) b r).length<=b.length+(L+2) * r.length:=fun b=>qR fun t ht=>h t (qaf _ ht);show (textFrom (k+1) _ r).length<=_;refine qaE (ih _) ?_;rw[Str.length_append,qaY,Nat.mul_succ];split
  ·rw[Str.length_append,e2];lia
  ·have e0:("":Str).length=0:=by decide
   rw[Str.length_append,e0];lia
def nZ(h:∀d∈ds,Sh L d):Sh ((L+2) * ds.length+2) (.list ds):=by
 obtain⟨a,b,c⟩:=qY h;have e1:("[":Str).length=1:=by decide
 have e2:("]":Str).length=1:=by decide
 refine⟨by simp only[PyData.showable,a],?_,?_⟩
 ·simp only[PyData.shown,listText];exact dB (tj (eJ _) fun t ht=>(b t ht).1) (eJ _)
 ·simp only[PyData.shown,listText]
  have:=qR (k:=0) (acc:="[") fun t ht=>(b t ht).2
  rw[c,e1] at this;rw[Str.length_append,e2];lia
def gU(h:∀d∈ds,Sh L d):Sh ((L+2) * ds.length+3) (.tuple ds):=by
 obtain⟨a,b,c⟩:=qY h;have e1:("(":Str).length=1:=by decide
 have e2:∀z:Bool,(Str.ofString (if z=true then ",)" else ")")).length<=2:=by decide
 refine⟨by simp only[PyData.showable,a],?_,?_⟩
 ·simp only[PyData.shown,tupleText];exact dB (dB (eJ _) (sU (eJ _) fun t ht=>(b t ht).1)) (eJ _)
 ·simp only[PyData.shown,tupleText]
  have:=qH fun t ht=>(b t ht).2
  rw[c] at this;rw[Str.length_append,Str.length_append,e1]
  have:=e2 ((PyData.shownAll ds).length == 1)
  lia
def iN(h:i.natAbs.log2<1920):Sh 2000 (.int i):=by
 have l1:=PySem.int_text_length_le (by decide) h;have e1:(Str.ofString (toString i)).length=(toString i).length:=by rw[Str.ofString_eq_toList];simp only[Str.length,qap,qal];exact String.length_toList
 exact⟨by simpa [PyData.showable] using h,eJ _,by show (Str.ofString (toString i)).length<=2000;lia⟩
end MM
namespace MM
open PySem PySem.Spec PyProof.Rows L2
local instance (priority:=1) cdec20 (p:Prop):Decidable p:=Classical.propDecidable p
def bF(h:MH):PV->Option (List PV)
 | .tup xs=>some xs
 | .frl xs=>some xs
 | .loc n=>(match h[n]? with
  | some (.lst xs)=>some xs
  | _=>none)
 | _=>none
section
variable {X:Cx} {N W G:List Str} {k:Nat}
def gB(rh:RH X.K X.mg ρ H h)(rx:RP X.K ρ H x x')(e:bF h x=some xs):∃a ys,x'=.ref a/\(SqL X.K H a ys\/SqT X.K H a ys)/\RPs X.K ρ H xs ys:=by
 cases rx with
 | tup s r=>cases e;exact⟨_,_,rfl,.inr s,r⟩
 | frl s r=>cases e;exact⟨_,_,rfl,.inl s.sq,r⟩
 | @loc n a en =>
  obtain⟨o,eo,ro⟩:=rh.obj en;simp only[bF,eo] at e
  cases o with
  | lst ys =>
   cases e;obtain⟨zs,ez,rz⟩:=ro;exact⟨a,zs,rfl,.inl (SqL.of ez),rz⟩
  | _=>cases e
 | _=>cases e
def l0(f g:PV->PV->MH->Out PV)(a b c:Mx PV):Mx PV:=fun σ h=>(a σ h).bind fun x h1=>(b σ h1).bind fun y h2=>(f x y h2).ne.bind fun z h3=>match z with
 | .bl t=>if t=true then (c σ h3).bind fun w h4=>(g y w h4).ne else .ok (.bl false) h3
 | _=>.bad
variable {a b c:Expr} {ma mb mc:Mx PV} {f g':PV→PV→MH→Out PV} {op op':CmpOp} {pos:Pos}
def yh{σ:L2.St}{H:Hp}{Q:VK}(q:tM X (RV' X) (l0 f g' ma mb mc) σ H Q):wW (rJ X f) (rJ X g') (tM X (RV' X) ma) (tM X (RV' X) mb) (tM X (RV' X) mc) σ H Q:=by
 obtain⟨ρ,σp,h,rs,rh,q⟩:=q;refine⟨ρ,σp,h,rs,rh,Ful.bind q fun ρ1 H1 x x' h1 _ l1 rh1 rx q1=>?_⟩;refine⟨ρ1,σp,h1,rs.le l1,rh1,Ful.bind q1 fun ρ2 H2 y y' h2 _ l2 rh2 ry q2=>?_⟩;refine⟨ρ2,h2,x,y,rh2,rx.le l2,ry,?_⟩;have key:Ful X (RV' X) σp ρ2 H2 (f x y h2).ne (fun z H3=>∃k,z=.bl k/\(if k=true then tM X (RV' X) mc σ H3 fun w' H4=>rJ X g' y' w' H4 Q else Q (.bl false) H3)):=Ful.bind q2 fun ρ3 H3 z z' h3 _ l3 rh3 rz q3=>by
  cases rz with
  | bl t =>
   refine⟨t,rfl,?_⟩
   cases t with
   | true =>
    exact⟨ρ3,σp,h3,rs.le (l1.trans (l2.trans l3)),rh3,Ful.bind q3 fun ρ4 H4 w w' h4 _ l4 rh4 rw' q4=>⟨ρ4,h4,y,w,rh4,(ry.le l3).le l4,rw',q4.zero⟩⟩
   | false =>
    exact q3 ρ3 H3 _ (Le.refl _ _) rh3 (.bl _)
  | _=>exact q3.elim
 exact key.zero
def xV(ho:OpJ X (compareOp op) f)(ho':OpJ X (compareOp op') g')(ha:ME X a ma)(hb:ME X b mb)(hc:ME X c mc)(hm:lastMarks [op,op'] [b,c]=false:=by with_unfolding_all rfl):ME X (.Compare a [op,op'] [b,c] pos) (l0 f g' ma mb mc) :=
 PE.imp (xH ho ho' ha hb hc hm) fun _ _ _ q=>yh q
@[simp] theorem mChain_ap:l0 f g' ma mb mc σ h=(ma σ h).bind fun x h1=>(mb σ h1).bind fun y h2=>(f x y h2).ne.bind fun z h3=>match z with
 | .bl t=>if t=true then (mc σ h3).bind fun w h4=>(g' y w h4).ne else .ok (.bl false) h3
 | _=>.bad:=rfl
def opIn(neg:Bool)(x y:PV)(h:MH):Out PV:=match bF h y with
 | some ys=>(match rd 60 h x,cm (rd 60 h) ys with
  | some d,some ds=>if d.canLay0=true/\PyData.canLayAll0 ds=true then .ok (.bl (if neg then !ds.any (fun e=>PyData.eqv e d) else ds.any (fun e=>PyData.eqv e d))) h else .bad
  | _,_=>.bad)
 | none=>.bad
def mP:∀{ds:List PyData},PyData.canLayAll0 ds=true->∀d∈ds,d.canLay0=true
 | e::ds,h,d,hd=>by
  simp only[PyData.canLayAll0,qbK] at h;rcases qaj.mp hd with rfl|hd
  ·exact h.1
  ·exact mP h.2 d hd
def oN(hf:∀u d as,Reads hp u d as->fq u=PyData.eqv d dx):∀{us:List Value} {ds:List PyData} {as:List Addr},ReadsAll hp us ds as->us.any fq=ds.any fun e=>PyData.eqv e dx
 | _,_,_,.nil=>rfl
 | _,_,_,.cons r t=>by rw[qcu,qcu,hf _ _ _ r,oN hf t]
def ot:∀{us:List Value} {ds:List PyData} {as:List Addr},ReadsAll hp us ds as->∀u∈us,∃d as',d∈ds/\Reads hp u d as'
 | _,_,_,.nil,u,h=>nomatch h
 | _,_,_,.cons r t,u,h=>by
  rcases qaj.mp h with rfl|h
  ·exact⟨_,_,qaM,r⟩
  ·obtain⟨d,as',hd,hr⟩:=ot t u h;exact⟨d,as',qaf _ hd,hr⟩
def fq(hp:Heap)(dx:PyData)(u:Value):Bool:=if z:∃d as,Reads hp u d as then PyData.eqv z.choose dx else false
def fq_is(r:Reads hp u d as):fq hp dx u=PyData.eqv d dx:=by
 have z:∃d as,Reads hp u d as:=⟨d,as,r⟩;unfold fq;rw[dif_pos z];obtain⟨as',h'⟩:=z.choose_spec;rw[<-(Reads.unique r _ _ h').1]
def oj_in(hr:Room k X.A)(neg:Bool):OpJ X (compareOp (if neg then .NotIn else .In)) (opIn neg):=by
 intro Iv s σ H x' y' u v Q I rx' ry' ⟨ρ,h,x,y,rh,rx,ry,q⟩;unfold opIn at q
 cases es:bF h y with
 | none=>rw[es] at q;exact q.elim
 | some ys =>
  rw[es] at q;dsimp only at q;obtain⟨a,zs,rfl,hsq,rzs⟩:=gB rh ry es
  cases ex:rd 60 h x with
  | none=>rw[ex] at q;exact q.elim
  | some dx =>
   rw[ex] at q
   cases ed:cm (rd 60 h) ys with
   | none=>rw[ed] at q;exact q.elim
   | some ds =>
    rw[ed] at q;dsimp only at q;by_cases hl:dx.canLay0=true/\PyData.canLayAll0 ds=true
    ·rw[qag hl] at q;cases ry';obtain⟨_,rX⟩:=eG I rh 60 x x' u dx rx rx' ex;have hdp:=(lM 60 x dx ex).1;have eqs:∀(its:List Value),aF zs its->(∀w∈its,SeqAt.EqAt X.A.in1 s w u (fq s.heap dx w))/\its.any (fq s.heap dx)=ds.any fun e=>PyData.eqv e dx:=fun its rv=>by
      obtain⟨as,RA⟩:=fI (fun v v' u d r1 r2 e=>eG I rh 60 v v' u d r1 r2 e) rzs rv ed;refine⟨fun w hw=>?_,oN (fun u d as r=>fq_is r) RA⟩;obtain⟨d,as',hd,hrd⟩:=ot RA w hw;rw[fq_is hrd];refine SeqAt.eqAt_reads d dx X.A.in1 s w u _ _ hrd rX (mP hl.2 d hd) hl.1 ?_
      have:=hr.un
      lia
     cases neg with
     | false =>
      rcases hsq with hq|hq
      ·obtain⟨its,rv,pl,hz⟩:=I.list hq;obtain⟨h1,h2⟩:=eqs its rv;refine SeqAt.in_listAt (fq s.heap dx) pl.isList (fun w hw=>h1 w (by simpa using hw)) ⟨.bl _,H,I,rfl,?_⟩;rw[show its.toArray.any (fq s.heap dx)=its.any (fq s.heap dx) by simp,h2];exact q ρ H _ (Le.refl _ _) rh (.bl _)
      ·obtain⟨its,rv,pl,hz⟩:=I.tuple hq;obtain⟨h1,h2⟩:=eqs its rv;refine SeqAt.in_tupleAt (fq s.heap dx) pl (fun w hw=>h1 w (by simpa using hw)) ⟨.bl _,H,I,rfl,?_⟩;rw[show its.toArray.any (fq s.heap dx)=its.any (fq s.heap dx) by simp,h2];exact q ρ H _ (Le.refl _ _) rh (.bl _)
     | true =>
      rcases hsq with hq|hq
      ·obtain⟨its,rv,pl,hz⟩:=I.list hq;obtain⟨h1,h2⟩:=eqs its rv;refine SeqAt.notIn_listAt (fq s.heap dx) pl.isList (fun w hw=>h1 w (by simpa using hw)) ⟨.bl _,H,I,rfl,?_⟩;rw[show its.toArray.any (fq s.heap dx)=its.any (fq s.heap dx) by simp,h2];exact q ρ H _ (Le.refl _ _) rh (.bl _)
      ·obtain⟨its,rv,pl,hz⟩:=I.tuple hq;obtain⟨h1,h2⟩:=eqs its rv;refine SeqAt.notIn_tupleAt (fq s.heap dx) pl (fun w hw=>h1 w (by simpa using hw)) ⟨.bl _,H,I,rfl,?_⟩;rw[show its.toArray.any (fq s.heap dx)=its.any (fq s.heap dx) by simp,h2];exact q ρ H _ (Le.refl _ _) rh (.bl _)
    ·rw[qao hl] at q;exact q.elim
def fList(xs:List PV)(h:MH):Out PV:=match xs with
 | [x]=>(match bF h x with
  | some ys=>newL ys h
  | none=>.bad)
 | _=>.bad
def fTuple(xs:List PV)(h:MH):Out PV:=match xs with
 | [x]=>(match bF h x with
  | some ys=>.ok (.tup ys) h
  | none=>.bad)
 | _=>.bad
def cj_list:cu X (.type "list") fList:=by
 intro Iv s σ H xs us Q I r ⟨ρ,h,ps,rh,rp,q⟩
 cases rp with
 | nil=>exact q.elim
 | cons r1 t1 =>
  cases t1 with
  | cons _ _=>exact q.elim
  | nil =>
   rename_i x y
   unfold fList at q
   cases es:bF h x with
   | none=>simp only[es] at q;exact q.elim
   | some ys =>
    simp only[es] at q;obtain⟨a,zs,rfl,hsq,rzs⟩:=gB rh r1 es;obtain⟨_,q'⟩:=ko rh rzs q;exact qL Iv s σ H _ us Q I r ⟨a,zs,rfl,hsq,q'⟩
def yC:cu X (.type "tuple") fTuple:=by
 intro Iv s σ H xs us Q I r ⟨ρ,h,ps,rh,rp,q⟩
 cases rp with
 | nil=>exact q.elim
 | cons r1 t1 =>
  cases t1 with
  | cons _ _=>exact q.elim
  | nil =>
   rename_i x y
   unfold fTuple at q
   cases es:bF h x with
   | none=>simp only[es] at q;exact q.elim
   | some ys =>
    simp only[es] at q;obtain⟨a,zs,rfl,hsq,rzs⟩:=gB rh r1 es;rcases hsq with hq|hq
    ·refine jA Iv s σ H _ us Q I r ⟨a,zs,rfl,.inl ⟨hq,fun l hl=>?_⟩⟩;obtain⟨r',l'⟩:=rh.tup hl zs;exact q ρ _ _ l' r' (.tup (SqT.of cj) (rzs.le l'))
    ·exact jA Iv s σ H _ us Q I r ⟨a,zs,rfl,.inr ⟨hq,q ρ H _ (Le.refl _ _) rh (.tup hq rzs)⟩⟩
def fg(xs:List PV)(lo hi:Option Int):List PV:=(xs.drop (HT.sIx xs.length 0 lo)).take (HT.sIx xs.length xs.length hi - HT.sIx xs.length 0 lo)
def fSl(x:PV)(lo hi:Option Int)(h:MH):Out PV:=match x with
 | .tup xs=>if HT.sIx xs.length 0 lo=0/\HT.sIx xs.length xs.length hi=xs.length then .bad else .ok (.tup (fg xs lo hi)) h
 | .frl xs=>.ok (.loc h.length) (h++[.lst (fg xs lo hi)])
 | .loc n=>(match h[n]? with
  | some (.lst xs)=>.ok (.loc h.length) (h++[.lst (fg xs lo hi)])
  | _=>.bad)
 | _=>.bad
def slJ(X:Cx)(f:PV->Option Int->Option Int->MH->Out PV):V->Option Int->Option Int->Hp->VK->Prop:=fun x' lo hi H Q=>∃ρ h x,RH X.K X.mg ρ H h/\RP X.K ρ H x x'/\gP X (RV' X) ρ H (f x lo hi h) Q
def nL{K:qaa}{ρ:List Addr}{H:Hp}{xs:List PV}{ys:List V}(r:RPs K ρ H xs ys)(lo hi:Option Int):RPs K ρ H (fg xs lo hi) (lI ys lo hi):=by
 unfold fg lI;rw[r.length];exact (r.drop _).take _
def sj_sl:SlR X (slJ X fSl):=by
 intro Iv s σ H x' v vl vu lo hi sl Q I rx hs pl pu ⟨ρ,h,x,rh,rxx,q⟩
 cases rxx with
 | tup s1 r1 =>
  unfold fSl at q;dsimp only at q
  rename_i xs a ys
  by_cases z:HT.sIx xs.length 0 lo=0/\HT.sIx xs.length xs.length hi=xs.length
  ·rw[qag z] at q;exact q.elim
  ·rw[qao z] at q;refine sl_tup Iv s σ H _ v vl vu lo hi sl Q I rx hs pl pu ⟨a,ys,rfl,s1,by rw[<-r1.length];exact z,fun p hp=>?_⟩;obtain⟨r',l'⟩:=rh.tup hp (lI ys lo hi);exact q ρ _ _ l' r' (.tup (SqT.of cj) ((nL r1 lo hi).le l'))
 | frl s1 r1 =>
  rename_i xs a ys
  refine sn Iv s σ H _ v vl vu lo hi sl Q I rx hs pl pu ⟨a,ys,rfl,s1.sq,fun p hp=>?_⟩;obtain⟨r',l'⟩:=rh.new hp (o:=.lst (fg xs lo hi)) ⟨_,rfl,nL r1 lo hi⟩;exact q _ _ _ l' r' (.loc (by rw[<-rh.len];simp))
 | @loc n a en =>
  obtain⟨o,eo,ro⟩:=rh.obj en;unfold fSl at q;dsimp only at q;rw[eo] at q
  cases o with
  | lst xs =>
   obtain⟨ys,ey,ry⟩:=ro;refine sn Iv s σ H _ v vl vu lo hi sl Q I rx hs pl pu ⟨a,ys,rfl,SqL.of ey,fun p hp=>?_⟩;obtain⟨r',l'⟩:=rh.new hp (o:=.lst (fg xs lo hi)) ⟨_,rfl,nL ry lo hi⟩;exact q _ _ _ l' r' (.loc (by rw[<-rh.len];simp))
  | _=>exact q.elim
 | _=>exact q.elim
def MO'(X:Cx)(e:Option Expr)(m:Mx (Option Int)):Prop:=PO X e (tM X REq m)
def mNo:Mx (Option Int):=fun _ h=>.ok none h
def mPt(m:Mx PV):Mx (Option Int):=fun σ h=>(m σ h).bind fun v h1=>match v with
 | .int i=>.ok (some i) h1
 | _=>.bad
def sE:MO' X none mNo:=fun Iv s σ H Q I ⟨ρ,σp,h,rs,rh,q⟩=>po_none Iv s σ H Q I (q ρ H none (Le.refl _ _) rh rfl)
def sF(h:ME X e m):MO' X (some e) (mPt m):=fun Iv s σ H Q I ⟨ρ,σp,hh,rs,rh,q⟩=>po_some h Iv s σ H Q I ⟨ρ,σp,hh,rs,rh,Ful.bind q fun ρ1 H1 v v' h1 _ l1 rh1 rv q1=>by
 cases rv with
 | int i=>exact⟨i,rfl,q1 ρ1 H1 (some i) (Le.refl _ _) rh1 rfl⟩
 | _=>exact q1.elim⟩
def mSl(m:Mx PV)(ml mh:Mx (Option Int)):Mx PV:=fun σ h=>(m σ h).bind fun x h1=>(ml σ h1).bind fun lo h2=>(mh σ h2).bind fun hi h3=>(fSl x lo hi h3).ne
def me_sl{e:Expr}{lo hi:Option Expr}{m:Mx PV}{ml mh:Mx (Option Int)}{p2:Pos}(he:ME X e m)(hl:MO' X lo ml)(hu:MO' X hi mh):ME X (.Subscript e (.Slice lo hi none p2) pos) (mSl m ml mh) :=
 PE.imp (xK sj_sl he hl hu) fun σ H Q ⟨ρ,σp,h,rs,rh,q⟩=>⟨ρ,σp,h,rs,rh,Ful.bind q fun ρ1 H1 x x' h1 _ l1 rh1 rx q1=>⟨ρ1,σp,h1,rs.le l1,rh1,Ful.bind q1 fun ρ2 H2 lo lo' h2 _ l2 rh2 el q2=>by
  subst el
  exact⟨ρ2,σp,h2,rs.le (l1.trans l2),rh2,Ful.bind q2 fun ρ3 H3 hi hi' h3 _ l3 rh3 eh q3=>by
   subst eh
   exact⟨ρ3,h3,x,rh3,(rx.le l2).le l3,q3.zero⟩⟩⟩⟩
end
section
variable {X:Cx} {N W G:List Str} {k:Nat}
def lw{A:Around}{E:Value->Shared->Prop}{Iv:List (Addr × Obj)}{σ:L2.St}{H:Hp}{s:Shared}{a:Addr}{ys:List V}{Q:Value->Shared->Prop}(hh:A.handled=none)(I:Inv X Iv σ H s)(hq:SqL X.K H a ys\/SqT X.K H a ys)
  (h:∀(its:List Value) (h2:Heap) (It:Addr) (St:Nat->Heap->Prop),aF ys its->Walks X.prog X.w A It [It,a] [It] its.toArray.size (fun i v=>its.toArray[i]?=some v) St->St 0 h2->(∀b∈[It,a],b<h2.objs.size)->(∀b o,s.heap.get? b=some o->h2.get? b=some o)->s.heap.objs.size=It->Q (.ref It) { s with heap:=h2}) :
  wpAny (model X.prog X.w) A (pyIter (.ref a)) Q E s:=by
 have sz:∀(o:Obj),a<s.heap.objs.size->∀b∈[s.heap.objs.size,a],b<(s.heap.push o).objs.size:=fun o hlt b hb=>by
  rw[qbx];rcases qaj.mp hb with rfl|hb
  ·exact qbX _
  ·rcases qaj.mp hb with rfl|hb
   ·exact qbC hlt
   ·cases hb
 rcases hq with hq|hq
 ·obtain⟨its,rv,pl,_⟩:=I.list hq;have hl:=pl.isList;have hlt:a<s.heap.objs.size:=by obtain⟨_,e,_⟩:=hl;exact qas e
  exact wpAny_pyIter_list hl (h its _ _ _ rv (Walks.list hh _ a (qaJ hlt) its.toArray) ⟨⟨_,qaz _ rfl,rfl,rfl⟩,hl.push _⟩ (sz _ hlt) (fun b o e=>qae _ e) rfl)
 ·obtain⟨its,rv,hl,_⟩:=I.tuple hq;have hlt:a<s.heap.objs.size:=by obtain⟨_,e,_⟩:=hl;exact qas e
  exact wpAny_pyIter_tuple hl (h its _ _ _ rv (Walks.tuple hh _ a (qaJ hlt) its.toArray) ⟨⟨_,qaz _ rfl,rfl,rfl⟩,hl.push _⟩ (sz _ hlt) (fun b o e=>qae _ e) rfl)
def uo{s:Shared}{h2 h':Heap}{It:Addr}(k1:∀b o,s.heap.get? b=some o->h2.get? b=some o)(e:s.heap.objs.size=It)(k2:∀b o,b∉[It]->h2.get? b=some o->h'.get? b=some o):∀b o,s.heap.get? b=some o->h'.get? b=some o:=fun b o q=>by
 refine k2 b o (fun hm=>?_) (k1 b o q)
 have:b=It:=by simpa using hm
 exact absurd (qas q) (by rw[this,e];exact qaU _)
def lx:List PV->Option (List Bool)
 | []=>some []
 | .bl b::r=>(lx r).map (b::·)
 | _=>none
def fF:List PV->Option (List Int)
 | []=>some []
 | .int i::r=>(fF r).map (i::·)
 | _=>none
def bls_rel{K:qaa}{ρ:List Addr}{H:Hp}:∀{xs:List PV} {ys:List V} {bs:List Bool} {us:List Value},RPs K ρ H xs ys->aF ys us->lx xs=some bs->us=bs.map Value.bool:=by
 intro xs
 induction xs with
 | nil=>intro ys bs us r v e;cases r;cases v;cases e;rfl
 | cons x xs ih =>
  intro ys bs us r v e
  cases r with
  | cons r1 r2 =>
   cases v with
   | cons v1 v2 =>
    cases r1 with
    | bl b =>
     simp only[lx,qax] at e;obtain⟨bs',e',rfl⟩:=e;rw[ih r2 v2 e',show _=Value.bool b from v1];rfl
    | _=>cases e
def qk{K:qaa}{ρ:List Addr}{H:Hp}:∀{xs:List PV} {ys:List V} {is:List Int} {us:List Value},RPs K ρ H xs ys->aF ys us->fF xs=some is->us.length=is.length/\∀(i:Nat) (u:Value),us[i]?=some u->∃t,u=.int (is.getD i 0) t:=by
 intro xs
 induction xs with
 | nil=>intro ys is us r v e;cases r;cases v;cases e;exact⟨rfl,fun i u h=>by simp at h⟩
 | cons x xs ih =>
  intro ys is us r v e
  cases r with
  | cons r1 r2 =>
   cases v with
   | cons v1 v2 =>
    cases r1 with
    | int b =>
     simp only[fF,qax] at e;obtain⟨is',e',rfl⟩:=e;obtain⟨a,b'⟩:=ih r2 v2 e';obtain⟨t0,rfl⟩:=v1;refine⟨by simp[a],fun i u h=>?_⟩
     cases i with
     | zero=>simp at h;exact⟨t0,by rw[<-h];rfl⟩
     | succ i=>obtain⟨t,e⟩:=b' i u (by simpa using h);exact⟨t,by rw[e];simp⟩
    | _=>cases e
def se(bs:List Bool):TruthOf X.prog X.w A (fun i v=>(bs.map Value.bool).toArray[i]?=some v) (fun i=>bs.getD i false):=fun i v s Q E hP hQ=>by
 have:v=.bool (bs.getD i false):=by
  have hP:(List.map Value.bool bs).toArray[i]?=some v:=hP;rw[qbj,qat,qax] at hP;obtain⟨b,e,rfl⟩:=hP
  simp_all
 subst this;exact wpAny_truthy_bool hQ
def vA(bs:List Bool):(List.range bs.length).all (fun i=>bs.getD i false)=bs.all id:=by
 induction bs with
 | nil=>rfl
 | cons b r ih =>
  rw[qaY,List.range_succ_eq_map,qcv,qcG,qcv,<-ih];rfl
def fAll(xs:List PV)(h:MH):Out PV:=match xs with
 | [x]=>(match (bF h x).bind lx with
  | some bs=>.ok (.bl (bs.all id)) h
  | none=>.bad)
 | _=>.bad
def cj_all(g:Good X N W G k):cu X (.builtin "all") fAll:=by
 intro Iv s σ H xs us Q I r ⟨ρ,h,ps,rh,rp,q⟩
 cases rp with
 | nil=>exact q.elim
 | cons r1 t1 =>
  cases t1 with
  | cons _ _=>exact q.elim
  | nil =>
   rename_i x y
   unfold fAll at q
   cases es:(bF h x).bind lx with
   | none=>simp only[es] at q;exact q.elim
   | some bs =>
    simp only[es] at q;obtain⟨ys,e1,e2⟩:=qaP.mp es;obtain⟨a,zs,rfl,hsq,rzs⟩:=gB rh r1 e1
    cases r with
    | cons ru tu =>
     cases tu;cases ru;refine call_all_walk (lw g.room.hd I hsq fun its h2 It St rv Wk st fp kp esz=>?_);have ei:=bls_rel rzs rv e2;refine⟨It,_,_,_,_,St,_,rfl,Wk,st,by rw[ei];exact se bs,fun h' tk kk=>?_⟩;have el:its.toArray.size=bs.length:=by rw[ei];simp
     rw[el,vA];exact⟨.bl _,H,I.kept (uo kp esz kk),rfl,q ρ H _ (Le.refl _ _) rh (.bl _)⟩
def k7(b:Nat->Nat->Bool)(is:List Int):Int:=is.getD (argBest b (is.length - 1)) 0
def fMaxS(xs:List PV)(h:MH):Out PV:=match xs with
 | [x]=>(match (bF h x).bind fF with
  | some is=>if 0<is.length then .ok (.int (k7 (fun i j=>decide (is.getD i 0>is.getD j 0)) is)) h else .bad
  | none=>.bad)
 | [.int i,.int j]=>.ok (.int (if j>i then j else i)) h
 | _=>.bad
def fMinS(xs:List PV)(h:MH):Out PV:=match xs with
 | [x]=>(match (bF h x).bind fF with
  | some is=>if 0<is.length then .ok (.int (k7 (fun i j=>decide (is.getD i 0<is.getD j 0)) is)) h else .bad
  | none=>.bad)
 | [.int i,.int j]=>.ok (.int (if j<i then j else i)) h
 | _=>.bad
def cj_maxS(g:Good X N W G k):cu X (.builtin "max") fMaxS:=by
 intro Iv s σ H xs us Q I r ⟨ρ,h,ps,rh,rp,q⟩;unfold fMaxS at q
 split at q
 ·rename_i x
  cases rp with
  | cons r1 t1 =>
  cases t1
  cases es:(bF h x).bind fF with
  | none=>simp only[es] at q;exact q.elim
  | some is =>
   simp only[es] at q;by_cases hn:0<is.length
   ·rw[qag hn] at q;obtain⟨ys,e1,e2⟩:=qaP.mp es;obtain⟨a,zs,rfl,hsq,rzs⟩:=gB rh r1 e1
    cases r with
    | cons ru tu =>
     cases tu;cases ru;refine call_max_walk (lw g.room.hd I hsq fun its h2 It St rv Wk st fp kp esz=>?_);obtain⟨el,ei⟩:=qk rzs rv e2;have el':its.toArray.size=is.length:=by exact el
     refine⟨It,_,_,_,_,St,_,rfl,Wk,st,fp,by rw[el'];exact hn,CmpOf.ints_gt (fun i=>is.getD i 0) (fun i v hv=>ei i v (by simpa using hv)),fun v h' tk hP kk=>?_⟩;have hP':=hP;rw[el',qbj] at hP';obtain⟨t,rfl⟩:=ei _ v hP';exact⟨.int _,H,I.kept (uo kp esz kk),⟨t,rfl⟩,q ρ H _ (Le.refl _ _) rh (.int _)⟩
   ·rw[qao hn] at q;exact q.elim
 ·cases rp with
  | cons r1 t1 =>
   cases t1 with
   | cons r2 t2 =>
    cases t2;cases r1;cases r2;exact oJ g.calm Iv s σ H _ us Q I r ⟨_,_,rfl,q ρ H _ (Le.refl _ _) rh (.int _)⟩
 ·exact q.elim
def cj_minS(g:Good X N W G k):cu X (.builtin "min") fMinS:=by
 intro Iv s σ H xs us Q I r ⟨ρ,h,ps,rh,rp,q⟩;unfold fMinS at q
 split at q
 ·rename_i x
  cases rp with
  | cons r1 t1 =>
  cases t1
  cases es:(bF h x).bind fF with
  | none=>simp only[es] at q;exact q.elim
  | some is =>
   simp only[es] at q;by_cases hn:0<is.length
   ·rw[qag hn] at q;obtain⟨ys,e1,e2⟩:=qaP.mp es;obtain⟨a,zs,rfl,hsq,rzs⟩:=gB rh r1 e1
    cases r with
    | cons ru tu =>
     cases tu;cases ru;refine call_min_walk (lw g.room.hd I hsq fun its h2 It St rv Wk st fp kp esz=>?_);obtain⟨el,ei⟩:=qk rzs rv e2;have el':its.toArray.size=is.length:=by exact el
     refine⟨It,_,_,_,_,St,_,rfl,Wk,st,fp,by rw[el'];exact hn,CmpOf.ints_lt (fun i=>is.getD i 0) (fun i v hv=>ei i v (by simpa using hv)),fun v h' tk hP kk=>?_⟩;have hP':=hP;rw[el',qbj] at hP';obtain⟨t,rfl⟩:=ei _ v hP';exact⟨.int _,H,I.kept (uo kp esz kk),⟨t,rfl⟩,q ρ H _ (Le.refl _ _) rh (.int _)⟩
   ·rw[qao hn] at q;exact q.elim
 ·cases rp with
  | cons r1 t1 =>
   cases t1 with
   | cons r2 t2 =>
    cases t2;cases r1;cases r2;exact oM g.calm Iv s σ H _ us Q I r ⟨_,_,rfl,q ρ H _ (Le.refl _ _) rh (.int _)⟩
 ·exact q.elim
end
def RH.loose{K:qaa}{mg:MGl}{ρ:List Addr}{H:Hp}{h:MH}(r:RH K mg ρ H h){p:Addr}(hp:H p=none)(ho:HO):RH K mg ρ (upd H p ho) h/\Le ρ H ρ (upd H p ho):=by
 have hne:∀n a,ρ[n]?=some a->a≠p:=fun n a e z=>by
  obtain⟨o',_,q⟩:=r.obj e;rw[z,hp] at q;exact q.some rfl
 have l:Le ρ H ρ (upd H p ho):=⟨⟨[],by simp⟩,fun a xs e=>by rw[aX (bC e hp)];exact e,fun a ob u e=>by rw[aX (bC e hp)];exact e⟩;exact⟨⟨r.len,r.nd,fun n a o e1 e2=>by rw[aX (hne n a e1)];exact (r.at' n a o e1 e2).le l⟩,l⟩
section
variable {X:Cx} {N W G:List Str} {k:Nat}
def jZ(xs:List PV)(i:Int)(v:PV):List PV :=
 let k:=if i<0 then (i+(xs.length:Int)).toNat else min i.toNat xs.length
 xs.take k++v::xs.drop k
def kS(n:Nat)(vs:List PV)(h:MH):Out PV:=match vs with
 | [.int i,v]=>(match h[n]? with
  | some (.lst xs)=>if (-(2 ^ 63)<=i/\i<2 ^ 63)/\xs.length<sizeLine then .ok .non (h.set n (.lst (jZ xs i v))) else .bad
  | _=>.bad)
 | _=>.bad
def wY:MtR X "list.insert" (mtJ X kS):=by
 intro Iv s σ H x vs v us Q I rx rv ⟨ρ,h,n,a,ps,e,en,rh,rp,q⟩;subst e;obtain⟨o,eo,ro⟩:=rh.obj en;unfold kS at q
 split at q
 ·rename_i i vv
  cases rp with
  | cons r1 t1 =>
   cases t1 with
   | cons r2 t2 =>
    cases t2;cases r1;rw[eo] at q
    cases o with
    | lst xs =>
     dsimp only at q;by_cases hl:(-(2 ^ 63)<=i/\i<2 ^ 63)/\xs.length<sizeLine
     ·rw[qag hl] at q;obtain⟨ys,ey,ry⟩:=ro;cases rx
      cases rv with
      | cons rv1 tv1=>cases tv1 with
       | cons rv2 tv2 =>
        cases tv2
        rename_i v' u1 u2
        obtain⟨t,rfl⟩:=rv1;obtain⟨z,its,nn,r,hlen,e⟩:=I.lstM ey
        let kk:=if i<0 then (i+(its.length:Int)).toNat else min i.toNat its.length
        have rel:RPs X.K ρ H (jZ xs i vv) (ys.take kk++v'::ys.drop kk):=by
         have:(if i<0 then (i+(xs.length:Int)).toNat else min i.toNat xs.length)=kk:=by
          rw[ry.length,hlen]
         unfold jZ;rw[this];exact (ry.take kk).append (.cons r2 (ry.drop kk))
        obtain⟨rh',l'⟩:=rh.put en (o:=.lst (jZ xs i vv)) ⟨_,rfl,rel⟩;refine call_meets PySem.F.slot_list_insert ⟨_,e,rfl⟩ PySem.F.entry_list_insert (PySem.F.args_list_insert_3 _ _ _) (AutoListH.list_insert_list_int_val_1 a its.toArray nn i t u2 (by rw[fitsIndex_both hl.1.1 hl.1.2];simp) (by rw[qap];ext)) ⟨e,?_⟩;have vals:=(r.take kk).append (.cons rv2 (r.drop kk));have hlz:(ys.take kk++v'::ys.drop kk).length<=sizeLine:=by
         rw[<-rel.length];have e1:(jZ xs i vv).length=xs.length+1:=by
          unfold jZ;simp only[qaQ,qaY,qbJ,qbm];ext
         ext
        refine⟨.non,_,I.lset (its':=its.take kk++u2::its.drop kk) ey e ?_ vals hlz,rfl,q ρ _ .non l' rh' .non⟩;simp[kk,List.extract];refine qaW ?_;rw[qbm];exact qah _
     ·rw[qao hl] at q;exact q.elim
    | _=>exact q.elim
 ·exact q.elim
end
end MM
namespace SetT
open PySem PySem.SetTable
def eK(xs:Array Nat):Prop:=∀a b u v:Nat,a<b->xs[a]?=some u->xs[b]?=some v->u<v
def yo(xs:Array Nat)(j:Nat)(hr:eK xs):∀fuel lo hi:Nat,hi - lo<=fuel->lo<=hi->hi<=xs.size ->
  (∀a v,xs[a]?=some v->a<lo->v<j)->(∀a v,xs[a]?=some v->hi<=a->j<=v) ->
  below.go xs j fuel lo hi<=xs.size/\(∀a v,xs[a]?=some v->a<below.go xs j fuel lo hi->v<j) /\
   (∀a v,xs[a]?=some v->below.go xs j fuel lo hi<=a->j<=v):=by
 intro fuel
 induction fuel with
 | zero =>
  intro lo hi h1 h2 h3 h4 h5
  have:lo=hi:=by lia
  subst this;exact⟨h3,h4,h5⟩
 | succ f ih =>
  intro lo hi h1 h2 h3 h4 h5;unfold below.go;by_cases hlt:lo<hi
  ·simp only[hlt,if_true];have hm:(lo+hi) / 2<xs.size:=by lia
   have hg:xs[(lo+hi) / 2]?=some (xs[(lo+hi)/2]'hm):=qbh hm;have hd:xs.getD ((lo+hi) / 2) j=xs[(lo+hi)/2]'hm:=by simp[Array.getD,hm]
   rw[hd];by_cases hc:xs[(lo+hi)/2]'hm<j
   ·simp only[hc,if_true];apply ih
    ·lia
    ·lia
    ·lia
    ·intro a v ha hlt';by_cases he:a=(lo+hi) / 2
     ·subst he;rw[hg] at ha;cases ha;exact hc
     ·have:=hr a ((lo+hi)/2) v _ (by lia) ha hg;lia
    ·exact h5
   ·simp only[hc,if_false];apply ih
    ·lia
    ·lia
    ·lia
    ·exact h4
    ·intro a v ha hle;by_cases he:a=(lo+hi) / 2
     ·subst he;rw[hg] at ha;cases ha;lia
     ·have:=hr ((lo+hi)/2) a _ v (by lia) hg ha;lia
  ·simp only[hlt,if_false]
   have:lo=hi:=by lia
   subst this;exact⟨h3,h4,h5⟩
def dG(xs:Array Nat)(j:Nat)(hr:eK xs) :
  below xs j<=xs.size/\(∀a v,xs[a]?=some v->a<below xs j->v<j)/\(∀a v,xs[a]?=some v->below xs j<=a->j<=v):=by
 apply yo xs j hr
 ·lia
 ·lia
 ·lia
 ·lia
 ·intro a v ha h
  simp_all
def gQ(xs:Array Nat)(i j:Nat)(hr:eK xs)(h:xs[i]?=some j):below xs j=i:=by
 obtain⟨_,h2,h3⟩:=dG xs j hr;by_cases h4:i<below xs j
 ·have:=h2 i j h h4;lia
 ·by_cases h5:below xs j=i
  ·exact h5
  ·have hlt:below xs j<i:=by lia
   have hs:i<xs.size:=by
    grind
   have hg:xs[below xs j]?=some (xs[below xs j]'(by lia)):=qbh (by lia);have h7:=hr _ i _ j hlt hg h;have h8:=h3 _ _ hg (qah _);lia
def Occ(pl:Array Nat)(s:Nat):Prop:=∃i:Nat,pl[i]?=some s
def tE(j:Nat):has (#[]:Array Nat) j=false:=by
 unfold has;simp
def oD(t:SetTable)(hr:eK t.place)(i s:Nat)(h:t.place[i]?=some s):t.slot s=.live i:=by
 unfold SetTable.slot;simp only[gQ t.place i s hr h,h];simp
def uW(t:SetTable)(hd:t.dummies=#[])(s:Nat)(h:¬Occ t.place s):t.slot s=.empty:=by
 unfold SetTable.slot;simp only[hd,tE];split
 ·rename_i h1
  exact absurd ⟨_,by simpa using h1⟩ h
 ·simp
def ci(xs:Array α)(p:Nat)(x:α)(hp:p<=xs.size)(i:Nat) :
  (insertAt xs p x)[i]?=if i<p then xs[i]? else if i=p then some x else xs[i - 1]?:=by
 unfold insertAt;have e1:(xs.extract 0 p).size=p:=by simp;lia
 rw[Array.getElem?_append];simp only[qbk,e1];split
 ·rw[Array.getElem?_push];simp only[e1];split
  ·rename_i h2;subst h2;simp
  ·rw[qbs];lia
 ·have h2:¬i<p:=by lia
  have h3:¬i=p:=by lia
  rw[qbs];have e2:p+(i - (p+1))=i - 1:=by lia
  simp only[e2];split
  ·rfl
  ·rename_i h4
   rw[qcB];simp at h4;lia
def df(xs:Array α)(p:Nat)(x:α)(hp:p<=xs.size):(insertAt xs p x).size=xs.size+1:=by
 unfold insertAt;simp;lia
def qP(f:α->β)(xs:Array α)(p:Nat)(x:α):(insertAt xs p x).map f=insertAt (xs.map f) p (f x):=by
 unfold insertAt;simp
def mY(x M:Nat):x % (M+1)<=M:=Nat.le_of_lt_succ (Nat.mod_lt x (Nat.succ_pos M))
def adv(M:Nat)(p:Probe):Probe :=
 if p.more>0 then { p with j:=p.j+1,more:=p.more - 1} else
 { p with j:=(leap M p.i p.perturb).1,more:=runEnd M (leap M p.i p.perturb).1 - (leap M p.i p.perturb).1,i:=(leap M p.i p.perturb).1,perturb:=(leap M p.i p.perturb).2}
def tZ(t:SetTable)(p:Probe):t.advance p=adv t.mask p:=by
 unfold SetTable.advance adv;rfl
def st0(M:Nat)(h:Int):Probe:={ j:=bits h % (M+1),more:=runEnd M (bits h % (M+1)) - bits h % (M+1),i:=bits h % (M+1),perturb:=bits h,dummy:=none}
def st(M:Nat)(h:Int):Nat->Probe
 | 0=>st0 M h
 | n+1=>adv M (st M h n)
def sl(M:Nat)(h:Int)(n:Nat):Nat:=(st M h n).j
def fL(M i:Nat)(h:i<=M):i<=runEnd M i/\runEnd M i<=M/\runEnd M i - i<=9:=by
 unfold runEnd;split <;> lia
def wu(M:Nat)(h:Int)(n:Nat):(st M h n).i<=M/\(st M h n).j+(st M h n).more=runEnd M (st M h n).i/\(st M h n).dummy=none:=by
 induction n with
 | zero =>
  have hi:bits h % (M+1)<=M:=mY _ _
  have:=fL M _ hi
  refine⟨hi,?_,rfl⟩;show bits h % (M+1)+(runEnd M (bits h % (M+1)) - bits h % (M+1))=runEnd M (bits h % (M+1));lia
 | succ n ih =>
  show (adv M (st M h n)).i<=M/\(adv M (st M h n)).j+(adv M (st M h n)).more=runEnd M (adv M (st M h n)).i/\(adv M (st M h n)).dummy=none;unfold adv;split
  ·lia
  ·have hi:(leap M (st M h n).i (st M h n).perturb).1<=M:=mY _ _
   have:=fL M _ hi
   grind
def sl_le(M:Nat)(h:Int)(n:Nat):sl M h n<=M:=by
 have:=wu M h n
 have h2:=fL M _ this.1;unfold sl;lia
def base(M:Nat)(h:Int):Nat->Nat × Nat
 | 0=>(bits h % (M+1),bits h)
 | b+1=>leap M (base M h b).1 (base M h b).2
def nC(M:Nat)(h:Int)(b:Nat):(base M h b).1<=M:=by
 cases b with
 | zero=>exact mY _ _
 | succ b =>
  exact mY _ _
def tb(M:Nat)(h:Int):Nat->Nat
 | 0=>0
 | b+1=>tb M h b+(runEnd M (base M h b).1 - (base M h b).1)+1
def tb_le(M:Nat)(h:Int)(b:Nat):tb M h b<=10 * b:=by
 induction b with
 | zero=>exact qah _
 | succ b ih =>
  have:=fL M _ (nC M h b)
  show tb M h b+(runEnd M (base M h b).1 - (base M h b).1)+1<=10 * (b+1);lia
def stB(M:Nat)(h:Int)(b k:Nat):Probe :=
 { j:=(base M h b).1+k,more:=runEnd M (base M h b).1 - (base M h b).1 - k,i:=(base M h b).1,perturb:=(base M h b).2,dummy:=none}
def qZ(M:Nat)(h:Int)(b:Nat):∀k,k<=runEnd M (base M h b).1 - (base M h b).1->st M h (tb M h b+k)=stB M h b k:=by
 induction b with
 | zero =>
  intro k
  induction k with
  | zero=>intro _;rfl
  | succ k ih =>
   intro hk;show adv M (st M h (tb M h 0+k))=_;rw[ih (by lia)];unfold adv stB;lia
 | succ b ihb =>
  intro k
  induction k with
  | zero =>
   intro _;show adv M (st M h (tb M h b+(runEnd M (base M h b).1 - (base M h b).1)))=_;rw[ihb _ (qah _)];unfold adv stB;simp;exact⟨rfl,rfl,rfl,rfl⟩
  | succ k ih =>
   intro hk;show adv M (st M h (tb M h (b+1)+k))=_;rw[ih (by lia)];unfold adv stB
   have:runEnd M (base M h (b+1)).1 - (base M h (b+1)).1 - k>0:=by lia
   lia
def bits_lt(h:Int):bits h<2 ^ 64:=by
 unfold bits;lia
def vV(M:Nat)(h:Int):∀b,(base M h b).2=bits h / 32 ^ b:=by
 intro b
 induction b with
 | zero=>simp[base]
 | succ b ih =>
  show (base M h b).2 / 32=_;rw[ih,Nat.div_div_eq_div_mul,Nat.pow_succ]
def ui(M:Nat)(h:Int)(b:Nat)(hb:13<=b):(base M h b).2=0:=by
 rw[vV];apply Nat.div_eq_of_lt;have h1:=bits_lt h;have h2:32 ^ 13<=32 ^ b:=Nat.pow_le_pow_right (by decide) hb;lia
def lcg(M:Nat):Nat->Nat->Nat
 | 0,x=>x
 | n+1,x=>(lcg M n x * 5+1) % (M+1)
def yd(M:Nat)(h:Int)(n:Nat):(base M h (13+n)).1=lcg M n (base M h 13).1:=by
 induction n with
 | zero=>rfl
 | succ n ih =>
  show ((base M h (13+n)).1 * 5+1+(base M h (13+n)).2 / 32) % (M+1)=(lcg M n (base M h 13).1 * 5+1) % (M+1);rw[ih,ui M h (13+n) (by lia)]
def kn(M:Nat)(a b x:Nat):lcg M (a+b) x=lcg M a (lcg M b x):=by
 induction a with
 | zero=>simp[lcg]
 | succ a ih=>rw[Nat.succ_add];show (lcg M (a+b) x * 5+1) % (M+1)=(lcg M a (lcg M b x) * 5+1) % (M+1);rw[ih]
def orb(M:Nat):Nat->Nat->List Nat
 | 0,_=>[]
 | n+1,x=>x::orb M n ((x * 5+1) % (M+1))
def xo(M n x:Nat):lcg M n ((x * 5+1) % (M+1))=lcg M (n+1) x:=by
 have:=kn M n 1 x
 rw[this];rfl
def sI(M:Nat)(s:Nat):∀n x,s∈orb M n x->∃m,m<n/\lcg M m x=s:=by
 intro n
 induction n with
 | zero=>intro x h;cases h
 | succ n ih =>
  intro x h
  cases h with
  | head=>exact⟨0,by lia,rfl⟩
  | tail _ h =>
   obtain⟨m,hm,e⟩:=ih _ h;exact⟨m+1,by lia,by rw[<-e,xo]⟩
def fA(M:Nat):Prop:=lcg M (M+1) 0=0/\∀s,s<=M->s∈orb M (M+1) 0
set_option maxRecDepth 100000 in
theorem full7:fA 7:=⟨by decide,by
 have:∀s:Fin 8,(orb 7 8 0).contains s.val=true:=by decide
 intro s hs;have:=this ⟨s,by lia⟩;simpa using this⟩
set_option maxRecDepth 100000 in
theorem full31:fA 31:=⟨by decide,by
 have:(List.range 32).all (fun s=>(orb 31 32 0).contains s)=true:=by decide
 intro s hs;have h2:=qaX.mp this s (by simp;lia)
 simpa using h2⟩
set_option maxRecDepth 100000 in
theorem full127:fA 127:=⟨by decide,by
 have:(List.range 128).all (fun s=>(orb 127 128 0).contains s)=true:=by decide
 intro s hs;have h2:=qaX.mp this s (by simp;lia)
 simpa using h2⟩
def u7(M:Nat)(hf:fA M)(x s:Nat)(hx:x<=M)(hs:s<=M):∃m,m<=2 * M+1/\m<=M/\lcg M m x=s:=by
 obtain⟨a,ha,ea⟩:=sI M x _ _ (hf.2 x hx);obtain⟨b,hb,eb⟩:=sI M s _ _ (hf.2 s hs);by_cases h:a<=b
 ·refine⟨b - a,by lia,by lia,?_⟩;rw[<-ea,<-kn,Nat.sub_add_cancel h];exact eb
 ·refine⟨M+1 - a+b,by lia,by lia,?_⟩;rw[<-ea,<-kn]
  have:M+1 - a+b+a=b+(M+1):=by lia
  rw[this,kn,hf.1];exact eb
def mV(M:Nat)(hf:fA M)(h:Int)(s:Nat)(hs:s<=M):∃b,b<=M+13/\(base M h b).1=s:=by
 obtain⟨m,_,hm,e⟩:=u7 M hf (base M h 13).1 s (nC M h 13) hs;exact⟨13+m,by lia,by rw[yd];exact e⟩
def yj(M:Nat)(hf:fA M)(h:Int)(s:Nat)(hs:s<=M):∃n,n<=10 * (M+13)/\sl M h n=s:=by
 obtain⟨b,hb,e⟩:=mV M hf h s hs;refine⟨tb M h b,?_,?_⟩
 ·have:=tb_le M h b;lia
 ·have:=qZ M h b 0 (by lia)
  unfold sl;rw[Nat.add_zero] at this;rw[this];show (base M h b).1+0=s;lia
structure WF (M:Nat) (pl:Array Nat) (hs:Array Int):Prop where
 rise:eK pl
 bound:∀i v:Nat,pl[i]?=some v->v<=M
 size:pl.size=hs.size
 reach:∀(i:Nat) (h:Int) (v:Nat),hs[i]?=some h->pl[i]?=some v->∃n,sl M h n=v/\∀m,m<n->Occ pl (sl M h m)
def dM{α:Type}{xs:Array α}{i:Nat}{v:α}(h:xs[i]?=some v):i<xs.size:=by grind
def dz{α:Type}(xs:Array α)(i:Nat)(h:i<xs.size):∃v,xs[i]?=some v:=⟨_,qbh h⟩
def vw(pl:Array Nat)(hr:eK pl)(M:Nat)(h:∀s,s<=M->Occ pl s):∀s i:Nat,s<=M->pl[i]?=some s->s<=i:=by
 intro s
 induction s with
 | zero=>lia
 | succ s ih =>
  intro i hs hi;obtain⟨k,hk⟩:=h s (by lia);have h1:=ih k (by lia) hk;by_cases h2:k<i
  ·lia
  ·by_cases h3:k=i
   ·subst h3;rw[hk] at hi;cases hi
   ·have:=hr i k (s+1) s (by lia) hi hk;lia
def vG(pl:Array Nat)(hr:eK pl)(M:Nat)(hsz:pl.size<=M):∃s,s<=M/\¬Occ pl s:=by
 apply Classical.byContradiction;intro hno;have hall:∀s,s<=M->Occ pl s:=by
  intro s hs
  simp_all
 obtain⟨i,hi⟩:=hall M (qah _)
 have:=vw pl hr M hall M i (qah _) hi
 have:=dM hi
 lia
def least(P:Nat->Prop):∀n,P n->∃m,m<=n/\P m/\∀k,k<m->¬P k:=by
 intro n
 induction n using Nat.strongRecOn with
 | _ n ih =>
  intro hn;by_cases h:∃k,k<n/\P k
  ·obtain⟨k,hk,hp⟩:=h;obtain⟨m,hm,r⟩:=ih k hk hp;exact⟨m,by lia,r⟩
  ·exact⟨n,qah _,hn,fun k hk hp=>h ⟨k,hk,hp⟩⟩
def uv(pl:Array Nat)(hr:eK pl)(M:Nat)(hf:fA M)(hsz:pl.size<=M)(h:Int) :
  ∃n,n<=10 * (M+13)/\¬Occ pl (sl M h n)/\∀m,m<n->Occ pl (sl M h m):=by
 obtain⟨s,hs,hno⟩:=vG pl hr M hsz;obtain⟨n,hn,e⟩:=yj M hf h s hs;obtain⟨m,hm,hp,hl⟩:=least (fun n=>¬Occ pl (sl M h n)) n (by rw[e];exact hno);exact⟨m,by lia,hp,fun k hk=>Classical.byContradiction (hl k hk)⟩
def xE(t:SetTable)(hd:t.dummies=#[])(hr:eK t.place)(hashAt:Nat->Int)(h:Int)(n1:Nat)
  (hno:¬Occ t.place (sl t.mask h n1)) (hocc:∀m,m<n1->Occ t.place (sl t.mask h m)) :
  ∀fuel n,n<=n1->n1 - n<fuel ->
   (probe.go t hashAt h fuel (st t.mask h n)=some (.empty (sl t.mask h n1) none) /\
    ∀m i:Nat,n<=m->m<n1->t.place[i]?=some (sl t.mask h m)->hashAt i≠h) \/
   (∃m i:Nat,n<=m/\m<n1/\t.place[i]?=some (sl t.mask h m)/\hashAt i=h /\
    probe.go t hashAt h fuel (st t.mask h n)=some (.candidate (sl t.mask h m) i (st t.mask h (m+1))) /\
    ∀m' i':Nat,n<=m'->m'<m->t.place[i']?=some (sl t.mask h m')->hashAt i'≠h):=by
 intro fuel
 induction fuel with
 | zero=>intro n h1 h2;lia
 | succ f ih =>
  intro n h1 h2;by_cases he:n=n1
  ·subst he;left;refine⟨?_,fun m i h3 h4=>by lia⟩;unfold probe.go;have hsl:=uW t hd _ hno;unfold sl at hsl;simp only[hsl]
   have:=(wu t.mask h n).2.2
   rw[this];rfl
  ·obtain⟨i,hi⟩:=hocc n (by lia);have hsl:=oD t hr i _ hi;have hu:probe.go t hashAt h (f+1) (st t.mask h n)=if hashAt i == h then some (.candidate (sl t.mask h n) i (st t.mask h (n+1))) else probe.go t hashAt h f (st t.mask h (n+1)):=by
    conv=>lhs;unfold probe.go
    unfold sl at hsl;simp only[hsl,tZ];rfl
   by_cases hh:hashAt i=h
   ·right;refine⟨n,i,qah _,by lia,hi,hh,?_,fun m' i' h3 h4=>by lia⟩;rw[hu];simp[hh]
   ·have hu2:probe.go t hashAt h (f+1) (st t.mask h n)=probe.go t hashAt h f (st t.mask h (n+1)):=by
     rw[hu];simp[hh]
    rw[hu2];have huniq:∀i':Nat,t.place[i']?=some (sl t.mask h n)->i'=i:=by
     intro i' hi';have a:=gQ _ _ _ hr hi;have b:=gQ _ _ _ hr hi';lia
    rcases ih (n+1) (by lia) (by lia) with ⟨r1,r2⟩|⟨m,i2,q1,q2,q3,q4,q5,q6⟩
    ·left;refine⟨r1,?_⟩;intro m i' h3 h4 h5;by_cases h6:m=n
     ·subst h6;rw[huniq i' h5];exact hh
     ·exact r2 m i' (by lia) h4 h5
    ·right;refine⟨m,i2,by lia,q2,q3,q4,q5,?_⟩;intro m' i' h3 h4 h5;by_cases h6:m'=n
     ·subst h6;rw[huniq i' h5];exact hh
     ·exact q6 m' i' (by lia) h4 h5
def nT(pl:Array Nat)(p s:Nat)(hp:p<=pl.size)(x:Nat)(h:Occ pl x):Occ (insertAt pl p s) x:=by
 obtain⟨i,hi⟩:=h;by_cases h1:i<p
 ·exact⟨i,by rw[ci _ _ _ hp];simp[h1,hi]⟩
 ·refine⟨i+1,?_⟩;rw[ci _ _ _ hp];have a:¬i+1<p:=by lia
  have b:¬i+1=p:=by lia
  simp[a,b,hi]
def yM(pl:Array Nat)(s:Nat)(hr:eK pl)(hno:¬Occ pl s):eK (insertAt pl (below pl s) s):=by
 obtain⟨hp,hlo,hhi⟩:=dG pl s hr;intro a b u v hab ha hb;rw[ci _ _ _ hp] at ha hb;have hne:=fun i hi=>hno ⟨i,hi⟩
 split at ha
 ·rename_i h1
  have hu:=hlo a u ha h1
  split at hb
  ·exact hr a b u v hab ha hb
  ·split at hb
   ·cases hb;exact hu
   ·exact hr a (b-1) u v (by lia) ha hb
 ·split at ha
  ·have e1:¬b<below pl s:=by lia
   have e2:¬b=below pl s:=by lia
   simp only[e1,e2,if_false] at hb
   have:=hhi (b-1) v hb (by lia)
   have h4:v≠s:=fun e=>hne (b-1) (by rw[hb,e]);lia
  ·have e1:¬b<below pl s:=by lia
   have e2:¬b=below pl s:=by lia
   simp only[e1,e2] at hb;exact hr (a-1) (b-1) u v (by lia) ha hb
def wf_put(M:Nat)(pl:Array Nat)(hs:Array Int)(w:WF M pl hs)(h:Int)(n:Nat)(hno:¬Occ pl (sl M h n))
  (hocc:∀m,m<n->Occ pl (sl M h m)) :
  WF M (insertAt pl (below pl (sl M h n)) (sl M h n)) (insertAt hs (below pl (sl M h n)) h):=by
 have hp:=(dG pl (sl M h n) w.rise).1;have hp2:below pl (sl M h n)<=hs.size:=by have:=w.size;lia
 refine⟨yM pl _ w.rise hno,?_,?_,?_⟩
 ·intro i v hi;rw[ci _ _ _ hp] at hi
  split at hi
  ·exact w.bound _ _ hi
  ·split at hi
   ·cases hi;exact sl_le M h n
   ·exact w.bound _ _ hi
 ·rw[df _ _ _ hp,df _ _ _ hp2,w.size]
 ·intro i h' v hh hv;rw[ci _ _ _ hp] at hv;rw[ci _ _ _ hp2] at hh
  split at hv
  ·rename_i h1
   simp only[h1] at hh;obtain⟨k,e,r⟩:=w.reach i h' v hh hv;exact⟨k,e,fun m hm=>nT _ _ _ hp _ (r m hm)⟩
  ·rename_i h1
   split at hv
   ·rename_i h2
    simp only[h2] at hh;cases hv;simp at hh;cases hh;exact⟨n,rfl,fun m hm=>nT _ _ _ hp _ (hocc m hm)⟩
   ·rename_i h2
    simp only[h1,h2] at hh;obtain⟨k,e,r⟩:=w.reach (i-1) h' v hh hv;exact⟨k,e,fun m hm=>nT _ _ _ hp _ (r m hm)⟩
def gF(ow:Array (Option Nat))(s:Nat):Prop:=∃i:Nat,ow[s]?=some (some i)
structure LC (M:Nat) (ow:Array (Option Nat)) (k:Nat) (hs:Array Int):Prop where
 size:ow.size=M+1
 own:∀i,i<k->∃j:Nat,ow[j]?=some (some i)
 inj:∀i j j':Nat,ow[j]?=some (some i)->ow[j']?=some (some i)->j=j'
 lt:∀j i:Nat,ow[j]?=some (some i)->i<k
 reach:∀(j i:Nat) (h:Int),ow[j]?=some (some i)->hs[i]?=some h->∃n,sl M h n=j/\∀m,m<n->gF ow (sl M h m)
def js(ow:Array (Option Nat))(s:Nat)(hs:s<ow.size):(ow.getD s (some 0)).isNone=true↔¬gF ow s:=by
 unfold gF
 have:=qbh hs
 simp only[Array.getD,hs,this]
 cases h:ow[s]'hs with
 | none=>simp[h]
 | some v=>simp[h]
def vL(M:Nat)(hf:fA M)(ow:Array (Option Nat))(hsz:ow.size=M+1)(h:Int)(s:Nat)(hs:s<=M)(hno:¬gF ow s) :
  ∀fuel b,M+13<b+fuel->(∀m,m<tb M h b->gF ow (sl M h m)) ->
   ∃n,layClean.free M ow fuel (base M h b).1 (base M h b).2=some (sl M h n)/\¬gF ow (sl M h n)/\∀m,m<n->gF ow (sl M h m):=by
 have tb_mono:∀b c,b<c->tb M h b<tb M h c:=by
  intro b c hbc
  induction c with
  | zero=>lia
  | succ c ih =>
   show tb M h b<tb M h c+(runEnd M (base M h c).1 - (base M h c).1)+1;by_cases e:b=c
   ·subst e;lia
   ·have:=ih (by lia);lia
 intro fuel
 induction fuel with
 | zero =>
  intro b hb hocc;obtain⟨b',hb',e⟩:=mV M hf h s hs;have h1:=tb_mono b' b (by lia);have h2:=hocc _ h1;have h3:=qZ M h b' 0 (by lia);rw[Nat.add_zero] at h3;unfold sl at h2;rw[h3] at h2
  have:(stB M h b' 0).j=s:=by show (base M h b').1+0=s;lia
  rw[this] at h2;exact absurd h2 hno
 | succ f ih =>
  intro b hb hocc;have hbl:=nC M h b;have hre:=fL M _ hbl;have hrun:∀k,k<=runEnd M (base M h b).1 - (base M h b).1->sl M h (tb M h b+k)=(base M h b).1+k:=by
   intro k hk;unfold sl;rw[qZ M h b k hk];rfl
  unfold layClean.free
  cases hfi:(List.range (runEnd M (base M h b).1+1 - (base M h b).1)).find? fun k=>(ow.getD ((base M h b).1+k) (some 0)).isNone with
  | some k =>
   rw[List.find?_range_eq_some] at hfi;obtain⟨p1,p2,p3⟩:=hfi;have hk:k<runEnd M (base M h b).1+1 - (base M h b).1:=by simpa using p2
   refine⟨tb M h b+k,?_,?_,?_⟩
   ·rw[hrun k (by lia)]
   ·rw[hrun k (by lia)];exact (js ow _ (by lia)).mp p1
   ·intro m hm;by_cases h1:m<tb M h b
    ·exact hocc m h1
    ·have e:m=tb M h b+(m - tb M h b):=by lia
     rw[e,hrun _ (by lia)];have h2:=p3 (m - tb M h b) (by lia);have h3:=js ow ((base M h b).1+(m - tb M h b)) (by lia);apply Classical.byContradiction;intro hc;rw[h3.mpr hc] at h2;simp at h2
  | none =>
   rw[List.find?_range_eq_none] at hfi;have hall:∀m,m<tb M h (b+1)->gF ow (sl M h m):=by
    intro m hm;by_cases h1:m<tb M h b
    ·exact hocc m h1
    ·have hm':m<tb M h b+(runEnd M (base M h b).1 - (base M h b).1)+1:=hm;have e:m=tb M h b+(m - tb M h b):=by lia
     rw[e,hrun _ (by lia)];have h2:=hfi (m - tb M h b) (by lia);have h3:=js ow ((base M h b).1+(m - tb M h b)) (by lia);apply Classical.byContradiction;intro hc;rw[h3.mpr hc] at h2;simp at h2
   exact ih (b+1) (by lia) hall
def lc_free(M:Nat)(ow:Array (Option Nat))(k:Nat)(hs:Array Int)(c:LC M ow k hs)(hk:k<=M):∃s,s<=M/\¬gF ow s:=by
 apply Classical.byContradiction;intro hno;have hall:=fun s hs=>Classical.byContradiction (fun h=>hno ⟨s,hs,h⟩);have hget:∀s,s<=M->ow[s]?=some (some ((ow.getD s none).getD 0)):=by
  intro s hs;obtain⟨i,hi⟩:=hall s hs
  simp_all
 have hnd:((List.range (M+1)).map (fun s=>(ow.getD s none).getD 0)).Nodup:=by
  unfold List.Nodup;rw[qch];apply List.Pairwise.imp_of_mem _ qcy;intro a b ha hb hab e;have h1:=hget a (by simp at ha;lia);have h2:=hget b (by simp at hb;lia);rw[<-e] at h2;exact hab (c.inj _ _ _ h1 h2)
 have hsub:((List.range (M+1)).map (fun s=>(ow.getD s none).getD 0)) ⊆ List.range k:=by
  intro x hx;obtain⟨s,hs,e⟩:=qaC.mp hx;have h1:=hget s (by simp at hs;lia)
  have:=c.lt _ _ h1
  rw[e] at this;simpa using this
 have:=List.Nodup.length_le_of_subset hnd hsub
 simp at this;lia
def lc_step(M:Nat)(hf:fA M)(ow:Array (Option Nat))(k:Nat)(hs:Array Int)(c:LC M ow k hs)(hk:k<=M)(h:Int)(hh:hs[k]?=some h) :
  ∃j,layClean.free M ow (turns M) (bits h % (M+1)) (bits h)=some j/\LC M (ow.setIfInBounds j (some k)) (k+1) hs:=by
 obtain⟨s,hs1,hs2⟩:=lc_free M ow k hs c hk;obtain⟨n,e,hno,hocc⟩:=vL M hf ow c.size h s hs1 hs2 (turns M) 0 (by unfold turns;lia) (by intro m hm;exact absurd hm (Nat.not_lt_zero m));refine⟨sl M h n,e,?_⟩;have hj:=sl_le M h n;have hjs:sl M h n<ow.size:=by have:=c.size;lia
 have hget:∀s:Nat,(ow.setIfInBounds (sl M h n) (some k))[s]?=if s=sl M h n then some (some k) else ow[s]?:=by
  intro s;by_cases e:sl M h n=s
  ·subst e;simp[hjs]
  ·have e2:¬s=sl M h n:=fun x=>e x.symm;simp[e,e2]
 have hmono:∀s,gF ow s->gF (ow.setIfInBounds (sl M h n) (some k)) s:=by
  intro s ⟨i,hi⟩;by_cases e:s=sl M h n
  ·exact⟨k,by rw[hget];simp[e]⟩
  ·exact⟨i,by rw[hget];simp[e,hi]⟩
 refine⟨by simp[c.size],?_,?_,?_,?_⟩
 ·intro i hi;by_cases e:i=k
  ·subst e;exact⟨sl M h n,by rw[hget];simp⟩
  ·obtain⟨j,hj⟩:=c.own i (by lia);refine⟨j,?_⟩;rw[hget]
   have:¬j=sl M h n:=fun e=>hno ⟨i,by rw[<-e];exact hj⟩
   simp[this,hj]
 ·intro i j j' h1 h2;rw[hget] at h1 h2;by_cases e1:j=sl M h n <;> by_cases e2:j'=sl M h n
  ·rw[e1,e2]
  ·simp[e1] at h1;simp[e2] at h2
   have:=c.lt _ _ h2;lia
  ·simp[e1] at h1;simp[e2] at h2
   have:=c.lt _ _ h1;lia
  ·simp[e1] at h1;simp[e2] at h2;exact c.inj _ _ _ h1 h2
 ·intro j i h1;rw[hget] at h1;by_cases e1:j=sl M h n
  ·simp[e1] at h1;lia
  ·simp[e1] at h1;have:=c.lt _ _ h1;lia
 ·intro j i h' h1 h2;rw[hget] at h1;by_cases e1:j=sl M h n
  ·simp[e1] at h1;subst h1;rw[hh] at h2;cases h2;exact⟨n,e1.symm,fun m hm=>hmono _ (hocc m hm)⟩
  ·simp[e1] at h1;obtain⟨n',e',r⟩:=c.reach _ _ _ h1 h2;exact⟨n',e',fun m hm=>hmono _ (r m hm)⟩
def lc_nil(M:Nat)(hs:Array Int):LC M (Array.replicate (M+1) none) 0 hs:=by
 have hget:∀(s i:Nat),(Array.replicate (M+1) (none:Option Nat))[s]?≠some (some i):=by
  intro s i h;rw[Array.getElem?_replicate] at h
  split at h <;> cases h
 exact⟨by simp,fun i hi=>by lia,fun i j j' h=>absurd h (hget _ _),fun j i h=>absurd h (hget _ _),fun j i h h1=>absurd h1 (hget _ _)⟩
def pc(M:Nat)(hf:fA M)(hs:Array Int)(hsz:hs.size<=M):∀(l:List Int) (ow:Array (Option Nat)) (k:Nat),
  LC M ow k hs->(∀q:Nat,l[q]?=hs[k+q]?)->k<=hs.size ->
  ∃ow',(l.foldl (init:=some (ow,k)) fun acc h=>do
   let (owner,k) <-acc
   let j <-layClean.free M owner (turns M) (bits h % (M+1)) (bits h)
   pure (owner.setIfInBounds j (some k),k+1))=some (ow',hs.size)/\LC M ow' hs.size hs:=by
 intro l
 induction l with
 | nil =>
  intro ow k c hl hk
  have:=hl 0
  simp at this;have hk2:k=hs.size:=by lia
  subst hk2;exact⟨ow,rfl,c⟩
 | cons h l ih =>
  intro ow k c hl hk;have h0:=hl 0;have hlt:=dM h0.symm;obtain⟨j,e,c'⟩:=lc_step M hf ow k hs c (by lia) h h0.symm
  obtain⟨ow',e2,c2⟩:=ih (ow.setIfInBounds j (some k)) (k+1) c' (by
   intro q
   have:=hl (q+1)
   simp at this
   lia) (by lia)
  refine⟨ow',?_,c2⟩;rw[<-e2];simp[e]
def rS(M:Nat)(hf:fA M)(hs:Array Int)(hsz:hs.size<=M):∃ow,layClean M hs=some ow/\LC M ow hs.size hs:=by
 obtain⟨ow,e,c⟩:=pc M hf hs hsz hs.toList _ 0 (lc_nil M hs) (by simp) (by lia);refine⟨ow,?_,c⟩;unfold layClean
 simp_all
def rise_of{L:List Nat}(h:L.Pairwise (·<·)):eK L.toArray:=by
 intro a b u v hab ha hb;simp at ha hb;obtain⟨ha1,ha2⟩:=qad.mp ha;obtain⟨hb1,hb2⟩:=qad.mp hb;rw[<-ha2,<-hb2];exact qbi.mp h a b ha1 hb1 hab
def d8{α β:Type}(f:α->Option β):∀(l:List α),(∀x,x∈l->∃v,f x=some v)->∀q:Nat,(l.filterMap f)[q]?=l[q]?.bind f:=by
 intro l
 induction l with
 | nil=>intro _ q;simp
 | cons x l ih =>
  intro h q;obtain⟨v,hv⟩:=h x (by simp);rw[qbZ,hv]
  cases q with
  | zero=>simp[hv]
  | succ q=>exact ih (fun y hy=>h y (by simp[hy])) q
def jd{α:Type}(es:Array α):(List.range es.size).filterMap (es[·]?)=es.toList:=by
 apply qbD;intro q;rw[d8 _ _ (by intro x hx;exact dz es x (by simpa using hx))];by_cases h:q<es.size
 ·rw[List.getElem?_range h];simp
 ·rw[qaT (by simp;lia)];simp;lia
def laid_ok{α:Type}(M:Nat)(hf:fA M)(hsh:α->Int)(es:Array α)(hsz:es.size<=M)(fin mv:Nat)(led pln:Bool) :
  ∃pl order,laid M fin mv led pln (es.map hsh)=some ({ mask:=M,place:=pl,dummies:=#[],finger:=fin,led:=led,moves:=mv,plain:=pln},order) /\
   WF M pl ((order.filterMap (es[·]?)).map hsh)/\(order.filterMap (es[·]?)).size=es.size/\(order.filterMap (es[·]?)).toList.Perm es.toList /\
   order.toList.Perm (List.range es.size):=by
 obtain⟨ow,e,c⟩:=rS M hf (es.map hsh) (by simpa using hsz);have hn:(es.map hsh).size=es.size:=by simp
 let f:Nat->Option (Nat × Nat):=fun j=>(ow.getD j none).map (j,·)
 let live:=(List.range (M+1)).filterMap f
 have hf1:∀j b,f j=some b↔(b.1=j/\ow[j]?=some (some b.2)):=by
  intro j b;show (ow.getD j none).map (j,·)=some b↔_;by_cases hj:j<ow.size
  ·have:ow[j]?=some (ow[j]'hj):=qbh hj
   simp only[Array.getD,hj,dite_true,this]
   cases h:ow[j]'hj with
   | none=>simp[h]
   | some v =>
    simp[h];constructor
    ·intro e;subst e;simp
    ·rintro⟨e1,e2⟩;cases b;simp_all
  ·simp[Array.getD,hj]
 have hmem:∀b:Nat × Nat,b∈live↔ow[b.1]?=some (some b.2):=by
  intro b;rw[qcb];constructor
  ·rintro⟨j,_,hj⟩;obtain⟨e1,e2⟩:=(hf1 j b).mp hj;rw[e1];exact e2
  ·intro h;refine⟨b.1,?_,(hf1 b.1 b).mpr ⟨rfl,h⟩⟩
   have:=dM h
   have:=c.size
   simp;lia
 have hpw:live.Pairwise (fun a b=>a.1<b.1):=by
  show ((List.range (M+1)).filterMap f).Pairwise _;rw[List.pairwise_filterMap];apply List.Pairwise.imp _ (List.pairwise_lt_range (n:=M+1));intro a b hab x hx y hy;rw[((hf1 _ _).mp hx).1,((hf1 _ _).mp hy).1];exact hab
 have hnd:(live.map (·.2)).Nodup:=by
  unfold List.Nodup;rw[qch];apply List.Pairwise.imp_of_mem _ hpw;intro a b ha hb hab e;have h1:=(hmem a).mp ha;have h2:=(hmem b).mp hb;have e':a.2=b.2:=e;rw[<-e'] at h2
  have:=c.inj _ _ _ h1 h2
  lia
 have hperm:(live.map (·.2)).Perm (List.range es.size):=by
  rw[List.perm_ext_iff_of_nodup hnd qcy];intro i;rw[qaC];constructor
  ·rintro⟨b,hb,e⟩
   have:=c.lt _ _ ((hmem b).mp hb)
   rw[e] at this;simpa using this
  ·intro hi;obtain⟨j,hj⟩:=c.own i (by simpa using hi);exact⟨(j,i),(hmem (j,i)).mpr hj,rfl⟩
 have hes:((live.map (·.2)).filterMap (es[·]?)).Perm es.toList:=by
  have:=hperm.filterMap (es[·]?)
  rw[jd] at this;exact this
 have htl:((live.map (·.2)).toArray.filterMap (es[·]?)).toList=(live.map (·.2)).filterMap (es[·]?):=by simp
 have hsome:∀x,x∈live.map (·.2)->∃v,es[x]?=some v:=by
  intro x hx
  have:=hperm.mem_iff.mp hx
  exact dz es x (by simpa using this)
 refine⟨(live.map (·.1)).toArray,(live.map (·.2)).toArray,?_,?_,?_,?_,?_⟩
 ·unfold laid;rw[e];rfl
 ·refine⟨rise_of (by rw[qch];exact hpw),?_,?_,?_⟩
  ·intro i v hi;simp at hi;obtain⟨b,hb⟩:=hi;have h1:=(hmem _).mp (qaL hb);have h2:=dM h1
   have:=c.size
   have h3:v<ow.size:=h2;lia
  ·have h1:=hes.length_eq;have h2:(((live.map (·.2)).toArray.filterMap (es[·]?)).map hsh).size=((live.map (·.2)).filterMap (es[·]?)).length:=by
    rw[Array.size_map,<-qaH,htl]
   rw[h2,h1]
   have:=hperm.length_eq
   simp at this ⊢;exact this
  ·intro i h v hh hv;simp at hv;obtain⟨b,hb⟩:=hv;have h1:=(hmem _).mp (qaL hb);have h3:((live.map (·.2)).toArray.filterMap (es[·]?))[i]?=es[b]?:=by
    rw[<-qay,htl,d8 _ _ hsome];simp[hb]
   rw[Array.getElem?_map,h3] at hh;obtain⟨n,en,r⟩:=c.reach v b h h1 (by rw[Array.getElem?_map];exact hh);refine⟨n,en,?_⟩;intro m hm;obtain⟨i',hi'⟩:=r m hm;have h5:=(hmem (sl M h m,i')).mpr hi';have h6:sl M h m∈live.map (·.1):=qaC.mpr ⟨_,h5,rfl⟩;obtain⟨q,hq⟩:=qaA.mp h6;exact⟨q,by simpa using hq⟩
 ·rw[<-qaH,htl,hes.length_eq];simp
 ·rw[htl];exact hes
 ·exact hperm
section
variable {prog:Program} {w:World} {A:Around} {E:Value→Shared→Prop} {s:Shared}
abbrev TK(prog:Program)(w:World)(h:Heap)(k:List Int)(a:Addr):Prop:=IsTupleKey (intKind prog w) h k a
abbrev TH(prog:Program)(w:World)(k:List Int):Int:=tupleKeyHash (intKind prog w) k
def ItemsAre.ints(h:ItemsAre (intKind prog w) ks vs):∀v∈vs,∃i t,v=.int i t:=by
 induction h with
 | nil=>intro v hv;cases hv
 | @cons k v ks vs h1 _ ih =>
  intro u hu
  cases hu with
  | head =>
   cases v with
   | int i t=>exact⟨i,t,rfl⟩
   | _=>simp[intKind,Value.isInt] at h1
  | tail _ hu=>exact ih u hu
def iW(hk:TK prog w s.heap ks a)(h:Q true s):wpAny (model prog w) A (hashByValue 8 (.ref a)) Q E s:=by
 have hT:=hk.typeIs;obtain⟨o,items,n,ho,_,hd,hi⟩:=hk;refine qab (wpAny_specialOf hT F.slot_tuple_hash.lookup ?_);refine qab (wpAny_seqItems ho hd ?_);refine qab ?_;rw[<-Array.forIn_toList];refine wpAny_forIn_list _ (fun rest r s'=>r.1=none/\s'=s/\∀v∈rest,∃i t,v=Value.int i t) _ ?_ ?_ _ _ ⟨rfl,rfl,ItemsAre.ints hi⟩
 ·rintro v rest r s' ⟨hr,rfl,hall⟩;obtain⟨i,t,rfl⟩:=hall v qaM;exact qak ⟨rfl,rfl,fun u hu'=>hall u (qaf _ hu')⟩
 ·rintro⟨r1,r2⟩ s' ⟨hr,rfl,_⟩;subst hr;exact qak h
def fR(hk:TK prog w s.heap ks a)(h:Q false s):wpAny (model prog w) A (ofAClassStatement 8 (.ref a)) Q E s:=by
 have hT:=hk.typeIs;obtain⟨o,items,n,ho,_,hd,hi⟩:=hk;unfold ofAClassStatement;refine qab (wpAny_typeOf hT ?_);refine qab ?_;refine qak ?_;refine qab (wpAny_seqItems ho hd ?_);refine qab ?_;rw[<-Array.forIn_toList];refine wpAny_forIn_list _ (fun rest r s'=>r.1=none/\s'=s/\∀v∈rest,∃i t,v=Value.int i t) _ ?_ ?_ _ _ ⟨rfl,rfl,ItemsAre.ints hi⟩
 ·rintro v rest r s' ⟨hr,rfl,hall⟩;obtain⟨i,t,rfl⟩:=hall v qaM;exact qak ⟨rfl,rfl,fun u hu'=>hall u (qaf _ hu')⟩
 ·rintro⟨r1,r2⟩ s' ⟨hr,rfl,_⟩;subst hr;exact qak h
def oj{k:List Int}{a:Addr}{stored:List Value}{Q:Bool->Shared->Prop}(hk:TK prog w s.heap k a)(hall:∀v∈stored,∃b k',v=.ref b/\TK prog w s.heap k' b)
  (h:Q false s):wpAny (model prog w) A (searchCouldBeSeen (.ref a) stored) Q E s:=by
 refine qab ?_;refine wpAny_forIn_list _ (fun rest r s'=>r.1=none/\s'=s/\∀v∈rest,∃b k',v=Value.ref b/\TK prog w s.heap k' b) _ ?_ ?_ _ _ ⟨rfl,rfl,hall⟩
 ·rintro v rest r s' ⟨hr,rfl,hall⟩;obtain⟨b,k',rfl,hb⟩:=hall v qaM;have hrest:=fun u hu'=>hall u (qaf _ hu');by_cases hab:(a == b || (carriedByValue (.ref a) && carriedByValue (.ref b)))=true
  ·rw[qag hab];exact qak ⟨rfl,rfl,hrest⟩
  ·rw[qao hab];refine qab (wpAny_eqIsQuiet_tuple hk ?_);refine qab (wpAny_eqIsQuiet_tuple hb ?_);refine qab (fR hk ?_);refine qab (fR hb ?_);exact qak ⟨rfl,rfl,hrest⟩
 ·rintro⟨r1,r2⟩ s' ⟨hr,rfl,_⟩;subst hr;exact qak h
def fW(prog:Program)(w:World)(P:Addr->Prop)(h:Heap)(es:Array (Int × Value))(ks:List (List Int)):Prop :=
 es.size=ks.length/\∀(i:Nat) (e:Int × Value) (k:List Int),es[i]?=some e->ks[i]?=some k->∃a,e.2=.ref a/\TK prog w h k a/\e.1=TH prog w k/\P a
def fW.at'{P:Addr->Prop}{h:Heap}{es:Array (Int × Value)}{ks:List (List Int)}(x:fW prog w P h es ks){i:Nat}{e:Int × Value}(he:es[i]?=some e) :
  ∃k a,ks[i]?=some k/\e.2=.ref a/\TK prog w h k a/\e.1=TH prog w k:=by
 have hl:=dM he
 have:i<ks.length:=by rw[<-x.1];exact hl
 obtain⟨a,r1,r2,r3,_⟩:=x.2 i e ks[i] he (by simp);exact⟨ks[i],a,by simp,r1,r2,r3⟩
def fW.key{P:Addr->Prop}{h:Heap}{es:Array (Int × Value)}{ks:List (List Int)}(x:fW prog w P h es ks){i:Nat}{k:List Int}(hk:ks[i]?=some k) :
  ∃e a,es[i]?=some e/\e.2=.ref a/\TK prog w h k a/\e.1=TH prog w k:=by
 have hl:i<es.size:=by rw[x.1];exact (qad.mp hk).1
 obtain⟨e,he⟩:=dz es i hl;obtain⟨a,r1,r2,r3,_⟩:=x.2 i e k he hk;exact⟨e,a,he,r1,r2,r3⟩
def vn{P:Addr->Prop}{S:Addr}{o:Obj}{es:Array (Int × Value)}{ep:Nat}{t:SetTable}{ks:List (List Int)}{k:List Int}{a:Addr}{n1:Nat}{Q:SetFound->Shared->Prop}
  (hu:A.units<cLine) (ho:s.heap.get? S=some o) (hd:o.data=.set es ep t) (hf:t.fits es.size=true) (hdm:t.dummies=#[]) (hodd:t.gaveWay=false)
  (W:WF t.mask t.place (es.map (·.1))) (hes:fW prog w P s.heap es ks) (hk:TK prog w s.heap k a)
  (hno:¬Occ t.place (sl t.mask (TH prog w k) n1)) (hocc:∀m,m<n1->Occ t.place (sl t.mask (TH prog w k) m)) (hn1:n1<10 * turns t.mask)
  (h1:k∈ks->Q (.there none) s) (h2:k∉ks->Q (.free (sl t.mask (TH prog w k) n1) false) s) :
  ∀(fuel n:Nat) (stand:Option Probe),stand.getD (t.probeStart (TH prog w k))=st t.mask (TH prog w k) n->n<=n1->n1 - n<fuel ->
   (∀(m i:Nat),m<n->t.place[i]?=some (sl t.mask (TH prog w k) m)->ks[i]?≠some k) ->
   wpAny (model prog w) A (setSearchFrom S (.ref a) (TH prog w k) true fuel stand) Q E s:=by
 intro fuel
 induction fuel with
 | zero=>intro n stand _ _ h;lia
 | succ f ih =>
  intro n stand hst hn hfu hpast;unfold setSearchFrom;refine qab (wpAny_setState_of ho hd hf ?_);dsimp only;rw[hodd];simp only[qac,if_false];rw[hst];have hpr:=xE t hdm W.rise (fun i=>(es[i]?.map (·.1)).getD 0) (TH prog w k) n1 hno hocc (10 * turns t.mask) n hn (by lia);have hwhere:∀i:Nat,ks[i]?=some k->∃m,m<n1/\t.place[i]?=some (sl t.mask (TH prog w k) m):=by
   intro i hi;obtain⟨e,b,he,_,_,hh⟩:=hes.key hi;have hl:i<t.place.size:=by
    have:=W.size;simp at this;rw[this];exact dM he
   obtain⟨v,hv⟩:=dz t.place i hl;obtain⟨m,em,hm⟩:=W.reach i (TH prog w k) v (by simp[he,hh]) hv;refine⟨m,?_,by rw[em];exact hv⟩;by_cases hlt:m<n1
   ·exact hlt
   ·exfalso;by_cases he2:m=n1
    ·subst he2;exact hno ⟨i,by rw[em];exact hv⟩
    ·exact hno (hm n1 (by lia))
  rcases hpr with ⟨e1,e2⟩|⟨m,i,q1,q2,q3,q4,q5,q6⟩
  ·have e1':t.probe (fun i=>(es[i]?.map (·.1)).getD 0) (TH prog w k) (st t.mask (TH prog w k) n)=some (.empty (sl t.mask (TH prog w k) n1) none):=e1;erw [e1'];dsimp only;refine qak (h2 fun hmem=>?_);obtain⟨i,hi⟩:=qaA.mp hmem;obtain⟨m,hm,hp⟩:=hwhere i hi;by_cases hmn:m<n
   ·exact hpast m i hmn hp hi
   ·obtain⟨e,b,he,_,_,hh⟩:=hes.key hi;exact e2 m i (by lia) hm hp (by simp[he,hh])
  ·have e1':t.probe (fun i=>(es[i]?.map (·.1)).getD 0) (TH prog w k) (st t.mask (TH prog w k) n)=some (.candidate (sl t.mask (TH prog w k) m) i (st t.mask (TH prog w k) (m+1))):=q5;erw [e1'];dsimp only;have hil:i<es.size:=by
    have:=W.size;simp at this;rw[<-this];exact dM q3
   obtain⟨e,he⟩:=dz es i hil;obtain⟨k',b,hk',eb,hb,hh⟩:=hes.at' he;obtain⟨eh,ev⟩:=e;simp only at eb hh;subst eb
   have hgo:wpAny (model prog w) A (do
     let some (_,y):=es[i]? | unsupported "internal:set-entry"
     let equal <-holding [y] (eqBool y (.ref a))
     let (es',_,t') <-setState S
     if true && equal then return .there none
     let some same:=t'.sameMemory t.moves t.mask|unsupported "set.changed-during-lookup:is-the-new-block-at-the-old-address"
     let still <-match (if same then t'.slot (sl t.mask (TH prog w k) m) else .empty) with
      | .live i'=>match es'[i']? with
       | some (_,y')=>do pure (if <-isSame y' y then some i' else none)
       | none=>pure none
      | _=>pure none
     match still with
     | none=>rule "set.search.anew";setSearchFrom S (.ref a) (TH prog w k) true f none
     | some i'=>if equal then return .there (some i') else setSearchFrom S (.ref a) (TH prog w k) true f (some (st t.mask (TH prog w k) (m+1)))) Q E s:=by
    rw[he];dsimp only;refine qab (wpAny_holding (wpAny_eqBool_tuple hu hb hk ?_));refine qab (wpAny_setState_of ho hd hf ?_);dsimp only;by_cases hkk:k'=k
    ·subst hkk;simp only[decide_true,Bool.and_self,if_true];exact qak (h1 (qaA.mpr ⟨i,hk'⟩))
    ·simp only[hkk,decide_false,qci,qac,if_false];have hsm:t.sameMemory t.moves t.mask=some true:=by unfold SetTable.sameMemory;simp
     rw[hsm];simp only[if_true];rw[oD t W.rise i _ q3];dsimp only;rw[he];dsimp only;refine qab (wpAny_isSame_ref_self ?_);simp only[if_true];refine qab (qak ?_);dsimp only;refine ih (m+1) _ rfl (by lia) (by lia) ?_;intro m' i' hm' hp' hki;by_cases hm2:m'<n
     ·exact hpast m' i' hm2 hp' hki
     ·by_cases hm3:m'<m
      ·obtain⟨e,b,he,_,_,hh⟩:=hes.key hki;exact q6 m' i' (by lia) hm3 hp' (by simp[he,hh])
      ·have:m'=m:=by lia
       subst this;have a1:=gQ _ _ _ W.rise q3;have a2:=gQ _ _ _ W.rise hp'
       have:i'=i:=by lia
       subst this;rw[hk'] at hki;exact hkk (Option.some.inj hki)
   cases hled:t.led with
   | true =>
    simp only[qaI,qac,if_false];exact hgo
   | false =>
    simp only[qbb,if_true];refine qab (oj hk ?_ ?_)
    ·intro v hv;obtain⟨e,he',rfl⟩:=qaC.mp hv;have he2:e∈es.toList:=by
      have:e∈es.filter (fun x=>x.1 == TH prog w k):=Array.mem_toList_iff.mp he'
      exact Array.mem_toList_iff.mpr (Array.mem_filter.mp this).1
     obtain⟨q,hq⟩:=qaA.mp he2;obtain⟨k2,b2,_,e2,h2,_⟩:=hes.at' (i:=q) (e:=e) (by simpa using hq);exact⟨b2,k2,e2,h2⟩
    ·simp only[qac,if_false];exact hgo
structure TTab (prog:Program) (w:World) (P:Addr->Prop) (h:Heap) (S:Addr) (led:Bool) (o:Obj) (es:Array (Int × Value)) (ep:Nat) (t:SetTable) (ks:List (List Int)):Prop where
 get:h.get? S=some o
 ex:o.ExactSet
 data:o.data=.set es ep t
 dm:t.dummies=#[]
 mask:t.mask=7\/t.mask=31\/t.mask=127
 plain:t.plain=true
 led':t.led=led
 wf:WF t.mask t.place (es.map (·.1))
 ents:fW prog w P h es ks
def kh(t:SetTable)(n:Nat):Prop:=n * 5<t.mask * 3
def dq(prog:Program)(w:World)(P:Addr->Prop)(h:Heap)(S:Addr)(led:Bool)(ks:List (List Int)):Prop :=
 ∃o es ep t ks',TTab prog w P h S led o es ep t ks'/\kh t es.size/\ks'.Perm ks/\ks.Nodup
def sK(h:M=7\/M=31\/M=127):fA M:=by
 rcases h with h|h | h <;> subst h
 ·exact full7
 ·exact full31
 ·exact full127
def TTab.size{P:Addr->Prop}{h:Heap}{S:Addr}{led:Bool}{o:Obj}{es:Array (Int × Value)}{ep:Nat}{t:SetTable}{ks:List (List Int)}(x:TTab prog w P h S led o es ep t ks):t.place.size=es.size:=by
 have:=x.wf.size;simpa using this
def TTab.fits{P:Addr->Prop}{h:Heap}{S:Addr}{led:Bool}{o:Obj}{es:Array (Int × Value)}{ep:Nat}{t:SetTable}{ks:List (List Int)}(x:TTab prog w P h S led o es ep t ks)(hr:es.size<=t.mask):t.fits es.size=true:=by
 unfold SetTable.fits SetTable.fill
 have:=x.size
 simp[this,x.dm];exact hr
def TTab.odd{P:Addr->Prop}{h:Heap}{S:Addr}{led:Bool}{o:Obj}{es:Array (Int × Value)}{ep:Nat}{t:SetTable}{ks:List (List Int)}(x:TTab prog w P h S led o es ep t ks):t.gaveWay=false:=by
 unfold SetTable.gaveWay;rcases x.mask with h|h | h <;> rw[h] <;> rfl
def tk_same(hs:Heap.SameBut S h h')(ho:h.get? S=some o)(hex:o.ExactSet)(x:TK prog w h k a):TK prog w h' k a:=by
 obtain⟨o',items,n,ho',hc,hd,hi⟩:=x;have hne:a≠S:=by
  rintro rfl;obtain rfl:=Option.some.inj (ho'.symm.trans ho);rw[hex.1] at hc;exact absurd hc (by simp)
 exact⟨o',items,n,(hs.2 a hne).trans ho',hc,hd,hi⟩
def oC(hs:Heap.SameBut S h h')(ho:h.get? S=some o)(hex:o.ExactSet)(x:fW prog w P h es ks):fW prog w P h' es ks :=
 ⟨x.1,fun i e k a b=>let ⟨c,d,f,g⟩:=x.2 i e k a b;⟨c,d,tk_same hs ho hex f,g⟩⟩
def oS{h:Heap}{S:Addr}{o:Obj}{es es':Array (Int × Value)}{ep:Nat}{t t':SetTable}(ho:h.get? S=some o)(hd:o.data=.set es ep t) :
  (h.update S (Obj.putSet es' t')).get? S=some { o with data:=.set es' (ep+1) t'}:=by
 have:=qbw (Obj.putSet es' t') ho (by rw[putSet_of es' t' hd];rfl)
 rw[putSet_of es' t' hd] at this;exact this
def wn(x:fW prog w P h es ks)(order:Array Nat)(hp:order.toList.Perm (List.range es.size)) :
  fW prog w P h (order.filterMap (es[·]?)) (order.toList.filterMap (ks[·]?))/\(order.toList.filterMap (ks[·]?)).Perm ks:=by
 have hlt:∀i,i∈order.toList->i<es.size:=fun i hi=>by simpa using hp.mem_iff.mp hi
 have h1:=fun i hi=>dz es i (hlt i hi);have h2:∀i,i∈order.toList->∃v,ks[i]?=some v:=fun i hi=>⟨_,qau (by rw[<-x.1];exact hlt i hi)⟩;have e1:(order.filterMap (es[·]?)).toList=order.toList.filterMap (es[·]?):=by simp
 have p2:(order.toList.filterMap (ks[·]?)).Perm ks:=by
  have a:=hp.filterMap (ks[·]?);have b:(List.range es.size).filterMap (ks[·]?)=ks:=by
   have:=jd ks.toArray
   simp only[qbj] at this;rw[x.1];exact this
  rw[b] at a;exact a
 have p1:(order.toList.filterMap (es[·]?)).Perm es.toList:=by
  have a:=hp.filterMap (es[·]?);rw[jd] at a;exact a
 refine⟨⟨?_,?_⟩,p2⟩
 ·rw[<-qaH,e1,p1.length_eq,p2.length_eq,qaH,x.1]
 ·intro i e k he hk;rw[<-qay,e1,d8 _ _ h1] at he;rw[d8 _ _ h2] at hk
  cases ho:order.toList[i]? with
  | none=>rw[ho] at he;cases he
  | some q =>
   rw[ho] at he hk;exact x.2 q e k he hk
def grow1:SetTable.sizeAbove (SetTable.grown 5)=32:=by decide
def grow2:SetTable.sizeAbove (SetTable.grown 19)=128:=by decide
def qy{P:Addr->Prop}{S:Addr}{led:Bool}{o:Obj}{es:Array (Int × Value)}{ep:Nat}{t:SetTable}{ks:List (List Int)}{wanted M:Nat}{Q:Unit->Shared->Prop}
  (T:TTab prog w P s.heap S led o es ep t ks) (hfit:es.size<=t.mask) (hM:SetTable.sizeAbove wanted=M+1) (hMM:M=7\/M=31\/M=127) (hroom:es.size * 5<M * 3)
  (h:∀h' o' es' ep' t' ks',Heap.SameBut S s.heap h'->TTab prog w P h' S led o' es' ep' t' ks'->kh t' es'.size->ks'.Perm ks->Q () { s with heap:=h'}) :
  wpAny (model prog w) A (setRelay S wanted) Q E s:=by
 obtain⟨pl,order,e1,w1,z1,p1,p2⟩:=laid_ok M (sK hMM) (fun e:Int × Value=>e.1) es (by lia) t.finger (t.movedTo M) t.led t.plain;have hre:t.relaid (es.map (·.1)) wanted=some ({ mask:=M,place:=pl,dummies:=#[],finger:=t.finger,led:=t.led,moves:=t.movedTo M,plain:=t.plain},order):=by
  unfold SetTable.relaid;rw[hM];exact e1
 refine qab (wpAny_setState_of T.get T.data (T.fits hfit) ?_);dsimp only;have hsz:¬SetTable.sizeAbove wanted>sizeLine:=by
  rw[hM];rcases hMM with h|h | h <;> rw[h] <;> decide
 rw[qao hsz,hre];have hz:es.size<=sizeLine:=by
  rw[sizeLine_eq];rcases hMM with h|h | h <;> lia
 refine qab (?_:wpAny _ _ (if ((order.filterMap (es[·]?)).size != es.size)=true then _ else _) _ _ _);rw[qao (by simp[z1])];refine qak ?_;refine wpAny_storeSet_of T.get T.data ?_ (by rw[z1];exact hz);have sb:=Heap.SameBut.update s.heap S (Obj.putSet (order.filterMap (es[·]?)) { mask:=M,place:=pl,dummies:=#[],finger:=t.finger,led:=t.led,moves:=t.movedTo M,plain:=t.plain});obtain⟨n1,n2⟩:=wn T.ents order p2;refine h _ _ _ _ _ _ sb ⟨oS T.get T.data,T.ex,rfl,rfl,hMM,T.plain,T.led',w1,oC sb T.get T.ex n1⟩ ?_ n2;rw[z1];exact hroom
def yz(x:fW prog w P h es ks)(hp:p<=es.size)(hk:TK prog w h k a)(hP:P a) :
  fW prog w P h (insertAt es p (TH prog w k,.ref a)) (ks.take p++k::ks.drop p):=by
 have hl:=x.1;refine⟨?_,?_⟩
 ·rw[df _ _ _ hp];simp;lia
 ·intro i e k' he hk';rw[ci _ _ _ hp] at he;by_cases h1:i<p
  ·rw[qag h1] at he;rw[qan (by simp;lia),qbz h1] at hk';exact x.2 i e k' he hk'
  ·rw[qao h1] at he;rw[qaD (by simp;lia)] at hk';have hlen:(ks.take p).length=p:=by simp;lia
   rw[hlen] at hk';by_cases h2:i=p
   ·rw[qag h2] at he
    have:i - p=0:=by lia
    rw[this] at hk';simp at hk';cases he;subst hk';exact⟨a,rfl,hk,rfl,hP⟩
   ·rw[qao h2] at he;obtain⟨q,hq⟩:∃q,i - p=q+1:=⟨i - p - 1,by lia⟩;rw[hq,qbo,qce] at hk'
    have:p+q=i - 1:=by lia
    rw[this] at hk';exact x.2 (i - 1) e k' he hk'
def xz(p:Nat)(k:List Int):(ks.take p++k::ks.drop p).Perm (ks++[k]):=by
 have h1:(ks.take p++k::ks.drop p).Perm (k::(ks.take p++ks.drop p)):=qbY;rw[qaZ] at h1;exact h1.trans (qcn k ks).symm
def add_wp{P:Addr->Prop}{S a:Addr}{led:Bool}{ks:List (List Int)}{k:List Int}{Q:Bool->Shared->Prop}(hu:A.units<cLine)(T:dq prog w P s.heap S led ks)(hk:TK prog w s.heap k a)(hP:P a)
  (hsz:k∈ks\/ks.length<66)
  (h:∀b h',Heap.SameBut S s.heap h'->dq prog w P h' S led (if k∈ks then ks else ks++[k])->Q b { s with heap:=h'}) :
  wpAny (model prog w) A (setAddHashed S (.ref a) (TH prog w k)) Q E s:=by
 obtain⟨o,es,ep,t,ks',T,hr,hpm,hnd⟩:=T;unfold kh at hr;have hfit:es.size<=t.mask:=by rcases T.mask with e|e | e <;> rw[e] at hr ⊢ <;> lia
 have hf:=T.fits hfit;have hps:t.place.size<=t.mask:=by rw[T.size];exact hfit
 obtain⟨n1,hn1,hno,hocc⟩:=uv t.place T.wf.rise t.mask (sK T.mask) hps (TH prog w k);have hm128:t.mask<=127:=by rcases T.mask with e|e | e <;> lia
 have hlen:es.size=ks.length:=by rw[T.ents.1,hpm.length_eq]
 refine wpAny_holding ?_;refine qab (wpAny_setState_of T.get T.data hf ?_);dsimp only;have hbs:byScan (.ref a) es=false:=rfl;rw[hbs];unfold setSearch;refine qab (vn (n1:=n1) (ks:=ks') hu T.get T.data hf T.dm T.odd T.wf T.ents hk hno hocc (by unfold turns;lia) ?_ ?_ 100000 0 none rfl (qaR _) (by lia) (fun m i hm=>absurd hm (Nat.not_lt_zero m)))
 ·intro hmem;have hmem':k∈ks:=hpm.mem_iff.mp hmem;dsimp only;refine qak ?_
  have:=h false s.heap (Heap.SameBut.refl _ _)
  rw[qag hmem'] at this;exact this ⟨o,es,ep,t,ks',T,hr,hpm,hnd⟩
 ·intro hmem;have hmem':k∉ks:=fun x=>hmem (hpm.mem_iff.mpr x);have hlt:ks.length<66:=hsz.resolve_left hmem';rw[qao hmem'] at h;dsimp only;refine qab (wpAny_setState_of T.get T.data hf ?_);dsimp only;have hput:t.put (sl t.mask (TH prog w k) n1)=({ t with place:=insertAt t.place (below t.place (sl t.mask (TH prog w k) n1)) (sl t.mask (TH prog w k) n1)},below t.place (sl t.mask (TH prog w k) n1)):=by
   unfold SetTable.put;simp only[T.dm,tE,qac,if_false]
  rw[hput];dsimp only;rw[qag T.plain];refine qab (iW hk ?_);simp only[if_true];have hp:=(dG t.place (sl t.mask (TH prog w k) n1) T.wf.rise).1;have hp2:below t.place (sl t.mask (TH prog w k) n1)<=es.size:=by rw[<-T.size];exact hp
  have hz1:=df es (below t.place (sl t.mask (TH prog w k) n1)) (TH prog w k,.ref a) hp2;refine qab (wpAny_storeSet_of T.get T.data ?_ (by rw[hz1,sizeLine_eq];lia))
  have sb:=Heap.SameBut.update s.heap S (Obj.putSet (insertAt es (below t.place (sl t.mask (TH prog w k) n1)) (TH prog w k,.ref a))
   { t with place:=insertAt t.place (below t.place (sl t.mask (TH prog w k) n1)) (sl t.mask (TH prog w k) n1)})
  have T2:TTab prog w P (s.heap.update S (Obj.putSet (insertAt es (below t.place (sl t.mask (TH prog w k) n1)) (TH prog w k,.ref a))
    { t with place:=insertAt t.place (below t.place (sl t.mask (TH prog w k) n1)) (sl t.mask (TH prog w k) n1)})) S led
    { o with data:=.set (insertAt es (below t.place (sl t.mask (TH prog w k) n1)) (TH prog w k,.ref a)) (ep+1) { t with place:=insertAt t.place (below t.place (sl t.mask (TH prog w k) n1)) (sl t.mask (TH prog w k) n1)}}
    (insertAt es (below t.place (sl t.mask (TH prog w k) n1)) (TH prog w k,.ref a)) (ep+1)
    { t with place:=insertAt t.place (below t.place (sl t.mask (TH prog w k) n1)) (sl t.mask (TH prog w k) n1)}
    (ks'.take (below t.place (sl t.mask (TH prog w k) n1))++k::ks'.drop (below t.place (sl t.mask (TH prog w k) n1))):=by
   refine⟨oS T.get T.data,T.ex,rfl,T.dm,T.mask,T.plain,T.led',?_,oC sb T.get T.ex (yz T.ents hp2 hk hP)⟩;rw[qP];exact wf_put t.mask t.place (es.map (·.1)) T.wf (TH prog w k) n1 hno hocc
  have hpm2:(ks'.take (below t.place (sl t.mask (TH prog w k) n1))++k::ks'.drop (below t.place (sl t.mask (TH prog w k) n1))).Perm (ks++[k]):=(xz _ k).trans (hpm.append_right [k]);have hnd2:(ks++[k]).Nodup:=by
   rw[qcg];refine⟨hnd,by simp,fun x hx y hy=>?_⟩
   have:y=k:=by simpa using hy
   subst this;rintro rfl;exact hmem' hx
  have hfill:({ t with place:=insertAt t.place (below t.place (sl t.mask (TH prog w k) n1)) (sl t.mask (TH prog w k) n1)}:SetTable).fill=es.size+1:=by
   unfold SetTable.fill;rw[df _ _ _ hp,T.size];simp[T.dm]
  by_cases hfull:({ t with place:=insertAt t.place (below t.place (sl t.mask (TH prog w k) n1)) (sl t.mask (TH prog w k) n1)}:SetTable).tooFull=true
  ·have hfull':(es.size+1) * 5>=t.mask * 3:=by
    unfold SetTable.tooFull at hfull;rw[hfill] at hfull;simpa using hfull
   rw[qag (by rw[hfull];rfl)];have hcase:(t.mask=7/\es.size=4)\/(t.mask=31/\es.size=18):=by
    rcases T.mask with e|e | e <;> rw[e] at hr hfull' <;> lia
   refine qab (wpAny_mono (Q:=fun _ s'=>∃h',s'={ s with heap:=h'}/\Heap.SameBut S s.heap h'/\dq prog w P h' S led (ks++[k])) ?_ (fun u s' hq=>?_) fun _ _ x=>x)
   ·rcases hcase with ⟨c1,c2⟩|⟨c1,c2⟩
    ·have e5:es.size+1=5:=by lia
     rw[e5];refine qy (M:=31) (s:={ s with heap:=_}) T2 (by rw[hz1];show es.size+1<=t.mask;lia) grow1 (.inr (.inl rfl)) (by rw[hz1];lia) fun h' o' es' ep' t' ks2 sb2 T3 r3 p3=>?_;exact⟨h',rfl,sb.trans sb2,o',es',ep',t',ks2,T3,r3,p3.trans hpm2,hnd2⟩
    ·have e5:es.size+1=19:=by lia
     rw[e5];refine qy (M:=127) (s:={ s with heap:=_}) T2 (by rw[hz1];show es.size+1<=t.mask;lia) grow2 (.inr (.inr rfl)) (by rw[hz1];lia) fun h' o' es' ep' t' ks2 sb2 T3 r3 p3=>?_;exact⟨h',rfl,sb.trans sb2,o',es',ep',t',ks2,T3,r3,p3.trans hpm2,hnd2⟩
   ·obtain⟨h',rfl,q1,q2⟩:=hq;exact qak (h true h' q1 q2)
  ·have hfull':(es.size+1) * 5<t.mask * 3:=by
    unfold SetTable.tooFull at hfull;rw[hfill] at hfull;simpa using hfull
   rw[qao (by simpa using hfull)];refine qak (h true _ sb ⟨_,_,_,_,_,T2,?_,hpm2,hnd2⟩);unfold kh;rw[hz1];exact hfull'
end
end SetT
namespace SetT
open PySem PySem.SetTable PyProof.Rows
def d6(acc:List (List Int))(k:List Int):List (List Int):=if k∈acc then acc else acc++[k]
def ded(l:List (List Int)):List (List Int):=l.foldl d6 []
def yN(l:List (List Int))(k:List Int):ded (l++[k])=d6 (ded l) k:=by
 unfold ded;rw[List.foldl_append];rfl
def wF(acc:List (List Int))(k:List Int):acc.length<=(d6 acc k).length:=by
 unfold d6;split <;> simp
def v7(l:List (List Int)):∀acc:List (List Int),acc.length<=(l.foldl d6 acc).length:=by
 induction l with
 | nil=>intro acc;exact qah _
 | cons k l ih=>intro acc;exact qaE (wF acc k) (ih _)
def rg(l:List (List Int))(i:Nat):(ded (l.take i)).length<=(ded l).length:=by
 have h:ded l=(l.drop i).foldl d6 (ded (l.take i)):=by
  unfold ded;rw[<-List.foldl_append,qaZ]
 rw[h];exact v7 _ _
def o9{l:List (List Int)}{i:Nat}{k:List Int}(h:l[i]?=some k):ded (l.take (i+1))=d6 (ded (l.take i)) k:=by
 rw[qcM,h];exact yN _ _
def wl(x:List Int)(l:List (List Int)):∀acc:List (List Int),x∈l.foldl d6 acc↔x∈acc\/x∈l:=by
 induction l with
 | nil=>simp
 | cons k l ih =>
  intro acc;rw[qcE,ih];unfold d6;split
  ·rename_i h
   constructor
   ·rintro (h1|h1)
    ·exact .inl h1
    ·exact .inr (qaf _ h1)
   ·rintro (h1|h1)
    ·exact .inl h1
    ·rcases qaj.mp h1 with rfl|h2
     ·exact .inl h
     ·exact .inr h2
  ·constructor
   ·rintro (h1|h1)
    ·rcases qav.mp h1 with h2|h2
     ·exact .inl h2
     ·simp_all
    ·exact .inr (qaf _ h1)
   ·rintro (h1|h1)
    ·exact .inl (qaK _ h1)
    ·rcases qaj.mp h1 with rfl|h2
     ·exact .inl (qam _ (by simp))
     ·exact .inr h2
def iA(x:List Int)(l:List (List Int)):x∈ded l↔x∈l:=by
 unfold ded;rw[wl];simp
section
variable {prog:Program} {w:World} {A:Around} {E:Value→Shared→Prop} {s:Shared}
abbrev PB(H0:Heap)(R:Addr->Prop):Addr->Prop:=fun a=>(∃o,H0.get? a=some o)/\R a
def Ext(H0 h:Heap):Prop:=∀b o,H0.get? b=some o->h.get? b=some o
def j5(x:Ext H0 h)(t:TK prog w H0 k a):TK prog w h k a:=by
 obtain⟨o,items,n,ho,r⟩:=t;exact⟨o,items,n,x a o ho,r⟩
def si{H0 h h':Heap}{RR:Addr->Prop}{S:Addr}{led:Bool}{ks:List (List Int)}(T:dq prog w (PB H0 RR) h S led ks)(hS:∀o,h.get? S=some o->h'.get? S=some o)
  (x:Ext H0 h) (x':Ext H0 h'):dq prog w (PB H0 RR) h' S led ks:=by
 obtain⟨o,es,ep,t,ks',T,r,p,n⟩:=T;refine⟨o,es,ep,t,ks',⟨hS o T.get,T.ex,T.data,T.dm,T.mask,T.plain,T.led',T.wf,T.ents.1,fun i e k a b=>?_⟩,r,p,n⟩;obtain⟨c,d,⟨oc,its,m,hc,q⟩,g,⟨ob,hb⟩,hR⟩:=T.ents.2 i e k a b;have e1:=Option.some.inj (hc.symm.trans (x c ob hb));subst e1;exact⟨c,d,⟨oc,its,m,x' c oc hb,q⟩,g,⟨oc,hb⟩,hR⟩
def Lie(prog:Program)(w:World)(H0:Heap)(items:Array Value)(ks:List (List Int)):Prop :=
 items.size=ks.length/\∀(i:Nat) (v:Value) (k:List Int),items[i]?=some v->ks[i]?=some k->∃a,v=.ref a/\TK prog w H0 k a
def u5{h:Heap}{S:Addr}{led:Bool}{P:Addr->Prop}{o:Obj}(ho:h.get? S=some o)(hex:o.ExactSet)(hd:o.data=.set #[] 0 (.fresh 0 0 led)):dq prog w P h S led []:=by
 refine⟨o,#[],0,.fresh 0 0 led,[],⟨ho,hex,hd,rfl,.inl rfl,rfl,rfl,⟨?_,?_,by simp[SetTable.fresh],?_⟩,rfl,?_⟩,?_,List.Perm.nil,qcL⟩
 ·intro a b u v _ h1;simp[SetTable.fresh] at h1
 ·intro i v h1;simp[SetTable.fresh] at h1
 ·intro i hh v h1;simp at h1
 ·intro i e k h1;simp at h1
 ·show 0 * 5<7 * 3;decide
def rW{RR:Addr->Prop}{R:Result->Shared->Prop}{I:Addr}{fp wr:List Addr}{G:Array GenState->Array GenState->Prop}{n:Nat}{P:Nat->Value->Prop}{St:Nat->Shared->Prop}
  (hu:A.units+1<cLine) (W:WalksS prog w A.in1 I fp wr G n P St) (S:Addr) (hSf:S∉fp) {H0:Heap} (h0S:H0.get? S=none) (h0w:∀b∈wr,H0.get? b=none) {led:Bool} (ks:List (List Int)) (hn:ks.length=n)
  (hval:∀i v k,P i v->ks[i]?=some k->∃a,v=.ref a/\TK prog w H0 k a/\RR a) (h66:(ded ks).length<=66) :
  ∀(c i:Nat) (s:Shared),n - i=c->i<=n->St i s->Ext H0 s.heap->dq prog w (PB H0 RR) s.heap S led (ded (ks.take i)) ->
   (∀s',Moved (S::wr) G s s'->Ext H0 s'.heap->dq prog w (PB H0 RR) s'.heap S led (ded ks)->R (.ok (.ret .none)) s') ->
   codeAny (model prog w) A (.builtin "set.update.loop" ⟨[.ref S,.ref I],[]⟩) R s:=by
 have hSw:S∉wr:=fun h=>hSf (W.sub _ h);have hsub:∀b∈wr,b∈S::wr:=fun b hb=>qaf _ hb;have extM:∀{s s':Shared},Moved wr G s s'->Ext H0 s.heap->Ext H0 s'.heap:=fun {s s'} hm x b o e =>
  hm.heap b o (fun hb=>by rw[h0w b hb] at e;cases e) (x b o e)
 intro c
 induction c with
 | zero =>
  intro i s hc hi hst hx hT hRR;have e:i=n:=by lia
  subst e;refine codeAny_builtin F.entry_set_update_loop ?_;refine qab (W.done s _ _ hst fun s' hm=>?_);rw[<-hn,List.take_length] at hT;exact qak (hRR s' (hm.mono hsub) (extM hm hx) (si hT (fun o e=>hm.heap S o hSw e) hx (extM hm hx)))
 | succ c ih =>
  intro i s hc hi hst hx hT hRR;have hlt:i<n:=by lia
  refine codeAny_builtin F.entry_set_update_loop ?_;show wpAny _ A.in1 (pyNext (.ref I) >>= _) _ _ s;refine qab (W.item i s _ _ hlt hst fun v s' hP hst' hm=>?_);obtain⟨k,hk⟩:∃k,ks[i]?=some k:=⟨_,qau (by lia)⟩;obtain⟨a,rfl,ha,hR⟩:=hval i v k hP hk;have hx':=extM hm hx;have hT':=si hT (fun o e=>hm.heap S o hSw e) hx hx';have ha':=j5 hx' ha;show wpAny _ A.in1 (holding [Value.ref a] (setAdd S (.ref a)) >>= _) _ _ s';refine qab (wpAny_holding ?_);unfold setAdd;refine wpAny_holding ?_;refine qab (wpAny_pyHash_tuple (by show A.units+1<cLine;exact hu) ha' ?_);have hsucc:=o9 hk;refine add_wp (s:={ s' with toks:=s'.toks+(k.length+1)}) (by show A.units+1<cLine;exact hu) hT' ha' ⟨let ⟨o,_,_,ho,_⟩:=ha;⟨o,ho⟩,hR⟩ ?_ fun b h' sb hT2=>?_
  ·have h1:=rg ks (i+1);rw[hsucc] at h1;unfold d6 at h1;by_cases hm':k∈ded (ks.take i)
   ·exact .inl hm'
   ·rw[qao hm'] at h1;simp at h1;exact .inr (by lia)
  ·have hx2:Ext H0 h':=fun q o e=>by
    have hq:q≠S:=by rintro rfl;rw[h0S] at e;cases e
    exact (sb.2 q hq).trans (hx' q o e)
   have hT3:dq prog w (PB H0 RR) h' S led (ded (ks.take (i+1))):=by rw[hsucc];exact hT2
   refine qak ⟨plainId_quiet F.plain_set_update_loop _,ih (i+1) _ (by lia) hlt (W.frame _ s' _ _ hst' (Nat.le_add_right _ _) fun b hb o e=>?_) hx2 hT3 fun s'' hm'' hx3 hT4=>?_⟩
   ·exact (sb.2 b (fun q:b=S=>hSf (by rw[<-q];exact hb))).trans e
   ·refine hRR s'' (Moved.trans W.gtrans ((hm.mono hsub).then_heap (Nat.le_add_right _ _) fun b o hb e=>?_) hm'') hx3 hT4;exact (sb.2 b (fun q:b=S=>hb (by rw[q];exact qaM))).trans e
abbrev fY(led:Bool):Obj:={ cls:=.type "set",dict:=none,data:=.set #[] 0 (.fresh 0 0 led)}
abbrev bN(w:World):Bool:=!w.params.followText "set-order"
def w5(a:Value)(h:Q₁ (.ref s.heap.objs.size) { s with heap:=s.heap.push (fY (bN w))}) :
  codeAny (model prog w) A (.call (.builtin "set.__new__") ⟨[.type "set",a],[]⟩) (wants Q₁ E) s:=by
 refine codeAny_of_tree ?_;refine qab (wpAny_of_eq (PySem.F.newCall_set_1 a) (qak ⟨plainId_quiet PySem.F.plain_set_new _,codeAny_builtin PySem.F.entry_set_new ?_⟩));unfold Builtin.«set.__new__» Builtin.Frozenset.newClass;have hsub:=sub_set_self
 wp_walk
 refine wpAny_askSetting (qak ?_);dsimp only;simp only[newObj];exact qab (wpAny_alloc (qak (qak h)))
set_option maxHeartbeats 3200000 in
theorem pe(hh:A.handled=none)(hu:A.units+16<cLine)(hl:s.heap.IsList l items)
  (hk:Lie prog w s.heap items ks) (h66:(ded ks).length<=66)
  (h:∀(h':Heap) (tk:Nat),dq prog w (PB s.heap fun a=>Value.ref a∈items.toList) h' s.heap.objs.size (bN w) (ded ks)->Ext s.heap h'->s.toks<=tk->Q (.ref s.heap.objs.size) { s with heap:=h',toks:=tk}) :
  wpAny (model prog w) A (call (.type "set") [.ref l]) Q E s:=by
 obtain⟨c,tl,hmro⟩:=PySem.F.called_set.mro;have hmade:=PySem.F.called_set.made;have hsub:=PySem.F.called_set.sub;refine wpAny_call (codeAny_of_tree ?_);show wpAny _ _ (callAny (.type "set") _) _ _ _;refine qak ⟨Code.quiet_builtin _ (by decide +kernel),codeAny_builtin PySem.F.entry_type_call ?_⟩;rw[Around.under_plain (weight_type_call_type "set" [.ref l] []) rfl];have h1:=PySem.F.called_set.notType;have h2:=PySem.F.called_set.canCreate;have hct:=PySem.F.typeCall_set_1 (.ref l)
 repeat (any_goals (first | assumption | wp_step))
 refine codeAny_mono (w5 (.ref l) (E:=E) (Q₁:=fun obj s₁=>obj=.ref s.heap.objs.size/\s₁={ s with heap:=s.heap.push (fY (bN w))}) ⟨rfl,rfl⟩) fun r s₁ hr=>?_
 cases r with
 | error e=>exact hr
 | ok fl =>
  cases fl with
  | ret obj =>
   obtain⟨rfl,rfl⟩:=hr;have hS:(s.heap.push (fY (bN w))).get? s.heap.objs.size=some (fY (bN w)):=qaz _ rfl;have hT:Shared.TypeIs { s with heap:=s.heap.push (fY (bN w))} (.ref s.heap.objs.size) "set":=⟨_,hS,rfl⟩;have hli:=PySem.F.called_set.init.lookup;have hbi:=PySem.F.called_set.init.bind (.ref s.heap.objs.size)
   repeat (any_goals (first | assumption | wp_step))
   refine codeAny_mono (codeAny_call_builtin (R:=wants (fun r s₂=>r=.none/\∃h' tk,s₂={ s with heap:=h',toks:=tk} /\
     dq prog w (PB s.heap fun a=>Value.ref a∈items.toList) h' s.heap.objs.size (bN w) (ded ks)/\Ext s.heap h'/\s.toks<=tk) E) PySem.F.called_set.init.plain PySem.F.entry_set_init (check_set_init_1 hT ?_)) fun r₂ s₂ hr₂=>?_
   ·have hl0:=hl;obtain⟨ol,hol,hcl,nl,hdl⟩:=hl;obtain⟨ocls,odict,odata,oslots⟩:=ol;simp only at hcl hdl;subst hcl;subst hdl;have hol':(s.heap.push (fY (bN w))).get? l=some { cls:=.type "list",dict:=odict,data:=.seq items nl,slots:=oslots}:=qae _ hol;have hsls:=PySem.F.sub_list_set;have hslf:=PySem.F.sub_list_frozenset;have hne:(Value.type "list" == Value.type "dict")=false:=by decide
    have hl1:(s.heap.push (fY (bN w))).IsList l items:=⟨_,hol',rfl,nl,rfl⟩;unfold Builtin.«set.__init__» noKeywords Builtin.Frozenset.updateFrom;generalize hPI:pyIter=PI
    wp_walk
    subst hPI;refine wpAny_pyIter_list hl1 ?_;refine qab (wpAny_runValue ?_);have hlS:l<s.heap.objs.size:=qas hol;have hh3:A.in1.in1.in1.handled=none:=by simp[hh]
    have hsz:(s.heap.push (fY (bN w))).objs.size=s.heap.objs.size+1:=by rw[qbx]
    have hneI:l≠(s.heap.push (fY (bN w))).objs.size:=by rw[hsz];exact qaJ (qbC hlS)
    have hnone:∀b,s.heap.objs.size<=b->s.heap.get? b=none:=fun b hb=>by
     cases e:s.heap.get? b with
     | none=>rfl
     | some o=>exact absurd (qas e) (Nat.not_lt.mpr hb)
    have hSf:s.heap.objs.size∉[(s.heap.push (fY (bN w))).objs.size,l]:=by
     rw[hsz];simp only[qaj,qaN,or_false,not_or];exact⟨qaJ (qbX _),qbE hlS⟩
    refine rW (RR:=fun a=>Value.ref a∈items.toList) (H0:=s.heap) (led:=bN w) (by show A.units+1+1+1<cLine;lia) ((Walks.list hh3 _ l hneI items).toS) s.heap.objs.size hSf (hnone _ (qah _)) ?_ ks hk.1.symm
     (fun i v k hv hk'=>let ⟨a,e,t⟩:=hk.2 i v k hv hk';⟨a,e,t,by rw[<-e];exact qaA.mpr ⟨i,by rw[qay];exact hv⟩⟩) h66 (items.size - 0) 0 _ (by lia) (qaR _) ⟨⟨_,qaz _ rfl,rfl,rfl⟩,(hl1.push _)⟩ ?_ ?_ ?_
    ·intro b hb
     have:b=(s.heap.push (fY (bN w))).objs.size:=by simpa using hb
     rw[this,hsz];exact hnone _ (qcw _)
    ·intro b o e;exact qae _ (qae _ e)
    ·exact u5 (o:=fY (bN w)) (qae _ hS) ⟨rfl,rfl,rfl⟩ rfl
    ·intro s' hm hx hT';obtain⟨h',g',d',tk',os'⟩:=s';have eg:g'=s.gens:=hm.gens;have ed:d'=s.drawn:=hm.drawn;have eo:os'=s.os:=hm.os;have et:s.toks<=tk':=hm.toks;subst eg;subst ed;subst eo;show wpAny _ _ _ _ _ _;refine qak ?_;show wpAny _ _ (ret Value.none) _ _ _;exact qak ⟨rfl,h',tk',rfl,hT',hx,et⟩
   ·cases r₂ with
    | error e=>exact hr₂
    | ok fl₂ =>
     cases fl₂ with
     | ret r =>
      obtain⟨rfl,h',tk,rfl,hT',hx,et⟩:=hr₂
      repeat (any_goals (first | assumption | wp_step))
      exact h _ _ hT' hx et
     | _=>exact hr₂.elim
  | _=>exact hr.elim
end
def cS:Slot "set_iterator" "__next__" "set_iterator.__next__" :=
 .of (owner:="set_iterator") (n:="__next__") (by kernel_rfl) (by decide +kernel) (by decide +kernel) (by decide +kernel) (.inl (by decide +kernel)) (by kernel_rfl)
def jT:Slot "set_iterator" "__iter__" "set_iterator.__iter__" :=
 .of (owner:="set_iterator") (n:="__iter__") (by kernel_rfl) (by decide +kernel) (by decide +kernel) (by decide +kernel) (.inl (by decide +kernel)) (by kernel_rfl)
def jz:entryFor table "set_iterator.__next__"=some Builtin.«set_iterator.__next__»:=entryFor_of_fast (by kernel_rfl)
def pg:entryFor table "set_iterator.__iter__"=some Builtin.«dict_keyiterator.__iter__» :=
 entryFor_alias (id':="dict_keyiterator.__iter__") (by kernel_rfl) rfl (by decide +kernel) (by kernel_rfl)
def jR(a:Value):argsOk "set_iterator.__next__" ⟨[a],[]⟩:=by unfold argsOk;kernel_rfl
def qF(a:Value):argsOk "set_iterator.__iter__" ⟨[a],[]⟩:=by unfold argsOk;kernel_rfl
def rB:entryFor table "set.__iter__"=some Builtin.«frozenset.__iter__» :=
 entryFor_alias (id':="frozenset.__iter__") (by kernel_rfl) rfl (by decide +kernel) (by kernel_rfl)
def uV{α:Type}(l:List α)(i:Nat)(h:i<l.length):(l[i]::l.eraseIdx i).Perm l:=by
 rw[List.eraseIdx_eq_take_drop_succ];have e:l.take i++l[i]::l.drop (i+1)=l:=by rw[qcC h,qaZ]
 exact qbY.symm.trans (List.Perm.of_eq e)
def pick_go(next:Nat->Nat):∀(fuel k:Nat) (left:List α) (out:Array α),left.length<=fuel->(pickOrder.go next fuel k left out).toList.Perm (out.toList++left):=by
 intro fuel
 induction fuel with
 | zero =>
  intro k left out h
  have:left=[]:=qbG.mp (by lia)
  subst this;unfold pickOrder.go;simp
 | succ f ih =>
  intro k left out h;unfold pickOrder.go
  cases left with
  | nil=>simp
  | cons x l =>
   have hlt:next k % (x::l).length<(x::l).length:=Nat.mod_lt _ (by simp)
   have hg:=qau hlt;rw[hg];have hl:((x::l).eraseIdx (next k % (x::l).length)).length<=f:=by
    rw[List.length_eraseIdx_of_lt hlt];lia
   refine (ih (k+1) _ _ hl).trans ?_;rw[qba,qbf];refine List.Perm.append_left _ ?_;have hp:=(uV _ _ hlt).symm;exact hp.symm
def wq(next:Nat->Nat)(xs:Array α):(pickOrder next xs).toList.Perm xs.toList:=by
 unfold pickOrder
 have:=pick_go next xs.size 0 xs.toList #[] (by simp)
 simpa using this
def ut(xs:Array Nat)(hr:eK xs):below xs 0=0:=by
 obtain⟨h1,h2,_⟩:=dG xs 0 hr;by_cases h:below xs 0=0
 ·exact h
 ·obtain⟨v,hv⟩:=dz xs 0 (by lia)
  have:=h2 0 v hv (by lia)
  lia
def uf(xs:Array Nat)(hr:eK xs)(i j:Nat)(h:xs[i]?=some j):below xs (j+1)=i+1:=by
 obtain⟨h1,h2,h3⟩:=dG xs (j+1) hr;by_cases h4:below xs (j+1)<=i
 ·have:=h3 i j h h4;lia
 ·by_cases h5:i+1<below xs (j+1)
  ·obtain⟨v,hv⟩:=dz xs (i+1) (by lia);have a:=h2 (i+1) v hv h5;have b:=hr i (i+1) j v (by lia) h hv;lia
  ·lia
section
variable {prog:Program} {w:World} {A:Around} {E:Value→Shared→Prop} {s:Shared}
def bZ(w:World)(S:Addr)(ep:Nat)(es:Array (Int × Value)):Array (Int × Value):=if w.params.followText "set-order" then pickOrder (w.params.setOrder S ep) es else es
def hG(w:World)(S:Addr)(ep:Nat)(es:Array (Int × Value)):(bZ w S ep es).toList.Perm es.toList:=by
 unfold bZ;split
 ·exact wq _ _
 ·exact List.Perm.refl _
def SIt(w:World)(it S:Addr)(o:Obj)(es:Array (Int × Value))(ep:Nat)(t:SetTable)(i:Nat)(h:Heap):Prop :=
 h.get? S=some o/\∃slot:Nat,h.get? it=some { cls:=.type "set_iterator",dict:=none,data:=.fields #[.int slot 0,.int i 0,.ref S,.int es.size 0,.int ep 0],slots:=#[]} /\
  (w.params.followText "set-order"=false->below t.place slot=i)
end
section
variable {prog:Program} {w:World} {A:Around} {E:Value→Shared→Prop} {s:Shared} {S it:Addr} {o:Obj} {es:Array (Int × Value)} {ep:Nat} {t:SetTable} {ks:List (List Int)}
def nX(hit:SIt w it S o es ep t i s.heap):s.TypeIs (.ref it) "set_iterator":=let ⟨_,_,h,_⟩:=hit;⟨_,h,rfl⟩
def Wkd(prog:Program)(w:World)(S:Addr)(o:Obj)(es:Array (Int × Value))(ep:Nat)(t:SetTable):Prop :=
 o.ExactSet/\o.data=.set es ep t/\t.dummies=#[]/\t.plain=true/\t.led=bN w/\eK t.place/\t.place.size=es.size/\es.size<=t.mask
def sv{i:Nat}{h:Heap}{slot:Nat}{Q:Option (Value × Nat)->Shared->Prop}(T:Wkd prog w S o es ep t)(ho:s.heap.get? S=some o)
  (hsl:w.params.followText "set-order"=false->below t.place slot=i)
  (h1:∀(x:Int × Value) slot',(bZ w S ep es)[i]?=some x->(w.params.followText "set-order"=false->below t.place slot'=i+1)->Q (some (x.2,slot')) s)
  (h2:(bZ w S ep es)[i]?=none->Q none s) :
  wpAny (model prog w) A (setNext S slot i ep) Q E s:=by
 obtain⟨T1,T2,T3,T4,T5,T6,T7,T8⟩:=T;have hf:t.fits es.size=true:=by
  unfold SetTable.fits SetTable.fill;simp[T7,T3];exact T8
 refine qab (wpAny_setState_of ho T2 hf ?_);unfold bZ at h1 h2
 cases hb:w.params.followText "set-order" with
 | true =>
  rw[hb] at h1 h2;show wpAny _ _ (if w.params.followText "set-order"=true then _ else _) _ _ _;rw[hb];simp only[bne_self_eq_false];refine qab (qab (wpAny_setState_of ho T2 hf ?_));show wpAny _ _ (if w.params.followText "set-order"=true then _ else _) _ _ _;rw[hb];refine qab (wpAny_askSetting (qak ?_));refine qak ?_;show Q (((pickOrder (w.params.setOrder S ep) es)[i]?).map fun e=>(e.2,slot)) s
  cases hg:(pickOrder (w.params.setOrder S ep) es)[i]? with
  | none=>exact h2 hg
  | some x=>exact h1 x slot hg (fun z=>nomatch z)
 | false =>
  rw[hb] at h1 h2;show wpAny _ _ (if w.params.followText "set-order"=true then _ else _) _ _ _;rw[hb];have hdr:¬((!t.plain && decide (es.size>1))=true):=by rw[T4];simp
  refine (?_:wpAny _ _ (if (!t.plain && decide (es.size>1))=true then _ else _) _ _ _);rw[qao hdr];have hld:¬((!t.led && !es.isEmpty)=true):=by rw[T5];simp[hb]
  refine qab (?_:wpAny _ _ (if (!t.led && !es.isEmpty)=true then _ else _) _ _ _);rw[qao hld];refine qak ?_;refine qak ?_;have hbl:=hsl hb;rw[hbl]
  cases he:es[i]? with
  | none=>exact h2 he
  | some x =>
   obtain⟨j,hj⟩:=dz t.place i (by rw[T7];exact dM he);rw[hj];exact h1 x (j+1) he (fun _=>uf _ T6 i j hj)
def Wkd.fits(T:Wkd prog w S o es ep t):t.fits es.size=true:=by
 obtain⟨T1,T2,T3,T4,T5,T6,T7,T8⟩:=T;unfold SetTable.fits SetTable.fill;simp[T7,T3];exact T8
def rR{i:Nat}{x:Int × Value}{Q:Option Value->Shared->Prop}(T:Wkd prog w S o es ep t)(hne:S≠it)(hit:SIt w it S o es ep t i s.heap)(hx:(bZ w S ep es)[i]?=some x)
  (hQ:∀h',SIt w it S o es ep t (i+1) h'->Heap.SameBut it s.heap h'->Q (some x.2) { s with heap:=h'}):wpAny (model prog w) A (pyNext (.ref it)) Q E s:=by
 have hT:=nX hit;obtain⟨ho,slot,hi,hsl⟩:=hit;refine qab (wpAny_attempt (wpAny_callSpecial?_slot hT cS (wpAny_call_entry cS hT jz ?_ (jR _))));refine qab (qak ?_);refine qab (wpAny_fieldsOf hi rfl ?_);refine qab (wpAny_setEntries_of ho T.2.1 T.fits ?_);rw[qao (by simp)];refine qab ?_;rw[qaG,qaG,qaG];refine sv (h:=s.heap) T ho hsl (fun x' slot' e1 e2=>?_) (fun e1=>by rw[hx] at e1;cases e1);rw[hx] at e1;cases e1;refine qab (wpAny_setField_rec hi (by simp) fun h1 g1 sb1=>?_);refine qab (wpAny_setField_rec g1 (by simp) fun h2 g2 sb2=>?_);refine qak ⟨_,rfl,qak (hQ h2 ⟨?_,slot',?_,e2⟩ (sb1.trans sb2))⟩
 ·rw[(sb1.trans sb2).2 S hne];exact ho
 ·exact g2
def uO{i:Nat}{Q:Option Value->Shared->Prop}(hh:A.handled=none)(T:Wkd prog w S o es ep t)(hit:SIt w it S o es ep t i s.heap)(hx:(bZ w S ep es)[i]?=none)
  (hQ:∀h',Heap.ExtBut it s.heap h'->Q none { s with heap:=h'}):wpAny (model prog w) A (pyNext (.ref it)) Q E s:=by
 have hT:=nX hit;obtain⟨ho,slot,hi,hsl⟩:=hit;refine qab (wpAny_attempt (wpAny_callSpecial?_slot (name:=Str.ofString "__next__") hT cS (wpAny_call_entry cS hT jz ?_ (jR _))));refine qab (m:=slotArgs "__next__" 0 _) (qak ?_);refine qab (wpAny_fieldsOf hi rfl ?_);refine qab (wpAny_setEntries_of ho T.2.1 T.fits ?_);rw[qao (by simp)];refine qab ?_;rw[qaG,qaG,qaG];refine sv (h:=s.heap) T ho hsl (fun x' slot' e1 e2=>by rw[hx] at e1;cases e1) (fun e1=>?_);refine qab (wpAny_setField hi rfl (by simp) ?_);refine qab ?_;refine qab (m:=firstArgMember _ _) (wpAny_of_eq (a:=Value.none) (by first | rfl | (simp only[firstArgMember])) ?_);refine wpAny_newObj_type ?_ (by size_fits);refine qab (wpAny_handled ?_);rw[show A.in1.handled=none from hh];refine qab (qak (wpAny_throw ?_));refine qab (wpAny_isInstance (T:="StopIteration") (b:=true) ⟨_,qaz _ rfl,rfl⟩ isSubtype_stop ?_);exact qak (hQ _ (((Heap.SameBut.update ..).extBut.push _).push _))
def vE(hh:A.handled=none)(hne:S≠it)(T:Wkd prog w S o es ep t) :
  Walks prog w A it [it,S] [it] es.size (fun i v=>∃x,(bZ w S ep es)[i]?=some x/\v=x.2) (fun i h=>SIt w it S o es ep t i h) where
 sub:=fun b hb=>by simp at hb;simp[hb]
 frame:=fun _ _ _ st hk=>⟨hk S (by simp) _ st.1,let ⟨slot,a,b⟩:=st.2;⟨slot,hk it (by simp) _ a,b⟩⟩
 item:=fun i s Q E hi st hQ=>by
  have hl:(bZ w S ep es).size=es.size:=by
   rw[<-qaH,(hG w S ep es).length_eq,qaH]
  obtain⟨x,hx⟩:=dz (bZ w S ep es) i (by lia);exact rR T hne st hx fun h' st' sb=>hQ _ h' s.toks ⟨x,hx,rfl⟩ st' fun b o hb e=>sb.extBut b o (fun h=>hb (by simp[h])) e
 done:=fun s Q E st hQ=>by
  have hl:(bZ w S ep es).size=es.size:=by
   rw[<-qaH,(hG w S ep es).length_eq,qaH]
  exact uO hh T st (qcB (by lia)) fun h' he=>hQ h' s.toks fun b o hb e=>he b o (fun h=>hb (by simp[h])) e
 self:=fun _ s Q E st hQ=>by
  have hT:=nX st;refine wpAny_pyIter_slot hT jT (wpAny_call_entry jT hT pg ?_ (qF _));exact qak ⟨_,rfl,"set_iterator",_,hT,cS.lookup,hQ⟩
def tX(T:Wkd prog w S o es ep t)(ho:s.heap.get? S=some o)
  (hQ:Q (.ref s.heap.objs.size) { s with heap:=s.heap.push { cls:=.type "set_iterator",data:=.fields #[.int 0 0,.int 0 0,.ref S,.int es.size 0,.int ep 0]}}) :
  wpAny (model prog w) A (pyIter (.ref S)) Q E s:=by
 have hT:s.TypeIs (.ref S) "set":=⟨o,ho,T.1.1⟩;refine wpAny_pyIter_slot hT PySem.F.slot_set_iter (wpAny_call_entry PySem.F.slot_set_iter hT rB ?_ (PySem.F.args_set_iter_1 _));refine qab (qab (qak (qak ?_)));refine qab (qab (wpAny_setEntries_of ho T.2.1 T.fits (qak ?_)));refine qab (qab (wpAny_setState_of ho T.2.1 T.fits ?_));refine qab (qab (wpAny_askSetting (qak (qak ?_))));have hdr:(!w.params.followText "set-order" && (!t.plain && decide (es.size>1)))=false:=by rw[T.2.2.2.1];simp
 refine (?_:wpAny _ _ (if (!w.params.followText "set-order" && (!t.plain && decide (es.size>1)))=true then _ else _) _ _ _);rw[qao (by rw[hdr];simp)];refine qab (qak ?_);refine qab (wpAny_setEpoch_of ho T.2.1 T.fits ?_);exact qab (wpAny_newObj_type (qak ⟨_,rfl,"set_iterator",_,⟨_,qaz _ rfl,rfl⟩,cS.lookup,hQ⟩))
end
section
variable {prog:Program} {w:World} {A:Around} {E:Value→Shared→Prop} {s:Shared} {S:Addr} {o:Obj} {es:Array (Int × Value)} {ep:Nat} {t:SetTable}
def yG(hT:s.TypeIs (.ref S) "set")(hQ:Q false s):wpAny (model prog w) A (Builtin.List.listLengthHint (.ref S)) Q E s:=by
 refine qab (wpAny_specialOf hT PySem.F.slot_set_len.lookup ?_);dsimp only;refine qab (wpAny_isInstance hT sub_set_self ?_);refine qab (wpAny_typeOf hT ?_);exact qak hQ
def qh(hh:A.handled=none)(T:Wkd prog w S o es ep t)(ho:s.heap.get? S=some o)(hn:es.size<=sizeLine)
  (hQ:∀h' tk,Ext s.heap h'->s.heap.objs.size<h'.objs.size->s.toks<=tk->Q ((bZ w S ep es).toList.map (·.2)) { s with heap:=h',toks:=tk}) :
  wpAny (model prog w) A (collect (.ref S)) Q E s:=by
 have hSlt:S<s.heap.objs.size:=qas ho;refine qab (wpAny_runValue (codeAny_builtin PySem.F.entry_proto_collect ?_));refine qab (wpAny_newObj_type ?_);refine qak ⟨plainId_quiet PySem.F.plain_list_iadd _,codeAny_builtin PySem.F.entry_list_iadd ?_⟩;generalize hL:({ cls:=.type "list",data:=.seq ([]:List Value).toArray}:Obj)=oL;have hS1:(s.heap.push oL).get? S=some o:=qae _ ho;have hL1:(s.heap.push oL).get? s.heap.objs.size=some oL:=qaz _ (by rw[<-hL];rfl);have hsz1:(s.heap.push oL).objs.size=s.heap.objs.size+1:=by rw[qbx]
 show wpAny _ A.in1 (Builtin.List.listExtendWith (.ref s.heap.objs.size) (.ref S) (.ref s.heap.objs.size)) _ _ { s with heap:=s.heap.push oL};have hT1:Shared.TypeIs { s with heap:=s.heap.push oL} (.ref S) "set":=⟨o,hS1,T.1.1⟩;refine qab (wpAny_typeOf hT1 ?_);have h1:Builtin.List.listSameRef (.ref s.heap.objs.size) (.ref S)=false:=by
  simp only[Builtin.List.listSameRef,beq_eq_false_iff_ne];exact qbE hSlt
 have h2:(Value.type "set" == Value.type "list")=false:=by decide
 have h3:(Value.type "set" == Value.type "tuple")=false:=by decide
 simp only[h1,h2,h3,Bool.or_false,qac,if_false];refine qab (tX (s:={ s with heap:=s.heap.push oL}) T hS1 ?_);generalize hI:({ cls:=.type "set_iterator",data:=.fields #[.int 0 0,.int 0 0,.ref S,.int es.size 0,.int ep 0]}:Obj)=oI;have hS2:((s.heap.push oL).push oI).get? S=some o:=qae _ hS1;have hL2:((s.heap.push oL).push oI).get? s.heap.objs.size=some oL:=qae _ hL1;have hI2:((s.heap.push oL).push oI).get? (s.heap.push oL).objs.size=some oI:=qaz _ (by rw[<-hI];rfl);show wpAny _ A.in1 _ _ _ { s with heap:=(s.heap.push oL).push oI};have hT2:Shared.TypeIs { s with heap:=(s.heap.push oL).push oI} (.ref S) "set":=⟨o,hS2,T.1.1⟩;refine qab (wpAny_holding (yG hT2 ?_));rw[qag (by decide +kernel)];refine qab (wpAny_rule ?_);refine qab ?_;show wpAny _ A.in1 (updateSeq s.heap.objs.size (·.push .none) >>= fun _=>updateSeq s.heap.objs.size (·.pop)) _ _ _;subst hL;refine qab (wpAny_updateSeq hL2 rfl ?_);have hS₂:=qbw (Obj.mapSeq (·.push Value.none)) hL2 rfl;refine wpAny_updateSeq hS₂ rfl ?_;have hS₃:=qbw (Obj.mapSeq (·.pop)) hS₂ rfl;have oth:∀b o',b≠s.heap.objs.size->((s.heap.push { cls:=.type "list",data:=.seq ([]:List Value).toArray}).push oI).get? b=some o' ->
   ((((s.heap.push { cls:=.type "list",data:=.seq ([]:List Value).toArray}).push oI).update s.heap.objs.size (Obj.mapSeq (·.push Value.none))).update s.heap.objs.size (Obj.mapSeq (·.pop))).get? b=some o' :=
  fun b o' hb e=>(qbL _ _ (Ne.symm hb)).trans ((qbL _ _ (Ne.symm hb)).trans e)
 have hneI:s.heap.objs.size≠(s.heap.push { cls:=.type "list",data:=.seq ([]:List Value).toArray}).objs.size:=by
  rw[hsz1];exact qaJ (qbX _)
 have hneS:S≠(s.heap.push { cls:=.type "list",data:=.seq ([]:List Value).toArray}).objs.size:=by
  rw[hsz1];exact qaJ (qbC hSlt)
 have hW:=(vE (A:=A.in1) (it:=(s.heap.push { cls:=.type "list",data:=.seq ([]:List Value).toArray}).objs.size) hh hneS T).toS;have hSf:s.heap.objs.size∉[(s.heap.push { cls:=.type "list",data:=.seq ([]:List Value).toArray}).objs.size,S]:=by
  simp only[qaj,qaN,or_false,not_or];exact⟨hneI,qbE hSlt⟩
 refine qak ⟨plainId_quiet PySem.F.plain_extend_loop _,codeAny_extend_loopS hW hn _ hSf _ es.size 0 _ _ _ rfl (qaR _) ?_ hS₃ (ItemsOf.nil _) fun s' acc' c' hm hS' hacc=>?_⟩
 ·refine⟨oth S _ (qaJ hSlt) hS2,0,?_,fun _=>ut _ T.2.2.2.2.2.1⟩;subst hI;exact oth _ _ (Ne.symm hneI) hI2
 ·show wpAny _ A (load s.heap.objs.size >>= _) _ _ s';refine qab (wpAny_load hS' ?_);refine qak ?_;have hacc2:acc'.toList=(bZ w S ep es).toList.map (·.2):=by
   have hl:(bZ w S ep es).size=es.size:=by
    rw[<-qaH,(hG w S ep es).length_eq,qaH]
   apply qbD;intro i;by_cases hi:i<es.size
   ·obtain⟨v,hv⟩:=dz acc' i (by rw[hacc.1];exact hi);obtain⟨x,hx,e⟩:=hacc.2 i v hv;rw[qay,hv,qat,qay,hx,e];rfl
   ·rw[qaT (by rw[qaH,hacc.1];lia),qaT (by rw[qal,qaH,hl];lia)]
  rw[hacc2];obtain⟨h',g',d',tk',os'⟩:=s';have eg:g'=s.gens:=hm.gens;have ed:d'=s.drawn:=hm.drawn;have eo:os'=s.os:=hm.os;have et:s.toks<=tk':=hm.toks;subst eg;subst ed;subst eo;refine hQ h' tk' (fun b o' e=>?_) (qas hS') et;have hb:b<s.heap.objs.size:=qas e;refine hm.heap b o' ?_ (oth b o' (qaJ hb) (qae _ (qae _ e)));simp only[qaj,qaN,or_false,not_or];exact⟨qaJ hb,by rw[hsz1];exact qaJ (qbC hb)⟩
def rM(hh:A.handled=none)(T:dq prog w (PB H0 R) s.heap S (bN w) ks)(hx:Ext H0 s.heap)
  (hQ:∀h' tk vs ks',Ext s.heap h'->s.heap.objs.size<h'.objs.size->s.toks<=tk->Lie prog w H0 (List.toArray vs) ks'->(∀v∈vs,∃a,v=.ref a/\R a)->ks'.Perm ks->Q vs { s with heap:=h',toks:=tk}) :
  wpAny (model prog w) A (collect (.ref S)) Q E s:=by
 obtain⟨o,es,ep,t,ks1,T,hr,hpm,hnd⟩:=T;unfold kh at hr;have hfit:es.size<=t.mask:=by rcases T.mask with e|e | e <;> rw[e] at hr ⊢ <;> lia
 have hmm:t.mask<=127:=by rcases T.mask with e|e | e <;> lia
 refine qh hh ⟨T.ex,T.data,T.dm,T.plain,T.led',T.wf.rise,T.size,hfit⟩ T.get (by rw[sizeLine_eq];lia) fun h' tk e1 e3 e2=>?_;have hp:=hG w S ep es;have hents:∀e∈es.toList,∃k a,e.2=.ref a/\TK prog w H0 k a/\R a:=by
  intro e he;obtain⟨i,hi⟩:=qaA.mp he;rw[qay] at hi;obtain⟨k,hk⟩:∃k,ks1[i]?=some k:=⟨_,qau (by rw[<-T.ents.1];exact dM hi)⟩;obtain⟨c,d,⟨oc,its,m,hc,q⟩,g,⟨ob,hb⟩,hR⟩:=T.ents.2 i e k hi hk;have e3:oc=ob:=Option.some.inj (hc.symm.trans (hx c ob hb));subst e3;exact⟨k,c,d,⟨oc,its,m,hb,q⟩,hR⟩
 let ky:Int × Value->List Int:=fun e=>Classical.epsilon fun k=>∃a,e.2=.ref a/\TK prog w H0 k a
 have hky:∀e∈es.toList,∃a,e.2=.ref a/\TK prog w H0 (ky e) a:=by
  intro e he;obtain⟨k,a,h1,h2,_⟩:=hents e he;exact Classical.epsilon_spec (p:=fun k=>∃a,e.2=.ref a/\TK prog w H0 k a) ⟨k,a,h1,h2⟩
 have hmap:es.toList.map ky=ks1:=by
  apply qbD;intro i;rw[qat,qay]
  cases hi:es[i]? with
  | none =>
   have:ks1.length<=i:=by
    rw[<-T.ents.1]
    have:=qbQ.mp hi
    lia
   rw[qaT this];rfl
  | some e =>
   obtain⟨k,hk⟩:∃k,ks1[i]?=some k:=⟨_,qau (by rw[<-T.ents.1];exact dM hi)⟩;obtain⟨c,d,hc,g,⟨ob,hb⟩,_⟩:=T.ents.2 i e k hi hk;have he:e∈es.toList:=qaA.mpr ⟨i,by rw[qay];exact hi⟩;obtain⟨a,h1,h2⟩:=hky e he;rw[d] at h1;cases h1;have h3:=j5 hx h2;rw[hk];show some (ky e)=some k;rw[IsTupleKey.inj h3 hc]
 refine hQ h' tk _ ((bZ w S ep es).toList.map ky) e1 e3 e2 ⟨by simp,?_⟩ ?_ ?_
 ·intro i v k hv hk;rw[qbj,qat] at hv;rw[qat] at hk
  cases hi:(bZ w S ep es).toList[i]? with
  | none=>rw[hi] at hv;cases hv
  | some e =>
   rw[hi] at hv hk;cases hv;cases hk;exact hky e (hp.mem_iff.mp (qaL hi))
 ·intro v hv;obtain⟨e,he,rfl⟩:=qaC.mp hv;obtain⟨k,a,h1,_,h3⟩:=hents e (hp.mem_iff.mp he);exact⟨a,h1,h3⟩
 ·have:=hp.map ky
  rw[hmap] at this;exact this.trans hpm
end
end SetT
namespace SortT
open PySem PyProof.Rows
structure Cmp (prog:Program) (w:World) (A:Around) (E:Value->Shared->Prop) (s:Shared) (kd:SortKind) (O:KeyOrd) where
 key:Keyed->O.α
 dflt:O.α
 good:Keyed->Prop
 ask:∀(x y:Keyed) (st:SortSt) (Q:Option Bool->SortSt->Prop),good x->good y->kindOf st=kd->Q (some (O.blt (key x) (key y))) st->wpS (model prog w) A E s (lt' x y) Q st
section
variable {prog:Program} {w:World} {A:Around} {E:Value→Shared→Prop} {s:Shared} {kd:SortKind} {O:KeyOrd} (C:Cmp prog w A E s kd O)
def kk(xs:Array Keyed)(i:Nat):O.α:=match xs[i]? with
 | some p=>C.key p
 | none=>C.dflt
def Srt(xs:Array Keyed)(lo hi:Nat):Prop:=∀i j,lo<=i->i<=j->j<hi->O.kle (kk C xs i) (kk C xs j)
def Fal(xs:Array Keyed)(lo hi:Nat):Prop:=∀i j,lo<=i->i<=j->j<hi->O.kle (kk C xs j) (kk C xs i)
def cE(xs:Array Keyed):Prop:=∀p,p∈xs.toList->C.good p
structure SB (kd:SortKind) (a₀:Array Keyed) (st:SortSt):Prop where
 perm:(arrOf st).Perm a₀
 kind:kindOf st=kd
 failed:failedOf st=none
def cL(lo:Nat)(xs ys:Array Keyed):Prop:=∀i,i<lo->ys[i]?=xs[i]?
def cL.rfl'{lo:Nat}{xs:Array Keyed}:cL lo xs xs:=fun _ _=>rfl
def cL.trans{lo:Nat}{xs ys zs:Array Keyed}(h:cL lo xs ys)(g:cL lo ys zs):cL lo xs zs:=fun i hi=>(g i hi).trans (h i hi)
variable {C} {a₀:Array Keyed} {st:SortSt}
def SB.size(h:SB kd a₀ st):(arrOf st).size=a₀.size:=h.perm.size_eq
def SB.arr(h:SB kd a₀ st)(hp:xs.Perm (arrOf st)):SB kd a₀ (setArr st xs):=⟨hp.trans h.perm,h.kind,h.failed⟩
def SB.good(h:SB kd a₀ st)(h0:cE C a₀):cE C (arrOf st):=fun p hp=>h0 p ((qbR.mp h.perm).mem_iff.mp hp)
def eE(h:xs[i]?=ys[j]?):kk C xs i=kk C ys j:=by unfold kk;rw[h]
def aP(h:xs[i]?=some p):kk C xs i=C.key p:=by unfold kk;rw[h]
def bu{xs:Array Keyed}(g:cE C xs){i:Nat}{p:Keyed}(h:xs[i]?=some p):C.good p:=by
 refine g p (qaA.mpr ⟨i,?_⟩);rw[qay];exact h
def aS(hi:i<xs.size)(h:∀p,xs[i]?=some p->Q p st):wpS (model prog w) A E s (elem' xs i) Q st:=by
 rw[elem'_eq];have e:=getElem?_pos xs i hi;rw[e];exact wpS_pure (h _ e)
def jW{i j:Nat}{Q:Option Bool->SortSt->Prop}(hB:SB kd a₀ st)(h0:cE C a₀)(hi:i<a₀.size)(hj:j<a₀.size)
  (h:Q (some (O.blt (kk C (arrOf st) i) (kk C (arrOf st) j))) st):wpS (model prog w) A E s (ltAt' i j) Q st:=by
 refine wpS_bind (wpS_get ?_);refine wpS_bind (aS (by rw[hB.size];exact hi) fun x hx=>wpS_bind (aS (by rw[hB.size];exact hj) fun y hy=>?_));rw[aP hx,aP hy] at h;exact C.ask x y st Q (bu (hB.good h0) hx) (bu (hB.good h0) hy) hB.kind h
def oV(hs:src<xs.size)(hd:d<=src)(i:Nat) :
  kk C (bubble xs src d) i=if i=src - d then kk C xs src else if src - d<i/\i<=src then kk C xs (i - 1) else kk C xs i:=by
 have e:=getElem?_bubble hs d hd i;split
 ·next h1=>rw[qag h1] at e;exact eE e
 ·next h1 =>
  rw[qao h1] at e;split
  ·next h2=>rw[qag h2] at e;exact eE e
  ·next h2=>rw[qao h2] at e;exact eE e
def jY(hj:j<=xs.size)(q:Nat) :
  kk C (mirror xs i j ((j - i) / 2)) q=if i<=q/\q<j then kk C xs (i+j - 1 - q) else kk C xs q:=by
 have e:=getElem?_mirror_all (i:=i) hj q;split
 ·next h1=>rw[qag h1] at e;exact eE e
 ·next h1=>rw[qao h1] at e;exact eE e
def dA(hj:j<=xs.size)(heq:∀q,i<=q->q<j->kk C xs q=kk C xs (j - 1))(q:Nat) :
  kk C (mirror xs i j ((j - i) / 2)) q=kk C xs q:=by
 rw[jY hj];split
 ·next h=>rw[heq (i+j - 1 - q) (by lia) (by lia),heq q h.1 h.2]
 ·rfl
def fB{xs:Array Keyed}{lo i j:Nat}(hj:j<=xs.size)(h:lo<=i):cL lo xs (mirror xs i j ((j - i) / 2)):=fun q hq=>by
 rw[getElem?_mirror_all hj,qao (by lia)]
def rT{xs:Array Keyed}{lo src d:Nat}(hs:src<xs.size)(hd:d<=src)(h:lo<=src - d):cL lo xs (bubble xs src d):=fun q hq=>by
 rw[getElem?_bubble hs d hd,qao (by lia),qao (by lia)]
abbrev AS:=Option (Option Nat) × Nat
abbrev DS:=Option (Option Nat) × Nat × Nat
def j7(p a nrem:Nat):StateT SortSt Sem AS :=
 forIn [a:nrem] ((none,a):AS) fun _ c=>do
  let q <-ltAt' (p+c.2) (p+c.2 - 1)
  match q with
  | some z=>if z=true then pure (ForInStep.done (none,c.2)) else pure (ForInStep.yield (none,c.2+1))
  | _=>pure (ForInStep.done (some none,c.2))
def endL(p n nrem:Nat):StateT SortSt Sem (Option Nat):=do
 reverseSlice' p (p+n)
 let c <-j7 p n nrem
 match c.1 with
 | some r=>pure r
 | none=>pure (some c.2)
def dscL(p n nrem:Nat):StateT SortSt Sem DS :=
 forIn [n:nrem] ((none,n,0):DS) fun _ c=>do
  let q <-ltAt' (p+c.2.1) (p+c.2.1 - 1)
  match q with
  | some z =>
   if z=true then
    if c.2.2>0 then do
     reverseSlice' (p+c.2.1 - (c.2.2+1)) (p+c.2.1)
     pure (ForInStep.yield (none,c.2.1+1,0))
    else pure (ForInStep.yield (none,c.2.1+1,0))
   else do
    let q <-ltAt' (p+c.2.1 - 1) (p+c.2.1)
    match q with
    | some z=>if z=true then pure (ForInStep.done (none,c.2.1,c.2.2)) else pure (ForInStep.yield (none,c.2.1+1,c.2.2+1))
    | _=>pure (ForInStep.done (some none,c.2.1,c.2.2))
  | _=>pure (ForInStep.done (some none,c.2.1,c.2.2))
def dscP(p n nrem:Nat):StateT SortSt Sem (Option Nat):=do
 liftM (rule "list.sort.descending-run")
 let c <-dscL p (n+1) nrem
 match c.1 with
 | some r=>pure r
 | none =>
  if c.2.2>0 then do
   reverseSlice' (p+c.2.1 - (c.2.2+1)) (p+c.2.1)
   endL p c.2.1 nrem
  else endL p c.2.1 nrem
def run_eq(p nrem:Nat):countRun' p nrem=(do
  let c <-j7 p 1 nrem
  match c.1 with
  | some r=>pure r
  | none =>
   if (c.2 == nrem)=true then pure (some c.2)
   else if c.2>1 then do
    let q <-ltAt' p (p+c.2 - 1)
    match q with
    | some z=>if z=true then pure (some c.2) else do
      reverseSlice' p (p+c.2)
      dscP p c.2 nrem
    | _=>pure none
   else dscP p c.2 nrem):=by
 refine congrArg (fun g=>j7 p 1 nrem >>= g) (funext fun c=>?_);obtain⟨r,n⟩:=c
 cases r with
 | some r=>rfl
 | none =>
  dsimp only;split
  ·rfl
  ·split
   ·congr 1;funext x
    cases x with
    | none=>rfl
    | some z =>
     dsimp only;split
     ·rfl
     ·refine congrArg _ (funext fun _=>?_);refine congrArg _ (funext fun _=>?_);refine congrArg (fun g=>dscL p (n+1) nrem >>= g) (funext fun c2=>?_);obtain⟨r2,n2,q2⟩:=c2
      cases r2 with
      | some r2=>rfl
      | none =>
       dsimp only;split
       ·refine congrArg _ (funext fun _=>?_);refine congrArg _ (funext fun _=>?_);refine congrArg (fun g=>j7 p n2 nrem >>= g) (funext fun c3=>?_);obtain⟨r3,n3⟩:=c3;cases r3 <;> rfl
       ·refine congrArg _ (funext fun _=>?_);refine congrArg (fun g=>j7 p n2 nrem >>= g) (funext fun c3=>?_);obtain⟨r3,n3⟩:=c3;cases r3 <;> rfl
   ·refine congrArg _ (funext fun _=>?_);refine congrArg (fun g=>dscL p (n+1) nrem >>= g) (funext fun c2=>?_);obtain⟨r2,n2,q2⟩:=c2
    cases r2 with
    | some r2=>rfl
    | none =>
     dsimp only;split
     ·refine congrArg _ (funext fun _=>?_);refine congrArg _ (funext fun _=>?_);refine congrArg (fun g=>j7 p n2 nrem >>= g) (funext fun c3=>?_);obtain⟨r3,n3⟩:=c3;cases r3 <;> rfl
     ·refine congrArg _ (funext fun _=>?_);refine congrArg (fun g=>j7 p n2 nrem >>= g) (funext fun c3=>?_);obtain⟨r3,n3⟩:=c3;cases r3 <;> rfl
def tD(h0:cE C a₀)(hn:p+nrem<=a₀.size)(ha:1<=a)(han:a<=nrem)(hB:SB kd a₀ st)
  (hs:Srt C (arrOf st) p (p+a))
  (h:∀n,a<=n->n<=nrem->Srt C (arrOf st) p (p+n)->(n=nrem\/O.klt (kk C (arrOf st) (p+n)) (kk C (arrOf st) (p+n - 1)))->Q (none,n) st) :
  wpS (model prog w) A E s (j7 p a nrem) Q st:=by
 refine wpS_forRange (I:=fun x c st'=>st'=st/\c=(none,x)/\Srt C (arrOf st) p (p+x)) ?_ ?_ ⟨rfl,rfl,hs⟩
 ·rintro x c st' h1 h2 ⟨rfl,rfl,h3⟩;refine wpS_bind (jW hB h0 (by lia) (by lia) ?_)
  cases hz:O.blt (kk C (arrOf st') (p+x)) (kk C (arrOf st') (p+x - 1)) with
  | true=>exact wpS_pure (h x h1 (by lia) h3 (.inr hz))
  | false =>
   refine wpS_pure ⟨rfl,rfl,fun i j hi hij hj=>?_⟩;by_cases hjx:j<p+x
   ·exact h3 i j hi hij hjx
   ·have e:j=p+x:=by lia
    subst e;by_cases hi':i=p+x
    ·subst hi';exact KeyOrd.kle_refl _
    ·exact KeyOrd.kle_trans (h3 i (p+x - 1) hi (by lia) (by lia)) hz
 ·simp_all
def kg(h:Q () (setArr st (mirror (arrOf st) i j ((j - i) / 2)))):wpS (model prog w) A E s (reverseSlice' i j) Q st:=by
 exact wpS_modify h
def sJ(h0:cE C a₀)(hn:p+nrem<=a₀.size)(h1:1<=n)(hnn:n<=nrem)(hB:SB kd a₀ st)
  (hs:Fal C (arrOf st) p (p+n))
  (h:∀m st',SB kd a₀ st'->cL p (arrOf st) (arrOf st')->pendingOf st'=pendingOf st->1<=m->m<=nrem->Srt C (arrOf st') p (p+m)->Q (some m) st') :
  wpS (model prog w) A E s (endL p n nrem) Q st:=by
 have hsz:p+n<=(arrOf st).size:=by rw[hB.size];lia
 refine wpS_bind (kg ?_);have hB':=hB.arr (mirror_perm (arrOf st) p (p+n) ((p+n - p) / 2));refine wpS_bind (tD h0 hn h1 hnn hB' (fun i j hi hij hj=>?_) fun m a1 a2 a3 _=>wpS_pure (h m _ hB' (fB hsz (qah _)) rfl (by lia) a2 a3));rw[jY hsz,jY hsz,qag (by lia),qag (by lia)];exact hs _ _ (by lia) (by lia) (by lia)
def wps_dsc{p n nrem:Nat}{Q:DS->SortSt->Prop}(h0:cE C a₀)(hn:p+nrem<=a₀.size)(h1:1<=n)(hnn:n<=nrem)(hB:SB kd a₀ st)(hs:Fal C (arrOf st) p (p+n))
  (h:∀m q st',SB kd a₀ st'->cL p (arrOf st) (arrOf st')->pendingOf st'=pendingOf st->n<=m->m<=nrem->Fal C (arrOf st') p (p+m)->q+1<=m ->
   (∀i,p+m - (q+1)<=i->i<p+m->kk C (arrOf st') i=kk C (arrOf st') (p+m - 1))->Q (none,m,q) st') :
  wpS (model prog w) A E s (dscL p n nrem) Q st:=by
 refine wpS_forRange (I:=fun x c st'=>∃q,c=(none,x,q)/\SB kd a₀ st'/\cL p (arrOf st) (arrOf st')/\pendingOf st'=pendingOf st/\Fal C (arrOf st') p (p+x)/\q+1<=x /\
   ∀i,p+x - (q+1)<=i->i<p+x->kk C (arrOf st') i=kk C (arrOf st') (p+x - 1)) ?_ ?_ ⟨0,rfl,hB,cL.rfl',rfl,hs,by lia,fun i a b=>by congr 1;lia⟩
 ·rintro x c st' hx1 hx2 ⟨q,rfl,hB',hsm,hpd,hf,hq,he⟩;have hsz:p+x<=(arrOf st').size:=by rw[hB'.size];lia
  have grow:∀xs:Array Keyed,(∀i,kk C xs i=kk C (arrOf st') i)->O.kle (kk C (arrOf st') (p+x)) (kk C (arrOf st') (p+x - 1))->Fal C xs p (p+(x+1)):=by
   intro xs hk hle i j hi hij hj;rw[hk,hk];by_cases hjx:j<p+x
   ·exact hf i j hi hij hjx
   ·have e:j=p+x:=by lia
    subst e;by_cases hi':i=p+x
    ·subst hi';exact KeyOrd.kle_refl _
    ·exact KeyOrd.kle_trans hle (hf i (p+x - 1) hi (by lia) (by lia))
  dsimp only;refine wpS_bind (jW hB' h0 (by lia) (by lia) ?_)
  cases hz:O.blt (kk C (arrOf st') (p+x)) (kk C (arrOf st') (p+x - 1)) with
  | true =>
   dsimp only;rw[qag rfl];by_cases hq0:q>0
   ·rw[qag hq0];refine wpS_bind (kg (wpS_pure ⟨0,rfl,hB'.arr (mirror_perm _ _ _ _),hsm.trans (fB hsz (by lia)),hpd,grow _ (dA hsz he) (KeyOrd.kle_of_klt hz),by lia,fun i a b=>by congr 1;lia⟩))
   ·rw[qao hq0];exact wpS_pure ⟨0,rfl,hB',hsm,hpd,grow _ (fun _=>rfl) (KeyOrd.kle_of_klt hz),by lia,fun i a b=>by congr 1;lia⟩
  | false =>
   dsimp only;rw[qao (by simp)];refine wpS_bind (jW hB' h0 (by lia) (by lia) ?_)
   cases hz2:O.blt (kk C (arrOf st') (p+x - 1)) (kk C (arrOf st') (p+x)) with
   | true =>
    dsimp only;rw[qag rfl];exact wpS_pure (h x q st' hB' hsm hpd hx1 (by lia) hf hq he)
   | false =>
    dsimp only;rw[qao (by simp)];have heq:kk C (arrOf st') (p+x)=kk C (arrOf st') (p+x - 1):=KeyOrd.kle_antisymm hz2 hz;refine wpS_pure ⟨q+1,rfl,hB',hsm,hpd,grow _ (fun _=>rfl) hz2,by lia,fun i a b=>?_⟩;have e1:p+(x+1) - 1=p+x:=by lia
    rw[e1];by_cases hix:i=p+x
    ·subst hix;rfl
    ·rw[heq];exact he i (by lia) (by lia)
 ·rintro c st' ⟨q,rfl,hB',hsm,hpd,hf,hq,he⟩;have e:max n nrem=nrem:=by lia
  rw[e] at hf hq he ⊢;exact h nrem q st' hB' hsm hpd hnn (qah _) hf hq he
def qQ{p n nrem:Nat}{Q:Option Nat->SortSt->Prop}(h0:cE C a₀)(hn:p+nrem<=a₀.size)(hnn:n+1<=nrem)(hB:SB kd a₀ st)(hs:Fal C (arrOf st) p (p+(n+1)))
  (h:∀m st',SB kd a₀ st'->cL p (arrOf st) (arrOf st')->pendingOf st'=pendingOf st->1<=m->m<=nrem->Srt C (arrOf st') p (p+m)->Q (some m) st') :
  wpS (model prog w) A E s (dscP p n nrem) Q st:=by
 refine wpS_bind (wpS_lift (wpAny_rule ⟨rfl,?_⟩));refine wpS_bind (wps_dsc h0 hn (by lia) hnn hB hs fun m q st' hB' hsm hpd hm1 hm2 hf hq he=>?_);dsimp only;have hsz:p+m<=(arrOf st').size:=by rw[hB'.size];lia
 by_cases hq0:q>0
 ·rw[qag hq0];refine wpS_bind (kg (sJ h0 hn (by lia) hm2 (hB'.arr (mirror_perm _ _ _ _)) ?_ fun m2 st2 b1 b2 b3=>h m2 st2 b1 ((hsm.trans (fB hsz (by lia))).trans b2) (b3.trans hpd)));intro i j hi hij hj;rw[dA hsz he,dA hsz he];exact hf i j hi hij hj
 ·rw[qao hq0];exact sJ h0 hn (by lia) hm2 hB' hf fun m2 st2 b1 b2 b3=>h m2 st2 b1 (hsm.trans b2) (b3.trans hpd)
def tU(h0:cE C a₀)(hn:p+nrem<=a₀.size)(h1:1<=nrem)(hB:SB kd a₀ st)
  (h:∀m st',SB kd a₀ st'->cL p (arrOf st) (arrOf st')->pendingOf st'=pendingOf st->1<=m->m<=nrem->Srt C (arrOf st') p (p+m)->Q (some m) st') :
  wpS (model prog w) A E s (countRun' p nrem) Q st:=by
 rw[run_eq];refine wpS_bind (tD h0 hn (qah 1) h1 hB (fun i j hi hij hj=>by have e:i=j:=(by lia);subst e;exact KeyOrd.kle_refl _) fun n a1 a2 hsn hor=>?_);by_cases hnn:n=nrem
 ·rw[qag (by simpa using hnn)];exact wpS_pure (h n st hB cL.rfl' rfl a1 a2 hsn)
 ·rw[qao (by simpa using hnn)];have hlt:=hor.resolve_left hnn;by_cases hgt:n>1
  ·rw[qag hgt];refine wpS_bind (jW hB h0 (by lia) (by lia) ?_)
   cases hz:O.blt (kk C (arrOf st) p) (kk C (arrOf st) (p+n - 1)) with
   | true =>
    dsimp only;exact wpS_pure (h n st hB cL.rfl' rfl a1 a2 hsn)
   | false =>
    dsimp only;have hsz:p+n<=(arrOf st).size:=by rw[hB.size];lia
    have hall:∀q,p<=q->q<p+n->kk C (arrOf st) q=kk C (arrOf st) (p+n - 1):=fun q b1 b2 =>
     KeyOrd.kle_antisymm (hsn q (p+n - 1) b1 (by lia) (by lia)) (KeyOrd.kle_trans hz (hsn p q (qah _) b1 b2))
    refine wpS_bind (kg (qQ h0 hn (by lia) (hB.arr (mirror_perm _ _ _ _)) ?_ fun m2 st2 b1 b2 b3=>h m2 st2 b1 ((fB hsz (qah _)).trans b2) b3));intro i j hi hij hj;rw[dA hsz hall,dA hsz hall];by_cases hjn:j<p+n
    ·rw[hall i hi (by lia),hall j (by lia) hjn];exact KeyOrd.kle_refl _
    ·have e:j=p+n:=by lia
     subst e;by_cases hi':i=p+n
     ·subst hi';exact KeyOrd.kle_refl _
     ·rw[hall i hi (by lia)];exact KeyOrd.kle_of_klt hlt
  ·rw[qao hgt];have e:n=1:=by lia
   subst e;refine qQ h0 hn (by lia) hB ?_ h;intro i j hi hij hj;by_cases hi':i=j
   ·subst hi';exact KeyOrd.kle_refl _
   ·have e1:i=p:=by lia
    have e2:j=p+1:=by lia
    subst e1;subst e2;exact KeyOrd.kle_of_klt hlt
end
section
variable {prog:Program} {w:World} {A:Around} {E:Value→Shared→Prop} {s:Shared} {kd:SortKind} {O:KeyOrd} {C:Cmp prog w A E s kd O} {a₀:Array Keyed} {st:SortSt}
def tI(h0:cE C a₀)(hn:p+n<=a₀.size)(hok:ok<=n)(hB:SB kd a₀ st)(hs:Srt C (arrOf st) p (p+ok))
  (h:∀st',SB kd a₀ st'->cL p (arrOf st) (arrOf st')->pendingOf st'=pendingOf st->Srt C (arrOf st') p (p+n)->Q true st'):wpS (model prog w) A E s (binarySort' p n ok) Q st:=by
 rw[binarySort'_eq]
 refine wpS_bind (wpS_mono (wpS_forRange (I:=fun k c st'=>c=(none,())/\SB kd a₀ st'/\cL p (arrOf st) (arrOf st')/\pendingOf st'=pendingOf st/\Srt C (arrOf st') p (p+min k n))
  (Q:=fun c st'=>c=(none,())/\SB kd a₀ st'/\cL p (arrOf st) (arrOf st')/\pendingOf st'=pendingOf st/\Srt C (arrOf st') p (p+n)) ?_ ?_ ?_) ?_)
 ·rintro k c st' hk1 hk2 ⟨rfl,hB',hsm,hpd,hs'⟩;have ek:min k n=k:=by lia
  rw[ek] at hs'
  refine wpS_bind (wpS_mono (wpS_forRange (I:=fun x c st''=>st''=st'/\∃l r,c=(none,l,r)/\l<=r/\r<=k/\r - l<=k - x /\
    (∀i,p<=i->i<p+l->O.kle (kk C (arrOf st') i) (kk C (arrOf st') (p+k)))/\∀i,p+r<=i->i<p+k->O.klt (kk C (arrOf st') (p+k)) (kk C (arrOf st') i))
   (Q:=fun c st''=>st''=st'/\∃l r,c=(none,l,r)/\l<=k /\
    (∀i,p<=i->i<p+l->O.kle (kk C (arrOf st') i) (kk C (arrOf st') (p+k)))/\∀i,p+l<=i->i<p+k->O.klt (kk C (arrOf st') (p+k)) (kk C (arrOf st') i)) ?_ ?_ ?_) ?_)
  ·rintro x c st'' _ hx ⟨rfl,l,r,rfl,hlr,hrk,hm,hlo,hhi⟩;by_cases hge:l>=r
   ·rw[qag hge];have e:l=r:=by lia
    subst e;exact wpS_pure ⟨rfl,l,l,rfl,hrk,hlo,hhi⟩
   ·rw[qao hge];refine wpS_bind (jW hB' h0 (by lia) (by lia) ?_)
    cases hz:O.blt (kk C (arrOf st'') (p+k)) (kk C (arrOf st'') (p+(l+r) / 2)) with
    | true =>
     simp only[if_true];exact wpS_pure ⟨rfl,l,(l+r) / 2,rfl,by lia,by lia,by lia,hlo,fun i a b=>KeyOrd.klt_of_klt_of_kle hz (hs' _ _ (by lia) a b)⟩
    | false =>
     simp only[qac,if_false];exact wpS_pure ⟨rfl,(l+r) / 2+1,r,rfl,by lia,by lia,by lia,fun i a b=>KeyOrd.kle_trans (hs' i (p+(l+r) / 2) a (by lia) (by lia)) hz,hhi⟩
  ·rintro c st'' ⟨rfl,l,r,rfl,hlr,hrk,hm,hlo,hhi⟩;have e:l=r:=by lia
   subst e;exact⟨rfl,l,l,rfl,hrk,hlo,hhi⟩
  ·exact⟨rfl,0,k,rfl,by lia,by lia,by lia,fun i a b=>by lia,fun i a b=>by lia⟩
  ·rintro c st'' ⟨rfl,l,r,rfl,hlk,hlo,hhi⟩;dsimp only;rw[moveDown'_eq];have hks:p+k<(arrOf st'').size:=by rw[hB'.size];lia
   have ed:p+k - (p+l)=k - l:=by lia
   rw[ed];refine wpS_bind (wpS_modify (wpS_pure ⟨rfl,hB'.arr (bubble_perm _ _ _),hsm.trans (rT hks (by lia) (by lia)),hpd,?_⟩));have e1:min (k+1) n=k+1:=by lia
   rw[e1];intro i j hi hij hj;show O.kle (kk C (bubble (arrOf st'') (p+k) (k - l)) i) (kk C (bubble (arrOf st'') (p+k) (k - l)) j);have e2:p+k - (k - l)=p+l:=by lia
   rw[oV hks (by lia),oV hks (by lia),e2]
   repeat' split
   all_goals first
    | (exfalso;lia)
    | exact KeyOrd.kle_refl _
    | exact hlo _ (by lia) (by lia)
    | exact KeyOrd.kle_of_klt (hhi _ (by lia) (by lia))
    | exact hs' _ _ (by lia) (by lia) (by lia)
 ·rintro c st' ⟨hc,hB',hsm,hpd,hs'⟩;refine⟨hc,hB',hsm,hpd,?_⟩;have e:min (max (max ok 1) n) n=n:=by lia
  rwa [e] at hs'
 ·refine⟨rfl,hB,cL.rfl',rfl,fun i j hi hij hj=>?_⟩;by_cases h1:ok=0
  ·have e:i=j:=by lia
   subst e;exact KeyOrd.kle_refl _
  ·exact hs i j hi hij (by lia)
 ·rintro c st' ⟨rfl,hB',hsm,hpd,hs'⟩;exact wpS_pure (h st' hB' hsm hpd hs')
def gallop':Bool->Keyed->Array Keyed->Nat->Nat->Nat->StateT SortSt Sem (Option Nat):=sortPriv% PySem.Builtin.gallop
def n4(left:Bool)(key:Keyed)(arr:Array Keyed)(base i:Nat):StateT SortSt Sem (Option Bool):=do
 let x <-elem' arr (base+i)
 if left then lt' x key else return (<-lt' key x).map (!·)
def uT(left:Bool)(key:Keyed)(arr:Array Keyed)(base n hint:Nat):gallop' left key arr base n hint=(do
  let mut la:=0
  let mut of:=1
  let mut lo:=0
  let mut hi:=0
  let some rt <-n4 left key arr base hint|return none
  if rt then
   let mx:=n - hint
   for _ in [0:n] do
    if of>=mx then break
    let some q <-n4 left key arr base (hint+of)|return none
    if !q then break
    la:=of
    of:=2 * of+1
   lo:=hint+la+1
   hi:=hint+min of mx
  else
   let mx:=hint+1
   for _ in [0:n] do
    if of>=mx then break
    let some q <-n4 left key arr base (hint - of)|return none
    if q then break
    la:=of
    of:=2 * of+1
   lo:=hint+1 - min of mx
   hi:=hint - la
  for _ in [0:n] do
   if lo>=hi then break
   let m:=lo+(hi - lo) / 2
   let some q <-n4 left key arr base m|return none
   if q then lo:=m+1 else hi:=m
  return some hi):=rfl
def ahead(C:Cmp prog w A E s kd O)(left:Bool)(key:Keyed)(arr:Array Keyed)(i:Nat):Bool:=if left then O.blt (kk C arr i) (C.key key) else !O.blt (C.key key) (kk C arr i)
def kQ(hk:kindOf st=kd)(hg:cE C arr)(hkey:C.good key)(hi:base+i<arr.size)
  (h:Q (some (ahead C left key arr (base+i))) st):wpS (model prog w) A E s (n4 left key arr base i) Q st:=by
 refine wpS_bind (aS hi fun x hx=>?_);unfold ahead at h;rw[aP hx] at h
 cases left with
 | true =>
  exact C.ask x key st Q (bu hg hx) hkey hk h
 | false =>
  exact wpS_bind (C.ask key x st _ hkey (bu hg hx) hk (wpS_pure h))
def halfL(left:Bool)(key:Keyed)(arr:Array Keyed)(base n lo hi:Nat):StateT SortSt Sem DS :=
 forIn [:n] ((none,lo,hi):DS) fun _ c =>
  if c.2.1>=c.2.2 then pure (ForInStep.done (none,c.2.1,c.2.2))
  else do
   let q <-n4 left key arr base (c.2.1+(c.2.2 - c.2.1) / 2)
   match q with
   | some q=>if q=true then pure (ForInStep.yield (none,c.2.1+(c.2.2 - c.2.1) / 2+1,c.2.2)) else pure (ForInStep.yield (none,c.2.1,c.2.1+(c.2.2 - c.2.1) / 2))
   | _=>pure (ForInStep.done (some none,c.2.1,c.2.2))
section
variable {left:Bool} {key:Keyed} {arr:Array Keyed} {base n:Nat}
def gu(hn:base+n<=arr.size)(hs:Srt C arr base (base+n)):∀i j,i<=j->j<n->ahead C left key arr (base+j)=true->ahead C left key arr (base+i)=true:=by
 intro i j hij hj;have hle:=hs (base+i) (base+j) (by lia) (by lia) (by lia);unfold ahead
 cases left with
 | true=>exact fun q=>KeyOrd.klt_of_kle_of_klt hle q
 | false =>
  simp only[qac,if_false,qbq];exact fun q=>KeyOrd.kle_trans hle q
def jx(hn:base+n<=arr.size)(hs:Srt C arr base (base+n)):∀i j,i<=j->j<n->ahead C left key arr (base+i)=false->ahead C left key arr (base+j)=false:=by
 intro i j hij hj hi
 cases hj':ahead C left key arr (base+j) with
 | false=>rfl
 | true=>rw[gu hn hs i j hij hj hj'] at hi;cases hi
def q0{lo hi:Nat}{Q:DS->SortSt->Prop}(hk:kindOf st=kd)(hg:cE C arr)(hkey:C.good key)(hn:base+n<=arr.size)(hs:Srt C arr base (base+n))
  (hlh:lo<=hi) (hhn:hi<=n) (h1:∀i,i<lo->ahead C left key arr (base+i)=true) (h2:∀i,hi<=i->i<n->ahead C left key arr (base+i)=false)
  (h:∀k,k<=n->(∀i,i<k->ahead C left key arr (base+i)=true)->(∀i,k<=i->i<n->ahead C left key arr (base+i)=false)->Q (none,k,k) st) :
  wpS (model prog w) A E s (halfL left key arr base n lo hi) Q st:=by
 refine wpS_forRange (I:=fun x c st'=>st'=st/\∃l r,c=(none,l,r)/\l<=r/\r<=n/\r - l<=n - x/\(∀i,i<l->ahead C left key arr (base+i)=true)/\∀i,r<=i->i<n->ahead C left key arr (base+i)=false)
  ?_ ?_ ⟨rfl,lo,hi,rfl,hlh,hhn,by lia,h1,h2⟩
 ·rintro x c st' _ hx ⟨rfl,l,r,rfl,hlr,hrn,hm,ha,hb⟩;by_cases hge:l>=r
  ·rw[qag hge];have e:l=r:=by lia
   subst e;exact wpS_pure (h l hrn ha hb)
  ·rw[qao hge];refine wpS_bind (kQ hk hg hkey (by lia) ?_)
   cases hz:ahead C left key arr (base+(l+(r - l) / 2)) with
   | true =>
    simp only[if_true];exact wpS_pure ⟨rfl,_,_,rfl,by lia,by lia,by lia,fun i hi=>gu hn hs i (l+(r - l) / 2) (by lia) (by lia) hz,hb⟩
   | false =>
    simp only[qac,if_false];exact wpS_pure ⟨rfl,_,_,rfl,by lia,by lia,by lia,ha,fun i a b=>jx hn hs (l+(r - l) / 2) i a b hz⟩
 ·rintro c st' ⟨rfl,l,r,rfl,hlr,hrn,hm,ha,hb⟩;have e:l=r:=by lia
  subst e;exact h l hrn ha hb
def dD{hint:Nat}{Q:Option Nat->SortSt->Prop}(hk:kindOf st=kd)(hg:cE C arr)(hkey:C.good key)(hn:base+n<=arr.size)(hh:hint<n)(hs:Srt C arr base (base+n))
  (h:∀k,k<=n->(∀i,i<k->ahead C left key arr (base+i)=true)->(∀i,k<=i->i<n->ahead C left key arr (base+i)=false)->Q (some k) st) :
  wpS (model prog w) A E s (gallop' left key arr base n hint) Q st:=by
 rw[uT];refine wpS_bind (kQ hk hg hkey (by lia) ?_)
 cases hz:ahead C left key arr (base+hint) with
 | true =>
  refine wpS_bind (wpS_mono (wpS_forRange (I:=fun x c st'=>st'=st/\∃la of,c=(none,la,of)/\la<of/\x+1<=of/\hint+la<n/\ahead C left key arr (base+(hint+la))=true)
   (Q:=fun c st'=>st'=st/\∃la of,c=(none,la,of)/\la<of/\hint+la<n/\ahead C left key arr (base+(hint+la))=true/\(n - hint<=of\/of<n - hint/\ahead C left key arr (base+(hint+of))=false)) ?_ ?_
    ⟨rfl,0,1,rfl,by lia,by lia,hh,hz⟩) ?_)
  ·rintro x c st' _ hx ⟨rfl,la,of,rfl,h1,h2,h3,h4⟩;dsimp only;by_cases hge:of>=n - hint
   ·rw[qag hge];exact wpS_pure ⟨rfl,la,of,rfl,h1,h3,h4,.inl hge⟩
   ·rw[qao hge];refine wpS_bind (kQ hk hg hkey (by lia) ?_)
    cases hy:ahead C left key arr (base+(hint+of)) with
    | true =>
     simp only[qaI,qac,if_false];exact wpS_pure ⟨rfl,_,_,rfl,by lia,by lia,by lia,hy⟩
    | false =>
     simp only[qbb,if_true];exact wpS_pure ⟨rfl,la,of,rfl,h1,h3,h4,.inr ⟨by lia,hy⟩⟩
  ·rintro c st' ⟨rfl,la,of,rfl,h1,h2,h3,h4⟩;exact⟨rfl,la,of,rfl,h1,h3,h4,.inl (by lia)⟩
  ·rintro c st' ⟨rfl,la,of,rfl,h1,h3,h4,h5⟩;dsimp only;refine wpS_bind (q0 (lo:=hint+la+1) (hi:=hint+min of (n - hint)) hk hg hkey hn hs (by lia) (by lia) (fun i hi=>gu hn hs i (hint+la) (by lia) h3 h4) (fun i a b=>?_) fun k a b c=>wpS_pure (h k a b c));rcases h5 with h5|⟨h5,h6⟩
   ·lia
   ·exact jx hn hs (hint+of) i (by lia) b h6
 | false =>
  simp only[qac,if_false]
  refine wpS_bind (wpS_mono (wpS_forRange (I:=fun x c st'=>st'=st/\∃la of,c=(none,la,of)/\la<of/\x+1<=of/\la<=hint/\ahead C left key arr (base+(hint - la))=false)
   (Q:=fun c st'=>st'=st/\∃la of,c=(none,la,of)/\la<of/\la<=hint/\ahead C left key arr (base+(hint - la))=false/\(hint+1<=of\/of<hint+1/\ahead C left key arr (base+(hint - of))=true)) ?_ ?_
    ⟨rfl,0,1,rfl,by lia,by lia,by lia,hz⟩) ?_)
  ·rintro x c st' _ hx ⟨rfl,la,of,rfl,h1,h2,h3,h4⟩;dsimp only;by_cases hge:of>=hint+1
   ·rw[qag hge];exact wpS_pure ⟨rfl,la,of,rfl,h1,h3,h4,.inl hge⟩
   ·rw[qao hge];refine wpS_bind (kQ hk hg hkey (by lia) ?_)
    cases hy:ahead C left key arr (base+(hint - of)) with
    | true =>
     simp only[if_true];exact wpS_pure ⟨rfl,la,of,rfl,h1,h3,h4,.inr ⟨by lia,hy⟩⟩
    | false =>
     simp only[qac,if_false];exact wpS_pure ⟨rfl,_,_,rfl,by lia,by lia,by lia,hy⟩
  ·rintro c st' ⟨rfl,la,of,rfl,h1,h2,h3,h4⟩;exact⟨rfl,la,of,rfl,h1,h3,h4,.inl (by lia)⟩
  ·rintro c st' ⟨rfl,la,of,rfl,h1,h3,h4,h5⟩;dsimp only;refine wpS_bind (q0 (lo:=hint+1 - min of (hint+1)) (hi:=hint - la) hk hg hkey hn hs (by lia) (by lia) (fun i hi=>?_) (fun i a b=>jx hn hs (hint - la) i a b h4) fun k a b c=>wpS_pure (h k a b c));rcases h5 with h5|⟨h5,h6⟩
   ·lia
   ·exact gu hn hs i (hint - of) (by lia) (by lia) h6
end
end
def ly:Array Keyed->Array Keyed->StateT SortSt Sem (Array Keyed):=sortPriv% PySem.Builtin.mergeLo
def setG:Nat->StateT SortSt Sem Unit:=sortPriv% PySem.Builtin.setMinGallop
section
variable {prog:Program} {w:World} {A:Around} {E:Value→Shared→Prop} {s:Shared} {kd:SortKind} {O:KeyOrd} (C:Cmp prog w A E s kd O)
def LS(l:List Keyed):Prop:=l.Pairwise fun x y=>O.kle (C.key x) (C.key y)
def LB(l m:List Keyed):Prop:=∀x∈l,∀y∈m,O.kle (C.key x) (C.key y)
variable {C}
def cc(h1:LS C l)(h2:LS C m)(h3:LB C l m):LS C (l++m):=by
 unfold LS;rw[List.pairwise_append];exact⟨h1,h2,h3⟩
def mw{xs:Array Keyed}{lo hi:Nat}(hhi:hi<=xs.size)(h:Srt C xs lo hi):LS C (xs.extract lo hi).toList:=by
 unfold LS;rw[qbi];intro i j hi' hj' hij;have hsz:(xs.extract lo hi).size=hi - lo:=by simp;lia
 have hj2:j<(xs.extract lo hi).size:=by exact hj'
 have e1:(xs.extract lo hi).toList[i]=xs[lo+i]'(by lia):=by simp
 have e2:(xs.extract lo hi).toList[j]=xs[lo+j]'(by lia):=by simp
 rw[e1,e2]
 have:=h (lo+i) (lo+j) (by lia) (by lia) (by lia)
 rw[aP (getElem?_pos xs (lo+i) (by lia)),aP (getElem?_pos xs (lo+j) (by lia))] at this;exact this
def jL(h:LS C xs.toList):Srt C xs 0 xs.size:=by
 intro i j _ hij hj;rw[aP (getElem?_pos xs i (by lia)),aP (getElem?_pos xs j hj)];by_cases e:i=j
 ·subst e;exact KeyOrd.kle_refl _
 ·unfold LS at h;rw[qbi] at h
  have:=h i j (by simp;lia) (by simpa using hj) (by lia)
  simpa using this
structure MI (C:Cmp prog w A E s kd O) (a b ou:Array Keyed) (i j:Nat):Prop where
 perm:(ou.toList++(a.toList.drop i++b.toList.drop j)).Perm (a.toList++b.toList)
 srt:LS C ou.toList
 low:LB C ou.toList (a.toList.drop i++b.toList.drop j)
variable {a b ou:Array Keyed} {i j:Nat}
def MI.size(m:MI C a b ou i j)(hi:i<=a.size)(hj:j<=b.size):ou.size+(a.size - i)+(b.size - j)=a.size+b.size:=by
 have:=m.perm.length_eq
 simp at this;lia
def iD{xs:Array Keyed}{i:Nat}{p:Keyed}(h:xs[i]?=some p):xs.toList.drop i=p::xs.toList.drop (i+1):=by
 have hl:i<xs.toList.length:=by
  have:=(qbe.mp h).1
  simpa using this
 have e:xs.toList[i]=p:=by
  have:=(qbe.mp h).2
  simpa using this
 rw[<-e,qcC hl]
def iR{xs:Array Keyed}(h:LS C xs.toList)(i:Nat):LS C (xs.toList.drop i):=h.sublist (List.drop_sublist i _)
def iV{xs:Array Keyed}(h:LS C xs.toList){i:Nat}{p:Keyed}(hp:xs[i]?=some p):∀y∈xs.toList.drop i,O.kle (C.key p) (C.key y):=by
 have h1:=iR h i;rw[iD hp] at h1 ⊢;unfold LS at h1;rw[qco] at h1;intro y hy;rcases qaj.mp hy with rfl|hy
 ·exact KeyOrd.kle_refl _
 ·exact h1.1 y hy
def MI.pushA(m:MI C a b ou i j)(ha:LS C a.toList)(hb:LS C b.toList){p:Keyed}(hp:a[i]?=some p)(hq:∀q,b[j]?=some q->O.kle (C.key p) (C.key q)):MI C a b (ou.push p) (i+1) j:=by
 have hd:=iD hp;have hle:∀y∈a.toList.drop i++b.toList.drop j,O.kle (C.key p) (C.key y):=by
  intro y hy;rcases qav.mp hy with hy|hy
  ·exact iV ha hp y hy
  ·cases hb':b[j]? with
   | none =>
    have:b.toList.drop j=[]:=qbt (by have:=qbQ.mp hb';simpa using this)
    rw[this] at hy;cases hy
   | some q=>exact KeyOrd.kle_trans (hq q hb') (iV hb hb' y hy)
 refine⟨?_,?_,?_⟩
 ·have:=m.perm
  rw[hd] at this;rw[qba,qbf];exact this
 ·rw[qba];refine cc m.srt (by unfold LS;simp) fun x hx y hy=>?_
  have:y=p:=by simpa using hy
  subst this;exact m.low x hx y (qaK _ (by rw[hd];exact qaM))
 ·intro x hx y hy;rw[qba] at hx;have hy':y∈a.toList.drop i++b.toList.drop j:=by
   simp_all
  rcases qav.mp hx with hx|hx
  ·exact m.low x hx y hy'
  ·have:x=p:=by simpa using hx
   subst this;exact hle y hy'
def MI.pushB(m:MI C a b ou i j)(ha:LS C a.toList)(hb:LS C b.toList){p:Keyed}(hp:b[j]?=some p)(hq:∀q,a[i]?=some q->O.kle (C.key p) (C.key q)):MI C a b (ou.push p) i (j+1):=by
 have hd:=iD hp;have hle:∀y∈a.toList.drop i++b.toList.drop j,O.kle (C.key p) (C.key y):=by
  intro y hy;rcases qav.mp hy with hy|hy
  ·cases ha':a[i]? with
   | none =>
    have:a.toList.drop i=[]:=qbt (by have:=qbQ.mp ha';simpa using this)
    rw[this] at hy;cases hy
   | some q=>exact KeyOrd.kle_trans (hq q ha') (iV ha ha' y hy)
  ·exact iV hb hp y hy
 refine⟨?_,?_,?_⟩
 ·have:=m.perm
  rw[hd] at this;rw[qba,qbf];refine List.Perm.trans (List.Perm.append_left _ ?_) this;show (p::(a.toList.drop i++b.toList.drop (j+1))).Perm _;exact qbY.symm
 ·rw[qba];refine cc m.srt (by unfold LS;simp) fun x hx y hy=>?_
  have:y=p:=by simpa using hy
  subst this;exact m.low x hx y (qam _ (by rw[hd];exact qaM))
 ·intro x hx y hy;rw[qba] at hx;have hy':y∈a.toList.drop i++b.toList.drop j:=by
   rcases qav.mp hy with hy|hy
   ·exact qaK _ hy
   ·exact qam _ (by rw[hd];exact qaf _ hy)
  rcases qav.mp hx with hx|hx
  ·exact m.low x hx y hy'
  ·have:x=p:=by simpa using hx
   subst this;exact hle y hy'
def jB{xs:Array Keyed}{i k:Nat}{p:Keyed}(h:xs[i+k]?=some p):xs.extract i (i+(k+1))=(xs.extract i (i+k)).push p:=by
 apply qbn.mp;simp only[qbT,qba,qbW];have e1:i+(k+1) - i=k+1:=by lia
 have e2:i+k - i=k:=by lia
 rw[e1,e2,qcM,qce,qay,h];rfl
def MI.moveA(m:MI C a b ou i j)(ha:LS C a.toList)(hb:LS C b.toList):∀k,i+k<=a.size->(∀r p q,r<k->a[i+r]?=some p->b[j]?=some q->O.kle (C.key p) (C.key q))->MI C a b (ou++a.extract i (i+k)) (i+k) j:=by
 intro k
 induction k with
 | zero =>
  intro _ _;have e:ou++a.extract i (i+0)=ou:=by apply qbn.mp;simp
  rw[e];exact m
 | succ k ih =>
  intro hk hq;have hp:=getElem?_pos a (i+k) (by lia);have m1:=(ih (by lia) fun r p q hr=>hq r p q (by lia)).pushA ha hb hp (fun q hq'=>hq k _ q (by lia) hp hq');have e:ou++(a.extract i (i+k)).push (a[i+k]'(by lia))=(ou++a.extract i (i+k)).push (a[i+k]'(by lia)):=by simp
  rw[jB hp,e];exact m1
def MI.moveB(m:MI C a b ou i j)(ha:LS C a.toList)(hb:LS C b.toList):∀k,j+k<=b.size->(∀r p q,r<k->b[j+r]?=some p->a[i]?=some q->O.kle (C.key p) (C.key q))->MI C a b (ou++b.extract j (j+k)) i (j+k):=by
 intro k
 induction k with
 | zero =>
  intro _ _;have e:ou++b.extract j (j+0)=ou:=by apply qbn.mp;simp
  rw[e];exact m
 | succ k ih =>
  intro hk hq;have hp:=getElem?_pos b (j+k) (by lia);have m1:=(ih (by lia) fun r p q hr=>hq r p q (by lia)).pushB ha hb hp (fun q hq'=>hq k _ q (by lia) hp hq');have e:ou++(b.extract j (j+k)).push (b[j+k]'(by lia))=(ou++b.extract j (j+k)).push (b[j+k]'(by lia)):=by simp
  rw[jB hp,e];exact m1
def MR(C:Cmp prog w A E s kd O)(a b out:Array Keyed):Prop:=out.toList.Perm (a.toList++b.toList)/\LS C out.toList
def gL{xs:Array Keyed}{i:Nat}:(xs.extract i xs.size).toList=xs.toList.drop i:=by
 rw[qbT];exact qaW (by simp)
def MI.all(m:MI C a b ou i j)(ha:LS C a.toList)(hb:LS C b.toList)(h:a.size<=i\/b.size<=j):MR C a b (ou++a.extract i a.size++b.extract j b.size):=by
 have e:(ou++a.extract i a.size++b.extract j b.size).toList=ou.toList++(a.toList.drop i++b.toList.drop j):=by
  rw[qbg,qbg,gL,gL,qbf]
 unfold MR;rw[e];refine⟨m.perm,cc m.srt ?_ m.low⟩;rcases h with h|h
 ·have:a.toList.drop i=[]:=qbt (by simpa using h)
  rw[this];exact iR hb j
 ·have:b.toList.drop j=[]:=qbt (by simpa using h)
  rw[this,qcc];exact iR ha i
def MI.one(m:MI C a b ou i j)(ha:LS C a.toList)(hb:LS C b.toList)(h:i+1=a.size)(hl:∀x q,x∈b.toList->a[i]?=some q->O.kle (C.key x) (C.key q)):MR C a b (ou++b.extract j b.size++a.extract i a.size):=by
 have e:(ou++b.extract j b.size++a.extract i a.size).toList=ou.toList++(b.toList.drop j++a.toList.drop i):=by
  rw[qbg,qbg,gL,gL,qbf]
 unfold MR;rw[e];have hp:=getElem?_pos a i (by lia);have hd:=iD hp;have hnil:a.toList.drop (i+1)=[]:=qbt (by simp;lia);rw[hnil] at hd;refine⟨(List.Perm.append_left _ qcH).trans m.perm,cc m.srt (cc (iR hb j) (iR ha i) ?_) ?_⟩
 ·intro x hx y hy;rw[hd] at hy
  have:y=a[i]'(by lia):=by simpa using hy
  subst this;exact hl x _ (qbU hx) hp
 ·intro x hx y hy;exact m.low x hx y (qav.mpr (qav.mp hy).symm)
end
structure Eqv (st st':SortSt):Prop where
 kind:kindOf st'=kindOf st
 arr:arrOf st'=arrOf st
 pend:pendingOf st'=pendingOf st
 failed:failedOf st'=failedOf st
def Eqv.rfl'{st:SortSt}:Eqv st st:=⟨rfl,rfl,rfl,rfl⟩
def Eqv.trans{st st1 st2:SortSt}(x:Eqv st st1)(y:Eqv st1 st2):Eqv st st2:=⟨y.kind.trans x.kind,y.arr.trans x.arr,y.pend.trans x.pend,y.failed.trans x.failed⟩
abbrev GS:=Option (Array Keyed) × Array Keyed × Nat × Nat × Nat × Nat × Nat
def loT3(a b ou:Array Keyed)(i j g na nb:Nat):StateT SortSt Sem (ForInStep GS):=do
 let x <-elem' a i
 if (i+1+1 == a.size)=true then pure (ForInStep.done (some (ou.push x++b.extract j b.size++a.extract (i+1) a.size),ou.push x,i+1,j,g,na,nb))
 else if (decide (na<7) && decide (nb<7))=true then pure (ForInStep.done (none,ou.push x,i+1,j,g,na,nb))
 else pure (ForInStep.yield (none,ou.push x,i+1,j,g,na,nb))
def loT2(a b ou:Array Keyed)(i j g na nb:Nat):StateT SortSt Sem (ForInStep GS):=do
 let x <-elem' b j
 if (j+1 == b.size)=true then pure (ForInStep.done (some (ou.push x++a.extract i a.size++b.extract (j+1) b.size),ou.push x,i,j+1,g,na,nb))
 else do
  let y <-elem' a i
  let q <-gallop' true y b (j+1) (b.size - (j+1)) 0
  match q with
  | some k =>
   if k>0 then
    if (j+1+k == b.size)=true then
     pure (ForInStep.done (some (ou.push x++b.extract (j+1) (j+1+k)++a.extract i a.size++b.extract (j+1+k) b.size),ou.push x++b.extract (j+1) (j+1+k),i,j+1+k,g,na,k))
    else loT3 a b (ou.push x++b.extract (j+1) (j+1+k)) i (j+1+k) g na k
   else loT3 a b (ou.push x) i (j+1) g na k
  | _=>pure (ForInStep.done (some (ou.push x++a.extract i a.size++b.extract (j+1) b.size),ou.push x,i,j+1,g,na,nb))
def loT1(a b ou:Array Keyed)(i j g na nb:Nat):StateT SortSt Sem (ForInStep GS):=do
 setG g
 let x <-elem' b j
 let q <-gallop' false x a i (a.size - i) 0
 match q with
 | some k =>
  if k>0 then
   if (i+k+1 == a.size)=true then
    pure (ForInStep.done (some (ou++a.extract i (i+k)++b.extract j b.size++a.extract (i+k) a.size),ou++a.extract i (i+k),i+k,j,g,k,nb))
   else if (i+k == a.size)=true then
    pure (ForInStep.done (some (ou++a.extract i (i+k)++a.extract (i+k) a.size++b.extract j b.size),ou++a.extract i (i+k),i+k,j,g,k,nb))
   else loT2 a b (ou++a.extract i (i+k)) (i+k) j g k nb
  else loT2 a b ou i j g k nb
 | _=>pure (ForInStep.done (some (ou++a.extract i a.size++b.extract j b.size),ou,i,j,g,na,nb))
abbrev LBt:=Option (Array Keyed) × Array Keyed × Nat × Nat × Nat × Nat
abbrev LCt:=Option (Array Keyed) × Array Keyed × Nat × Nat × Nat
def loP(a b:Array Keyed)(g:Nat)(c:LBt):StateT SortSt Sem (ForInStep LBt):=do
 let x <-elem' b c.2.2.2.1
 let y <-elem' a c.2.2.1
 let q <-lt' x y
 match q with
 | some q =>
  if q=true then do
   let z <-elem' b c.2.2.2.1
   if (c.2.2.2.1+1 == b.size)=true then pure (ForInStep.done (some (c.2.1.push z++a.extract c.2.2.1 a.size++b.extract (c.2.2.2.1+1) b.size),c.2.1.push z,c.2.2.1,c.2.2.2.1+1,0,c.2.2.2.2.2+1))
   else if c.2.2.2.2.2+1>=g then pure (ForInStep.done (none,c.2.1.push z,c.2.2.1,c.2.2.2.1+1,0,c.2.2.2.2.2+1))
   else pure (ForInStep.yield (none,c.2.1.push z,c.2.2.1,c.2.2.2.1+1,0,c.2.2.2.2.2+1))
  else do
   let z <-elem' a c.2.2.1
   if (c.2.2.1+1+1 == a.size)=true then pure (ForInStep.done (some (c.2.1.push z++b.extract c.2.2.2.1 b.size++a.extract (c.2.2.1+1) a.size),c.2.1.push z,c.2.2.1+1,c.2.2.2.1,c.2.2.2.2.1+1,0))
   else if c.2.2.2.2.1+1>=g then pure (ForInStep.done (none,c.2.1.push z,c.2.2.1+1,c.2.2.2.1,c.2.2.2.2.1+1,0))
   else pure (ForInStep.yield (none,c.2.1.push z,c.2.2.1+1,c.2.2.2.1,c.2.2.2.2.1+1,0))
 | _=>pure (ForInStep.done (some (c.2.1++a.extract c.2.2.1 a.size++b.extract c.2.2.2.1 b.size),c.2.1,c.2.2.1,c.2.2.2.1,c.2.2.2.2.1,c.2.2.2.2.2))
def loG(a b:Array Keyed)(c:GS):StateT SortSt Sem (ForInStep GS) :=
 if c.2.2.2.2.1>1 then loT1 a b c.2.1 c.2.2.1 c.2.2.2.1 (c.2.2.2.2.1 - 1) c.2.2.2.2.2.1 c.2.2.2.2.2.2
 else loT1 a b c.2.1 c.2.2.1 c.2.2.2.1 c.2.2.2.2.1 c.2.2.2.2.2.1 c.2.2.2.2.2.2
def loE(c:GS):StateT SortSt Sem (ForInStep LCt) :=
 match c.1 with
 | some r=>pure (ForInStep.done (some r,c.2.1,c.2.2.1,c.2.2.2.1,c.2.2.2.2.1))
 | none=>do
  setG (c.2.2.2.2.1+1)
  pure (ForInStep.yield (none,c.2.1,c.2.2.1,c.2.2.2.1,c.2.2.2.2.1+1))
def loD(a b:Array Keyed)(g:Nat)(c:LBt):StateT SortSt Sem (ForInStep LCt) :=
 match c.1 with
 | some r=>pure (ForInStep.done (some r,c.2.1,c.2.2.1,c.2.2.2.1,g))
 | none=>do
  liftM (rule "list.sort.gallop")
  let e <-forIn [:a.size+b.size] ((none,c.2.1,c.2.2.1,c.2.2.2.1,g+1,c.2.2.2.2.1,c.2.2.2.2.2):GS) fun _ e=>loG a b e
  loE e
def loO(a b:Array Keyed)(c:LCt):StateT SortSt Sem (ForInStep LCt):=do
 let d <-forIn [:a.size+b.size] ((none,c.2.1,c.2.2.1,c.2.2.2.1,0,0):LBt) fun _ d=>loP a b c.2.2.2.2 d
 loD a b c.2.2.2.2 d
def loZ(a b:Array Keyed)(x:Keyed):StateT SortSt Sem (Array Keyed):=do
 let g <-get
 let r <-forIn [:a.size+b.size] ((none,#[x],0,1,gallopOf g):LCt) fun _ c=>loO a b c
 match r.1 with
 | some r=>pure r
 | none=>liftM (unsupported "internal:list.sort.merge-bound":Sem (Array Keyed))
def lo_n(a b:Array Keyed):ly a b=(do
 liftM (rule "list.sort.merge-lo")
 let x <-elem' b 0
 if (1 == b.size)=true then pure (#[x]++a.extract 0 a.size++b.extract 1 b.size)
 else if (0+1 == a.size)=true then pure (#[x]++b.extract 1 b.size++a.extract 0 a.size)
 else loZ a b x):=by
 refine congrArg (Bind.bind _) (funext fun _=>congrArg (Bind.bind _) (funext fun x=>congrArg (fun z=>ite _ _ (ite _ _ z)) ?_));have e:∀{α β:Type} {x y:StateT SortSt Sem α} {f h:α->StateT SortSt Sem β},x=y->(∀a,f a=h a)->(x >>= f)=(y >>= h):=fun e f=>by rw[e,funext f]
 refine congrArg (Bind.bind _) (funext fun g=>e (congrArg (forIn _ _) (funext fun _=>funext fun c=>?_)) fun ⟨r,_⟩=>by cases r <;> rfl);refine e rfl fun d=>?_;obtain⟨d1,d2⟩:=d
 cases d1 with
 | some r=>rfl
 | none=>exact congrArg (Bind.bind _) (funext fun _=>e rfl fun ⟨r,_⟩=>by cases r <;> rfl)
section
variable {prog:Program} {w:World} {A:Around} {E:Value→Shared→Prop} {s:Shared} {kd:SortKind} {O:KeyOrd} {C:Cmp prog w A E s kd O} {st:SortSt} {a b:Array Keyed}
structure Two (C:Cmp prog w A E s kd O) (a b:Array Keyed):Prop where
 ga:cE C a
 gb:cE C b
 sa:LS C a.toList
 sb:LS C b.toList
 na:1<=a.size
 nb:1<=b.size
 fst:∀p q,b[0]?=some p->a[0]?=some q->O.kle (C.key p) (C.key q)
 lst:∀x q,x∈b.toList->a[a.size - 1]?=some q->O.kle (C.key x) (C.key q)
def LI(C:Cmp prog w A E s kd O)(a b:Array Keyed)(N:Nat)(c:GS):Prop:=c.1=none/\MI C a b c.2.1 c.2.2.1 c.2.2.2.1/\c.2.2.1+1<a.size/\c.2.2.2.1<b.size/\N<=c.2.1.size
def jV(C:Cmp prog w A E s kd O)(a b:Array Keyed)(N:Nat)(st:SortSt)(r:ForInStep GS)(st':SortSt):Prop:=Eqv st st'/\match r with
 | .done c=>(∃x,c.1=some x/\MR C a b x)\/LI C a b N c
 | .yield c=>LI C a b N c
def sP(T:Two C a b)(m:MI C a b ou i j)(hi:i+1<a.size)(hj:j<b.size)(hN:N<=ou.size)(hle:∀p q,a[i]?=some p->b[j]?=some q->O.kle (C.key p) (C.key q)) :
  wpS (model prog w) A E s (loT3 a b ou i j g na nb) (jV C a b N st) st:=by
 refine wpS_bind (aS (by lia) fun x hx=>?_);have m1:=m.pushA T.sa T.sb hx (fun q hq=>hle x q hx hq);have hsz:(ou.push x).size=ou.size+1:=qbk ..;by_cases h1:i+1+1=a.size
 ·rw[qag (by simpa using h1)];exact wpS_pure ⟨Eqv.rfl',.inl ⟨_,rfl,m1.one T.sa T.sb h1 fun y q hy hq=>T.lst y q hy (by rw[<-h1];exact hq)⟩⟩
 ·rw[qao (by simpa using h1)];have li:LI C a b N (none,ou.push x,i+1,j,g,na,nb):=⟨rfl,m1,by lia,hj,by lia⟩;split
  ·exact wpS_pure ⟨Eqv.rfl',.inr li⟩
  ·exact wpS_pure ⟨Eqv.rfl',li⟩
def sV(T:Two C a b)(hk:kindOf st=kd)(m:MI C a b ou i j)(hi:i+1<a.size)(hj:j<b.size)(hN:N<=ou.size)(hle:∀p q,b[j]?=some p->a[i]?=some q->O.kle (C.key p) (C.key q)) :
  wpS (model prog w) A E s (loT2 a b ou i j g na nb) (jV C a b N st) st:=by
 refine wpS_bind (aS hj fun x hx=>?_);have m1:=m.pushB T.sa T.sb hx (fun q hq=>hle x q hx hq);have hsz:(ou.push x).size=ou.size+1:=qbk ..;by_cases h1:j+1=b.size
 ·rw[qag (by simpa using h1)];exact wpS_pure ⟨Eqv.rfl',.inl ⟨_,rfl,m1.all T.sa T.sb (.inr (by lia))⟩⟩
 ·rw[qao (by simpa using h1)];refine wpS_bind (aS (by lia) fun y hy=>?_);refine wpS_bind (dD (C:=C) hk T.gb (bu T.ga hy) (by lia) (by lia) ?_ fun k hkn hlo hhi=>?_)
  ·intro p q hp hpq hq;exact jL T.sb p q (qaR _) hpq (by lia)
  ·have hlo':∀r p q,r<k->b[j+1+r]?=some p->a[i]?=some q->O.kle (C.key p) (C.key q):=fun r p q hr hp hq=>by
    have:=hlo r hr
    unfold ahead at this;rw[aP hp] at this;rw[hy] at hq;cases hq;exact KeyOrd.kle_of_klt this
   have hhi':∀p q,a[i]?=some p->b[j+1+k]?=some q->O.kle (C.key p) (C.key q):=fun p q hp hq=>by
    have hlt:=(qbe.mp hq).1
    have:=hhi k (qah _) (by lia)
    unfold ahead at this;rw[aP hq] at this;rw[hy] at hp;cases hp;exact this
   dsimp only;by_cases hk0:k>0
   ·rw[qag hk0];have m2:=m1.moveB T.sa T.sb k (by lia) hlo';by_cases h2:j+1+k=b.size
    ·rw[qag (by simpa using h2)];exact wpS_pure ⟨Eqv.rfl',.inl ⟨_,rfl,m2.all T.sa T.sb (.inr (by lia))⟩⟩
    ·rw[qao (by simpa using h2)];exact sP T m2 hi (by lia) (by rw[qbN];lia) hhi'
   ·rw[qao hk0];have e:k=0:=by lia
    subst e;exact sP T m1 hi (by lia) (by lia) hhi'
def tR(T:Two C a b)(hk:kindOf st=kd)(m:MI C a b ou i j)(hi:i+1<a.size)(hj:j<b.size)(hN:N<=ou.size) :
  wpS (model prog w) A E s (loT1 a b ou i j g na nb) (jV C a b N st) st:=by
 unfold loT1;refine wpS_bind (wpS_modify ?_);have ev:Eqv st (SortSt.mk' (kindOf st) (arrOf st) (pendingOf st) g (failedOf st)):=⟨rfl,rfl,rfl,rfl⟩;refine wpS_mono (Q:=jV C a b N (SortSt.mk' (kindOf st) (arrOf st) (pendingOf st) g (failedOf st))) ?_ fun r st' h=>⟨ev.trans h.1,h.2⟩;have hk':kindOf (SortSt.mk' (kindOf st) (arrOf st) (pendingOf st) g (failedOf st))=kd:=hk;refine wpS_bind (aS hj fun x hx=>?_);refine wpS_bind (dD (C:=C) hk' T.ga (bu T.gb hx) (by lia) (by lia) ?_ fun k hkn hlo hhi=>?_)
 ·intro p q hp hpq hq;exact jL T.sa p q (qaR _) hpq (by lia)
 ·have hlo':∀r p q,r<k->a[i+r]?=some p->b[j]?=some q->O.kle (C.key p) (C.key q):=fun r p q hr hp hq=>by
   have:=hlo r hr
   unfold ahead at this;rw[aP hp] at this;rw[hx] at hq;cases hq;simp only[qac,if_false,qbq] at this;exact this
  have hhi':∀p q,b[j]?=some p->a[i+k]?=some q->O.kle (C.key p) (C.key q):=fun p q hp hq=>by
   have hlt:=(qbe.mp hq).1
   have:=hhi k (qah _) (by lia)
   unfold ahead at this;rw[aP hq] at this;rw[hx] at hp;cases hp;simp only[qac,if_false,qcp] at this;exact KeyOrd.kle_of_klt this
  dsimp only;by_cases hk0:k>0
  ·rw[qag hk0];have m2:=m.moveA T.sa T.sb k (by lia) hlo';by_cases h2:i+k+1=a.size
   ·rw[qag (by simpa using h2)];exact wpS_pure ⟨Eqv.rfl',.inl ⟨_,rfl,m2.one T.sa T.sb h2 fun y q hy hq=>T.lst y q hy (by rw[<-h2];exact hq)⟩⟩
   ·rw[qao (by simpa using h2)];by_cases h3:i+k=a.size
    ·rw[qag (by simpa using h3)];exact wpS_pure ⟨Eqv.rfl',.inl ⟨_,rfl,m2.all T.sa T.sb (.inl (by lia))⟩⟩
    ·rw[qao (by simpa using h3)];exact sV T hk' m2 (by lia) hj (by rw[qbN];lia) hhi'
  ·rw[qao hk0];have e:k=0:=by lia
   subst e;exact sV T hk' m hi hj hN hhi'
def L1l(C:Cmp prog w A E s kd O)(a b:Array Keyed)(N:Nat)(c:LBt):Prop:=c.1=none/\MI C a b c.2.1 c.2.2.1 c.2.2.2.1/\c.2.2.1+1<a.size/\c.2.2.2.1<b.size/\N<=c.2.1.size
def L0l(C:Cmp prog w A E s kd O)(a b:Array Keyed)(N:Nat)(c:LCt):Prop:=c.1=none/\MI C a b c.2.1 c.2.2.1 c.2.2.2.1/\c.2.2.1+1<a.size/\c.2.2.2.1<b.size/\N<=c.2.1.size
def Stp1(C:Cmp prog w A E s kd O)(a b:Array Keyed)(N:Nat)(st:SortSt)(r:ForInStep LBt)(st':SortSt):Prop:=match r with
 | .done c=>st'=st/\((∃x,c.1=some x/\MR C a b x)\/L1l C a b N c)
 | .yield c=>st'=st/\L1l C a b N c
def Stp0(C:Cmp prog w A E s kd O)(a b:Array Keyed)(N:Nat)(st:SortSt)(r:ForInStep LCt)(st':SortSt):Prop:=match r with
 | .done c=>Eqv st st'/\∃x,c.1=some x/\MR C a b x
 | .yield c=>Eqv st st'/\L0l C a b N c
def loP_ok(T:Two C a b)(hk':kindOf st=kd)(m':MI C a b ou' i' j')(hi':i'+1<a.size)(hj':j'<b.size)(hN:N<=ou'.size) :
  wpS (model prog w) A E s (loP a b g (none,ou',i',j',na,nb)) (Stp1 C a b (N+1) st) st:=by
 unfold loP;dsimp only;refine wpS_bind (aS hj' fun p hp=>wpS_bind (aS (by lia) fun q hq=>?_));refine wpS_bind (C.ask p q st _ (bu T.gb hp) (bu T.ga hq) hk' ?_)
 cases hz:O.blt (C.key p) (C.key q) with
 | true =>
  dsimp only;refine wpS_bind (aS hj' fun p' hp'=>?_);rw[hp] at hp';cases hp';have m2:=m'.pushB T.sa T.sb hp (fun q' hq'=>by rw[hq] at hq';cases hq';exact KeyOrd.kle_of_klt hz);have hs2:(ou'.push p).size=ou'.size+1:=qbk ..;by_cases h3:j'+1=b.size
  ·rw[qag (by simpa using h3)];exact wpS_pure ⟨rfl,.inl ⟨_,rfl,m2.all T.sa T.sb (.inr (by lia))⟩⟩
  ·rw[qao (by simpa using h3)];split
   ·exact wpS_pure ⟨rfl,.inr ⟨rfl,m2,hi',by lia,by rw[hs2];lia⟩⟩
   ·exact wpS_pure ⟨rfl,rfl,m2,hi',by lia,by rw[hs2];lia⟩
 | false =>
  dsimp only;refine wpS_bind (aS (by lia) fun q' hq'=>?_);rw[hq] at hq';cases hq';have m2:=m'.pushA T.sa T.sb hq (fun p' hp'=>by rw[hp] at hp';cases hp';exact hz);have hs2:(ou'.push q).size=ou'.size+1:=qbk ..;by_cases h3:i'+1+1=a.size
  ·rw[qag (by simpa using h3)];exact wpS_pure ⟨rfl,.inl ⟨_,rfl,m2.one T.sa T.sb h3 fun y q hy hq=>T.lst y q hy (by rw[<-h3];exact hq)⟩⟩
  ·rw[qao (by simpa using h3)];split
   ·exact wpS_pure ⟨rfl,.inr ⟨rfl,m2,by lia,hj',by rw[hs2];lia⟩⟩
   ·exact wpS_pure ⟨rfl,rfl,m2,by lia,hj',by rw[hs2];lia⟩
def loE_ok(ev:Eqv st0 st)(hc:(∃x,c.1=some x/\MR C a b x)\/LI C a b N c):wpS (model prog w) A E s (loE c) (Stp0 C a b N st0) st:=by
 obtain⟨c1,ou3,i3,j3,g3,na3,nb3⟩:=c;rcases hc with ⟨r,hr,mr⟩|⟨hc,hr⟩
 ·cases hr;exact wpS_pure ⟨ev,r,rfl,mr⟩
 ·cases hc;exact wpS_bind (wpS_modify (wpS_pure ⟨ev.trans ⟨rfl,rfl,rfl,rfl⟩,rfl,hr⟩))
def loG_ok(T:Two C a b)(hk:kindOf st=kd)(h:LI C a b N c):wpS (model prog w) A E s (loG a b c) (jV C a b N st) st:=by
 obtain⟨_,m3,hi3,hj3,hN3⟩:=h;unfold loG;split
 ·exact tR T hk m3 hi3 hj3 hN3
 ·exact tR T hk m3 hi3 hj3 hN3
def loD_ok(T:Two C a b)(hk:kindOf st=kd)(ev:Eqv st0 st)(hc:(∃x,c.1=some x/\MR C a b x)\/L1l C a b N c):wpS (model prog w) A E s (loD a b g c) (Stp0 C a b N st0) st:=by
 obtain⟨c1,ou',i',j',na,nb⟩:=c;rcases hc with ⟨r,hr,mr⟩|⟨hc,hr⟩
 ·cases hr;exact wpS_pure ⟨ev,r,rfl,mr⟩
 ·cases hc;refine wpS_bind (wpS_lift (wpAny_rule ⟨rfl,?_⟩));refine wpS_bind (wpS_mono (wpS_forRange (I:=fun y c st3=>Eqv st st3/\LI C a b N c) (Q:=fun c st3=>Eqv st st3/\((∃x,c.1=some x/\MR C a b x)\/LI C a b N c)) ?_ ?_ ⟨Eqv.rfl',rfl,hr⟩) ?_)
  ·rintro y c st3 _ hy ⟨ev3,h3⟩;refine wpS_mono (loG_ok T (ev3.kind.trans hk) h3) fun r st4 hr=>?_
   cases r with
   | done c'=>exact⟨ev3.trans hr.1,hr.2⟩
   | yield c'=>exact⟨ev3.trans hr.1,hr.2⟩
  ·rintro c st3 ⟨ev3,hli⟩;exact⟨ev3,.inr hli⟩
  ·rintro c st3 ⟨ev3,hc⟩;exact loE_ok (ev.trans ev3) hc
def loO_ok(T:Two C a b)(hk:kindOf st=kd)(h:L0l C a b N c):wpS (model prog w) A E s (loO a b c) (Stp0 C a b (N+1) st) st:=by
 obtain⟨hc,hm⟩:=h
 refine wpS_bind (wpS_mono (wpS_forRange (I:=fun y c st''=>st''=st/\L1l C a b (N+y) c)
  (Q:=fun c st''=>st''=st/\((∃x,c.1=some x/\MR C a b x)\/L1l C a b (N+1) c)) ?_ ?_ ⟨rfl,rfl,hm⟩) ?_)
 ·rintro y c st'' _ hy ⟨rfl,h1⟩;obtain⟨hc,m',hi',hj',hsz'⟩:=h1;refine wpS_mono (loP_ok T hk m' hi' hj' hsz') fun r st4 hr=>?_
  cases r with
  | done c'=>exact⟨hr.1,hr.2.imp_right fun h=>⟨h.1,h.2.1,h.2.2.1,h.2.2.2.1,qaE (by lia) h.2.2.2.2⟩⟩
  | yield c'=>exact hr
 ·rintro c st'' ⟨rfl,h⟩;exact⟨rfl,.inr ⟨h.1,h.2.1,h.2.2.1,h.2.2.2.1,qaE (by lia) h.2.2.2.2⟩⟩
 ·rintro c st'' ⟨rfl,hc⟩;exact loD_ok T hk Eqv.rfl' hc
def loZ_ok(T:Two C a b)(hk:kindOf st=kd)(h1:MI C a b #[x0] 0 1)(ha:0+1<a.size)(hb:1<b.size)(h:∀x st',Eqv st st'->MR C a b x->Q x st'):wpS (model prog w) A E s (loZ a b x0) Q st:=by
 refine wpS_bind (wpS_get ?_)
 refine wpS_bind (wpS_mono (wpS_forRange (I:=fun x c st'=>Eqv st st'/\L0l C a b (x+1) c)
  (Q:=fun c st'=>Eqv st st'/\∃x,c.1=some x/\MR C a b x) ?_ ?_ ⟨Eqv.rfl',rfl,h1,ha,hb,qah _⟩) ?_)
 ·rintro x c st' _ hx ⟨ev,h0⟩;refine wpS_mono (loO_ok T (ev.kind.trans hk) h0) fun r st4 hr=>?_
  cases r with
  | done c'=>exact⟨ev.trans hr.1,hr.2⟩
  | yield c'=>exact⟨ev.trans hr.1,hr.2⟩
 ·rintro c st' ⟨ev,h0⟩;exfalso;have h1:=h0.2.2.1;have h2:=h0.2.2.2.1
  have:=h0.2.1.size (by lia) (by lia)
  have:=h0.2.2.2.2
  lia
 ·rintro c st' ⟨ev,r,hr,mr⟩;obtain⟨c1,c2⟩:=c;cases hr;exact wpS_pure (h r st' ev mr)
def wps_lo(T:Two C a b)(hk:kindOf st=kd)(h:∀x st',Eqv st st'->MR C a b x->Q x st'):wpS (model prog w) A E s (ly a b) Q st:=by
 rw[lo_n];refine wpS_bind (wpS_lift (wpAny_rule ⟨rfl,?_⟩));have hna:=T.na;have hnb:=T.nb;refine wpS_bind (aS (by lia) fun x0 hx0=>?_);have m0:MI C a b #[] 0 0:=⟨by simp,by unfold LS;simp,fun x hx=>by simp at hx⟩;have m1:MI C a b #[x0] 0 1:=by
  have:=m0.pushB T.sa T.sb hx0 (fun q hq=>T.fst x0 q hx0 hq)
  simpa using this
 by_cases h1:1=b.size
 ·rw[qag (by simpa using h1)]
  have:=m1.all T.sa T.sb (.inr (by lia))
  exact wpS_pure (h _ st Eqv.rfl' (by simpa using this))
 ·rw[qao (by simpa using h1)];by_cases h2:0+1=a.size
  ·rw[qag (by simpa using h2)]
   have:=m1.one T.sa T.sb h2 fun y q hy hq=>T.lst y q hy (by rw[<-h2];exact hq)
   exact wpS_pure (h _ st Eqv.rfl' (by simpa using this))
  ·rw[qao (by simpa using h2)];exact loZ_ok T hk m1 (by lia) (by lia) h
end
def lq:Array Keyed->Array Keyed->StateT SortSt Sem (Array Keyed):=sortPriv% PySem.Builtin.mergeHi
section
variable {prog:Program} {w:World} {A:Around} {E:Value→Shared→Prop} {s:Shared} {kd:SortKind} {O:KeyOrd} {C:Cmp prog w A E s kd O} {a b ou:Array Keyed} {m n:Nat} {st:SortSt}
structure HI (C:Cmp prog w A E s kd O) (a b ou:Array Keyed) (m n:Nat):Prop where
 perm:(a.toList.take m++b.toList.take n++ou.toList.reverse).Perm (a.toList++b.toList)
 srt:LS C ou.toList.reverse
 hgh:LB C (a.toList.take m++b.toList.take n) ou.toList.reverse
def HI.size(h:HI C a b ou m n)(hm:m<=a.size)(hn:n<=b.size):ou.size+m+n=a.size+b.size:=by
 have:=h.perm.length_eq
 simp at this;lia
def kN{xs:Array Keyed}{i:Nat}{p:Keyed}(h:xs[i]?=some p):xs.toList.take (i+1)=xs.toList.take i++[p]:=by
 rw[qcM,qay,h];rfl
def iF{xs:Array Keyed}(h:LS C xs.toList)(i:Nat):LS C (xs.toList.take i):=h.sublist (qcs i _)
def kX{xs:Array Keyed}(h:LS C xs.toList){i:Nat}{p:Keyed}(hp:xs[i]?=some p):∀y∈xs.toList.take (i+1),O.kle (C.key y) (C.key p):=by
 have h1:=iF h (i+1);rw[kN hp] at h1 ⊢;unfold LS at h1;rw[List.pairwise_append] at h1;intro y hy;rcases qav.mp hy with hy|hy
 ·exact h1.2.2 y hy p (by simp)
 ·have:y=p:=by simpa using hy
  subst this;exact KeyOrd.kle_refl _
def gH(p:Keyed):(ou.push p).toList.reverse=p::ou.toList.reverse:=by simp
def HI.pushA(h:HI C a b ou (m+1) n)(ha:LS C a.toList)(hb:LS C b.toList){p:Keyed}(hp:a[m]?=some p)(hn:1<=n)(hnb:n<=b.size)(hq:∀q,b[n - 1]?=some q->O.kle (C.key q) (C.key p)):HI C a b (ou.push p) m n:=by
 have hd:=kN hp;obtain⟨q,hqq⟩:∃q,b[n - 1]?=some q:=⟨_,getElem?_pos b (n - 1) (by lia)⟩;have hle:∀y∈a.toList.take m++b.toList.take n,O.kle (C.key y) (C.key p):=by
  intro y hy;rcases qav.mp hy with hy|hy
  ·exact kX ha hp y (by rw[hd];exact qaK _ hy)
  ·refine KeyOrd.kle_trans (kX hb hqq y ?_) (hq q hqq)
   have:n - 1+1=n:=by lia
   rw[this];exact hy
 refine⟨?_,?_,?_⟩
 ·have:=h.perm
  rw[hd] at this;rw[gH];refine List.Perm.trans ?_ this;have e1:(a.toList.take m++b.toList.take n++p::ou.toList.reverse).Perm (p::(a.toList.take m++b.toList.take n++ou.toList.reverse)):=qbY;have e2:(a.toList.take m++[p]++b.toList.take n++ou.toList.reverse).Perm (p::(a.toList.take m++b.toList.take n++ou.toList.reverse)):=by
   simp_all
  exact e1.trans e2.symm
 ·rw[gH];unfold LS;rw[qco];refine⟨fun y hy=>h.hgh p (qaK _ (by rw[hd];simp)) y hy,h.srt⟩
 ·rw[gH];intro x hx y hy;rcases qaj.mp hy with rfl|hy
  ·exact hle x hx
  ·refine h.hgh x ?_ y hy;rcases qav.mp hx with hx|hx
   ·exact qaK _ (by rw[hd];exact qaK _ hx)
   ·exact qam _ hx
def HI.pushB(h:HI C a b ou m (n+1))(ha:LS C a.toList)(hb:LS C b.toList){p:Keyed}(hp:b[n]?=some p)(hm:1<=m)(hma:m<=a.size)(hq:∀q,a[m - 1]?=some q->O.kle (C.key q) (C.key p)):HI C a b (ou.push p) m n:=by
 have hd:=kN hp;obtain⟨q,hqq⟩:∃q,a[m - 1]?=some q:=⟨_,getElem?_pos a (m - 1) (by lia)⟩;have hle:∀y∈a.toList.take m++b.toList.take n,O.kle (C.key y) (C.key p):=by
  intro y hy;rcases qav.mp hy with hy|hy
  ·refine KeyOrd.kle_trans (kX ha hqq y ?_) (hq q hqq)
   have:m - 1+1=m:=by lia
   rw[this];exact hy
  ·exact kX hb hp y (by rw[hd];exact qaK _ hy)
 refine⟨?_,?_,?_⟩
 ·have:=h.perm
  simp_all
 ·rw[gH];unfold LS;rw[qco];refine⟨fun y hy=>h.hgh p (qam _ (by rw[hd];simp)) y hy,h.srt⟩
 ·rw[gH];intro x hx y hy;rcases qaj.mp hy with rfl|hy
  ·exact hle x hx
  ·refine h.hgh x ?_ y hy;rcases qav.mp hx with hx|hx
   ·exact qaK _ hx
   ·exact qam _ (by rw[hd];exact qaK _ hx)
def qD{xs:Array Keyed}{m k:Nat}{p:Keyed}(hk:k<m)(hm:m<=xs.size)(h:xs[m - (k+1)]?=some p):ou++(xs.extract (m - (k+1)) m).reverse=(ou++(xs.extract (m - k) m).reverse).push p:=by
 apply qbn.mp;simp only[qbg,Array.toList_reverse,qba,qbT,qbW];have e1:m - (m - (k+1))=k+1:=by lia
 have e2:m - (m - k)=k:=by lia
 have e3:m - (k+1)+1=m - k:=by lia
 rw[e1,e2,iD h,e3];simp
def HI.moveA(h:HI C a b ou m n)(ha:LS C a.toList)(hb:LS C b.toList)(hm:m<=a.size)(hn:1<=n)(hnb:n<=b.size):∀k,k<=m->(∀r p q,m - k<=r->r<m->a[r]?=some p->b[n - 1]?=some q->O.kle (C.key q) (C.key p)) ->
  HI C a b (ou++(a.extract (m - k) m).reverse) (m - k) n:=by
 intro k
 induction k with
 | zero =>
  intro _ _;have e:ou++(a.extract (m - 0) m).reverse=ou:=by apply qbn.mp;simp
  rw[e];exact h
 | succ k ih =>
  intro hk hq;have hp:a[m - (k+1)]?=some (a[m - (k+1)]'(by lia)):=getElem?_pos a _ (by lia);have h1:=ih (by lia) fun r p q hr1 hr2=>hq r p q (by lia) hr2;have e:m - k=m - (k+1)+1:=by lia
  rw[qD (by lia) hm hp];rw[e] at h1;have h2:=h1.pushA ha hb hp hn hnb (fun q hq'=>hq _ _ q (qah _) (by lia) hp hq');rw[<-e] at h2;exact h2
def HI.moveB(h:HI C a b ou m n)(ha:LS C a.toList)(hb:LS C b.toList)(hn:n<=b.size)(hm:1<=m)(hma:m<=a.size):∀k,k<=n->(∀r p q,n - k<=r->r<n->b[r]?=some p->a[m - 1]?=some q->O.kle (C.key q) (C.key p)) ->
  HI C a b (ou++(b.extract (n - k) n).reverse) m (n - k):=by
 intro k
 induction k with
 | zero =>
  intro _ _;have e:ou++(b.extract (n - 0) n).reverse=ou:=by apply qbn.mp;simp
  rw[e];exact h
 | succ k ih =>
  intro hk hq;have hp:b[n - (k+1)]?=some (b[n - (k+1)]'(by lia)):=getElem?_pos b _ (by lia);have h1:=ih (by lia) fun r p q hr1 hr2=>hq r p q (by lia) hr2;have e:n - k=n - (k+1)+1:=by lia
  rw[qD (by lia) hn hp];rw[e] at h1;have h2:=h1.pushB ha hb hp hm hma (fun q hq'=>hq _ _ q (qah _) (by lia) hp hq');rw[<-e] at h2;exact h2
def lB{xs:Array Keyed}{i:Nat}:(xs.extract 0 i).toList=xs.toList.take i:=by
 rw[qbT,qbW];simp
def HI.all(h:HI C a b ou m n)(ha:LS C a.toList)(hb:LS C b.toList)(hz:m=0\/n=0):MR C a b (a.extract 0 m++b.extract 0 n++ou.reverse):=by
 have e:(a.extract 0 m++b.extract 0 n++ou.reverse).toList=a.toList.take m++b.toList.take n++ou.toList.reverse:=by
  simp_all
 unfold MR;rw[e];refine⟨h.perm,cc ?_ h.srt h.hgh⟩;rcases hz with rfl|rfl
 ·simpa using iF hb n
 ·simpa using iF ha m
def HI.one(h:HI C a b ou m n)(T:Two C a b)(hz:n=1):MR C a b (b.extract 0 n++a.extract 0 m++ou.reverse):=by
 subst hz;have e:(b.extract 0 1++a.extract 0 m++ou.reverse).toList=b.toList.take 1++a.toList.take m++ou.toList.reverse:=by
  rw[qbg,qbg,lB,lB,Array.toList_reverse]
 unfold MR;rw[e];have hnb:=T.nb;have hna:=T.na;have hp:=getElem?_pos b 0 (by lia);have hq:=getElem?_pos a 0 (by lia);have hd:=kN hp;refine⟨(List.Perm.append_right _ qcH).trans h.perm,cc (cc (iF T.sb 1) (iF T.sa m) ?_) h.srt ?_⟩
 ·intro x hx y hy;have hx':x=b[0]'(by lia):=by
   have:=hx
   rw[hd] at this;simpa using this
  subst hx';refine KeyOrd.kle_trans (T.fst _ _ hp hq) (iV T.sa hq y ?_);exact qbV hy
 ·intro x hx y hy;exact h.hgh x (qav.mpr (qav.mp hx).symm) y hy
end
abbrev HS:=Option (Array Keyed) × Nat × Nat × Array Keyed × Nat × Nat × Nat
def hiT3(a b ou:Array Keyed)(m n g ca cb:Nat):StateT SortSt Sem (ForInStep HS):=do
 let x <-elem' a (m - 1)
 if (m - 1 == 0)=true then pure (ForInStep.done (some (a.extract 0 (m - 1)++b.extract 0 n++(ou.push x).reverse),m - 1,n,ou.push x,g,ca,cb))
 else if (decide (ca<7) && decide (cb<7))=true then pure (ForInStep.done (none,m - 1,n,ou.push x,g,ca,cb))
 else pure (ForInStep.yield (none,m - 1,n,ou.push x,g,ca,cb))
def hiT2(a b ou:Array Keyed)(m n g ca cb:Nat):StateT SortSt Sem (ForInStep HS):=do
 let x <-elem' b (n - 1)
 if (n - 1 == 1)=true then pure (ForInStep.done (some (b.extract 0 (n - 1)++a.extract 0 m++(ou.push x).reverse),m,n - 1,ou.push x,g,ca,cb))
 else do
  let y <-elem' a (m - 1)
  let q <-gallop' true y b 0 (n - 1) (n - 1 - 1)
  match q with
  | some z =>
   if n - 1 - z>0 then
    if (z == 1)=true then
     pure (ForInStep.done (some (b.extract 0 z++a.extract 0 m++(ou.push x++(b.extract z (n - 1)).reverse).reverse),m,z,ou.push x++(b.extract z (n - 1)).reverse,g,ca,n - 1 - z))
    else if (z == 0)=true then
     pure (ForInStep.done (some (a.extract 0 m++b.extract 0 z++(ou.push x++(b.extract z (n - 1)).reverse).reverse),m,z,ou.push x++(b.extract z (n - 1)).reverse,g,ca,n - 1 - z))
    else hiT3 a b (ou.push x++(b.extract z (n - 1)).reverse) m z g ca (n - 1 - z)
   else hiT3 a b (ou.push x) m (n - 1) g ca (n - 1 - z)
  | _=>pure (ForInStep.done (some (a.extract 0 m++b.extract 0 (n - 1)++(ou.push x).reverse),m,n - 1,ou.push x,g,ca,cb))
def hiT1(a b ou:Array Keyed)(m n g ca cb:Nat):StateT SortSt Sem (ForInStep HS):=do
 setG g
 let x <-elem' b (n - 1)
 let q <-gallop' false x a 0 m (m - 1)
 match q with
 | some z =>
  if m - z>0 then
   if (z == 0)=true then
    pure (ForInStep.done (some (a.extract 0 z++b.extract 0 n++(ou++(a.extract z m).reverse).reverse),z,n,ou++(a.extract z m).reverse,g,m - z,cb))
   else hiT2 a b (ou++(a.extract z m).reverse) z n g (m - z) cb
  else hiT2 a b ou m n g (m - z) cb
 | _=>pure (ForInStep.done (some (a.extract 0 m++b.extract 0 n++ou.reverse),m,n,ou,g,ca,cb))
abbrev HB:=Option (Array Keyed) × Nat × Nat × Array Keyed × Nat × Nat
abbrev HC:=Option (Array Keyed) × Nat × Nat × Array Keyed × Nat
def hiP(a b:Array Keyed)(g:Nat)(c:HB):StateT SortSt Sem (ForInStep HB):=do
 let x <-elem' b (c.2.2.1 - 1)
 let y <-elem' a (c.2.1 - 1)
 let q <-lt' x y
 match q with
 | some q =>
  if q=true then do
   let z <-elem' a (c.2.1 - 1)
   if (c.2.1 - 1 == 0)=true then pure (ForInStep.done (some (a.extract 0 (c.2.1 - 1)++b.extract 0 c.2.2.1++(c.2.2.2.1.push z).reverse),c.2.1 - 1,c.2.2.1,c.2.2.2.1.push z,c.2.2.2.2.1+1,0))
   else if c.2.2.2.2.1+1>=g then pure (ForInStep.done (none,c.2.1 - 1,c.2.2.1,c.2.2.2.1.push z,c.2.2.2.2.1+1,0))
   else pure (ForInStep.yield (none,c.2.1 - 1,c.2.2.1,c.2.2.2.1.push z,c.2.2.2.2.1+1,0))
  else do
   let z <-elem' b (c.2.2.1 - 1)
   if (c.2.2.1 - 1 == 1)=true then pure (ForInStep.done (some (b.extract 0 (c.2.2.1 - 1)++a.extract 0 c.2.1++(c.2.2.2.1.push z).reverse),c.2.1,c.2.2.1 - 1,c.2.2.2.1.push z,0,c.2.2.2.2.2+1))
   else if c.2.2.2.2.2+1>=g then pure (ForInStep.done (none,c.2.1,c.2.2.1 - 1,c.2.2.2.1.push z,0,c.2.2.2.2.2+1))
   else pure (ForInStep.yield (none,c.2.1,c.2.2.1 - 1,c.2.2.2.1.push z,0,c.2.2.2.2.2+1))
 | _=>pure (ForInStep.done (some (a.extract 0 c.2.1++b.extract 0 c.2.2.1++c.2.2.2.1.reverse),c.2.1,c.2.2.1,c.2.2.2.1,c.2.2.2.2.1,c.2.2.2.2.2))
def hiG(a b:Array Keyed)(c:HS):StateT SortSt Sem (ForInStep HS) :=
 if c.2.2.2.2.1>1 then hiT1 a b c.2.2.2.1 c.2.1 c.2.2.1 (c.2.2.2.2.1 - 1) c.2.2.2.2.2.1 c.2.2.2.2.2.2
 else hiT1 a b c.2.2.2.1 c.2.1 c.2.2.1 c.2.2.2.2.1 c.2.2.2.2.2.1 c.2.2.2.2.2.2
def hiE(c:HS):StateT SortSt Sem (ForInStep HC) :=
 match c.1 with
 | some r=>pure (ForInStep.done (some r,c.2.1,c.2.2.1,c.2.2.2.1,c.2.2.2.2.1))
 | none=>do
  setG (c.2.2.2.2.1+1)
  pure (ForInStep.yield (none,c.2.1,c.2.2.1,c.2.2.2.1,c.2.2.2.2.1+1))
def hiD(a b:Array Keyed)(g:Nat)(c:HB):StateT SortSt Sem (ForInStep HC) :=
 match c.1 with
 | some r=>pure (ForInStep.done (some r,c.2.1,c.2.2.1,c.2.2.2.1,g))
 | none=>do
  liftM (rule "list.sort.gallop")
  let e <-forIn [:a.size+b.size] ((none,c.2.1,c.2.2.1,c.2.2.2.1,g+1,c.2.2.2.2.1,c.2.2.2.2.2):HS) fun _ e=>hiG a b e
  hiE e
def hiO(a b:Array Keyed)(c:HC):StateT SortSt Sem (ForInStep HC):=do
 let d <-forIn [:a.size+b.size] ((none,c.2.1,c.2.2.1,c.2.2.2.1,0,0):HB) fun _ d=>hiP a b c.2.2.2.2 d
 hiD a b c.2.2.2.2 d
def hiZ(a b:Array Keyed)(x:Keyed):StateT SortSt Sem (Array Keyed):=do
 let g <-get
 let r <-forIn [:a.size+b.size] ((none,a.size - 1,b.size,#[x],gallopOf g):HC) fun _ c=>hiO a b c
 match r.1 with
 | some r=>pure r
 | none=>liftM (unsupported "internal:list.sort.merge-bound":Sem (Array Keyed))
def hi_n(a b:Array Keyed):lq a b=(do
 liftM (rule "list.sort.merge-hi")
 let x <-elem' a (a.size - 1)
 if (a.size - 1 == 0)=true then pure (a.extract 0 (a.size - 1)++b.extract++#[x].reverse)
 else if (b.size == 1)=true then pure (b.extract++a.extract 0 (a.size - 1)++#[x].reverse)
 else hiZ a b x):=by
 refine congrArg (Bind.bind _) (funext fun _=>congrArg (Bind.bind _) (funext fun x=>congrArg (fun z=>ite _ _ (ite _ _ z)) ?_));have e:∀{α β:Type} {x y:StateT SortSt Sem α} {f h:α->StateT SortSt Sem β},x=y->(∀a,f a=h a)->(x >>= f)=(y >>= h):=fun e f=>by rw[e,funext f]
 refine congrArg (Bind.bind _) (funext fun g=>e (congrArg (forIn _ _) (funext fun _=>funext fun c=>?_)) fun ⟨r,_⟩=>by cases r <;> rfl);refine e rfl fun d=>?_;obtain⟨d1,d2⟩:=d
 cases d1 with
 | some r=>rfl
 | none=>exact congrArg (Bind.bind _) (funext fun _=>e rfl fun ⟨r,_⟩=>by cases r <;> rfl)
section
variable {prog:Program} {w:World} {A:Around} {E:Value→Shared→Prop} {s:Shared} {kd:SortKind} {O:KeyOrd} {C:Cmp prog w A E s kd O} {st:SortSt} {a b:Array Keyed}
def LIh(C:Cmp prog w A E s kd O)(a b:Array Keyed)(N:Nat)(c:HS):Prop :=
 c.1=none/\HI C a b c.2.2.2.1 c.2.1 c.2.2.1/\1<=c.2.1/\c.2.1<=a.size/\2<=c.2.2.1/\c.2.2.1<=b.size/\N<=c.2.2.2.1.size
def mM(C:Cmp prog w A E s kd O)(a b:Array Keyed)(N:Nat)(st:SortSt)(r:ForInStep HS)(st':SortSt):Prop:=Eqv st st'/\match r with
 | .done c=>(∃x,c.1=some x/\MR C a b x)\/LIh C a b N c
 | .yield c=>LIh C a b N c
def tq(T:Two C a b)(h:HI C a b ou m n)(hm:1<=m)(hma:m<=a.size)(hn:2<=n)(hnb:n<=b.size)(hN:N<=ou.size)
  (hle:∀p q,b[n - 1]?=some p->a[m - 1]?=some q->O.kle (C.key p) (C.key q)):wpS (model prog w) A E s (hiT3 a b ou m n g ca cb) (mM C a b N st) st:=by
 refine wpS_bind (aS (by lia) fun x hx=>?_);have e:m=m - 1+1:=by lia
 have h1:HI C a b (ou.push x) (m - 1) n:=by
  have h':=h;rw[e] at h';exact h'.pushA T.sa T.sb hx (by lia) hnb (fun q hq=>hle q x hq hx)
 have hsz:(ou.push x).size=ou.size+1:=qbk ..;by_cases z1:m - 1=0
 ·rw[qag (by simpa using z1)];exact wpS_pure ⟨Eqv.rfl',.inl ⟨_,rfl,h1.all T.sa T.sb (.inl z1)⟩⟩
 ·rw[qao (by simpa using z1)];have li:LIh C a b N (none,m - 1,n,ou.push x,g,ca,cb):=⟨rfl,h1,by lia,by lia,hn,hnb,by lia⟩;split
  ·exact wpS_pure ⟨Eqv.rfl',.inr li⟩
  ·exact wpS_pure ⟨Eqv.rfl',li⟩
def sM(T:Two C a b)(hk:kindOf st=kd)(h:HI C a b ou m n)(hm:1<=m)(hma:m<=a.size)(hn:2<=n)(hnb:n<=b.size)(hN:N<=ou.size)
  (hle:∀p q,a[m - 1]?=some p->b[n - 1]?=some q->O.kle (C.key p) (C.key q)):wpS (model prog w) A E s (hiT2 a b ou m n g ca cb) (mM C a b N st) st:=by
 refine wpS_bind (aS (by lia) fun x hx=>?_);have e:n=n - 1+1:=by lia
 have h1:HI C a b (ou.push x) m (n - 1):=by
  have h':=h;rw[e] at h';exact h'.pushB T.sa T.sb hx hm hma (fun q hq=>hle q x hq hx)
 have hsz:(ou.push x).size=ou.size+1:=qbk ..;by_cases z1:n - 1=1
 ·rw[qag (by simpa using z1)];exact wpS_pure ⟨Eqv.rfl',.inl ⟨_,rfl,h1.one T z1⟩⟩
 ·rw[qao (by simpa using z1)];refine wpS_bind (aS (by lia) fun y hy=>?_);refine wpS_bind (dD (C:=C) hk T.gb (bu T.ga hy) (by lia) (by lia) ?_ fun z hz hlo hhi=>?_)
  ·intro p q hp hpq hq;exact jL T.sb p q (qaR _) hpq (by lia)
  ·have hlo':∀r p q,r<z->b[r]?=some p->a[m - 1]?=some q->O.kle (C.key p) (C.key q):=fun r p q hr hp hq=>by
    have:=hlo r hr
    unfold ahead at this;rw[qaS,aP hp] at this;rw[hy] at hq;cases hq;exact KeyOrd.kle_of_klt this
   have hhi':∀r p q,z<=r->r<n - 1->b[r]?=some p->a[m - 1]?=some q->O.kle (C.key q) (C.key p):=fun r p q hr1 hr2 hp hq=>by
    have:=hhi r hr1 hr2
    unfold ahead at this;rw[qaS,aP hp] at this;rw[hy] at hq;cases hq;exact this
   dsimp only;by_cases hk0:n - 1 - z>0
   ·rw[qag hk0];have ez:n - 1 - (n - 1 - z)=z:=by lia
    have h2:=h1.moveB T.sa T.sb (by lia) hm hma (n - 1 - z) (by lia) (fun r p q hr1 hr2=>hhi' r p q (by lia) hr2);rw[ez] at h2;by_cases z2:z=1
    ·rw[qag (by simpa using z2)];exact wpS_pure ⟨Eqv.rfl',.inl ⟨_,rfl,h2.one T z2⟩⟩
    ·rw[qao (by simpa using z2)];by_cases z3:z=0
     ·rw[qag (by simpa using z3)];exact wpS_pure ⟨Eqv.rfl',.inl ⟨_,rfl,h2.all T.sa T.sb (.inr z3)⟩⟩
     ·rw[qao (by simpa using z3)];exact tq T h2 hm hma (by lia) (by lia) (by rw[qbN];lia) (fun p q hp hq=>hlo' (z - 1) p q (by lia) hp hq)
   ·rw[qao hk0];exact tq T h1 hm hma (by lia) (by lia) (by lia) (fun p q hp hq=>hlo' (n - 1 - 1) p q (by lia) hp hq)
def tT(T:Two C a b)(hk:kindOf st=kd)(h:HI C a b ou m n)(hm:1<=m)(hma:m<=a.size)(hn:2<=n)(hnb:n<=b.size)(hN:N<=ou.size) :
  wpS (model prog w) A E s (hiT1 a b ou m n g ca cb) (mM C a b N st) st:=by
 unfold hiT1;refine wpS_bind (wpS_modify ?_);have ev:Eqv st (SortSt.mk' (kindOf st) (arrOf st) (pendingOf st) g (failedOf st)):=⟨rfl,rfl,rfl,rfl⟩;refine wpS_mono (Q:=mM C a b N (SortSt.mk' (kindOf st) (arrOf st) (pendingOf st) g (failedOf st))) ?_ fun r st' h=>⟨ev.trans h.1,h.2⟩;have hk':kindOf (SortSt.mk' (kindOf st) (arrOf st) (pendingOf st) g (failedOf st))=kd:=hk;refine wpS_bind (aS (by lia) fun x hx=>?_);refine wpS_bind (dD (C:=C) hk' T.ga (bu T.gb hx) (by lia) (by lia) ?_ fun z hz hlo hhi=>?_)
 ·intro p q hp hpq hq;exact jL T.sa p q (qaR _) hpq (by lia)
 ·have hlo':∀r p q,r<z->a[r]?=some p->b[n - 1]?=some q->O.kle (C.key p) (C.key q):=fun r p q hr hp hq=>by
   have:=hlo r hr
   unfold ahead at this;rw[qaS,aP hp] at this;rw[hx] at hq;cases hq;simp only[qac,if_false,qbq] at this;exact this
  have hhi':∀r p q,z<=r->r<m->a[r]?=some p->b[n - 1]?=some q->O.kle (C.key q) (C.key p):=fun r p q hr1 hr2 hp hq=>by
   have:=hhi r hr1 hr2
   unfold ahead at this;rw[qaS,aP hp] at this;rw[hx] at hq;cases hq;simp only[qac,if_false,qcp] at this;exact KeyOrd.kle_of_klt this
  dsimp only;by_cases hk0:m - z>0
  ·rw[qag hk0];have ez:m - (m - z)=z:=by lia
   have h2:=h.moveA T.sa T.sb hma (by lia) hnb (m - z) (by lia) (fun r p q hr1 hr2=>hhi' r p q (by lia) hr2);rw[ez] at h2;by_cases z2:z=0
   ·rw[qag (by simpa using z2)];exact wpS_pure ⟨Eqv.rfl',.inl ⟨_,rfl,h2.all T.sa T.sb (.inl z2)⟩⟩
   ·rw[qao (by simpa using z2)];exact sM T hk' h2 (by lia) (by lia) hn hnb (by rw[qbN];lia) (fun p q hp hq=>hlo' (z - 1) p q (by lia) hp hq)
  ·rw[qao hk0];exact sM T hk' h hm hma hn hnb hN (fun p q hp hq=>hlo' (m - 1) p q (by lia) hp hq)
def L1h(C:Cmp prog w A E s kd O)(a b:Array Keyed)(N:Nat)(c:HB):Prop :=
 c.1=none/\HI C a b c.2.2.2.1 c.2.1 c.2.2.1/\1<=c.2.1/\c.2.1<=a.size/\2<=c.2.2.1/\c.2.2.1<=b.size/\N<=c.2.2.2.1.size
def L0h(C:Cmp prog w A E s kd O)(a b:Array Keyed)(N:Nat)(c:HC):Prop :=
 c.1=none/\HI C a b c.2.2.2.1 c.2.1 c.2.2.1/\1<=c.2.1/\c.2.1<=a.size/\2<=c.2.2.1/\c.2.2.1<=b.size/\N<=c.2.2.2.1.size
def Step1(C:Cmp prog w A E s kd O)(a b:Array Keyed)(N:Nat)(st:SortSt)(r:ForInStep HB)(st':SortSt):Prop:=match r with
 | .done c=>st'=st/\((∃x,c.1=some x/\MR C a b x)\/L1h C a b N c)
 | .yield c=>st'=st/\L1h C a b N c
def ub(C:Cmp prog w A E s kd O)(a b:Array Keyed)(N:Nat)(st:SortSt)(r:ForInStep HC)(st':SortSt):Prop:=match r with
 | .done c=>Eqv st st'/\∃x,c.1=some x/\MR C a b x
 | .yield c=>Eqv st st'/\L0h C a b N c
def hiP_ok(T:Two C a b)(hk':kindOf st=kd)(hI':HI C a b ou' m' n')(hm':1<=m')(hma':m'<=a.size)(hn':2<=n')(hnb2:n'<=b.size)(hN:N<=ou'.size) :
  wpS (model prog w) A E s (hiP a b g (none,m',n',ou',ca,cb)) (Step1 C a b (N+1) st) st:=by
 unfold hiP;dsimp only;refine wpS_bind (aS (by lia) fun p hp=>wpS_bind (aS (by lia) fun q hq=>?_));refine wpS_bind (C.ask p q st _ (bu T.gb hp) (bu T.ga hq) hk' ?_)
 cases hz:O.blt (C.key p) (C.key q) with
 | true =>
  dsimp only;refine wpS_bind (aS (by lia) fun q' hq'=>?_);rw[hq] at hq';cases hq';have em:m'=m' - 1+1:=by lia
  have h2:HI C a b (ou'.push q) (m' - 1) n':=by
   have h':=hI';rw[em] at h';exact h'.pushA T.sa T.sb hq (by lia) hnb2 (fun p' hp'=>by rw[hp] at hp';cases hp';exact KeyOrd.kle_of_klt hz)
  have hs2:(ou'.push q).size=ou'.size+1:=qbk ..;by_cases z3:m' - 1=0
  ·rw[qag (by simpa using z3)];exact wpS_pure ⟨rfl,.inl ⟨_,rfl,h2.all T.sa T.sb (.inl z3)⟩⟩
  ·rw[qao (by simpa using z3)];split
   ·exact wpS_pure ⟨rfl,.inr ⟨rfl,h2,by lia,by lia,hn',hnb2,by rw[hs2];lia⟩⟩
   ·exact wpS_pure ⟨rfl,rfl,h2,by lia,by lia,hn',hnb2,by rw[hs2];lia⟩
 | false =>
  dsimp only;rw[qao (by simp)];refine wpS_bind (aS (by lia) fun p' hp'=>?_);rw[hp] at hp';cases hp';have en:n'=n' - 1+1:=by lia
  have h2:HI C a b (ou'.push p) m' (n' - 1):=by
   have h':=hI';rw[en] at h';exact h'.pushB T.sa T.sb hp hm' hma' (fun q' hq'=>by rw[hq] at hq';cases hq';exact hz)
  have hs2:(ou'.push p).size=ou'.size+1:=qbk ..;by_cases z3:n' - 1=1
  ·rw[qag (by simpa using z3)];exact wpS_pure ⟨rfl,.inl ⟨_,rfl,h2.one T z3⟩⟩
  ·rw[qao (by simpa using z3)];split
   ·exact wpS_pure ⟨rfl,.inr ⟨rfl,h2,hm',hma',by lia,by lia,by rw[hs2];lia⟩⟩
   ·exact wpS_pure ⟨rfl,rfl,h2,hm',hma',by lia,by lia,by rw[hs2];lia⟩
def hiE_ok(ev:Eqv st0 st)(hc:(∃x,c.1=some x/\MR C a b x)\/LIh C a b N c):wpS (model prog w) A E s (hiE c) (ub C a b N st0) st:=by
 obtain⟨c1,m3,n3,ou3,g3,ca3,cb3⟩:=c;rcases hc with ⟨r,hr,mr⟩|⟨hc,hr⟩
 ·cases hr;exact wpS_pure ⟨ev,r,rfl,mr⟩
 ·cases hc;exact wpS_bind (wpS_modify (wpS_pure ⟨ev.trans ⟨rfl,rfl,rfl,rfl⟩,rfl,hr⟩))
def hiG_ok(T:Two C a b)(hk:kindOf st=kd)(h:LIh C a b N c):wpS (model prog w) A E s (hiG a b c) (mM C a b N st) st:=by
 obtain⟨_,i3,hm3,hma3,hn3,hnb3,hN3⟩:=h;unfold hiG;split
 ·exact tT T hk i3 hm3 hma3 hn3 hnb3 hN3
 ·exact tT T hk i3 hm3 hma3 hn3 hnb3 hN3
def hiD_ok(T:Two C a b)(hk:kindOf st=kd)(ev:Eqv st0 st)(hc:(∃x,c.1=some x/\MR C a b x)\/L1h C a b N c):wpS (model prog w) A E s (hiD a b g c) (ub C a b N st0) st:=by
 obtain⟨c1,m',n',ou',ca,cb⟩:=c;rcases hc with ⟨r,hr,mr⟩|⟨hc,hr⟩
 ·cases hr;exact wpS_pure ⟨ev,r,rfl,mr⟩
 ·cases hc;refine wpS_bind (wpS_lift (wpAny_rule ⟨rfl,?_⟩));refine wpS_bind (wpS_mono (wpS_forRange (I:=fun y c st3=>Eqv st st3/\LIh C a b N c) (Q:=fun c st3=>Eqv st st3/\((∃x,c.1=some x/\MR C a b x)\/LIh C a b N c)) ?_ ?_ ⟨Eqv.rfl',rfl,hr⟩) ?_)
  ·rintro y c st3 _ hy ⟨ev3,h3⟩;refine wpS_mono (hiG_ok T (ev3.kind.trans hk) h3) fun r st4 hr=>?_
   cases r with
   | done c'=>exact⟨ev3.trans hr.1,hr.2⟩
   | yield c'=>exact⟨ev3.trans hr.1,hr.2⟩
  ·rintro c st3 ⟨ev3,hli⟩;exact⟨ev3,.inr hli⟩
  ·rintro c st3 ⟨ev3,hc⟩;exact hiE_ok (ev.trans ev3) hc
def hiO_ok(T:Two C a b)(hk:kindOf st=kd)(h:L0h C a b N c):wpS (model prog w) A E s (hiO a b c) (ub C a b (N+1) st) st:=by
 obtain⟨hc,hI,hm,hma,hn,hnb',hsz⟩:=h
 refine wpS_bind (wpS_mono (wpS_forRange (I:=fun y c st''=>st''=st/\L1h C a b (N+y) c)
  (Q:=fun c st''=>st''=st/\((∃x,c.1=some x/\MR C a b x)\/L1h C a b (N+1) c)) ?_ ?_ ⟨rfl,rfl,hI,hm,hma,hn,hnb',hsz⟩) ?_)
 ·rintro y c st'' _ hy ⟨rfl,h1⟩;obtain⟨hc,hI',hm',hma',hn',hnb2,hsz'⟩:=h1;refine wpS_mono (hiP_ok T hk hI' hm' hma' hn' hnb2 hsz') fun r st4 hr=>?_
  cases r with
  | done c'=>exact⟨hr.1,hr.2.imp_right fun h=>⟨h.1,h.2.1,h.2.2.1,h.2.2.2.1,h.2.2.2.2.1,h.2.2.2.2.2.1,qaE (by lia) h.2.2.2.2.2.2⟩⟩
  | yield c'=>exact hr
 ·rintro c st'' ⟨rfl,h⟩;exact⟨rfl,.inr ⟨h.1,h.2.1,h.2.2.1,h.2.2.2.1,h.2.2.2.2.1,h.2.2.2.2.2.1,qaE (by lia) h.2.2.2.2.2.2⟩⟩
 ·rintro c st'' ⟨rfl,hc⟩;exact hiD_ok T hk Eqv.rfl' hc
def hiZ_ok(T:Two C a b)(hk:kindOf st=kd)(h1:HI C a b #[x0] (a.size - 1) b.size)(hm:1<=a.size - 1)(hn:2<=b.size)(h:∀x st',Eqv st st'->MR C a b x->Q x st'):wpS (model prog w) A E s (hiZ a b x0) Q st:=by
 refine wpS_bind (wpS_get ?_)
 refine wpS_bind (wpS_mono (wpS_forRange (I:=fun x c st'=>Eqv st st'/\L0h C a b (x+1) c)
  (Q:=fun c st'=>Eqv st st'/\∃x,c.1=some x/\MR C a b x) ?_ ?_ ⟨Eqv.rfl',rfl,h1,hm,Nat.sub_le _ _,hn,qah _,qah _⟩) ?_)
 ·rintro x c st' _ hx ⟨ev,h0⟩;refine wpS_mono (hiO_ok T (ev.kind.trans hk) h0) fun r st4 hr=>?_
  cases r with
  | done c'=>exact⟨ev.trans hr.1,hr.2⟩
  | yield c'=>exact⟨ev.trans hr.1,hr.2⟩
 ·rintro c st' ⟨ev,h0⟩;exfalso
  have:=h0.2.1.size h0.2.2.2.1 h0.2.2.2.2.2.1
  have:=h0.2.2.2.2.2.2
  lia
 ·rintro c st' ⟨ev,r,hr,mr⟩;obtain⟨c1,c2⟩:=c;cases hr;exact wpS_pure (h r st' ev mr)
def wps_hi(T:Two C a b)(hk:kindOf st=kd)(h:∀x st',Eqv st st'->MR C a b x->Q x st'):wpS (model prog w) A E s (lq a b) Q st:=by
 rw[hi_n];refine wpS_bind (wpS_lift (wpAny_rule ⟨rfl,?_⟩));have hna:=T.na;have hnb:=T.nb;refine wpS_bind (aS (by lia) fun x0 hx0=>?_)
 have h0:HI C a b #[] a.size b.size:=⟨by
   have e1:a.toList.take a.size=a.toList:=qaW (by simp);have e2:b.toList.take b.size=b.toList:=qaW (by simp)
   rw[e1,e2];simp,by unfold LS;simp,fun x _ y hy=>by simp at hy⟩
 have h1:HI C a b #[x0] (a.size - 1) b.size:=by
  have e:a.size=a.size - 1+1:=by lia
  have h':HI C a b #[] (a.size - 1+1) b.size:=by rw[<-e];exact h0
  have:=h'.pushA T.sa T.sb hx0 hnb (qah _) (fun q hq=>T.lst q x0 (qaA.mpr ⟨_,by rw[qay];exact hq⟩) hx0)
  simpa using this
 by_cases z1:a.size - 1=0
 ·rw[qag (by simpa using z1)];exact wpS_pure (h _ st Eqv.rfl' (h1.all T.sa T.sb (.inl z1)))
 ·rw[qao (by simpa using z1)];by_cases z2:b.size=1
  ·rw[qag (by simpa using z2)];exact wpS_pure (h _ st Eqv.rfl' (h1.one T z2))
  ·rw[qao (by simpa using z2)];exact hiZ_ok T hk h1 (by lia) (by lia) h
end
def rZ(i:Nat):mergeAt' i=(do
 let c <-get
 let (some (sa,na,pw),some (sb,nb,_)):=((pendingOf c)[i]?,(pendingOf c)[i+1]?)|unsupported "internal:list.sort.pending"
 set (setPending c (((pendingOf c).setIfInBounds i (sa,na+nb,pw)).eraseIdxIfInBounds (i+1)))
 let some k <-gallop' false (<-elem' (arrOf c) sb) (arrOf c) sa na 0|return false
 let (sa,na):=(sa+k,na - k)
 if na == 0 then return true
 let some nb <-gallop' true (<-elem' (arrOf c) (sa+na - 1)) (arrOf c) sb nb (nb - 1)|return false
 if nb == 0 then return true
 let x:=(arrOf c).extract sa sb
 let y:=(arrOf c).extract sb (sb+nb)
 let ou <-if na<=nb then ly x y else lq x y
 modify fun c=>setArr c (ou.toList.zipIdx.foldl (fun a (p,j)=>a.setIfInBounds (sa+j) p) (arrOf c))
 return (failedOf (<-get)).isNone):=rfl
def lay_get(off:Nat):∀(l:List Keyed) (q:Nat) (xs:Array Keyed) (i:Nat),((l.zipIdx q).foldl (fun a (p:Keyed × Nat)=>a.setIfInBounds (off+p.2) p.1) xs)[i]? =
  if off+q<=i/\i<off+q+l.length/\i<xs.size then l[i - (off+q)]? else xs[i]?:=by
 intro l
 induction l with
 | nil=>intro q xs i;rw[qao (by simp;lia)];rfl
 | cons p l ih =>
  intro q xs i;rw[List.zipIdx_cons,qcE,ih];simp only[Array.size_setIfInBounds]
  grind
def yO{xs ou:Array Keyed}{off:Nat}(h:off+ou.size<=xs.size) :
  (ou.toList.zipIdx.foldl (fun a (p:Keyed × Nat)=>a.setIfInBounds (off+p.2) p.1) xs).toList=xs.toList.take off++(ou.toList++xs.toList.drop (off+ou.size)):=by
 apply qbD;intro i;rw[qay,lay_get];have hl:(xs.toList.take off).length=off:=by simp;lia
 by_cases h1:i<off
 ·rw[qao (by lia),qan (by lia),qbz h1,qay]
 ·rw[qaD (by lia),hl];by_cases h2:i<off+ou.size
  ·rw[qag ⟨by lia,by simpa using h2,by lia⟩,qan (by simp;lia)];congr 1
  ·rw[qao (by simp;lia),qaD (by simp;lia),qce,qay];congr 1;simp;lia
section
variable {prog:Program} {w:World} {A:Around} {E:Value→Shared→Prop} {s:Shared} {kd:SortKind} {O:KeyOrd} {C:Cmp prog w A E s kd O} {a₀:Array Keyed} {st:SortSt}
def gI{xs:Array Keyed}{lo hi i j:Nat}(h:Srt C xs lo hi)(hi':lo<=i)(hij:i<=j)(hj:j<hi){p q:Keyed}(hp:xs[i]?=some p)(hq:xs[j]?=some q):O.kle (C.key p) (C.key q):=by
 have:=h i j hi' hij hj
 rw[aP hp,aP hq] at this;exact this
def sY{xs:Array Keyed}{lo hi:Nat}{p:Keyed}(hhi:hi<=xs.size)(h:p∈(xs.extract lo hi).toList):∃i,lo<=i/\i<hi/\xs[i]?=some p:=by
 obtain⟨q,hq⟩:=qaA.mp h;rw[qay,qbs] at hq
 split at hq
 ·exact⟨lo+q,by lia,by lia,hq⟩
 ·cases hq
def split3{xs:Array Keyed}{i j k:Nat}(h1:i<=j)(h2:j<=k)(h3:k<=xs.size):xs.toList=xs.toList.take i++((xs.extract i j).toList++(xs.extract j k).toList++xs.toList.drop k):=by
 have e1:(xs.extract i j).toList=(xs.toList.drop i).take (j - i):=by simp
 have e2:(xs.extract j k).toList=(xs.toList.drop j).take (k - j):=by simp
 rw[e1,e2];have a1:(xs.toList.drop j).take (k - j)++xs.toList.drop k=xs.toList.drop j:=by
  have:=qaZ (k - j) (xs.toList.drop j)
  simp_all
 have a2:(xs.toList.drop i).take (j - i)++xs.toList.drop j=xs.toList.drop i:=by
  have:=qaZ (j - i) (xs.toList.drop i)
  rw[List.drop_drop] at this;have e:i+(j - i)=j:=by lia
  rw[e] at this;exact this
 rw[qbf,a1,a2,qaZ]
def rV{n1 pw:Nat}{Q:Bool->SortSt->Prop}(h0:cE C a₀)(hB:SB kd a₀ st)(h1:1<=n1)(h2:n1<a₀.size)(hp:pendingOf st=#[(0,n1,pw),(n1,a₀.size - n1,0)])
  (hs1:Srt C (arrOf st) 0 n1) (hs2:Srt C (arrOf st) n1 a₀.size)
  (h:∀st',SB kd a₀ st'->(pendingOf st').size=1->Srt C (arrOf st') 0 a₀.size->Q true st'):wpS (model prog w) A E s (mergeAt' 0) Q st:=by
 have hsz:=hB.size;have hg:=hB.good h0;rw[rZ];refine wpS_bind (wpS_get ?_);rw[hp];have e0:(#[(0,n1,pw),(n1,a₀.size - n1,0)]:Array (Nat × Nat × Nat))[0]?=some (0,n1,pw):=rfl;have e1:(#[(0,n1,pw),(n1,a₀.size - n1,0)]:Array (Nat × Nat × Nat))[0+1]?=some (n1,a₀.size - n1,0):=rfl;rw[e0,e1];dsimp only;refine wpS_bind ?_;have hset:∀(c:SortSt) (Q':PUnit->SortSt->Prop),Q' ⟨⟩ c->wpS (model prog w) A E s (set c:StateT SortSt Sem PUnit) Q' st:=fun c Q' hq=>by
  unfold wpS;rw[StateT.run_set];exact qak ⟨rfl,hq⟩
 refine hset _ _ ?_;obtain⟨st1,hst1⟩:∃c,c=setPending st (((#[(0,n1,pw),(n1,a₀.size - n1,0)]:Array (Nat × Nat × Nat)).setIfInBounds 0 (0,n1+(a₀.size - n1),pw)).eraseIdxIfInBounds (0+1)):=⟨_,rfl⟩;rw[<-hst1];have hB1:SB kd a₀ st1:=by rw[hst1];exact⟨hB.perm,hB.kind,hB.failed⟩
 have hp1:(pendingOf st1).size=1:=by rw[hst1];simp[pendingOf]
 have ha1:arrOf st1=arrOf st:=by rw[hst1]
 clear hst1;have whole:Srt C (arrOf st) 0 n1->Srt C (arrOf st) n1 a₀.size->(∀i j,i<n1->n1<=j->j<a₀.size->O.kle (kk C (arrOf st) i) (kk C (arrOf st) j))->Srt C (arrOf st1) 0 a₀.size:=by
  intro g1 g2 g3 i j _ hij hj;rw[ha1];by_cases c1:j<n1
  ·exact g1 i j (qaR _) hij c1
  ·by_cases c2:i<n1
   ·exact g3 i j c2 (by lia) hj
   ·exact g2 i j (by lia) hij hj
 refine wpS_bind (aS (by lia) fun b0 hb0=>?_);refine wpS_bind (dD (C:=C) hB1.kind hg (bu hg hb0) (by lia) (by lia) (by rw[qaS];exact hs1) fun k hk hlo hhi=>?_);have hlo':∀r p,r<k->(arrOf st)[r]?=some p->O.kle (C.key p) (C.key b0):=fun r p hr hp'=>by
  have:=hlo r hr
  unfold ahead at this;rw[qaS,aP hp'] at this;simp only[qac,if_false,qbq] at this;exact this
 have hhi':∀r p,k<=r->r<n1->(arrOf st)[r]?=some p->O.kle (C.key b0) (C.key p):=fun r p hr1 hr2 hp'=>by
  have:=hhi r hr1 hr2
  unfold ahead at this;rw[qaS,aP hp'] at this;simp only[qac,if_false,qcp] at this;exact KeyOrd.kle_of_klt this
 dsimp only;rw[qaS];have getP:∀i,i<a₀.size->∃p,(arrOf st)[i]?=some p:=fun i hi=>⟨_,getElem?_pos _ i (by lia)⟩;by_cases z1:n1 - k=0
 ·rw[qag (by simpa using z1)];refine wpS_pure (h st1 hB1 hp1 (whole hs1 hs2 fun i j hi hj1 hj2=>?_));obtain⟨p,hp'⟩:=getP i (by lia);obtain⟨q,hq'⟩:=getP j hj2;rw[aP hp',aP hq'];exact KeyOrd.kle_trans (hlo' i p (by lia) hp') (gI hs2 (qah _) hj1 hj2 hb0 hq')
 ·rw[qao (by simpa using z1)];have ez:k+(n1 - k) - 1=n1 - 1:=by lia
  rw[ez];refine wpS_bind (aS (by lia) fun al hal=>?_);refine wpS_bind (dD (C:=C) hB1.kind hg (bu hg hal) (by lia) (by lia) (by have e:n1+(a₀.size - n1)=a₀.size:=(by lia);rw[e];exact hs2) fun m hm hlo2 hhi2=>?_);have hlo2':∀r p,n1<=r->r<n1+m->(arrOf st)[r]?=some p->O.kle (C.key p) (C.key al):=fun r p hr1 hr2 hp'=>by
   have:=hlo2 (r - n1) (by lia)
   have e:n1+(r - n1)=r:=by lia
   unfold ahead at this;rw[e,aP hp'] at this;exact KeyOrd.kle_of_klt this
  have hhi2':∀r p,n1+m<=r->r<a₀.size->(arrOf st)[r]?=some p->O.kle (C.key al) (C.key p):=fun r p hr1 hr2 hp'=>by
   have:=hhi2 (r - n1) (by lia) (by lia)
   have e:n1+(r - n1)=r:=by lia
   unfold ahead at this;rw[e,aP hp'] at this;exact this
  dsimp only;by_cases z2:m=0
  ·rw[qag (by simpa using z2)];refine wpS_pure (h st1 hB1 hp1 (whole hs1 hs2 fun i j hi hj1 hj2=>?_));obtain⟨p,hp'⟩:=getP i (by lia);obtain⟨q,hq'⟩:=getP j hj2;rw[aP hp',aP hq'];exact KeyOrd.kle_trans (gI hs1 (qaR _) (by lia) (by lia) hp' hal) (hhi2' j q (by lia) hj2 hq')
  ·rw[qao (by simpa using z2)];have sx:((arrOf st).extract k n1).size=n1 - k:=by simp;lia
   have sy:((arrOf st).extract n1 (n1+m)).size=m:=by simp;lia
   have gx:∀r,r<n1 - k->((arrOf st).extract k n1)[r]?=(arrOf st)[k+r]?:=fun r hr=>by rw[qbs,qag (by lia)]
   have gy:∀r,r<m->((arrOf st).extract n1 (n1+m))[r]?=(arrOf st)[n1+r]?:=fun r hr=>by rw[qbs,qag (by lia)]
   have memx:∀p,p∈((arrOf st).extract k n1).toList->∃i,k<=i/\i<n1/\(arrOf st)[i]?=some p:=fun p hp'=>sY (by lia) hp';have memy:∀p,p∈((arrOf st).extract n1 (n1+m)).toList->∃i,n1<=i/\i<n1+m/\(arrOf st)[i]?=some p:=fun p hp'=>sY (by lia) hp';have T:Two C ((arrOf st).extract k n1) ((arrOf st).extract n1 (n1+m)):=by
    refine⟨fun p hp'=>?_,fun p hp'=>?_,mw (by lia) fun i j a b c=>hs1 i j (qaR _) b c,mw (by lia) fun i j a b c=>hs2 i j a b (by lia),by lia,by lia,?_,?_⟩
    ·obtain⟨i,_,_,hi⟩:=memx p hp';exact bu hg hi
    ·obtain⟨i,_,_,hi⟩:=memy p hp';exact bu hg hi
    ·intro p q hp' hq';rw[gy 0 (by lia)] at hp';rw[gx 0 (by lia)] at hq';have e:(arrOf st)[n1+0]?=some b0:=hb0;rw[e] at hp';cases hp';exact hhi' (k+0) q (by lia) (by lia) hq'
    ·intro x q hx hq';obtain⟨i,i1,i2,hi⟩:=memy x hx;rw[sx,gx _ (by lia)] at hq';have e:k+(n1 - k - 1)=n1 - 1:=by lia
     rw[e,hal] at hq';cases hq';exact hlo2' i x i1 i2 hi
   have fin:∀ou st2,Eqv st1 st2->MR C ((arrOf st).extract k n1) ((arrOf st).extract n1 (n1+m)) ou ->
     wpS (model prog w) A E s (do
      modify fun c=>setArr c (ou.toList.zipIdx.foldl (fun a (p:Keyed × Nat)=>a.setIfInBounds (k+p.2) p.1) (arrOf c))
      return (failedOf (<-get)).isNone) Q st2:=by
    intro ou st2 ev mr;refine wpS_bind (wpS_modify ?_);refine wpS_bind (wpS_get (wpS_pure ?_));have ea:arrOf st2=arrOf st:=ev.arr.trans ha1;have so:ou.size=n1 - k+m:=by
     have:=mr.1.length_eq
     rw[qaH,qaQ,qaH,qaH,sx,sy] at this;exact this
    have hl:=yO (xs:=arrOf st2) (ou:=ou) (off:=k) (by rw[ea];lia);have eo:k+ou.size=n1+m:=by lia
    rw[eo,ea] at hl;have hsp:=split3 (xs:=arrOf st) (i:=k) (j:=n1) (k:=n1+m) (by lia) (by lia) (by lia);have hfn:(failedOf (setArr st2 (ou.toList.zipIdx.foldl (fun a (p:Keyed × Nat)=>a.setIfInBounds (k+p.2) p.1) (arrOf st2)))).isNone=true:=by
     show (failedOf st2).isNone=true;rw[ev.failed,hB1.failed];rfl
    rw[hfn];have hls:LS C (ou.toList.zipIdx.foldl (fun a (p:Keyed × Nat)=>a.setIfInBounds (k+p.2) p.1) (arrOf st2)).toList:=by
     rw[ea,hl];have mo:∀p,p∈ou.toList->(∃i,k<=i/\i<n1/\(arrOf st)[i]?=some p)\/(∃i,n1<=i/\i<n1+m/\(arrOf st)[i]?=some p):=fun p hp' =>
      (qav.mp (mr.1.mem_iff.mp hp')).imp (memx p) (memy p)
     have mt:∀p,p∈(arrOf st).toList.take k->∃i,i<k/\(arrOf st)[i]?=some p:=fun p hp'=>by
      obtain⟨i,hi⟩:=qaA.mp hp';by_cases c:i<k
      ·rw[qbz c,qay] at hi;exact⟨i,c,hi⟩
      ·rw[qaT (by simp;lia)] at hi;cases hi
     have md:∀p,p∈(arrOf st).toList.drop (n1+m)->∃i,n1+m<=i/\i<a₀.size/\(arrOf st)[i]?=some p:=fun p hp'=>by
      obtain⟨i,hi⟩:=qaA.mp hp';rw[qce,qay] at hi
      have:=(qbe.mp hi).1
      exact⟨n1+m+i,by lia,by lia,hi⟩
     refine cc ?_ (cc mr.2 ?_ ?_) ?_
     ·have:=mw (C:=C) (xs:=arrOf st) (lo:=0) (hi:=k) (by lia) fun i j a b c=>hs1 i j a b (by lia)
      rw[lB] at this;exact this
     ·have:=mw (C:=C) (xs:=arrOf st) (lo:=n1+m) (hi:=(arrOf st).size) (qah _) fun i j a b c=>hs2 i j (by lia) b (by lia)
      rw[gL] at this;exact this
     ·intro x hx y hy;obtain⟨j,j1,j2,hj⟩:=md y hy;rcases mo x hx with ⟨i,i1,i2,hi⟩|⟨i,i1,i2,hi⟩
      ·exact KeyOrd.kle_trans (gI hs1 (qaR _) (by lia) (by lia) hi hal) (hhi2' j y j1 j2 hj)
      ·exact gI hs2 i1 (by lia) j2 hi hj
     ·intro x hx y hy;obtain⟨i,i1,hi⟩:=mt x hx;rcases qav.mp hy with hy|hy
      ·rcases mo y hy with ⟨j,j1,j2,hj⟩|⟨j,j1,j2,hj⟩
       ·exact gI hs1 (qaR _) (by lia) j2 hi hj
       ·exact KeyOrd.kle_trans (hlo' i x i1 hi) (gI hs2 (qah _) j1 (by lia) hb0 hj)
      ·obtain⟨j,j1,j2,hj⟩:=md y hy;exact KeyOrd.kle_trans (hlo' i x i1 hi) (gI hs2 (qah _) (by lia) j2 hb0 hj)
    have hpm:(ou.toList.zipIdx.foldl (fun a (p:Keyed × Nat)=>a.setIfInBounds (k+p.2) p.1) (arrOf st2)).Perm (arrOf st):=by
     rw[qbR,ea,hl];refine List.Perm.trans ?_ (List.Perm.of_eq hsp.symm);exact List.Perm.append_left _ (List.Perm.append_right _ mr.1)
    refine h _ ⟨hpm.trans hB.perm,ev.kind.trans hB1.kind,ev.failed.trans hB1.failed⟩ ?_ ?_
    ·show (pendingOf st2).size=1;rw[ev.pend];exact hp1
    ·have:=jL hls
     have e2:(ou.toList.zipIdx.foldl (fun a (p:Keyed × Nat)=>a.setIfInBounds (k+p.2) p.1) (arrOf st2)).size=a₀.size:=(hpm.trans hB.perm).size_eq;rw[e2] at this;exact this
   by_cases hle:n1 - k<=m
   ·rw[qag hle];refine wpS_bind (wps_lo T hB1.kind fun ou st2 ev mr=>?_);exact fin ou st2 ev mr
   ·rw[qao hle];refine wpS_bind (wps_hi T hB1.kind fun ou st2 ev mr=>?_);exact fin ou st2 ev mr
end
def rn(h2:2<=n)(h:n<64):minRun' n n 0=n:=by
 obtain⟨f,hf⟩:∃f,n=f+1:=⟨n - 1,by lia⟩
 have:minRun' (f+1) n 0=n+0:=by rw[minRun'_succ,qag h]
 rw[<-hf] at this;exact this
def vT(h2:2<=n)(h:n<=66):1<=minRun' n n 0/\minRun' n n 0<=n/\n<=2 * minRun' n n 0:=by
 by_cases c:n<64
 ·rw[rn h2 c];lia
 ·have:n=64\/n=65\/n=66:=by lia
  rcases this with e|e | e <;> subst e
  ·have:minRun' 64 64 0=32:=by decide
   rw[this];lia
  ·have:minRun' 65 65 0=33:=by decide
   rw[this];lia
  ·have:minRun' 66 66 0=33:=by decide
   rw[this];lia
section
variable {prog:Program} {w:World} {A:Around} {E:Value→Shared→Prop} {s:Shared} {kd:SortKind} {O:KeyOrd} {C:Cmp prog w A E s kd O} {a₀:Array Keyed} {st:SortSt}
def One(C:Cmp prog w A E s kd O)(a₀:Array Keyed)(mr n1:Nat)(st:SortSt):Prop:=SB kd a₀ st/\pendingOf st=#[(0,n1,0)]/\mr<=n1/\n1<=a₀.size/\Srt C (arrOf st) 0 n1
def Both(C:Cmp prog w A E s kd O)(a₀:Array Keyed)(n1:Nat)(st:SortSt):Prop :=
 SB kd a₀ st/\1<=n1/\n1<a₀.size/\(∃pw,pendingOf st=#[(0,n1,pw),(n1,a₀.size - n1,0)])/\Srt C (arrOf st) 0 n1/\Srt C (arrOf st) n1 a₀.size
def rH{xs ys:Array Keyed}{p lo hi:Nat}(h:cL p xs ys)(hhi:hi<=p)(g:Srt C xs lo hi):Srt C ys lo hi:=by
 intro i j hi' hij hj;rw[eE (h i (by lia)),eE (h j (by lia))];exact g i j hi' hij hj
def yg(h0:cE C a₀)(hB:SB kd a₀ st)(hpd:pendingOf st=#[])(h2:2<=a₀.size)(h66:a₀.size<=66)
  (h:∀st',(arrOf st').Perm a₀->failedOf st'=none->Srt C (arrOf st') 0 a₀.size->Q () st'):wpS (model prog w) A E s sortRuns' Q st:=by
 obtain⟨m1,m2,m3⟩:=vT h2 h66;rw[sortRuns'_eq];refine wpS_bind (wpS_get ?_);dsimp only;rw[hB.size];generalize minRun' a₀.size a₀.size 0=mr at m1 m2 m3 ⊢
 refine wpS_bind (wpS_mono (wpS_forRange
  (I:=fun x c st'=>(x=0/\c=(none,0)/\SB kd a₀ st'/\pendingOf st'=#[])\/(x=1/\∃n1,c=(none,n1)/\One C a₀ mr n1 st')\/(2<=x/\c=(none,a₀.size)/\∃n1,Both C a₀ n1 st'))
  (Q:=fun c st'=>c=(none,a₀.size)/\(One C a₀ mr a₀.size st'\/∃n1,Both C a₀ n1 st')) ?_ ?_ (.inl ⟨rfl,rfl,hB,hpd⟩)) ?_)
 ·rintro x c st' _ hx (⟨rfl,rfl,hB',hp'⟩|⟨rfl,n1,rfl,hB',hp',hr1,hr2,hs'⟩|⟨hx2,rfl,n1,hb⟩)
  ·rw[qao (by lia)];simp only[Nat.sub_zero,qaS];refine wpS_bind (tU (p:=0) h0 (by lia) (by lia) hB' fun m st2 hB2 _ hpe hm1 hm2 hs2=>?_);rw[qaS] at hs2;dsimp only;by_cases hlt:m<mr
   ·rw[qag hlt];refine wpS_bind (wpS_lift (wpAny_rule ⟨rfl,?_⟩));refine wpS_bind (tI (p:=0) h0 (by lia) (by lia) hB2 (by rw[qaS];exact hs2) fun st3 hB3 _ hpe3 hs3=>?_);simp only[qaI,qac,if_false];refine wpS_bind (wpS_get ?_);have hb:(pendingOf st3).back?=none:=by rw[hpe3,hpe,hp'];rfl
    rw[hb];dsimp only;refine wpS_bind (wpS_modify (wpS_pure (.inr (.inl ⟨trivial,_,rfl,⟨hB3.perm,hB3.kind,hB3.failed⟩,?_,by lia,by lia,?_⟩))))
    ·show (pendingOf st3).push _=_;rw[hpe3,hpe,hp'];rfl
    ·rw[qaS] at hs3;exact hs3
   ·rw[qao hlt];refine wpS_bind (wpS_get ?_);have hb:(pendingOf st2).back?=none:=by rw[hpe,hp'];rfl
    rw[hb];dsimp only;refine wpS_bind (wpS_modify (wpS_pure (.inr (.inl ⟨trivial,_,rfl,⟨hB2.perm,hB2.kind,hB2.failed⟩,?_,by lia,by lia,hs2⟩))));show (pendingOf st2).push _=_;rw[hpe,hp'];rfl
  ·dsimp only;by_cases hend:n1>=a₀.size
   ·rw[qag hend];have e:n1=a₀.size:=by lia
    subst e;exact wpS_pure ⟨rfl,.inl ⟨hB',hp',hr1,hr2,hs'⟩⟩
   ·rw[qao hend];have hrest:a₀.size - n1<=mr:=by lia
    refine wpS_bind (tU (p:=n1) h0 (by lia) (by lia) hB' fun m st2 hB2 hsm hpe hm1 hm2 hs2=>?_);dsimp only;by_cases hlt:m<mr
    ·rw[qag hlt];refine wpS_bind (wpS_lift (wpAny_rule ⟨rfl,?_⟩));have em:min (a₀.size - n1) mr=a₀.size - n1:=by lia
     rw[em];refine wpS_bind (tI (p:=n1) h0 (by lia) (by lia) hB2 hs2 fun st3 hB3 hsm3 hpe3 hs3=>?_);simp only[qaI,qac,if_false];refine wpS_bind (wpS_get ?_);have hp3:pendingOf st3=#[(0,n1,0)]:=by rw[hpe3,hpe,hp']
     have hb:(pendingOf st3).back?=some (0,n1,0):=by rw[hp3];rfl
     rw[hb];dsimp only;refine wpS_bind (wpS_mono (wpS_forRange (I:=fun _ c st4=>c=(none,())/\st4=st3) (Q:=fun c st4=>c=(none,())/\st4=st3) ?_ (fun _ _ hh=>hh) ⟨rfl,rfl⟩) ?_)
     ·rintro y c st4 _ _ ⟨rfl,rfl⟩;refine wpS_bind (wpS_get ?_);rw[hp3];exact wpS_pure ⟨rfl,rfl⟩
     ·rintro c st4 ⟨rfl,rfl⟩;dsimp only;refine wpS_bind (wpS_modify (wpS_bind (wpS_modify (wpS_pure (.inr (.inr ⟨by lia,?_,n1,⟨hB3.perm,hB3.kind,hB3.failed⟩,by lia,by lia,⟨power' a₀.size (2 * 0+n1) (2 * 0+n1+n1+(a₀.size - n1)) a₀.size,?_⟩,(rH (hsm.trans hsm3) (qah _) hs'),(by have e:n1+(a₀.size - n1)=a₀.size:=(by lia);rw[e] at hs3;exact hs3)⟩))))))
      ·have e:n1+(a₀.size - n1)=a₀.size:=by lia
       rw[e]
      ·show ((pendingOf st4).modify _ _).push _=_;rw[hp3];simp
    ·rw[qao hlt];have em:m=a₀.size - n1:=by lia
     subst em;refine wpS_bind (wpS_get ?_);have hp2:pendingOf st2=#[(0,n1,0)]:=by rw[hpe,hp']
     have hb:(pendingOf st2).back?=some (0,n1,0):=by rw[hp2];rfl
     rw[hb];dsimp only;refine wpS_bind (wpS_mono (wpS_forRange (I:=fun _ c st4=>c=(none,())/\st4=st2) (Q:=fun c st4=>c=(none,())/\st4=st2) ?_ (fun _ _ hh=>hh) ⟨rfl,rfl⟩) ?_)
     ·rintro y c st4 _ _ ⟨rfl,rfl⟩;refine wpS_bind (wpS_get ?_);rw[hp2];exact wpS_pure ⟨rfl,rfl⟩
     ·rintro c st4 ⟨rfl,rfl⟩;dsimp only;refine wpS_bind (wpS_modify (wpS_bind (wpS_modify (wpS_pure (.inr (.inr ⟨by lia,?_,n1,⟨hB2.perm,hB2.kind,hB2.failed⟩,by lia,by lia,⟨power' a₀.size (2 * 0+n1) (2 * 0+n1+n1+(a₀.size - n1)) a₀.size,?_⟩,(rH hsm (qah _) hs'),(by have e:n1+(a₀.size - n1)=a₀.size:=(by lia);rw[e] at hs2;exact hs2)⟩))))))
      ·have e:n1+(a₀.size - n1)=a₀.size:=by lia
       rw[e]
      ·show ((pendingOf st4).modify _ _).push _=_;rw[hp2];simp
  ·dsimp only;rw[qag (qah _)];exact wpS_pure ⟨rfl,.inr ⟨n1,hb⟩⟩
 ·rintro c st' (⟨hx,_⟩|⟨hx,_⟩|⟨_,hc,hb⟩)
  ·lia
  ·lia
  ·exact⟨hc,.inr hb⟩
 ·rintro c st' ⟨rfl,hc⟩;dsimp only;rcases hc with ⟨hB',hp',_,_,hs'⟩|⟨n1,hB',n11,n12,⟨pw,hp'⟩,hsA,hsB⟩
  ·refine wpS_bind (wpS_mono (wpS_forRange (I:=fun _ c st''=>st''=st'/\c=(none,())) (Q:=fun c st''=>st''=st'/\c=(none,())) ?_ (fun _ _ hh=>hh) ⟨rfl,rfl⟩) ?_)
   ·rintro x c st'' _ _ ⟨rfl,rfl⟩;refine wpS_bind (wpS_get ?_);rw[qag (by rw[hp'];exact qah 1)];exact wpS_pure ⟨rfl,rfl⟩
   ·rintro c st'' ⟨rfl,rfl⟩;exact wpS_pure (h _ hB'.perm hB'.failed hs')
  ·refine wpS_bind (wpS_mono (wpS_forRange (I:=fun x c st''=>c=(none,())/\((x=0/\st''=st')\/(1<=x/\SB kd a₀ st''/\(pendingOf st'').size=1/\Srt C (arrOf st'') 0 a₀.size)))
    (Q:=fun c st''=>c=(none,())/\SB kd a₀ st''/\Srt C (arrOf st'') 0 a₀.size) ?_ ?_ ⟨rfl,.inl ⟨rfl,rfl⟩⟩) ?_)
   ·rintro x c st'' _ _ ⟨rfl,hcase⟩;rcases hcase with ⟨rfl,rfl⟩|⟨hx1,b1,b2,b3⟩
    ·refine wpS_bind (wpS_get ?_);rw[qao (by rw[hp'];simp)];rw[hp'];refine wpS_bind (rV (n1:=n1) (pw:=pw) h0 hB' n11 n12 hp' hsA hsB fun st3 c1 c2 c3=>?_);simp only[qaI,qac,if_false];exact wpS_pure ⟨rfl,.inr ⟨by lia,c1,c2,c3⟩⟩
    ·refine wpS_bind (wpS_get ?_);rw[qag (by rw[b2];exact qah 1)];exact wpS_pure ⟨rfl,b1,b3⟩
   ·rintro c st'' ⟨rfl,⟨hx,_⟩|⟨_,b1,_,b3⟩⟩
    ·lia
    ·exact⟨rfl,b1,b3⟩
   ·rintro c st'' ⟨rfl,b1,b3⟩;exact wpS_pure (h _ b1.perm b1.failed b3)
end
end SortT
namespace SortT
open PySem PyProof.Rows SetT PySem.W
def bR:List Int->List Int->Bool
 | [],[]=>false
 | [],_::_=>true
 | _::_,[]=>false
 | a::x,b::y=>if a=b then bR x y else decide (a<b)
def lj:∀x,bR x x=false
 | []=>rfl
 | a::x=>by unfold bR;rw[qag rfl];exact lj x
def nu:∀x y z,bR x y=true->bR y z=true->bR x z=true
 | [],_::_,_::_,_,_=>rfl
 | a::x,b::y,c::z,h1,h2=>by
  unfold bR at h1 h2 ⊢;by_cases e1:a=b
  ·rw[qag e1] at h1;by_cases e2:b=c
   ·rw[qag e2] at h2;rw[qag (e1.trans e2)];exact nu x y z h1 h2
   ·rw[qao e2] at h2;rw[qao (fun q=>e2 (e1.symm.trans q)),e1];exact h2
  ·grind
def pM:∀x y z,bR x z=true->bR x y=true\/bR y z=true
 | [],[],_::_,_=>.inr rfl
 | [],_::_,_,_=>.inl rfl
 | _::_,[],_::_,_=>.inr rfl
 | a::x,b::y,c::z,h=>by
  unfold bR at h ⊢;by_cases e1:a=b
  ·rw[qag e1];by_cases e2:b=c
   ·rw[qag e2];rw[qag (e1.trans e2)] at h;exact pM x y z h
   ·rw[qao (fun q=>e2 (e1.symm.trans q)),e1] at h;rw[qao e2];exact .inr h
  ·grind
def iX:∀x y,bR x y=false->bR y x=false->x=y
 | [],[],_,_=>rfl
 | a::x,b::y,h1,h2=>by
  unfold bR at h1 h2;by_cases e:a=b
  ·rw[qag e] at h1;rw[qag e.symm] at h2;rw[e,iX x y h1 h2]
  ·rw[qao e] at h1;rw[qao (fun q=>e q.symm)] at h2
   grind
def lexO:KeyOrd:=⟨List Int,bR,lj,nu,pM,iX⟩
def Ris(l:List (List Int)):Prop:=l.Pairwise fun x y=>bR y x=false
section
variable {prog:Program} {w:World} {A:Around} {E:Value→Shared→Prop} {s:Shared}
def tkey(prog:Program)(w:World)(h:Heap)(v:Value):List Int:=Classical.epsilon fun k=>∃a,v=.ref a/\TK prog w h k a
def gE(t:TK prog w h k a):tkey prog w h (.ref a)=k:=by
 have:=Classical.epsilon_spec (p:=fun k=>∃b,Value.ref a=.ref b/\TK prog w h k b) ⟨k,a,rfl,t⟩
 obtain⟨b,e,hb⟩:=this;cases e;exact IsTupleKey.inj hb t
def lex_ok:∀(xs ys:List Value) (kx ky:List Int) (i:Nat),ItemsAre (intKind prog w) kx xs->ItemsAre (intKind prog w) ky ys->fin=decide (xs.length<ys.length)->Q (bR kx ky) s ->
  KatLex prog w A b fin Q (xs.zip ys) i s:=by
 intro xs
 induction xs with
 | nil =>
  intro ys kx ky i hx hy hf hq;cases hx
  cases hy with
  | nil=>rw[hf];exact hq
  | cons h1 h2=>rw[hf];exact hq
 | cons x xs ih =>
  intro ys kx ky i hx hy hf hq
  cases hx with
  | @cons k1 _ kx' _ h1 hx' =>
   cases hy with
   | nil=>rw[hf];exact hq
   | @cons k2 y ky' ys' h2 hy' =>
    obtain⟨t1,rfl⟩:=Value.isInt_shape (k:=k1) (v:=x) h1;obtain⟨t2,rfl⟩:=Value.isInt_shape (k:=k2) (v:=y) h2;refine kat_cons (wpAny_eqBool_int ?_);unfold bR at hq;by_cases e:k1=k2
    ·rw[qag e] at hq
     have:(k1 == k2)=true:=by simpa using e
     rw[this];exact kat_yes (ih ys' kx' ky' (i+1) hx' hy' (by rw[hf];simp) hq)
    ·rw[qao e] at hq
     have:(k1 == k2)=false:=by simpa using e
     rw[this];refine kat_no ?_
     cases hb:(b && i == 0) with
     | true=>exact oneLt_int hq
     | false=>exact kat_one _ _ (wpAny_lt_int hq)
def tcmp(prog:Program)(w:World)(A:Around)(E:Value->Shared->Prop)(s:Shared)(b:Bool):Cmp prog w A E s (tuples' b) lexO where
 key:=fun p=>tkey prog w s.heap p.1
 dflt:=([]:List Int)
 good:=fun p=>∃a k,p.1=.ref a/\TK prog w s.heap k a
 ask:=fun x y st Q gx gy hk hq=>by
  obtain⟨x1,x2⟩:=x;obtain⟨y1,y2⟩:=y;obtain⟨ax,kx,ex,tx⟩:=gx;obtain⟨ay,ky,ey,ty⟩:=gy;simp only at ex ey;subst ex;subst ey;have q':Q (some (bR kx ky)) st:=by
   have h1:=gE tx;have h2:=gE ty;have e:lexO.blt (tkey prog w s.heap (.ref ax)) (tkey prog w s.heap (.ref ay))=bR kx ky:=by rw[h1,h2];rfl
   rw[<-e];exact hq
  obtain⟨ox,ix,nx,hox,_,hdx,hix⟩:=tx;obtain⟨oy,iy,ny,hoy,_,hdy,hiy⟩:=ty;rw[lt'_eq];refine wpS_bind (wpS_get ?_);rw[hk];refine wpS_bind (wpS_lift (wpAny_attempt (kat_lt hox hdx hoy hdy (lex_ok _ _ _ _ _ hix hiy (by simp) ⟨rfl,?_⟩))));exact wpS_pure q'
def pR{vs:List Value}{ks:List (List Int)}{Q:SortKind->Shared->Prop}(hk:Lie prog w s.heap vs.toArray ks)(hne:∀k∈ks,k≠[])(h1:0<vs.length)(h:Q (tuples' true) s) :
  wpAny (model prog w) A (keyKind' vs.toArray) Q E s:=by
 have hlen:vs.length=ks.length:=by have:=hk.1;simpa using this
 have key:∀(us:List Value) (ls:List (List Int)),us.length=ls.length->(∀(i:Nat) (v:Value) (k:List Int),us[i]?=some v->ls[i]?=some k->∃a,v=.ref a/\TK prog w s.heap k a)->(∀k∈ls,k≠[]) ->
   ∃fs:List Value,fs.length=us.length/\KatTups s.heap us fs/\∀v∈fs,∃i t,v=.int i t:=by
  intro us
  induction us with
  | nil=>intro ls _ _ _;exact⟨[],rfl,KatTups.nil,fun v hv=>by cases hv⟩
  | cons u us ih =>
   intro ls hl hall hn
   cases ls with
   | nil=>simp at hl
   | cons k ls =>
    obtain⟨a,rfl,o,items,n,ho,hc,hd,hi⟩:=hall 0 u k rfl rfl;obtain⟨fs,f1,f2,f3⟩:=ih ls (by simpa using hl) (fun i v k' hv hk'=>hall (i+1) v k' (by simpa using hv) (by simpa using hk')) (fun k' hk'=>hn k' (qaf _ hk'))
    cases k with
    | nil=>exact absurd rfl (hn [] qaM)
    | cons k0 kr =>
     have hi':=hi;generalize hit:items.toList=l at hi'
     cases hi' with
     | @cons _ v0 _ vr h0 hr =>
      obtain⟨t0,rfl⟩:=Value.isInt_shape h0;have hg:items[0]?=some (.int k0 t0):=by rw[<-qay,hit];rfl
      refine⟨.int k0 t0::fs,by simp[f1],KatTups.cons ho hc hd hg f2,fun v hv=>?_⟩;rcases qaj.mp hv with rfl|hv
      ·exact⟨_,_,rfl⟩
      ·exact f3 v hv
 obtain⟨fs,f1,f2,f3⟩:=key vs ks hlen (fun i v k hv hk'=>hk.2 i v k (by simpa using hv) hk') hne;refine kat_kind (T:=.type "int") f2 (by lia) (fun v hv=>?_) (by decide) ?_
 ·obtain⟨i,t,rfl⟩:=f3 v hv;exact .now
 ·exact h
def vF(ho:s.heap.get? a=some (seqObj "list" vs.toArray n))(hk:Lie prog w s.heap vs.toArray ks)
  (hne:∀k∈ks,k≠[]) (h66:vs.length<=66)
  (h:∀(out:List Value) (ks':List (List Int)),Lie prog w s.heap out.toArray ks'->out.Perm vs->ks'.Perm ks->Ris ks'->P (.done (.ret .none)) { s with heap:=sortedHeap s.heap a vs out.toArray}) :
  wpAny (model prog w) A (Builtin.«list.sort» ⟨[.ref a],[]⟩) P E s:=by
 rw[list_sort_plain];have hfits:vs.length<=sizeLine:=by rw[sizeLine_eq];lia
 refine qab (listItems_at ho rfl ?_);refine qab (listUpdate_at ho rfl ?_ (by rw[qap];exact hfits) (qaR _));obtain⟨e1,ho1⟩:∃e1,(s.heap.update a (Obj.mapSeq fun _=>(#[]:Array Value))).get? a=some (seqObj "list" #[] e1):=⟨_,get?_update_seq ho fun _=>#[]⟩;refine qab (seqEpoch_at ho1 rfl ?_);refine qab (wpAny_newTuple ?_ (by show vs.length<=_;exact hfits));refine qab (wpAny_newList ?_ (qaR _));refine wpAny_holding ?_;have ho6:(((s.heap.update a (Obj.mapSeq fun _=>(#[]:Array Value))).push (seqObj "tuple" vs.toArray 0)).push (seqObj "list" #[] 0)).get? a=some (seqObj "list" #[] e1) :=
  qae _ (qae _ ho1)
 have tk6:∀k b,TK prog w s.heap k b->TK prog w (((s.heap.update a (Obj.mapSeq fun _=>(#[]:Array Value))).push (seqObj "tuple" vs.toArray 0)).push (seqObj "list" #[] 0)) k b:=by
  rintro k b ⟨o,items,m,hb,hc,r⟩;have hne':b≠a:=by
   rintro rfl;rw[ho] at hb;cases hb;have hc':Value.type "list"=Value.type "tuple":=hc;exact absurd hc' (by decide)
  exact⟨o,items,m,qae _ (qae _ ((qbH _ _ _ _ hne').trans hb)),hc,r⟩
 show wpAny (model prog w) A _ P E { s with heap:=((s.heap.update a (Obj.mapSeq fun _=>(#[]:Array Value))).push (seqObj "tuple" vs.toArray 0)).push (seqObj "list" #[] 0)};have hk6:Lie prog w (((s.heap.update a (Obj.mapSeq fun _=>(#[]:Array Value))).push (seqObj "tuple" vs.toArray 0)).push (seqObj "list" #[] 0)) vs.toArray ks :=
  ⟨hk.1,fun i v k hv hk'=>let ⟨b,e,t⟩:=hk.2 i v k hv hk';⟨b,e,tk6 k b t⟩⟩
 have hsz:vs.toArray.size=vs.length:=by simp
 dsimp only;by_cases h2:vs.toArray.size<2
 ·rw[qag h2,qag h2];refine qab (qak ?_);rw[StateT.run_pure];refine qab (qak ?_);dsimp only;refine qab (seqEpoch_at ho6 rfl ?_);have hz:((vs.toArray.zip vs.toArray).map (·.2))=vs.toArray:=by
   apply qbn.mp;simp only[Array.toList_map,Array.toList_zip,List.toList_toArray];exact List.map_snd_zip (qah _)
  refine qab (listUpdate_at ho6 rfl ?_ (qaR _) (by show ((vs.toArray.zip vs.toArray).map (·.2)).size<=_;rw[hz,hsz];lia));simp only[bne_self_eq_false,qac,if_false];refine qak ?_
  have:=h vs ks hk (List.Perm.refl _) (List.Perm.refl _) (by
   have hl:ks.length<2:=by have:=hk.1;lia
   unfold Ris
   match ks,hl with
   | [],_=>simp
   | [x],_=>simp)
  have e:(arrOf (SortSt.mk' general' (vs.toArray.zip vs.toArray) #[] 7 none)).map (·.2)=vs.toArray:=hz;rw[e];exact this
 ·rw[qao h2,qao h2];refine qab (pR (s:={ s with heap:=_}) hk6 hne (by lia) ?_);have hps:(pairsOf vs).size=vs.length:=pairsOf_size vs
  refine qab (wpAny_mono (yg (C:=tcmp prog w A E { s with heap:=((s.heap.update a (Obj.mapSeq fun _=>(#[]:Array Value))).push (seqObj "tuple" vs.toArray 0)).push (seqObj "list" #[] 0)} true)
   (a₀:=pairsOf vs) (st:=SortSt.mk' (tuples' true) (vs.toArray.zip vs.toArray) #[] 7 none)
   (Q:=fun _ st'=>(arrOf st').Perm (pairsOf vs)/\failedOf st'=none/\Srt (tcmp prog w A E { s with heap:=((s.heap.update a (Obj.mapSeq fun _=>(#[]:Array Value))).push (seqObj "tuple" vs.toArray 0)).push (seqObj "list" #[] 0)} true) (arrOf st') 0 (pairsOf vs).size)
   ?_ ⟨Array.Perm.refl _,rfl,rfl⟩ rfl (by lia) (by lia) fun st' a1 a2 a3=>⟨a1,a2,a3⟩) ?_ fun _ _ e=>e)
  ·intro p hp;rw[pairsOf_toList] at hp;obtain⟨q1,q2⟩:=mem_zip_self hp;obtain⟨i,hi⟩:=qaA.mp q2
   obtain⟨k,hk'⟩:∃k,ks[i]?=some k:=⟨_,qau (by
    have h3:=(qad.mp hi).1
    have:=hk.1;lia)⟩
   obtain⟨b,e,t⟩:=hk6.2 i p.1 k (by simpa using hi) hk';exact⟨b,k,e,t⟩
  ·rintro⟨⟨⟩,st'⟩ s' ⟨rfl,hp,hf,hs⟩;dsimp only;refine qab (seqEpoch_at ho6 rfl ?_);have hz:((arrOf st').map (·.2)).size=vs.length:=by rw[Array.size_map,hp.size_eq,hps]
   refine qab (listUpdate_at ho6 rfl ?_ (qaR _) (by show ((arrOf st').map (·.2)).size<=_;rw[hz];lia));rw[hf];simp only[bne_self_eq_false,qac,if_false];refine qak ?_;have hl:(arrOf st').toList.Perm (vs.zip vs):=by rw[<-pairsOf_toList];exact qbR.mp hp
   have hmem:∀p,p∈(arrOf st').toList->p.1=p.2/\p.1∈vs:=fun p hp'=>mem_zip_self (hl.mem_iff.mp hp');have hv:∀v,v∈vs->∃k b,v=.ref b/\TK prog w s.heap k b/\k∈ks:=fun v hv=>by
    obtain⟨i,hi⟩:=qaA.mp hv
    obtain⟨k,hk'⟩:∃k,ks[i]?=some k:=⟨_,qau (by
     have h3:=(qad.mp hi).1
     have:=hk.1;lia)⟩
    obtain⟨b,e,t⟩:=hk.2 i v k (by simpa using hi) hk';exact⟨k,b,e,t,qaA.mpr ⟨i,hk'⟩⟩
   have hmap:vs.map (tkey prog w s.heap)=ks:=by
    apply qbD;intro i;rw[qat]
    cases hi:vs[i]? with
    | none =>
     have:=List.getElem?_eq_none_iff.mp hi
     rw[qaT (by have:=hk.1;lia)];rfl
    | some v =>
     obtain⟨k,hk'⟩:∃k,ks[i]?=some k:=⟨_,qau (by
      have h3:=(qad.mp hi).1
      have:=hk.1;lia)⟩
     obtain⟨b,e,t⟩:=hk.2 i v k (by simpa using hi) hk';subst e;rw[hk'];show some (tkey prog w s.heap (.ref b))=some k;rw[gE t]
   have h6eq:∀v,v∈vs->tkey prog w (((s.heap.update a (Obj.mapSeq fun _=>(#[]:Array Value))).push (seqObj "tuple" vs.toArray 0)).push (seqObj "list" #[] 0)) v=tkey prog w s.heap v:=fun v hv'=>by
    obtain⟨k,b,rfl,t,_⟩:=hv v hv';rw[gE t,gE (tk6 k b t)]
   have hout:=h ((arrOf st').toList.map (·.2)) ((arrOf st').toList.map fun p=>tkey prog w s.heap p.1) ?_ ?_ ?_ ?_
   ·have e:((arrOf st').toList.map (·.2)).toArray=(arrOf st').map (·.2):=by apply qbn.mp;simp
    rw[e] at hout;exact hout
   ·refine⟨by simp,fun i v k hv' hk'=>?_⟩;rw[qbj,qat] at hv';rw[qat] at hk'
    cases hi:(arrOf st').toList[i]? with
    | none=>rw[hi] at hv';cases hv'
    | some p =>
     rw[hi] at hv' hk';cases hv';cases hk';obtain⟨q1,q2⟩:=hmem p (qaL hi);obtain⟨k,b,e,t,_⟩:=hv p.1 q2;refine⟨b,by show p.2=_;rw[<-q1];exact e,?_⟩;show TK prog w s.heap (tkey prog w s.heap p.1) b;rw[e,gE t];exact t
   ·have q:=hl.map (·.2);rw[List.map_snd_zip (qah _)] at q;exact q
   ·have q:=hl.map fun p=>tkey prog w s.heap p.1;have e2:(vs.zip vs).map (fun p=>tkey prog w s.heap p.1)=ks:=by
     rw[<-hmap]
     have:(vs.zip vs).map (fun p=>tkey prog w s.heap p.1)=((vs.zip vs).map Prod.fst).map (tkey prog w s.heap):=by rw[qbl];rfl
     rw[this,List.map_fst_zip (qah _)]
    rw[e2] at q;exact q
   ·unfold Ris;rw[qch,qbi];intro i j hi hj hij;have hi':i<(arrOf st').size:=by simpa using hi
    have hj':j<(arrOf st').size:=by simpa using hj
    have q:=hs i j (qaR _) (qca hij) (by rw[<-hp.size_eq];exact hj');rw[aP (getElem?_pos _ i hi'),aP (getElem?_pos _ j hj')] at q;have m1:=(hmem (arrOf st')[i] (by simp)).2;have m2:=(hmem (arrOf st')[j] (by simp)).2;have q':bR (tkey prog w (((s.heap.update a (Obj.mapSeq fun _=>(#[]:Array Value))).push (seqObj "tuple" vs.toArray 0)).push (seqObj "list" #[] 0)) (arrOf st')[j].1)
     (tkey prog w (((s.heap.update a (Obj.mapSeq fun _=>(#[]:Array Value))).push (seqObj "tuple" vs.toArray 0)).push (seqObj "list" #[] 0)) (arrOf st')[i].1)=false:=q
    rw[h6eq _ m1,h6eq _ m2] at q';simpa using q'
def ig(ho:h.get? a=some (seqObj "list" vs.toArray n))(out:Array Value):∃c,(sortedHeap h a vs out).get? a=some (seqObj "list" out c):=by
 obtain⟨e1,ho1⟩:∃e1,(h.update a (Obj.mapSeq fun _=>(#[]:Array Value))).get? a=some (seqObj "list" #[] e1):=⟨_,get?_update_seq ho fun _=>#[]⟩;exact⟨_,get?_update_seq (qae _ (qae _ ho1)) fun _=>out⟩
def gG(hb:b≠a)(ho:h.get? b=some o)(out:Array Value):(sortedHeap h a vs out).get? b=some o:=by
 unfold sortedHeap;rw[qbH _ _ _ _ hb];exact qae _ (qae _ ((qbH _ _ _ _ hb).trans ho))
structure Told (prog:Program) (w:World) (R:Value->Prop) (H0 h h':Heap) (l:Addr) (ks:List (List Int)) (out:List Value) (ks':List (List Int)):Prop where
 ext:Ext h h'
 fresh:h.get? l=none
 size:h.objs.size<=l
 at':∃c,h'.get? l=some (seqObj "list" out.toArray c)
 lie:Lie prog w H0 out.toArray ks'
 perm:ks'.Perm ks
 ris:Ris ks'
 mem:∀v∈out,R v
def oQ(hx:Ext H0 s.heap)(hne:∀k∈ks,k≠[])(h66:ks.length<=66)
  (hc:wpAny (model prog w) A.in1 (collect v) (fun vs s1=>∃h' tk ks1,s1={ s with heap:=h',toks:=tk}/\Ext s.heap h'/\s.heap.objs.size<h'.objs.size/\s.toks<=tk/\Lie prog w H0 (List.toArray vs) ks1/\ks1.Perm ks/\∀v∈vs,R v) E s)
  (h:∀h' tk l out ks',Told prog w R H0 s.heap h' l ks out ks'->s.toks<=tk->Q (.ref l) { s with heap:=h',toks:=tk}) :
  wpAny (model prog w) A (call (.builtin "sorted") [v]) Q E s:=by
 refine Calls.call_function_entry kind_sorted plain_sorted entry_sorted (args_sorted1 _) ?_;refine qab (qak ?_);refine qab (wpAny_mono hc (fun vs s1 hq=>?_) fun _ _ e=>e);obtain⟨h1,tk,ks1,rfl,x1,hsz1,htk,lie1,p1,hR⟩:=hq;have hlen:vs.length=ks1.length:=by have:=lie1.1;simpa using this
 have hl66:vs.length<=66:=by rw[hlen,p1.length_eq];exact h66
 refine qab (wpAny_newList ?_ (by rw[sizeLine_eq];lia));have hoL:(h1.push (seqObj "list" vs.toArray 0)).get? h1.objs.size=some (seqObj "list" vs.toArray 0):=qaz _ rfl;have up:∀b o,h1.get? b=some o->(h1.push (seqObj "list" vs.toArray 0)).get? b=some o:=fun b o e=>qae _ e;have lieL:Lie prog w (h1.push (seqObj "list" vs.toArray 0)) vs.toArray ks1:=⟨lie1.1,fun i u k hu hk=>let ⟨b,e,t⟩:=lie1.2 i u k hu hk;⟨b,e,j5 (fun c o ho=>up c o (x1 c o (hx c o ho))) t⟩⟩
 refine qab (wpAny_holding (wpAny_call_entry slot_list_sort ⟨_,hoL,rfl⟩ entry_list_sort
  (vF hoL lieL (fun k hk=>hne k (p1.mem_iff.mp hk)) hl66 fun out ks' l2 pv p2 r2=>⟨_,rfl,?_⟩) (args_list_sort _)))
 refine qak ⟨_,rfl,?_⟩;have hfresh:s.heap.get? h1.objs.size=none:=by
  cases e:s.heap.get? h1.objs.size with
  | none=>rfl
  | some o=>exact absurd (qas (x1 _ _ e)) (qaU _)
 refine h _ tk h1.objs.size out ks' ⟨fun b o e=>?_,hfresh,qca hsz1,ig hoL _,⟨l2.1,fun i u k hu hk=>?_⟩,p2.trans p1,r2,fun v hv=>hR v (pv.mem_iff.mp hv)⟩ htk
 ·have hb:=qaJ (qas (x1 b o e));exact gG hb (up b o (x1 b o e)) _
 ·obtain⟨b,e,t⟩:=l2.2 i u k hu hk;have hu':out[i]?=some u:=by simpa using hu
  have hmem:=pv.mem_iff.mp (qaL hu');obtain⟨q,hq⟩:=qaA.mp hmem;obtain⟨k1,hk1⟩:∃k1,ks1[q]?=some k1:=⟨_,qau (by have:=(qad.mp hq).1;lia)⟩;obtain⟨b1,e1,t1⟩:=lie1.2 q u k1 (by simpa using hq) hk1;rw[e] at e1;cases e1;have t2:=j5 (fun c o ho=>up c o (x1 c o (hx c o ho))) t1
  have:=IsTupleKey.inj t t2
  subst this;exact⟨b,e,t1⟩
def uh(hh:A.handled=none)(T:dq prog w (PB H0 R) s.heap S (bN w) ks)(hx:Ext H0 s.heap)(hne:∀k∈ks,k≠[])(h66:ks.length<=66)
  (h:∀h' tk l out ks',Told prog w (fun v=>∃a,v=.ref a/\R a) H0 s.heap h' l ks out ks'->s.toks<=tk->Q (.ref l) { s with heap:=h',toks:=tk}) :
  wpAny (model prog w) A (call (.builtin "sorted") [.ref S]) Q E s :=
 oQ hx hne h66 (rM (by simpa using hh) T hx fun h' tk vs ks' a z b c e d=>⟨h',tk,ks',rfl,a,z,b,c,d,e⟩) h
def r9{l:Addr}{vs:List Value}{ks:List (List Int)}{Q:Value->Shared->Prop}(hl:s.heap.IsList l vs.toArray)(hk:Lie prog w s.heap vs.toArray ks)(hne:∀k∈ks,k≠[])(h66:ks.length<=66)
  (h:∀h' tk l out ks',Told prog w (·∈vs) s.heap s.heap h' l ks out ks'->s.toks<=tk->Q (.ref l) { s with heap:=h',toks:=tk}) :
  wpAny (model prog w) A (call (.builtin "sorted") [.ref l]) Q E s:=by
 have hlen:vs.length=ks.length:=by have:=hk.1;simpa using this
 refine oQ (fun b o e=>e) hne h66 (collect_list hl ⟨_,s.toks,ks,rfl,fun b o e=>?_,by rw[Heap.size_update,size_push'];exact qbX _,qah _,hk,List.Perm.refl _,fun v hv=>hv⟩ (by rw[sizeLine_eq];lia)) h;have hlt:=qas e;rw[qbH _ _ _ _ (qaJ hlt)];exact qae _ e
end
end SortT
namespace MM
open PySem PySem.Spec PyProof.Rows L2 SetT SortT
def ib:List PV->Option (List Int)
 | []=>some []
 | .int i::r=>(ib r).map (i::·)
 | _=>none
def kOf:PV->Option (List Int)
 | .tup xs=>ib xs
 | _=>none
def gM:List PV->Option (List (List Int))
 | []=>some []
 | x::r=>(match kOf x,gM r with
  | some k,some ks=>some (k::ks)
  | _,_=>none)
def kP(k:List Int):PV:=.tup (k.map .int)
def bI(l:List (List Int)):List (List Int):=l.mergeSort fun x y=>!bR y x
def ce(l:List (List Int)):(bI l).Perm l:=List.mergeSort_perm _ _
def i5(l:List (List Int)):Ris (bI l):=by
 have:=qcx (le:=fun x y=>!bR y x) (fun a b c h1 h2=>by
   simp only[qbq] at h1 h2 ⊢
   exact KeyOrd.kle_trans (O:=lexO) h1 h2) (fun a b=>by
   cases h:bR b a with
   | false=>simp
   | true =>
    have:bR a b=false:=KeyOrd.klt_asymm (O:=lexO) h
    simp[this])
 unfold Ris bI
 simp_all
def mH(h1:Ris l)(h2:Ris m)(p:l.Perm m):l=m :=
 List.Perm.eq_of_pairwise (fun a b _ _ x y=>iX a b y x) h1 h2 p
def qW:∀{xs:List PV} {k:List Int},ib xs=some k->xs=k.map .int
 | [],k,h=>by cases h;rfl
 | x::r,k,h=>by
  cases x with
  | int i =>
   unfold ib at h
   cases hr:ib r with
   | none=>rw[hr] at h;cases h
   | some kr =>
    rw[hr] at h;cases h;rw[qW hr];rfl
  | _=>cases h
def kOf_eq(h:kOf x=some k):x=kP k:=by
 cases x with
 | tup xs=>unfold kP;rw[qW (show ib xs=some k from h)]
 | _=>cases h
def nI:∀{xs:List PV} {ks:List (List Int)},gM xs=some ks->xs=ks.map kP
 | [],ks,h=>by cases h;rfl
 | x::r,ks,h=>by
  unfold gM at h
  cases hx:kOf x with
  | none=>rw[hx] at h;cases h
  | some k =>
   cases hr:gM r with
   | none=>rw[hx,hr] at h;cases h
   | some kr =>
    rw[hx,hr] at h;cases h;rw[kOf_eq hx,nI hr];rfl
def TKs(K:qaa)(H:Hp)(ys:List V)(ks:List (List Int)):Prop :=
 ys.length=ks.length/\∀(i:Nat) (y:V) (k:List Int),ys[i]?=some y->ks[i]?=some k->∃a,y=.ref a/\SqT K H a (k.map V.int)
def vints{K:qaa}{ρ:List Addr}{H:Hp}:∀{k:List Int} {ys:List V},RPs K ρ H (k.map PV.int) ys->ys=k.map V.int
 | [],ys,h=>by cases h;rfl
 | i::k,ys,h=>by
  cases h with
  | cons r t =>
   cases r;rw[vints t];rfl
def oi{K:qaa}{ρ:List Addr}{H:Hp}:∀{ks:List (List Int)} {ys:List V},RPs K ρ H (ks.map kP) ys->TKs K H ys ks
 | [],ys,h=>by cases h;exact⟨rfl,fun i y k e=>by simp at e⟩
 | k::ks,ys,h=>by
  cases h with
  | cons r t =>
   obtain⟨l,g⟩:=oi t;refine⟨by simp[l],fun i y k' e1 e2=>?_⟩
   cases i with
   | zero =>
    simp at e1 e2;subst e1;subst e2
    cases r with
    | tup s1 r1 =>
     rw[vints r1] at s1;exact⟨_,rfl,s1⟩
   | succ i=>exact g i y k' (by simpa using e1) (by simpa using e2)
def nB{K:qaa}{ρ:List Addr}{H:Hp}:∀{ks:List (List Int)} {ys:List V},TKs K H ys ks->RPs K ρ H (ks.map kP) ys
 | [],ys,h=>by
  have:=qbG.mp (by have:=h.1;simpa using this)
  subst this;exact .nil
 | k::ks,ys,h=>by
  cases ys with
  | nil=>have:=h.1;simp at this
  | cons y ys =>
   obtain⟨a,rfl,s1⟩:=h.2 0 y k rfl rfl;refine .cons (.tup s1 (RPs.ints k)) (nB ⟨by have:=h.1;simpa using this,fun i y' k' e1 e2=>h.2 (i+1) y' k' (by simpa using e1) (by simpa using e2)⟩)
def ng:∀{k:List Int} {its:List Value},aF (k.map V.int) its->ItemsAre (intKind prog w) k its
 | [],_,h=>by cases h;exact .nil
 | i::k,_,h=>by
  cases h with
  | cons r t =>
   obtain⟨tk,rfl⟩:=r;exact .cons (intKind_is _ _ _ _) (ng t)
section
variable {X:Cx} {Iv:List (Addr × Obj)} {σ:L2.St} {H:Hp} {s:Shared}
def mI(I:Inv X Iv σ H s)(h:SqT X.K H a (k.map V.int)):TK X.prog X.w s.heap k a:=by
 obtain⟨its,rv,⟨o,ho,hc,n,hd⟩,_⟩:=I.tuple h;exact⟨o,its.toArray,n,ho,hc,hd,by simpa using ng rv⟩
def tH(I:Inv X Iv σ H s)(h:TKs X.K H ys ks)(rv:aF ys its):Lie X.prog X.w s.heap its.toArray ks:=by
 refine⟨by simp[<-rv.length,h.1],fun i v k hv hk=>?_⟩;have hi:i<ys.length:=by rw[h.1];exact (qad.mp hk).1
 obtain⟨a,e,s1⟩:=h.2 i ys[i] k (by simp) hk;obtain⟨u,eu,ru⟩:=rv.get (show ys[i]?=some ys[i] by simp)
 have:v=u:=by
  simp_all
 subst this;rw[e] at ru;exact⟨a,ru,mI I s1⟩
end
def SPh(prog:Program)(w:World)(S:Addr)(al:List (List Int × Addr))(h:Heap):Prop :=
 ∃o es ep t,h.get? S=some o/\o.ExactSet/\o.data=.set es ep t/\t.dummies=#[]/\(t.mask=7\/t.mask=31\/t.mask=127)/\t.plain=true/\t.led=bN w /\
  WF t.mask t.place (es.map (·.1))/\kh t es.size/\es.toList=al.map fun p=>(TH prog w p.1,Value.ref p.2)
def sph_of(T:dq prog w P h S (bN w) ks) :
  ∃al,SPh prog w S al h/\(al.map (·.1)).Perm ks/\∀p∈al,TK prog w h p.1 p.2/\P p.2:=by
 obtain⟨o,es,ep,t,ks',T,hr,hpm,hnd⟩:=T;have key:∀(l:List (Int × Value)) (ls:List (List Int)),l.length=ls.length->(∀(i:Nat) (e:Int × Value) (k:List Int),l[i]?=some e->ls[i]?=some k->∃a,e.2=.ref a/\TK prog w h k a/\e.1=TH prog w k/\P a) ->
   ∃al:List (List Int × Addr),l=al.map (fun p=>(TH prog w p.1,Value.ref p.2))/\al.map (·.1)=ls/\∀p∈al,TK prog w h p.1 p.2/\P p.2:=by
  intro l
  induction l with
  | nil =>
   intro ls hl _
   have:=qbG.mp (by simpa using hl.symm)
   subst this;exact⟨[],rfl,rfl,fun p hp=>by cases hp⟩
  | cons e l ih =>
   intro ls hl g
   cases ls with
   | nil=>simp at hl
   | cons k ls =>
    obtain⟨a,e1,e2,e3,e4⟩:=g 0 e k rfl rfl;obtain⟨al,a1,a2,a3⟩:=ih ls (by simpa using hl) fun i e' k' h1 h2=>g (i+1) e' k' (by simpa using h1) (by simpa using h2);refine⟨(k,a)::al,?_,by simp[a2],fun p hp=>?_⟩
    ·congr 1;obtain⟨x1,x2⟩:=e;simp only at e1 e3;rw[e1,e3]
    ·rcases qaj.mp hp with rfl|hp
     ·exact⟨e2,e4⟩
     ·exact a3 p hp
 obtain⟨al,a1,a2,a3⟩:=key es.toList ks' (by exact T.ents.1) fun i e k h1 h2=>T.ents.2 i e k (by rw[<-qay];exact h1) h2;exact⟨al,⟨o,es,ep,t,T.get,T.ex,T.data,T.dm,T.mask,T.plain,T.led',T.wf,hr,a1⟩,by rw[a2];exact hpm,a3⟩
def tset_of(p:SPh prog w S al h)(hk:∀q∈al,TK prog w h q.1 q.2)(hnd:(al.map (·.1)).Nodup) :
  dq prog w (PB h fun a=>∃k,(k,a)∈al) h S (bN w) (al.map (·.1)):=by
 obtain⟨o,es,ep,t,p1,p2,p3,p4,p5,p6,p7,p8,p9,p10⟩:=p;refine⟨o,es,ep,t,al.map (·.1),⟨p1,p2,p3,p4,p5,p6,p7,p8,?_,fun i e k h1 h2=>?_⟩,p9,List.Perm.refl _,hnd⟩
 ·rw[<-qaH,p10];simp
 ·rw[<-qay,p10,qat] at h1;rw[qat] at h2
  cases hi:al[i]? with
  | none=>rw[hi] at h1;cases h1
  | some q =>
   rw[hi] at h1 h2;cases h1;cases h2;have hm:=qaL hi;have t1:=hk q hm;exact⟨q.2,rfl,t1,rfl,let ⟨o',_,_,ho',_⟩:=t1;⟨o',ho'⟩,q.1,hm⟩
def ua(p:SPh prog w S al h1)(k:∀o,h1.get? S=some o->h2.get? S=some o):SPh prog w S al h2:=by
 obtain⟨o,es,ep,t,p1,r⟩:=p;exact⟨o,es,ep,t,k o p1,r⟩
section
variable {X:Cx} {N W G:List Str} {k:Nat}
def wc(hh:X.calm=true)(hr:Room k X.A):cF X (.type "set") (fun xs H Q=>∃l ys ks,xs=[.ref l]/\SqL X.K H l ys/\TKs X.K H ys ks/\(ded ks).length<=66 /\
  ∀S al,H S=none->(al.map (·.1)).Perm (ded ks)->(∀p∈al,SqT X.K H p.2 (p.1.map V.int))->Q (.ref S) (upd H S (.ext (SPh X.prog X.w S al)))):=by
 intro Iv s σ H xs us Q I r ⟨l,ys,ks,e,hq,ht,h66,q⟩;subst e;obtain⟨u,rfl,rx⟩:=eX r;cases rx;obtain⟨its,rv,pl,hz⟩:=I.list hq;have lie:=tH I ht rv;refine pe (I.ok.hd hh) (by have:=hr.units;lia) pl.isList lie h66 fun h' tk T x htk=>?_;obtain⟨al,sp,pm,al2⟩:=sph_of T;have hfr:=I.hok.fresh (qah s.heap.objs.size);obtain⟨o,es,ep,t,ho,rest⟩:=id sp;refine⟨.ref s.heap.objs.size,_,I.laid (o:=.ext (SPh X.prog X.w s.heap.objs.size al)) x (qah _) ⟨sp,⟨o,ho⟩,fun h1 h2 a b=>ua a b⟩,rfl,q _ al hfr pm fun p hp=>?_⟩;obtain⟨t1,⟨_,hm⟩⟩:=al2 p hp;obtain⟨i,hi⟩:=qaA.mp hm;have hi':its[i]?=some (.ref p.2):=by simpa using hi
 have hlt:=(qad.mp hi').1;have hlt2:i<ys.length:=by rw[rv.length];exact hlt
 have hlt3:i<ks.length:=by rw[<-ht.1];exact hlt2
 obtain⟨a,e,s1⟩:=ht.2 i ys[i] ks[i] (by simp) (by simp);obtain⟨u,eu,ru⟩:=rv.get (show ys[i]?=some ys[i] by simp);rw[hi'] at eu;cases eu;rw[e] at ru;have ea:p.2=a:=by cases ru;rfl
 have t2:=j5 x (mI I s1);rw[<-ea] at t2
 have:=IsTupleKey.inj t1 t2
 rw[this,ea];exact s1
def tS{Iv:List (Addr × Obj)}{s:Shared}{σ:L2.St}{H:Hp}{Q:VK}{R:Value->Prop}{h':Heap}{tk:Nat}{l:Addr}{ks ks':List (List Int)}{out:List Value}(I:Inv X Iv σ H s)(T:Told X.prog X.w R s.heap s.heap h' l ks out ks')
  (hR:∀v,R v->∃(a:Addr) (k:List Int),v=.ref a/\SqT X.K H a (k.map V.int)) (hz:ks.length<=66)
  (q:∀l ys,H l=none->TKs X.K H ys (bI ks)->Q (.ref l) (upd H l (.lst ys))):EP X Iv σ Q (.ref l) { s with heap:=h',toks:=tk}:=by
 have hlt:=T.size;have hks:=mH T.ris (i5 ks) (T.perm.trans (ce ks).symm);obtain⟨c,hc⟩:=T.at';have hlen:out.length=ks'.length:=by have:=T.lie.1;simpa using this
 have hout:∀v∈out,∃a,v=.ref a:=fun v hv=>let ⟨a,_,e,_⟩:=hR v (T.mem v hv);⟨a,e⟩;obtain⟨ys,rv,hy⟩:∃ys:List V,aF ys out/\∀y∈ys,∃a,y=.ref a/\Value.ref a∈out:=by
  clear hlen T hR hks hc
  induction out with
  | nil=>exact⟨[],.nil,fun y hy=>by cases hy⟩
  | cons v out ih =>
   obtain⟨a,rfl⟩:=hout v qaM;obtain⟨ys,r,g⟩:=ih (fun u hu=>hout u (qaf _ hu));refine⟨.ref a::ys,.cons rfl r,fun y hy=>?_⟩;rcases qaj.mp hy with rfl|hy
   ·exact⟨a,rfl,qaM⟩
   ·obtain⟨b,e,m⟩:=g y hy;exact⟨b,e,qaf _ m⟩
 have hks2:TKs X.K H ys ks':=by
  refine⟨by rw[rv.length,hlen],fun i y k hy' hk=>?_⟩;obtain⟨u,eu,ru⟩:=rv.get hy';obtain⟨a,e,m⟩:=hy y (qaL hy');subst e;cases ru;obtain⟨b,k2,e2,s1⟩:=hR _ (T.mem _ m);cases e2;obtain⟨b2,e3,t⟩:=T.lie.2 i (.ref a) k (by simpa using eu) hk;cases e3
  have:=IsTupleKey.inj t (mI I s1)
  subst this;exact⟨a,rfl,s1⟩
 have hfr:=I.hok.fresh hlt;refine⟨.ref l,_,I.laid (o:=.lst ys) T.ext hlt (⟨?_,out,c,rv,hc⟩),rfl,q l ys hfr (by rw[<-hks];exact hks2)⟩;rw[rv.length,hlen,T.perm.length_eq,sizeLine_eq];lia
def qu(hh:X.calm=true):cF X (.builtin "sorted") (fun xs H Q=>∃S al,xs=[.ref S]/\H S=some (.ext (SPh X.prog X.w S al))/\(∀p∈al,SqT X.K H p.2 (p.1.map V.int))/\(al.map (·.1)).Nodup/\(∀p∈al,p.1≠[])/\al.length<=66 /\
  ∀l ys,H l=none->TKs X.K H ys (bI (al.map (·.1)))->Q (.ref l) (upd H l (.lst ys))):=by
 intro Iv s σ H xs us Q I r ⟨S,al,e,hS,hal,hnd,hne,hz,q⟩;subst e;obtain⟨u,rfl,rx⟩:=eX r;cases rx;obtain⟨sp,_,_⟩:=(I.hok S _ hS);have T:=tset_of sp (fun p hp=>mI I (hal p hp)) hnd;refine uh (I.ok.hd hh) T (fun b o e=>e) (fun k hk=>?_) (by simpa using hz) fun h' tk l out ks' td htk=>?_
 ·obtain⟨p,hp,rfl⟩:=qaC.mp hk;exact hne p hp
 ·refine tS I td (fun v ⟨a,e,k,hm⟩=>⟨a,k,e,hal (k,a) hm⟩) (by simpa using hz) q
def qU:cF X (.builtin "sorted") (fun xs H Q=>∃l ys ks,xs=[.ref l]/\SqL X.K H l ys/\TKs X.K H ys ks/\(∀k∈ks,k≠[])/\ks.length<=66 /\
  ∀l' ys',H l'=none->TKs X.K H ys' (bI ks)->Q (.ref l') (upd H l' (.lst ys'))):=by
 intro Iv s σ H xs us Q I r ⟨l,ys,ks,e,hq,ht,hne,hz,q⟩;subst e;obtain⟨u,rfl,rx⟩:=eX r;cases rx;obtain⟨its,rv,pl,hz2⟩:=I.list hq;refine r9 pl.isList (tH I ht rv) hne hz fun h' tk l' out ks' td htk=>?_;refine tS I td (fun v hv=>?_) hz q;obtain⟨i,hi⟩:=qaA.mp hv;have hlt:=(qad.mp hi).1;have hlt2:i<ys.length:=by rw[rv.length];exact hlt
 have hlt3:i<ks.length:=by rw[<-ht.1];exact hlt2
 obtain⟨a,e,s1⟩:=ht.2 i ys[i] ks[i] (by simp) (by simp);obtain⟨u,eu,ru⟩:=rv.get (show ys[i]?=some ys[i] by simp);rw[hi] at eu;cases eu;rw[e] at ru;exact⟨a,_,ru,s1⟩
def cO(h:MH):PV->Option (List PV)
 | .frl xs=>some xs
 | .loc n=>(match h[n]? with
  | some (.lst xs)=>some xs
  | _=>none)
 | _=>none
def nJ{ρ:List Addr}{H:Hp}{h:MH}{x:PV}{y:V}{xs:List PV}{K:qaa}{mg:MGl}(rh:RH K mg ρ H h)(r:RP K ρ H x y)(e:cO h x=some xs):∃a zs,y=.ref a/\SqL K H a zs/\RPs K ρ H xs zs:=by
 cases r with
 | frl s r=>cases e;exact⟨_,_,rfl,s.sq,r⟩
 | @loc n a en =>
  obtain⟨o,eo,ro⟩:=rh.obj en;unfold cO at e;dsimp only at e;rw[eo] at e
  cases o with
  | lst zs =>
   cases e;obtain⟨ys,ey,ry⟩:=ro;exact⟨a,ys,rfl,SqL.of ey,ry⟩
  | _=>cases e
 | _=>cases e
def mSS(m:Mx (List PV)):Mx PV:=fun σ h=>(m σ h).bind fun vs h1=>match vs with
 | [x]=>(match (cO h1 x).bind gM with
  | some ks=>if (∀k∈ks,k≠[])/\(ded ks).length<=66 then .ok (.loc h1.length) (h1++[.lst ((bI (ded ks)).map kP)]) else .bad
  | none=>.bad)
 | _=>.bad
def j6(l:List (List Int)):(ded l).Nodup:=by
 have key:∀(m:List (List Int)) (acc:List (List Int)),acc.Nodup->(m.foldl SetT.d6 acc).Nodup:=by
  intro m
  induction m with
  | nil=>intro acc h;exact h
  | cons k m ih =>
   intro acc h;refine ih _ ?_;unfold SetT.d6;split
   ·exact h
   ·rename_i hk
    rw[qcg];refine⟨h,by simp,fun x hx y hy=>?_⟩
    have:y=k:=by simpa using hy
    subst this;rintro rfl;exact hk hx
 exact key l [] qcL
def tY(p:l.Perm m):bI l=bI m:=mH (i5 l) (i5 m) ((ce l).trans (p.trans (ce m).symm))
def rF(g:Good X N W G k){a:Expr}{m:Mx (List PV)}{i j:Nat}{p p' pos pos':Pos}(hi:G[i]?=some "sorted")(hm:X.mg "sorted"=none)(hj:G[j]?=some "set")(hm':X.mg "set"=none)(ha:MA X [a] m)
  (hs:starEach [a] X.env=[(false,eval a X.env)]:=by rfl) (he:starEach [.Call (.Name "set" p') [a] [] pos'] X.env=[(false,eval (.Call (.Name "set" p') [a] [] pos') X.env)]:=by rfl) :
  ME X (.Call (.Name "sorted" p) [.Call (.Name "set" p') [a] [] pos'] [] pos) (mSS m):=by
 have d:=g.dbg _ (qam _ (aZ hi));have d':=g.dbg _ (qam _ (aZ hj));refine PE.imp (jp (qu g.calm) (g.gl _ (aZ hi)) hm PyProof.Rows.Boot.«sorted» (iG (j4 (wc g.calm g.room) (g.gl _ (aZ hj)) hm' PyProof.Rows.Boot.«set» ha d'.2.2 d'.1 hs rfl) mD he) d.2.2 d.1 he rfl) fun σ H Q ⟨ρ,σp,h,rs,rh,q⟩=>?_;refine⟨ρ,σp,h,rs,rh,Ful.bind q fun ρ1 H1 x x' h1 ex l1 rh1 rx q1=>?_⟩
 cases rx with
 | nil=>exact q1.elim
 | @cons y y' _ _ r1 t1 =>
  cases t1 with
  | cons _ _=>exact q1.elim
  | nil =>
   dsimp only at q1
   cases hl:cO h1 y with
   | none=>rw[hl] at q1;exact q1.elim
   | some xs =>
    rw[hl] at q1
    cases hk:gM xs with
    | none=>simp only[qaO,hk] at q1;exact q1.elim
    | some ks =>
     simp only[qaO,hk] at q1;by_cases z:(∀k∈ks,k≠[])/\(ded ks).length<=66
     ·rw[qag z] at q1;obtain⟨la,zs,rfl,hsq,rzs⟩:=nJ rh1 r1 hl;rw[nI hk] at rzs;refine⟨la,zs,ks,rfl,hsq,oi rzs,z.2,fun S al hS pm hal=>?_⟩;obtain⟨rh2,l2⟩:=rh1.loose hS (.ext (SPh X.prog X.w S al));refine⟨S,al,rfl,cj,fun p hp=>l2.sqt (hal p hp),pm.nodup_iff.mpr (j6 ks),fun p hp=>?_,?_,fun l ys hl2 tk=>?_⟩
      ·have:p.1∈ded ks:=pm.mem_iff.mp (qaC.mpr ⟨p,hp,rfl⟩)
       exact z.1 p.1 ((iA _ _).mp this)
      ·have:=pm.length_eq
       rw[qal] at this;rw[this];exact z.2
      ·rw[tY pm] at tk;obtain⟨rh3,l3⟩:=rh2.new hl2 (o:=.lst ((bI (ded ks)).map kP)) (ho:=.lst ys) ⟨_,rfl,nB tk⟩;exact q1 _ _ _ (l2.trans l3) rh3 (.loc (by rw[<-rh1.len];simp))
     ·rw[qao z] at q1;exact q1.elim
end
end MM
namespace SeqT
open PySem
abbrev itN(tp:Bool):String:=if tp then "tuple_iterator" else "list_iterator"
abbrev sqN(tp:Bool):String:=if tp then "tuple" else "list"
def SqI(tp:Bool)(h:Heap)(it a:Addr)(i:Nat):Prop:=∃o,h.get? it=some o/\o.cls=.type (itN tp)/\o.data=.fields #[.ref a,.int i 0]
def SqO(tp:Bool)(h:Heap)(a:Addr)(xs:Array Value):Prop:=∃o,h.get? a=some o/\o.cls=.type (sqN tp)/\∃n,o.data=.seq xs n
def SqI.at'(x:SqI tp h it a i)(k:∀o,h.get? it=some o->h'.get? it=some o):SqI tp h' it a i:=let ⟨o,e,r⟩:=x;⟨o,k o e,r⟩
def SqO.at'(x:SqO tp h a xs)(k:∀o,h.get? a=some o->h'.get? a=some o):SqO tp h' a xs:=let ⟨o,e,r⟩:=x;⟨o,k o e,r⟩
def SqI.lt(x:SqI tp h it a i):it<h.objs.size:=let ⟨_,e,_⟩:=x;qas e
section
variable {prog:Program} {w:World} {A:Around} {E:Value→Shared→Prop} {s:Shared}
def vq(hi:SqI tp s.heap it a i)(ho:SqO tp s.heap a xs)(hx:xs[i]?=some x)
  (hQ:∀h',SqI tp h' it a (i+1)->Heap.SameBut it s.heap h'->Q x { s with heap:=h'}):wpAny (model prog w) A (Builtin.SmallTypes.nextOf (.ref it)) Q E s:=by
 cases tp with
 | false=>exact wpAny_nextOf_list_item (hi) (ho) hx hQ
 | true =>
  obtain⟨o,e,hc,hd⟩:=id hi;obtain⟨ol,hol,_,nl,hdl⟩:=ho;have hT:s.TypeIs (.ref it) "tuple_iterator":=⟨o,e,hc⟩;refine qab (wpAny_callSpecial?_slot hT F.slot_tuple_iterator_next (wpAny_call_entry F.slot_tuple_iterator_next hT F.entry_tuple_iterator_next ?_ (F.args_tuple_iterator_next_1 _)));show wpAny _ _ (field (.ref it) 0 >>= _) _ _ s;refine qab (wpAny_field e hd rfl ?_);refine qab (wpAny_field e hd rfl ?_);refine qab (wpAny_seqItems hol hdl ?_);simp only[qaG,hx];refine qab (wpAny_setField e hd (by simp) (qak ⟨x,rfl,qak (hQ _ ?_ (Heap.SameBut.update ..))⟩));exact⟨_,qbw _ e (Obj.isFreed_of_fields (Obj.data_mapFields hd _)),(Obj.cls_mapFields ..).trans hc,by rw[Obj.data_mapFields hd];simp[rawInt]⟩
def qq(hh:A.handled=none)(hi:SqI tp s.heap it a i)(ho:SqO tp s.heap a xs)(hx:xs[i]?=none)
  (hE:∀h' e,Heap.ExtBut it s.heap h'->(∃o,h'.get? e=some o/\o.cls=.type "StopIteration")->E (.ref e) { s with heap:=h'}):wpAny (model prog w) A (Builtin.SmallTypes.nextOf (.ref it)) Q E s:=by
 cases tp with
 | false=>exact wpAny_nextOf_list_end hh (hi) (ho) hx hE
 | true =>
  obtain⟨o,e,hc,hd⟩:=id hi;obtain⟨ol,hol,_,nl,hdl⟩:=ho;have hT:s.TypeIs (.ref it) "tuple_iterator":=⟨o,e,hc⟩;refine qab (wpAny_callSpecial?_slot hT F.slot_tuple_iterator_next (wpAny_call_entry F.slot_tuple_iterator_next hT F.entry_tuple_iterator_next ?_ (F.args_tuple_iterator_next_1 _)));show wpAny _ _ (field (.ref it) 0 >>= _) _ _ s;refine qab (wpAny_field e hd rfl ?_);refine qab (wpAny_field e hd rfl ?_);refine qab (wpAny_seqItems hol hdl ?_);simp only[qaG,hx];refine qab (wpAny_rule (qab (wpAny_setField e hd (by simp) ?_)));refine qab ?_;refine qab (m:=firstArgMember _ _) (wpAny_of_eq (by first | rfl | (simp only)) ?_);refine wpAny_newObj_type ?_ (by size_fits);refine qab (wpAny_handled ?_);rw[show A.in1.handled=none from hh];refine qab (qak (wpAny_throw ?_));exact hE _ _ (((Heap.SameBut.update ..).extBut.push _).push _) ⟨_,qaz _ rfl,rfl⟩
def nG(ho:SqO tp s.heap a xs)
  (hQ:Q (.ref s.heap.objs.size) { s with heap:=s.heap.push { cls:=.type (itN tp),data:=.fields #[.ref a,.int 0 0]}}):wpAny (model prog w) A (pyIter (.ref a)) Q E s:=by
 cases tp with
 | false=>exact wpAny_pyIter_list (ho) hQ
 | true=>exact wpAny_pyIter_tuple (ho) hQ
end
def draws(hh:A.handled=none)(tp:Bool)(it a:Addr)(hne:a≠it)(xs:Array Value) :
  Draws prog w A it [it,a] xs.size (fun i v=>xs[i]?=some v) (fun i h=>SqI tp h it a i/\SqO tp h a xs) where
 live:=fun _ _ st=>let ⟨o,ho,_⟩:=st.1;⟨o,ho⟩
 frame:=fun _ _ _ st hk=>⟨st.1.at' fun o e=>hk it (by simp) o e,st.2.at' fun o e=>hk a (by simp) o e⟩
 item:=fun i s Q E hi st hQ=>by
  refine vq st.1 st.2 (x:=xs[i]) (by simp) fun h' hit' hs'=>?_;exact hQ _ h' s.toks (by simp) ⟨hit',st.2.at' fun o e=>(hs'.2 a hne).trans e⟩ hs'
 done:=fun s Q E st hE=>qq hh st.1 st.2 (by simp) hE
def xh(tp:Bool)(a:Addr)(xs:Array Value)(n:Nat)(dct:Option Addr)(sl:Array (Option Value)) :
  Meets (Builtin.«enumerate.__new__» ⟨[.type "enumerate",.ref a],[]⟩) (fun _ R s=>s.heap.get? a=some { cls:=.type (sqN tp),dict:=dct,data:=.seq xs n,slots:=sl} /\
   R (.ok (.ret (.ref (s.heap.push { cls:=.type (itN tp),data:=.fields #[.ref a,.int 0 0]}).objs.size)))
    { s with heap:=(s.heap.push { cls:=.type (itN tp),data:=.fields #[.ref a,.int 0 0]}).push { cls:=.type "enumerate",data:=.fields #[.none,.bool false,.ref s.heap.objs.size,rawInt 0,.none,.none]}}) :=
 .of_wp fun prog w A R s h=>by
  obtain⟨hp,g,d,tk,os⟩:=s;obtain⟨hl,h⟩:=h;have hsub:=sub_enumerate;have hL:SqO tp (Shared.heap ⟨hp,g,d,tk,os⟩) a xs:=⟨_,hl,rfl,n,rfl⟩
  wp_walk using AutoSeq1.wpAny_loadPart' hl
  refine wpAny_stack_any fun st=>qak ?_;split
  ·rename_i c _ _ _ _ _
   cases (c == Value.type "enumerate")
   ·wp_walk using AutoSeq1.wpAny_loadPart' hl,nG hL
    exact⟨_,rfl,h⟩
   ·wp_walk using AutoSeq1.wpAny_loadPart' hl,nG hL
    exact⟨_,rfl,h⟩
  ·wp_walk using AutoSeq1.wpAny_loadPart' hl,nG hL
   exact⟨_,rfl,h⟩
section
variable {prog:Program} {w:World} {A:Around} {E:Value→Shared→Prop} {s:Shared}
def wR(hL:SqO tp s.heap a xs)
  (h:∀h',IsEnum h' (s.heap.objs.size+1) s.heap.objs.size 0 .none->SqI tp h' s.heap.objs.size a 0->h'.objs.size=s.heap.objs.size+2 ->
   (∀b o,s.heap.get? b=some o->h'.get? b=some o)->Q (.ref (s.heap.objs.size+1)) { s with heap:=h'}) :
  wpAny (model prog w) A (call (.type "enumerate") [.ref a]) Q E s:=by
 obtain⟨⟨c,dct,dt,sl⟩,hl,hc,n,hd⟩:=hL;subst hc hd;refine callType_new F.called_enumerate (by decide) (F.typeCall_enumerate_1 _) (F.newCall_enumerate_1 _) (fun obj=>F.args_object_init_2 obj _) F.entry_enumerate_new (xh tp a xs n dct sl) ⟨hl,?_⟩;have hz:(s.heap.push { cls:=.type (itN tp),data:=.fields #[.ref a,.int 0 0]}).objs.size=s.heap.objs.size+1:=qbx ..;rw[hz]
 have he:IsEnum ((s.heap.push { cls:=.type (itN tp),data:=.fields #[.ref a,.int 0 0]}).push
   { cls:=.type "enumerate",data:=.fields #[.none,.bool false,.ref s.heap.objs.size,rawInt 0,.none,.none]}) (s.heap.objs.size+1) s.heap.objs.size 0 .none:=by
  have:=qaz (s.heap.push { cls:=.type (itN tp),data:=.fields #[.ref a,.int 0 0]})
   (o:={ cls:=.type "enumerate",data:=.fields #[.none,.bool false,.ref s.heap.objs.size,rawInt 0,.none,.none]}) rfl
  rw[hz] at this;exact this
 exact⟨⟨_,he,rfl⟩,h _ he ⟨_,qae _ (qaz _ rfl),rfl,rfl⟩ (by rw[qbx,hz]) fun b o x=>qae _ (qae _ x)⟩
end
section
variable {prog:Program} {w:World} {A:Around} {E:Value→Shared→Prop} {s:Shared} {z TI TO i1 i2 l1 l2:Addr} {t1 t2:Bool} {k1 k2:Nat} {xs ys:Array Value}
end
section
variable {prog:Program} {w:World} {A:Around} {E:Value→Shared→Prop} {s:Shared}
end
end SeqT
namespace MM
open PySem PySem.Spec PyProof.Rows L2 SeqT
def SqB(tp:Bool)(K:qaa)(H:Hp)(a:Addr)(ys:List V):Prop:=match tp with
 | true=>SqT K H a ys
 | false=>SqL K H a ys
section
variable {X:Cx} {Iv:List (Addr × Obj)} {σ:L2.St} {H:Hp} {s:Shared}
def pY(I:Inv X Iv σ H s)(h:SqB tp X.K H a ys):∃its:List Value,aF ys its/\SqO tp s.heap a its.toArray/\ys.length<=sizeLine:=by
 cases tp with
 | true =>
  obtain⟨its,rv,pl,hz⟩:=I.tuple h;exact⟨its,rv,pl,hz⟩
 | false =>
  obtain⟨its,rv,pl,hz⟩:=I.list h;exact⟨its,rv,pl.isList,hz⟩
def inv_sqi(I:Inv X Iv σ H s)(h:SqB tp X.K H a xs)(h':SqB tp X.K H a ys):xs=ys:=by
 cases tp with
 | true=>exact I.tuple_inj h h'
 | false=>exact I.list_inj h h'
def mS(I:Inv X Iv σ H s){h':Heap}{t':Nat}{ch:List Addr}(hf:∀b∈ch,ip X Iv H b)(k:∀b o,b∉ch->s.heap.get? b=some o->h'.get? b=some o) :
  Inv X Iv σ H { s with heap:=h',toks:=t'}:=by
 have nit:∀b u,H b=some u->b∉ch:=fun b u e z=>by rw[(hf b z).1] at e;cases e
 refine I.step (g':=s.gens) (d':=s.drawn) (fun b hb=>?_) (fun b o _ _ hc e _=>k b o hc e) (fun b o _ _ hc e _=>⟨o.slots,k b o hc e⟩) (fun _ _ _ _ n=>n)
  (fun b o hc e=>⟨o,k b o hc e⟩) (fun _ _ e=>e) (fun _ _ _ e=>e) (fun b ps e=>⟨#[],by rw[e];simp⟩) (fun m hm=>?_) (fun b u e=>?_) I.bare
 ·obtain⟨f0,f1,f2,f3,f4,f5⟩:=hf b hb;exact⟨f3,f1,f4,f5⟩
 ·obtain⟨o,es,ep,ho,r⟩:=hm;exact⟨o,es,ep,k _ o (fun z=>(hf _ z).2.1 rfl) ho,r⟩
 ·refine (I.hok b u e).stay (fun c v hc q=>k c v ?_ q) (fun _ q=>q) fun _ _ q=>q;rcases hc with z|z
  ·rw[z];exact nit b u e
  ·exact nit c _ z
def inv_tup(I:Inv X Iv σ H s){h':Heap}{t':Nat}{ch:List Addr}{ys:List V}{its:List Value}(hf:∀b∈ch,ip X Iv H b)(rv:aF ys its)(hz:ys.length<=sizeLine)(hch:s.heap.objs.size∉ch)
  (ht:h'.get? s.heap.objs.size=some { cls:=.type "tuple",data:=.seq its.toArray}) (k:∀b o,b∉ch->s.heap.get? b=some o->h'.get? b=some o) :
  Inv X Iv σ (upd H s.heap.objs.size (.tup ys)) { s with heap:=h',toks:=t'}/\(∀b∈ch,(upd H s.heap.objs.size (.tup ys)) b=none)/\H s.heap.objs.size=none:=by
 have hfr:=I.hok.fresh (qah s.heap.objs.size);have hne:∀b∈ch,b≠s.heap.objs.size:=fun b hb z=>hch (by rw[<-z];exact hb);have I1:Inv X Iv σ (upd H s.heap.objs.size (.tup ys)) { s with heap:=s.heap.push { cls:=.type "tuple",data:=.seq its.toArray},toks:=s.toks} :=
  I.laid (fun b u q=>qae _ q) (qah _) ⟨hz,its,rv,_,qaz _ rfl,rfl,⟨_,rfl⟩,rfl⟩
 have hup:∀b∈ch,(upd H s.heap.objs.size (.tup ys)) b=none:=fun b hb=>by rw[aX (hne b hb)];exact (hf b hb).1
 refine⟨?_,hup,hfr⟩;refine mS (t':=t') I1 (fun b hb=>⟨hup b hb,(hf b hb).2⟩) fun b o hb e=>?_;by_cases z:b=s.heap.objs.size
 ·have e':(s.heap.push { cls:=.type "tuple",data:=.seq its.toArray}).get? s.heap.objs.size=some { cls:=.type "tuple",data:=.seq its.toArray}:=qaz _ rfl
  grind
 ·have e':=e;rw[Heap.get?_push_ne _ _ _ z] at e';exact k b o hb e'
end
def Ite(K:qaa)(tp:Bool)(a:Addr):It :=
 ⟨fun i H=>∃ys y,SqB tp K H a ys/\ys[i]?=some y,fun i H x H'=>∃p y,H p=none/\x=.ref p/\H'=upd H p (.tup [.int i,y])/\∀ys,SqB tp K H a ys->ys[i]?=some y,fun i H=>∃ys,SqB tp K H a ys/\ys.length<=i⟩
def vy{P:Program}{w:World}{K:qaa}{elts:List Expr}{x1:Nat}{pos:Pos}(tp:Bool)(a e it:Addr)(hei:e≠it)(hae:a≠e)(hai:a≠it) :
  Turn P w K (.Tuple elts x1 pos) (Ite K tp a) [e,it] e (fun i h=>(∃old,IsEnum h e it i old)/\SqI tp h it a i) where
 mem:=by simp
 obj:=fun i h st b hb=>by
  obtain⟨⟨old,he⟩,hi⟩:=st
  have:b=e\/b=it:=by simpa using hb
  rcases this with rfl|rfl
  ·exact⟨_,he,fun v z=>nomatch z⟩
  ·obtain⟨o,ho,hc,hd⟩:=hi;exact⟨o,ho,fun v z=>by rw[hd] at z;cases z⟩
 keep:=fun i h h' st k=>let ⟨⟨old,he⟩,hi⟩:=st;⟨⟨old,k e (by simp) _ he⟩,hi.at' fun o q=>k it (by simp) o q⟩
 item:=by
  intro X hP hw hK hc i Iv s σ H E I hf st hg;subst hP hw hK;obtain⟨⟨old,he⟩,hi⟩:=st;obtain⟨ys,y,hq,hy⟩:=hg;obtain⟨its,rv,so,hz⟩:=pY I hq;obtain⟨u,hu,ru⟩:=rv.get hy;have hlt:i<its.toArray.size:=by
   have:=(qad.mp hu).1
   simpa using this
  have hin:(X.A.in1).handled=none:=by have:=I.ok.hd hc;simpa using this
  refine wpAny_pyNext_enum_itemD (draws hin tp it a hai its.toArray) he ⟨hi,so⟩ hlt hei (by simp[hei,Ne.symm hae]) fun x h1 tk hx ho1 st1 ht1 hz1 hk1=>⟨_,rfl,?_⟩;have hxu:x=u:=by
   have:its.toArray[i]?=some u:=by simpa using hu
   rw[this] at hx;exact (Option.some.inj hx).symm
  subst hxu;refine wpAny_letOwnedTupleGo_enum (s:={ s with heap:=h1,toks:=tk+1}) ho1 fun h2 he2 sb2=>?_;have hlte:e<s.heap.objs.size:=qas he;have hlti:it<s.heap.objs.size:=hi.lt;obtain⟨I2,hup,hfr⟩:=inv_tup (t':=tk+1) (h':=h2) I (ch:=[e,it]) (ys:=[.int i,y]) (its:=[.int i tk,x]) hf (.cons ⟨tk,rfl⟩ (.cons ru .nil)) (by rw[sizeLine_eq];show 2<=_;decide)
   (by simp only[qaj,qaN,or_false,not_or];exact⟨qbE hlte,qbE hlti⟩)
   ((sb2.2 _ (qbE hlte)).trans ht1)
   (fun b o hb q=>by
    have h1':b≠e:=fun z=>hb (by simp[z]);have h2':b≠it:=fun z=>hb (by simp[z])
    exact (sb2.2 b h1').trans (hk1 b o h1' h2' q))
  refine⟨.ref s.heap.objs.size,_,I2,rfl,⟨_,y,hfr,rfl,rfl,fun zs hzs=>by rw[inv_sqi I hzs hq];exact hy⟩,⟨⟨x,by simpa using he2⟩,?_⟩,hup⟩;exact st1.1.at' fun o q=>(sb2.2 it (Ne.symm hei)).trans q
 done:=by
  intro X hP hw hK hc i Iv s σ H E I hf st hg;subst hP hw hK;obtain⟨⟨old,he⟩,hi⟩:=st;obtain⟨ys,hq,hy⟩:=hg;obtain⟨its,rv,so,hz⟩:=pY I hq;have hin:(X.A.in1).handled=none:=by have:=I.ok.hd hc;simpa using this
  have hlen:=rv.length;have hT:s.TypeIs (.ref e) "enumerate":=⟨_,he,rfl⟩;unfold pyNext;refine qab (wpAny_attempt (wpAny_callSpecial?_slot (name:=Str.ofString "__next__") hT PySem.F.slot_enumerate_next (wpAny_call_entry PySem.F.slot_enumerate_next hT PySem.F.entry_enumerate_next ?_ (PySem.F.args_enumerate_next_1 _))));show wpAny _ _ (field (.ref e) 2 >>= _) _ _ _;refine qab (wpAny_field he rfl (x:=.ref it) rfl ?_);refine qab (qq hin hi so (by simp;ext) fun h1 x he' hx'=>?_);obtain⟨o,ho,hcx⟩:=hx';refine qab (wpAny_isInstance (T:="StopIteration") (b:=true) ⟨o,ho,hcx⟩ isSubtype_stop ?_);refine qak ⟨rfl,mS (t':=s.toks) I hf fun b o hb q=>he' b o (fun z=>hb (by simp[z])) q⟩
 self:=fun A i s Q E st h=>let ⟨⟨old,he⟩,_⟩:=st;wpAny_pyIter_enum he h
def fD(v:PV)(h:MH):Option (Bool × List PV × List (Nat × List PV)):=match v with
 | .loc n=>(match h[n]? with
  | some (.lst xs)=>some (false,xs,[(n,xs)])
  | _=>none)
 | .frl xs=>some (false,xs,[])
 | .tup xs=>some (true,xs,[])
 | _=>none
def sq_rel{X:Cx}{ρ:List Addr}{H:Hp}{h:MH}{x:PV}{y:V}{tp:Bool}{xs:List PV}{gd:List (Nat × List PV)}(rh:RH X.K X.mg ρ H h)(r:RP X.K ρ H x y)(e:fD x h=some (tp,xs,gd)) :
  ∃a,y=.ref a/\(∃ys,SqB tp X.K H a ys)/\∀ρ' H' h',Le ρ H ρ' H'->RH X.K X.mg ρ' H' h'->(∀p∈gd,h'[p.1]?=some (.lst p.2))->∃ys,SqB tp X.K H' a ys/\RPs X.K ρ' H' xs ys:=by
 cases r with
 | frl s r=>cases e;exact⟨_,rfl,⟨_,s.sq⟩,fun ρ' H' h' l _ _=>⟨_,(l.sqf s).sq,r.le l⟩⟩
 | tup s r=>cases e;exact⟨_,rfl,⟨_,s⟩,fun ρ' H' h' l _ _=>⟨_,l.sqt s,r.le l⟩⟩
 | @loc n a en =>
  obtain⟨o,eo,ro⟩:=rh.obj en;unfold fD at e;dsimp only at e;rw[eo] at e
  cases o with
  | lst zs =>
   cases e;obtain⟨ys,ey,ry⟩:=ro;refine⟨a,rfl,⟨ys,SqL.of ey⟩,fun ρ' H' h' l rh' ok=>?_⟩;obtain⟨ys',ey',ry'⟩:=rh'.at' n a _ (l.get en) (ok (n,xs) (by simp));exact⟨ys',SqL.of ey',ry'⟩
  | _=>cases e
 | _=>cases e
def g9(xs:List PV):List PV:=xs.zipIdx.map fun p=>.tup [.int (p.2:Int),p.1]
def wU{xs:List PV}{i:Nat}{x:PV}(h:xs[i]?=some x):(g9 xs)[i]?=some (.tup [.int (i:Int),x]):=by
 unfold g9;rw[qat,qcl,h];simp
def oO(xs:List PV):(g9 xs).length=xs.length:=by simp[g9]
def mItE(m:Mx (List PV)):Mx MIt:=fun σ h=>(m σ h).bind fun vs h1=>match vs with
 | [x]=>(match fD x h1 with
  | some (_,xs,gd)=>.ok ⟨g9 xs,gd⟩ h1
  | none=>.bad)
 | _=>.bad
section
variable {X:Cx} {N W G:List Str} {k:Nat}
def sO(g:Good X N W G k){elts:List Expr}{x1:Nat}{tp:Pos}{a:Expr}{m:Mx (List PV)}{p pos:Pos}{j:Nat}(hj:G[j]?=some "enumerate")(hm:X.mg "enumerate"=none)(ha:MA X [a] m)
  (hs:starEach [a] X.env=[(false,eval a X.env)]:=by rfl):MI X (.Tuple elts x1 tp) (.Call (.Name "enumerate" p) [a] [] pos) (mItE m):=by
 have d:=g.dbg _ (qam _ (aZ hj));intro Iv s σ H R I ⟨ρ,σp,h,rs,rh,q⟩;refine wpAny_Call_Name_kw (iK I (g.gl _ (aZ hj)) hm PyProof.Rows.Boot.«enumerate» ?_ d.2.2 d.1)
 refine PyProof.Rows.callWith_type1 (thn (ha pos Iv s σ H (fun vs H1=>∃ρ1 h1 xs,Le ρ H ρ1 H1/\RH X.K X.mg ρ1 H1 h1/\RPs X.K ρ1 H1 xs vs/\Ful X (pT X) σp ρ1 H1 ((match xs with
   | [x]=>(match fD x h1 with | some (_,xs,gd)=>.ok ⟨g9 xs,gd⟩ h1 | none=>.bad)
   | _=>.bad:Out MIt)) R) I ⟨ρ,σp,h,rs,rh,Ful.bind q fun ρ1 H1 v v' h1 _ l1 rh1 rv q1=>⟨ρ1,h1,v,l1,rh1,rv,q1⟩⟩) fun us s1 ⟨vs,H1,I1,r1,ρ1,h1,xs,l1,rh1,rv,q1⟩=>?_) hs rfl
 cases rv with
 | nil=>exact q1.elim
 | @cons y y' ys ys' ry t1 =>
  cases t1 with
  | cons _ _=>exact q1.elim
  | nil =>
   dsimp only at q1
   cases hsq:fD y h1 with
   | none=>rw[hsq] at q1;exact q1.elim
   | some z =>
    obtain⟨b,zs,gd⟩:=z;rw[hsq] at q1;obtain⟨ad,rfl,⟨ws,hws⟩,rel⟩:=sq_rel rh1 ry hsq;obtain⟨u,rfl,rx⟩:=eX r1;cases rx;obtain⟨its,rvv,so,hz⟩:=pY I1 hws;refine wR so fun h' he hi hsz hk=>?_;refine wpAny_pyIter_enum he ?_;have I2:Inv X Iv σ H1 { s1 with heap:=h',toks:=s1.toks}:=I1.kept hk;obtain⟨oa,hoa,hca,_⟩:=id so;have hlt:ad<s1.heap.objs.size:=qas hoa;have hfr0:=I1.hok.fresh (qah s1.heap.objs.size);have hfr1:=I1.hok.fresh (qcw s1.heap.objs.size);refine⟨s1.heap.objs.size+1,_,_,_,H1,rfl,I2,vy b ad _ s1.heap.objs.size (qbE (qbX _)) (qaJ (qbC hlt)) (qaJ hlt),⟨⟨_,he⟩,hi⟩,fun c hc=>?_,?_⟩
    ·have:c=s1.heap.objs.size+1\/c=s1.heap.objs.size:=by simpa using hc
     rcases this with rfl|rfl
     ·have F:=Inv.fpOk I1 (H':=H1) (b:=s1.heap.objs.size+1) (qcw _) hfr1;exact F
     ·exact Inv.fpOk I1 (H':=H1) (qah _) hfr0
    ·refine q1 ρ1 H1 _ (Le.refl _ _) rh1 ?_;intro ρ' H' h2 i l rh' ok;obtain⟨ws',hws',rws⟩:=rel ρ' H' h2 l rh' ok;refine⟨fun hi'=>?_,fun hi'=>⟨ws',hws',by rw[<-rws.length];rw[oO] at hi';exact hi'⟩⟩;rw[oO] at hi';have hx:zs[i]?=some (zs[i]'hi'):=qau hi';obtain⟨w',ew,rw'⟩:=rws.get hx;refine⟨⟨ws',w',hws',ew⟩,fun x' H3 ⟨pp,y2,hp,e1,e2,hall⟩=>?_⟩;subst e1;subst e2;have ey:y2=w':=by
      have:=hall ws' hws'
      rw[ew] at this;exact (Option.some.inj this).symm
     subst ey;obtain⟨rh3,l3⟩:=rh'.tup hp [.int i,y2];exact⟨ρ',_,l3,rh3,wU hx,.tup (SqT.of cj) (.cons (.int _) (.cons (rw'.le l3) .nil))⟩
end
end MM
namespace MM
open PySem PySem.Spec PyProof.Rows L2 SetT SortT
def fX:List PV->Option (List Int)
 | []=>some []
 | .int i::r=>(fX r).map (i::·)
 | _=>none
def im(l:List Int):List Int:=l.mergeSort fun a b=>decide (a<=b)
def jQ(l:List Int):(im l).Perm l:=List.mergeSort_perm _ _
def xP(l:List Int):(im l).Pairwise (·<=·):=by
 have:=qcx (le:=fun a b:Int=>decide (a<=b)) (fun a b c h1 h2=>by
   simp only[decide_eq_true_eq] at h1 h2 ⊢;lia) (fun a b=>by
   lia)
 unfold im
 simp_all
def r6{l m:List Int}(h1:l.Pairwise (·<=·))(h2:m.Pairwise (·<=·))(p:l.Perm m):l=m :=
 List.Perm.eq_of_pairwise (fun a b _ _ x y=>by lia) h1 h2 p
def om:∀{xs:List PV} {k:List Int},fX xs=some k->xs=k.map .int
 | [],k,h=>by cases h;rfl
 | x::r,k,h=>by
  cases x with
  | int i =>
   unfold fX at h
   cases hr:fX r with
   | none=>rw[hr] at h;cases h
   | some kr =>
    rw[hr] at h;cases h;rw[om hr];rfl
  | _=>cases h
def fSorted(xs:List PV)(h:MH):Out PV:=match xs with
 | [x]=>(match cO h x with
  | some ys=>(match fX ys with
   | some ns=>if ns.length<64 then .ok (.loc h.length) (h++[.lst ((im ns).map .int)]) else .bad
   | none=>(match gM ys with
    | some ks=>if (∀k∈ks,k≠[])/\ks.length<=66 then .ok (.loc h.length) (h++[.lst ((bI ks).map kP)]) else .bad
    | none=>.bad))
  | none=>.bad)
 | _=>.bad
def qO:∀{ns:List Int} {its:List Value},aF (ns.map V.int) its->IntsAre its ns
 | [],_,h=>by cases h;exact .nil
 | i::k,_,h=>by
  cases h with
  | cons r t =>
   obtain⟨tk,rfl⟩:=r;exact .cons i tk (qO t)
def qE:∀{ns:List Int} {its:List Value},IntsAre its ns->aF (ns.map V.int) its
 | _,_,.nil=>.nil
 | _,_,.cons n t h=>.cons ⟨t,rfl⟩ (qE h)
section
variable {X:Cx} {N W G:List Str} {k:Nat}
def pU:cF X (.builtin "sorted") (fun xs H Q=>∃l ns,xs=[.ref l]/\SqL X.K H l (ns.map V.int)/\ns.length<64/\∀l',H l'=none->Q (.ref l') (upd H l' (.lst ((im ns).map V.int)))):=by
 intro Iv s σ H xs us Q I r ⟨l,ns,e,hq,hz,q⟩;subst e;obtain⟨u,rfl,rx⟩:=eX r;cases rx;obtain⟨its,rv,pl,hz2⟩:=I.list hq;have hlen:=rv.length;rw[qal] at hlen;refine sorted_ints pl.isList (qO rv) (by lia) fun out ns' h1 h2 h3=>?_;have e:=r6 h3 (xP ns) (h2.trans (jQ ns).symm);subst e;have hsz:((s.heap.push (seqObj "list" #[] 0)).update s.heap.objs.size (Obj.mapSeq (·++its.toArray))).objs.size=s.heap.objs.size+1:=by rw[Heap.size_update,size_push']
 have hoL:(((s.heap.push (seqObj "list" #[] 0)).update s.heap.objs.size (Obj.mapSeq (·++its.toArray))).push (seqObj "list" its.toArray 0)).get? (s.heap.objs.size+1)=some (seqObj "list" its.toArray 0):=by
  rw[<-hsz];exact qaz _ rfl
 obtain⟨c,hc⟩:=ig hoL out;refine⟨.ref (s.heap.objs.size+1),_,I.laid (o:=.lst ((im ns).map V.int)) (t':=s.toks) (fun b o hb=>?_) (qcw _) (⟨?_,out.toList,c,qE h1,?_⟩),rfl,q _ (I.hok.fresh (qcw _))⟩
 ·have hlt:=qas hb;refine gG (qaJ (qbC hlt)) ?_ _;refine qae _ ?_;rw[qbH _ _ _ _ (qaJ hlt)];exact qae _ hb
 ·rw[qal,(jQ ns).length_eq,sizeLine_eq];lia
 ·unfold sortedAll;rw[hc]
def v3:cu X (.builtin "sorted") fSorted:=by
 intro Iv s σ H xs us Q I r ⟨ρ,h,ps,rh,rp,q⟩
 cases rp with
 | nil=>exact q.elim
 | @cons x y _ _ r1 t1 =>
  cases t1 with
  | cons _ _=>exact q.elim
  | nil =>
   unfold fSorted at q;dsimp only at q
   cases hl:cO h x with
   | none=>rw[hl] at q;exact q.elim
   | some zs =>
    rw[hl] at q;dsimp only at q;obtain⟨la,ys,rfl,hsq,rzs⟩:=nJ rh r1 hl
    cases hi:fX zs with
    | some ns =>
     rw[hi] at q;dsimp only at q;by_cases z:ns.length<64
     ·rw[qag z] at q;rw[om hi] at rzs;rw[vints rzs] at hsq;refine pU Iv s σ H _ us Q I r ⟨la,ns,rfl,hsq,z,fun l hl2=>?_⟩;obtain⟨rh3,l3⟩:=rh.new hl2 (o:=.lst ((im ns).map .int)) ⟨_,rfl,RPs.ints _⟩;exact q _ _ _ l3 rh3 (.loc (by rw[<-rh.len];simp))
     ·rw[qao z] at q;exact q.elim
    | none =>
     rw[hi] at q
     cases hk:gM zs with
     | none=>rw[hk] at q;exact q.elim
     | some ks =>
      rw[hk] at q;dsimp only at q;by_cases z:(∀k∈ks,k≠[])/\ks.length<=66
      ·rw[qag z] at q;rw[nI hk] at rzs;refine qU Iv s σ H _ us Q I r ⟨la,ys,ks,rfl,hsq,oi rzs,z.1,z.2,fun l ys' hl2 tk=>?_⟩;obtain⟨rh3,l3⟩:=rh.new hl2 (o:=.lst ((bI ks).map kP)) ⟨_,rfl,nB tk⟩;exact q _ _ _ l3 rh3 (.loc (by rw[<-rh.len];simp))
      ·rw[qao z] at q;exact q.elim
end
end MM
namespace MM
open PySem PySem.Spec PyProof.Rows L2
local instance (priority:=1) cdec26 (p:Prop):Decidable p:=Classical.propDecidable p
def tN(I:Nat->PSt->MH->Prop):∀(xs:List PV) (j:Nat) (σ:PSt) (h:MH),I j σ h->(∀j σ h,I j σ h->it.ok h) ->
  (∀m σ h x,I (j+m) σ h->xs[m]?=some x->∃σ1 h1 σ' h',g x σ h=.nx σ1 h1/\b σ1 h1=.nx σ' h'/\I (j+m+1) σ' h') ->
  ∃σ' h',mGo it g b xs σ h=.nx σ' h'/\I (j+xs.length) σ' h'
 | [],j,σ,h,hI,hok,_=>⟨σ,h,mGo_nil (hok _ _ _ hI),hI⟩
 | x::r,j,σ,h,hI,hok,st=>by
  obtain⟨σ1,h1,σ2,h2,e1,e2,I1⟩:=st 0 σ h x hI rfl;obtain⟨σ3,h3,e3,I3⟩:=tN I r (j+1) σ2 h2 I1 hok fun m σ' h' y q z=>by
   have:=st (m+1) σ' h' y (by rw[show j+(m+1)=j+1+m by lia];exact q) (by simpa using z)
   rw[show j+(m+1)+1=j+1+m+1 by lia] at this;exact this
  refine⟨σ3,h3,?_,by rw[qaY,show j+(r.length+1)=j+1+r.length by lia];exact I3⟩;rw[xQ (hok _ _ _ hI) e1,e2];exact e3
end MM
namespace MM
open PySem PySem.Spec PyProof.Rows L2 SetT SortT
section
variable {h:MH} {i:Int} {xs:List PV} {n:Nat}
end
def fj:∀(k:List Int),PyData.canLayAll0 (k.map .int)=true/\PyData.depthAll (k.map .int)<=1
 | []=>⟨rfl,by simp[PyData.depthAll]⟩
 | i::k=>by
  obtain⟨a,b⟩:=fj k;constructor
  ·simp[PyData.canLayAll0,PyData.canLay0,a]
  ·simp only[qaF,PyData.depthAll,PyData.depth];lia
def lm:∀(ks:List (List Int)),PyData.canLayAll0 (ks.map fun k=>.tuple (k.map .int))=true/\PyData.depthAll (ks.map fun k=>.tuple (k.map .int))<=2
 | []=>⟨rfl,by simp[PyData.depthAll]⟩
 | k::ks=>by
  obtain⟨a,b⟩:=lm ks;obtain⟨c,d⟩:=fj k;constructor
  ·simp[PyData.canLayAll0,PyData.canLay0,a,c]
  ·simp only[qaF,PyData.depthAll,PyData.depth];lia
end MM
namespace MM
open PySem PySem.Spec PyProof.Rows L2
local instance (priority:=1) cdec28 (p:Prop):Decidable p:=Classical.propDecidable p
def lL(h:MH):PV->Option Bool
 | .non=>some false
 | .bl b=>some b
 | .int i=>some (i != 0)
 | .str _=>none
 | .tup xs=>some (!xs.isEmpty)
 | .frl xs=>some (!xs.isEmpty)
 | .loc n=>match h[n]? with
  | some (.lst xs)=>some (!xs.isEmpty)
  | _=>none
section
variable {X:Cx} {N W G:List Str} {k:Nat}
def jS{K:qaa}{ρ:List Addr}{H:Hp}{xs:List PV}{ys:List V}(r:RPs K ρ H xs ys):(!xs.isEmpty)=!ys.isEmpty:=by
 cases r <;> rfl
end
end MM
namespace MM
open PySem PySem.Spec PyProof.Rows L2 PySem.W
local instance (priority:=1) cdec29 (p:Prop):Decidable p:=Classical.propDecidable p
section
variable {X:Cx}
end
end MM
namespace MM
open PySem PySem.Spec PyProof.Rows L2
section
variable {X:Cx} {o e:Expr} {es:List Expr} {name:Str} {apos cpos:Pos} {id:String} {f:Str→List PV→MH→Out PV} {m:Mx PV} {ma:Mx (List PV)}
end
end MM
namespace L2
open PySem PySem.Spec PyProof.Rows
section
variable {X:Cx} {e st:Expr} {te:TE} {hi:Option Expr} {th ts:TO} {pos p2:Pos}
end
end L2
namespace MM
open PySem PySem.Spec PyProof.Rows L2
local instance (priority:=1) cdec32 (p:Prop):Decidable p:=Classical.propDecidable p
section
variable {X:Cx} {pos p2:Pos}
end
section
variable {X:Cx} {k:Nat}
end
end MM
namespace MM
open PySem PySem.Spec PyProof.Rows L2 SetT SortT
local instance (priority:=1) cdec34 (p:Prop):Decidable p:=Classical.propDecidable p
def many(ns:List Int):Nat:=(firstMet (fun i=>ns.getD i 0) ns.length).length
def many_le(ns:List Int):many ns<=ns.length:=firstMet_length_le _ _
def IPh(prog:Program)(w:World)(S:Addr)(n:Nat)(h:Heap):Prop:=∃f,h.SetOf (intKind prog w) S f n
def t4{prog:Program}{w:World}{S:Addr}{n:Nat}{h1 h2:Heap}(p:IPh prog w S n h1)(k:∀o,h1.get? S=some o->h2.get? S=some o):IPh prog w S n h2:=by
 obtain⟨f,o,es,ep,t,p1,r⟩:=p;exact⟨f,o,es,ep,t,k o p1,r⟩
section
variable {X:Cx} {N W G:List Str} {k:Nat}
def vO(hh:X.calm=true):cF X (.type "set") (fun xs H Q=>∃l ns,xs=[.ref l]/\SqL X.K H l (ns.map V.int)/\ns.length<=1000/\∀S,H S=none->Q (.ref S) (upd H S (.ext (IPh X.prog X.w S (many ns))))):=by
 intro Iv s σ H xs us Q I r ⟨l,ns,e,hq,hl,q⟩;subst e;obtain⟨u,rfl,rx⟩:=eX r;cases rx;obtain⟨its,rv,pl,hz⟩:=I.list hq;have hlen:its.length=ns.length:=by have:=rv.length;rw[qal] at this;exact this.symm
 have ia:=uK rv;have hfr:=I.hok.fresh (qah s.heap.objs.size);refine call_set_list (I.ok.hd hh) pl.isList ia (by rw[qap];unfold scanBound;ext) fun h' tk T x=>?_;have es':its.toArray.size=ns.length:=by rw[qap,hlen]
 rw[es'] at T;have sp:IPh X.prog X.w s.heap.objs.size (many ns) h':=⟨_,T⟩;obtain⟨f,o,es,ep,t,ho,rest⟩:=id sp;exact⟨.ref s.heap.objs.size,_,I.laid (o:=.ext (IPh X.prog X.w s.heap.objs.size (many ns))) (fun b o e=>x b o (qas e) e) (qah _) ⟨sp,⟨o,ho⟩,fun h1 h2 a b=>t4 a b⟩,rfl,q _ hfr⟩
def vz:cF X (.builtin "len") (fun xs H Q=>∃S n,xs=[.ref S]/\H S=some (.ext (IPh X.prog X.w S n))/\n<=1000/\Q (.int n) H):=by
 intro Iv s σ H xs us Q I r ⟨S,n,e,hS,hn,q⟩;subst e;obtain⟨u,rfl,rx⟩:=eX r;cases rx;obtain⟨sp,_,_⟩:=(I.hok S _ hS);obtain⟨f,o,es,ep,t,p1,p2,p3,p4,p5,p6,p7,p8⟩:=sp;refine call_len_set p1 p2 p3 p7 (by ext) ?_;rw[p8];exact⟨.int n,H,I.kept fun b ob q=>q,⟨_,rfl⟩,q⟩
def mLS(m:Mx (List PV)):Mx PV:=fun σ h=>(m σ h).bind fun xs h1=>match xs with
 | [x]=>(match (cO h1 x).bind fX with
  | some ns=>if ns.length<=1000 then .ok (.int (many ns)) h1 else .bad
  | none=>.bad)
 | _=>.bad
def vc(g:Good X N W G k){a:Expr}{m:Mx (List PV)}{p p' pos pos':Pos}(i j:Nat)(hm:X.mg "len"=none)(hm':X.mg "set"=none)(ha:MA X [a] m)(hi:G[i]?=some "len":=by rfl)(hj:G[j]?=some "set":=by rfl)
  (hs:starEach [a] X.env=[(false,eval a X.env)]:=by rfl) (he:starEach [.Call (.Name "set" p') [a] [] pos'] X.env=[(false,eval (.Call (.Name "set" p') [a] [] pos') X.env)]:=by rfl) :
  ME X (.Call (.Name "len" p) [.Call (.Name "set" p') [a] [] pos'] [] pos) (mLS m):=by
 have d:=g.dbg _ (qam _ (aZ hi));have d':=g.dbg _ (qam _ (aZ hj));refine PE.imp (jp vz (g.gl _ (aZ hi)) hm PyProof.Rows.Boot.«len» (iG (j4 (vO g.calm) (g.gl _ (aZ hj)) hm' PyProof.Rows.Boot.«set» ha d'.2.2 d'.1 hs rfl) mD he) d.2.2 d.1 he rfl) fun σ H Q ⟨ρ,σp,h,rs,rh,q⟩=>?_;refine⟨ρ,σp,h,rs,rh,Ful.bind q fun ρ1 H1 x x' h1 ex l1 rh1 rx q1=>?_⟩
 cases rx with
 | nil=>exact q1.elim
 | @cons y y' _ _ r1 t1 =>
  cases t1 with
  | cons _ _=>exact q1.elim
  | nil =>
   dsimp only at q1
   cases hl:cO h1 y with
   | none=>rw[hl] at q1;exact q1.elim
   | some xs =>
    rw[hl] at q1
    cases hk:fX xs with
    | none=>simp only[qaO,hk] at q1;exact q1.elim
    | some ns =>
     simp only[qaO,hk] at q1;by_cases z:ns.length<=1000
     ·rw[qag z] at q1;obtain⟨la,zs,rfl,hsq,rzs⟩:=nJ rh1 r1 hl;rw[om hk] at rzs;rw[vints rzs] at hsq;refine⟨la,ns,rfl,hsq,z,fun S hS=>?_⟩;obtain⟨rh2,l2⟩:=rh1.loose hS (.ext (IPh X.prog X.w S (many ns)));exact⟨S,many ns,rfl,cj,qaE (many_le ns) z,q1 ρ1 _ _ l2 rh2 (.int _)⟩
     ·rw[qao z] at q1;exact q1.elim
end
end MM
namespace L2
open PySem PySem.Spec PyProof.Rows
section
variable {X:Cx} {a:Expr} {ta:TE} {pos:Pos}
def pe_notT(ha:PE X a ta):PE X (.UnaryOp .Not a pos) (fun σ H Q=>ta σ H fun x H'=>∃k,TruV X.K x H' k/\Q (.bl (!k)) H'):=by
 intro Iv s σ H Q I h;refine UnaryOp_ (thn (ha Iv s σ H _ I h) fun v s1 ⟨x,H1,I1,r1,q1⟩=>?_);exact not_of (thn (qg Iv s1 σ H1 x v (fun c H2=>Q (.bl (!c)) H2) I1 r1 q1) fun c s2 ⟨H2,I2,q⟩=>⟨.bl (!c),H2,I2,rfl,q⟩)
end
end L2
namespace MM
open PySem PySem.Spec PyProof.Rows L2
def mNotT(m:Mx PV):Mx PV:=fun σ h=>(m σ h).bind fun v h1=>match lL h1 v with
 | some b=>.ok (.bl (!b)) h1
 | none=>.bad
section
variable {X:Cx} {pos:Pos}
def me_notT{e:Expr}{m:Mx PV}(h:ME X e m):ME X (.UnaryOp .Not e pos) (mNotT m):=by
 refine PE.imp (pe_notT h) fun σ H Q ⟨ρ,σp,h,rs,rh,q⟩=>⟨ρ,σp,h,rs,rh,Ful.bind q fun ρ1 H1 x x' h1 _ l1 rh1 rx q1=>?_⟩
 cases rx with
 | non=>exact⟨false,rfl,q1 ρ1 H1 _ (Le.refl _ _) rh1 (.bl _)⟩
 | bl b=>exact⟨b,rfl,q1 ρ1 H1 _ (Le.refl _ _) rh1 (.bl _)⟩
 | int i=>exact⟨_,rfl,q1 ρ1 H1 _ (Le.refl _ _) rh1 (.bl _)⟩
 | str i=>exact q1.elim
 | @tup xs a ys s r=>exact⟨_,.inr (.inl ⟨ys,s,rfl⟩),by rw[<-jS r];exact q1 ρ1 H1 _ (Le.refl _ _) rh1 (.bl _)⟩
 | @frl xs a ys s r=>exact⟨_,.inl ⟨ys,s.sq,rfl⟩,by rw[<-jS r];exact q1 ρ1 H1 _ (Le.refl _ _) rh1 (.bl _)⟩
 | @loc n a e =>
  obtain⟨o,eo,ro⟩:=rh1.obj e
  cases o with
  | lst xs =>
   obtain⟨ys,ey,ry⟩:=ro;simp only[lL,eo] at q1;exact⟨_,.inl ⟨ys,.inl (.inl ey),rfl⟩,by rw[<-jS ry];exact q1 ρ1 H1 _ (Le.refl _ _) rh1 (.bl _)⟩
  | dic kvs=>simp only[lL,eo] at q1;exact q1.elim
  | exc z=>simp only[lL,eo] at q1;exact q1.elim
end
section
variable {X:Cx}
end
end MM
namespace MM
open PySem PySem.Spec PyProof.Rows L2
local instance (priority:=1) cdec38 (p:Prop):Decidable p:=Classical.propDecidable p
section
variable {X:Cx} {k:Nat}
def fReprA(xs:List PV)(h:MH):Out PV:=match xs with
 | [.non]=>.ok (.str "None") h
 | [.bl b]=>.ok (.str (if b then "True" else "False")) h
 | [.int i]=>if i.natAbs.log2<1920 then .ok (.str (toString i)) h else .bad
 | [.str x]=>if (reprText x).length<=sizeLine then .ok (.str (reprText x)) h else .bad
 | [.loc n]=>(match h[n]? with
  | some (.dic [])=>.ok (.str "{}") h
  | _=>fRepr [.loc n] h)
 | xs=>fRepr xs h
def jw{N W G:List Str}(g:Good X N W G k):cu X (.builtin "repr") fReprA:=by
 intro Iv s σ H xs us Q I r ⟨ρ,h,ps,rh,rp,q⟩
 cases rp with
 | nil=>exact q.elim
 | @cons x y _ _ r1 t1 =>
  cases t1 with
  | cons a b=>exact iB g Iv s σ H _ us Q I r ⟨ρ,h,_,rh,.cons r1 (.cons a b),by cases r1 <;> exact q⟩
  | nil =>
   cases r with
   | cons ru tu =>
    cases tu
    cases r1 with
    | non=>cases ru;exact P.repr_of_none ⟨.str "None",H,I.tok _,⟨_,rfl⟩,q ρ H _ (Le.refl _ _) rh (.str _)⟩
    | bl b=>cases ru;exact P.repr_of_bool ⟨.str _,H,I.tok _,⟨_,rfl⟩,q ρ H _ (Le.refl _ _) rh (.str _)⟩
    | int i =>
     obtain⟨t,rfl⟩:=ru;unfold fReprA at q;dsimp only at q;by_cases z:i.natAbs.log2<1920
     ·rw[qag z] at q;exact P.repr_of_int z ⟨.str _,H,I.tok _,⟨_,rfl⟩,q ρ H _ (Le.refl _ _) rh (.str _)⟩
     ·rw[qao z] at q;exact q.elim
    | str x =>
     obtain⟨t,rfl⟩:=ru;unfold fReprA at q;dsimp only at q;by_cases z:(reprText x).length<=sizeLine
     ·rw[qag z] at q;exact P.repr_of_str ⟨.str _,H,I.tok _,⟨_,rfl⟩,q ρ H _ (Le.refl _ _) rh (.str _)⟩ z
     ·rw[qao z] at q;exact q.elim
    | tup s1 rr=>exact iB g Iv s σ H _ _ Q I (.cons ru .nil) ⟨ρ,h,_,rh,.cons (.tup s1 rr) .nil,q⟩
    | frl s1 rr=>exact iB g Iv s σ H _ _ Q I (.cons ru .nil) ⟨ρ,h,_,rh,.cons (.frl s1 rr) .nil,q⟩
    | @loc n a en =>
     obtain⟨o,eo,ro⟩:=rh.obj en;unfold fReprA at q;dsimp only at q;rw[eo] at q
     cases o with
     | lst zs=>exact iB g Iv s σ H _ _ Q I (.cons ru .nil) ⟨ρ,h,_,rh,.cons (.loc en) .nil,q⟩
     | exc zs=>exact iB g Iv s σ H _ _ Q I (.cons ru .nil) ⟨ρ,h,_,rh,.cons (.loc en) .nil,q⟩
     | dic kvs =>
      obtain⟨e1,e2⟩:=ro;subst e1;cases ru;obtain⟨_,sm,vs,kv,dd⟩:ObjOk X.prog X.w H s.heap a (.dK []):=I.hok a _ e2;cases kv;obtain⟨ob,es,ep,h1,h2,h3,_,h4,_⟩:=dd;have e0:es.toList=[]:=by
       cases h5:es.toList with
       | nil=>rfl
       | cons a b=>rw[h5] at h4;cases h4
      have rd1:Reads s.heap (.ref a) (.dict []) (a::[]++[]):=.dict h1 h2.1 h3 (by rw[e0];exact .nil) (by rw[e0];exact .nil);refine repr_of_reads' rd1 rfl (fun _=>by simpa using fun z=>by rw[z] at sm;simp at sm) g.room.gd (by have:=g.room.un;simp[PyData.depth,PyData.depthKv];ext) (fun _ _ e=>e) (fun h' u tk hk=>⟨.str "{}",H,I.kept hk,⟨u,rfl⟩,q ρ H _ (Le.refl _ _) rh (.str _)⟩) (by rw[sizeLine_eq];decide)
end
end MM
namespace HT
open PySem PyProof.Rows
section
open PySem.SeqAt
open PySem.AutoSeq1 (wpAny_loadPart')
open PySem.MeetsSeq PySem.MeetsSeq2 PySem.MeetsSeq3
end
section
variable {prog:Program} {w:World} {A:Around} {E:Value→Shared→Prop} {s:Shared}
end
end HT
namespace L2
open PySem PySem.Spec PyProof.Rows
section
variable {X:Cx} {e st:Expr} {te:TE} {ts:TO} {pos p2:Pos}
end
end L2
namespace MM
open PySem PySem.Spec PyProof.Rows L2
local instance (priority:=1) cdec39 (p:Prop):Decidable p:=Classical.propDecidable p
section
variable {X:Cx} {k:Nat} {pos:Pos}
end
end MM
namespace L2
open PySem PySem.Spec PyProof.Rows
section
variable {X:Cx} {a b c d:Expr} {ta tb tc td:TE} {r r' r2:R2} {op op' op2:CmpOp} {pos:Pos}
end
end L2
namespace MM
open PySem PySem.Spec PyProof.Rows L2
local instance (priority:=1) cdec40 (p:Prop):Decidable p:=Classical.propDecidable p
section
variable {X:Cx} {a b c d:Expr} {ma mb mc md:Mx PV} {f g' g2:PV→PV→MH→Out PV} {op op' op2:CmpOp} {pos:Pos} {k:Nat}
def bv:Expr->Bool
 | .Starred _ _=>false
 | _=>true
def bg(h:bv e=true):starEach (e::es) env=(false,eval e env)::starEach es env:=by
 cases e <;> first | rfl | cases h
def ma_con(ha:ME X e m)(hr:MA X es ms)(hp:bv e=true:=by rfl):MA X (e::es) (aj m ms):=aD ha hr (bg hp)
structure ME1 (X:Cx) (e:Expr) (m:Mx PV):Prop where
 h:ME X e m
structure MAs (X:Cx) (es:List Expr) (ms:Mx (List PV)):Prop where
 h:MA X es ms
structure MS1 (X:Cx) (st:Stmt) (m:Mst):Prop where
 h:MS X st m
structure MS2 (X:Cx) (st:List Stmt) (m:Mst):Prop where
 h:MSs X st m
section
variable {e:Expr} {es:List Expr} {m ma mb:Mx PV} {ms:Mx (List PV)} {st:Stmt} {rest:List Stmt} {u v:Mst} {f:PV→PV→MH→Out PV} {N W G:List Str} {x:Str}
def fb:MAs X [] mNil:=⟨aU⟩
def bf(ha:ME1 X e m)(hr:MAs X es ms)(hp:bv e=true:=by rfl):MAs X (e::es) (aj m ms):=⟨ma_con ha.h hr.h hp⟩
def e_1(h:ME X e m):ME1 X e m:=⟨h⟩
def l_1(h:MAs X es ms):ME1 X (.List es pos) (fo ms):=⟨me_lst h.h⟩
def t_1(h:MAs X es ms):ME1 X (.Tuple es j pos) (ir ms):=⟨ve h.h⟩
def s_1(h:MS X st u):MS1 X st u:=⟨h⟩
def a_1(g:Good X N W G k)(i:Nat){pos':Pos}(he:ME1 X e m)(hi:N[i]?=some x:=by rfl)(hw:W[i]?=some x:=by rfl)(hs:swapsWith e (some (.Name x pos')) pos.line X.env=pure false:=by rfl) :
  MS1 X (.Assign [.Name x pos'] e pos) (bG i m):=⟨nc g i hi hw he.h hs⟩
def r_1(he:ME1 X e m):MS1 X (.Return (some e) pos) (b7 m):=⟨ms_ret he.h⟩
def m1n(h:MS1 X st u):MS2 X [st] u:=⟨mss_one h.h⟩
def m1c(h1:MS1 X st u)(h2:MS2 X rest v):MS2 X (st::rest) (bq u v):=⟨xF h1.h h2.h⟩
end
end
end MM
namespace PU
open PySem MM
def ys{α:Type}{a b:α}(h:a=b):a=b:=h
inductive D where
 | non | bl (b:Bool) | int (i:Int) | str (x:Str) | tup (xs:List D) | lst (xs:List D) | dic | exc (c:Str) | pen
abbrev Pen:=Int × Int × Int
abbrev av:=List (Option D)
def cp(h:MH)(p:Nat)(s:Pen):Prop:=h[p]?=some (.lst [.int s.1,.int s.2.1,.int s.2.2])
inductive RcT (P:List PV->Prop) (v:PV):Prop
 | mk (xs:List PV) (e:v=.tup xs) (r:P xs):RcT P v
inductive RcL (h:MH) (O:List Nat) (P:List PV->Prop) (v:PV):Prop
 | mk (n:Nat) (xs:List PV) (e:v=.loc n) (no:n∉O) (g:h[n]?=some (.lst xs)) (r:P xs):RcL h O P v
inductive RcO (h:MH) (O:List Nat) (o:MO) (v:PV):Prop
 | mk (n:Nat) (e:v=.loc n) (no:n∉O) (g:h[n]?=some o):RcO h O o v
inductive RcC (P:PV->Prop) (Q:List PV->Prop) (vs:List PV):Prop
 | mk (x:PV) (r:List PV) (e:vs=x::r) (a:P x) (b:Q r):RcC P Q vs
mutual
def Rp(p:Nat)(h:MH)(O:List Nat):D->PV->Prop
 | .non,v=>v=.non
 | .bl b,v=>v=.bl b
 | .int i,v=>v=.int i
 | .str x,v=>v=.str x
 | .tup ds,v=>RcT (Rps p h O ds) v
 | .lst ds,v=>RcL h O (Rps p h O ds) v
 | .dic,v=>RcO h O (.dic []) v
 | .exc c,v=>RcO h O (.exc ⟨c,[]⟩) v
 | .pen,v=>v=.loc p
def Rps(p:Nat)(h:MH)(O:List Nat):List D->List PV->Prop
 | [],vs=>vs=[]
 | d::ds,vs=>RcC (Rp p h O d) (Rps p h O ds) vs
end
def bm{h:MH}{n:Nat}{o:MO}(e:h[n]?=some o):n<h.length:=(qad.mp e).1
structure Mv (O:List Nat) (h:MH) (O':List Nat) (h':MH):Prop where
 keep:∀n:Nat,n<h.length->n∉O->h'[n]?=h[n]?
 new:∀o∈O',o∈O\/h.length<=o
def Mv.get{O O':List Nat}{h h':MH}(s:Mv O h O' h'){n:Nat}{o:MO}(e:h[n]?=some o)(no:n∉O):n∉O'/\h'[n]?=some o:=by
 have hl:=bm e;refine⟨fun z=>?_,(s.keep n hl no).trans e⟩;rcases s.new n z with q|q
 ·exact no q
 ·lia
section
variable {p:Nat} {O O':List Nat} {h h':MH}
def Rp.mv(s:Mv O h O' h')(r:Rp p h O d v):Rp p h' O' d v:=by
 refine D.rec (motive_2:=fun ds=>∀vs,Rps p h O ds vs->Rps p h' O' ds vs)
  (fun _ r=>r) (fun _ _ r=>r) (fun _ _ r=>r) (fun _ _ r=>r) (fun ds i _ r=>?_) (fun ds i _ r=>?_) (fun _ r=>?_) (fun _ _ r=>?_) (fun _ r=>r) (fun _ r=>r) (fun _ _ i j _ r=>?_) d v r
 ·obtain⟨xs,e,r⟩:=r;exact⟨xs,e,i _ r⟩
 ·obtain⟨n,xs,e,no,g,r⟩:=r;exact⟨n,xs,e,(s.get g no).1,(s.get g no).2,i _ r⟩
 ·obtain⟨n,e,no,g⟩:=r;exact⟨n,e,(s.get g no).1,(s.get g no).2⟩
 ·obtain⟨n,e,no,g⟩:=r;exact⟨n,e,(s.get g no).1,(s.get g no).2⟩
 ·obtain⟨x,t,e,a,b⟩:=r;exact⟨x,t,e,i _ a,j _ b⟩
def Rps.mv(s:Mv O h O' h')(r:Rps p h O ds vs):Rps p h' O' ds vs:=by
 induction ds generalizing vs with
 | nil=>exact r
 | cons d ds ih=>obtain⟨x,t,e,a,b⟩:=r;exact⟨x,t,e,a.mv s,ih b⟩
def Rps.length(r:Rps p h O ds vs):vs.length=ds.length:=by
 induction ds generalizing vs with
 | nil=>rw[show vs=[] from r];rfl
 | cons d ds ih=>obtain⟨x,t,e,a,b⟩:=r;rw[e,qaY,qaY,ih b]
def Rps.get{ds:List D}{vs:List PV}{i:Nat}{d:D}(r:Rps p h O ds vs)(g:ds[i]?=some d):∃v,vs[i]?=some v/\Rp p h O d v:=by
 induction ds generalizing vs i with
 | nil=>cases g
 | cons d ds ih =>
  obtain⟨x,t,e,a,b⟩:=r;subst e
  cases i with
  | zero=>cases g;exact⟨x,rfl,a⟩
  | succ i=>have z:=@ih t i b g;exact z
def Rps.app(r:Rps p h O ds vs)(s:Rps p h O es ws):Rps p h O (ds++es) (vs++ws):=by
 induction ds generalizing vs with
 | nil=>rw[show vs=[] from r];exact s
 | cons d ds ih=>obtain⟨x,t,e,a,b⟩:=r;subst e;exact⟨x,t++_,rfl,a,ih b⟩
def Rps.take(n:Nat)(r:Rps p h O ds vs):Rps p h O (ds.take n) (vs.take n):=by
 induction ds generalizing vs n with
 | nil=>rw[show vs=[] from r];cases n <;> rfl
 | cons d ds ih =>
  obtain⟨x,t,e,a,b⟩:=r;subst e
  cases n with
  | zero=>rfl
  | succ n=>exact⟨x,t.take n,rfl,a,ih n b⟩
def Rps.drop(n:Nat)(r:Rps p h O ds vs):Rps p h O (ds.drop n) (vs.drop n):=by
 induction ds generalizing vs n with
 | nil=>rw[show vs=[] from r];cases n <;> rfl
 | cons d ds ih =>
  cases n with
  | zero=>exact r
  | succ n=>obtain⟨x,t,e,a,b⟩:=r;subst e;exact ih n b
def Rps.set(i:Nat)(r:Rps p h O ds vs)(q:Rp p h O d v):Rps p h O (ds.set i d) (vs.set i v):=by
 induction ds generalizing vs i with
 | nil=>rw[show vs=[] from r];rfl
 | cons d' ds ih =>
  obtain⟨x,t,e,a,b⟩:=r;subst e
  cases i with
  | zero=>exact⟨v,t,rfl,q,b⟩
  | succ i=>exact⟨x,t.set i v,rfl,a,ih i b⟩
end
inductive VwO (p:Nat) (h:MH) (L:Nat) (O:List Nat) (d:D) (v:PV):Prop
 | mk (n:Nat) (xs:List PV) (ds:List D) (e:d=.lst ds) (e':v=.loc n) (o:n∈O) (l:L<=n) (g:h[n]?=some (.lst xs)) (r:Rps p h O ds xs):VwO p h L O d v
def Vw(p:Nat)(h:MH)(L:Nat)(O:List Nat)(d:D)(v:PV):Prop:=Rp p h O d v\/VwO p h L O d v
def Vws(p:Nat)(h:MH)(L:Nat)(O:List Nat):List D->List PV->Prop
 | [],vs=>vs=[]
 | d::ds,vs=>RcC (Vw p h L O d) (Vws p h L O ds) vs
inductive FrsI (p:Nat) (L:Nat) (O:List Nat) (h:MH) (ds:List D) (v:PV):Prop
 | mk (n:Nat) (xs:List PV) (e:v=.loc n) (l:L<=n) (g:h[n]?=some (.lst xs)) (r:Rps p h (n::O) ds xs):FrsI p L O h ds v
def Frs(p:Nat)(L:Nat)(O:List Nat)(h:MH)(d:D)(v:PV):Prop:=∀ds,d=.lst ds->FrsI p L O h ds v
structure KB (p:Nat) (h h':MH):Prop where
 len:h.length<=h'.length
 keep:∀n:Nat,n<h.length->n≠p->h'[n]?=h[n]?
def KB.refl(p:Nat)(h:MH):KB p h h:=⟨qah _,fun _ _ _=>rfl⟩
def KB.trans(a:KB p h h1)(b:KB p h1 h2):KB p h h2 :=
 ⟨qaE a.len b.len,fun n hn hp=>(b.keep n (qaB hn a.len) hp).trans (a.keep n hn hp)⟩
def KB.app(p:Nat)(h g:MH):KB p h (h++g):=⟨by simp,fun n hn _=>qan hn⟩
def KB.mv(k:KB p h h')(hp:p∈O):Mv O h O h' :=
 ⟨fun n hn no=>k.keep n hn fun z=>no (z▸hp),fun o ho=>.inl ho⟩
def cp.app{p:Nat}{h g:MH}{s:Pen}(e:cp h p s):cp (h++g) p s:=by
 unfold cp at *;rw[qan (bm e)];exact e
def Vw.kb{p L:Nat}{h h':MH}{O:List Nat}{d:D}{v:PV}(k:KB p h h')(hp:p∈O)(hL:p<L)(w:Vw p h L O d v):Vw p h' L O d v:=by
 rcases w with r|⟨n,xs,ds,e1,e2,ho,hn,g,r⟩
 ·exact .inl (r.mv (k.mv hp))
 ·exact .inr ⟨n,xs,ds,e1,e2,ho,hn,(k.keep n (bm g) (by lia)).trans g,r.mv (k.mv hp)⟩
inductive PR (α:Type) where
 | ok (a:α) (s:Pen)
 | exc (c:Str) (s:Pen)
 | bad
def PR.bind{α β:Type}(r:PR α)(f:α->Pen->PR β):PR β:=match r with
 | .ok a s=>f a s
 | .exc c s=>.exc c s
 | .bad=>.bad
@[simp] theorem Pb(a:α)(s:Pen)(f:α->Pen->PR β):(PR.ok a s).bind f=f a s:=rfl
@[simp] theorem Pe(c:Str)(s:Pen)(f:α->Pen->PR β):(PR.exc c s).bind f=.exc c s:=rfl
@[simp] theorem Pd(f:α->Pen->PR β):(PR.bad:PR α).bind f=.bad:=rfl
def PR.of{α:Type}(o:Option α)(s:Pen):PR α:=match o with
 | some a=>.ok a s
 | none=>.bad
@[simp] theorem Pf(a:α)(s:Pen):PR.of (some a) s=.ok a s:=rfl
@[simp] theorem Pn(s:Pen):PR.of (none:Option α) s=.bad:=rfl
inductive OkE {α β:Type} (p:Nat) (h:MH) (o:Out β) (a:α) (s:Pen) (R:MH->α->β->Prop):Prop
 | mk (b:β) (h':MH) (e:o=.ok b h') (k:KB p h h') (n:cp h' p s) (r:R h' a b):OkE p h o a s R
inductive OkX {β:Type} (p:Nat) (h:MH) (o:Out β) (c:Str) (s:Pen):Prop
 | mk (h':MH) (e:o=.exc ⟨c,[]⟩ h') (k:KB p h h') (n:cp h' p s):OkX p h o c s
def Ok{α β:Type}(p:Nat)(h:MH)(o:Out β)(r:PR α)(R:MH->α->β->Prop):Prop:=match r with
 | .ok a s=>OkE p h o a s R
 | .exc c s=>OkX p h o c s
 | .bad=>True
def Ok.bind{α β γ δ:Type}{p:Nat}{h:MH}{o:Out β}{r:PR α}{R:MH->α->β->Prop}{f:β->MH->Out δ}{g:α->Pen->PR γ}{S:MH->γ->δ->Prop}(q:Ok p h o r R)
  (k:∀a b h1 s,KB p h h1->cp h1 p s->R h1 a b->Ok p h1 (f b h1) (g a s) S):Ok p h (o.bind f) (r.bind g) S:=by
 cases r with
 | ok a s =>
  obtain⟨b,h1,rfl,kb,pn,rr⟩:=q
  have:=k a b h1 s kb pn rr
  rw[Pb]
  cases e:g a s with
  | ok c s2 =>
   rw[e] at this;obtain⟨d,h2,e2,kb2,pn2,r2⟩:=this;exact⟨d,h2,e2,kb.trans kb2,pn2,r2⟩
  | exc c s2 =>
   rw[e] at this;obtain⟨h2,e2,kb2,pn2⟩:=this;exact⟨h2,e2,kb.trans kb2,pn2⟩
  | bad=>trivial
 | exc c s =>
  obtain⟨h1,rfl,kb,pn⟩:=q;exact⟨h1,rfl,kb,pn⟩
 | bad=>trivial
def Ok.imp{α β:Type}{p:Nat}{h:MH}{o:Out β}{r:PR α}{R S:MH->α->β->Prop}(q:Ok p h o r R)(k:∀h' a b,KB p h h'->R h' a b->S h' a b):Ok p h o r S:=by
 cases r with
 | ok a s=>obtain⟨b,h1,e,kb,pn,rr⟩:=q;exact⟨b,h1,e,kb,pn,k _ _ _ kb rr⟩
 | exc c s=>exact q
 | bad=>trivial
structure SR (p:Nat) (h:MH) (L:Nat) (O:List Nat) (ws:List Nat) (σ:PSt) (env:av):Prop where
 len:σ.length=env.length
 fz:∀i d,env[i]?=some (some d)->i∉ws->∃v,σ[i]?=some (some v)/\Rp p h O d v
 ow:∀i d,env[i]?=some (some d)->i∈ws->∃n xs ds,d=.lst ds/\σ[i]?=some (some (.loc n))/\n∈O/\L<=n/\h[n]?=some (.lst xs)/\Rps p h O ds xs
structure Cx (p:Nat) (h:MH) (L:Nat) (B O:List Nat) (ws:List Nat) (σ:PSt) (env:av) (s:Pen):Prop where
 bd:∀o∈O,o<h.length
 sub:∀o∈B,o∈O
 bb:∀o∈B,o<L
 pb:p∈B
 hL:L<=h.length
 pen:cp h p s
 sr:SR p h L O ws σ env
section
variable {p L:Nat} {h h':MH} {B O ws:List Nat} {σ:PSt} {env:av} {s s':Pen}
def Cx.pO(c:Cx p h L B O ws σ env s):p∈O:=c.sub p c.pb
def Cx.pL(c:Cx p h L B O ws σ env s):p<L:=c.bb p c.pb
def SR.mv{O':List Nat}(m:Mv O h O' h')(hs:∀o∈O,o∈O')(ho:∀n:Nat,n<h.length->L<=n->n∈O->h'[n]?=h[n]?)(r:SR p h L O ws σ env):SR p h' L O' ws σ env :=
 ⟨r.len,fun i d e hi=>let ⟨v,e1,q⟩:=r.fz i d e hi;⟨v,e1,q.mv m⟩,fun i d e hi=>let ⟨n,xs,ds,e1,e2,a,b,g,q⟩:=r.ow i d e hi;⟨n,xs,ds,e1,e2,hs n a,b,(ho n (bm g) b a).trans g,q.mv m⟩⟩
def Cx.kb(c:Cx p h L B O ws σ env s)(k:KB p h h')(pn:cp h' p s'):Cx p h' L B O ws σ env s' :=
 ⟨fun o ho=>qaB (c.bd o ho) k.len,c.sub,c.bb,c.pb,qaE c.hL k.len,pn,c.sr.mv (k.mv c.pO) (fun _ h=>h) fun n hn hl _=>k.keep n hn (by have:=c.pL;lia)⟩
def Vw.base(w:Vw p h L O d v)(sub:∀o∈B,o∈O)(bb:∀o∈B,o<L):Rp p h B d v:=by
 have m:Mv O h B h:=⟨fun _ _ _=>rfl,fun o ho=>.inl (sub o ho)⟩;rcases w with r|⟨n,xs,ds,rfl,rfl,_,hn,g,r⟩
 ·exact r.mv m
 ·exact⟨n,xs,rfl,fun z=>by have:=bb n z;lia,g,r.mv m⟩
def Vws.base(sub:∀o∈B,o∈O)(bb:∀o∈B,o<L):∀{ds:List D} {vs:List PV},Vws p h L O ds vs->Rps p h B ds vs
 | [],_,r=>r
 | _::_,_,⟨x,t,e,a,b⟩=>⟨x,t,e,a.base sub bb,Vws.base sub bb b⟩
def Frs.rp(f:Frs p L' O h d v)(bd:∀o∈O,o<L')(e:d=.lst ds):Rp p h O d v:=by
 obtain⟨n,xs,e1,hn,g,r⟩:=f ds e;subst e;exact⟨n,xs,e1,fun z=>by have:=bd n z;lia,g,r.mv ⟨fun _ _ _=>rfl,fun o ho=>.inl (qaf _ ho)⟩⟩
def Frs.le(f:Frs p L2 O h d v)(hl:L1<=L2):Frs p L1 O h d v:=fun ds e =>
 let ⟨n,xs,e1,hn,g,r⟩:=f ds e;⟨n,xs,e1,qaE hl hn,g,r⟩
end
abbrev Bd(h:MH)(O:List Nat):Prop:=∀o∈O,o<h.length
inductive Gv (p:Nat) (h:MH) (O:List Nat) (fr:Bool) (o:Out PV) (d:D):Prop
 | mk (v:PV) (g:MH) (e:o=.ok v (h++g)) (r:Rp p (h++g) O d v) (f:fr=true->Frs p h.length O (h++g) d v):Gv p h O fr o d
structure Op1 where
 m:PV->MH->Out PV
 p:D->Option D
 fr:Bool
 ok:∀{q h L O a x d},Bd h O->Vw q h L O a x->p a=some d->Gv q h O fr (m x h) d
structure Op2 where
 m:PV->PV->MH->Out PV
 p:D->D->Option D
 fr:Bool
 ok:∀{q h L O a x b y d},Bd h O->Vw q h L O a x->Vw q h L O b y->p a b=some d->Gv q h O fr (m x y h) d
structure OpN where
 k:List PV->MH->Out PV
 p:List D->Option D
 fr:Bool
 ok:∀{q h L O as xs d},Bd h O->Vws q h L O as xs->p as=some d->Gv q h O fr (k xs h) d
structure Fn where
 m:List PV->MH->Out PV
 p:List D->Pen->PR D
 fr:Bool
 ok:∀{q h O vs ds s},Bd h O->q∈O->cp h q s->Rps q h O ds vs->Ok q h (m vs h) (p ds s) (fun h' d v=>Rp q h' O d v/\(fr=true->Frs q h.length O h' d v))
mutual
def flat:D->Bool
 | .lst _ | .dic | .exc _ | .pen=>false
 | .tup ds=>flats ds
 | _=>true
def flats:List D->Bool
 | []=>true
 | d::ds=>flat d && flats ds
end
section
variable {p:Nat} {h h':MH} {O O':List Nat}
mutual
def Rp.flat:∀{d:D} {v:PV},PU.flat d=true->Rp p h O d v->Rp p h' O' d v
 | .non,_,_,r=>r
 | .bl _,_,_,r=>r
 | .int _,_,_,r=>r
 | .str _,_,_,r=>r
 | .tup ds,_,f,⟨xs,e,r⟩=>⟨xs,e,Rps.flat (by simpa [PU.flat] using f) r⟩
 | .lst ds,_,f,_=>by simp[PU.flat] at f
 | .dic,_,f,_=>by simp[PU.flat] at f
 | .exc _,_,f,_=>by simp[PU.flat] at f
 | .pen,_,f,_=>by simp[PU.flat] at f
def Rps.flat:∀{ds:List D} {vs:List PV},PU.flats ds=true->Rps p h O ds vs->Rps p h' O' ds vs
 | [],_,_,r=>r
 | _::_,_,f,⟨x,t,e,a,b⟩=>⟨x,t,e,Rp.flat (by simp[PU.flats] at f;exact f.1) a,Rps.flat (by simp[PU.flats] at f;exact f.2) b⟩
end
end
structure Xe (ws:List Nat) where
 m:Mx PV
 p:av->Pen->PR D
 fz:Bool
 fr:Bool
 ok:∀{q h L B O σ env s},Cx q h L B O ws σ env s->Ok q h (m σ h) (p env s) (fun h' d v=>Vw q h' L O d v/\(fz=true->Rp q h' O d v)/\(fr=true->Frs q h.length O h' d v))
structure Xs (ws:List Nat) where
 m:Mx (List PV)
 p:av->Pen->PR (List D)
 fz:Bool
 ok:∀{q h L B O σ env s},Cx q h L B O ws σ env s->Ok q h (m σ h) (p env s) (fun h' ds vs=>Vws q h' L O ds vs/\(fz=true->Rps q h' O ds vs))
structure Xt (ws:List Nat) where
 m:Mx Bool
 p:av->Pen->PR Bool
 ok:∀{q h L B O σ env s},Cx q h L B O ws σ env s->Ok q h (m σ h) (p env s) (fun _ a b=>a=b)
noncomputable section
variable {ws:List Nat}
def give{q L:Nat}{h h2:MH}{O:List Nat}{o:Out PV}{d:D}{s:Pen}{fr:Bool}(le:h.length<=h2.length)(pn:cp h2 q s)(g:Gv q h2 O fr o d) :
  Ok q h2 o (.ok d s) (fun h' d v=>Vw q h' L O d v/\(true=true->Rp q h' O d v)/\(fr=true->Frs q h.length O h' d v)):=by
 obtain⟨v,g,e,r,f⟩:=g;exact⟨v,h2++g,e,KB.app _ _ _,pn.app,.inl r,fun _=>r,fun z=>(f z).le le⟩
def ac(i:Nat):Xe ws where
 m:=aq i
 p:=fun env s=>match env[i]? with
  | some (some d)=>.ok d s
  | _=>.bad
 fz:=!ws.contains i
 fr:=false
 ok {q h L B O σ env s} c:=by
  show Ok q h _ (match env[i]? with | some (some d)=>PR.ok d s | _=>.bad) _
  cases e:env[i]? with
  | none=>trivial
  | some o =>
   cases o with
   | none=>trivial
   | some d =>
    by_cases z:i∈ws
    ·obtain⟨n,xs,ds,e1,e2,a,b,g,r⟩:=c.sr.ow i d e z;exact⟨.loc n,h,by simp[aq,e2],KB.refl _ _,c.pen,.inr ⟨n,xs,ds,e1,rfl,a,b,g,r⟩,fun f=>by simp[z] at f,fun f=>by simp at f⟩
    ·obtain⟨v,e1,r⟩:=c.sr.fz i d e z;exact⟨v,h,by simp[aq,e1],KB.refl _ _,c.pen,.inl r,fun _=>r,fun f=>by simp at f⟩
inductive Cn where
 | non | bl (b:Bool) | int (i:Int) | str (x:Str)
def Cn.v:Cn->PV
 | .non=>.non
 | .bl b=>.bl b
 | .int i=>.int i
 | .str x=>.str x
def Cn.d:Cn->D
 | .non=>.non
 | .bl b=>.bl b
 | .int i=>.int i
 | .str x=>.str x
def Cn.rp(c:Cn){q:Nat}{h:MH}{O:List Nat}:Rp q h O c.d c.v:=by cases c <;> rfl
def xC(k:Cn):Xe ws where
 m:=mC k.v
 p:=fun _ s=>.ok k.d s
 fz:=true
 fr:=true
 ok {q h L B O σ env s} c:=⟨k.v,h,rfl,KB.refl _ _,c.pen,.inl k.rp,fun _=>k.rp,fun _ ds e=>by cases k <;> cases e⟩
def ae(o:Op2)(a b:Xe ws):Xe ws where
 m:=az o.m a.m b.m
 p:=fun env s=>(a.p env s).bind fun x s1=>(b.p env s1).bind fun y s2=>.of (o.p x y) s2
 fz:=true
 fr:=o.fr
 ok {q h L B O σ env s} c:=by
  refine (a.ok c).bind fun x v h1 s1 k1 p1 ⟨w1,_,_⟩=>?_;refine (b.ok (c.kb k1 p1)).bind fun y w h2 s2 k2 p2 ⟨w2,_,_⟩=>?_
  cases e:o.p x y with
  | none=>trivial
  | some d =>
   have c2:=(c.kb k1 p1).kb k2 p2;obtain⟨u,g,e1,r,f⟩:=o.ok c2.bd (w1.kb k2 c.pO c.pL) w2 e;exact give (qaE k1.len k2.len) p2 ⟨u,g,by rw[e1];rfl,r,f⟩
def xUn(o:Op1)(a:Xe ws):Xe ws where
 m:=mUn o.m a.m
 p:=fun env s=>(a.p env s).bind fun x s1=>.of (o.p x) s1
 fz:=true
 fr:=o.fr
 ok {q h L B O σ env s} c:=by
  refine (a.ok c).bind fun x v h1 s1 k1 p1 ⟨w1,_,_⟩=>?_
  cases e:o.p x with
  | none=>trivial
  | some d =>
   obtain⟨u,g,e1,r,f⟩:=o.ok (c.kb k1 p1).bd w1 e;exact give k1.len p1 ⟨u,g,by rw[e1];rfl,r,f⟩
def xNil:Xs ws where
 m:=mNil
 p:=fun _ s=>.ok [] s
 fz:=true
 ok {q h L B O σ env s} c:=⟨[],h,rfl,KB.refl _ _,c.pen,rfl,fun _=>rfl⟩
def aa(a:Xe ws)(r:Xs ws):Xs ws where
 m:=aj a.m r.m
 p:=fun env s=>(a.p env s).bind fun x s1=>(r.p env s1).bind fun y s2=>.ok (x::y) s2
 fz:=a.fz && r.fz
 ok {q h L B O σ env s} c:=by
  refine (a.ok c).bind fun x v h1 s1 k1 p1 ⟨w1,z1,_⟩=>?_;refine (r.ok (c.kb k1 p1)).bind fun y w h2 s2 k2 p2 ⟨w2,z2⟩=>?_;refine⟨v::w,h2,rfl,KB.refl _ _,p2,⟨v,w,rfl,w1.kb k2 c.pO c.pL,w2⟩,fun f=>?_⟩;rw[qbK] at f;exact⟨v,w,rfl,(z1 f.1).mv (k2.mv c.pO),z2 f.2⟩
def xCb(o:OpN)(a:Xs ws):Xe ws where
 m:=fun σ h=>(a.m σ h).bind o.k
 p:=fun env s=>(a.p env s).bind fun x s1=>.of (o.p x) s1
 fz:=true
 fr:=o.fr
 ok {q h L B O σ env s} c:=by
  refine (a.ok c).bind fun x v h1 s1 k1 p1 ⟨w1,_⟩=>?_
  cases e:o.p x with
  | none=>trivial
  | some d=>exact give k1.len p1 (o.ok (c.kb k1 p1).bd w1 e)
def aB(f:Fn)(a:Xs ws)(hz:a.fz=true:=by exact ys rfl):Xe ws where
 m:=b8 f.m a.m
 p:=fun env s=>(a.p env s).bind f.p
 fz:=true
 fr:=f.fr
 ok {q h L B O σ env s} c:=by
  refine (a.ok c).bind fun x v h1 s1 k1 p1 ⟨_,z⟩=>?_;have c1:=c.kb k1 p1;refine (f.ok c1.bd c1.pO p1 (z hz)).imp fun h' d v kb ⟨r,fr⟩=>⟨.inl r,fun _=>r,fun z=>(fr z).le k1.len⟩
def lend(d:D):Bool:=match d with
 | .lst ds=>flats ds
 | d=>flat d
def pE(f:Fn)(a:Xs ws)(hf:f.fr=true:=by exact ys rfl):Xe ws where
 m:=b8 f.m a.m
 p:=fun env s=>((a.p env s).bind f.p).bind fun d s=>if lend d=true then .ok d s else .bad
 fz:=true
 fr:=true
 ok {q h L B O σ env s} c:=by
  have key:Ok q h ((a.m σ h).bind f.m) ((a.p env s).bind f.p) (fun h' d v=>Rp q h' B d v/\Frs q h.length B h' d v):=by
   refine (a.ok c).bind fun x v h1 s1 k1 p1 ⟨w,_⟩=>?_;have c1:=c.kb k1 p1;refine (f.ok (fun o ho=>qaB (c1.bb o ho) c1.hL) c1.pb p1 (w.base c1.sub c1.bb)).imp fun h' d v kb ⟨r,fr⟩=>⟨r,(fr hf).le k1.len⟩
  show Ok q h ((a.m σ h).bind f.m) _ _
  cases e:(a.p env s).bind f.p with
  | bad=>trivial
  | exc x s1=>rw[e] at key;exact key
  | ok d s1 =>
   rw[e] at key;obtain⟨v,h',e1,kb,pn,r,fr⟩:=key;rw[Pb];by_cases z:lend d=true
   ·rw[qag z];have f2:Frs q h.length O h' d v:=fun ds ed=>by
     obtain⟨n,xs,a1,a2,a3,a4⟩:=fr ds ed;subst ed;exact⟨n,xs,a1,a2,a3,Rps.flat z a4⟩
    have r2:Rp q h' O d v:=by
     cases d with
     | lst ds=>exact f2.rp c.bd rfl
     | non=>exact r
     | bl b=>exact r
     | int i=>exact r
     | str i=>exact r
     | tup i=>exact Rp.flat z r
     | dic=>cases z
     | exc _=>cases z
     | pen=>cases z
    exact⟨v,h',e1,kb,pn,.inl r2,fun _=>r2,fun _=>f2⟩
   ·rw[qao z];trivial
def fh:100000<=sizeLine:=by decide
def kL(bd:Bd h O)(r:Rps q h O ds xs)(hl:ds.length<=100000):Gv q h O true (newL xs h) (.lst ds):=by
 have hx:=r.length;have m:Mv O h O (h++[MO.lst xs]):=⟨fun n hn _=>qan hn,fun o ho=>.inl ho⟩
 have m2:Mv O h (h.length::O) (h++[MO.lst xs]):=⟨fun n hn _=>qan hn,fun o ho=>by
  rcases qaj.mp ho with z|z
  ·exact .inr (by lia)
  ·exact .inl z⟩
 have g:(h++[MO.lst xs])[h.length]?=some (.lst xs):=by simp
 refine⟨.loc h.length,[.lst xs],?_,⟨_,_,rfl,fun z=>by have:=bd _ z;lia,g,r.mv m⟩,fun _ ds' e=>?_⟩
 ·unfold newL;have:=fh;lia
 ·cases e;exact⟨_,_,rfl,qah _,g,r.mv m2⟩
def tK(r:Rps q h O ds xs)(hl:ds.length<=100000):Gv q h O true (newT xs h) (.tup ds):=by
 have hx:=r.length;refine⟨.tup xs,[],?_,?_,fun _ ds' e=>by cases e⟩
 ·unfold newT;rw[qag (by have:=fh;lia)];simp
 ·simpa using ⟨xs,rfl,r⟩
def br(a:Xs ws)(hz:a.fz=true:=by exact ys rfl):Xe ws where
 m:=fo a.m
 p:=fun env s=>(a.p env s).bind fun x s1=>if x.length<=100000 then .ok (.lst x) s1 else .bad
 fz:=true
 fr:=true
 ok {q h L B O σ env s} c:=by
  refine (a.ok c).bind fun x v h1 s1 k1 p1 ⟨_,z⟩=>?_;by_cases hl:x.length<=100000
  ·rw[qag hl];exact give k1.len p1 (kL (c.kb k1 p1).bd (z hz) hl)
  ·rw[qao hl];trivial
def aM(a:Xs ws)(hz:a.fz=true:=by exact ys rfl):Xe ws where
 m:=ir a.m
 p:=fun env s=>(a.p env s).bind fun x s1=>if x.length<=100000 then .ok (.tup x) s1 else .bad
 fz:=true
 fr:=true
 ok {q h L B O σ env s} c:=by
  refine (a.ok c).bind fun x v h1 s1 k1 p1 ⟨_,z⟩=>?_;by_cases hl:x.length<=100000
  ·rw[qag hl];exact give k1.len p1 (tK (z hz) hl)
  ·rw[qao hl];trivial
def xDic:Xe ws where
 m:=mDic
 p:=fun _ s=>.ok .dic s
 fz:=true
 fr:=true
 ok {q h L B O σ env s} c:=by
  have r:Rp q (h++[MO.dic []]) O .dic (.loc h.length):=⟨_,rfl,fun z=>by have:=c.bd _ z;lia,by simp⟩;exact⟨.loc h.length,h++[.dic []],rfl,KB.app _ _ _,c.pen.app,.inl r,fun _=>r,fun _ ds e=>by cases e⟩
def Vw.bl(w:Vw q h L O (.bl b) v):v=.bl b:=by
 rcases w with r|⟨n,xs,ds,e,_⟩
 ·exact r
 ·cases e
def PR.bl(r:PR D):PR Bool:=r.bind fun d s=>match d with
 | .bl b=>.ok b s
 | _=>.bad
@[simp] theorem Pl:(PR.ok (D.bl b) s).bl=.ok b s:=rfl
def xB(a:Xe ws):Xt ws where
 m:=mB a.m
 p:=fun env s=>(a.p env s).bl
 ok {q h L B O σ env s} c:=by
  refine (a.ok c).bind fun x v h1 s1 k1 p1 ⟨w,_,_⟩=>?_
  cases x with
  | bl b=>rw[w.bl];exact⟨b,h1,rfl,KB.refl _ _,p1,rfl⟩
  | _=>trivial
def dJ(a:Xt ws):Xt ws where
 m:=rq a.m
 p:=fun env s=>(a.p env s).bind fun b s=>.ok (!b) s
 ok {q h L B O σ env s} c:=(a.ok c).bind fun x v h1 s1 k1 p1 e=>⟨!v,h1,rfl,KB.refl _ _,p1,by rw[e]⟩
def rE(a b:Xt ws):Xt ws where
 m:=mAnd a.m b.m
 p:=fun env s=>(a.p env s).bind fun x s=>if x=true then b.p env s else .ok false s
 ok {q h L B O σ env s} c:=(a.ok c).bind fun x v h1 s1 k1 p1 e=>by
  subst e
  cases x with
  | true=>simpa using b.ok (c.kb k1 p1)
  | false=>exact⟨false,h1,rfl,KB.refl _ _,p1,rfl⟩
def xOr(a b:Xt ws):Xt ws where
 m:=mOr a.m b.m
 p:=fun env s=>(a.p env s).bind fun x s=>if x=true then .ok true s else b.p env s
 ok {q h L B O σ env s} c:=(a.ok c).bind fun x v h1 s1 k1 p1 e=>by
  subst e
  cases x with
  | false=>simpa using b.ok (c.kb k1 p1)
  | true=>exact⟨true,h1,rfl,KB.refl _ _,p1,rfl⟩
def xTrue:Xt ws where
 m:=mTrue
 p:=fun _ s=>.ok true s
 ok {q h L B O σ env s} c:=⟨true,h,rfl,KB.refl _ _,c.pen,rfl⟩
def Ok.after{α β:Type}{p:Nat}{h h1:MH}{o:Out β}{r:PR α}{R:MH->α->β->Prop}(k:KB p h h1)(q:Ok p h1 o r R):Ok p h o r R:=by
 cases r with
 | bad=>trivial
 | exc c2 s2=>obtain⟨h2,a1,a2,a3⟩:=q;exact⟨h2,a1,k.trans a2,a3⟩
 | ok d2 s2=>obtain⟨v2,h2,a1,a2,a3,a4⟩:=q;exact⟨v2,h2,a1,k.trans a2,a3,a4⟩
def giveB(pn:cp h q s):Ok q h (.ok (.bl b) h) (.ok (.bl b) s) (fun h' d v=>Vw q h' L O d v/\(true=true->Rp q h' O d v)/\(true=true->Frs q l O h' d v)) :=
 ⟨.bl b,h,rfl,KB.refl _ _,pn,.inl rfl,fun _=>rfl,fun _ ds e=>by cases e⟩
def blOnly(k:Ok q h o r (fun h' d v=>Vw q h' L O d v/\(fz=true->Rp q h' O d v)/\(fr=true->Frs q l' O h' d v))) :
  Ok q h o (r.bl.bind fun b s=>.ok (.bl b) s) (fun h' d v=>Vw q h' L O d v/\(true=true->Rp q h' O d v)/\(true=true->Frs q l O h' d v)):=by
 cases r with
 | bad=>trivial
 | exc c s=>exact k
 | ok d s =>
  obtain⟨v,h',e,kb,pn,w,_,_⟩:=k
  cases d with
  | bl b=>exact⟨v,h',e,kb,pn,w,fun _=>by rw[w.bl];rfl,fun _ ds e=>by cases e⟩
  | _=>trivial
def cP(a b:Xe ws):Xe ws where
 m:=mN a.m b.m
 p:=fun env s=>(a.p env s).bl.bind fun x s=>if x=true then (b.p env s).bl.bind fun y s=>.ok (.bl y) s else .ok (.bl false) s
 fz:=true
 fr:=true
 ok {q h L B O σ env s} c:=by
  have k:=a.ok c;show Ok q h ((a.m σ h).bind _) _ _
  cases e:a.p env s with
  | bad=>trivial
  | exc x s1 =>
   rw[e] at k;obtain⟨h1,e1,k1,p1⟩:=k;rw[e1];exact⟨h1,rfl,k1,p1⟩
  | ok d s1 =>
   rw[e] at k;obtain⟨v,h1,e1,k1,p1,w,_,_⟩:=k
   cases d with
   | bl x =>
    rw[w.bl] at e1;rw[e1]
    cases x with
    | true =>
     exact Ok.after k1 (blOnly (l:=h.length) (b.ok (c.kb k1 p1)))
    | false =>
     obtain⟨v2,h2,a1,a2,a3,a4⟩:=giveB (L:=L) (l:=h.length) (O:=O) (b:=false) p1;exact⟨v2,h2,a1,k1.trans a2,a3,a4⟩
   | _=>trivial
def pJ(a:Xe ws):Xe ws where
 m:=um a.m
 p:=fun env s=>(a.p env s).bl.bind fun x s=>.ok (.bl (!x)) s
 fz:=true
 fr:=true
 ok {q h L B O σ env s} c:=by
  have k:=a.ok c;show Ok q h ((a.m σ h).bind _) _ _
  cases e:a.p env s with
  | bad=>trivial
  | exc x s1 =>
   rw[e] at k;obtain⟨h1,e1,k1,p1⟩:=k;rw[e1];exact⟨h1,rfl,k1,p1⟩
  | ok d s1 =>
   rw[e] at k;obtain⟨v,h1,e1,k1,p1,w,_,_⟩:=k
   cases d with
   | bl x =>
    rw[w.bl] at e1;rw[e1];obtain⟨v2,h2,a1,a2,a3,a4⟩:=giveB (L:=L) (l:=h.length) (O:=O) (b:=!x) p1;exact⟨v2,h2,a1,k1.trans a2,a3,a4⟩
   | _=>trivial
def mR(f g:Op2)(a b e:Xe ws):Xe ws where
 m:=l0 f.m g.m a.m b.m e.m
 p:=fun env s=>(a.p env s).bind fun x s1=>(b.p env s1).bind fun y s2=>match f.p x y with
  | some (.bl t)=>if t=true then (e.p env s2).bind fun z s3=>.of (g.p y z) s3 else .ok (.bl false) s2
  | _=>.bad
 fz:=true
 fr:=false
 ok {q h L B O σ env s} c:=by
  refine (a.ok c).bind fun x v h1 s1 k1 p1 ⟨w1,_,_⟩=>?_;refine (b.ok (c.kb k1 p1)).bind fun y w h2 s2 k2 p2 ⟨w2,_,_⟩=>?_;have c2:=(c.kb k1 p1).kb k2 p2
  cases e1:f.p x y with
  | none=>trivial
  | some d =>
   cases d with
   | bl t =>
    obtain⟨u,gg,e2,r,_⟩:=f.ok c2.bd (w1.kb k2 c.pO c.pL) w2 e1;have hu:u=.bl t:=r;subst hu;rw[e2];have k3:=KB.app q h2 gg;have c3:=c2.kb k3 p2.app
    cases t with
    | true =>
     refine Ok.after k3 ?_;show Ok q (h2++gg) ((e.m σ (h2++gg)).bind _) _ _;refine (e.ok c3).bind fun z u h3 s3 k4 p4 ⟨w3,_,_⟩=>?_
     cases e4:g.p y z with
     | none=>trivial
     | some d =>
      obtain⟨u2,g2,e5,r2,_⟩:=g.ok (c3.kb k4 p4).bd ((w2.kb k3 c.pO c.pL).kb k4 c.pO c.pL) w3 e4;refine⟨u2,h3++g2,by rw[e5];rfl,KB.app _ _ _,p4.app,.inl r2,fun _=>r2,fun f=>by simp at f⟩
    | false=>exact⟨.bl false,h2++gg,rfl,k3,p2.app,.inl rfl,fun _=>rfl,fun f=>by simp at f⟩
   | _=>trivial
end
structure Xi (ws:List Nat) where
 m:Mx MIt
 p:av->Pen->PR (List D)
 fz:Bool
 ok:∀{q h L B O σ env s},Cx q h L B O ws σ env s->Ok q h (m σ h) (p env s) (fun h' ds it=>Rps q h' O ds it.xs/\(∀g∈it.gd,h'[g.1]?=some (.lst g.2)/\g.1≠q)/\(fz=true->∀g∈it.gd,g.1∉O))
inductive GI (q:Nat) (h:MH) (O:List Nat) (ds as:List D) (xs:List PV) (o:Out MIt):Prop
 | mk (it:MIt) (e:o=.ok it h) (r:Rps q h O ds it.xs) (g:∀g∈it.gd,h[g.1]?=some (.lst g.2)/\g.1≠q) (z:Rps q h O as xs->∀g∈it.gd,g.1∉O):GI q h O ds as xs o
structure OpI where
 k:List PV->MH->Out MIt
 p:List D->Option (List D)
 ok:∀{q h L O as xs ds},q<L->q∈O->Bd h O->Vws q h L O as xs->p as=some ds->GI q h O ds as xs (k xs h)
def D.items:D->Option (List D)
 | .lst ds=>some ds
 | .tup ds=>some ds
 | _=>none
@[simp] theorem items_lst:(D.lst ds).items=some ds:=rfl
@[simp] theorem items_tup:(D.tup ds).items=some ds:=rfl
noncomputable section
variable {ws:List Nat}
def bU(o:OpI)(a:Xs ws):Xi ws where
 m:=fun σ h=>(a.m σ h).bind o.k
 p:=fun env s=>(a.p env s).bind fun x s1=>.of (o.p x) s1
 fz:=a.fz
 ok {q h L B O σ env s} c:=by
  refine (a.ok c).bind fun x v h1 s1 k1 p1 ⟨w,z⟩=>?_
  cases e:o.p x with
  | none=>trivial
  | some ds =>
   obtain⟨it,e1,r,g1,g2⟩:=o.ok c.pL c.pO (c.kb k1 p1).bd w e;exact⟨it,h1,e1,KB.refl _ _,p1,r,g1,fun f=>g2 (z f)⟩
def Vw.seq(hq:q<L)(hO:q∈O)(w:Vw q h L O d v)(e:d.items=some ds):∃xs gd,itAny v h=.ok ⟨xs,gd⟩ h/\Rps q h O ds xs/\(∀g∈gd,h[g.1]?=some (.lst g.2)/\g.1≠q)/\(Rp q h O d v->∀g∈gd,g.1∉O):=by
 have one:∀n xs,h[n]?=some (MO.lst xs)->n≠q->(∀g∈[(n,xs)],h[g.1]?=some (MO.lst g.2)/\g.1≠q):=fun n xs g hn y hy=>by
  have:y=(n,xs):=by simpa using hy
  subst this;exact⟨g,hn⟩
 cases d with
 | lst es =>
  have:es=ds:=by simpa using e
  subst this;rcases w with ⟨n,xs,e1,no,g,r⟩|⟨n,xs,es',e0,e1,_,hn,g,r⟩
  ·subst e1;refine⟨xs,[(n,xs)],by simp only[itAny,g],r,one n xs g (fun z=>no (z▸hO)),fun _ y hy=>?_⟩
   have:y=(n,xs):=by simpa using hy
   subst this;exact no
  ·cases e0;subst e1;refine⟨xs,[(n,xs)],by simp only[itAny,g],r,one n xs g (by lia),fun ⟨n',xs',e1,no,_,_⟩ y hy=>?_⟩
   grind
 | tup es =>
  have:es=ds:=by simpa using e
  subst this;rcases w with ⟨xs,e1,r⟩|⟨n,xs,es',e0,_⟩
  ·subst e1;exact⟨xs,[],rfl,r,(fun _ hy=>nomatch hy),fun _ _ hy=>nomatch hy⟩
  ·cases e0
 | _=>simp[D.items] at e
def bD(a:Xe ws):Xi ws where
 m:=lC a.m
 p:=fun env s=>(a.p env s).bind fun x s1=>.of x.items s1
 fz:=a.fz
 ok {q h L B O σ env s} c:=by
  refine (a.ok c).bind fun x v h1 s1 k1 p1 ⟨w,z,_⟩=>?_
  cases e:x.items with
  | none=>trivial
  | some ds =>
   obtain⟨xs,gd,e1,r,g1,g2⟩:=w.seq c.pL c.pO e;exact⟨⟨xs,gd⟩,h1,e1,KB.refl _ _,p1,r,g1,fun f=>g2 (z f)⟩
structure Xg (ws:List Nat) where
 m:Mg
 p:D->av->Option av
 ok:∀{q h L O σ env d v env'},SR q h L O ws σ env->Rp q h O d v->p d env=some env'->∃σ',m v σ h=.nx σ' h/\SR q h L O ws σ' env'/\∀i∈ws,σ'[i]?=σ[i]?/\env'[i]?=env[i]?
structure Xgs (ws:List Nat) where
 m:Mgs
 p:List D->av->Option av
 ok:∀{q h L O σ env ds vs env'},SR q h L O ws σ env->Rps q h O ds vs->p ds env=some env'->∃σ',m vs σ h=.nx σ' h/\SR q h L O ws σ' env'/\∀i∈ws,σ'[i]?=σ[i]?/\env'[i]?=env[i]?
def SR.set(r:SR q h L O ws σ env)(hi:i∉ws)(w:Rp q h O d v):SR q h L O ws (σ.set i (some v)) (env.set i (some d))/\∀j∈ws,(σ.set i (some v))[j]?=σ[j]?/\(env.set i (some d))[j]?=env[j]?:=by
 have ne:∀j∈ws,i≠j:=fun j hj z=>hi (z▸hj);refine⟨⟨by simp[r.len],fun j e hj hw=>?_,fun j e hj hw=>?_⟩,fun j hj=>⟨qai (ne j hj),qai (ne j hj)⟩⟩
 ·by_cases z:i=j
  ·subst z;have hl:i<env.length:=by
    have:=(qad.mp hj).1;simpa using this
   rw[qaw hl] at hj;cases hj;exact⟨v,qaw (by rw[r.len];exact hl),w⟩
  ·rw[qai z] at hj;obtain⟨u,e1,q1⟩:=r.fz j e hj hw
   simp_all
 ·rw[qai (ne j hw)] at hj;obtain⟨n,xs,ds,e1,e2,rest⟩:=r.ow j e hj hw;exact⟨n,xs,ds,e1,by rw[qai (ne j hw)];exact e2,rest⟩
def xNm(i:Nat)(hi:ws.contains i=false:=by exact ys rfl):Xg ws where
 m:=gNm i
 p:=fun d env=>some (env.set i (some d))
 ok {q h L O σ env d v env'} r w e:=by
  cases e;have hi':i∉ws:=fun z=>by simp[z] at hi
  obtain⟨a,b⟩:=r.set hi' w;exact⟨_,rfl,a,b⟩
def xGl:Xgs ws where
 m:=gNl
 p:=fun ds env=>match ds with
  | []=>some env
  | _=>none
 ok {q h L O σ env ds vs env'} r w e:=by
  cases ds with
  | nil =>
   cases e
   have:vs=[]:=w
   subst this;exact⟨σ,rfl,r,fun _ _=>⟨rfl,rfl⟩⟩
  | cons _ _=>cases e
def xGc(a:Xg ws)(t:Xgs ws):Xgs ws where
 m:=gCn a.m t.m
 p:=fun ds env=>match ds with
  | d::ds=>(a.p d env).bind fun env1=>t.p ds env1
  | []=>none
 ok {q h L O σ env ds vs env'} r w e:=by
  cases ds with
  | nil=>cases e
  | cons d ds =>
   obtain⟨x,y,rfl,r1,r2⟩:=w;dsimp only at e
   cases e1:a.p d env with
   | none=>rw[e1] at e;cases e
   | some env1 =>
    rw[e1] at e;obtain⟨σ1,f1,s1,k1⟩:=a.ok r r1 e1;obtain⟨σ2,f2,s2,k2⟩:=t.ok s1 r2 e;exact⟨σ2,by show (a.m x σ h).then (t.m y)=_;rw[f1];exact f2,s2,fun i hi=>⟨(k2 i hi).1.trans (k1 i hi).1,(k2 i hi).2.trans (k1 i hi).2⟩⟩
def xGp(t:Xgs ws)(n:Nat):Xg ws where
 m:=gTp t.m n
 p:=fun d env=>match d with
  | .tup ds=>if ds.length=n then t.p ds env else none
  | _=>none
 ok {q h L O σ env d v env'} r w e:=by
  cases d with
  | tup ds =>
   obtain⟨xs,rfl,w⟩:=w;dsimp only at e;by_cases z:ds.length=n
   ·rw[qag z] at e;obtain⟨σ',a,b⟩:=t.ok r w e;exact⟨σ',by show (if xs.length=n then t.m xs σ h else .bad)=_;rw[qag (by rw[w.length];exact z)];exact a,b⟩
   ·rw[qao z] at e;cases e
  | _=>cases e
def cws(nv:Nat)(fm ws:List Nat):List Nat:=((List.range fm.length).filter fun j=>ws.contains (fm.getD j 0)).map (nv+·)
def cenv(nv:Nat)(fm:List Nat)(env:av):av:=List.replicate nv none++fm.map fun i=>(env[i]?).getD none
def PR.ne{α:Type}(r:PR α):PR α:=match r with
 | .exc _ _=>.bad
 | r=>r
@[simp] theorem PR.ne_ok(a:α)(s:Pen):(PR.ok a s).ne=.ok a s:=rfl
def ec(g:D->av->Option av)(t:av->Pen->PR Bool)(e:av->Pen->PR D):List D->av->Pen->PR (List D)
 | [],_,s=>.ok [] s
 | d::ds,env,s=>match g d env with
  | none=>.bad
  | some env1=>(t env1 s).bind fun b s1=>if b=true then (e env1 s1).bind fun x s2=>(ec g t e ds env1 s2).bind fun r s3=>.ok (x::r) s3 else ec g t e ds env1 s1
def cget{nv:Nat}{fm:List Nat}{α:Type}{env:List (Option α)}{i:Nat}{d:α}(e:(List.replicate nv none++fm.map fun i=>(env[i]?).getD none)[i]?=some (some d)):∃j k,i=nv+j/\fm[j]?=some k/\env[k]?=some (some d):=by
 by_cases z:i<nv
 ·rw[qan (by simpa using z)] at e;simp[z] at e
 ·rw[qaD (by simp;lia)] at e;simp only[qbv,qat] at e
  cases ek:fm[i - nv]? with
  | none=>rw[ek] at e;cases e
  | some k =>
   rw[ek] at e;simp only[qbB] at e;refine⟨i - nv,k,by lia,ek,?_⟩
   cases z2:env[k]? with
   | none=>rw[z2] at e;cases e
   | some o=>rw[z2] at e;simp at e;rw[e]
def cput{nv:Nat}{fm:List Nat}{α:Type}{σ:List (Option α)}{j k:Nat}{v:α}(e1:fm[j]?=some k)(e2:σ[k]?=some (some v)):(List.replicate nv none++fm.map fun i=>(σ[i]?).getD none)[nv+j]?=some (some v):=by
 rw[qaD (by simp)];simp[e1,e2]
def sS(e:fm[j]?=some k):nv+j∈cws nv fm ws↔k∈ws:=by
 have hj:=(qad.mp e).1;unfold cws
 simp_all
def SR.comp{q:Nat}{h:MH}{L:Nat}{O:List Nat}{σ:PSt}{env:av}(nv:Nat)(fm:List Nat)(r:SR q h L O ws σ env):SR q h L O (cws nv fm ws) (cSt nv fm σ) (cenv nv fm env):=by
 refine⟨by simp[cSt,cenv],fun i d e hi=>?_,fun i d e hi=>?_⟩
 ·obtain⟨j,k,rfl,e1,e2⟩:=cget e;obtain⟨v,e3,w⟩:=r.fz k d e2 fun z=>hi ((sS e1).mpr z);exact⟨v,cput e1 e3,w⟩
 ·obtain⟨j,k,rfl,e1,e2⟩:=cget e;obtain⟨n,xs,ds,e0,e3,w⟩:=r.ow k d e2 ((sS e1).mp hi);exact⟨n,xs,ds,e0,cput e1 e3,w⟩
def cGo_ok(gt:Xg ws')(t:Xt ws')(e:Xe ws')(hz:e.fz=true)(hq:q<h1.length)(gd:∀g∈it.gd,h1[g.1]?=some (.lst g.2)/\g.1≠q) :
  ∀(ds:List D) (xs:List PV) (env:av) (σ:PSt) (h:MH) (accD:List D) (acc:List PV) (s:Pen) (r:List D) (s':Pen),(∀i∈ws',∀d,env[i]?=some (some d)->∀n,σ[i]?=some (some (.loc n))->n<h1.length)->KB q h1 h->Cx q h L B (h1.length::O) ws' σ env s->Rps q h (h1.length::O) ds xs->h[h1.length]?=some (.lst acc)->Rps q h (h1.length::O) accD acc->accD.length+ds.length<=100000 ->
  ec gt.p t.p e.p ds env s=.ok r s'->∃h' zs,cGo it h1.length gt.m t.m e.m xs σ h=.ok () h'/\KB q h1 h'/\cp h' q s'/\h'[h1.length]?=some (.lst zs)/\Rps q h' (h1.length::O) (accD++r) zs:=by
 intro ds
 induction ds with
 | nil =>
  intro xs env σ h accD acc s r s' on kb c rx ga ra hl ep
  have:xs=[]:=rx
  subst this;cases ep;have ok:it.ok h:=fun g hg=>(kb.keep _ (bm (gd g hg).1) (gd g hg).2).trans (gd g hg).1;exact⟨h,acc,by rw[cGo,qag ok],kb,c.pen,ga,by simpa using ra⟩
 | cons d ds ih =>
  intro xs env σ h accD acc s r s' on kb c rx ga ra hl ep;obtain⟨x,xr,rfl,r1,r2⟩:=rx;have ok:it.ok h:=fun g hg=>(kb.keep _ (bm (gd g hg).1) (gd g hg).2).trans (gd g hg).1;rw[ec] at ep
  cases eg:gt.p d env with
  | none=>rw[eg] at ep;cases ep
  | some env1 =>
   rw[eg] at ep;dsimp only at ep;obtain⟨σ1,f1,sr1,k1⟩:=gt.ok c.sr r1 eg;have on1:∀i∈ws',∀d,env1[i]?=some (some d)->∀n,σ1[i]?=some (some (.loc n))->n<h1.length:=fun i hi d e n z=>on i hi d ((k1 i hi).2▸e) n ((k1 i hi).1▸z);have c1:Cx q h L B (h1.length::O) ws' σ1 env1 s:=⟨c.bd,c.sub,c.bb,c.pb,c.hL,c.pen,sr1⟩;have kt:=t.ok c1
   cases et:t.p env1 s with
   | bad=>rw[et] at ep;cases ep
   | exc _ _=>rw[et] at ep;cases ep
   | ok b s1 =>
    rw[et] at ep kt;obtain⟨b',h2,f2,k2,p2,eb⟩:=kt;subst eb;have c2:=c1.kb k2 p2;have mv2:Mv (h1.length::O) h (h1.length::O) h2:=k2.mv c.pO;have hn:h1.length<h.length:=bm ga;have ga2:h2[h1.length]?=some (.lst acc):=(k2.keep _ hn (by lia)).trans ga;rw[Pb] at ep
    cases b with
    | false =>
     rw[qao (by simp)] at ep;obtain⟨h',zs,a1,a2⟩:=ih xr env1 σ1 h2 accD acc s1 r s' on1 (kb.trans k2) c2 (r2.mv mv2) ga2 (ra.mv mv2) (by simp at hl;lia) ep;refine⟨h',zs,?_,a2⟩;rw[cGo,qag ok,f1];simp only[f2,Out.ne_ok,Out.bind_ok,qac,if_false];exact a1
    | true =>
     rw[qag rfl] at ep;have ke:=e.ok c2
     cases ee:e.p env1 s1 with
     | bad=>rw[ee] at ep;cases ep
     | exc _ _=>rw[ee] at ep;cases ep
     | ok y s2 =>
      rw[ee] at ep ke;obtain⟨v,h3,f3,k3,p3,_,rv,_⟩:=ke;have rv:=rv hz;have c3:=c2.kb k3 p3;have mv3:Mv (h1.length::O) h2 (h1.length::O) h3:=k3.mv c.pO;have ga3:h3[h1.length]?=some (.lst acc):=(k3.keep _ (bm ga2) (by lia)).trans ga2;have mv4:Mv (h1.length::O) h3 (h1.length::O) (h3.set h1.length (.lst (acc++[v]))) :=
       ⟨fun n hn no=>qai (fun z=>no (by simp[z])),fun o ho=>.inl ho⟩
      have ra3:Rps q h3 (h1.length::O) (accD++[y]) (acc++[v]):=((ra.mv mv2).mv mv3).app ⟨v,[],rfl,rv,rfl⟩;rw[Pb] at ep
      cases er:ec gt.p t.p e.p ds env1 s2 with
      | bad=>rw[er] at ep;cases ep
      | exc _ _=>rw[er] at ep;cases ep
      | ok r' s3 =>
       rw[er] at ep;cases ep;have k03:KB q h1 h3:=(kb.trans k2).trans k3;have c4:Cx q (h3.set h1.length (.lst (acc++[v]))) L B (h1.length::O) ws' σ1 env1 s2:=by
        refine⟨fun o ho=>by simpa using c3.bd o ho,c3.sub,c3.bb,c3.pb,by simpa using c3.hL,?_,?_⟩
        ·unfold cp;rw[qai (by lia)];exact p3
        ·refine⟨c3.sr.len,fun i d e hi=>let ⟨v,e1,q1⟩:=c3.sr.fz i d e hi;⟨v,e1,q1.mv mv4⟩,fun i d e hi=>?_⟩;obtain⟨n,ys,es,b1,b2,b3,b4,b5,b6⟩:=c3.sr.ow i d e hi;have z:=on1 i hi d e n b2;exact⟨n,ys,es,b1,b2,b3,b4,by rw[qai (by lia)];exact b5,b6.mv mv4⟩
       obtain⟨h',zs,a1,a2,a3,a4,a5⟩:=ih xr env1 σ1 (h3.set h1.length (.lst (acc++[v]))) (accD++[y]) (acc++[v]) s2 r' _ on1 ⟨by simpa using k03.len,fun n hn hp=>by rw[qai (by lia)];exact k03.keep n hn hp⟩ c4 (((r2.mv mv2).mv mv3).mv mv4) (qaw (bm ga3)) (ra3.mv mv4) (by simp at hl ⊢;lia) er;refine⟨h',zs,?_,a2,a3,a4,by simpa using a5⟩;rw[cGo,qag ok,f1];simp only[f2,Out.ne_ok,Out.bind_ok,if_true,f3,ga3];rw[qag (by have:=fh;have:=ra.length;simp at hl;lia)];exact a1
def bx(nv:Nat)(fm:List Nat)(i:Xi ws){ws':List Nat}(g:Xg ws')(t:Xt ws')(e:Xe ws')(hw:cws nv fm ws=ws':=by exact ys rfl)(hz:e.fz=true:=by exact ys rfl):Xe ws where
 m:=pG nv fm i.m g.m t.m e.m
 p:=fun env s=>(i.p env s).bind fun ds s1=>if ds.length<=100000 then (match ec g.p t.p e.p ds (cenv nv fm env) s1 with
  | .ok r s2=>.ok (.lst r) s2
  | _=>.bad) else .bad
 fz:=true
 fr:=true
 ok {q h L B O σ env s} c:=by
  subst hw;refine (i.ok c).bind fun ds it h1 s1 k1 p1 ⟨rx,gd,_⟩=>?_;have c1:=c.kb k1 p1;by_cases hl:ds.length<=100000
  ·rw[qag hl]
   cases er:ec g.p t.p e.p ds (cenv nv fm env) s1 with
   | bad=>trivial
   | exc _ _=>trivial
   | ok r s2 =>
    have mv:Mv O h1 (h1.length::O) (h1++[MO.lst []]):=⟨fun n hn _=>qan hn,fun o ho=>by
     rcases qaj.mp ho with z|z
     ·exact .inr (by lia)
     ·exact .inl z⟩
    have sr:=(c1.sr.comp nv fm).mv mv (fun o ho=>qaf _ ho) fun n hn _ _=>qan hn;have c2:Cx q (h1++[MO.lst []]) L B (h1.length::O) (cws nv fm ws) (cSt nv fm σ) (cenv nv fm env) s1:=by
     refine⟨fun o ho=>?_,fun o ho=>qaf _ (c.sub o ho),c.bb,c.pb,by have:=c1.hL;simp;lia,p1.app,sr⟩;rcases qaj.mp ho with z|z
     ·subst z;simp
     ·have:=c1.bd o z;simp;lia
    have hq:q<h1.length:=bm p1
    obtain⟨h',zs,a1,a2,a3,a4,a5⟩:=cGo_ok g t e hz (L:=L) (B:=B) (O:=O) hq gd ds it.xs (cenv nv fm env) (cSt nv fm σ) (h1++[MO.lst []]) [] [] s1 r s2 (fun i hi d ed n en=>by
     obtain⟨n',_,_,_,b2,_,_,b5,_⟩:=(c1.sr.comp nv fm).ow i d ed hi;rw[b2] at en;cases en
     exact bm b5) (KB.app _ _ _) c2 (rx.mv mv) (by simp) rfl (by simpa using hl) er
    have f:Frs q h.length O h' (.lst r) (.loc h1.length):=fun ds e=>by
     cases e;exact⟨_,zs,rfl,k1.len,a4,by simpa using a5⟩
    have rr:=f.rp c.bd rfl;exact⟨.loc h1.length,h',by show (cGo _ _ _ _ _ _ _ _).bind _=_;rw[a1];rfl,a2,a3,.inl rr,fun _=>rr,fun _=>f⟩
  ·rw[qao hl];trivial
end
end PU
namespace PU
open PySem MM
local instance (priority:=1) cdecN4 (p:Prop):Decidable p:=Classical.propDecidable p
inductive PS where
 | nx (e:av) (s:Pen)
 | rt (d:D) (s:Pen)
 | bk (e:av) (s:Pen)
 | ct (e:av) (s:Pen)
 | exc (c:Str) (e:av) (s:Pen)
 | rse (c:Str) (e:av) (s:Pen)
 | bad
structure Stp (q L:Nat) (h:MH) (O:List Nat) (h':MH) (O':List Nat):Prop where
 len:h.length<=h'.length
 mv:Mv O h O' h'
 sub:∀o∈O,o∈O'
 base:∀n:Nat,n<L->n≠q->h'[n]?=h[n]?
def Stp.refl(q L:Nat)(h:MH)(O:List Nat):Stp q L h O h O:=⟨qah _,⟨fun _ _ _=>rfl,fun _ h=>.inl h⟩,fun _ h=>h,fun _ _ _=>rfl⟩
def Stp.trans(a:Stp q L h O h1 O1)(b:Stp q L h1 O1 h2 O2):Stp q L h O h2 O2:=by
 refine⟨qaE a.len b.len,⟨fun n hn no=>?_,fun o ho=>?_⟩,fun o ho=>b.sub o (a.sub o ho),fun n hn hq=>(b.base n hn hq).trans (a.base n hn hq)⟩
 ·have n1:n∉O1:=fun z=>by
   rcases a.mv.new n z with q|q
   ·exact no q
   ·lia
  exact (b.mv.keep n (qaB hn a.len) n1).trans (a.mv.keep n hn no)
 ·rcases b.mv.new o ho with z|z
  ·exact a.mv.new o z
  ·exact .inr (qaE a.len z)
def Dis(ws:List Nat)(σ:PSt)(env:av):Prop:=∀i j,i∈ws->j∈ws->i≠j->∀d d' n,env[i]?=some (some d)->env[j]?=some (some d')->σ[i]?=some (some (.loc n))->σ[j]?≠some (some (.loc n))
inductive Nxt (q L:Nat) (h:MH) (B O ws:List Nat) (σ':PSt) (h':MH) (env:av) (s:Pen):Prop
 | mk (O':List Nat) (a:Stp q L h O h' O') (c:Cx q h' L B O' ws σ' env s) (d:Dis ws σ' env):Nxt q L h B O ws σ' h' env s
inductive SNx (q L:Nat) (h:MH) (B O ws:List Nat) (f:PSt->MH->SOut) (o:SOut) (env:av) (s:Pen):Prop
 | mk (σ':PSt) (h':MH) (e:o=f σ' h') (n:Nxt q L h B O ws σ' h' env s):SNx q L h B O ws f o env s
inductive SRt (q L:Nat) (h:MH) (B:List Nat) (fr:Bool) (o:SOut) (d:D) (s:Pen):Prop
 | mk (v:PV) (h':MH) (e:o=.rt v h') (l:h.length<=h'.length) (b:∀n:Nat,n<L->n≠q->h'[n]?=h[n]?) (p:cp h' q s) (r:Rp q h' B d v) (f:fr=true->Frs q L B h' d v):SRt q L h B fr o d s
def SOk(q L:Nat)(h:MH)(B O ws:List Nat)(fr:Bool)(o:SOut)(r:PS):Prop:=match r with
 | .nx env s=>SNx q L h B O ws .nx o env s
 | .bk env s=>SNx q L h B O ws .bk o env s
 | .ct env s=>SNx q L h B O ws .ct o env s
 | .exc c env s=>SNx q L h B O ws (.exc ⟨c,[]⟩) o env s
 | .rse c env s=>SNx q L h B O ws (.rse ⟨c,[]⟩) o env s
 | .rt d s=>SRt q L h B fr o d s
 | .bad=>True
structure Xd (ws:List Nat) where
 m:Mst
 p:av->Pen->PS
 fr:Bool
 ok:∀{q h L B O σ env s},Cx q h L B O ws σ env s->Dis ws σ env->SOk q L h B O ws fr (m σ h) (p env s)
def Nxt.after(a:Stp q L h O h1 O1)(n:Nxt q L h1 B O1 ws σ' h' env s):Nxt q L h B O ws σ' h' env s :=
 let ⟨O',b,c,d⟩:=n;⟨O',a.trans b,c,d⟩
def SOk.after(a:Stp q L h O h1 O1)(k:SOk q L h1 B O1 ws fr o r):SOk q L h B O ws fr o r:=by
 cases r with
 | nx env s=>obtain⟨σ',h',e,n⟩:=k;exact⟨σ',h',e,n.after a⟩
 | bk env s=>obtain⟨σ',h',e,n⟩:=k;exact⟨σ',h',e,n.after a⟩
 | ct env s=>obtain⟨σ',h',e,n⟩:=k;exact⟨σ',h',e,n.after a⟩
 | exc c env s=>obtain⟨σ',h',e,n⟩:=k;exact⟨σ',h',e,n.after a⟩
 | rse c env s=>obtain⟨σ',h',e,n⟩:=k;exact⟨σ',h',e,n.after a⟩
 | rt d s=>obtain⟨v,h',e,l,b,r1,r2,r3⟩:=k;exact⟨v,h',e,qaE a.len l,fun n hn hq=>(b n hn hq).trans (a.base n hn hq),r1,r2,r3⟩
 | bad=>trivial
def SOk.fr(hf:f'=true->f=true)(k:SOk q L h B O ws f o r):SOk q L h B O ws f' o r:=by
 cases r with
 | rt d s=>obtain⟨v,h',e,l,b,p,r,z⟩:=k;exact⟨v,h',e,l,b,p,r,fun y=>z (hf y)⟩
 | nx env s=>exact k
 | bk env s=>exact k
 | ct env s=>exact k
 | exc c env s=>exact k
 | rse c env s=>exact k
 | bad=>trivial
def KB.stp(c:Cx q h L B O ws σ env s)(k:KB q h h'):Stp q L h O h' O :=
 ⟨k.len,k.mv c.pO,fun _ h=>h,fun n hn hq=>k.keep n (qaB hn c.hL) hq⟩
def PR.go{α:Type}(r:PR α)(env:av)(k:α->av->Pen->PS):PS:=match r with
 | .ok a s=>k a env s
 | .exc c s=>.exc c env s
 | .bad=>.bad
@[simp] theorem Pg(a:α)(s:Pen)(env:av)(k:α->av->Pen->PS):(PR.ok a s).go env k=k a env s:=rfl
@[simp] theorem PR.go_exc(c:Str)(s:Pen)(env:av)(k:α->av->Pen->PS):(PR.exc c s:PR α).go env k=.exc c env s:=rfl
@[simp] theorem PR.go_bad(env:av)(k:α->av->Pen->PS):(PR.bad:PR α).go env k=.bad:=rfl
theorem SOk.ex{α β:Type}{q L:Nat}{h:MH}{B O ws:List Nat}{fr:Bool}{σ:PSt}{env:av}{s:Pen}{o:Out β}{r:PR α}{R:MH->α->β->Prop}{f:β->Mst}{g:α->av->Pen->PS}(c:Cx q h L B O ws σ env s)(d:Dis ws σ env)(k:Ok q h o r R)
  (n:∀a b h1 s1,KB q h h1->Cx q h1 L B O ws σ env s1->R h1 a b->SOk q L h1 B O ws fr (f b σ h1) (g a env s1)) :
  SOk q L h B O ws fr (o.go σ f) (r.go env g):=by
 cases r with
 | ok a s1 =>
  obtain⟨b,h1,rfl,kb,pn,rr⟩:=k;exact (n a b h1 s1 kb (c.kb kb pn) rr).after (kb.stp c)
 | exc x s1 =>
  obtain⟨h1,rfl,kb,pn⟩:=k;exact⟨σ,h1,rfl,O,kb.stp c,c.kb kb pn,d⟩
 | bad=>trivial
noncomputable section
variable {ws:List Nat}
def PS.then(r:PS)(k:av->Pen->PS):PS:=match r with
 | .nx env s=>k env s
 | r=>r
@[simp] theorem au:(PS.nx env s).then k=k env s:=rfl
@[simp] theorem cf:(PS.rt d s).then k=.rt d s:=rfl
@[simp] theorem then_bk:(PS.bk env s).then k=.bk env s:=rfl
@[simp] theorem then_ct:(PS.ct env s).then k=.ct env s:=rfl
@[simp] theorem yI:(PS.exc c env s).then k=.exc c env s:=rfl
@[simp] theorem xO:(PS.rse c env s).then k=.rse c env s:=rfl
@[simp] theorem yP:PS.bad.then k=.bad:=rfl
def aK(a b:Xd ws):Xd ws where
 m:=bq a.m b.m
 p:=fun env s=>(a.p env s).then b.p
 fr:=a.fr && b.fr
 ok {q h L B O σ env s} c d:=by
  have k:=a.ok c d;show SOk q L h B O ws _ ((a.m σ h).then b.m) _
  cases e:a.p env s with
  | nx env1 s1 =>
   rw[e] at k;obtain⟨σ1,h1,e1,O1,st,c1,d1⟩:=k;rw[e1];exact ((b.ok c1 d1).fr (by simp)).after st
  | rt x s1=>rw[e] at k;obtain⟨v,h',e1,r1,r2,r3,r4,r5⟩:=k;rw[e1];exact SOk.fr (f:=a.fr) (by simp;exact fun h _=>h) (show SOk q L h B O ws a.fr (.rt v h') (.rt x s1) from⟨v,h',rfl,r1,r2,r3,r4,r5⟩)
  | bk env1 s1=>rw[e] at k;obtain⟨σ',h',e1,r⟩:=k;rw[e1];exact⟨σ',h',rfl,r⟩
  | ct env1 s1=>rw[e] at k;obtain⟨σ',h',e1,r⟩:=k;rw[e1];exact⟨σ',h',rfl,r⟩
  | exc x env1 s1=>rw[e] at k;obtain⟨σ',h',e1,r⟩:=k;rw[e1];exact⟨σ',h',rfl,r⟩
  | rse x env1 s1=>rw[e] at k;obtain⟨σ',h',e1,r⟩:=k;rw[e1];exact⟨σ',h',rfl,r⟩
  | bad=>trivial
def xSkip:Xd ws where
 m:=mSkip
 p:=.nx
 fr:=true
 ok {q h L B O σ env s} c d:=⟨σ,h,rfl,O,Stp.refl _ _ _ _,c,d⟩
def ret_go{m:Mx PV}{σ:PSt}{h:MH}:b7 m σ h=(m σ h).go σ fun v _ h'=>.rt v h':=by unfold b7;cases m σ h <;> rfl
def aT(e:Xe ws):Xd ws where
 m:=b7 e.m
 p:=fun env s=>(e.p env s).go env fun d _ s=>.rt d s
 fr:=e.fr
 ok {q h L B O σ env s} c d:=by
  rw[ret_go];refine SOk.ex (f:=fun v _ h'=>.rt v h') (g:=fun d _ s=>.rt d s) c d (e.ok c) fun x v h1 s1 kb c1 ⟨w,z,f⟩=>?_;refine⟨v,h1,rfl,qah _,fun _ _ _=>rfl,c1.pen,w.base c1.sub c1.bb,fun y=>?_⟩;intro ds ed;obtain⟨n,xs,a1,a2,a3,a4⟩:=f y ds ed
  have:=c.hL
  exact⟨n,xs,a1,by lia,a3,a4.mv ⟨fun _ _ _=>rfl,fun o ho=>.inl (by
   rcases qaj.mp ho with z|z
   ·subst z;simp
   ·exact qaf _ (c.sub o z))⟩⟩
def kF(i:Nat)(hi:ws.contains i=true:=by exact ys rfl):Xd ws where
 m:=b7 (aq i)
 p:=fun env s=>match env[i]? with
  | some (some d)=>.rt d s
  | _=>.bad
 fr:=true
 ok {q h L B O σ env s} c d:=by
  show SOk q L h B O ws _ _ (match env[i]? with | some (some d)=>PS.rt d s | _=>.bad)
  cases e:env[i]? with
  | none=>trivial
  | some o =>
   cases o with
   | none=>trivial
   | some x =>
    obtain⟨n,xs,ds,e1,e2,a,b,g,r⟩:=c.sr.ow i x e (by simpa using hi);subst e1
    have m1:Mv O h (n::B) h:=⟨fun _ _ _=>rfl,fun o ho=>.inl (by
     rcases qaj.mp ho with z|z
     ·subst z;exact a
     ·exact c.sub o z)⟩
    have f:Frs q L B h (.lst ds) (.loc n):=fun ds' e=>by cases e;exact⟨n,xs,rfl,b,g,r.mv m1⟩
    refine⟨.loc n,h,by simp[b7,aq,e2],qah _,fun _ _ _=>rfl,c.pen,f.rp c.bb rfl,fun _=>f⟩
def xIf(t:Xt ws)(a b:Xd ws):Xd ws where
 m:=mIf t.m a.m b.m
 p:=fun env s=>(t.p env s).go env fun x env s=>if x=true then a.p env s else b.p env s
 fr:=a.fr && b.fr
 ok {q h L B O σ env s} c d:=SOk.ex (f:=fun x=>if x=true then a.m else b.m) (g:=fun x env s=>if x=true then a.p env s else b.p env s) c d (t.ok c) fun x v h1 s1 kb c1 e=>by
  subst e
  cases x with
  | true=>exact (a.ok c1 d).fr (by simp;exact fun h _=>h)
  | false=>exact (b.ok c1 d).fr (by simp)
def Dis.keep(d:Dis ws σ env)(k:∀i∈ws,σ'[i]?=σ[i]?/\env'[i]?=env[i]?):Dis ws σ' env':=fun i j hi hj ne x y n a b e=>by
 rw[(k i hi).1] at e;rw[(k i hi).2] at a;rw[(k j hj).2] at b;rw[(k j hj).1];exact d i j hi hj ne x y n a b e
def bO(i:Nat)(e:Xe ws)(hi:ws.contains i=false:=by exact ys rfl)(hz:e.fz=true:=by exact ys rfl):Xd ws where
 m:=bG i e.m
 p:=fun env s=>(e.p env s).go env fun d env s=>.nx (env.set i (some d)) s
 fr:=true
 ok {q h L B O σ env s} c d:=by
  refine SOk.ex (f:=fun v σ h=>.nx (σ.set i (some v)) h) (g:=fun d env s=>.nx (env.set i (some d)) s) c d (e.ok c) fun x v h1 s1 kb c1 ⟨_,z,_⟩=>?_;obtain⟨a,b⟩:=c1.sr.set (i:=i) (fun z=>by simp[z] at hi) (z hz);exact⟨_,h1,rfl,O,Stp.refl _ _ _ _,⟨c1.bd,c1.sub,c1.bb,c1.pb,c1.hL,c1.pen,a⟩,d.keep b⟩
def fH(i:Nat)(e:Xe ws)(hi:ws.contains i=true:=by exact ys rfl)(hz:e.fr=true:=by exact ys rfl):Xd ws where
 m:=bG i e.m
 p:=fun env s=>(e.p env s).go env fun d env s=>match d with
  | .lst ds=>.nx (env.set i (some (.lst ds))) s
  | _=>.bad
 fr:=true
 ok {q h L B O σ env s} c d:=by
  show SOk q L h B O ws _ _ _;have k:=e.ok c;show SOk q L h B O ws _ ((e.m σ h).go σ fun v σ h=>.nx (σ.set i (some v)) h) _
  cases ee:e.p env s with
  | bad=>trivial
  | exc x s1 =>
   rw[ee] at k;obtain⟨h1,e1,kb,pn⟩:=k;rw[e1];exact⟨σ,h1,rfl,O,kb.stp c,c.kb kb pn,d⟩
  | ok x s1 =>
   rw[ee] at k;obtain⟨v,h1,e1,kb,pn,_,_,f⟩:=k;rw[e1]
   cases x with
   | lst ds =>
    obtain⟨n,xs,rfl,hn,g,r⟩:=f hz ds rfl;have c1:=c.kb kb pn;have hi':i∈ws:=by simpa using hi
    have mv:Mv O h (n::O) h1:=⟨fun m hm no=>kb.keep m hm fun z=>no (z▸c.pO),fun o ho=>by
     rcases qaj.mp ho with z|z
     ·exact .inr (by lia)
     ·exact .inl z⟩
    have hnO:n∉O:=fun z=>by have:=c.bd n z;lia
    refine⟨σ.set i (some (.loc n)),h1,rfl,n::O,⟨kb.len,mv,fun o ho=>qaf _ ho,fun m hm hq=>kb.keep m (qaB hm c.hL) hq⟩,⟨fun o ho=>?_,fun o ho=>qaf _ (c.sub o ho),c.bb,c.pb,c1.hL,pn,?_⟩,?_⟩
    ·rcases qaj.mp ho with z|z
     ·subst z;exact bm g
     ·exact c1.bd o z
    ·have sr:=c.sr.mv mv (fun o ho=>qaf _ ho) fun m hm hl _=>kb.keep m hm (by have:=c.pL;lia);refine⟨by simp[sr.len],fun j x ej hj=>?_,fun j x ej hj=>?_⟩
     ·have ne:i≠j:=fun z=>hj (z▸hi');rw[qai ne] at ej;rw[qai ne];exact sr.fz j x ej hj
     ·by_cases z:i=j
      ·subst z;have hl:i<env.length:=by have:=(qad.mp ej).1;simpa using this
       rw[qaw hl] at ej;cases ej;exact⟨n,xs,ds,rfl,qaw (by rw[sr.len];exact hl),by simp,by have:=c.hL;lia,g,r⟩
      ·rw[qai z] at ej;rw[qai z];exact sr.ow j x ej hj
    ·have old:∀j d,j∈ws->i≠j->(env.set i (some (.lst ds)))[j]?=some (some d)->(σ.set i (some (.loc n)))[j]?≠some (some (.loc n)):=fun j d hj ne ej z=>by
      rw[qai ne] at ej z;obtain⟨n',_,_,_,b2,b3,_⟩:=c.sr.ow j d ej hj;rw[z] at b2;cases b2;exact hnO b3
     intro a b ha hb ne x y m ea eb es;by_cases z1:i=a
     ·subst z1;have hl:i<σ.length:=by have:=(qad.mp es).1;simpa using this
      rw[qaw hl] at es;cases es;exact old b y hb ne eb
     ·by_cases z2:i=b
      ·subst z2;intro z;have hl:i<σ.length:=by have:=(qad.mp z).1;simpa using this
       rw[qaw hl] at z;cases z;exact old a x ha z1 ea es
      ·rw[qai z1] at ea es;rw[qai z2] at eb ⊢;exact d a b ha hb ne x y m ea eb es
   | _=>trivial
def xAsg(e:Xe ws)(g:Xg ws)(hz:e.fz=true:=by exact ys rfl):Xd ws where
 m:=e9 e.m g.m
 p:=fun env s=>(e.p env s).go env fun d env s=>match g.p d env with
  | some env1=>.nx env1 s
  | none=>.bad
 fr:=true
 ok {q h L B O σ env s} c d:=by
  refine SOk.ex (f:=fun v σ h=>match g.m v σ h with | .nx σ2 h2=>.nx σ2 h2 | .exc x σ2 h2=>.exc x σ2 h2 | _=>.bad) (g:=fun d env s=>match g.p d env with | some env1=>.nx env1 s | none=>.bad) c d (e.ok c) fun x v h1 s1 kb c1 ⟨_,z,_⟩=>?_
  cases eg:g.p x env with
  | none=>trivial
  | some env1 =>
   obtain⟨σ1,f1,sr,k⟩:=g.ok c1.sr (z hz) eg;rw[f1];exact⟨σ1,h1,rfl,O,Stp.refl _ _ _ _,⟨c1.bd,c1.sub,c1.bb,c1.pb,c1.hL,c1.pen,sr⟩,d.keep k⟩
end
end PU
namespace PU
open PySem MM
open L2 (ixN)
local instance (priority:=1) cdecN5 (p:Prop):Decidable p:=Classical.propDecidable p
noncomputable section
variable {ws:List Nat}
def PS.turn(r:PS)(k:av->Pen->PS):PS:=match r with
 | .nx e s=>k e s
 | .ct e s=>k e s
 | .bk e s=>.nx e s
 | r=>r
@[simp] theorem turn_nx:(PS.nx e s).turn k=k e s:=rfl
@[simp] theorem turn_ct:(PS.ct e s).turn k=k e s:=rfl
@[simp] theorem turn_bk:(PS.bk e s).turn k=.nx e s:=rfl
@[simp] theorem turn_rt:(PS.rt d s).turn k=.rt d s:=rfl
@[simp] theorem yk:(PS.exc c e s).turn k=.exc c e s:=rfl
@[simp] theorem yv:(PS.rse c e s).turn k=.rse c e s:=rfl
@[simp] theorem turn_bad:PS.bad.turn k=.bad:=rfl
def pGo(g:D->av->Option av)(b:av->Pen->PS):List D->av->Pen->PS
 | [],env,s=>.nx env s
 | d::ds,env,s=>match g d env with
  | none=>.bad
  | some env1=>(b env1 s).turn (pGo g b ds)
def mGo_ok(g:Xg ws)(b:Xd ws):∀(ds:List D) (xs:List PV) (env:av) (σ:PSt) (h:MH) (O:List Nat) (s:Pen),Cx q h L B O ws σ env s->Dis ws σ env->Rps q h O ds xs->(∀y∈it.gd,h[y.1]?=some (.lst y.2)/\y.1∉O) ->
  SOk q L h B O ws b.fr (mGo it g.m b.m xs σ h) (pGo g.p b.p ds env s):=by
 intro ds
 induction ds with
 | nil =>
  intro xs env σ h O s c d r gd
  have:=r
  subst this;have ok:it.ok h:=fun y hy=>(gd y hy).1;refine⟨σ,h,by rw[mGo];dsimp only;rw[qag ok],O,Stp.refl _ _ _ _,c,d⟩
 | cons x ds ih =>
  intro xs env σ h O s c d r gd;obtain⟨v,xr,rfl,r1,r2⟩:=r;have ok:it.ok h:=fun y hy=>(gd y hy).1;rw[pGo]
  cases eg:g.p x env with
  | none=>trivial
  | some env1 =>
   obtain⟨σ1,f1,sr,k⟩:=g.ok c.sr r1 eg;have c1:Cx q h L B O ws σ1 env1 s:=⟨c.bd,c.sub,c.bb,c.pb,c.hL,c.pen,sr⟩;have kb:=b.ok c1 (d.keep k)
   have em:mGo it g.m b.m (v::xr) σ h=(match b.m σ1 h with
    | .nx σ2 h2=>mGo it g.m b.m xr σ2 h2
    | .ct σ2 h2=>mGo it g.m b.m xr σ2 h2
    | .bk σ2 h2=>.nx σ2 h2
    | .rt v h2=>.rt v h2
    | .exc e σ2 h2=>.exc e σ2 h2
    | .rse e σ2 h2=>.rse e σ2 h2
    | .bad=>.bad):=by rw[mGo];dsimp only;(rw[qag ok,f1]) <;> rfl
   rw[em];have gd':∀{h2:MH} {O2:List Nat},Stp q L h O h2 O2->∀y∈it.gd,h2[y.1]?=some (.lst y.2)/\y.1∉O2:=fun st y hy=>by
    obtain⟨a,b⟩:=st.mv.get (gd y hy).1 (gd y hy).2;exact⟨b,a⟩
   dsimp only
   cases eb:b.p env1 s with
   | bad=>trivial
   | nx e2 s2 =>
    rw[eb] at kb;obtain⟨σ2,h2,e1,O2,st,c2,d2⟩:=kb;rw[e1];exact (ih xr e2 σ2 h2 O2 s2 c2 d2 (r2.mv st.mv) (gd' st)).after st
   | ct e2 s2 =>
    rw[eb] at kb;obtain⟨σ2,h2,e1,O2,st,c2,d2⟩:=kb;rw[e1];exact (ih xr e2 σ2 h2 O2 s2 c2 d2 (r2.mv st.mv) (gd' st)).after st
   | bk e2 s2=>rw[eb] at kb;obtain⟨σ2,h2,e1,r⟩:=kb;rw[e1];exact⟨σ2,h2,rfl,r⟩
   | exc x e2 s2=>rw[eb] at kb;obtain⟨σ2,h2,e1,r⟩:=kb;rw[e1];exact⟨σ2,h2,rfl,r⟩
   | rse x e2 s2=>rw[eb] at kb;obtain⟨σ2,h2,e1,r⟩:=kb;rw[e1];exact⟨σ2,h2,rfl,r⟩
   | rt x s2=>rw[eb] at kb;obtain⟨v,h2,e1,r1,r2,r3,r4,r5⟩:=kb;rw[e1];exact⟨v,h2,rfl,r1,r2,r3,r4,r5⟩
def cW(i:Xi ws)(g:Xg ws)(b:Xd ws)(hz:i.fz=true:=by exact ys rfl):Xd ws where
 m:=jq i.m g.m b.m
 p:=fun env s=>(i.p env s).go env fun ds env s=>pGo g.p b.p ds env s
 fr:=b.fr
 ok {q h L B O σ env s} c d:=SOk.ex (f:=fun it=>mGo it g.m b.m it.xs) (g:=fun ds env s=>pGo g.p b.p ds env s) c d (i.ok c) fun ds it h1 s1 kb c1 r =>
  mGo_ok g b ds it.xs env σ h1 O s1 c1 d r.1 fun y hy=>⟨(r.2.1 y hy).1,r.2.2 hz y hy⟩
structure OpM where
 m:Nat->List PV->MH->Out PV
 p:List D->List D->Option (D × List D)
 ok:∀{q:Nat} {h:MH} {O:List Nat} {n:Nat} {xs:List PV} {ds as:List D} {vs:List PV} {d:D} {ds':List D},h[n]?=some (.lst xs)->Rps q h O ds xs->Rps q h O as vs->p ds as=some (d,ds')->∃v xs',m n vs h=.ok v (h.set n (.lst xs'))/\Rps q h O ds' xs'/\Rp q h O d v
def tV{q h L B O σ env s n xs' ds' i ds}(c:Cx q h L B O ws σ env s)(d:Dis ws σ env)(hi:i∈ws)(e:env[i]?=some (some (D.lst ds)))(es:σ[i]?=some (some (.loc n)))(r:Rps q h O ds' xs') :
  Nxt q L h B O ws σ (h.set n (.lst xs')) (env.set i (some (.lst ds'))) s:=by
 obtain⟨n',xs,ds0,e0,e2,a,b,g,r0⟩:=c.sr.ow i _ e hi;rw[es] at e2;cases e2;have mv:Mv O h O (h.set n (.lst xs')):=⟨fun m hm no=>qai (fun (z:n=m)=>no (z▸a)),fun o ho=>.inl ho⟩;have hp:=c.pL;have il:=(qad.mp e).1;refine⟨O,⟨by simp,mv,fun _ h=>h,fun m hm _=>qai (by lia)⟩,⟨fun o ho=>by simpa using c.bd o ho,c.sub,c.bb,c.pb,by simpa using c.hL,?_,⟨by simp[c.sr.len],fun j x ej hj=>?_,fun j x ej hj=>?_⟩⟩,?_⟩
 ·unfold cp;rw[qai (by lia)];exact c.pen
 ·have ne:i≠j:=fun z=>hj (z▸hi);rw[qai ne] at ej;obtain⟨v,e1,w⟩:=c.sr.fz j x ej hj;exact⟨v,e1,w.mv mv⟩
 ·by_cases z:i=j
  ·subst z;rw[qaw il] at ej;cases ej;exact⟨n,xs',ds',rfl,es,a,b,qaw (bm g),r.mv mv⟩
  ·rw[qai z] at ej;obtain⟨m,ys,es',e1,e3,b3,b4,b5,b6⟩:=c.sr.ow j x ej hj
   have:n≠m:=fun y=>d i j hi hj z _ _ n e ej es (y▸e3)
   exact⟨m,ys,es',e1,e3,b3,b4,by rw[qai this];exact b5,b6.mv mv⟩
 ·intro j k hj hk ne x y m ej ek e1;have up:∀j x,(env.set i (some (D.lst ds')))[j]?=some (some x)->∃x',env[j]?=some (some x'):=fun j x ej=>by
   by_cases z:i=j
   ·subst z;exact⟨_,e⟩
   ·rw[qai z] at ej;exact⟨x,ej⟩
  obtain⟨x',ej'⟩:=up j x ej;obtain⟨y',ek'⟩:=up k y ek;exact d j k hj hk ne x' y' m ej' ek' e1
def mt_ok(o:OpM)(i:Nat)(a:Xs ws)(hi:i∈ws)(hz:a.fz=true){q h L B O σ env s}(c:Cx q h L B O ws σ env s)(d:Dis ws σ env)
  (ea:a.p env s=.ok as s1) (ei:env[i]?=some (some (.lst ds))) (eo:o.p ds as=some (r,ds')):∃v h1 n xs',KB q h h1/\Cx q h1 L B O ws σ env s1/\σ[i]?=some (some (.loc n))/\mMt o.m (aq i) a.m σ h=.ok v (h1.set n (.lst xs'))/\Rps q h1 O ds' xs'/\Rp q h1 O r v:=by
 obtain⟨n,xs,ds0,e0,e2,b1,b2,g,r0⟩:=c.sr.ow i _ ei hi;cases e0;have ka:=a.ok c;rw[ea] at ka;obtain⟨vs,h1,e3,kb,pn,_,rv⟩:=ka;have c1:=c.kb kb pn;have g1:=(kb.keep n (bm g) (by have:=c.pL;lia)).trans g;obtain⟨v,xs',e4,r1,r2⟩:=o.ok g1 (r0.mv (kb.mv c.pO)) (rv hz) eo;refine⟨v,h1,n,xs',kb,c1,e2,?_,r1,r2⟩;have em:aq i σ h=.ok (.loc n) h:=by simp[aq,e2]
 simp_all
def pMt(o:OpM)(i:Nat)(a:av->Pen->PR (List D))(env:av)(s:Pen)(k:D->av->Pen->PS):PS:=match a env s with
 | .ok as s1=>(match env[i]? with
  | some (some (.lst ds))=>(match o.p ds as with
   | some (r,ds')=>k r (env.set i (some (.lst ds'))) s1
   | none=>.bad)
  | _=>.bad)
 | _=>.bad
def v6(e1:a env s=.ok as s1)(e2:env[i]?=some (some (.lst ds)))(e3:o.p ds as=some (r,ds')):pMt o i a env s k=k r (env.set i (some (.lst ds'))) s1:=by
 simp only[pMt,e1,e2,e3]
def pMt_inv:pMt o i a env s k=.bad\/∃as s1 ds r ds',a env s=.ok as s1/\env[i]?=some (some (.lst ds))/\o.p ds as=some (r,ds')/\pMt o i a env s k=k r (env.set i (some (.lst ds'))) s1:=by
 cases e1:a env s with
 | bad=>left;simp only[pMt,e1]
 | exc _ _=>left;simp only[pMt,e1]
 | ok as s1 =>
  cases e2:env[i]? with
  | none=>left;simp only[pMt,e1,e2]
  | some x =>
   cases x with
   | none=>left;simp only[pMt,e1,e2]
   | some d =>
    cases d with
    | lst ds =>
     cases e3:o.p ds as with
     | none=>left;simp only[pMt,e1,e2,e3]
     | some y=>exact .inr ⟨as,s1,ds,y.1,y.2,rfl,rfl,e3,v6 e1 e2 e3⟩
    | _=>left;simp only[pMt,e1,e2]
def xMt(o:OpM)(i:Nat)(a:Xs ws)(hi:ws.contains i=true:=by exact ys rfl)(hz:a.fz=true:=by exact ys rfl):Xd ws where
 m:=pH (mMt o.m (aq i) a.m)
 p:=fun env s=>pMt o i a.p env s fun _=>.nx
 fr:=true
 ok {q h L B O σ env s} c d:=by
  rcases pMt_inv (o:=o) (i:=i) (a:=a.p) (env:=env) (s:=s) (k:=fun _=>.nx) with z|⟨as,s1,ds,r,ds',e1,e2,e3,z⟩
  ·rw[z];trivial
  ·rw[z];have hi':i∈ws:=by simpa using hi
   obtain⟨v,h1,n,xs',kb,c1,es,em,r1,r2⟩:=mt_ok o i a hi' hz c d e1 e2 e3;refine⟨σ,h1.set n (.lst xs'),?_,(tV c1 d hi' e2 es r1).after (kb.stp c)⟩;unfold pH mEx;rw[em];rfl
def cw(i:Nat)(e ix:av->Pen->PR D)(env:av)(s:Pen):PS:=match e env s with
 | .ok v s1=>(match ix env s1 with
  | .ok (.int j) s2=>(match env[i]? with
   | some (some (.lst ds))=>(match ixN ds.length j with
    | some n=>.nx (env.set i (some (.lst (ds.set n v)))) s2
    | none=>.bad)
   | _=>.bad)
  | _=>.bad)
 | _=>.bad
def nS(e1:e env s=.ok v s1)(e2:ix env s1=.ok (.int j) s2)(e3:env[i]?=some (some (.lst ds)))(e4:ixN ds.length j=some n):cw i e ix env s=.nx (env.set i (some (.lst (ds.set n v)))) s2:=by
 simp only[cw,e1,e2,e3,e4]
def xp:cw i e ix env s=.bad\/∃v s1 j s2 ds n,e env s=.ok v s1/\ix env s1=.ok (.int j) s2/\env[i]?=some (some (.lst ds))/\ixN ds.length j=some n/\cw i e ix env s=.nx (env.set i (some (.lst (ds.set n v)))) s2:=by
 cases e1:e env s with
 | bad=>left;simp only[cw,e1]
 | exc _ _=>left;simp only[cw,e1]
 | ok v s1 =>
  cases e2:ix env s1 with
  | bad=>left;simp only[cw,e1,e2]
  | exc _ _=>left;simp only[cw,e1,e2]
  | ok k s2 =>
   cases k with
   | int j =>
    cases e3:env[i]? with
    | none=>left;simp only[cw,e1,e2,e3]
    | some x =>
     cases x with
     | none=>left;simp only[cw,e1,e2,e3]
     | some d =>
      cases d with
      | lst ds =>
       cases e4:ixN ds.length j with
       | none=>left;simp only[cw,e1,e2,e3,e4]
       | some n=>exact .inr ⟨v,s1,j,s2,ds,n,rfl,e2,rfl,e4,nS e1 e2 e3 e4⟩
      | _=>left;simp only[cw,e1,e2,e3]
   | _=>left;simp only[cw,e1,e2]
def Vw.int(w:Vw q h L O (.int b) v):v=.int b:=by
 rcases w with r|⟨n,xs,ds,e,_⟩
 ·exact r
 ·cases e
def nV(i:Nat)(e ix:Xe ws)(hi:ws.contains i=true:=by exact ys rfl)(hz:e.fz=true:=by exact ys rfl):Xd ws where
 m:=e9 e.m (gSb (aq i) ix.m)
 p:=cw i e.p ix.p
 fr:=true
 ok {q h L B O σ env s} c d:=by
  rcases xp (i:=i) (e:=e.p) (ix:=ix.p) (env:=env) (s:=s) with z|⟨v,s1,j,s2,ds,n,e1,e2,e3,e4,z⟩
  ·rw[z];trivial
  ·rw[z];have hi':i∈ws:=by simpa using hi
   have ke:=e.ok c;rw[e1] at ke;obtain⟨x,h1,f1,kb1,pn1,_,rx,_⟩:=ke;have c1:=c.kb kb1 pn1;have ki:=ix.ok c1;rw[e2] at ki;obtain⟨y,h2,f2,kb2,pn2,w,_,_⟩:=ki;have c2:=c1.kb kb2 pn2;obtain⟨nl,xs,ds0,e0,es,b1,b2,g,r0⟩:=c2.sr.ow i _ e3 hi';cases e0;have hy:=w.int;subst hy;have em:aq i σ h1=.ok (.loc nl) h1:=by simp[aq,es]
   have nx:=tV c2 d hi' e3 es (xs':=xs.set n x) (ds':=ds.set n v) (r0.set n ((rx hz).mv (kb2.mv c.pO)));refine⟨σ,h2.set nl (.lst (xs.set n x)),?_,nx.after ((kb1.trans kb2).stp c)⟩;have e5:lu (.loc nl) (.int j) x h2=some (h2.set nl (.lst (xs.set n x))):=by
    simp only[lu,g];rw[r0.length,e4];rfl
   have e6:gSb (aq i) ix.m x σ h1=.nx σ (h2.set nl (.lst (xs.set n x))):=by
    simp only[gSb,mEx,em,f2,e5]
   unfold e9 mEx;rw[f1];dsimp only;rw[e6]
def PS.fin(r:PS):PR D:=match r with
 | .nx _ s=>.ok .non s
 | .rt d s=>.ok d s
 | .exc c _ s=>.exc c s
 | .rse c _ s=>.exc c s
 | _=>.bad
@[simp] theorem fin_nx:(PS.nx e s).fin=.ok .non s:=rfl
@[simp] theorem aO:(PS.rt d s).fin=.ok d s:=rfl
@[simp] theorem fin_exc:(PS.exc c e s).fin=.exc c s:=rfl
@[simp] theorem fin_rse:(PS.rse c e s).fin=.exc c s:=rfl
@[simp] theorem fin_bad:PS.bad.fin=.bad:=rfl
def dSt(n:Nat)(ds:List D):av:=ds.map some++List.replicate (n - ds.length) none
def bK(n np:Nat)(b:Xd ws)(hw:ws.all (fun i=>decide (np<=i))=true:=by exact ys rfl):Fn where
 m:=eD n np b.m
 p:=fun ds s=>if ds.length=np then (b.p (dSt n ds) s).fin else .bad
 fr:=b.fr
 ok {q h O vs ds s} bd hq pn r:=by
  by_cases hl:ds.length=np
  ·rw[qag hl];have hv:vs.length=np:=by rw[r.length];exact hl
   have low:∀i d,(dSt n ds)[i]?=some (some d)->i<np/\ds[i]?=some d:=fun i d e=>by
    by_cases z:i<ds.length
    ·refine⟨by lia,?_⟩;unfold dSt at e;rw[qan (by simpa using z)] at e;simp at e;simpa using e
    ·unfold dSt at e;rw[qaD (by simpa using z)] at e;by_cases y:i - (ds.map some).length<n - ds.length
     ·simp[qaV,y] at e
     ·simp at y e;exact absurd e (by simp[qaV])
   have nw:∀i d,(dSt n ds)[i]?=some (some d)->i∉ws:=fun i d e hi=>by
    have:=(low i d e).1
    rw[qaX] at hw
    have:=hw i hi
    simp at this;lia
   have c:Cx q h h.length O O ws (bX n vs) (dSt n ds) s:=by
    refine⟨bd,fun _ h=>h,bd,hq,qah _,pn,⟨by simp[bX,dSt,r.length],fun i d e _=>?_,fun i d e hi=>absurd hi (nw i d e)⟩⟩;obtain⟨v,ev,rv⟩:=r.get (low i d e).2;refine⟨v,?_,rv⟩;unfold bX;rw[qan (by simpa using (qad.mp ev).1)];simp[ev]
   have k:=b.ok c fun i j hi _ _ d _ _ e=>absurd hi (nw i d e)
   have em:eD n np b.m vs h=(match b.m (bX n vs) h with
    | .nx _ h'=>.ok .non h'
    | .rt v h'=>.ok v h'
    | .exc x _ h'=>.exc x h'
    | .rse x _ h'=>.exc x h'
    | _=>.bad):=by unfold eD;(rw[qag hv]) <;> (cases b.m (bX n vs) h <;> rfl)
   rw[em];have kb:∀{h' O'},Stp q h.length h O h' O'->KB q h h':=fun st=>⟨st.len,fun m hm hq=>st.base m hm hq⟩
   cases e:b.p (dSt n ds) s with
   | nx e1 s1=>rw[e] at k;obtain⟨σ',h',f,O',st,c',_⟩:=k;rw[f];exact⟨.non,h',rfl,kb st,c'.pen,rfl,fun _ ds e=>by cases e⟩
   | exc x e1 s1=>rw[e] at k;obtain⟨σ',h',f,O',st,c',_⟩:=k;rw[f];exact⟨h',rfl,kb st,c'.pen⟩
   | rse x e1 s1=>rw[e] at k;obtain⟨σ',h',f,O',st,c',_⟩:=k;rw[f];exact⟨h',rfl,kb st,c'.pen⟩
   | rt x s1=>rw[e] at k;obtain⟨v,h',f,l,b,p,rr,rs⟩:=k;rw[f];exact⟨v,h',rfl,⟨l,b⟩,p,rr,rs⟩
   | bk e1 s1=>trivial
   | ct e1 s1=>trivial
   | bad=>trivial
  ·rw[qao hl];trivial
end
end PU
namespace PU
open PySem MM SetT SortT
open L2 (ixN atI dr)
local instance (priority:=1) cdecN6 (p:Prop):Decidable p:=Classical.propDecidable p
noncomputable section
section
variable {q:Nat} {h:MH} {L:Nat} {O:List Nat} {v:PV}
def Vw.non(w:Vw q h L O .non v):v=.non:=by
 rcases w with r|⟨n,xs,ds,e,_⟩
 ·exact r
 ·cases e
def Vw.str(w:Vw q h L O (.str x) v):v=.str x:=by
 rcases w with r|⟨n,xs,ds,e,_⟩
 ·exact r
 ·cases e
inductive VwL (h:MH) (P:List PV->Prop) (v:PV):Prop
 | mk (n:Nat) (xs:List PV) (e:v=.loc n) (g:h[n]?=some (.lst xs)) (r:P xs):VwL h P v
def Vw.lst(w:Vw q h L O (.lst ds) v):VwL h (Rps q h O ds) v:=by
 rcases w with ⟨n,xs,e,_,g,r⟩|⟨n,xs,ds',e,e1,_,_,g,r⟩
 ·exact⟨n,xs,e,g,r⟩
 ·cases e;exact⟨n,xs,e1,g,r⟩
def Vw.tup(w:Vw q h L O (.tup ds) v):RcT (Rps q h O ds) v:=by
 rcases w with r|⟨n,xs,ds',e,_⟩
 ·exact r
 ·cases e
def gv0(r:Rp q h O d v)(hf:fr=true->∀ds,d≠.lst ds):Gv q h O fr (.ok v h) d :=
 ⟨v,[],by simp,by simpa using r,fun z ds e=>absurd e (hf z ds)⟩
def gvI:Gv q h O fr (.ok (.int i) h) (.int i):=gv0 rfl fun _ _ e=>by cases e
def gvB:Gv q h O fr (.ok (.bl i) h) (.bl i):=gv0 rfl fun _ _ e=>by cases e
def ff(w:Vws q h L O [d] vs):∃x,vs=[x]/\Vw q h L O d x:=by
 obtain⟨x,r,e,a,b⟩:=w
 have:r=[]:=b
 subst this;exact⟨x,e,a⟩
def vws2(w:Vws q h L O [d,d'] vs):∃x y,vs=[x,y]/\Vw q h L O d x/\Vw q h L O d' y:=by
 obtain⟨x,r,e,a,b⟩:=w;obtain⟨y,rfl,c⟩:=ff b;exact⟨x,y,e,a,c⟩
end
def pZ(m:PV->PV->MH->Out PV)(f:Int->Int->D)(g:Int->Int->PV)(hm:∀i j h,m (.int i) (.int j) h=.ok (g i j) h)(hg:∀i j q h O fr,Gv q h O fr (.ok (g i j) h) (f i j)):Op2 where
 m:=m
 p:=fun a b=>match a,b with
  | .int i,.int j=>some (f i j)
  | _,_=>none
 fr:=true
 ok {q h L O a x b y d} bd wa wb e:=by
  cases a with
  | int i =>
   cases b with
   | int j=>cases e;rw[wa.int,wb.int,hm];exact hg i j q h O true
   | _=>cases e
  | _=>cases e
def bP:Op2:=pZ opSub (fun i j=>.int (i - j)) (fun i j=>.int (i - j)) (fun _ _ _=>rfl) fun _ _ _ _ _ _=>gvI
def oLt:Op2:=pZ opLt (fun i j=>.bl (decide (i<j))) (fun i j=>.bl (decide (i<j))) (fun _ _ _=>rfl) fun _ _ _ _ _ _=>gvB
def oLe:Op2:=pZ opLe (fun i j=>.bl (decide (i<=j))) (fun i j=>.bl (decide (i<=j))) (fun _ _ _=>rfl) fun _ _ _ _ _ _=>gvB
def oGt:Op2:=pZ opGt (fun i j=>.bl (decide (j<i))) (fun i j=>.bl (decide (j<i))) (fun _ _ _=>rfl) fun _ _ _ _ _ _=>gvB
def oGe:Op2:=pZ opGe (fun i j=>.bl (decide (j<=i))) (fun i j=>.bl (decide (j<=i))) (fun _ _ _=>rfl) fun _ _ _ _ _ _=>gvB
def bJ:Op2 where
 m:=opAdd
 p:=fun a b=>match a,b with
  | .int i,.int j=>some (.int (i+j))
  | .lst x,.lst y=>if x.length+y.length<=100000 then some (.lst (x++y)) else none
  | .tup (a::x),.tup y=>if x.length+1+y.length<=100000 then some (.tup (a::x++y)) else none
  | _,_=>none
 fr:=true
 ok {q h L O a x b y d} bd wa wb e:=by
  cases a with
  | int i =>
   cases b with
   | int j=>cases e;rw[wa.int,wb.int];exact gvI
   | _=>cases e
  | lst x =>
   cases b with
   | lst y =>
    dsimp only at e;by_cases z:x.length+y.length<=100000
    ·rw[qag z] at e;cases e;obtain⟨n,xs,rfl,g,r⟩:=wa.lst;obtain⟨n',ys,rfl,g',r'⟩:=wb.lst;show Gv q h O true (match h[n]?,h[n']? with | some (.lst xs),some (.lst ys)=>newL (xs++ys) h | _,_=>.bad) _;rw[g,g'];exact kL bd (r.app r') (by simpa using z)
    ·rw[qao z] at e;cases e
   | _=>cases e
  | tup x =>
   cases x with
   | nil=>cases b <;> cases e
   | cons a x =>
    cases b with
    | tup y =>
     dsimp only at e;by_cases z:x.length+1+y.length<=100000
     ·rw[qag z] at e;cases e;obtain⟨xs,rfl,r⟩:=wa.tup;obtain⟨ys,rfl,r'⟩:=wb.tup;have ne:xs≠[]:=fun z=>by have:=r.length;simp[z] at this
      show Gv q h O true (if xs≠[] then newT (xs++ys) h else .bad) _;rw[qag ne];exact tK (r.app r') (by simp;lia)
     ·rw[qao z] at e;cases e
    | _=>cases e
  | _=>cases e
def Rps.rep(r:Rps q h O ds xs):∀n,Rps q h O (List.replicate n ds).flatten (List.replicate n xs).flatten
 | 0=>rfl
 | n+1=>by
  exact r.app (Rps.rep r n)
def qo:Op2 where
 m:=opMul
 p:=fun a b=>match a,b with
  | .int i,.int j=>if IntMulOk i j then some (.int (i * j)) else none
  | .lst x,.int j=>if (0<=j/\j<=1000)/\((List.replicate j.toNat x).flatten).length<=100000 then some (.lst (List.replicate j.toNat x).flatten) else none
  | _,_=>none
 fr:=true
 ok {q h L O a x b y d} bd wa wb e:=by
  cases a with
  | int i =>
   cases b with
   | int j =>
    dsimp only at e;by_cases z:IntMulOk i j
    ·rw[qag z] at e;cases e;rw[wa.int,wb.int];show Gv q h O true (if IntMulOk i j then .ok (.int (i * j)) h else .bad) _;rw[qag z];exact gvI
    ·rw[qao z] at e;cases e
   | _=>cases e
  | lst x =>
   cases b with
   | int j =>
    dsimp only at e;by_cases z:(0<=j/\j<=1000)/\((List.replicate j.toNat x).flatten).length<=100000
    ·rw[qag z] at e;cases e;obtain⟨n,xs,rfl,g,r⟩:=wa.lst;rw[wb.int];show Gv q h O true (match h[n]? with | some (.lst xs)=>if -(2 ^ 63)<=j/\j<2 ^ 63 then newL (List.flatten (List.replicate j.toNat xs)) h else .bad | _=>.bad) _;rw[g];dsimp only;rw[qag (by lia)];exact kL bd (r.rep _) z.2
    ·rw[qao z] at e;cases e
   | _=>cases e
  | _=>cases e
def oPow:Op2 where
 m:=opPow
 p:=fun a b=>match a,b with
  | .int i,.int j=>if dr i j then some (.int (i ^ j.toNat)) else none
  | _,_=>none
 fr:=true
 ok {q h L O a x b y d} bd wa wb e:=by
  cases a with
  | int i =>
   cases b with
   | int j =>
    dsimp only at e;by_cases z:dr i j
    ·rw[qag z] at e;cases e;rw[wa.int,wb.int];show Gv q h O true (if dr i j then .ok (.int (i ^ j.toNat)) h else .bad) _;rw[qag z];exact gvI
    ·rw[qao z] at e;cases e
   | _=>cases e
  | _=>cases e
def oIx:Op2 where
 m:=bT
 p:=fun a b=>match a,b with
  | .lst x,.int j=>atI x j
  | .tup x,.int j=>atI x j
  | _,_=>none
 fr:=false
 ok {q h L O a x b y d} bd wa wb e:=by
  have at':∀{ds:List D} {xs:List PV} {j:Int},Rps q h O ds xs->atI ds j=some d->∃v,atI xs j=some v/\Rp q h O d v:=fun {ds xs j} r e=>by
   unfold atI at e ⊢;rw[r.length]
   cases e1:ixN ds.length j with
   | none=>rw[e1] at e;cases e
   | some k=>rw[e1] at e;exact r.get e
  cases b with
  | int j =>
   rw[wb.int]
   cases a with
   | lst ds =>
    obtain⟨n,xs,rfl,g,r⟩:=wa.lst;obtain⟨v,e1,rv⟩:=at' r e;show Gv q h O false (match h[n]? with | some (.lst xs)=>(match atI xs j with | some v=>.ok v h | none=>.bad) | _=>.bad) _;rw[g];dsimp only;rw[e1];exact gv0 rv fun z=>by cases z
   | tup ds =>
    obtain⟨xs,rfl,r⟩:=wa.tup;obtain⟨v,e1,rv⟩:=at' r e;show Gv q h O false (match atI xs j with | some v=>.ok v h | none=>.bad) _;rw[e1];exact gv0 rv fun z=>by cases z
   | _=>cases e
  | _=>cases a <;> cases e
mutual
def py:D->Option PyData
 | .non=>some .none
 | .bl b=>some (.bool b)
 | .int i=>some (.int i)
 | .str x=>some (.str x)
 | .tup ds=>(pys ds).map .tuple
 | .lst ds=>(pys ds).map .list
 | _=>none
def pys:List D->Option (List PyData)
 | []=>some []
 | d::ds=>match py d,pys ds with
  | some x,some xs=>some (x::xs)
  | _,_=>none
end
mutual
def dep:D->Nat
 | .tup ds=>1+deps ds
 | .lst ds=>1+deps ds
 | _=>0
def deps:List D->Nat
 | []=>0
 | d::ds=>max (dep d) (deps ds)
end
def sN(d:D):(∀(v:PV) (e:PyData) (n:Nat),Rp q h O d v->py d=some e->dep d<=n->rd n h v=some e):=by
 refine D.rec (motive_1:=fun d=>∀(v:PV) (e:PyData) (n:Nat),Rp q h O d v->py d=some e->dep d<=n->rd n h v=some e)
  (motive_2:=fun ds=>∀(vs:List PV) (es:List PyData) (n:Nat),Rps q h O ds vs->pys ds=some es->deps ds<=n->cm (rd n h) vs=some es)
  (fun v _ n r e _=>?_) (fun b v _ n r e _=>?_) (fun b v _ n r e _=>?_) (fun b v _ n r e _=>?_) (fun ds ih v e n r ep hd=>?_) (fun ds ih v e n r ep hd=>?_) (fun _ _ _ _ e _=>?_) (fun _ _ _ _ _ e _=>?_) (fun _ _ _ _ e _=>?_)
  (fun vs es n r e _=>?_) (fun d ds i1 i2 vs es n r e hd=>?_) d
 ·rw[show v=PV.non from r];cases e;cases n <;> rfl
 ·rw[show v=PV.bl b from r];cases e;cases n <;> rfl
 ·rw[show v=PV.int b from r];cases e;cases n <;> rfl
 ·rw[show v=PV.str b from r];cases e;cases n <;> rfl
 ·obtain⟨xs,ex,r⟩:=r;subst ex;rw[py,qax] at ep;obtain⟨es,e1,rfl⟩:=ep;rw[dep] at hd
  cases n with
  | zero=>lia
  | succ n=>simp only[rd];rw[ih _ _ n r e1 (by lia)];rfl
 ·obtain⟨m,xs,ex,_,g,r⟩:=r;subst ex;rw[py,qax] at ep;obtain⟨es,e1,rfl⟩:=ep;rw[dep] at hd
  cases n with
  | zero=>lia
  | succ n=>simp only[rd,g];rw[ih _ _ n r e1 (by lia)];rfl
 ·simp[py] at e
 ·simp[py] at e
 ·simp[py] at e
 ·rw[show vs=[] from r];rw[pys] at e;cases e;rfl
 ·obtain⟨x,t,ex,a,b⟩:=r;subst ex;rw[deps] at hd;rw[pys] at e
  cases e1:py d with
  | none=>rw[e1] at e;cases e
  | some y =>
   cases e2:pys ds with
   | none=>rw[e1,e2] at e;cases e
   | some ys =>
    rw[e1,e2] at e;cases e;have a1:=i1 _ _ n a e1 (by lia);have b1:=i2 _ _ n b e2 (by lia);simp only[cm,a1,b1]
def rd_ok(r:Rp q h O d v)(ep:py d=some e)(hd:dep d<=n):rd n h v=some e:=sN d v e n r ep hd
def vt(r:Rps q h O ds vs)(ep:pys ds=some es)(hd:deps ds<=n):cm (rd n h) vs=some es:=by
 have:=sN (.tup ds) (.tup vs) (.tuple es) (n+1) (⟨vs,rfl,r⟩) (by rw[py,ep];rfl) (by rw[dep];lia)
 simp only[rd] at this
 simp_all
def iY(w:Vw q h L O d v)(ep:py d=some e)(hd:dep d<=60):rd 60 h v=some e:=by
 rcases w with r|⟨n,xs,ds,rfl,rfl,_,_,g,r⟩
 ·exact rd_ok r ep hd
 ·rw[py,qax] at ep;obtain⟨es,e1,rfl⟩:=ep;rw[dep] at hd;have a1:=vt (n:=59) r e1 (by lia);show (match h[n]? with | some (.lst xs)=>(cm (rd 59 h) xs).map PyData.list | _=>none)=_;rw[g];dsimp only;rw[a1];rfl
def eqD(neg:Bool)(a b:D):Option D:=match py a,py b with
 | some x,some y=>if (dep a<=60/\dep b<=60)/\SeqAt.shaped x=true/\SeqAt.shaped y=true then some (.bl (if neg then !PyData.eqv x y else PyData.eqv x y)) else none
 | _,_=>none
def sL(e:eqD neg a b=some d):∃x y,py a=some x/\py b=some y/\(dep a<=60/\dep b<=60)/\(SeqAt.shaped x=true/\SeqAt.shaped y=true)/\d=.bl (if neg then !PyData.eqv x y else PyData.eqv x y):=by
 unfold eqD at e
 cases e1:py a with
 | none=>rw[e1] at e;cases e
 | some x =>
  cases e2:py b with
  | none=>rw[e1,e2] at e;cases e
  | some y =>
   simp_all
def oEq:Op2 where
 m:=opEq
 p:=eqD false
 fr:=true
 ok {q h L O a x b y d} bd wa wb e:=by
  obtain⟨u,w,e1,e2,hd,hs,rfl⟩:=sL e;unfold opEq;rw[iY wa e1 hd.1,iY wb e2 hd.2];dsimp only;rw[qag hs];exact gvB
def oNe:Op2 where
 m:=opNe
 p:=eqD true
 fr:=true
 ok {q h L O a x b y d} bd wa wb e:=by
  obtain⟨u,w,e1,e2,hd,hs,rfl⟩:=sL e;unfold opNe;rw[iY wa e1 hd.1,iY wb e2 hd.2];dsimp only;rw[qag hs];exact gvB
def Vw.seqOf(w:Vw q h L O d v)(e:d.items=some ds):∃xs,MM.bF h v=some xs/\Rps q h O ds xs:=by
 cases d with
 | lst es=>cases e;obtain⟨n,xs,rfl,g,r⟩:=w.lst;exact⟨xs,by simp[MM.bF,g],r⟩
 | tup es=>cases e;obtain⟨xs,rfl,r⟩:=w.tup;exact⟨xs,rfl,r⟩
 | _=>cases e
def inD(neg:Bool)(a b:D):Option D:=match b.items with
 | some ds=>(match py a,pys ds with
  | some x,some ys=>if (dep a<=60/\deps ds<=60)/\x.canLay0=true/\PyData.canLayAll0 ys=true then some (.bl (if neg then !ys.any (fun e=>PyData.eqv e x) else ys.any (fun e=>PyData.eqv e x))) else none
  | _,_=>none)
 | none=>none
def oIn(neg:Bool):Op2 where
 m:=opIn neg
 p:=inD neg
 fr:=true
 ok {q h L O a x b y d} bd wa wb e:=by
  unfold inD at e
  cases e0:b.items with
  | none=>rw[e0] at e;cases e
  | some ds =>
   rw[e0] at e;dsimp only at e
   cases e1:py a with
   | none=>rw[e1] at e;cases e
   | some u =>
    cases e2:pys ds with
    | none=>rw[e1,e2] at e;cases e
    | some us =>
     rw[e1,e2] at e;dsimp only at e;by_cases z:(dep a<=60/\deps ds<=60)/\u.canLay0=true/\PyData.canLayAll0 us=true
     ·rw[qag z] at e;cases e;obtain⟨xs,es,r⟩:=wb.seqOf e0;unfold opIn;rw[es,iY wa e1 z.1.1];dsimp only;rw[vt r e2 z.1.2];dsimp only;rw[qag z.2];exact gvB
     ·rw[qao z] at e;cases e
end
noncomputable section
def jO:Op1 where
 m:=opNeg
 p:=fun a=>match a with
  | .int i=>some (.int (-i))
  | _=>none
 fr:=true
 ok {q h L O a x d} bd w e:=by
  cases a with
  | int i=>cases e;rw[w.int];exact gvI
  | _=>cases e
def tyD:D->Option String
 | .non=>some "NoneType"
 | .bl _=>some "bool"
 | .int _=>some "int"
 | .str _=>some "str"
 | .tup _=>some "tuple"
 | .lst _=>some "list"
 | .dic=>some "dict"
 | _=>none
def ty_ok(w:Vw q h L O d v)(e:tyD d=some t):tyP h v=some t:=by
 cases d with
 | non=>cases e;rw[w.non];rfl
 | bl b=>cases e;rw[w.bl];rfl
 | int b=>cases e;rw[w.int];rfl
 | str b=>cases e;rw[w.str];rfl
 | tup b=>cases e;obtain⟨xs,rfl,_⟩:=w.tup;rfl
 | lst b=>cases e;obtain⟨n,xs,rfl,g,_⟩:=w.lst;simp[tyP,g]
 | dic =>
  cases e;rcases w with ⟨n,rfl,_,g⟩|⟨n,xs,ds,e,_⟩
  ·simp[tyP,g]
  ·cases e
 | _=>cases e
def bS(Ts:List String):Op1 where
 m:=qe Ts
 p:=fun a=>(tyD a).map fun t=>.bl (Ts.any (bL t))
 fr:=true
 ok {q h L O a x d} bd w e:=by
  rw[qax] at e;obtain⟨t,e1,rfl⟩:=e;unfold qe;rw[ty_ok w e1];exact gvB
def cII(f:List PV->MH->Out PV)(g:Int->Int->Int)(hf:∀i j h,f [.int i,.int j] h=.ok (.int (g i j)) h):OpN where
 k:=fun xs h=>(f xs h).ne
 p:=fun as=>match as with
  | [.int i,.int j]=>some (.int (g i j))
  | _=>none
 fr:=true
 ok {q h L O as xs d} bd w e:=by
  match as,e with
  | [.int i,.int j],e =>
   cases e;obtain⟨x,y,rfl,a,b⟩:=vws2 w;rw[a.int,b.int,hf];exact gvI
def io:OpN:=cII fMin (fun i j=>if j<i then j else i) fun _ _ _=>rfl
def j0:OpN:=cII fMax (fun i j=>if j>i then j else i) fun _ _ _=>rfl
def bB:OpN where
 k:=fun xs h=>(fLen xs h).ne
 p:=fun as=>match as with
  | [.lst ds]=>some (.int ds.length)
  | [.tup ds]=>some (.int ds.length)
  | [.str x]=>if x.length<=sizeLine then some (.int x.length) else none
  | _=>none
 fr:=true
 ok {q h L O as xs d} bd w e:=by
  match as,e with
  | [.lst ds],e =>
   cases e;obtain⟨x,rfl,a⟩:=ff w;obtain⟨n,ys,rfl,g,r⟩:=a.lst;simp only[fLen,g];rw[r.length];exact gvI
  | [.tup ds],e =>
   cases e;obtain⟨x,rfl,a⟩:=ff w;obtain⟨ys,rfl,r⟩:=a.tup;simp only[fLen];rw[r.length];exact gvI
  | [.str x],e =>
   dsimp only at e;by_cases z:x.length<=sizeLine
   ·rw[qag z] at e;cases e;obtain⟨x,rfl,a⟩:=ff w;rw[a.str];simp only[fLen];rw[qag z];exact gvI
   ·rw[qao z] at e;cases e
def nr:OpN where
 k:=fun xs h=>(fList xs h).ne
 p:=fun as=>match as with
  | [d]=>d.items.bind fun ds=>if ds.length<=100000 then some (.lst ds) else none
  | _=>none
 fr:=true
 ok {q h L O as xs d} bd w e:=by
  match as,e with
  | [a],e =>
   obtain⟨x,rfl,wx⟩:=ff w;rw[qaP] at e;obtain⟨ds,e1,e2⟩:=e;obtain⟨xs,e3,r⟩:=wx.seqOf e1;by_cases z:ds.length<=100000
   ·rw[qag z] at e2;cases e2;obtain⟨v,g,e4,r4,r5⟩:=kL bd r z;exact⟨v,g,by simp only[fList,e3];rw[e4];rfl,r4,r5⟩
   ·rw[qao z] at e2;cases e2
def iC:OpN where
 k:=fun xs h=>(fTuple xs h).ne
 p:=fun as=>match as with
  | [d]=>d.items.map .tup
  | _=>none
 fr:=true
 ok {q h L O as xs d} bd w e:=by
  match as,e with
  | [a],e =>
   obtain⟨x,rfl,wx⟩:=ff w;rw[qax] at e;obtain⟨ds,e1,rfl⟩:=e;obtain⟨xs,e3,r⟩:=wx.seqOf e1;simp only[fTuple,e3];exact gv0 ⟨xs,rfl,r⟩ fun _ _ e=>by cases e
def j8:List D->Option (List Bool)
 | []=>some []
 | .bl b::r=>(j8 r).map (b::·)
 | _=>none
def wC:∀{ds:List D} {xs:List PV} {bs:List Bool},Rps q h O ds xs->j8 ds=some bs->lx xs=some bs
 | [],_,_,r,e=>by rw[show _=[] from r];cases e;rfl
 | d::ds,_,bs,⟨x,t,ex,a,b⟩,e=>by
  subst ex
  cases d with
  | bl c =>
   rw[show x=PV.bl c from a];rw[j8,qax] at e;obtain⟨cs,e1,rfl⟩:=e;rw[lx,wC b e1];rfl
  | _=>cases e
def lF:OpN where
 k:=fun xs h=>(fAll xs h).ne
 p:=fun as=>match as with
  | [d]=>(d.items.bind j8).map fun bs=>.bl (bs.all id)
  | _=>none
 fr:=true
 ok {q h L O as xs d} bd w e:=by
  match as,e with
  | [a],e =>
   obtain⟨x,rfl,wx⟩:=ff w;rw[qax] at e;obtain⟨bs,e1,rfl⟩:=e;rw[qaP] at e1;obtain⟨ds,e1,e2⟩:=e1;obtain⟨xs,e3,r⟩:=wx.seqOf e1;simp only[fAll,e3,qaO,wC r e2];exact gvB
def bQ:List D->Option (List Int)
 | []=>some []
 | .int b::r=>(bQ r).map (b::·)
 | _=>none
def gR:∀{ds:List D} {xs:List PV} {bs:List Int},Rps q h O ds xs->bQ ds=some bs->xs=bs.map .int
 | [],_,_,r,e=>by rw[show _=[] from r];cases e;rfl
 | d::ds,_,bs,⟨x,t,ex,a,b⟩,e=>by
  subst ex
  cases d with
  | int c =>
   rw[show x=PV.int c from a];rw[bQ,qax] at e;obtain⟨cs,e1,rfl⟩:=e;rw[gR b e1];rfl
  | _=>cases e
def oR:∀(bs:List Int),fF (bs.map .int)=some bs
 | []=>rfl
 | b::bs=>by rw[qaF,fF,oR bs];rfl
def oX:∀(bs:List Int),ib (bs.map .int)=some bs
 | []=>rfl
 | b::bs=>by rw[qaF,ib,oX bs];rfl
def jC:∀(bs:List Int),fX (bs.map .int)=some bs
 | []=>rfl
 | b::bs=>by rw[qaF,fX,jC bs];rfl
def pD(f:List PV->MH->Out PV)(c:List Int->Nat->Nat->Bool)(g:Int->Int->Int)(hf:∀is x h,(bF h x).bind fF=some is->0<is.length->f [x] h=.ok (.int (k7 (c is) is)) h)(hg:∀i j h,f [.int i,.int j] h=.ok (.int (g i j)) h):OpN where
 k:=fun xs h=>(f xs h).ne
 p:=fun as=>match as with
  | [d]=>(d.items.bind bQ).bind fun is=>if 0<is.length then some (.int (k7 (c is) is)) else none
  | [.int i,.int j]=>some (.int (g i j))
  | _=>none
 fr:=true
 ok {q h L O as xs d} bd w e:=by
  match as,e with
  | [a],e =>
   obtain⟨x,rfl,wx⟩:=ff w;rw[qaP] at e;obtain⟨is,e1,e2⟩:=e;rw[qaP] at e1;obtain⟨ds,e1,e3⟩:=e1;obtain⟨xs,e4,r⟩:=wx.seqOf e1;by_cases z:0<is.length
   ·rw[qag z] at e2;cases e2;show Gv q h O true (f [x] h).ne _;rw[hf is x h (by rw[e4,qaO,gR r e3];exact oR is) z];exact gvI
   ·rw[qao z] at e2;cases e2
  | [.int i,.int j],e =>
   cases e;obtain⟨x,y,rfl,a,b⟩:=vws2 w;rw[a.int,b.int,hg];exact gvI
def nq:OpN:=pD fMaxS (fun is i j=>decide (is.getD i 0>is.getD j 0)) (fun i j=>if j>i then j else i) (fun is x h e z=>by simp only[fMaxS,e];rw[qag z]) fun i j h=>rfl
def mO:OpN:=pD fMinS (fun is i j=>decide (is.getD i 0<is.getD j 0)) (fun i j=>if j<i then j else i) (fun is x h e z=>by simp only[fMinS,e];rw[qag z]) fun i j h=>rfl
def kD(k:List Int):D:=.tup (k.map .int)
def fu:D->Option (List Int)
 | .tup ds=>bQ ds
 | _=>none
def eV:List D->Option (List (List Int))
 | []=>some []
 | d::ds=>match fu d,eV ds with
  | some k,some ks=>some (k::ks)
  | _,_=>none
def kP_inv(r:Rp q h O d v)(e:fu d=some k):v=kP k:=by
 cases d with
 | tup ds=>obtain⟨xs,rfl,r⟩:=r;rw[gR r e];rfl
 | _=>cases e
def lY:∀{ds:List D} {xs:List PV} {ks:List (List Int)},Rps q h O ds xs->eV ds=some ks->xs=ks.map kP
 | [],_,_,r,e=>by rw[show _=[] from r];cases e;rfl
 | d::ds,_,ks,⟨x,t,ex,a,b⟩,e=>by
  subst ex;rw[eV] at e
  cases e1:fu d with
  | none=>rw[e1] at e;cases e
  | some k =>
   cases e2:eV ds with
   | none=>rw[e1,e2] at e;cases e
   | some ks' =>
    rw[e1,e2] at e;cases e;rw[kP_inv a e1,lY b e2];rfl
def kOf_kP(k:List Int):kOf (kP k)=some k:=oX k
def j9:∀(ks:List (List Int)),gM (ks.map kP)=some ks
 | []=>rfl
 | k::ks=>by rw[qaF,gM,kOf_kP,j9 ks]
def i8:∀(bs:List Int),Rps q h O (bs.map .int) (bs.map .int)
 | []=>rfl
 | b::bs=>⟨_,_,rfl,rfl,i8 bs⟩
def lA:∀(ks:List (List Int)),Rps q h O (ks.map kD) (ks.map kP)
 | []=>rfl
 | b::bs=>⟨_,_,rfl,⟨_,rfl,i8 b⟩,lA bs⟩
def Vw.lstOf(w:Vw q h L O (.lst ds) v):∃xs,MM.cO h v=some xs/\Rps q h O ds xs:=by
 obtain⟨n,xs,rfl,g,r⟩:=w.lst;exact⟨xs,by simp[MM.cO,g],r⟩
def gvL(bd:Bd h O)(r:∀h O,Rps q h O ds xs):Gv q h O true (.ok (.loc h.length) (h++[.lst xs])) (.lst ds):=by
 have g:(h++[MO.lst xs])[h.length]?=some (.lst xs):=by simp
 exact⟨_,_,rfl,⟨_,_,rfl,fun z=>by have:=bd _ z;ext,g,r _ _⟩,fun _ ds' e=>by cases e;exact⟨_,_,rfl,qah _,g,r _ _⟩⟩
def kA(ds:List D):Option (List D):=match bQ ds with
 | some ns=>if ns.length<64 then some ((im ns).map .int) else none
 | none=>(match eV ds with
  | some ks=>if (∀k∈ks,k≠[])/\ks.length<=66 then some ((bI ks).map kD) else none
  | none=>none)
def iU:OpN where
 k:=fun xs h=>(fSorted xs h).ne
 p:=fun as=>match as with
  | [.lst ds]=>(kA ds).map .lst
  | _=>none
 fr:=true
 ok {q h L O as xs d} bd w e:=by
  match as,e with
  | [.lst ds],e =>
   obtain⟨x,rfl,wx⟩:=ff w;obtain⟨ys,e0,r⟩:=wx.lstOf;rw[qax] at e;obtain⟨es,e1,rfl⟩:=e;unfold kA at e1
   cases e2:bQ ds with
   | some ns =>
    rw[e2] at e1;dsimp only at e1;by_cases z:ns.length<64
    ·rw[qag z] at e1;cases e1
     have:fSorted [x] h=.ok (.loc h.length) (h++[.lst ((im ns).map .int)]):=by
      simp only[fSorted,e0,gR r e2,jC];rw[qag z]
     show Gv q h O true (fSorted [x] h).ne _;rw[this];exact gvL bd fun _ _=>i8 _
    ·rw[qao z] at e1;cases e1
   | none =>
    rw[e2] at e1;dsimp only at e1
    cases e3:eV ds with
    | none=>rw[e3] at e1;cases e1
    | some ks =>
     rw[e3] at e1;dsimp only at e1;by_cases z:(∀k∈ks,k≠[])/\ks.length<=66
     ·rw[qag z] at e1;cases e1;have hy:=lY r e3
      cases ks with
      | nil =>
       have:ds=[]:=by have:=r.length;rw[hy] at this;simpa using this.symm
       subst this;cases e2
      | cons k ks =>
       have:fSorted [x] h=.ok (.loc h.length) (h++[.lst ((bI (k::ks)).map kP)]):=by
        have n1:fX ((k::ks).map kP)=none:=rfl;simp only[fSorted,e0,hy,n1,j9];rw[qag z]
       show Gv q h O true (fSorted [x] h).ne _;rw[this];exact gvL bd fun _ _=>lA _
     ·rw[qao z] at e1;cases e1
def cSS:OpN where
 k:=fun vs h1=>match vs with
  | [x]=>(match (cO h1 x).bind gM with
   | some ks=>if (∀k∈ks,k≠[])/\(ded ks).length<=66 then .ok (.loc h1.length) (h1++[.lst ((bI (ded ks)).map kP)]) else .bad
   | none=>.bad)
  | _=>.bad
 p:=fun as=>match as with
  | [.lst ds]=>(eV ds).bind fun ks=>if (∀k∈ks,k≠[])/\(ded ks).length<=66 then some (.lst ((bI (ded ks)).map kD)) else none
  | _=>none
 fr:=true
 ok {q h L O as xs d} bd w e:=by
  match as,e with
  | [.lst ds],e =>
   obtain⟨x,rfl,wx⟩:=ff w;obtain⟨ys,e0,r⟩:=wx.lstOf;rw[qaP] at e;obtain⟨ks,e1,e2⟩:=e;by_cases z:(∀k∈ks,k≠[])/\(ded ks).length<=66
   ·rw[qag z] at e2;cases e2;simp only[e0,qaO,lY r e1,j9];rw[qag z];exact gvL bd fun _ _=>lA _
   ·rw[qao z] at e2;cases e2
def cv(lo:Int)(n:Nat):List D:=(List.range n).map fun (i:Nat)=>D.int (lo+(i:Int))
def sg:Rps q h O (cv lo n) (bY lo n):=by
 have:=i8 (q:=q) (h:=h) (O:=O) ((List.range n).map fun (i:Nat)=>lo+(i:Int))
 rw[qbl,qbl] at this;exact this
def iR1:OpI where
 k:=fun vs h1=>match vs with
  | [.int j]=>if -(2 ^ 62)<=j/\j<2 ^ 62 then .ok ⟨bY 0 j.toNat,[]⟩ h1 else .bad
  | _=>.bad
 p:=fun as=>match as with
  | [.int j]=>if -100000<=j/\j<=100000 then some (cv 0 j.toNat) else none
  | _=>none
 ok {q h L O as xs d} hq hO bd w e:=by
  match as,e with
  | [.int j],e =>
   obtain⟨x,rfl,wx⟩:=ff w;rw[wx.int];dsimp only at e;by_cases z:-100000<=j/\j<=100000
   ·rw[qag z] at e;cases e;dsimp only;rw[qag ⟨by ext,by ext⟩];exact⟨_,rfl,sg,(fun _ hg=>nomatch hg),fun _ _ hg=>nomatch hg⟩
   ·rw[qao z] at e;cases e
def iR2:OpI where
 k:=fun vs h1=>match vs with
  | [.int i,.int j]=>if -(2 ^ 62)<=i/\i<2 ^ 62 /\ -(2 ^ 62)<=j/\j<2 ^ 62 then .ok ⟨bY i (j - i).toNat,[]⟩ h1 else .bad
  | _=>.bad
 p:=fun as=>match as with
  | [.int i,.int j]=>if (-100000<=i/\i<=100000) /\ -100000<=j/\j<=100000 then some (cv i (j - i).toNat) else none
  | _=>none
 ok {q h L O as xs d} hq hO bd w e:=by
  match as,e with
  | [.int i,.int j],e =>
   obtain⟨x,y,rfl,wx,wy⟩:=vws2 w;rw[wx.int,wy.int];dsimp only at e;by_cases z:(-100000<=i/\i<=100000) /\ -100000<=j/\j<=100000
   ·rw[qag z] at e;cases e;dsimp only;rw[qag ⟨by ext,by ext,by ext,by ext⟩];exact⟨_,rfl,sg,(fun _ hg=>nomatch hg),fun _ _ hg=>nomatch hg⟩
   ·rw[qao z] at e;cases e
def Vw.sqAny(hq:q<L)(hO:q∈O)(w:Vw q h L O d v)(e:d.items=some ds):∃t xs gd,MM.fD v h=some (t,xs,gd)/\Rps q h O ds xs/\(∀g∈gd,h[g.1]?=some (.lst g.2)/\g.1≠q)/\(Rp q h O d v->∀g∈gd,g.1∉O):=by
 obtain⟨xs,gd,e1,r,g1,g2⟩:=w.seq hq hO e
 cases d with
 | lst es =>
  cases e;obtain⟨n,ys,rfl,g,r'⟩:=w.lst;simp only[itAny,g] at e1;cases e1;exact⟨false,xs,[(n,xs)],by simp[MM.fD,g],r',g1,g2⟩
 | tup es =>
  cases e;obtain⟨ys,rfl,r'⟩:=w.tup;cases e1;exact⟨true,_,[],rfl,r',g1,g2⟩
 | _=>cases e
def d4(ds:List D):List D:=ds.zipIdx.map fun p=>.tup [.int (p.2:Int),p.1]
def rG:∀{ds:List D} {xs:List PV} (n:Nat),Rps q h O ds xs->Rps q h O ((ds.zipIdx n).map fun p=>.tup [.int (p.2:Int),p.1]) ((xs.zipIdx n).map fun p=>.tup [.int (p.2:Int),p.1])
 | [],_,_,r=>by rw[show _=[] from r];rfl
 | d::ds,_,n,⟨x,t,e,a,b⟩=>by
  subst e;exact⟨_,_,rfl,⟨_,rfl,⟨_,_,rfl,rfl,⟨_,_,rfl,a,rfl⟩⟩⟩,rG (n+1) b⟩
def iE:OpI where
 k:=fun vs h1=>match vs with
  | [x]=>(match fD x h1 with
   | some (_,xs,gd)=>.ok ⟨g9 xs,gd⟩ h1
   | none=>.bad)
  | _=>.bad
 p:=fun as=>match as with
  | [d]=>d.items.map d4
  | _=>none
 ok {q h L O as xs d} hq hO bd w e:=by
  match as,e with
  | [a],e =>
   obtain⟨x,rfl,wx⟩:=ff w;rw[qax] at e;obtain⟨ds,e1,rfl⟩:=e;obtain⟨t,ys,gd,e2,r,g1,g2⟩:=wx.sqAny hq hO e1;refine⟨⟨g9 ys,gd⟩,by simp only[e2],rG 0 r,g1,fun z=>g2 ?_⟩;obtain⟨x',r',e3,a,_⟩:=z;cases e3;exact a
def f8(xs:List D)(lo hi:Option Int):List D:=(xs.drop (HT.sIx xs.length 0 lo)).take (HT.sIx xs.length xs.length hi - HT.sIx xs.length 0 lo)
def sW(lo hi:Option Int)(r:Rps q h O ds xs):Rps q h O (f8 ds lo hi) (fg xs lo hi):=by
 unfold f8 fg;rw[r.length];exact (r.drop _).take _
structure Xo (ws:List Nat) where
 m:Mx (Option Int)
 p:av->Pen->PR (Option Int)
 ok:∀{q h L B O σ env s},Cx q h L B O ws σ env s->Ok q h (m σ h) (p env s) (fun _ a b=>a=b)
section
variable {ws:List Nat}
def xNo:Xo ws where
 m:=mNo
 p:=fun _ s=>.ok none s
 ok {q h L B O σ env s} c:=⟨none,h,rfl,KB.refl _ _,c.pen,rfl⟩
def xPt(e:Xe ws):Xo ws where
 m:=mPt e.m
 p:=fun env s=>(e.p env s).bind fun d s=>match d with
  | .int i=>.ok (some i) s
  | _=>.bad
 ok {q h L B O σ env s} c:=by
  refine (e.ok c).bind fun x v h1 s1 k1 p1 ⟨w,_,_⟩=>?_
  cases x with
  | int i=>rw[w.int];exact⟨some i,h1,rfl,KB.refl _ _,p1,rfl⟩
  | _=>trivial
def slD(d:D)(lo hi:Option Int):Option D:=match d with
 | .lst ds=>some (.lst (f8 ds lo hi))
 | .tup ds=>if HT.sIx ds.length 0 lo=0/\HT.sIx ds.length ds.length hi=ds.length then none else some (.tup (f8 ds lo hi))
 | _=>none
def sl_ok(bd:Bd h O)(w:Vw q h L O a x)(e:slD a lo hi=some d):Gv q h O true (fSl x lo hi h) d:=by
 cases a with
 | lst ds =>
  cases e;obtain⟨n,xs,rfl,g,r⟩:=w.lst;simp only[fSl,g];have r:=sW lo hi r;have m:Mv O h O (h++[MO.lst (fg xs lo hi)]):=⟨fun n hn _=>qan hn,fun o ho=>.inl ho⟩
  have m2:Mv O h (h.length::O) (h++[MO.lst (fg xs lo hi)]):=⟨fun n hn _=>qan hn,fun o ho=>by
   rcases qaj.mp ho with z|z
   ·exact .inr (by ext)
   ·exact .inl z⟩
  have g:(h++[MO.lst (fg xs lo hi)])[h.length]?=some (.lst (fg xs lo hi)):=by simp
  exact⟨_,_,rfl,⟨_,_,rfl,fun z=>by have:=bd _ z;ext,g,r.mv m⟩,fun _ ds' e=>by cases e;exact⟨_,_,rfl,qah _,g,r.mv m2⟩⟩
 | tup ds =>
  unfold slD at e;dsimp only at e;by_cases z:HT.sIx ds.length 0 lo=0/\HT.sIx ds.length ds.length hi=ds.length
  ·rw[qag z] at e;cases e
  ·rw[qao z] at e;cases e;obtain⟨xs,rfl,r⟩:=w.tup;simp only[fSl];rw[r.length,qao z];exact gv0 ⟨_,rfl,sW lo hi r⟩ fun _ _ e=>by cases e
 | _=>cases e
def xSl(a:Xe ws)(lo hi:Xo ws):Xe ws where
 m:=mSl a.m lo.m hi.m
 p:=fun env s=>(a.p env s).bind fun x s=>(lo.p env s).bind fun l s=>(hi.p env s).bind fun u s=>.of (slD x l u) s
 fz:=true
 fr:=true
 ok {q h L B O σ env s} c:=by
  refine (a.ok c).bind fun x v h1 s1 k1 p1 ⟨w,_,_⟩=>?_;have c1:=c.kb k1 p1;refine (lo.ok c1).bind fun l l' h2 s2 k2 p2 e=>?_;subst e;have c2:=c1.kb k2 p2;refine (hi.ok c2).bind fun u u' h3 s3 k3 p3 e=>?_;subst e;have c3:=c2.kb k3 p3
  cases e:slD x l u with
  | none=>trivial
  | some d =>
   obtain⟨y,g,e1,r,r'⟩:=sl_ok c3.bd ((w.kb k2 c.pO c.pL).kb k3 c.pO c.pL) e;exact give (qaE (qaE k1.len k2.len) k3.len) p3 ⟨y,g,by rw[e1];rfl,r,r'⟩
end
def aAppend:OpM where
 m:=kR
 p:=fun ds as=>match as with
  | [a]=>if ds.length<100000 then some (.non,ds++[a]) else none
  | _=>none
 ok {q h O n xs ds as vs d ds'} g r ra e:=by
  match as,e with
  | [a],e =>
   obtain⟨x,t,rfl,a,b⟩:=ra
   have:t=[]:=b
   subst this;dsimp only at e;by_cases z:ds.length<100000
   ·rw[qag z] at e;cases e;refine⟨.non,xs++[x],?_,r.app ⟨x,[],rfl,a,rfl⟩,rfl⟩;simp only[kR,g];rw[qag (by have:=fh;rw[r.length];ext)]
   ·rw[qao z] at e;cases e
def aExtend:OpM where
 m:=iM
 p:=fun ds as=>match as with
  | [a]=>a.items.bind fun es=>if ds.length+es.length<=100000 then some (.non,ds++es) else none
  | _=>none
 ok {q h O n xs ds as vs d ds'} g r ra e:=by
  match as,e with
  | [a],e =>
   obtain⟨x,t,rfl,w,b⟩:=ra
   have:t=[]:=b
   subst this;rw[qaP] at e;obtain⟨es,e1,e2⟩:=e;by_cases z:ds.length+es.length<=100000
   ·rw[qag z] at e2;cases e2;have hb:=fh
    cases a with
    | lst es' =>
     cases e1;obtain⟨m,ys,rfl,_,g',r'⟩:=w;refine⟨.non,xs++ys,?_,r.app r',rfl⟩;simp only[iM,g,g'];rw[qag (by rw[r.length,r'.length];ext)]
    | tup es' =>
     cases e1;obtain⟨ys,rfl,r'⟩:=w;refine⟨.non,xs++ys,?_,r.app r',rfl⟩;simp only[iM,g];rw[qag (by rw[r.length,r'.length];ext)]
    | _=>cases e1
   ·rw[qao z] at e2;cases e2
def aInsert:OpM where
 m:=kS
 p:=fun ds as=>match as with
  | [.int i,a]=>if (0<=i/\i<=100000)/\ds.length<100000 then some (.non,ds.take (min i.toNat ds.length)++a::ds.drop (min i.toNat ds.length)) else none
  | _=>none
 ok {q h O n xs ds as vs d ds'} g r ra e:=by
  match as,e with
  | [.int i,a],e =>
   obtain⟨x,t,rfl,hx,y,t',rfl,w,b⟩:=ra
   have:t'=[]:=b
   subst this;rw[show x=PV.int i from hx];dsimp only at e;by_cases z:(0<=i/\i<=100000)/\ds.length<100000
   ·rw[qag z] at e;cases e;refine⟨.non,jZ xs i y,?_,?_,rfl⟩
    ·simp only[kS,g];rw[qag ⟨by ext,by have:=fh;rw[r.length];ext⟩]
    ·unfold jZ;rw[qao (by ext),r.length];exact (r.take _).app ⟨y,_,rfl,w,r.drop _⟩
   ·rw[qao z] at e;cases e
end
section
variable {ws:List Nat} {env:av} {s:Pen}
@[simp] theorem ag{d:D}{r:av}:(ac 0:Xe ws).p (some d::r) s=.ok d s:=rfl
@[simp] theorem ah{i:Nat}{o:Option D}{r:av}:(ac (i+1):Xe ws).p (o::r) s=(ac i:Xe ws).p r s:=by simp[ac]
theorem sj(e:env[i]?=some (some d)):(ac i:Xe ws).p env s=.ok d s:=by
 show (match env[i]? with | some (some d)=>PR.ok d s | _=>.bad)=_;rw[e]
@[simp] theorem aJ:(xC k:Xe ws).p env s=.ok k.d s:=rfl
@[simp] theorem nk:Cn.non.d=.non:=rfl
@[simp] theorem cK:(Cn.bl b).d=.bl b:=rfl
@[simp] theorem aH:(Cn.int b).d=.int b:=rfl
@[simp] theorem dQ:(Cn.str b).d=.str b:=rfl
@[simp] theorem aA:(ae o a b).p env s=(a.p env s).bind fun x s1=>(b.p env s1).bind fun y s2=>.of (o.p x y) s2:=rfl
@[simp] theorem cr:(xUn o a).p env s=(a.p env s).bind fun x s1=>.of (o.p x) s1:=rfl
@[simp] theorem ak:(xNil:Xs ws).p env s=.ok [] s:=rfl
@[simp] theorem af:(aa a r).p env s=(a.p env s).bind fun x s1=>(r.p env s1).bind fun y s2=>.ok (x::y) s2:=rfl
@[simp] theorem aQ:(xCb o a).p env s=(a.p env s).bind fun x s1=>.of (o.p x) s1:=rfl
@[simp] theorem aE:(aB f a h).p env s=(a.p env s).bind f.p:=rfl
@[simp] theorem xLend_p:(pE f a h).p env s=((a.p env s).bind f.p).bind fun d s=>if lend d=true then .ok d s else .bad:=rfl
@[simp] theorem cG:(br a h).p env s=(a.p env s).bind fun x s1=>if x.length<=100000 then .ok (.lst x) s1 else .bad:=rfl
@[simp] theorem cI:(aM a h).p env s=(a.p env s).bind fun x s1=>if x.length<=100000 then .ok (.tup x) s1 else .bad:=rfl
@[simp] theorem wS:(xDic:Xe ws).p env s=.ok .dic s:=rfl
@[simp] theorem aY:(xB a).p env s=(a.p env s).bl:=rfl
@[simp] theorem bA:(dJ a).p env s=(a.p env s).bind fun b s=>.ok (!b) s:=rfl
@[simp] theorem qi:(rE a b).p env s=(a.p env s).bind fun x s=>if x=true then b.p env s else .ok false s:=rfl
@[simp] theorem cq:(xOr a b).p env s=(a.p env s).bind fun x s=>if x=true then .ok true s else b.p env s:=rfl
@[simp] theorem xTrue_p:(xTrue:Xt ws).p env s=.ok true s:=rfl
@[simp] theorem dE:(cP a b).p env s=(a.p env s).bl.bind fun x s=>if x=true then (b.p env s).bl.bind fun y s=>.ok (.bl y) s else .ok (.bl false) s:=rfl
@[simp] theorem xNotV_p:(pJ a).p env s=(a.p env s).bl.bind fun x s=>.ok (.bl (!x)) s:=rfl
@[simp] theorem xChain_p:(mR f g a b e).p env s=(a.p env s).bind fun x s1=>(b.p env s1).bind fun y s2=>match f.p x y with
  | some (.bl t)=>if t=true then (e.p env s2).bind fun z s3=>.of (g.p y z) s3 else .ok (.bl false) s2
  | _=>.bad:=rfl
@[simp] theorem dP:(bU o a).p env s=(a.p env s).bind fun x s1=>.of (o.p x) s1:=rfl
@[simp] theorem eZ:(bD a).p env s=(a.p env s).bind fun x s1=>.of x.items s1:=rfl
@[simp] theorem xNm_p{i:Nat}{h:ws.contains i=false}{d:D}:(xNm i h).p d env=some (env.set i (some d)):=rfl
@[simp] theorem xGl_p:(xGl:Xgs ws).p [] env=some env:=rfl
@[simp] theorem xGc_p:(xGc a t).p (d::ds) env=(a.p d env).bind fun env1=>t.p ds env1:=rfl
@[simp] theorem xGp_p:(xGp t n).p (.tup ds) env=if ds.length=n then t.p ds env else none:=rfl
@[simp] theorem tF{nv:Nat}{fm:List Nat}{i:Xi ws}{ws':List Nat}{g:Xg ws'}{t:Xt ws'}{e:Xe ws'}{hw:cws nv fm ws=ws'}{hz:e.fz=true}:(bx nv fm i g t e hw hz).p env s=(i.p env s).bind fun ds s1=>if ds.length<=100000 then (match ec g.p t.p e.p ds (cenv nv fm env) s1 with
  | .ok r s2=>.ok (.lst r) s2
  | _=>.bad) else .bad:=rfl
@[simp] theorem kH:(xNo:Xo ws).p env s=.ok none s:=rfl
@[simp] theorem k5:(xPt e).p env s=(e.p env s).bind fun d s=>match d with
  | .int i=>.ok (some i) s
  | _=>.bad:=rfl
@[simp] theorem kc:(xSl a lo hi).p env s=(a.p env s).bind fun x s=>(lo.p env s).bind fun l s=>(hi.p env s).bind fun u s=>.of (slD x l u) s:=rfl
@[simp] theorem aw:(aK a b).p env s=(a.p env s).then b.p:=rfl
@[simp] theorem bh:(xSkip:Xd ws).p env s=.nx env s:=rfl
@[simp] theorem aN:(aT e).p env s=(e.p env s).go env fun d _ s=>.rt d s:=rfl
theorem kE{i:Nat}{h:ws.contains i=true}{d:D}(e:env[i]?=some (some d)):(kF i h).p env s=.rt d s:=by
 show (match env[i]? with | some (some d)=>PS.rt d s | _=>.bad)=_;rw[e]
@[simp] theorem aV:(xIf t a b).p env s=(t.p env s).go env fun x env s=>if x=true then a.p env s else b.p env s:=rfl
@[simp] theorem bz:(bO i e hi hz).p env s=(e.p env s).go env fun d env s=>.nx (env.set i (some d)) s:=rfl
@[simp] theorem kz:(fH i e hi hz).p env s=(e.p env s).go env fun d env s=>match d with
  | .lst ds=>.nx (env.set i (some (.lst ds))) s
  | _=>.bad:=rfl
@[simp] theorem xAsg_p:(xAsg e g hz).p env s=(e.p env s).go env fun d env s=>match g.p d env with
  | some env1=>.nx env1 s
  | none=>.bad:=rfl
@[simp] theorem dS:(cW i g b hz).p env s=(i.p env s).go env fun ds env s=>pGo g.p b.p ds env s:=rfl
@[simp] theorem xMt_p:(xMt o i a hi hz).p env s=pMt o i a.p env s fun _=>.nx:=rfl
@[simp] theorem xSub_p:(nV i e ix hi hz).p env s=cw i e.p ix.p env s:=rfl
theorem bp{hw}(hl:ds.length=np):(bK n np b hw).p ds s=(b.p (dSt n ds) s).fin:=by
 show (if ds.length=np then _ else _)=_;rw[qag hl]
variable {i j:Int} {b:Bool} {x y:List D}
@[simp] theorem iP:bJ.p (.int i) (.int j)=some (.int (i+j)):=rfl
theorem di(h:x.length+y.length<=100000):bJ.p (.lst x) (.lst y)=some (.lst (x++y)):=by
 show (if x.length+y.length<=100000 then _ else _)=_;rw[qag h]
@[simp] theorem eO:bP.p (.int i) (.int j)=some (.int (i - j)):=rfl
@[simp] theorem dO:oLt.p (.int i) (.int j)=some (.bl (decide (i<j))):=rfl
@[simp] theorem oLe_ii:oLe.p (.int i) (.int j)=some (.bl (decide (i<=j))):=rfl
@[simp] theorem v9:oGt.p (.int i) (.int j)=some (.bl (decide (j<i))):=rfl
@[simp] theorem iO:oGe.p (.int i) (.int j)=some (.bl (decide (j<=i))):=rfl
@[simp] theorem d7:oIx.p (.lst x) (.int j)=atI x j:=rfl
@[simp] theorem pI:oIx.p (.tup x) (.int j)=atI x j:=rfl
@[simp] theorem rD:(bS Ts).p d=(tyD d).map fun t=>.bl (Ts.any (bL t)):=rfl
@[simp] theorem ty_non:tyD .non=some "NoneType":=rfl
@[simp] theorem ty_bl:tyD (.bl b)=some "bool":=rfl
@[simp] theorem ty_int:tyD (.int i)=some "int":=rfl
@[simp] theorem ty_str:tyD (.str z)=some "str":=rfl
@[simp] theorem ty_tup:tyD (.tup x)=some "tuple":=rfl
@[simp] theorem ty_lst:tyD (.lst x)=some "list":=rfl
@[simp] theorem ty_dic:tyD .dic=some "dict":=rfl
@[simp] theorem sH:io.p [.int i,.int j]=some (.int (if j<i then j else i)):=rfl
@[simp] theorem cMax_ii:j0.p [.int i,.int j]=some (.int (if j>i then j else i)):=rfl
@[simp] theorem bw:bB.p [.lst x]=some (.int x.length):=rfl
@[simp] theorem qK:bB.p [.tup x]=some (.int x.length):=rfl
theorem cList_l(h:x.length<=100000):nr.p [.lst x]=some (.lst x):=by
 show (if x.length<=100000 then _ else _)=_;rw[qag h]
@[simp] theorem lW:iC.p [.lst x]=some (.tup x):=rfl
@[simp] theorem cTuple_t:iC.p [.tup x]=some (.tup x):=rfl
theorem iZ(h:-100000<=i/\i<=100000):iR1.p [.int i]=some (cv 0 i.toNat):=by
 show (if _ then _ else _)=_;rw[qag h]
def iR2_i(h:(-100000<=i/\i<=100000) /\ -100000<=j/\j<=100000):iR2.p [.int i,.int j]=some (cv i (j - i).toNat):=by
 show (if _ then _ else _)=_;rw[qag h]
@[simp] theorem iE_l:iE.p [.lst x]=some (d4 x):=rfl
@[simp] theorem km:slD (.lst x) lo hi=some (.lst (f8 x lo hi)):=rfl
theorem vU(h:x.length<100000):aAppend.p x [a]=some (.non,x++[a]):=by
 show (if _ then _ else _)=_;rw[qag h]
def g8(h:x.length+y.length<=100000):aExtend.p x [.lst y]=some (.non,x++y):=by
 show (if _ then _ else _)=_;rw[qag h]
def wX{a:D}{i:Nat}(h:i<=x.length)(hl:x.length<100000):aInsert.p x [.int i,a]=some (.non,x.take i++a::x.drop i):=by
 show (if _ then _ else _)=_;rw[qag ⟨by ext,hl⟩,qaG,qcI h]
end
section
variable {i j:Int} {b c:Bool}
def vP(h1:x.canLay0=true)(h2:x.depth<=64):SeqAt.shaped x=true:=by simp[SeqAt.shaped,h1,h2]
@[simp] theorem bW:eqD neg (.int i) (.int j)=some (.bl (if neg then !decide (i=j) else decide (i=j))):=rfl
@[simp] theorem eqD_bb:eqD neg (.bl b) (.bl c)=some (.bl (if neg then !(b == c) else b == c)):=rfl
@[simp] theorem eR:oEq.p a d=eqD false a d:=rfl
@[simp] theorem fG:oNe.p a d=eqD true a d:=rfl
@[simp] theorem oIn_p:(oIn neg).p a d=inD neg a d:=rfl
theorem eL:∀(k:List Int),pys (k.map .int)=some (k.map .int)/\deps (k.map .int)=0
 | []=>⟨rfl,rfl⟩
 | i::k=>by
  obtain⟨a,b⟩:=eL k;simp[pys,py,a,deps,dep,b]
def i9:∀(ks:List (List Int)),pys (ks.map kD)=some (ks.map fun k=>.tuple (k.map .int))/\deps (ks.map kD)<=1
 | []=>⟨rfl,by simp[deps]⟩
 | k::ks=>by
  obtain⟨a,b⟩:=i9 ks;obtain⟨c,d⟩:=eL k;constructor
  ·simp[pys,kD,py,a,c]
  ·simp only[qaF,deps,kD,dep,d];lia
def oG:∀(xs:List Int),(xs.map PyData.int).any (fun e=>PyData.eqv e (.int x))=decide (x∈xs)
 | []=>by simp
 | y::ys=>by
  rw[qaF,qcu,oG ys]
  have:PyData.eqv (.int y) (.int x)=decide (x=y):=by
   simp[PyData.eqv,Bool.beq_eq_decide_eq,eq_comm]
  grind
def lf:∀(k k':List Int),PyData.eqvAll (k.map .int) (k'.map .int)=decide (k=k')
 | [],[]=>by simp[PyData.eqvAll]
 | [],_::_=>by simp[PyData.eqvAll]
 | _::_,[]=>by simp[PyData.eqvAll]
 | a::k,b::k'=>by
  simp only[qaF,PyData.eqvAll,PyData.eqv,lf k k'];by_cases z:a=b <;> simp[z]
def oK:∀(ks:List (List Int)),(ks.map fun k=>PyData.tuple (k.map .int)).any (fun e=>PyData.eqv e (.tuple (k.map .int)))=decide (k∈ks)
 | []=>by simp
 | y::ys=>by
  rw[qaF,qcu,oK ys]
  have:PyData.eqv (.tuple (y.map .int)) (.tuple (k.map .int))=decide (y=k):=by
   simp only[PyData.eqv,lf]
  grind
def wB{neg:Bool}{x:Int}{d:D}{xs:List Int}(e:d.items=some (xs.map .int)):inD neg (.int x) d=some (.bl (if neg then !decide (x∈xs) else decide (x∈xs))):=by
 obtain⟨a,b⟩:=eL xs;simp only[inD,e,py,a];rw[qag ⟨⟨by simp[dep],by lia⟩,rfl,(fj xs).1⟩,oG]
def iz{neg:Bool}{k:List Int}{d:D}{ks:List (List Int)}(e:d.items=some (ks.map kD)):inD neg (kD k) d=some (.bl (if neg then !decide (k∈ks) else decide (k∈ks))):=by
 obtain⟨a,b⟩:=i9 ks;obtain⟨c,f⟩:=eL k;have pk:py (kD k)=some (.tuple (k.map .int)):=by simp[kD,py,c]
 have hc:(dep (kD k)<=60/\deps (ks.map kD)<=60)/\(PyData.tuple (k.map .int)).canLay0=true/\PyData.canLayAll0 (ks.map fun k=>.tuple (k.map .int))=true:=⟨⟨by simp[kD,dep,f],by lia⟩,by simpa [PyData.canLay0] using (fj k).1,(lm ks).1⟩;unfold inD;rw[e];dsimp only;rw[pk,a];dsimp only;rw[qag hc,oK]
end
@[simp] theorem pGo_nil:pGo g b [] env s=.nx env s:=rfl
theorem lp(e:g d env=some env1):pGo g b (d::ds) env s=(b env1 s).turn (pGo g b ds):=by
 rw[pGo,e]
def eP(I:Nat->av->Pen->Prop):∀(ds:List D) (j:Nat) (env:av) (s:Pen),I j env s ->
  (∀m env s d,I (j+m) env s->ds[m]?=some d->∃env1 env' s',g d env=some env1/\b env1 s=.nx env' s'/\I (j+m+1) env' s')->∃env' s',pGo g b ds env s=.nx env' s'/\I (j+ds.length) env' s'
 | [],j,env,s,hI,_=>⟨env,s,rfl,hI⟩
 | d::ds,j,env,s,hI,st=>by
  obtain⟨env1,env2,s2,e1,e2,I2⟩:=st 0 env s d hI rfl;obtain⟨env3,s3,e3,I3⟩:=eP I ds (j+1) env2 s2 I2 fun m env' s' x q z=>by
   have:=st (m+1) env' s' x (by rw[show j+(m+1)=j+1+m by lia];exact q) (by simpa using z)
   rw[show j+(m+1)+1=j+1+m+1 by lia] at this;exact this
  refine⟨env3,s3,?_,by rw[qaY,show j+(ds.length+1)=j+1+ds.length by lia];exact I3⟩;rw[lp e1,e2];exact e3
def mF(p:D->Bool)(f:D->D):∀(ds:List D) (vs:av),vs.length=nv ->
  (∀x∈ds,∀vs:av,vs.length=nv->∃vs':av,vs'.length=nv/\g x (vs++fr)=some (vs'++fr)/\t (vs'++fr) s=.ok (p x) s/\(p x=true->e (vs'++fr) s=.ok (f x) s))->ec g t e ds (vs++fr) s=.ok ((ds.filter p).map f) s
 | [],vs,hv,body=>rfl
 | x::ds,vs,hv,body=>by
  obtain⟨vs',hv',e1,e2,e3⟩:=body x (by simp) vs hv;have ih:=mF p f ds vs' hv' fun y hy=>body y (qaf _ hy);rw[ec,e1];dsimp only;rw[e2]
  cases hp:p x with
  | true=>simp only[Pb,if_true,e3 hp,ih,List.filter_cons_of_pos hp,qaF]
  | false=>simp only[Pb,qac,if_false,ih,List.filter_cons_of_neg (show ¬p x=true by simp[hp])]
def mW{ws ws':List Nat}{env:av}{s:Pen}{nv:Nat}{fm:List Nat}{i:Xi ws}{g:Xg ws'}{t:Xt ws'}{e:Xe ws'}{hw:cws nv fm ws=ws'}{hz:e.fz=true}{ds:List D}(p:D->Bool)(f:D->D)(ei:i.p env s=.ok ds s)(hl:ds.length<=100000)
  (body:∀x∈ds,∀vs:av,vs.length=nv->∃vs':av,vs'.length=nv/\g.p x (vs++fm.map fun i=>(env[i]?).getD none)=some (vs'++fm.map fun i=>(env[i]?).getD none)/\t.p (vs'++fm.map fun i=>(env[i]?).getD none) s=.ok (p x) s/\(p x=true->e.p (vs'++fm.map fun i=>(env[i]?).getD none) s=.ok (f x) s)) :
  (bx nv fm i g t e hw hz).p env s=.ok (.lst ((ds.filter p).map f)) s:=by
 rw[tF,ei,Pb,qag hl];unfold cenv;rw[mF p f ds _ (by simp) body]
def hJ{ws ws':List Nat}{env:av}{s:Pen}{fm:List Nat}{i:Xi ws}{t:Xt ws'}{e:Xe ws'}{ds:List D}(p:D->Bool)(f:D->D)(ei:i.p env s=.ok ds s)(hl:ds.length<=100000)
  (body:∀x∈ds,t.p (some x::fm.map fun i=>(env[i]?).getD none) s=.ok (p x) s/\(p x=true->e.p (some x::fm.map fun i=>(env[i]?).getD none) s=.ok (f x) s)) (h0:ws'.contains 0=false:=by exact ys rfl) (hw:cws 1 fm ws=ws':=by exact ys rfl) (hz:e.fz=true:=by exact ys rfl) :
  (bx 1 fm i (xNm 0 h0) t e hw hz).p env s=.ok (.lst ((ds.filter p).map f)) s :=
 mW p f ei hl fun x hx vs hv=>match vs,hv with
  | [_],_=>⟨[some x],rfl,rfl,body x hx⟩
def comp2{ws ws':List Nat}{env:av}{s:Pen}{fm:List Nat}{i:Xi ws}{t:Xt ws'}{e:Xe ws'}{ds:List D}(p:D->Bool)(f:D->D)(ei:i.p env s=.ok ds s)(hl:ds.length<=100000)
  (body:∀x∈ds,∃a b,x=.tup [a,b]/\t.p (some a::some b::fm.map fun i=>(env[i]?).getD none) s=.ok (p x) s/\(p x=true->e.p (some a::some b::fm.map fun i=>(env[i]?).getD none) s=.ok (f x) s)) (h0:ws'.contains 0=false:=by exact ys rfl) (h1:ws'.contains 1=false:=by exact ys rfl) (hw:cws 2 fm ws=ws':=by exact ys rfl) (hz:e.fz=true:=by exact ys rfl) :
  (bx 2 fm i (xGp (xGc (xNm 0 h0) (xGc (xNm 1 h1) xGl)) 2) t e hw hz).p env s=.ok (.lst ((ds.filter p).map f)) s :=
 mW p f ei hl fun x hx vs hv=>match vs,hv with
  | [_,_],_=>let ⟨a,b,e,q⟩:=body x hx;⟨[some a,some b],rfl,by subst e;rfl,q⟩
end PU
namespace PU
open PySem MM SetT SortT
open L2 (ixN atI dr)
def cU{α:Type}(l:List α):(l.filter fun _=>true)=l:=List.filter_eq_self.mpr (by simp)
def IsT(n:Int)(k:List Int):Prop:=∃a b:Int,k=[a,b]/\0<=a/\a<n/\0<=b/\b<n/\a≠b
def mmK:List Int->List Int
 | [a,b]=>[if b<a then b else a,if b>a then b else a]
 | k=>k
structure WebT (n:Int) (ks:List (List Int)):Prop where
 n0:0<=n
 n12:n<=12
 tie:∀k∈ks,∃a b:Int,k=[a,b]/\0<=a/\a<b/\b<n
 ris:SortT.Ris ks
 nd:ks.Nodup
def WebT.isT(w:WebT n ks):∀k∈ks,IsT n k:=fun k hk=>by
 obtain⟨a,b,rfl,h1,h2,h3⟩:=w.tie k hk;exact⟨a,b,rfl,h1,by lia,by lia,h3,by lia⟩
def allT:List (List Int):=(List.range 12).flatMap fun b=>(List.range b).map fun (a:Nat)=>[(a:Int),(b:Int)]
def xc:allT.length=66:=by decide
def xX(hn:n<=12)(h0:0<=a)(h1:a<b)(h2:b<n):[a,b]∈allT:=by
 unfold allT;rw[qcj];refine⟨b.toNat,by simp;lia,?_⟩;rw[qaC];refine⟨a.toNat,by simp;lia,?_⟩;congr 1
 ·lia
 ·lia
def kG{n:Int}{ks:List (List Int)}(hn:n<=12)(hk:∀k∈ks,∃a b:Int,k=[a,b]/\0<=a/\a<b/\b<n)(nd:ks.Nodup):ks.length<=66:=by
 rw[<-xc];refine List.Nodup.length_le_of_subset nd fun k hk'=>?_;obtain⟨a,b,rfl,h1,h2,h3⟩:=hk k hk';exact xX hn h1 h2 h3
def iT(h:a<b):mmK [a,b]=[a,b]:=by simp[mmK,show ¬b<a by lia,show b>a from h]
def jN(h:b<a):mmK [a,b]=[b,a]:=by simp[mmK,h,show ¬b>a by lia]
def upto(n:Nat):List Int:=(List.range n).map fun (i:Nat)=>(i:Int)
def jn:i∈upto n↔0<=i/\i<n:=by
 unfold upto;rw[qaC];constructor
 ·rintro⟨k,hk,rfl⟩;rw[qbp] at hk;lia
 ·intro ⟨a,b⟩;exact⟨i.toNat,by rw[qbp];lia,by lia⟩
def sG(n:Nat):(upto n).Nodup:=by
 exact List.Pairwise.map _ (fun a b h=>by lia) qcy
def cR(h:0<=i):∃n:Nat,i=(n:Int):=⟨i.toNat,by lia⟩
def bo(ns:List Int)(j:Nat):List (List Int):=(List.range j).flatMap fun i=>(ns.drop (i+1)).map fun b=>[ns.getD i 0,b]
def rK:bo ns (j+1)=bo ns j++(ns.drop (j+1)).map fun b=>[ns.getD j 0,b]:=by
 simp[bo,List.range_succ]
def i7(hn:ns.length<=12):∀(j:Nat),(bo ns j).length<=12 * j
 | 0=>by simp[bo]
 | j+1=>by
  have:=i7 hn j
  rw[rK,qaQ,qal,qbm];lia
end PU
namespace PU
open PySem MM SetT SortT
open L2 (ixN atI dr)
local instance (priority:=1) cdecN10 (p:Prop):Decidable p:=Classical.propDecidable p
noncomputable section
def qA:D->Option Bool
 | .non=>some false
 | .bl b=>some b
 | .int i=>some (i != 0)
 | .tup xs=>some (!xs.isEmpty)
 | .lst xs=>some (!xs.isEmpty)
 | _=>none
def Rps.empty(r:Rps p h O ds vs):vs.isEmpty=ds.isEmpty:=by
 cases ds with
 | nil=>rw[show vs=[] from r];rfl
 | cons d ds=>obtain⟨x,t,e,_⟩:=r;rw[e];rfl
def qg(w:Vw q h L O d v)(e:qA d=some b):lL h v=some b:=by
 cases d with
 | non=>cases e;rw[w.non];rfl
 | bl c=>cases e;rw[w.bl];rfl
 | int c=>cases e;rw[w.int];rfl
 | tup c=>cases e;obtain⟨xs,rfl,r⟩:=w.tup;rw[lL,r.empty]
 | lst c=>cases e;obtain⟨n,xs,rfl,g,r⟩:=w.lst;simp only[lL,g];rw[r.empty]
 | _=>cases e
section
variable {ws:List Nat}
structure OpR where
 m:Nat->List PV->MH->Out PV
 p:List D->List D->Option D
 ok:∀{q:Nat} {h:MH} {L:Nat} {O:List Nat} {n:Nat} {xs:List PV} {ds as:List D} {vs:List PV} {d:D},h[n]?=some (.lst xs)->Rps q h O ds xs->Vws q h L O as vs->p ds as=some d->∃v,m n vs h=.ok v h/\Rp q h O d v/\∀es,d≠.lst es
end
section
variable {ws:List Nat} {env:av} {s:Pen}
end
end
noncomputable section
section
variable {ws:List Nat}
def pK(i j:Nat)(a:Xs ws)(hi:ws.contains i=false:=by exact ys rfl)(hj:ws.contains j=false:=by exact ys rfl)(hz:a.fz=true:=by exact ys rfl):Xd ws where
 m:=mPar i j a.m
 p:=fun env s=>(a.p env s).go env fun ds env s=>match ds with
  | [x,y]=>.nx ((env.set i (some x)).set j (some y)) s
  | _=>.bad
 fr:=true
 ok {q h L B O σ env s} c d:=by
  refine SOk.ex (f:=fun vs σ h=>match vs with | [v,w]=>.nx ((σ.set i (some v)).set j (some w)) h | _=>.bad) (g:=fun ds env s=>match ds with | [x,y]=>.nx ((env.set i (some x)).set j (some y)) s | _=>.bad) c d (a.ok c) fun xs vs h1 s1 kb c1 ⟨_,z⟩=>?_;have z:=z hz
  match xs,z with
  | [],_=>trivial
  | [_],_=>trivial
  | [x,y],z =>
   obtain⟨v,t,rfl,rv,t2⟩:=z;obtain⟨w,t3,rfl,rw',rfl⟩:=t2;obtain⟨a1,b1⟩:=c1.sr.set (i:=i) (fun z=>by simp[z] at hi) rv;obtain⟨a2,b2⟩:=a1.set (i:=j) (fun z=>by simp[z] at hj) rw';exact⟨_,h1,rfl,O,Stp.refl _ _ _ _,⟨c1.bd,c1.sub,c1.bb,c1.pb,c1.hL,c1.pen,a2⟩,(d.keep b1).keep b2⟩
  | _::_::_::_,_=>trivial
variable {env:av} {s:Pen}
@[simp] theorem xPar_p:(pK i j a hi hj hz).p env s=(a.p env s).go env fun ds env s=>match ds with
  | [x,y]=>.nx ((env.set i (some x)).set j (some y)) s
  | _=>.bad:=rfl
end
end
noncomputable section
section
variable {ws:List Nat}
end
end
noncomputable section
variable {ws:List Nat}
end
end PU
namespace MM
open PySem PySem.Spec PyProof.Rows L2
def mBad:Mst:=fun _ _=>.bad
def ms_bad{X:Cx}{st:Stmt}:MS X st mBad:=fun Iv s σ H D I ⟨ρ,σp,h,rs,rh,q⟩=>q.elim
end MM
namespace PU
open PySem MM
def xBad{ws:List Nat}:Xd ws where
 m:=mBad
 p:=fun _ _=>.bad
 fr:=true
 ok _ _:=trivial
end PU
namespace MM
open PySem PySem.Spec PyProof.Rows L2
abbrev CPm(scope sc:Scope)(vars frees:List Str):Prop:=(∀y∈scope.names,y.2=.cell->scope.names.lookup y.1=some .cell)/\(∀y∈scope.names,y.2=.local->scope.names.lookup y.1=some .local)/\(∀x∈vars,scope.names.lookup x=some .local\/scope.names.lookup x=some .cell)/\(∀x∈frees,scope.names.lookup x=some .free)/\(∀y∈scope.names,y.2=.free->y.1∈frees)/\(∀x∈frees,sc.names.lookup x=some .cell)
def rlb(scope sc:Scope):Scope:={ scope with names:=scope.names.map fun (n,k)=>if (k == .free && sc.kind == .function && sc.names.lookup n == some .cell) then (n,.cell) else (n,k)}
def rlb_eq{scope sc:Scope}{env:Env}(h:env.scope=sc):relabel scope env=rlb scope sc:=by subst h;rfl
def compOk1{X:Cx}{N:List Str}{scope sc:Scope}{vars frees:List Str}{fm:List Nat}(hsc:X.env.scope=sc)(h1:scope.kind=.function)(h7:fm.map (fun i=>N[i]?)=frees.map some)(h:CPm scope sc vars frees):CompOk X N scope vars frees fm :=
 compOk hsc h1 h.1 h.2.1 h.2.2.1 h.2.2.2.1 h.2.2.2.2.1 h7 h.2.2.2.2.2
def ar1{Q:List Value->Prop}(h:∀a0,Q [a0]):∀us,us.length=1->Q us
 | [_],_=>h _
def ar2{Q:List Value->Prop}(h:∀a0 a1,Q [a0,a1]):∀us,us.length=2->Q us
 | [_,_],_=>h _ _
def ar3{Q:List Value->Prop}(h:∀a0 a1 a2,Q [a0,a1,a2]):∀us,us.length=3->Q us
 | [_,_,_],_=>h _ _ _
def ar4{Q:List Value->Prop}(h:∀a0 a1 a2 a3,Q [a0,a1,a2,a3]):∀us,us.length=4->Q us
 | [_,_,_,_],_=>h _ _ _ _
abbrev Zn(K:qaa)(x:Str):Prop:=PySem.W.nsIn K mainGlobals x=some none
abbrev Nn(X:Cx)(x:Str):Prop:=X.mg x=none
abbrev Sc(X:Cx)(s:Stmt):Prop:=X.env.scope=am s
abbrev Gd(X:Cx)(N G:List Str)(k:Nat):Prop:=Good X N N G k
structure Ba (P:Program) (w:World) (K:qaa) (mg:Str->Option Value) (base:Heap):Prop where
 kin:K.In base
 ns:base.Ns mainGlobals mg
structure EE (X:Cx) (P:Program) (w:World) (K:qaa) (mg:Str->Option Value) (base:Heap):Prop where
 e1:X.prog=P
 e2:X.w=w
 e3:X.K=K
 e4:X.mg=mg
 e5:X.base=base
 b:Ba P w K mg base
section
variable {P:Program} {w:World} {K:qaa} {mg:Str→Option Value} {base:Heap} {X:Cx}
def EE.n(e:EE X P w K mg base){x:Str}(z:Zn K x):Nn X x:=by
 show X.mg x=none;rw[e.e4];exact PySem.W.mg_none_of e.b.kin e.b.ns z
def FnAt.c{x:Str}{ps:List Str}{F:List PV->MH->Out PV}{i j:Nat}(a:FnAt P w K mg base x ps F i)(e:EE X P w K mg base)(h:i<=j:=by decide):Cal X x ps F j :=
 (a.mono h).cal e.e1 e.e2 e.e3 e.e4 e.e5
def fnN{x:Str}{st:Stmt}{N G ps:List Str}{m:Mst}{k:Nat}(b:Ba P w K mg base)(D:DefAt K x st)(hb:∀X:Cx,EE X P w K mg base->Sc X st->Gd X N G k->DefCx X->MSs X (aI st) m)
  (B:iH x st ps:=by first | exact fun _ _ _ _ _ _=>ar1 fun _=>rfl | exact fun _ _ _ _ _ _=>ar2 fun _ _=>rfl | exact fun _ _ _ _ _ _=>ar3 fun _ _ _=>rfl | exact fun _ _ _ _ _ _=>ar4 fun _ _ _ _=>rfl | exact fun _ _ _ _ _ _=>ar5 fun _ _ _ _ _=>rfl)
  (S:FnScope N ps (am st):=by exact⟨rfl,rfl,rfl,by decide +kernel,rfl,by decide +kernel,by decide +kernel⟩)
  (hl:∀y∈N,(am st).names.lookup y=some .local\/(am st).names.lookup y=some .cell:=by decide +kernel) (hgl:∀y∈G,(am st).names.lookup y=some .globalImplicit:=by decide +kernel)
  (dbg:∀x∈N++G,(x == ("__debug__":Str))=false/\(x == ("__classdict__":Str))=false/\x≠"__name__":=by decide +kernel) :
  FnAt P w K mg base x ps (eD N.length ps.length m) (k+1) :=
 v8 b.kin b.ns D S B hl hgl dbg fun X e1 e2 e3 e4 e5 e6 g dc=>hb X ⟨e1,e2,e3,e4,e5,b⟩ e6 g dc
end
structure YE (Y X:Cx):Prop where
 e1:Y.prog=X.prog
 e2:Y.w=X.w
 e3:Y.K=X.K
 e4:Y.mg=X.mg
 e5:Y.base=X.base
section
variable {X Y:Cx} {N W G:List Str} {k:Nat} {x:Str} {p pos:Pos} {e:Expr} {es:List Expr} {m:Mx (List PV)} {f:List PV→MH→Out PV}
def kV(g:Good X N W G k)(i:Nat)(hi:N[i]?=some x:=by rfl):ME X (.Name x pos) (aq i):=wM g i hi
def kNm(g:Good X N W G k)(i:Nat)(hi:N[i]?=some x:=by rfl)(hw:W[i]?=some x:=by rfl):MG X (.Name x pos) (gNm i):=sX g i hi hw
def kIx{a b:Expr}{ma mb:Mx PV}(ha:ME X a ma)(hb:ME X b mb)(hs:kU b:=by exact fun _ _=>rfl):ME X (.Subscript a b pos) (az bT ma mb):=me_ix ha hb hs
def kCm{op:CmpOp}{f:PV->PV->MH->Out PV}{a b:Expr}{ma mb:Mx PV}(ho:OpJ X (compareOp op) f)(ha:ME X a ma)(hb:ME X b mb)(hm:behindInMarks op b=false:=by first | exact nomark _ | rfl):ME X (.Compare a [op] [b] pos) (az f ma mb):=vK ho ha hb hm
def kTc{op:CmpOp}{f:PV->PV->MH->Out PV}{a b:Expr}{ma mb:Mx PV}(ho:OpJ X (compareOp op) f)(ha:ME X a ma)(hb:ME X b mb)(hm:behindInMarks op b=false:=by first | exact nomark _ | rfl):MT X (.Compare a [op] [b] pos) (mB (az f ma mb)):=wG ho ha hb hm
def kCa(g:Good X N W G k)(j:Nat){ps:List Str}{F:List PV->MH->Out PV}(C:Cal X x ps F k)(ha:MA X (e::es) m)(hj:G[j]?=some x:=by rfl)
  (he:starEach (e::es) X.env=(false,eval e X.env)::starEach es X.env:=by rfl) (hpl:(backTo pos (starEach es X.env)).any (·.1)=false:=by rfl):ME X (.Call (.Name x p) (e::es) [] pos) (b8 F m):=nN g hj C ha he hpl
def kCb{id:String}(g:Good X N W G k)(j:Nat)(hc:cu X (.builtin id) f)(hm:X.mg x=none)(hv:bootBuiltins x=some (.builtin id))(ha:MA X (e::es) m)(hj:G[j]?=some x:=by rfl)
  (he:starEach (e::es) X.env=(false,eval e X.env)::starEach es X.env:=by rfl) (hpl:(backTo pos (starEach es X.env)).any (·.1)=false:=by rfl):ME X (.Call (.Name x p) (e::es) [] pos) (mCB f m):=pN g j hj hc hm hv ha he hpl
def kR1{tg a:Expr}(g:Good X N W G k)(j:Nat)(hm:X.mg "range"=none)(ha:MA X [a] m)(hj:G[j]?=some "range":=by rfl)(hs:starEach [a] X.env=[(false,eval a X.env)]:=by rfl):MI X tg (.Call (.Name "range" p) [a] [] pos) (kJ m):=oW (g.gl _ (aZ hj)) hm ha hs
def kEn{elts:List Expr}{x1:Nat}{tp:Pos}{a:Expr}(g:Good X N W G k)(j:Nat)(hm:X.mg "enumerate"=none)(ha:MA X [a] m)(hj:G[j]?=some (("enumerate":String):Str):=by rfl)(hs:starEach [a] X.env=[(false,eval a X.env)]:=by rfl):MI X (.Tuple elts x1 tp) (.Call (.Name "enumerate" p) [a] [] pos) (mItE m):=sO g hj hm ha hs
section
variable {tg iter elt:Expr} {ifs:List Expr} {scope sc:Scope} {mi:Mx MIt} {gt:Mg} {mt:Mx Bool} {me:Mx PV}
end
end
abbrev wQ:=@PyProof.Rows.Boot.«abs»
abbrev jD:=@PyProof.Rows.Boot.«min»
abbrev u6:=@PyProof.Rows.Boot.«max»
abbrev bt_int:=@PyProof.Rows.Boot.«int»
abbrev bt_str:=@PyProof.Rows.Boot.«str»
abbrev fK:=@PyProof.Rows.Boot.«len»
abbrev sQ:=@PyProof.Rows.Boot.«list»
abbrev qT:=@PyProof.Rows.Boot.«tuple»
abbrev kZ:=@PyProof.Rows.Boot.«repr»
abbrev bt_all:=@PyProof.Rows.Boot.«all»
abbrev wk:=@PyProof.Rows.Boot.«sorted»
abbrev bt_bool:=@PyProof.Rows.Boot.«bool»
abbrev wP:=@PySem.F.slot_list_append
abbrev u8:=@PySem.F.type_list_append
abbrev wp:=@PySem.F.slot_list_extend
abbrev wZ:=@PySem.F.type_list_extend
abbrev uH:=@PySem.F.slot_list_reverse
abbrev uI:=@PySem.F.type_list_reverse
abbrev wL:=@PySem.F.slot_list_insert
abbrev wt:=@PySem.F.type_list_insert
end MM
namespace PU
open PySem MM
open L2 (ixN atI dr)
local instance (priority:=1) cdecN15 (p:Prop):Decidable p:=Classical.propDecidable p
noncomputable section
def Rps.rev{p:Nat}{h:MH}{O:List Nat}{ds:List D}{vs:List PV}(r:Rps p h O ds vs):Rps p h O ds.reverse vs.reverse:=by
 induction ds generalizing vs with
 | nil=>rw[show vs=[] from r];rfl
 | cons d ds ih =>
  obtain⟨x,t,e,a,b⟩:=r;subst e;rw[qbA,qbA];exact (ih b).app ⟨x,[],rfl,a,rfl⟩
section
variable {ws:List Nat}
end
end
noncomputable section
end
noncomputable section
def cLS:OpN where
 k:=fun vs h1=>match vs with
  | [x]=>(match (cO h1 x).bind fX with
   | some ns=>if ns.length<=1000 then .ok (.int (many ns)) h1 else .bad
   | none=>.bad)
  | _=>.bad
 p:=fun as=>match as with
  | [.lst ds]=>(bQ ds).bind fun ns=>if ns.length<=1000 then some (.int (many ns)) else none
  | _=>none
 fr:=true
 ok {q h L O as xs d} bd w e:=by
  match as,e with
  | [.lst ds],e =>
   obtain⟨x,rfl,wx⟩:=ff w;obtain⟨zs,e0,r⟩:=wx.lstOf;rw[qaP] at e;obtain⟨ns,e1,e2⟩:=e;by_cases z:ns.length<=1000
   ·rw[qag z] at e2;cases e2;simp only[e0,qaO,gR r e1,jC];rw[qag z];exact gvI
   ·rw[qao z] at e2;cases e2
def cLS_i{ns:List Int}(h:ns.length<=1000):cLS.p [.lst (ns.map .int)]=some (.int (many ns)):=by
 have e:∀ns:List Int,bQ (ns.map .int)=some ns:=fun ns=>by
  induction ns with
  | nil=>rfl
  | cons i k ih=>rw[qaF,bQ,ih];rfl
 show (bQ (ns.map .int)).bind _=_;rw[e,qaO,qag h]
end
def nD{ns:List Int}:many ns=ns.length↔ns.Nodup:=by
 have key:∀j,j<=ns.length->(∀k,k∈PyProof.Rows.firstMet (fun i=>ns.getD i 0) j↔k∈ns.take j)/\((PyProof.Rows.firstMet (fun i=>ns.getD i 0) j).length=j↔(ns.take j).Nodup):=by
  intro j
  induction j with
  | zero=>simp[PyProof.Rows.firstMet_zero]
  | succ j ih =>
   intro hj;obtain⟨a,b⟩:=ih (by lia);have hj':j<ns.length:=by lia
   have et:ns.take (j+1)=ns.take j++[ns[j]]:=by simp
   have eg:ns.getD j 0=ns[j]:=by simp[hj']
   have ea:(PyProof.Rows.firstMet (fun i=>ns.getD i 0) j).any (· == ns.getD j 0)=decide (ns[j]∈ns.take j):=by
    rw[qcJ,qcz,decide_eq_true_iff,<-a,eg];exact⟨fun ⟨x,hx,e⟩=>by rw[<-eq_of_beq e];exact hx,fun h=>⟨_,h,by simp⟩⟩
   have hle:=PyProof.Rows.firstMet_length_le (fun i=>ns.getD i 0) j;rw[PyProof.Rows.firstMet_succ,et];constructor
   ·intro k
    have:=PyProof.Rows.step_any (PyProof.Rows.firstMet (fun i=>ns.getD i 0) j) (ns.getD j 0) k
    rw[qcJ,qcz,Bool.or_eq_true,qcz,decide_eq_true_iff,eg] at this;rw[qav,qcd,<-a];constructor
    ·intro h;rw[eg] at h;rcases this.mp ⟨k,h,by simp⟩ with ⟨x,hx,e⟩|e
     ·rw[<-eq_of_beq e];exact .inl hx
     ·exact .inr e
    ·intro h;obtain⟨x,hx,e⟩:=this.mpr (h.imp (fun h=>⟨k,h,by simp⟩) id);rw[eg,<-eq_of_beq e];exact hx
   ·rw[PyProof.Rows.step_length,ea,qcg];by_cases z:ns[j]∈ns.take j
    ·exact⟨fun h=>by lia,fun h=>absurd rfl (h.2.2 _ z _ (by simp))⟩
    ·simp only[z,decide_false,qac];constructor
     ·intro h
      exact⟨b.mp (by lia),by simp,fun x hx y hy e=>z (by
       have:y=ns[j]:=by simpa using hy
       rw[<-this,<-e];exact hx)⟩
     ·intro h;lia
 have:=(key ns.length (qah _)).2
 rw[List.take_length] at this;exact this
end PU
namespace PU
open PySem MM
open L2 (ixN atI dr)
section
variable {ws:List Nat}
def pC(a:Xe ws):Xe ws where
 m:=mNotT a.m
 p:=fun env s=>(a.p env s).bind fun d s=>.of ((qA d).map fun b=>.bl (!b)) s
 fz:=true
 fr:=true
 ok {q h L B O σ env s} c:=by
  refine (a.ok c).bind fun x v h1 s1 k1 p1 ⟨w,_,_⟩=>?_
  cases e:qA x with
  | none=>trivial
  | some b=>rw[qg w e];exact⟨_,h1,rfl,KB.refl _ _,p1,.inl rfl,fun _=>rfl,fun _ es ee=>by cases ee⟩
@[simp] theorem xNotT_p{a:Xe ws}{env:av}{s:Pen}:(pC a).p env s=(a.p env s).bind fun d s=>.of ((qA d).map fun b=>.bl (!b)) s:=rfl
end
end PU
namespace PU
open PySem MM L2
end PU
namespace PU
open PySem MM L2
local instance (priority:=1) cdecN22 (p:Prop):Decidable p:=Classical.propDecidable p
noncomputable section
def gvS{q:Nat}{h:MH}{O:List Nat}{fr:Bool}{x:Str}:Gv q h O fr (.ok (.str x) h) (.str x):=gv0 rfl fun _ _ e=>by cases e
def f6(d:D):Option Str:=match d with
 | .non=>some "None"
 | .bl b=>some (if b then "True" else "False")
 | .int i=>if i.natAbs.log2<1920 then some (toString i) else none
 | .str x=>if (reprText x).length<=sizeLine then some (reprText x) else none
 | .dic=>some "{}"
 | .tup ds=>(match py (.tup ds) with
  | some e=>if dep (.tup ds)<=60/\e.showable=true/\e.shown.length<=sizeLine then some e.shown else none
  | none=>none)
 | .lst ds=>(match py (.lst ds) with
  | some e=>if dep (.lst ds)<=60/\e.showable=true/\e.shown.length<=sizeLine then some e.shown else none
  | none=>none)
 | _=>none
def kM:OpN where
 k:=fun xs h=>(fReprA xs h).ne
 p:=fun as=>match as with
  | [d]=>(f6 d).map .str
  | _=>none
 fr:=true
 ok {q h L O as xs d} bd w e:=by
  match as,e with
  | [a],e =>
   obtain⟨x,rfl,wx⟩:=ff w;rw[qax] at e;obtain⟨u,e1,rfl⟩:=e
   cases a with
   | non=>cases e1;rw[wx.non];exact gvS
   | bl b=>cases e1;rw[wx.bl];exact gvS
   | int i =>
    rw[wx.int];unfold f6 at e1;by_cases z:i.natAbs.log2<1920
    ·dsimp only at e1;rw[qag z] at e1;cases e1;show Gv q h O true (fReprA [.int i] h).ne _;simp only[fReprA];rw[qag z];exact gvS
    ·dsimp only at e1;rw[qao z] at e1;cases e1
   | str y =>
    rw[wx.str];unfold f6 at e1;by_cases z:(reprText y).length<=sizeLine
    ·dsimp only at e1;rw[qag z] at e1;cases e1;show Gv q h O true (fReprA [.str y] h).ne _;simp only[fReprA];rw[qag z];exact gvS
    ·dsimp only at e1;rw[qao z] at e1;cases e1
   | dic =>
    cases e1;rcases wx with ⟨n,e,no,g⟩|⟨n,xs,ds,e,_⟩
    ·subst e;show Gv q h O true (fReprA [.loc n] h).ne _;simp only[fReprA,g];exact gvS
    ·cases e
   | tup ds =>
    unfold f6 at e1;dsimp only at e1
    cases ep:py (.tup ds) with
    | none=>rw[ep] at e1;cases e1
    | some t =>
     rw[ep] at e1;dsimp only at e1;by_cases z:dep (.tup ds)<=60/\t.showable=true/\t.shown.length<=sizeLine
     ·rw[qag z] at e1;cases e1;have rd1:=iY wx ep z.1;obtain⟨zs,rfl,_⟩:=wx.tup;show Gv q h O true (fReprA [.tup zs] h).ne _;simp only[fReprA,fRepr,rd1];rw[qag z.2];exact gvS
     ·rw[qao z] at e1;cases e1
   | lst ds =>
    unfold f6 at e1;dsimp only at e1
    cases ep:py (.lst ds) with
    | none=>rw[ep] at e1;cases e1
    | some t =>
     rw[ep] at e1;dsimp only at e1;by_cases z:dep (.lst ds)<=60/\t.showable=true/\t.shown.length<=sizeLine
     ·rw[qag z] at e1;cases e1;have rd1:=iY wx ep z.1;obtain⟨n,zs,rfl,g,_⟩:=wx.lst;show Gv q h O true (fReprA [.loc n] h).ne _;simp only[fReprA,g,fRepr,rd1];rw[qag z.2];exact gvS
     ·rw[qao z] at e1;cases e1
   | _=>cases e1
end
end PU
namespace MM
open PySem PySem.Spec PyProof.Rows L2
open PU (Xe Xs Xt Xi Xg Xgs Xo Xd Op1 Op2 OpN OpI OpM OpR Fn ac xC ae xUn xNil aa xCb aB pE br aM xDic xB dJ rE xOr xTrue cP pJ pC mR bx bU bD xNm xGl xGc xGp aK xSkip aT kF xIf bO fH xAsg cW xMt nV bK xNo xPt xSl pK xBad)
structure MT1 (X:Cx) (e:Expr) (m:Mx Bool):Prop where
 h:MT X e m
structure MW1 (X:Cx) (e:Expr) (m:Mx Bool):Prop where
 h:MW X e m
structure MI1 (X:Cx) (tg e:Expr) (m:Mx MIt):Prop where
 h:MI X tg e m
structure MG1 (X:Cx) (e:Expr) (m:Mg):Prop where
 h:MG X e m
structure MG2 (X:Cx) (e:List Expr) (m:Mgs):Prop where
 h:MGs X e m
structure MT2 (X:Cx) (e:List Expr) (m:Mx Bool):Prop where
 h:MTs X e m
structure MO1 (X:Cx) (e:Option Expr) (m:Mx (Option Int)):Prop where
 h:MO' X e m
structure OJ (X:Cx) (r:Value->Value->Sem Value) (o:Op2):Prop where
 h:OpJ X r o.m
def sGl(sc:Scope):List Str:=(sc.names.filter fun y=>match y.2 with | .globalImplicit=>true | _=>false).map (·.1)
abbrev gm(sc:Scope)(x:Str):Prop:=x∈sGl sc
def tgN:Expr->List Str
 | .Name x _=>[x]
 | .Tuple es _ _=>es.flatMap fun e=>match e with
  | .Name x _=>[x]
  | .Tuple es _ _=>es.flatMap fun e=>match e with
   | .Name x _=>[x]
   | _=>[]
  | _=>[]
 | _=>[]
def frN(N:List Str)(fm:List Nat):List Str:=fm.filterMap (N[·]?)
structure Wc (X:Cx) (P:Program) (w:World) (K:qaa) (mg:Str->Option Value) (base:Heap) (N W:List Str) (k:Nat) (sc:Scope):Prop where
 g:Good X N W (sGl sc) k
 e:EE X P w K mg base
 s:X.env.scope=sc
section
variable {X Y:Cx} {P:Program} {w:World} {K:qaa} {mg:Str→Option Value} {base:Heap} {N W:List Str} {k:Nat} {sc:Scope} {ws:List Nat} {x y:Str} {p p' pos spos:Pos} {e a b d tg:Expr} {es:List Expr} {i j:Nat} {st:Stmt} {rest body:List Stmt} {xa xb xd:Xe ws} {ta tb:Xt ws} {sa:Xs ws} {da db:Xd ws}
def Wc.gj(c:Wc X P w K mg base N W k sc)(h:gm sc x):∃j:Nat,(sGl sc)[j]?=some x:=List.getElem?_of_mem h
def Wc.n(c:Wc X P w K mg base N W k sc)(z:Zn K x):X.mg x=none:=c.e.n z
def w_int{i:Int}:ME1 X (.Constant (.int i) j pos) (xC (ws:=ws) (.int i)).m:=⟨aC⟩
def w_str{i:Str}:ME1 X (.Constant (.str i) j pos) (xC (ws:=ws) (.str i)).m:=⟨vD⟩
def w_bl{i:Bool}:ME1 X (.Constant (.bool i) j pos) (xC (ws:=ws) (.bl i)).m:=⟨k8⟩
def w_non:ME1 X (.Constant .none j pos) (xC (ws:=ws) .non).m:=⟨me_non⟩
def w_bin{op:Operator}{o:Op2}(ho:OJ X (binaryOp op) o)(ha:ME1 X a xa.m)(hb:ME1 X b xb.m):ME1 X (.BinOp a op b pos) (ae o xa xb).m:=⟨aL ho.h ha.h hb.h⟩
def w_cmp{op:CmpOp}{o:Op2}(ho:OJ X (compareOp op) o)(ha:ME1 X a xa.m)(hb:ME1 X b xb.m)(hm:behindInMarks op b=false):ME1 X (.Compare a [op] [b] pos) (ae o xa xb).m:=⟨vK ho.h ha.h hb.h hm⟩
def w_ix(ha:ME1 X a xa.m)(hb:ME1 X b xb.m)(hs:kU b):ME1 X (.Subscript a b pos) (ae PU.oIx xa xb).m:=⟨me_ix ha.h hb.h hs⟩
def w_neg(ha:ME1 X a xa.m):ME1 X (.UnaryOp .USub a pos) (xUn PU.jO xa).m:=⟨ur qM ha.h⟩
def w_notV(ha:ME1 X a xa.m):ME1 X (.UnaryOp .Not a pos) (pJ xa).m:=⟨me_not ha.h⟩
def w_notT(ha:ME1 X a xa.m):ME1 X (.UnaryOp .Not a pos) (pC xa).m:=⟨me_notT ha.h⟩
def w_chain{op op':CmpOp}{o o':Op2}(ho:OJ X (compareOp op) o)(ho':OJ X (compareOp op') o')(ha:ME1 X a xa.m)(hb:ME1 X b xb.m)(hd:ME1 X d xd.m)(hm:lastMarks [op,op'] [b,d]=false):ME1 X (.Compare a [op,op'] [b,d] pos) (mR o o' xa xb xd).m:=⟨xV ho.h ho'.h ha.h hb.h hd.h hm⟩
def w_one{op:BoolOp}(ha:ME1 X a xa.m):ME1 X (.BoolOp op [a] pos) xa.m:=⟨wg ha.h⟩
def w_andV(ha:ME1 X a xa.m)(hb:ME1 X (.BoolOp .And (b::es) pos) xb.m):ME1 X (.BoolOp .And (a::b::es) pos) (cP xa xb).m:=⟨pQ ha.h hb.h⟩
def w_tup{hz}(h:MAs X es sa.m):ME1 X (.Tuple es j pos) (aM sa hz).m:=t_1 h
def w_lst{hz}(h:MAs X es sa.m):ME1 X (.List es pos) (br sa hz).m:=l_1 h
def w_dic:ME1 X (.Dict [] [] pos) (xDic (ws:=ws)).m:=⟨me_dic0⟩
def w_sl{lo hi:Option Expr}{ol oh:Xo ws}(ha:ME1 X a xa.m)(hl:MO1 X lo ol.m)(hh:MO1 X hi oh.m):ME1 X (.Subscript a (.Slice lo hi none p) pos) (xSl xa ol oh).m:=⟨me_sl ha.h hl.h hh.h⟩
def w_no:MO1 X none (xNo (ws:=ws)).m:=⟨sE⟩
def w_pt(ha:ME1 X a xa.m):MO1 X (some a) (xPt xa).m:=⟨sF ha.h⟩
def w_nil:MAs X [] (xNil (ws:=ws)).m:=fb
def w_cons(ha:ME1 X e xa.m)(hs:MAs X es sa.m)(hp:bv e=true):MAs X (e::es) (aa xa sa).m:=bf ha hs hp
def j_Add:OJ X (binaryOp .Add) PU.bJ:=⟨dW⟩
def j_Sub:OJ X (binaryOp .Sub) PU.bP:=⟨iL⟩
def j_Mul:OJ X (binaryOp .Mult) PU.qo:=⟨fO⟩
def j_Lt:OJ X (compareOp .Lt) PU.oLt:=⟨oj_lt⟩
def j_Le:OJ X (compareOp .LtE) PU.oLe:=⟨oj_le⟩
def j_Gt:OJ X (compareOp .Gt) PU.oGt:=⟨uy⟩
def j_Ge:OJ X (compareOp .GtE) PU.oGe:=⟨uM⟩
section
variable (c:Wc X P w K mg base N W k sc)
include c
def w_var(hi:N[i]?=some x):ME1 X (.Name x pos) (ac (ws:=ws) i).m:=⟨wM c.g i hi⟩
def j_Eq:OJ X (compareOp .Eq) PU.oEq:=⟨oj_eq c.g.room⟩
def j_Ne:OJ X (compareOp .NotEq) PU.oNe:=⟨oj_ne c.g.room⟩
def j_In:OJ X (compareOp .In) (PU.oIn false):=⟨oj_in c.g.room false⟩
def j_Inn:OJ X (compareOp .NotIn) (PU.oIn true):=⟨oj_in c.g.room true⟩
end
def eW{env:Env}:∀{es:List Expr},es.all bv=true->(backTo pos (starEach es env)).any (·.1)=false
 | [],_=>rfl
 | e::es,h=>by
  have h':bv e=true/\es.all bv=true:=by simpa using h
  have:=eW (env:=env) h'.2
  rw[bg h'.1];simpa [backTo] using this
section
variable (c:Wc X P w K mg base N W k sc)
include c
def w_call{F:Fn}{ps:List Str}{hz}(ha:MAs X (e::es) sa.m)(f:FnAt P w K mg base x ps F.m i)(h:i<=k)(hx:gm sc x)(hp:(e::es).all bv=true):ME1 X (.Call (.Name x p) (e::es) [] pos) (aB F sa hz).m :=
 let ⟨_,hj⟩:=c.gj hx
 have hp':bv e=true/\es.all bv=true:=by simpa using hp
 ⟨nN c.g hj (f.c c.e h) ha.h (bg hp'.1) (eW hp'.2)⟩
def w_lend{F:Fn}{ps:List Str}{hz}(ha:MAs X (e::es) sa.m)(f:FnAt P w K mg base x ps F.m i)(h:i<=k)(hx:gm sc x)(hp:(e::es).all bv=true):ME1 X (.Call (.Name x p) (e::es) [] pos) (pE F sa hz).m :=
 let ⟨_,hj⟩:=c.gj hx
 have hp':bv e=true/\es.all bv=true:=by simpa using hp
 ⟨nN c.g hj (f.c c.e h) ha.h (bg hp'.1) (eW hp'.2)⟩
end
inductive BB (X:Cx) (x:Str) (o:OpN):Prop
 | fn (id:String) (f:List PV->MH->Out PV) (h:bootBuiltins x=some (.builtin id)) (c:cu X (.builtin id) f) (e:o.k=fun xs h=>(f xs h).ne:=by rfl):BB X x o
 | ty (T:String) (f:List PV->MH->Out PV) (h:bootBuiltins x=some (.type T)) (c:cu X (.type T) f) (e:o.k=fun xs h=>(f xs h).ne:=by rfl):BB X x o
def b_len:BB X "len" PU.bB:=.fn _ _ fK fP
def b_list:BB X "list" PU.nr:=.ty _ _ sQ cj_list
def b_tuple:BB X "tuple" PU.iC:=.ty _ _ qT yC
def yE:BB X "sorted" PU.iU:=.fn _ _ wk v3
section
variable (c:Wc X P w K mg base N W k sc)
include c
def w_blt{o:OpN}(B:BB X x o)(ha:MAs X (e::es) sa.m)(z:Zn K x)(hx:gm sc x)(hp:(e::es).all bv=true):ME1 X (.Call (.Name x p) (e::es) [] pos) (xCb o sa).m:=by
 obtain⟨j,hj⟩:=c.gj hx;have hp':bv e=true/\es.all bv=true:=by simpa using hp
 refine⟨?_⟩;show ME X _ (fun σ h=>(sa.m σ h).bind o.k)
 cases B with
 | fn id f h d q=>rw[q];exact pN c.g j hj d (c.n z) h ha.h (bg hp'.1) (eW hp'.2)
 | ty T f h d q=>rw[q];exact vC c.g j hj d (c.n z) h ha.h (bg hp'.1) (eW hp'.2)
def b_min:BB X "min" PU.io:=.fn _ _ jD (mL c.g)
def b_max:BB X "max" PU.j0:=.fn _ _ u6 (cj_max c.g)
def b_minS:BB X "min" PU.mO:=.fn _ _ jD (cj_minS c.g)
def b_maxS:BB X "max" PU.nq:=.fn _ _ u6 (cj_maxS c.g)
def b_all:BB X "all" PU.lF:=.fn _ _ bt_all (cj_all c.g)
def w_SS(ha:MAs X [a] sa.m)(z1:Zn K "sorted")(z2:Zn K "set")(h1:gm sc "sorted")(h2:gm sc "set")(hp:bv a=true):ME1 X (.Call (.Name "sorted" p) [.Call (.Name "set" p') [a] [] spos] [] pos) (xCb PU.cSS sa).m :=
 let ⟨_,i⟩:=c.gj h1;let ⟨_,j⟩:=c.gj h2
 ⟨rF c.g i (c.n z1) j (c.n z2) ha.h (bg hp)⟩
def w_LS(ha:MAs X [a] sa.m)(z1:Zn K "len")(z2:Zn K "set")(h1:gm sc "len")(h2:gm sc "set")(hp:bv a=true):ME1 X (.Call (.Name "len" p) [.Call (.Name "set" p') [a] [] spos] [] pos) (xCb PU.cLS sa).m :=
 let ⟨_,i⟩:=c.gj h1;let ⟨_,j⟩:=c.gj h2
 ⟨vc c.g _ _ (c.n z1) (c.n z2) ha.h i j (bg hp)⟩
end
structure BT (x:Str) (T:String):Prop where
 h:bootBuiltins x=some (.type T)
 o:okT T
def B_int:BT "int" "int":=⟨bt_int,okT_int⟩
def B_bool:BT "bool" "bool":=⟨bt_bool,ye⟩
def B_tuple:BT "tuple" "tuple":=⟨qT,vM⟩
def B_list:BT "list" "list":=⟨sQ,yF⟩
def B_str:BT "str" "str":=⟨bt_str,okT_str⟩
section
variable (c:Wc X P w K mg base N W k sc)
include c
def w_isi{T:String}(B:BT x T)(ha:ME1 X a xa.m)(z1:Zn K "isinstance")(z2:Zn K x)(h1:gm sc "isinstance")(h2:gm sc x)(hp:bv a=true):ME1 X (.Call (.Name "isinstance" p) [a,.Name x p'] [] pos) (xUn (PU.bS [T]) xa).m :=
 let ⟨_,i⟩:=c.gj h1;let ⟨_,j⟩:=c.gj h2
 ⟨me_isi c.g i (c.n z1) j (c.n z2) B.h B.o ha.h (bg hp)⟩
end
abbrev MJ(X:Cx)(name:Str)(f:Nat->List PV->MH->Out PV):Prop:=∃id,Slot "list" name id/\typeOf (.builtin id)=pure (.type "method_descriptor")/\MtR X id (mtJ X f)
section
variable {name:Str} {f:Nat→List PV→MH→Out PV} {o:OpM} {m:Mx PV}
def w_me{ma:Mx (List PV)}(M:MJ X name f)(ho:ME1 X a m)(ha:MAs X (e::es) ma)(h:(((backTo pos (starEach (e::es) X.env)).all (fun x=>!x.1) && (backToKw pos (keywordEach [] X.env)).all (fun x=>x.1.isSome) && decide ((e::es).length+([]:List Keyword).length+(if ([]:List Keyword).isEmpty then 0 else 1)<30))=true/\(p.endLine == pos.line)=true)/\attributeBase a name X.env (eval a X.env)=eval a X.env/\starEach (e::es) X.env=(false,eval e X.env)::starEach es X.env/\(backTo pos (starEach es X.env)).any (·.1)=false):ME1 X (.Call (.Attribute a name p) (e::es) [] pos) (mMt f m ma) :=
 let ⟨_,x,y,z⟩:=M
 ⟨me_bm x y z ho.h ha.h h.2.1 h.1.1 h.1.2 h.2.2.1 h.2.2.2⟩
def w_me0(M:MJ X name f)(ho:ME1 X a m)(hb:attributeBase a name X.env (eval a X.env)=eval a X.env)(hl:(p.endLine == pos.line)=true):ME1 X (.Call (.Attribute a name p) [] [] pos) (mMt f m (xNil (ws:=ws)).m) :=
 let ⟨_,x,y,z⟩:=M
 ⟨me_bm0 x y z ho.h hb hl⟩
def w_mt{hi hz}(h:ME1 X e (mMt o.m (ac (ws:=ws) i).m sa.m))(hs:swapsWith e none pos.line X.env=pure false):MS1 X (.Expr e pos) (xMt o i sa hi hz).m:=⟨ms_expr h.h hs⟩
end
def xl:MJ X "append" PU.aAppend.m:=⟨_,wP,u8,vk⟩
def xk:MJ X "extend" PU.aExtend.m:=⟨_,wp,wZ,wO⟩
def yi:MJ X "insert" PU.aInsert.m:=⟨_,wL,wt,wY⟩
def w_tcmp{op:CmpOp}{o:Op2}(ho:OJ X (compareOp op) o)(ha:ME1 X a xa.m)(hb:ME1 X b xb.m)(hm:behindInMarks op b=false):MT1 X (.Compare a [op] [b] pos) (xB (ae o xa xb)).m:=⟨wG ho.h ha.h hb.h hm⟩
def w_tnot(h:MT1 X a ta.m):MT1 X (.UnaryOp .Not a pos) (dJ ta).m:=⟨qS h.h⟩
def w_tw{op:BoolOp}(h:MW1 X (.BoolOp op es pos) ta.m):MT1 X (.BoolOp op es pos) ta.m:=⟨MW.mt h.h⟩
def w_and1(h:MT1 X a ta.m):MW1 X (.BoolOp .And [a] pos) ta.m:=⟨mw_and1 h.h⟩
def w_or1(h:MT1 X a ta.m):MW1 X (.BoolOp .Or [a] pos) ta.m:=⟨mw_or1 h.h⟩
def w_and(h:MT1 X a ta.m)(h2:MW1 X (.BoolOp .And (b::es) pos) tb.m):MW1 X (.BoolOp .And (a::b::es) pos) (rE ta tb).m:=⟨mw_and h.h h2.h⟩
def w_or(h:MT1 X a ta.m)(h2:MW1 X (.BoolOp .Or (b::es) pos) tb.m):MW1 X (.BoolOp .Or (a::b::es) pos) (xOr ta tb).m:=⟨mw_or h.h h2.h⟩
def w_val(h:ME1 X e xa.m)(he:∀whole,isTrue e X.env whole=(do let v <-whole;standAt e.pos;holding [v] (truthy v))):MT1 X e (xB xa).m:=⟨rf h.h he⟩
def w_ts0:MT2 X [] (xTrue (ws:=ws)).m:=⟨mts_nil⟩
def w_ts1(h:MT1 X a ta.m):MT2 X [a] ta.m:=⟨mts_one h.h⟩
def w_gl:MG2 X [] (xGl (ws:=ws)).m:=⟨kw⟩
def w_gc{ga:Xg ws}{gs:Xgs ws}(h1:MG1 X e ga.m)(h2:MG2 X es gs.m)(hs:(assignEach (e::es) X.env).map (·.2)=assign e X.env::(assignEach es X.env).map (·.2)):MG2 X (e::es) (xGc ga gs).m:=⟨eI h1.h h2.h hs⟩
def w_itS(h:ME1 X a xa.m):MI1 X tg a (bD xa).m:=⟨rL h.h⟩
section
variable (c:Wc X P w K mg base N W k sc)
include c
def w_nm{hi}(h:N[i]?=some x)(hw:W[i]?=some x):MG1 X (.Name x pos) (xNm (ws:=ws) i hi).m:=⟨sX c.g i h hw⟩
def w_gp{gs:Xgs ws}{n:Nat}(h:MG2 X es gs.m)(hn:(assignEach es X.env).length=n)(hst:(assignEach es X.env).findIdx? (·.1)=none):MG1 X (.Tuple es j pos) (xGp gs n).m:=⟨mU c.g h.h hn hst⟩
def w_iE{n:Nat}(h:MAs X [a] sa.m)(z:Zn K "enumerate")(hx:gm sc "enumerate")(hp:bv a=true):MI1 X (.Tuple es n p) (.Call (.Name "enumerate" p') [a] [] pos) (bU PU.iE sa).m:=let ⟨_,hj⟩:=c.gj hx;⟨sO c.g hj (c.n z) h.h (bg hp)⟩
def w_iR1(h:MAs X [a] sa.m)(z:Zn K "range")(hx:gm sc "range")(hp:bv a=true):MI1 X tg (.Call (.Name "range" p) [a] [] pos) (bU PU.iR1 sa).m:=⟨oW (c.g.gl _ hx) (c.n z) h.h (bg hp)⟩
def w_iR2(h:MAs X [a,b] sa.m)(z:Zn K "range")(hx:gm sc "range")(hs:starEach [a,b] X.env=[(false,eval a X.env),(false,eval b X.env)])(hs2:starEach [b] X.env=[(false,eval b X.env)]):MI1 X tg (.Call (.Name "range" p) [a,b] [] pos) (bU PU.iR2 sa).m:=⟨vm (c.g.gl _ hx) (c.n z) h.h hs hs2⟩
end
structure CB (Y:Cx) (tg elt:Expr) (ifs:List Expr) (gt:Mg) (mt:Mx Bool) (me:Mx PV):Prop where
 g:MG1 Y tg gt
 t:MT2 Y ifs mt
 e:ME1 Y elt me
section
variable {iter elt:Expr} {ifs:List Expr} {scope:Scope} {nv:Nat} {fm ws':List Nat} {xi:Xi ws} {gt:Xg ws'} {xt:Xt ws'} {xe:Xe ws'} {hw:PU.cws nv fm ws=ws'} {hz:xe.fz=true}
abbrev CPs(N:List Str)(tg:Expr)(nv:Nat)(fm:List Nat)(scope sc:Scope):Prop:=CPm scope sc (tgN tg) (frN N fm)/\(tgN tg++frN N fm).Nodup/\(∀x∈sGl (rlb scope sc),scope.names.lookup x=some .globalImplicit)/\(∀x∈(tgN tg++frN N fm)++sGl (rlb scope sc),(x == ("__debug__":Str))=false/\(x == ("__classdict__":Str))=false/\x≠"__name__")/\fm.map (fun i=>N[i]?)=(frN N fm).map some/\(tgN tg).length=nv
section
variable (c:Wc X P w K mg base N W k sc)
include c
def w_comp(hi:MI1 X tg iter xi.m)(hY:∀Y:Cx,Wc Y P w K mg base (tgN tg++frN N fm) (tgN tg) k (rlb scope sc)->CB Y tg elt ifs gt.m xt.m xe.m)(h1:scope.kind=.function)(h:CPs N tg nv fm scope sc)
  (hs:∀x,foldedSetIterable iter X.env x=pure x):ME1 X (.ListComp elt [⟨tg,iter,ifs,0⟩] scope pos) (bx nv fm xi gt xt xe hw hz).m:=by
 obtain⟨h2,nd,hg,dbg,h7,rfl⟩:=h;exact⟨me_comp c.g (compOk1 c.s h1 h7 h2) nd hg dbg hi.h (fun Y y1 y2 y3 y4 y5 y6 g=>let q:=hY Y ⟨g,⟨y1.trans c.e.e1,y2.trans c.e.e2,y3.trans c.e.e3,y4.trans c.e.e4,y5.trans c.e.e5,c.e.b⟩,y6.trans (rlb_eq c.s)⟩;⟨q.g.h,q.t.h,q.e.h⟩) hs⟩
end
section
variable (c:Wc X P w K mg base N W k sc) (hsw:∀env:Env,env.scope=sc→swapsWith (.ListComp elt [⟨tg,iter,ifs,0⟩] scope pos) (some (.Name y p)) spos.line env=pure true) (hi:MI1 X tg iter xi.m) (hY:∀Y:Cx,Wc Y P w K mg base (tgN tg++frN N fm) (tgN tg) k (rlb scope sc)→CB Y tg elt ifs gt.m xt.m xe.m) (hyi:N[i]?=some y) (hyw:W[i]?=some y) (h1:scope.kind=.function) (h:CPs N tg nv fm scope sc) (hs:∀x,foldedSetIterable iter X.env x=pure x)
include hsw hi hY c hyi hyw h1 h hs
end
end
def w_s0:MS2 X [] (xSkip (ws:=ws)).m:=⟨fv⟩
def gh(h:MS1 X st da.m):MS2 X [st] da.m:=m1n h
def eY(h1:MS1 X st da.m)(h2:MS2 X rest db.m):MS2 X (st::rest) (aK da db).m:=m1c h1 h2
def w_ret(h:ME1 X e xa.m):MS1 X (.Return (some e) pos) (aT xa).m:=r_1 h
def w_retO{hi}(h:ME1 X e (ac (ws:=ws) i).m):MS1 X (.Return (some e) pos) (kF (ws:=ws) i hi).m:=r_1 h
def w_if(hc:MT1 X e ta.m)(ha:MS2 X body da.m)(hb:MS2 X rest db.m):MS1 X (.If e body rest pos) (xIf ta da db).m:=⟨hX hc.h ha.h hb.h⟩
def w_bad:MS1 X st (xBad (ws:=ws)).m:=⟨ms_bad⟩
section
variable (c:Wc X P w K mg base N W k sc)
include c
def w_for{xi:Xi ws}{xg:Xg ws}{hz}(hi:MI1 X tg e xi.m)(hg:MG1 X tg xg.m)(hb:MS2 X body da.m)(hs:∀x,foldedSetIterable e X.env x=pure x):MS1 X (.For tg e body [] pos) (cW xi xg da hz).m:=⟨jX c.g hi.h hg.h hb.h hs⟩
def w_set{hi' hz}(he:ME1 X e xa.m)(hs:swapsWith e (some (.Name x p)) pos.line X.env=pure false)(hi:N[i]?=some x)(hw:W[i]?=some x):MS1 X (.Assign [.Name x p] e pos) (bO i xa hi' hz).m:=⟨nc c.g i hi hw he.h hs⟩
def w_setO{hi' hz}(he:ME1 X e xa.m)(hs:swapsWith e (some (.Name x p)) pos.line X.env=pure false)(hi:N[i]?=some x)(hw:W[i]?=some x):MS1 X (.Assign [.Name x p] e pos) (fH i xa hi' hz).m:=⟨nc c.g i hi hw he.h hs⟩
end
def fnW{F:Fn}{np:Nat}{ws:List Nat}{B:Xd ws}{hw}(N:List Str)(b:Ba P w K mg base)(D:DefAt K x st)(hb:∀X:Cx,Wc X P w K mg base N N k (am st)->DefCx X->MS2 X (aI st) B.m)(hF:F=bK N.length np B hw:=by rfl)
  (Bi:iH x st (N.take np):=by first | exact fun _ _ _ _ _ _=>ar1 fun _=>rfl | exact fun _ _ _ _ _ _=>ar2 fun _ _=>rfl | exact fun _ _ _ _ _ _=>ar3 fun _ _ _=>rfl | exact fun _ _ _ _ _ _=>ar4 fun _ _ _ _=>rfl | exact fun _ _ _ _ _ _=>ar5 fun _ _ _ _ _=>rfl)
  (S:FnScope N (N.take np) (am st):=by exact⟨rfl,rfl,rfl,by decide +kernel,rfl,by decide +kernel,by decide +kernel⟩)
  (hl:∀y∈N,(am st).names.lookup y=some .local\/(am st).names.lookup y=some .cell:=by decide +kernel) (hgl:∀y∈sGl (am st),(am st).names.lookup y=some .globalImplicit:=by decide +kernel)
  (dbg:∀x∈N++sGl (am st),(x == ("__debug__":Str))=false/\(x == ("__classdict__":Str))=false/\x≠"__name__":=by decide +kernel) (hp:(N.take np).length=np:=by rfl) :
  FnAt P w K mg base x (N.take np) F.m (k+1):=by
 have q:=v8 b.kin b.ns D S Bi hl hgl dbg fun X e1 e2 e3 e4 e5 e6 g dc=>(hb X ⟨g,⟨e1,e2,e3,e4,e5,b⟩,e6⟩ dc).h;rw[hp] at q;subst hF;exact q
end
end MM
namespace PU
open PySem MM SetT SortT
open L2 (ixN atI dr)
local instance (priority:=1) cdecN26 (p:Prop):Decidable p:=Classical.propDecidable p
noncomputable section
section
variable {ws:List Nat}
def Kept(i:Nat)(m:Mst):Prop:=∀σ h σ' h',m σ h=.nx σ' h'->σ'[i]?=σ[i]?
def og(i:Nat)(e:av->Pen->PR D)(b:av->Pen->PS)(env:av)(s:Pen):PS:=match e env s with
 | .ok (.lst ds) s1=>(match b (env.set i (some (.lst ds))) s1 with
  | .nx env' s2=>(match env'[i]? with
   | some (some d)=>.nx env' s2
   | _=>.bad)
  | _=>.bad)
 | _=>.bad
def xBld(i:Nat)(e:Xe ws)(b:Xd (i::ws))(r:Xd ws)(k1:Kept i b.m)
  (hi:ws.contains i=false:=by exact ys rfl) (hz:e.fr=true:=by exact ys rfl):Xd ws where
 m:=bq (bG i e.m) (bq b.m r.m)
 p:=fun env s=>(og i e.p b.p env s).then r.p
 fr:=r.fr
 ok {q h L B O σ env s} c d:=by
  have hi':i∉ws:=fun z=>by simp[z] at hi
  cases ep:og i e.p b.p env s with
  | nx env' s2 =>
   unfold og at ep
   split at ep
   ·rename_i ds s1 ee
    split at ep
    ·rename_i env'' s2' eb
     split at ep
     ·rename_i dd ed
      cases ep;have k:=e.ok c;rw[ee] at k;obtain⟨v,h1,em,kb,pn,_,_,f⟩:=k;obtain⟨n,xs,rfl,hn,g,rr⟩:=f hz ds rfl;have c1:=c.kb kb pn
      have mv:Mv O h (n::O) h1:=⟨fun m hm no=>kb.keep m hm fun z=>no (z▸c.pO),fun o ho=>by
       rcases qaj.mp ho with z|z
       ·exact .inr (by ext)
       ·exact .inl z⟩
      have hnO:n∉O:=fun z=>by have:=c.bd n z;ext
      have st1:Stp q L h O h1 (n::O):=⟨kb.len,mv,fun o ho=>qaf _ ho,fun m hm hq=>kb.keep m (qaB hm c.hL) hq⟩;have cx1:Cx q h1 L B (n::O) (i::ws) (σ.set i (some (.loc n))) (env.set i (some (.lst ds))) s1:=by
       refine⟨fun o ho=>?_,fun o ho=>qaf _ (c.sub o ho),c.bb,c.pb,c1.hL,pn,?_⟩
       ·rcases qaj.mp ho with z|z
        ·subst z;exact bm g
        ·exact c1.bd o z
       ·have sr:=c.sr.mv mv (fun o ho=>qaf _ ho) fun m hm hl _=>kb.keep m hm (by have:=c.pL;ext);refine⟨by simp[sr.len],fun j x ej hj=>?_,fun j x ej hj=>?_⟩
        ·have ne:i≠j:=fun z=>hj (by simp[z]);rw[qai ne] at ej;rw[qai ne];exact sr.fz j x ej fun z=>hj (qaf _ z)
        ·by_cases z:i=j
         ·subst z;have hl:i<env.length:=by have:=(qad.mp ej).1;simpa using this
          rw[qaw hl] at ej;cases ej;exact⟨n,xs,ds,rfl,qaw (by rw[sr.len];exact hl),by simp,by have:=c.hL;ext,g,rr⟩
         ·rw[qai z] at ej;rw[qai z];exact sr.ow j x ej ((qaj.mp hj).resolve_left fun q=>z q.symm)
      have ds1:Dis (i::ws) (σ.set i (some (.loc n))) (env.set i (some (.lst ds))):=by
       have old:∀j d,j∈ws->i≠j->(env.set i (some (.lst ds)))[j]?=some (some d)->(σ.set i (some (.loc n)))[j]?≠some (some (.loc n)):=fun j d hj ne ej z=>by
        rw[qai ne] at ej z;obtain⟨n',_,_,_,b2,b3,_⟩:=c.sr.ow j d ej hj;rw[z] at b2;cases b2;exact hnO b3
       intro a b ha hb ne x y m ea eb es;by_cases z1:i=a
       ·subst z1;have hl:i<σ.length:=by have:=(qad.mp es).1;simpa using this
        rw[qaw hl] at es;cases es;exact old b y ((qaj.mp hb).resolve_left fun q=>ne q.symm) ne eb
       ·have ha':a∈ws:=(qaj.mp ha).resolve_left fun q=>z1 q.symm;by_cases z2:i=b
        ·subst z2;intro z;have hl:i<σ.length:=by have:=(qad.mp z).1;simpa using this
         rw[qaw hl] at z;cases z;exact old a x ha' z1 ea es
        ·have hb':b∈ws:=(qaj.mp hb).resolve_left fun q=>z2 q.symm;rw[qai z1] at ea es;rw[qai z2] at eb ⊢;exact d a b ha' hb' ne x y m ea eb es
      have kk:=b.ok cx1 ds1;rw[eb] at kk;obtain⟨σ',h2,e2,O2,st2,cx2,ds2⟩:=kk;have hσ:σ'[i]?=(σ.set i (some (.loc n)))[i]?:=k1 _ _ _ _ e2;have hni:σ'[i]?=some (some (.loc n)):=by
       obtain⟨_,_,_,_,es,_⟩:=cx2.sr.ow i dd ed (by simp);rw[hσ] at es ⊢;have hl:=(qad.mp es).1;exact qaw (by simpa using hl)
      have hsub:∀o∈O2.filter (fun o=>o != n),o∈O2:=fun o ho=>(qbr.mp ho).1;have hin:∀o,o∈O2->o≠n->o∈O2.filter (fun o=>o != n):=fun o ho ne=>qbr.mpr ⟨ho,by simpa using ne⟩;have hout:n∉O2.filter (fun o=>o != n):=fun z=>by simpa using (qbr.mp z).2
      have st:Stp q L h O h2 (O2.filter (fun o=>o != n)):=by
       have t:=st1.trans st2;exact⟨t.len,⟨t.mv.keep,fun o ho=>t.mv.new o (hsub o ho)⟩,fun o ho=>hin o (t.sub o ho) fun z=>hnO (z▸ho),t.base⟩
      have mvr:Mv O2 h2 (O2.filter (fun o=>o != n)) h2:=⟨fun _ _ _=>rfl,fun o ho=>.inl (hsub o ho)⟩;have cx3:Cx q h2 L B (O2.filter (fun o=>o != n)) ws σ' env' s2:=by
       refine⟨fun o ho=>cx2.bd o (hsub o ho),fun o ho=>hin o (cx2.sub o ho) fun z=>?_,c.bb,c.pb,cx2.hL,cx2.pen,cx2.sr.len,fun j x ej hj=>?_,fun j x ej hj=>?_⟩
       ·have:=c.bb o ho
        have:=c.hL
        ext
       ·by_cases z:j=i
        ·subst z;obtain⟨n',xs',ds',e1,e2,_,_,g',r'⟩:=cx2.sr.ow j x ej (by simp);rw[hni] at e2;cases e2;exact⟨.loc n,hni,by rw[e1];exact⟨n,xs',rfl,hout,g',r'.mv mvr⟩⟩
        ·obtain⟨v,e1,r1⟩:=cx2.sr.fz j x ej fun q=>(qaj.mp q).elim z hj;exact⟨v,e1,r1.mv mvr⟩
       ·have ne:i≠j:=fun z=>hi' (z▸hj);obtain⟨n',xs',ds',e1,es2,es3,e4,g',r'⟩:=cx2.sr.ow j x ej (qaf _ hj);have hne:n'≠n:=fun z=>by
         subst z;exact ds2 i j (by simp) (qaf _ hj) ne dd x _ ed ej hni es2
        exact⟨n',xs',ds',e1,es2,hin n' es3 hne,e4,g',r'.mv mvr⟩
      have dis3:Dis ws σ' env':=fun a b ha hb=>ds2 a b (qaf _ ha) (qaf _ hb);have fin:=(r.ok cx3 dis3).after st;have em':bG i e.m σ h=.nx (σ.set i (some (.loc n))) h1:=by unfold bG mEx;rw[em]
      have eall:bq (bG i e.m) (bq b.m r.m) σ h=r.m σ' h2:=by
       show (bG i e.m σ h).then (bq b.m r.m)=_
       rw[em'];show (b.m (σ.set i (some (.loc n))) h1).then r.m=_
       rw[e2];rfl
      rw[eall,au];exact fin
     ·cases ep
    ·cases ep
   ·cases ep
  | bad=>trivial
  | _ =>
   exfalso;unfold og at ep
   repeat' split at ep
   all_goals cases ep
def xBld_p{i:Nat}{e:Xe ws}{b:Xd (i::ws)}{r:Xd ws}{k1 hi hz}{env env':av}{s s1 s2:Pen}{ds:List D}{d:D}(e1:e.p env s=.ok (.lst ds) s1)(e2:b.p (env.set i (some (.lst ds))) s1=.nx env' s2)(e3:env'[i]?=some (some d)):(xBld i e b r k1 hi hz).p env s=r.p env' s2:=by
 show (og i e.p b.p env s).then r.p=_
 unfold og;rw[e1];simp only[e2,e3,au]
end
end
end PU
namespace MM
open PySem PySem.Spec PyProof.Rows L2
open PU (Xe Xd xBld fH)
def w_bld{X:Cx}{P:Program}{w:World}{K:qaa}{mg:Str->Option Value}{base:Heap}{N W:List Str}{k i:Nat}{sc:Scope}{ws:List Nat}{xa:Xe ws}{b:Xd (i::ws)}{r:Xd ws}{e:Expr}{st:Stmt}{rest:List Stmt}{x:Str}{p pos:Pos}{kk hi' hz'}(c:Wc X P w K mg base N W k sc)(he:ME1 X e xa.m)(h2:MS1 X st b.m)(h3:MS2 X rest r.m)(hs:swapsWith e (some (.Name x p)) pos.line X.env=pure false)(hi:N[i]?=some x)(hw:W[i]?=some x):MS2 X (.Assign [.Name x p] e pos::st::rest) (xBld i xa b r kk hi' hz').m:=m1c ⟨nc c.g i hi hw he.h hs⟩ (m1c h2 h3)
end MM
namespace PU
open PySem MM SetT SortT
open L2 (ixN atI dr)
noncomputable section
section
variable {ws:List Nat}
def pSw(i:Nat)(a b x y:av->Pen->PR D)(env:av)(s:Pen):PS:=match a env s with
 | .ok (.int u) s1=>(match b env s1 with
  | .ok (.int v) s2=>(cw i (fun _ s=>.ok (.int u) s) x env s2).then (cw i (fun _ s=>.ok (.int v) s) y)
  | _=>.bad)
 | _=>.bad
def vo{g:Mg}(e:e9 (mC v) g σ h=.nx σ' h'):g v σ h=.nx σ' h':=by
 unfold e9 mEx mC at e;dsimp only at e
 split at e
 ·rw[<-e];assumption
 ·cases e
 ·cases e
def sR(i:Nat)(a x:av->Pen->PR D)(env:av)(s:Pen):cw i a x env s=.bad\/∃e s',cw i a x env s=.nx e s':=by
 unfold cw
 repeat' split
 all_goals first | exact .inl rfl | exact .inr ⟨_,_,rfl⟩
def xSw(i:Nat)(a b x y:Xe ws)(hi:ws.contains i=true:=by exact ys rfl):Xd ws where
 m:=e9 (ir (aj a.m (aj b.m mNil))) (gTp (gCn (gSb (aq i) x.m) (gCn (gSb (aq i) y.m) gNl)) 2)
 p:=pSw i a.p b.p x.p y.p
 fr:=true
 ok {q h L B O σ env s} c d:=by
  cases ea:a.p env s with
  | bad=>simp only[pSw,ea];trivial
  | exc _ _=>simp only[pSw,ea];trivial
  | ok da s1 =>
   cases da with
   | int u =>
    cases eb:b.p env s1 with
    | bad=>simp only[pSw,ea,eb];trivial
    | exc _ _=>simp only[pSw,ea,eb];trivial
    | ok db s2 =>
     cases db with
     | int v =>
      have ka:=a.ok c;rw[ea] at ka;obtain⟨va,h1,f1,kb1,pn1,w1,_,_⟩:=ka;cases w1.int;have c1:=c.kb kb1 pn1;have kb:=b.ok c1;rw[eb] at kb;obtain⟨vb,h2,f2,kb2,pn2,w2,_,_⟩:=kb;cases w2.int;have c2:=c1.kb kb2 pn2;simp only[pSw,ea,eb];have t:ir (aj a.m (aj b.m mNil)) σ h=.ok (.tup [.int u,.int v]) h2:=by
       simp[ir,aj,mNil,f1,f2,newT,sizeLine]
      have k1:=(nV i (xC (.int u)) x hi).ok c2 d;rcases sR i (fun _ s=>.ok (.int u) s) x.p env s2 with z|⟨env1,s3,z⟩
      ·rw[z];trivial
      ·rw[z];have z':(nV i (xC (.int u)) x hi).p env s2=.nx env1 s3:=z;rw[z'] at k1;obtain⟨σ1,h3,e1,O1,st1,c3,d3⟩:=k1;have e1:gSb (aq i) x.m (.int u) σ h2=.nx σ1 h3:=vo e1;have k2:=(nV i (xC (.int v)) y hi).ok c3 d3;rcases sR i (fun _ s=>.ok (.int v) s) y.p env1 s3 with z|⟨env2,s4,z⟩
       ·show SOk _ _ _ _ _ _ _ _ (cw i (fun _ s=>.ok (.int v) s) y.p env1 s3);rw[z];trivial
       ·have z':(nV i (xC (.int v)) y hi).p env1 s3=.nx env2 s4:=z;rw[z'] at k2;obtain⟨σ2,h4,e2,n2⟩:=k2;have e2:gSb (aq i) y.m (.int v) σ1 h3=.nx σ2 h4:=vo e2;show SOk _ _ _ _ _ _ _ _ (cw i (fun _ s=>.ok (.int v) s) y.p env1 s3);rw[z];refine⟨σ2,h4,?_,(n2.after st1).after ((kb1.trans kb2).stp c)⟩;have e3:gTp (gCn (gSb (aq i) x.m) (gCn (gSb (aq i) y.m) gNl)) 2 (.tup [.int u,.int v]) σ h2=.nx σ2 h4:=by
         show (gSb (aq i) x.m (.int u) σ h2).then _=_
         rw[e1];show (gSb (aq i) y.m (.int v) σ1 h3).then _=_
         rw[e2];rfl
        unfold e9 mEx;rw[t];dsimp only;rw[e3]
     | _=>simp only[pSw,ea,eb];trivial
   | _=>simp only[pSw,ea];trivial
@[simp] theorem xSw_p{hi}{a b x y:Xe ws}:(xSw i a b x y hi).p env s=pSw i a.p b.p x.p y.p env s:=rfl
def aReverse:OpM where
 m:=ja
 p:=fun ds as=>match as with
  | []=>some (.non,ds.reverse)
  | _=>none
 ok {q h O n xs ds as vs d ds'} g r ra e:=by
  match as,e with
  | [],e =>
   have:vs=[]:=ra
   subst this;cases e;exact⟨.non,xs.reverse,by simp only[ja,g],r.rev,rfl⟩
@[simp] theorem aReverse_p:aReverse.p x []=some (.non,x.reverse):=rfl
theorem wv{m mi:Mx PV}(z:gSb m mi v σ h=.nx σ' h'):σ'=σ:=by
 unfold gSb mEx at z;dsimp only at z
 split at z
 ·split at z
  ·split at z
   ·cases z;rfl
   ·cases z
  all_goals cases z
 all_goals cases z
def lg{o:SOut}{k:Mst}(z:o.then k=.nx σ' h'):∃σ1 h1,o=.nx σ1 h1/\k σ1 h1=.nx σ' h':=by
 cases o with
 | nx σ1 h1=>exact⟨_,_,rfl,z⟩
 | _=>cases z
def gTp2{ma mb:Mg}{vs}(ka:∀v σ h σ' h',ma v σ h=.nx σ' h'->σ'=σ)(kb:∀v σ h σ' h',mb v σ h=.nx σ' h'->σ'=σ)(z:gCn ma (gCn mb gNl) vs σ h=.nx σ' h'):σ'=σ:=by
 match vs,z with
 | [],z=>cases z
 | v::vr,z =>
  obtain⟨σ1,h1,e1,z⟩:=lg z;cases ka _ _ _ _ _ e1
  match vr,z with
  | [],z=>cases z
  | w::r,z =>
   obtain⟨σ2,h2,e2,z⟩:=lg z;cases kb _ _ _ _ _ e2;unfold gNl at z
   split at z
   ·cases z;rfl
   ·cases z
def sw_keep{i j:Nat}{a b x y:Xe ws}{hi}:Kept j (xSw i a b x y hi).m:=fun σ h σ' h' z=>by
 unfold xSw e9 mEx at z;dsimp only at z
 split at z
 ·split at z
  ·rename_i e
   cases z;unfold gTp at e
   split at e
   ·split at e
    ·rw[gTp2 (fun _ _ _ _ _=>wv) (fun _ _ _ _ _=>wv) e]
    ·cases e
   ·cases e
  all_goals cases z
 all_goals cases z
end
end
end PU
namespace MM
open PySem PySem.Spec PyProof.Rows L2
open PU (Xe Xd xSw ac aa xNil)
def ww{X:Cx}:MJ X "reverse" PU.aReverse.m:=⟨_,uH,uI,uj⟩
def w_sw{X:Cx}{P:Program}{w:World}{K:qaa}{mg:Str->Option Value}{base:Heap}{N W:List Str}{k i k1 k2:Nat}{sc:Scope}{ws:List Nat}{xa xb xx xy:Xe ws}{ea eb a1 b1 a2 b2:Expr}{p1 p2 p3 p4 pos:Pos}{hi}(c:Wc X P w K mg base N W k sc)(hw:∀env:Env,env.scope=sc->swappedStores [.Tuple [.Subscript a1 b1 p1,.Subscript a2 b2 p2] k1 p3] (.Tuple [ea,eb] k2 p4) env=pure none)
  (ha:MAs X [ea,eb] (aa xa (aa xb xNil)).m) (o1:ME1 X a1 (ac (ws:=ws) i).m) (i1:ME1 X b1 xx.m) (o2:ME1 X a2 (ac (ws:=ws) i).m) (i2:ME1 X b2 xy.m)
  (h1:∀v,assign (.Subscript a1 b1 p1) X.env v=(do
   let ov <-holding [v] (eval a1 X.env)
   let iv <-holding [v,ov] (eval b1 X.env)
   standAt p1
   holding [v,ov,iv] (setItem ov iv v)
   release [v,ov,iv] []))
  (h2:∀v,assign (.Subscript a2 b2 p2) X.env v=(do
   let ov <-holding [v] (eval a2 X.env)
   let iv <-holding [v,ov] (eval b2 X.env)
   standAt p2
   holding [v,ov,iv] (setItem ov iv v)
   release [v,ov,iv] []))
  (s1:(assignEach [.Subscript a1 b1 p1,.Subscript a2 b2 p2] X.env).map (·.2)=assign (.Subscript a1 b1 p1) X.env::(assignEach [.Subscript a2 b2 p2] X.env).map (·.2))
  (s2:(assignEach [.Subscript a2 b2 p2] X.env).map (·.2)=assign (.Subscript a2 b2 p2) X.env::(assignEach [] X.env).map (·.2))
  (hn:(assignEach [.Subscript a1 b1 p1,.Subscript a2 b2 p2] X.env).length=2) (hst:(assignEach [.Subscript a1 b1 p1,.Subscript a2 b2 p2] X.env).findIdx? (·.1)=none)
  (hs:swapsWithSole [.Tuple [.Subscript a1 b1 p1,.Subscript a2 b2 p2] k1 p3] (.Tuple [ea,eb] k2 p4) pos.line X.env=pure false)
  (h3:(assignEach [.Tuple [.Subscript a1 b1 p1,.Subscript a2 b2 p2] k1 p3] X.env).map (·.2)=[assign (.Tuple [.Subscript a1 b1 p1,.Subscript a2 b2 p2] k1 p3) X.env]) :
  MS1 X (.Assign [.Tuple [.Subscript a1 b1 p1,.Subscript a2 b2 p2] k1 p3] (.Tuple [ea,eb] k2 p4) pos) (xSw i xa xb xx xy hi).m :=
 ⟨ni (ve ha.h) (mU c.g (eI (nh o1.h i1.h h1) (eI (nh o2.h i2.h h2) kw s2) s1) hn hst) hs (hw _ c.s) h3⟩
def w_par2{X:Cx}{P:Program}{w:World}{K:qaa}{mg:Str->Option Value}{base:Heap}{N W:List Str}{k i j k2 kt:Nat}{sc:Scope}{ws:List Nat}{sa:PU.Xs ws}{a b:Expr}{x y:Str}{pos px py pt pt2:Pos}{hi' hj' hz}(c:Wc X P w K mg base N W k sc)(hw:∀env:Env,env.scope=sc->swappedStores [.Tuple [.Name x px,.Name y py] kt pt] (.Tuple [a,b] k2 pt2) env=pure (some [x,y]))(ha:MAs X [a,b] sa.m)(hi:N[i]?=some x)(hj:N[j]?=some y)(hij:i≠j)(hx:sc.names.lookup x=some .local)(hy:sc.names.lookup y=some .local)
  (hs:swapsWithSole [.Tuple [.Name x px,.Name y py] kt pt] (.Tuple [a,b] k2 pt2) pos.line X.env=pure false):MS1 X (.Assign [.Tuple [.Name x px,.Name y py] kt pt] (.Tuple [a,b] k2 pt2) pos) (PU.pK i j sa hi' hj' hz).m:=⟨ms_par c.g i j hi hj hij ha.h (by rw[c.s];exact hx) (by rw[c.s];exact hy) (hw _ c.s) hs⟩
end MM
namespace Law
open PySem PySem.Spec PyProof.Rows L2 MM
set_option maxHeartbeats 4000000
noncomputable section
def m_l_pen:Mst:=(bq (bG 2 (az opAdd (az opMul (mC (.int 7919)) (aq 1)) (mC (.int 11))))
 (bq (mIf (mB (az opLt (aq 1) (mCB fMin (aj (mCB fLen (aj (aq 0) mNil)) (aj (mC (.int 63)) mNil))))) (bG 2 (az bT (aq 0) (aq 1))) (mIf (mB (az opGt (mCB fLen (aj (aq 0) mNil)) (mC (.int 0)))) (bG 2 (az opAdd (az opMod (az bT (aq 0) (az opMod (aq 1) (mCB fMin (aj (mCB fLen (aj (aq 0) mNil)) (aj (mC (.int 63)) mNil))))) (az opPow (mC (.int 10)) (mC (.int 15)))) (az opMul (mC (.int 48271)) (aq 1)))) mSkip))
 (bq (mIf (mB (az opGe (mCB fAbs (aj (aq 2) mNil)) (az opPow (mC (.int 10)) (mC (.int 18))))) (b7 (fo (aj (mC (.int 1)) (aj (mCB fAbs (aj (aq 2) mNil)) (aj (mC (.int 0)) mNil))))) mSkip)
 (b7 (fo (aj (mC (.int 0)) (aj (az opAdd (az opMod (aq 2) (mC (.int 2147483587))) (az opMul (mC (.int 40009)) (aq 1))) (aj (mC (.int 0)) mNil))))))))
def eN:List PV->MH->Out PV:=eD 3 2 m_l_pen
def m_l_draw:Mst:=(bq (e9 (az opAdd (az bT (aq 0) (mC (.int 2))) (mC (.int 1))) (gSb (aq 0) (mC (.int 2))))
 (bq (mIf (mB (az opEq (az bT (aq 0) (mC (.int 0))) (mC (.int 1)))) (bq (bG 3 (az opMod (az bT (aq 0) (mC (.int 1))) (aq 1)))
 (bq (e9 (az opFd (az bT (aq 0) (mC (.int 1))) (aq 1)) (gSb (aq 0) (mC (.int 1))))
 (b7 (aq 3)))) mSkip)
 (bq (bG 2 (az opMod (az opMul (az opAdd (az opAdd (az bT (aq 0) (mC (.int 1))) (az opMul (mC (.int 40503)) (az bT (aq 0) (mC (.int 2))))) (mC (.int 1))) (mC (.int 48271))) (mC (.int 2147483647))))
 (bq (bG 2 (az opMod (az opMul (aq 2) (az opAdd (az opAdd (az opMod (aq 2) (mC (.int 65521))) (az bT (aq 0) (mC (.int 2)))) (mC (.int 3)))) (mC (.int 2147483629))))
 (b7 (az opMod (az opFd (az opMod (az opMul (aq 2) (az opAdd (az opMod (aq 2) (mC (.int 8191))) (mC (.int 7)))) (mC (.int 2147483563))) (mC (.int 64))) (aq 1)))))))
def ck:List PV->MH->Out PV:=eD 4 2 m_l_draw
end
end Law
namespace Law
open PySem MM PU
open SetT SortT
open L2 (ixN atI dr)
set_option maxHeartbeats 4000000
noncomputable section
def dH:Xd []:=(aT (cP (xUn (bS ["int"]) (ac 0)) (pJ (xUn (bS ["bool"]) (ac 0)))))
def cD:Fn:=bK 1 1 dH
def lh{ds:List D}{s:Pen}(h:ds.length=1):cD.p ds s=(dH.p (dSt 1 ds) s).fin:=bp h
def dI:Xd []:=(aT (cP (aB cD (aa (ac 1) xNil)) (mR oLe oLt (xC (.int 0)) (ac 1) (ac 0))))
def cH:Fn:=bK 2 2 dI
def ld{ds:List D}{s:Pen}(h:ds.length=2):cH.p ds s=(dI.p (dSt 2 ds) s).fin:=bp h
def c6:Xd []:=(aT (xCb iC (aa (xCb cSS (aa (bx 1 [] (bD (ac 0)) (ws':=[]) (xNm 0) xTrue (aM (aa (xCb mO (aa (ac 0) xNil)) (aa (xCb nq (aa (ac 0) xNil)) xNil)))) xNil)) xNil)))
def bt:Fn:=bK 1 1 c6
def nF{ds:List D}{s:Pen}(h:ds.length=1):bt.p ds s=(c6.p (dSt 1 ds) s).fin:=bp h
def cY:Xd [1]:=(aK (fH 1 (br xNil))
 (aK (cW (bU iE (aa (ac 0) xNil)) (xGp (xGc (xNm 2) (xGc (xNm 3) xGl)) 2) (xMt aExtend 1 (aa (bx 1 [3] (bD (xSl (ac 0) (xPt (ae bJ (ac 2) (xC (.int 1)))) xNo)) (ws':=[]) (xNm 0) xTrue (aM (aa (ac 1) (aa (ac 0) xNil)))) xNil)))
 (kF 1)))
def cC:Fn:=bK 4 1 cY
def oe{ds:List D}{s:Pen}(h:ds.length=1):cC.p ds s=(cY.p (dSt 4 ds) s).fin:=bp h
def iS:Xd []:=(aT (aB bt (aa (bx 2 [0] (bU iE (aa (ac 0) xNil)) (ws':=[]) (xGp (xGc (xNm 0) (xGc (xNm 1) xGl)) 2) xTrue (aM (aa (ae oIx (ac 2) (ae bP (ac 0) (xC (.int 1)))) (aa (ac 1) xNil)))) xNil)))
def dC:Fn:=bK 1 1 iS
def yf{ds:List D}{s:Pen}(h:ds.length=1):dC.p ds s=(iS.p (dSt 1 ds) s).fin:=bp h
def dv:Xd []:=(aK (xIf (xOr (dJ (xB (xUn (bS ["list"]) (ac 1)))) (xB (ae oLt (xCb bB (aa (ac 1) xNil)) (xC (.int 3))))) (aT (xC (.bl false))) xSkip)
 (aK (xIf (dJ (xB (xCb lF (aa (bx 1 [0] (bD (ac 1)) (ws':=[]) (xNm 0) xTrue (aB cH (aa (ae oIx (ac 1) (xC (.int 0))) (aa (ac 0) xNil)))) xNil)))) (aT (xC (.bl false))) xSkip)
 (aK (xIf (xB (ae oNe (xCb cLS (aa (ac 1) xNil)) (xCb bB (aa (ac 1) xNil)))) (aT (xC (.bl false))) xSkip)
 (aT (xCb lF (aa (bx 1 [0] (bD (aB dC (aa (ac 1) xNil))) (ws':=[]) (xNm 0) xTrue (ae (oIn false) (ac 0) (ae oIx (ac 1) (xC (.int 1))))) xNil))))))
def eM:Fn:=bK 2 2 dv
def jv{ds:List D}{s:Pen}(h:ds.length=2):eM.p ds s=(dv.p (dSt 2 ds) s).fin:=bp h
def c8:Xd []:=(aK (bO 1 (aB dC (aa (ac 0) xNil)))
 (aT (bx 1 [1] (bD (aB bt (aa (aB cC (aa (ac 0) xNil)) xNil))) (ws':=[]) (xNm 0) (xB (ae (oIn true) (ac 0) (ac 1))) (ac 0))))
def bH:Fn:=bK 2 1 c8
def nR{ds:List D}{s:Pen}(h:ds.length=1):bH.p ds s=(c8.p (dSt 2 ds) s).fin:=bp h
def dN:Xd []:=(aT (bx 1 [0] (bD (aB bH (aa (ac 1) xNil))) (ws':=[]) (xNm 0) (xB (ae (oIn false) (ac 0) (ae oIx (ac 1) (xC (.int 1))))) (ac 0)))
def dL:Fn:=bK 2 2 dN
def qj{ds:List D}{s:Pen}(h:ds.length=2):dL.p ds s=(dN.p (dSt 2 ds) s).fin:=bp h
def eQ:Xd []:=(aT (cP (aB eM (aa (ac 0) (aa (ac 1) xNil))) (cP (ae oGe (xCb bB (aa (ac 1) xNil)) (xC (.int 4))) (pC (aB dL (aa (ac 0) (aa (ac 1) xNil)))))))
def cT:Fn:=bK 2 2 eQ
def mT{ds:List D}{s:Pen}(h:ds.length=2):cT.p ds s=(eQ.p (dSt 2 ds) s).fin:=bp h
def iu:Xd []:=(aT (aM (aa (ae oIx (ac 0) (xC (.int 0))) (aa (aB bt (aa (ae bJ (xCb nr (aa (ae oIx (ac 0) (xC (.int 1))) xNil)) (br (aa (ac 1) xNil))) xNil)) xNil))))
def rN:Fn:=bK 2 2 iu
def cA:Xd []:=(aK (xIf (xOr (dJ (xB (xUn (bS ["tuple"]) (ac 0)))) (xB (ae oNe (xCb bB (aa (ac 0) xNil)) (ac 2)))) (aT (xC (.bl false))) xSkip)
 (aT (cP (xUn (bS ["str"]) (ae oIx (ac 0) (xC (.int 0)))) (ae oEq (ae oIx (ac 0) (xC (.int 0))) (ac 1)))))
def aR:Fn:=bK 3 3 cA
def iQ{ds:List D}{s:Pen}(h:ds.length=3):aR.p ds s=(cA.p (dSt 3 ds) s).fin:=bp h
def c5:Xd []:=(aT (cP (aB cT (aa (ac 0) (aa (ac 2) xNil))) (ae oGt (ae bP (xCb bB (aa (ac 2) xNil)) (xC (.int 3))) (ac 1))))
def cy:Fn:=bK 3 3 c5
def oo{ds:List D}{s:Pen}(h:ds.length=3):cy.p ds s=(c5.p (dSt 3 ds) s).fin:=bp h
def de:Xd []:=(aK (xIf (xOr (dJ (xB (aB cT (aa (ac 0) (aa (ac 2) xNil))))) (dJ (xB (xUn (bS ["tuple"]) (ac 3))))) (aT (xC (.bl false))) xSkip)
 (aK (bO 4 (aB bH (aa (ac 2) xNil)))
 (aK (xIf (xB (ae oNe (xCb bB (aa (ac 3) xNil)) (xCb bB (aa (ac 4) xNil)))) (aT (xC (.bl false))) xSkip)
 (aK xBad
 (aT (xC (.bl true)))))))
def cB:Fn:=bK 7 4 de
def nA{ds:List D}{s:Pen}(h:ds.length=4):cB.p ds s=(de.p (dSt 7 ds) s).fin:=bp h
def ft:Xd []:=(aK (xIf (xOr (dJ (xB (aB cD (aa (ac 1) xNil)))) (xB (ae oLt (ac 1) (xC (.int 0))))) (aT (xC (.bl false))) xSkip)
 (aK (xIf (xB (aB aR (aa (ac 2) (aa (xC (.str "need")) (aa (xC (.int 2)) xNil))))) (aT (aB cy (aa (ac 0) (aa (ac 1) (aa (ae oIx (ac 2) (xC (.int 1))) xNil))))) xSkip)
 (aK (xIf (xB (aB aR (aa (ac 2) (aa (xC (.str "chords")) (aa (xC (.int 3)) xNil))))) (aT (aB cB (aa (ac 0) (aa (ac 1) (aa (ae oIx (ac 2) (xC (.int 1))) (aa (ae oIx (ac 2) (xC (.int 2))) xNil)))))) xSkip)
 (aT (xC (.bl false))))))
def bc:Fn:=bK 3 3 ft
def oT{ds:List D}{s:Pen}(h:ds.length=3):bc.p ds s=(ft.p (dSt 3 ds) s).fin:=bp h
def nH{h:MH}{p:Nat}{o:MO}(hp:p<h.length):(h.set p o)[p]?=some o:=qaw hp
def ix2:ixN 3 2=some 2:=kY (n:=3) (m:=2) (by decide)
def ix1:ixN 3 1=some 1:=kY (n:=3) (m:=1) (by decide)
def iJ(s:Pen)(size:Int)(hs:0<size)(hl:size.natAbs.log2<9000):∃x:Int × Int,(0<=x.1/\x.1<size)/\∀(h:MH) (p:Nat),cp h p s->ck [.loc p,.int size] h=.ok (.int x.1) (h.set p (.lst [.int s.1,.int x.2,.int (s.2.2+1)])):=by
 obtain⟨m,c,t⟩:=s;have hs0:size≠0:=by ext
 have st:∀n:Int,0<=n.fmod size/\n.fmod size<size:=fun n=>by
  rw[qbS n (by ext)];exact⟨Int.emod_nonneg n hs0,Int.emod_lt_of_pos n hs⟩
 by_cases hm:m=1
 ·subst hm;refine⟨(c.fmod size,c.fdiv size),st c,fun h p e=>?_⟩;have e:h[p]?=some (.lst [.int 1,.int c,.int t]):=e;have hp:p<h.length:=(qad.mp e).1;have e2:(h.set p (.lst [.int 1,.int c,.int (t+1)]))[p]?=some (.lst [.int 1,.int c,.int (t+1)]):=nH hp;unfold ck;refine (kK (by rfl)).trans ?_;unfold m_l_draw;simp[bX,List.replicate,jl e,lR e,ix2,jl e2,fy hs0,tL hs0 hl,lR e2,ix1]
 ·have big:∀n k:Int,0<k->0<=n.fmod k/\n.fmod k<k:=fun n k hk=>by
   rw[qbS n (by ext)];exact⟨Int.emod_nonneg n (by ext),Int.emod_lt_of_pos n hk⟩
  generalize ea:((c+40503 * (t+1)+1) * 48271).fmod 2147483647=A;have b1:=big ((c+40503 * (t+1)+1) * 48271) 2147483647 (by decide);rw[ea] at b1;generalize eb:(A * (A.fmod 65521+(t+1)+3)).fmod 2147483629=C;have b2:=big (A * (A.fmod 65521+(t+1)+3)) 2147483629 (by decide);rw[eb] at b2;refine⟨((((C * (C.fmod 8191+7)).fmod 2147483563).fdiv 64).fmod size,c),st _,fun h p e=>?_⟩;have e:h[p]?=some (.lst [.int m,.int c,.int t]):=e;have hp:p<h.length:=(qad.mp e).1;have e2:(h.set p (.lst [.int m,.int c,.int (t+1)]))[p]?=some (.lst [.int m,.int c,.int (t+1)]):=nH hp;have c1:-(2 ^ 64)<A/\A<2 ^ 64:=by ext
  have c2:-(2 ^ 64)<C/\C<2 ^ 64:=by ext
  have k1:∀{i:Int} {h:MH},opMul (.int 40503) (.int i) h=.ok (.int (40503 * i)) h:=gw (by decide);have k2:∀{i:Int} {h:MH},opMul (.int i) (.int 48271) h=.ok (.int (i * 48271)) h:=opMul_r (by decide);unfold ck;refine (kK (by rfl)).trans ?_;unfold m_l_draw;simp[bX,List.replicate,jl e,lR e,ix2,jl e2,hm,k1,k2,fy,ea,gw c1,eb,gw c2,tL (show (64:Int)≠0 by decide) (show (64:Int).natAbs.log2<9000 by decide +kernel),fy hs0]
open Classical in
def k6(s:Pen)(size:Int):Int × Int:=if z:0<size/\size.natAbs.log2<9000 then (iJ s size z.1 z.2).choose else (0,0)
def mZ(ds:List D):Option Int:=match ds with
 | [.pen,.int i]=>some i
 | _=>none
def uB{ds:List D}{i:Int}(e:mZ ds=some i):ds=[.pen,.int i]:=by
 unfold mZ at e
 split at e
 ·cases e;rfl
 ·cases e
open Classical in
def be:Fn where
 m:=ck
 p:=fun ds s=>match mZ ds with
  | some size=>if 0<size/\size.natAbs.log2<9000 then .ok (.int (k6 s size).1) (s.1,(k6 s size).2,s.2.2+1) else .bad
  | none=>.bad
 fr:=true
 ok {q h O vs ds s} bd hq pn r:=by
  cases e:mZ ds with
  | none=>trivial
  | some size =>
   have:=uB e
   subst this;dsimp only;by_cases z:0<size/\size.natAbs.log2<9000
   ·rw[qag z];obtain⟨x,t,rfl,hx,y,t',rfl,hy,ht⟩:=r;rw[show x=PV.loc q from hx,show y=PV.int size from hy,show t'=[] from ht];have k:=(iJ s size z.1 z.2).choose_spec.2 h q pn;have ed:k6 s size=(iJ s size z.1 z.2).choose:=by unfold k6;rw[dif_pos z]
    rw[<-ed] at k;refine⟨_,_,k,⟨by simp,fun n hn hp=>qai (Ne.symm hp)⟩,nH (bm pn),rfl,fun _ ds e=>by cases e⟩
   ·rw[qao z];trivial
open Classical in
theorem cQ{s:Pen}{size:Int}(hs:0<size)(hl:size<=2000000000):∃d s',0<=d/\d<size/\be.p [.pen,.int size] s=.ok (.int d) s':=by
 have hlog:size.natAbs.log2<9000:=by
  have h1:size.natAbs<=2000000000:=by ext
  have h2:size.natAbs.log2<31:=(Nat.log2_lt (by ext)).mpr (by ext);ext
 have z:0<size/\size.natAbs.log2<9000:=⟨hs,hlog⟩;have ed:k6 s size=(iJ s size z.1 z.2).choose:=by unfold k6;rw[dif_pos z]
 have k:=(iJ s size z.1 z.2).choose_spec.1;rw[<-ed] at k;exact⟨_,_,k.1,k.2,by show (if 0<size/\size.natAbs.log2<9000 then _ else _)=_;rw[qag z]⟩
def fT:Xd [2]:=(aK (fH 2 (br xNil))
 (aK (cW (bU iR1 (aa (ac 1) xNil)) (xNm 3) (xMt aInsert 2 (aa (aB be (aa (ac 0) (aa (ae bJ (ac 3) (xC (.int 1))) xNil))) (aa (ac 3) xNil))))
 (kF 2)))
def fS:Fn:=bK 4 2 fT
def tW{ds:List D}{s:Pen}(h:ds.length=2):fS.p ds s=(fT.p (dSt 4 ds) s).fin:=bp h
def gJ:Xd []:=(aT (aM (aa (ac 0) (aa (xCb iC (aa (xCb cSS (aa (bx 2 [] (bD (ac 1)) (ws':=[]) (xGp (xGc (xNm 0) (xGc (xNm 1) xGl)) 2) xTrue (aM (aa (xCb io (aa (ac 0) (aa (ac 1) xNil))) (aa (xCb j0 (aa (ac 0) (aa (ac 1) xNil))) xNil)))) xNil)) xNil)) xNil))))
def gZ:Fn:=bK 2 2 gJ
def vY{ds:List D}{s:Pen}(h:ds.length=2):gZ.p ds s=(gJ.p (dSt 2 ds) s).fin:=bp h
def fV:Xd []:=(aT (bx 1 [0] (bU iR1 (aa (xCb bB (aa (ac 0) xNil)) xNil)) (ws':=[]) (xNm 0) xTrue (aM (aa (ae oIx (ac 1) (ae bP (ac 0) (xC (.int 1)))) (aa (ae oIx (ac 1) (ac 0)) xNil)))))
def fM:Fn:=bK 1 1 fV
def uY{ds:List D}{s:Pen}(h:ds.length=1):fM.p ds s=(fV.p (dSt 1 ds) s).fin:=bp h
def fU:Xd [1]:=(aK (fH 1 (br xNil))
 (aK (cW (bU iR1 (aa (xCb bB (aa (ac 0) xNil)) xNil)) (xNm 2) (xMt aExtend 1 (aa (bx 1 [0,2] (bU iR1 (aa (ac 2) xNil)) (ws':=[]) (xNm 0) (xB (ae (oIn true) (ae bP (ac 2) (ac 0)) (aM (aa (xC (.int 1)) (aa (ae bP (xCb bB (aa (ac 1) xNil)) (xC (.int 1))) xNil))))) (aM (aa (ae oIx (ac 1) (ac 2)) (aa (ae oIx (ac 1) (ac 0)) xNil)))) xNil)))
 (aT (xCb iU (aa (bx 2 [] (bD (ac 1)) (ws':=[]) (xGp (xGc (xNm 0) (xGc (xNm 1) xGl)) 2) xTrue (aM (aa (xCb io (aa (ac 0) (aa (ac 1) xNil))) (aa (xCb j0 (aa (ac 0) (aa (ac 1) xNil))) xNil)))) xNil)))))
def fQ:Fn:=bK 3 1 fU
def uF{ds:List D}{s:Pen}(h:ds.length=1):fQ.p ds s=(fU.p (dSt 3 ds) s).fin:=bp h
def dU:Xd []:=(aK (xIf (xOr (dJ (xB (xUn (bS ["list"]) (ac 1)))) (xB (ae oLt (xCb bB (aa (ac 1) xNil)) (xC (.int 4))))) (aT (xC (.bl false))) xSkip)
 (aK (cW (bD (ac 1)) (xNm 2) (xIf (xOr (dJ (xB (xUn (bS ["int"]) (ac 2)))) (xOr (xB (xUn (bS ["bool"]) (ac 2))) (xOr (xB (ae oLt (ac 2) (xC (.int 0)))) (xB (ae oGe (ac 2) (ae oIx (ac 0) (xC (.int 0)))))))) (aT (xC (.bl false))) xSkip))
 (aK (cW (bU iR1 (aa (xCb bB (aa (ac 1) xNil)) xNil)) (xNm 3) (cW (bU iR1 (aa (ac 3) xNil)) (xNm 4) (aK (pK 5 6 (aa (xCb io (aa (ae oIx (ac 1) (ac 3)) (aa (ae oIx (ac 1) (ac 4)) xNil))) (aa (xCb j0 (aa (ae oIx (ac 1) (ac 3)) (aa (ae oIx (ac 1) (ac 4)) xNil))) xNil)))
 (xIf (xOr (xB (ae oEq (ac 5) (ac 6))) (xB (ae oNe (ae (oIn false) (aM (aa (ac 5) (aa (ac 6) xNil))) (ae oIx (ac 0) (xC (.int 1)))) (ae (oIn false) (ae bP (ac 3) (ac 4)) (aM (aa (xC (.int 1)) (aa (ae bP (xCb bB (aa (ac 1) xNil)) (xC (.int 1))) xNil))))))) (aT (xC (.bl false))) xSkip))))
 (aT (xC (.bl true))))))
def cM:Fn:=bK 7 2 dU
def qG{ds:List D}{s:Pen}(h:ds.length=2):cM.p ds s=(dU.p (dSt 7 ds) s).fin:=bp h
def eT:Xd [3]:=(aK (bO 2 (aB be (aa (ac 0) (aa (xCb bB (aa (ac 1) xNil)) xNil))))
 (aK (fH 3 (ae bJ (xSl (ac 1) (xPt (ac 2)) xNo) (xSl (ac 1) xNo (xPt (ac 2)))))
 (aK (xIf (xB (ae oEq (aB be (aa (ac 0) (aa (xC (.int 2)) xNil))) (xC (.int 1)))) (xMt aReverse 3 xNil) xSkip)
 (kF 3))))
def eU:Fn:=bK 4 2 eT
def rO{ds:List D}{s:Pen}(h:ds.length=2):eU.p ds s=(eT.p (dSt 4 ds) s).fin:=bp h
def gO:Xd []:=(aT (cP (xUn (bS ["bool"]) (ac 0)) (ae oEq (ac 0) (ac 1))))
def cN:Fn:=bK 2 2 gO
def vI{ds:List D}{s:Pen}(h:ds.length=2):cN.p ds s=(gO.p (dSt 2 ds) s).fin:=bp h
def iI:Xd [5]:=(aK (bO 1 (ae bJ (xC (.int 3)) (aB be (aa (ac 0) (aa (xC (.int 10)) xNil)))))
 (aK (bO 2 (ae bJ (ac 1) (aB be (aa (ac 0) (aa (ae bP (xC (.int 13)) (ac 1)) xNil)))))
 (aK (bO 3 (aB fS (aa (ac 0) (aa (ac 2) xNil))))
 (aK (bO 4 (xSl (ac 3) xNo (xPt (ac 1))))
 (aK (fH 5 (aB fM (aa (ac 4) xNil)))
 (aK (bO 6 (aB fQ (aa (ac 4) xNil)))
 (aK (bO 7 (aB be (aa (ac 0) (aa (xC (.int 4)) xNil))))
 (aK (xIf (rE (xB (ae oEq (ac 7) (xC (.int 1)))) (xB (ae oNe (ac 6) (br xNil)))) (xMt aAppend 5 (aa (ae oIx (ac 6) (aB be (aa (ac 0) (aa (xCb bB (aa (ac 6) xNil)) xNil)))) xNil)) xSkip)
 (aK (xIf (xB (ae oEq (ac 7) (xC (.int 2)))) (xMt aExtend 5 (aa (bx 1 [0] (bD (ac 6)) (ws':=[]) (xNm 0) (xB (ae oEq (aB be (aa (ac 1) (aa (xC (.int 6)) xNil))) (xC (.int 0)))) (ac 0)) xNil)) xSkip)
 (aK (cW (bU iR2 (aa (ac 1) (aa (ac 2) xNil))) (xNm 8) (xMt aExtend 5 (aa (bx 1 [3,8,0] (bU iR1 (aa (ac 8) xNil)) (ws':=[]) (xNm 0) (xB (ae oEq (aB be (aa (ac 3) (aa (xC (.int 3)) xNil))) (xC (.int 0)))) (aM (aa (ae oIx (ac 1) (ac 2)) (aa (ae oIx (ac 1) (ac 0)) xNil)))) xNil)))
 (aT (aM (aa (pE gZ (aa (ac 2) (aa (ac 5) xNil))) (aa (ac 4) xNil))))))))))))))
def gD:Fn:=bK 9 1 iI
def xm{ds:List D}{s:Pen}(h:ds.length=1):gD.p ds s=(iI.p (dSt 9 ds) s).fin:=bp h
def gW:Xd []:=(aK (bO 3 (aB be (aa (ac 0) (aa (ae bP (xCb bB (aa (ac 2) xNil)) (xC (.int 1))) xNil))))
 (xBld 4 (xCb nr (aa (ac 2) xNil)) (xSw 4 (ae oIx (ac 2) (ae bJ (ac 3) (xC (.int 1)))) (ae oIx (ac 2) (ac 3)) (ac 3) (ae bJ (ac 3) (xC (.int 1))))
 (aK (bO 5 (ae oIx (br (aa (ae oIx (ac 1) (xC (.int 0))) (aa (xUn jO (xC (.int 1))) (aa (xC (.bl true)) (aa (xC .non) (aa (xC (.str "0")) (aa (aM (aa (ae oIx (ac 2) (xC (.int 0))) xNil)) (aa (br (aa (ae oIx (ac 2) (xC (.int 0))) xNil)) xNil)))))))) (aB be (aa (ac 0) (aa (xC (.int 7)) xNil)))))
 (aK (bO 6 (br (aa (ac 2) (aa (aB eU (aa (ac 0) (aa (ac 2) xNil))) (aa (ac 4) (aa (xSl (ac 2) (xPt (xC (.int 1))) xNo) (aa (ae bJ (ac 2) (br (aa (ae oIx (ac 2) (ac 3)) xNil))) (aa (xCb iC (aa (ac 2) xNil)) (aa (ae bJ (xSl (ac 2) xNo (xPt (xUn jO (xC (.int 1))))) (br (aa (ac 5) xNil))) xNil)))))))))
 (aK (bO 6 (ae bJ (ac 6) (br (aa (ae qo (br (aa (ae oIx (ac 2) (xC (.int 0))) (aa (ae oIx (ac 2) (xC (.int 1))) xNil))) (xC (.int 2))) (aa (br (aa (ae oIx (ac 2) (xC (.int 0))) (aa (ae oIx (ac 2) (xC (.int 1))) (aa (ae oIx (ac 2) (xC (.int 0))) (aa (ae oIx (ac 2) (xUn jO (xC (.int 1)))) xNil))))) (aa (ae bJ (xSl (ac 2) xNo (xPt (xC (.int 3)))) (br (aa (ae oIx (ac 2) (xC (.int 1))) xNil))) xNil))))))
 (aK (bO 6 (ae bJ (ac 6) (br (aa (ae bJ (ac 2) (ac 2)) (aa (ae qo (xSl (ac 2) xNo (xPt (xC (.int 2)))) (ae bJ (ac 3) (xC (.int 2)))) xNil)))))
 (aT (ae bJ (ac 6) (br (aa (br xNil) (aa (xC .non) (aa (ae oIx (ac 2) (xC (.int 0))) (aa (br (aa (ac 2) xNil)) (aa xDic xNil)))))))))))) sw_keep))
def fx:Fn:=bK 7 3 gW
def vS{ds:List D}{s:Pen}(h:ds.length=3):fx.p ds s=(gW.p (dSt 7 ds) s).fin:=bp h
def dh:Xd []:=(aK (bO 1 (br (aa (xC .non) (aa (xC (.str "need")) (aa (aM xNil) (aa (aM (aa (xC (.str "need")) xNil)) (aa (br (aa (xC (.str "need")) (aa (ac 0) xNil))) (aa (aM (aa (xC (.str "need")) (aa (ac 0) (aa (aM xNil) xNil)))) (aa (aM (aa (xC (.str "need")) (aa (ac 0) (aa (xC .non) xNil)))) (aa (aM (aa (ac 0) (aa (xC (.str "need")) xNil))) xNil))))))))))
 (aK (bO 1 (ae bJ (ac 1) (br (aa (aM (aa (xC (.str "needs")) (aa (ac 0) xNil))) (aa (aM (aa (xC (.str "Need")) (aa (ac 0) xNil))) (aa (aM (aa (xC (.str "")) (aa (ac 0) xNil))) (aa (aM (aa (xC .non) (aa (ac 0) xNil))) (aa (aM (aa (xC (.bl true)) (aa (ac 0) xNil))) (aa (aM (aa (br (aa (xC (.str "need")) xNil)) (aa (ac 0) xNil))) (aa xDic xNil))))))))))
 (aT (ae bJ (ac 1) (br (aa (ac 0) (aa (aM (aa (xC (.str "chords")) (aa (ac 0) xNil))) (aa (aM (aa (xC (.str "chords")) (aa (ac 0) (aa (aM xNil) xNil)))) (aa (aM (aa (xC (.str "chords")) (aa (ac 0) (aa (br xNil) xNil)))) (aa (aM (aa (xC (.str "need")) (aa (br (aa (ac 0) xNil)) xNil))) (aa (xC (.int 7)) xNil)))))))))))
def cz:Fn:=bK 2 1 dh
def n8{ds:List D}{s:Pen}(h:ds.length=1):cz.p ds s=(dh.p (dSt 2 ds) s).fin:=bp h
def fN:Xd []:=(aK (xAsg (aB gD (aa (ac 2) xNil)) (xGp (xGc (xNm 6) (xGc (xNm 7) xGl)) 2))
 (aK (bO 3 (aM (aa (xCb kM (aa (ac 6) xNil)) (aa (xCb kM (aa (ac 7) xNil)) xNil))))
 (aK (bO 4 (br (aa (ae bP (xCb bB (aa (ac 7) xNil)) (xC (.int 5))) (aa (ae bP (xCb bB (aa (ac 7) xNil)) (xC (.int 4))) (aa (ae bP (xCb bB (aa (ac 7) xNil)) (xC (.int 3))) (aa (xC (.int 0)) (aa (xUn jO (xC (.int 1))) (aa (ae bP (xUn jO (xC (.int 1))) (aB be (aa (ac 2) (aa (xC (.int 9)) xNil)))) (aa (aB be (aa (ac 2) (aa (ae oPow (xC (.int 10)) (xC (.int 9))) xNil))) xNil)))))))))
 (aK (cW (bU iE (aa (aB fx (aa (ac 2) (aa (ac 6) (aa (ac 7) xNil)))) xNil)) (xGp (xGc (xNm 8) (xGc (xNm 5) xGl)) 2) (aK (bO 9 (aB cM (aa (ac 6) (aa (ac 5) xNil))))
 (cW (bD (ae oIx (br (aa (ac 4) (aa (xSl (ac 4) (xPt (xC (.int 1))) xNo) (aa (br (aa (xC (.int 0)) (aa (ae oIx (ac 4) (xC (.int 0))) (aa (ae oIx (ac 4) (xC (.int 5))) xNil)))) xNil)))) (xCb io (aa (ac 8) (aa (xC (.int 2)) xNil))))) (xNm 10) (aK (bO 11 (cP (ae oGe (ac 10) (xC (.int 0))) (cP (ac 9) (ae oGt (ae bP (xCb bB (aa (ac 5) xNil)) (xC (.int 3))) (ac 10)))))
 (xIf (dJ (xB (aB cN (aa (aB bc (aa (ac 6) (aa (ac 10) (aa (aM (aa (xC (.str "need")) (aa (ac 5) xNil))) xNil)))) (aa (ac 11) xNil))))) (aT (xC (.bl false))) xSkip)))))
 (aK (cW (bD (aB cz (aa (ac 7) xNil))) (xNm 5) (xIf (dJ (xB (aB cN (aa (aB bc (aa (ac 6) (aa (xC (.int 0)) (aa (ac 5) xNil)))) (aa (xC (.bl false)) xNil))))) (aT (xC (.bl false))) xSkip))
 (xIf (xB (ae oNe (aM (aa (xCb kM (aa (ac 6) xNil)) (aa (xCb kM (aa (ac 7) xNil)) xNil))) (ac 3))) (aT (xC (.bl false))) xSkip))))))
def m_law:Mst:=(bq (jq (kJ (aj (mC (.int 2)) mNil)) (gNm 1) (bq (bG 2 (b8 eN (aj (aq 0) (aj (aq 1) mNil))))
 (bq (e9 (b8 gD.m (aj (aq 2) mNil)) (gTp (gCn (gNm 6) (gCn (gNm 7) gNl)) 2))
 (bq (bG 3 (ir (aj (mCB fReprA (aj (aq 6) mNil)) (aj (mCB fReprA (aj (aq 7) mNil)) mNil))))
 (bq (bG 4 (fo (aj (az opSub (mCB fLen (aj (aq 7) mNil)) (mC (.int 5))) (aj (az opSub (mCB fLen (aj (aq 7) mNil)) (mC (.int 4))) (aj (az opSub (mCB fLen (aj (aq 7) mNil)) (mC (.int 3))) (aj (mC (.int 0)) (aj (mUn opNeg (mC (.int 1))) (aj (az opSub (mUn opNeg (mC (.int 1))) (b8 ck (aj (aq 2) (aj (mC (.int 9)) mNil)))) (aj (b8 ck (aj (aq 2) (aj (az opPow (mC (.int 10)) (mC (.int 9))) mNil))) mNil)))))))))
 (bq (jq (mItE (aj (b8 fx.m (aj (aq 2) (aj (aq 6) (aj (aq 7) mNil)))) mNil)) (gTp (gCn (gNm 8) (gCn (gNm 5) gNl)) 2) (bq (bG 9 (b8 cM.m (aj (aq 6) (aj (aq 5) mNil))))
 (jq (lC (az bT (fo (aj (aq 4) (aj (mSl (aq 4) (mPt (mC (.int 1))) mNo) (aj (fo (aj (mC (.int 0)) (aj (az bT (aq 4) (mC (.int 0))) (aj (az bT (aq 4) (mC (.int 5))) mNil)))) mNil)))) (mCB fMin (aj (aq 8) (aj (mC (.int 2)) mNil))))) (gNm 10) (bq (bG 11 (mN (az opGe (aq 10) (mC (.int 0))) (mN (aq 9) (az opGt (az opSub (mCB fLen (aj (aq 5) mNil)) (mC (.int 3))) (aq 10)))))
 (mIf (rq (mB (b8 cN.m (aj (b8 bc.m (aj (aq 6) (aj (aq 10) (aj (ir (aj (mC (.str "need")) (aj (aq 5) mNil))) mNil)))) (aj (aq 11) mNil))))) (b7 (mC (.bl false))) mSkip)))))
 (bq (jq (lC (b8 cz.m (aj (aq 7) mNil))) (gNm 5) (mIf (rq (mB (b8 cN.m (aj (b8 bc.m (aj (aq 6) (aj (mC (.int 0)) (aj (aq 5) mNil)))) (aj (mC (.bl false)) mNil))))) (b7 (mC (.bl false))) mSkip))
 (mIf (mB (az opNe (ir (aj (mCB fReprA (aj (aq 6) mNil)) (aj (mCB fReprA (aj (aq 7) mNil)) mNil))) (aq 3))) (b7 (mC (.bl false))) mSkip))))))))
 (b7 (mC (.bl true))))
def f_law:List PV->MH->Out PV:=eD 12 1 m_law
end
end Law
namespace Law
open PySem MM PU SetT SortT
open L2 (ixN atI dr)
set_option maxHeartbeats 1000000
def nM{i:Int}{s:Pen}:cD.p [.int i] s=.ok (.bl true) s:=by
 rw[lh (by rfl)];unfold dH;simp[dSt,bL]
def sk{n i:Int}{s:Pen}:cH.p [.int n,.int i] s=.ok (.bl (decide (0<=i) && decide (i<n))) s:=by
 rw[ld (by rfl)];unfold dI;by_cases z:0<=i <;> simp[dSt,nM,z]
abbrev KsOf(d:D)(ks:List (List Int)):Prop:=d.items=some (ks.map kD)
def hU:∀(ks:List (List Int)),eV (ks.map kD)=some ks
 | []=>rfl
 | k::ks=>by
  have:fu (kD k)=some k:=by
   show bQ (k.map .int)=some k
   induction k with
   | nil=>rfl
   | cons i k ih=>rw[qaF,bQ,ih];rfl
  rw[qaF,eV,this,hU ks]
open Classical in
theorem cSS_k{ks:List (List Int)}(h:(∀k∈ks,k≠[])/\(SetT.ded ks).length<=66):cSS.p [.lst (ks.map kD)]=some (.lst ((bI (SetT.ded ks)).map kD)):=by
 show (eV (ks.map kD)).bind _=_;rw[hU,qaO,qag h]
def minS_2{a b:Int}:mO.p [.tup [.int a,.int b]]=some (.int (if b<a then b else a)):=by
 simp[mO,pD,D.items,bQ,k7,argBest]
 split <;> simp
def maxS_2{a b:Int}:nq.p [.tup [.int a,.int b]]=some (.int (if b>a then b else a)):=by
 simp[nq,pD,D.items,bQ,k7,argBest]
 split <;> simp
def ql{n:Int}{d:D}{ks:List (List Int)}{s:Pen}(e:KsOf d ks)(hk:∀k∈ks,IsT n k)(hl:ks.length<=100000)(hd:(SetT.ded (ks.map mmK)).length<=66) :
  bt.p [d] s=.ok (.tup ((bI (SetT.ded (ks.map mmK))).map kD)) s:=by
 rw[nF (by rfl)];unfold c6
 have q:=hJ (ws:=[]) (ws':=[]) (env:=dSt 1 [d]) (s:=s) (fm:=[]) (i:=bD (ac 0)) (t:=xTrue) (e:=(aM (aa (xCb mO (aa (ac 0) xNil)) (aa (xCb nq (aa (ac 0) xNil)) xNil)))) (ds:=ks.map kD) (fun _=>true) (fun x=>match fu x with | some k=>kD (mmK k) | none=>.non) (by simp[dSt,e]) (by simpa using hl) (fun x hx=>by
   obtain⟨k,hk',rfl⟩:=qaC.mp hx;obtain⟨a,b,rfl,_⟩:=hk k hk';refine⟨rfl,fun _=>?_⟩
   simp[kD,minS_2,maxS_2,fu,bQ,mmK])
 have e2:(((ks.map kD).filter fun _=>true).map fun x=>match fu x with | some k=>kD (mmK k) | none=>.non)=(ks.map mmK).map kD:=by
  rw[cU,qbl,qbl];refine List.map_congr_left fun k hk'=>?_;obtain⟨a,b,rfl,_⟩:=hk k hk';rfl
 rw[e2] at q
 have q2:=cSS_k (ks:=ks.map mmK) ⟨fun k hk'=>by
  obtain⟨k',hk'',rfl⟩:=qaC.mp hk';obtain⟨a,b,rfl,_⟩:=hk k' hk''
  simp[mmK],hd⟩
 rw[aN,aQ,af,aQ,af,q];simp only[Pb,ak,q2,Pf,lW,Pg,PU.aO]
def aG(n:Int)(ks:List (List Int)):D:=.tup [.int n,.tup (ks.map kD)]
def oH(n:Nat):cv 0 n=(upto n).map .int:=by simp[cv,upto]
def w4{ns:List Int}(hl:ns.length<64):iU.p [.lst (ns.map .int)]=some (.lst ((im ns).map .int)):=by
 have e:∀ns:List Int,bQ (ns.map .int)=some ns:=fun ns=>by
  induction ns with
  | nil=>rfl
  | cons i k ih=>rw[qaF,bQ,ih];rfl
 show (kA (ns.map .int)).map _=_;simp only[kA,e];rw[qag hl];rfl
def xR{ns:List Int}{j:Nat}(hj:j<=ns.length):f8 (ns.map D.int) (some (j:Int)) none=(ns.drop j).map .int:=by
 unfold f8;rw[HT.qx,qal,HT.sA,qcI hj,List.map_drop];exact qaW (by simp)
def jE{ds:List D}:(d4 ds).length=ds.length:=by simp[d4]
def jU{ds:List D}{j:Nat}{d:D}(e:(d4 ds)[j]?=some d):∃x,ds[j]?=some x/\d=.tup [.int (j:Int),x]:=by
 unfold d4 at e;rw[qat,qcl] at e
 cases e1:ds[j]? with
 | none=>rw[e1] at e;cases e
 | some x=>rw[e1] at e;simp at e;exact⟨x,rfl,e.symm⟩
def fw{ws:List Nat}{env:av}{s s1:Pen}{o:OpM}{i:Nat}{a:Xs ws}{hi:ws.contains i=true}{hz:a.fz=true}{as ds ds':List D}{r:D}(e1:a.p env s=.ok as s1)(e2:env[i]?=some (some (.lst ds)))(e3:o.p ds as=some (r,ds')):(xMt o i a hi hz).p env s=.nx (env.set i (some (.lst ds'))) s1:=by
 rw[xMt_p,v6 e1 e2 e3]
def lS{ns:List Int}{j:Nat}{x:D}(e:(ns.map D.int)[j]?=some x):x=.int (ns.getD j 0)/\j<ns.length:=by
 rw[qat,qax] at e;obtain⟨i,e1,rfl⟩:=e;obtain⟨h1,h2⟩:=qad.mp e1;exact⟨by simp[List.getD,e1],h1⟩
def among_p{ns:List Int}{s:Pen}(hn:ns.length<=12):cC.p [.lst (ns.map .int)] s=.ok (.lst ((bo ns ns.length).map kD)) s:=by
 rw[oe (by rfl)];unfold cY;have e0:dSt 4 [D.lst (ns.map .int)]=[some (.lst (ns.map .int)),none,none,none]:=rfl;obtain⟨env',s',e,z1,z2,rfl,hs⟩:=eP (g:=(xGp (xGc (xNm 2) (xGc (xNm 3) xGl)) 2:Xg [1]).p) (b:=(xMt aExtend 1 (aa (bx 1 [3] (bD (xSl (ac 0) (xPt (ae bJ (ac 2) (xC (.int 1)))) xNo)) (ws':=[]) (xNm 0) xTrue (aM (aa (ac 1) (aa (ac 0) xNil)))) xNil):Xd [1]).p)
  (fun j env s'=>∃z1 z2,env=[some (.lst (ns.map .int)),some (.lst ((bo ns j).map kD)),z1,z2]/\s'=s) (d4 (ns.map .int)) 0 [some (.lst (ns.map .int)),some (.lst []),none,none] s ⟨none,none,rfl,rfl⟩ (fun j env s' d ⟨z1,z2,hE,hS⟩ hd=>by
   rw[qaS] at hE ⊢;subst hE hS;obtain⟨x,hx,rfl⟩:=jU hd;obtain⟨rfl,hj⟩:=lS hx;have hpl:=i7 hn j
   have q:=hJ (ws:=[1]) (ws':=[]) (env:=[some (.lst (ns.map .int)),some (.lst ((bo ns j).map kD)),some (.int (j:Int)),some (.int (ns.getD j 0))]) (s:=s') (fm:=[3]) (i:=(bD (xSl (ac 0) (xPt (ae bJ (ac 2) (xC (.int 1)))) xNo))) (t:=xTrue) (e:=(aM (aa (ac 1) (aa (ac 0) xNil)))) (ds:=(ns.drop (j+1)).map .int) (fun _=>true) (fun x=>.tup [.int (ns.getD j 0),x]) (by
     have:=xR (ns:=ns) (j:=j+1) (by ext)
     push_cast at this
     simp[this]) (by simp;ext) (fun x hx=>⟨rfl,fun _=>by simp⟩)
   have e2:((((ns.drop (j+1)).map D.int).filter fun _=>true).map fun x=>D.tup [.int (ns.getD j 0),x])=((ns.drop (j+1)).map fun b=>[ns.getD j 0,b]).map kD:=by
    rw[cU,qbl,qbl];rfl
   rw[e2] at q;refine⟨[some (.lst (ns.map .int)),some (.lst ((bo ns j).map kD)),some (.int (j:Int)),some (.int (ns.getD j 0))],_,s',by simp,fw (s1:=s') (as:=[.lst (((ns.drop (j+1)).map fun b=>[ns.getD j 0,b]).map kD)]) (ds:=(bo ns j).map kD) (ds':=(bo ns (j+1)).map kD) (r:=.non) (by rw[af,q];simp only[Pb,ak]) rfl ?_,_,_,rfl,rfl⟩
   rw[g8 (by simp;ext),rK,List.map_append])
 rw[jE,qal,qaS,hs] at e;have s1:(fH 1 (br xNil):Xd [1]).p [some (.lst (ns.map .int)),none,none,none] s=.nx [some (.lst (ns.map .int)),some (.lst []),none,none] s:=by simp
 rw[e0,aw,s1,PU.au,aw,dS,dP,af];simp only[ag,Pb,ak,iE_l,Pf,Pg];rw[e,PU.au,kE (d:=.lst ((bo ns ns.length).map kD)) rfl,PU.aO]
def gA(k:List Int):fu (kD k)=some k:=by
 have:=hU [k]
 simp only[qaF,qbF,eV] at this;revert this
 cases fu (kD k) with
 | none=>intro h;cases h
 | some y=>intro h;simp at h;rw[h]
def nK{n:Int}{ks:List (List Int)}(h0:0<=n)(h12:n<=12)(ht:∀k∈ks,∃a b:Int,k=[a,b]/\0<=a/\a<b/\b<n):WebT n (bI (SetT.ded ks)) :=
 ⟨h0,h12,fun k hk=>ht k ((SetT.iA k ks).mp ((ce _).mem_iff.mp hk)),i5 _,(ce _).symm.nodup (j6 ks)⟩
def rA{n:Int}{ks:List (List Int)}(h12:n<=12)(ht:∀k∈ks,∃a b:Int,k=[a,b]/\0<=a/\a<b/\b<n):(SetT.ded ks).length<=66 :=
 kG h12 (fun k hk=>ht k ((SetT.iA k ks).mp hk)) (j6 ks)
def isT_of{n:Int}{ks:List (List Int)}(ht:∀k∈ks,∃a b:Int,k=[a,b]/\0<=a/\a<b/\b<n):∀k∈ks,IsT n k:=fun k hk=>by
 obtain⟨a,b,rfl,h1,h2,h3⟩:=ht k hk;exact⟨a,b,rfl,h1,by ext,by ext,h3,by ext⟩
structure Ord (n:Nat) (qs:List Int):Prop where
 n12:n<=12
 pm:qs.Perm (upto n)
def Ord.len{n:Nat}{qs:List Int}(o:Ord n qs):qs.length=n:=by have:=o.pm.length_eq;simpa [upto] using this
def Ord.bd{n:Nat}{qs:List Int}(o:Ord n qs):∀q∈qs,0<=q/\q<(n:Int):=fun q hq=>jn.mp (o.pm.mem_iff.mp hq)
def Ord.at{n:Nat}{qs:List Int}(o:Ord n qs){j:Nat}(hj:j<qs.length):0<=qs.getD j 0/\qs.getD j 0<(n:Int):=o.bd _ (by
 have:qs.getD j 0=qs[j]:=by simp[List.getD,hj]
 rw[this];exact qcA hj)
def jy{g:D->av->Option av}{t:av->Pen->PR Bool}{e:av->Pen->PR D}(S:av->Prop)(P:D->Prop):∀(ds:List D) (env:av) (s:Pen),S env ->
  (∀x∈ds,∀env s,S env->∃env1,g x env=some env1/\S env1/\∃b s1,t env1 s=.ok b s1/\(b=true->∃y s2,e env1 s1=.ok y s2/\P y))->∃r s',ec g t e ds env s=.ok r s'/\r.length<=ds.length/\∀y∈r,P y
 | [],env,s,hS,body=>⟨[],s,rfl,by simp,by simp⟩
 | x::ds,env,s,hS,body=>by
  obtain⟨env1,e1,hS1,b,s1,e2,e3⟩:=body x (by simp) env s hS;have rest:=fun y hy=>body y (qaf x hy);rw[ec,e1];dsimp only;rw[e2,Pb]
  cases b with
  | true =>
   obtain⟨y,s2,e4,py⟩:=e3 rfl;obtain⟨r,s3,e5,hl,hr⟩:=jy S P ds env1 s2 hS1 rest;refine⟨y::r,s3,by simp only[if_true,e4,Pb,e5],by simp;ext,fun z hz=>?_⟩;rcases qaj.mp hz with rfl|hz
   ·exact py
   ·exact hr z hz
  | false =>
   obtain⟨r,s3,e5,hl,hr⟩:=jy S P ds env1 s1 hS1 rest;exact⟨r,s3,by simp only[qac,if_false,e5],by simp;ext,hr⟩
def gp{ws ws':List Nat}{env:av}{s s0:Pen}{fm:List Nat}{i:Xi ws}{t:Xt ws'}{e:Xe ws'}{ds:List D}(P:D->Prop)(ei:i.p env s=.ok ds s0)(hl:ds.length<=100000)
  (body:∀x∈ds,∀s,∃b s1,t.p (some x::fm.map fun i=>(env[i]?).getD none) s=.ok b s1/\(b=true->∃y s2,e.p (some x::fm.map fun i=>(env[i]?).getD none) s1=.ok y s2/\P y)) (h0:ws'.contains 0=false:=by exact ys rfl) (hw:cws 1 fm ws=ws':=by exact ys rfl) (hz:e.fz=true:=by exact ys rfl) :
  ∃r s',(bx 1 fm i (xNm 0 h0) t e hw hz).p env s=.ok (.lst r) s'/\r.length<=ds.length/\∀y∈r,P y:=by
 obtain⟨r,s',e1,h1,h2⟩:=jy (g:=(xNm 0 h0:Xg ws').p) (t:=t.p) (e:=e.p) (fun v=>∃z,v=z::fm.map fun i=>(env[i]?).getD none) P ds (cenv 1 fm env) s0 ⟨none,rfl⟩ fun x hx env' s ⟨z,hz⟩=>by
  subst hz;obtain⟨b,s1,e2,e3⟩:=body x hx s;exact⟨_,rfl,⟨some x,rfl⟩,b,s1,e2,e3⟩
 refine⟨r,s',?_,h1,h2⟩;rw[tF,ei,Pb,qag hl,e1]
def cV{lo:Int}{c:Nat}:(cv lo c).length=c:=by simp[cv]
def dy{lo:Int}{c:Nat}{x:D}(h:x∈cv lo c):∃i:Int,x=.int i/\lo<=i/\i<lo+c:=by
 unfold cv at h;obtain⟨k,hk,rfl⟩:=qaC.mp h;rw[qbp] at hk;exact⟨_,rfl,by ext,by ext⟩
def qC{c i:Nat}{x:D}(h:(cv 0 c)[i]?=some x):x=.int (i:Int)/\i<c:=by
 unfold cv at h;rw[qat,qax] at h;obtain⟨k,hk,rfl⟩:=h;obtain⟨a,b⟩:=qad.mp hk;simp at a b;subst b;exact⟨by simp,a⟩
local macro_rules | `(tactic| simp! [$a,*]) => `(tactic| simp only [$a,*, Pb, af, ag, ah, ak])
local macro_rules | `(tactic| dsimp! [$a,*]) => `(tactic| simp only [$a,*, Pb, Pf, Pl, aA, aJ, ag, ah, if_false, qac])
def order_p{n:Nat}{s:Pen}(hn:n<=12):∃qs s',fS.p [.pen,.int n] s=.ok (.lst (qs.map .int)) s'/\Ord n qs:=by
 rw[tW (by rfl)];unfold fT;have e0:dSt 4 [D.pen,.int n]=[some .pen,some (.int n),none,none]:=rfl;obtain⟨env',s',e,z,qs,rfl,pm⟩:=eP (g:=(xNm 3:Xg [2]).p) (b:=(xMt aInsert 2 (aa (aB be (aa (ac 0) (aa (ae bJ (ac 3) (xC (.int 1))) xNil))) (aa (ac 3) xNil)):Xd [2]).p)
  (fun j env s'=>∃z qs,env=[some .pen,some (.int n),some (.lst ((qs:List Int).map .int)),z]/\qs.Perm (upto j)) (cv 0 n) 0 [some .pen,some (.int n),some (.lst []),none] s ⟨none,[],rfl,by simp[upto]⟩ (fun j env s' d ⟨z,qs,hE,pm⟩ hd=>by
   rw[qaS] at pm ⊢;subst hE;obtain⟨rfl,hj⟩:=qC hd;have hlq:qs.length=j:=by have:=pm.length_eq;simpa [upto] using this
   obtain⟨d,s1,d0,d1,qd⟩:=cQ (s:=s') (size:=(j:Int)+1) (by ext) (by ext);obtain⟨k,rfl⟩:=cR d0;refine⟨[some .pen,some (.int n),some (.lst (qs.map .int)),some (.int (j:Int))],[some .pen,some (.int n),some (.lst ((qs.take k++(j:Int)::qs.drop k).map .int)),some (.int (j:Int))],s1,rfl,?_,_,qs.take k++(j:Int)::qs.drop k,rfl,?_⟩
   ·rw[fw (s1:=s1) (as:=[.int (k:Int),.int (j:Int)]) (ds:=qs.map .int) (ds':=(qs.take k++(j:Int)::qs.drop k).map .int) (r:=.non) (by simp[qd]) rfl (by
     rw[wX (by simp;ext) (by simp;ext)];simp)]
    rfl
   ·have:(qs.take k++((j:Int))::qs.drop k).Perm (((j:Int))::qs):=by
     have:=qbY (a:=(j:Int)) (l₁:=qs.take k) (l₂:=qs.drop k)
     rwa [qaZ] at this
    refine this.trans ((pm.cons _).trans ?_);have e1:upto (j+1)=upto j++[(j:Int)]:=by simp[upto,List.range_succ]
    rw[e1]
    exact (qcn _ _).symm)
 rw[cV,qaS] at pm;refine⟨qs,s',?_,hn,pm⟩;rw[e0,aw,kz];simp![cG,qcK,qaR,if_true,Pg,qaq,qar,PU.au,aw,dS,dP];rw[iZ (by ext),qaG,Pf,Pg,e,PU.au,kE (d:=.lst (qs.map .int)) rfl,PU.aO]
def nxt(m k:Nat):Nat:=if k+1=m then 0 else k+1
def Adj(rs:List Int)(a b:Int):Prop:=∃k,k<rs.length/\rs[k]?=some a/\rs[nxt rs.length k]?=some b
def gN(rs:List Int)(a b:Int):Prop:=Adj rs a b\/Adj rs b a
def gN.symm{rs:List Int}{a b:Int}(h:gN rs a b):gN rs b a:=h.elim .inr .inl
structure Rg (n:Nat) (rs:List Int):Prop where
 nd:rs.Nodup
 bd:∀x∈rs,0<=x/\x<(n:Int)
 n12:n<=12
 l3:3<=rs.length
def Rg.len{n:Nat}{rs:List Int}(g:Rg n rs):rs.length<=12:=by
 have:=List.Nodup.length_le_of_subset (l₂:=upto 12) g.nd fun x hx=>by
  rw[jn];have:=g.bd x hx;have:=g.n12;ext
 simpa [upto] using this
def Rg.ne{n:Nat}{rs:List Int}(g:Rg n rs){a b:Int}(h:Adj rs a b):a≠b/\a∈rs/\b∈rs:=by
 obtain⟨k,hk,ea,eb⟩:=h;have l3:=g.l3;refine⟨fun z=>?_,qaL ea,qaL eb⟩;subst z;have hn:nxt rs.length k<rs.length:=by unfold nxt;split <;> ext
 have:=(qbO (i:=k) (j:=nxt rs.length k) hk g.nd).mp (ea.trans eb.symm)
 unfold nxt at this
 split at this <;> ext
def fe(rs:List Int):List (List Int):=(List.range rs.length).map fun k=>[rs.getD (if k=0 then rs.length - 1 else k - 1) 0,rs.getD k 0]
def lV{rs:List Int}{a b:Int}:[a,b]∈fe rs↔Adj rs a b:=by
 unfold fe Adj;rw[qaC];constructor
 ·rintro⟨k,hk,e⟩;rw[qbp] at hk;injection e with e1 e
  injection e with e2 _
  have hk':(if k=0 then rs.length - 1 else k - 1)<rs.length:=by split <;> ext
  refine⟨if k=0 then rs.length - 1 else k - 1,hk',?_,?_⟩
  ·rw[<-e1];simp[List.getD,hk']
  ·have en:nxt rs.length (if k=0 then rs.length - 1 else k - 1)=k:=by unfold nxt;(repeat' split) <;> ext
   rw[en,<-e2];simp[List.getD,hk]
 ·rintro⟨k,hk,ea,eb⟩;have hn:nxt rs.length k<rs.length:=by unfold nxt;split <;> ext
  refine⟨nxt rs.length k,qbp.mpr hn,?_⟩;have en:(if nxt rs.length k=0 then rs.length - 1 else nxt rs.length k - 1)=k:=by unfold nxt;(repeat' split) <;> ext
  rw[en];simp[List.getD,ea,eb]
def yL{n:Nat}{rs:List Int}(g:Rg n rs):∀k∈fe rs,∃a b,k=[a,b]/\Adj rs a b:=fun k hk=>by
 have hk':=hk;unfold fe at hk;obtain⟨i,_,rfl⟩:=qaC.mp hk;exact⟨_,_,rfl,lV.mp hk'⟩
def i6{n:Nat}{rs:List Int}(g:Rg n rs):∀k∈fe rs,IsT n k:=fun k hk=>by
 obtain⟨a,b,rfl,h⟩:=yL g k hk;obtain⟨ne,ma,mb⟩:=g.ne h;have ba:=g.bd a ma;have bb:=g.bd b mb;exact⟨a,b,rfl,ba.1,ba.2,bb.1,bb.2,ne⟩
def gX{n:Int}{ks:List (List Int)}(h:∀k∈ks,IsT n k):∀k∈ks.map mmK,∃a b:Int,k=[a,b]/\0<=a/\a<b/\b<n:=fun k hk=>by
 obtain⟨k',hk',rfl⟩:=qaC.mp hk;obtain⟨a,b,rfl,h1,h2,h3,h4,ne⟩:=h k' hk';rcases qcf ne with z|z
 ·rw[iT z];exact⟨a,b,rfl,h1,z,h4⟩
 ·rw[jN z];exact⟨b,a,rfl,h3,z,h2⟩
def wD{ks:List (List Int)}{n:Int}(h:∀k∈ks,IsT n k){a b:Int}(lt:a<b):[a,b]∈ks.map mmK↔[a,b]∈ks\/[b,a]∈ks:=by
 rw[qaC];constructor
 ·rintro⟨k,hk,e⟩;obtain⟨c,d,rfl,_,_,_,_,ne⟩:=h k hk;rcases qcf ne with z|z
  ·rw[iT z] at e;rw[<-e];exact .inl hk
  ·rw[jN z] at e;injection e with e1 e
   injection e with e2 _
   subst e1 e2;exact .inr hk
 ·rintro (h|h)
  ·exact⟨_,h,iT lt⟩
  ·exact⟨_,h,jN lt⟩
def cX(rs:List Int):List (List Int):=bI (SetT.ded ((fe rs).map mmK))
def ln{n:Nat}{rs:List Int}(g:Rg n rs){a b:Int}(lt:a<b):[a,b]∈cX rs↔gN rs a b:=by
 unfold cX gN;rw[(ce _).mem_iff,SetT.iA,wD (i6 g) lt,lV,lV]
def lv{n:Nat}{rs:List Int}(g:Rg n rs):WebT n (cX rs):=nK (by ext) (by have:=g.n12;ext) (gX (i6 g))
def nO{n:Nat}{rs:List Int}{s:Pen}(g:Rg n rs):dC.p [.lst (rs.map .int)] s=.ok (.tup ((cX rs).map kD)) s:=by
 have hl:=g.len;have l3:=g.l3
 have q:=comp2 (ws:=[]) (ws':=[]) (env:=[some (.lst (rs.map .int))]) (s:=s) (fm:=[0]) (i:=bU iE (aa (ac 0) xNil)) (t:=xTrue) (e:=aM (aa (ae oIx (ac 2) (ae bP (ac 0) (xC (.int 1)))) (aa (ac 1) xNil))) (ds:=d4 (rs.map .int)) (fun _=>true) (fun x=>match x with | .tup [.int k,.int v]=>kD [rs.getD (if k=0 then rs.length - 1 else (k - 1).toNat) 0,v] | _=>.non) (by simp) (by rw[jE];simp;ext) (fun x hx=>by
  obtain⟨j,hj⟩:=qaA.mp hx;obtain⟨y,hy,rfl⟩:=jU hj;obtain⟨rfl,hjl⟩:=lS hy;refine⟨_,_,rfl,rfl,fun _=>?_⟩;have ei:atI (rs.map D.int) ((j:Int) - 1)=some (.int (rs.getD (if (j:Int)=0 then rs.length - 1 else ((j:Int) - 1).toNat) 0)):=by
   unfold atI ixN;rw[qal];by_cases z:j=0
   ·subst z;rw[qao (by decide),qag (by ext),qag (show ((0:Nat):Int)=0 from rfl)];have e1:(((0:Nat):Int) - 1+(rs.length:Int)).toNat=rs.length - 1:=by ext
    rw[qaO,e1,qat,qau (by ext)];simp[List.getD,show rs.length - 1<rs.length by ext]
   ·rw[qag (by ext),qag (by ext),qao (by ext),qaO,qat,qau (by ext)];simp[List.getD,show j - 1<rs.length by ext]
  show (aM _:Xe []).p [some (.int (j:Int)),some (.int (rs.getD j 0)),some (.lst (rs.map .int))] s=_
  simp[ei,kD])
 have ee:((d4 (rs.map D.int)).filter fun _=>true).map (fun x=>match x with | .tup [.int k,.int v]=>kD [rs.getD (if k=0 then rs.length - 1 else (k - 1).toNat) 0,v] | _=>.non)=(fe rs).map kD:=by
  rw[cU];apply qbD;intro j;unfold fe;rw[qat,qbl,qat];by_cases hj:j<rs.length
  ·have e1:(d4 (rs.map D.int))[j]?=some (.tup [.int (j:Int),.int (rs.getD j 0)]):=by
    unfold d4;rw[qat,qcl,qat,qau hj];simp[List.getD,hj]
   rw[e1,List.getElem?_range hj];simp only[qbB,Function.comp_apply];congr 3;by_cases z:j=0
   ·subst z;rfl
   ·rw[qao (by ext),qao z];congr 1;ext
  ·rw[qaT (by rw[jE];simp;ext),qaT (by simp;ext)];rfl
 rw[ee] at q;have dl:(SetT.ded ((fe rs).map mmK)).length<=66:=rA (n:=n) (by have:=g.n12;ext) (gX (i6 g));have r:=ql (n:=n) (d:=.lst ((fe rs).map kD)) (s:=s) rfl (i6 g) (by unfold fe;simp;ext) dl;rw[yf (by rfl)];unfold iS;rw[show dSt 1 [D.lst (rs.map .int)]=[some (.lst (rs.map .int))] from rfl,aN,aE,af,q];simp only[Pb,ak,r,Pg,PU.aO];rfl
def g6{n:Nat}{rs:List Int}(g:Rg n rs):∀k∈bo rs rs.length,IsT n k:=fun k hk=>by
 unfold bo at hk;obtain⟨i,hi,hk⟩:=qcj.mp hk;rw[qbp] at hi;obtain⟨b,hb,rfl⟩:=qaC.mp hk;obtain⟨j,hj,ej⟩:=qbI hb;rw[qbm] at hj;rw[List.getElem_drop] at ej;have e1:rs.getD i 0=rs[i]:=by simp[List.getD,hi]
 have ba:=g.bd _ (qcA hi);have bb:=g.bd b (qbU hb);refine⟨_,_,rfl,by rw[e1];exact ba.1,by rw[e1];exact ba.2,bb.1,bb.2,fun z=>?_⟩;rw[e1,<-ej] at z
 have:=(qbO (i:=i) (j:=i+1+j) hi g.nd).mp (by rw[qau hi,qau (by ext),z])
 ext
def vQ{n:Nat}{rs:List Int}(g:Rg n rs){a b:Int}(lt:a<b):[a,b]∈(bo rs rs.length).map mmK↔a∈rs/\b∈rs:=by
 rw[wD (g6 g) lt];have fwd:∀{a b:Int},[a,b]∈bo rs rs.length->a∈rs/\b∈rs:=fun {a b} h=>by
  unfold bo at h;obtain⟨i,hi,h⟩:=qcj.mp h;rw[qbp] at hi;obtain⟨c,hc,e⟩:=qaC.mp h;injection e with e1 e
  injection e with e2 _
  subst e1 e2;exact⟨by simp[List.getD,hi],qbU hc⟩
 constructor
 ·rintro (h|h)
  ·exact fwd h
  ·exact (fwd h).symm
 ·rintro⟨ha,hb⟩;obtain⟨i,hi,rfl⟩:=qbI ha;obtain⟨j,hj,rfl⟩:=qbI hb;have mk:∀i j (hi:i<rs.length) (hj:j<rs.length),i<j->[rs[i],rs[j]]∈bo rs rs.length:=fun i j hi hj ij=>by
   unfold bo;rw[qcj];refine⟨i,qbp.mpr hi,qaC.mpr ⟨rs[j],?_,by simp[List.getD,hi]⟩⟩;rw[List.mem_iff_getElem];exact⟨j - (i+1),by rw[qbm];ext,by rw[List.getElem_drop];congr 1;ext⟩
  rcases Nat.lt_trichotomy i j with z|z | z
  ·exact .inl (mk i j hi hj z)
  ·subst z;ext
  ·exact .inr (mk j i hj hi z)
def ik(rs:List Int):List (List Int):=(bI (SetT.ded ((bo rs rs.length).map mmK))).filter fun k=>!decide (k∈cX rs)
def chK(ws:List (List Int))(rs:List Int):List (List Int):=(ik rs).filter fun k=>decide (k∈ws)
def nE{n:Nat}{rs:List Int}(g:Rg n rs):WebT n (bI (SetT.ded ((bo rs rs.length).map mmK))):=nK (by ext) (by have:=g.n12;ext) (gX (g6 g))
def kj{n:Nat}{rs:List Int}(g:Rg n rs){a b:Int}(lt:a<b):[a,b]∈ik rs↔a∈rs/\b∈rs/\¬gN rs a b:=by
 unfold ik;rw[qbr,(ce _).mem_iff,SetT.iA,vQ g lt];simp only[qbq,decide_eq_false_iff_not,ln g lt,and_assoc]
def rc(ks:List (List Int))(x:D):Bool:=match fu x with
 | some k=>!decide (k∈ks)
 | none=>false
def ju(ks:List (List Int))(x:D):Bool:=match fu x with
 | some k=>decide (k∈ks)
 | none=>false
def pP{ks:List (List Int)}:∀(ls:List (List Int)),(((ls.map kD).filter (rc ks)).map fun x=>x)=(ls.filter fun k=>!decide (k∈ks)).map kD
 | []=>rfl
 | k::ls=>by
  have ih:=pP (ks:=ks) ls;have e:rc ks (kD k)=!decide (k∈ks):=by simp[rc,gA]
  rw[qaF,qck,qck,e];by_cases z:k∈ks <;> simp[z] at ih ⊢ <;> exact ih
def rm{ks:List (List Int)}:∀(ls:List (List Int)),(((ls.map kD).filter (ju ks)).map fun x=>x)=(ls.filter fun k=>decide (k∈ks)).map kD
 | []=>rfl
 | k::ls=>by
  have ih:=rm (ks:=ks) ls;have e:ju ks (kD k)=decide (k∈ks):=by simp[ju,gA]
  rw[qaF,qck,qck,e];by_cases z:k∈ks <;> simp[z] at ih ⊢ <;> exact ih
def tO{n:Nat}{rs:List Int}{s:Pen}(g:Rg n rs):bH.p [.lst (rs.map .int)] s=.ok (.lst ((ik rs).map kD)) s:=by
 have hl:=g.len;have wa:=nE g;have al:=kG wa.n12 wa.tie wa.nd;have pl:=i7 hl rs.length;have r:=ql (n:=n) (d:=.lst ((bo rs rs.length).map kD)) (s:=s) rfl (g6 g) (by ext) (rA (n:=n) (by have:=g.n12;ext) (gX (g6 g)));rw[nR (by rfl)];unfold c8;rw[show dSt 2 [D.lst (rs.map .int)]=[some (.lst (rs.map .int)),none] from rfl,aw,bz];simp![aE,nO g,Pg,qaq,qar,PU.au]
 have q:=hJ (ws:=[]) (ws':=[]) (env:=[some (.lst (rs.map .int)),some (.tup ((cX rs).map kD))]) (s:=s) (fm:=[1]) (i:=bD (aB bt (aa (aB cC (aa (ac 0) xNil)) xNil))) (t:=xB (ae (oIn true) (ac 0) (ac 1))) (e:=ac 0) (ds:=(bI (SetT.ded ((bo rs rs.length).map mmK))).map kD) (rc (cX rs)) (fun x=>x) (by
   simp only[eZ,aE,af,ag,Pb,ak,among_p hl,r];rfl) (by simp;ext) (fun x hx=>by
   obtain⟨k,hk,rfl⟩:=qaC.mp hx
   exact⟨by simp[rc,gA,iz (d:=.tup ((cX rs).map kD)) rfl],fun _=>by simp⟩)
 rw[pP] at q;rw[aN,q];rfl
def apr_len{n:Nat}{rs:List Int}(g:Rg n rs):(ik rs).length<=66:=by
 have wa:=nE g;exact qaE (List.length_filter_le _ _) (kG wa.n12 wa.tie wa.nd)
def xL{n:Nat}{m:Int}{ks:List (List Int)}{rs:List Int}{s:Pen}(g:Rg n rs):dL.p [aG m ks,.lst (rs.map .int)] s=.ok (.lst ((chK ks rs).map kD)) s:=by
 have al:=apr_len g;rw[qj (by rfl)];unfold dN;rw[show dSt 2 [aG m ks,.lst (rs.map .int)]=[some (aG m ks),some (.lst (rs.map .int))] from rfl]
 have q:=hJ (ws:=[]) (ws':=[]) (env:=[some (aG m ks),some (.lst (rs.map .int))]) (s:=s) (fm:=[0]) (i:=bD (aB bH (aa (ac 1) xNil))) (t:=xB (ae (oIn false) (ac 0) (ae oIx (ac 1) (xC (.int 1))))) (e:=ac 0) (ds:=(ik rs).map kD) (ju ks) (fun x=>x) (by
   simp![eZ,aE,tO g];rfl) (by simp;ext) (fun x hx=>by
   obtain⟨k,hk,rfl⟩:=qaC.mp hx
   exact⟨by simp[aG,ju,gA,iz (d:=.tup (ks.map kD)) rfl],fun _=>by simp⟩)
 rw[rm] at q;rw[aN,q];rfl
def n5:∀(bs:List Bool),j8 (bs.map .bl)=some bs
 | []=>rfl
 | b::bs=>by rw[qaF,j8,n5 bs];rfl
def all_t{ds:List D}{f:D->Bool}(h:∀x∈ds,f x=true):lF.p [.lst (ds.map fun x=>.bl (f x))]=some (.bl true):=by
 show ((some (ds.map fun x=>D.bl (f x))).bind j8).map _=_
 have:(ds.map fun x=>D.bl (f x))=(ds.map f).map .bl:=by rw[qbl];rfl
 have ea:(ds.map f).all id=true:=by rw[qcG];exact qaX.mpr fun x hx=>h x hx
 rw[this,qaO,n5,qbB,<-ea]
def vg{n:Nat}{ks:List (List Int)}{rs:List Int}{s:Pen}(g:Rg n rs)(hs:∀k∈cX rs,k∈ks):eM.p [aG n ks,.lst (rs.map .int)] s=.ok (.bl true) s:=by
 have hl:=g.len;have l3:=g.l3;have sw:=lv g;have sl:=kG sw.n12 sw.tie sw.nd;rw[jv (by rfl)];unfold dv;rw[show dSt 2 [aG n ks,.lst (rs.map .int)]=[some (aG n ks),some (.lst (rs.map .int))] from rfl]
 have q1:=hJ (ws:=[]) (ws':=[]) (env:=[some (aG n ks),some (.lst (rs.map .int))]) (s:=s) (fm:=[0]) (i:=bD (ac 1)) (t:=xTrue) (e:=(aB cH (aa (ae oIx (ac 1) (xC (.int 0))) (aa (ac 0) xNil)))) (ds:=rs.map .int) (fun _=>true) (fun _=>.bl true) (by simp) (by simp;ext) (fun x hx=>by
   obtain⟨i,hi,rfl⟩:=qaC.mp hx
   have:=g.bd i hi
   exact⟨rfl,fun _=>by simp[aG,sk,this.1,this.2]⟩)
 rw[cU] at q1
 have q2:=hJ (ws:=[]) (ws':=[]) (env:=[some (aG n ks),some (.lst (rs.map .int))]) (s:=s) (fm:=[0]) (i:=bD (aB dC (aa (ac 1) xNil))) (t:=xTrue) (e:=ae (oIn false) (ac 0) (ae oIx (ac 1) (xC (.int 1)))) (ds:=(cX rs).map kD) (fun _=>true) (fun _=>.bl true) (by
   simp![eZ,aE,nO g];rfl) (by simp;ext) (fun x hx=>by
   obtain⟨k,hk,rfl⟩:=qaC.mp hx
   exact⟨rfl,fun _=>by simp[aG,iz (d:=.tup (ks.map kD)) rfl,hs k hk]⟩)
 rw[cU] at q2;have a1:lF.p [.lst ((rs.map D.int).map fun _=>.bl true)]=some (.bl true):=all_t (f:=fun _=>true) fun _ _=>rfl;have a2:lF.p [.lst (((cX rs).map kD).map fun _=>.bl true)]=some (.bl true):=all_t (f:=fun _=>true) fun _ _=>rfl;have nl:(bS ["list"]).p (.lst (rs.map .int))=some (.bl true):=by simp[bL]
 have mn:many rs=rs.length:=nD.mpr g.nd;have ls:=cLS_i (ns:=rs) (by ext);rw[mn] at ls;rw[aw,aV];simp![cq,bA,aY,cr,nl,Pf,Pl,qaI,qac,if_false,aA,aQ,bw,qal,aJ,aH,dO,show ¬(rs.length:Int)<3 by ext,decide_false,Pg,bh,PU.au];rw[aw,aV,bA,aY,aQ,af,q1];simp only[Pb,ak,a1,Pf,Pl,qaI,Pg,qac,if_false,bh,PU.au];rw[aw,aV];simp![aY,aA,aQ,ls,bw,qal,Pf,fG,bW,if_true,decide_true,qaI,Pl,Pg,qac,if_false,bh,PU.au];rw[aN,aQ,af,q2];simp only[Pb,ak,a2,Pf,Pg,PU.aO]
def bare_p{n:Nat}{ks:List (List Int)}{rs:List Int}{s:Pen}(g:Rg n rs)(hs:∀k∈cX rs,k∈ks):cT.p [aG n ks,.lst (rs.map .int)] s=.ok (.bl (decide (4<=(rs.length:Int)) && (chK ks rs).isEmpty)) s:=by
 rw[mT (by rfl)];unfold eQ;rw[show dSt 2 [aG n ks,.lst (rs.map .int)]=[some (aG n ks),some (.lst (rs.map .int))] from rfl];simp![aN,dE,aE,vg g hs,Pl,if_true,aA,aQ,bw,qal,Pf,aJ,aH,iO,xNotT_p,xL g];by_cases z:4<=(rs.length:Int)
 ·simp[z,qA]
 ·simp[z]
def Kd(d:D):Prop:=∃t,tyD d=some t
def isI:D->Bool
 | .int _=>true
 | _=>false
def plB(n:Int):D->Bool
 | .int i=>decide (0<=i) && decide (i<n)
 | _=>false
def whole_k{d:D}{s:Pen}(h:Kd d):cD.p [d] s=.ok (.bl (isI d)) s:=by
 rw[lh (by rfl)];unfold dH;obtain⟨t,ht⟩:=h;cases d <;> first | (cases ht;done) | (simp[dSt,bL,isI,tyD];done) | (simp[dSt,bL,isI,tyD] at ht ⊢)
def place_k{n:Int}{d:D}{s:Pen}(h:Kd d):cH.p [.int n,d] s=.ok (.bl (plB n d)) s:=by
 cases d with
 | int i=>exact sk
 | _ =>
  rw[ld (by rfl)];unfold dI;simp[dSt,whole_k h,isI,plB]
def lz:∀{ds:List D},(∀d∈ds,isI d=true)->∃qs:List Int,ds=qs.map .int
 | [],_=>⟨[],rfl⟩
 | d::ds,h=>by
  obtain⟨qs,rfl⟩:=lz (ds:=ds) fun d hd=>h d (qaf _ hd)
  have:=h d (by simp)
  cases d with
  | int i=>exact⟨i::qs,rfl⟩
  | _=>cases this
def kB:∀{a b:List Int},a.map D.int=b.map D.int->a=b
 | [],[],_=>rfl
 | [],_::_,e=>by cases e
 | _::_,[],e=>by cases e
 | x::a,y::b,e=>by
  injection e with e1 e2
  injection e1 with e1
  rw[e1,kB e2]
def isl_k{d:D}{env:av}{s:Pen}{i:Nat}(h:Kd d)(e:env[i]?=some (some d)):(xB (xUn (bS ["list"]) (ac i)):Xt []).p env s=.ok (match d with | .lst _=>true | _=>false) s:=by
 obtain⟨t,ht⟩:=h;simp only[aY,cr,sj e,Pb,rD,ht,qbB,Pf,Pl];cases d <;> first | (cases ht;done) | (injection ht with ht;subst ht;simp[bL];done) | skip
def Td(ks:List (List Int))(a b:Int):Prop:=[a,b]∈ks\/[b,a]∈ks
def Td.symm{ks:List (List Int)}{a b:Int}(h:Td ks a b):Td ks b a:=h.elim .inr .inl
def wN{ns:List Int}{k:Int}(h0:0<=k):f8 (ns.map D.int) none (some k)=(ns.take k.toNat).map .int:=by
 obtain⟨j,rfl⟩:=cR h0;unfold f8;rw[HT.qx,qal,HT.sA,qaG,List.drop_zero,Nat.sub_zero,List.map_take];by_cases z:j<=ns.length
 ·rw[qcI z]
 ·rw[Nat.min_eq_right (by ext),qaW (by simp),qaW (by simp;ext)]
def we{ks:List (List Int)}(h0:ks≠[])(h1:∀k∈ks,k≠[])(hl:ks.length<=66):iU.p [.lst (ks.map kD)]=some (.lst ((bI ks).map kD)):=by
 have e:bQ (ks.map kD)=none:=by
  cases ks with
  | nil=>exact absurd rfl h0
  | cons k ks=>rfl
 show (kA (ks.map kD)).map _=_;simp only[kA,e,hU];rw[qag ⟨h1,hl⟩];rfl
def mmK_or(x y:Int):mmK [x,y]=[x,y]\/mmK [x,y]=[y,x]:=by
 rcases Int.lt_trichotomy x y with h|h | h
 ·exact .inl (iT h)
 ·subst h;left;simp[mmK]
 ·exact .inr (jN h)
def mm_td{n:Int}{ks:List (List Int)}(w:WebT n ks){v i:Int}:mmK [v,i]∈ks↔Td ks v i:=by
 constructor
 ·intro h;rcases mmK_or v i with e|e <;> rw[e] at h
  ·exact .inl h
  ·exact .inr h
 ·rintro (h|h)
  ·obtain⟨x,y,e,h1,h2,h3⟩:=w.tie _ h;injection e with e1 e
   injection e with e2 _
   subst e1 e2;rw[iT h2];exact h
  ·obtain⟨x,y,e,h1,h2,h3⟩:=w.tie _ h;injection e with e1 e
   injection e with e2 _
   subst e1 e2;rw[jN h2];exact h
def wV{ds:List D}{i:Int}(h0:0<=i)(h1:i<(ds.length:Int)):∃d,atI ds i=some d/\d∈ds:=by
 obtain⟨k,rfl⟩:=cR h0;have hk:k<ds.length:=by ext
 exact⟨ds[k],L2.dj (by simp[hk]),qcA hk⟩
structure At (x:D):Prop where
 kd:Kd x
 ex:∃u,py x=some u/\u.canLay0=true/\dep x<=5/\Sh 30000 u
structure Tg (d:D):Prop where
 kd:Kd d
 li:∀ds,d=.lst ds->ds.length<=30/\∀x∈ds,At x
 rp:∃t,f6 d=some t
def du{i:Int}(h:i.natAbs<1900):i.natAbs.log2<1920:=by
 have:=Nat.log2_le_self i.natAbs
 ext
def mf{i:Int}(h:i.natAbs<1900):At (.int i):=⟨⟨_,rfl⟩,_,rfl,rfl,by simp[dep],(iN (du h)).mono (by decide)⟩
def at_bl{b:Bool}:At (.bl b):=⟨⟨_,rfl⟩,_,rfl,rfl,by simp[dep],by cases b <;> exact⟨rfl,by decide +kernel,by decide +kernel⟩⟩
def pS:∀{ds:List D},(∀x∈ds,At x)->∃us,pys ds=some us/\PyData.canLayAll0 us=true/\deps ds<=5/\(∀u∈us,Sh 30000 u)/\us.length=ds.length
 | [],_=>⟨[],rfl,rfl,by simp[deps],(fun _ h=>nomatch h),rfl⟩
 | x::ds,h=>by
  obtain⟨us,e,l,dp,sh,hl⟩:=pS (ds:=ds) fun x hx=>h x (qaf _ hx);obtain⟨u,e1,l1,d1,s1⟩:=(h x (by simp)).ex;refine⟨u::us,by simp[pys,e1,e],by simp[PyData.canLayAll0,l1,l],by simp only[deps];ext,fun v hv=>?_,by simp[hl]⟩;rcases qaj.mp hv with rfl|hv
  ·exact s1
  ·exact sh v hv
def big:1000000<=sizeLine:=by decide
def fc{ds:List D}(hl:ds.length<=30)(h:∀x∈ds,At x):Tg (.lst ds):=by
 obtain⟨us,e,l,dp,sh,ul⟩:=pS h;refine⟨⟨_,rfl⟩,fun _ q=>(by cases q;exact⟨hl,h⟩),(PyData.list us).shown,?_⟩
 ·have s:=nZ sh
  have:(30000+2) * us.length+2<=1000000:=by ext
  have b:=big;unfold f6;have ep:py (.lst ds)=some (.list us):=by simp[py,e]
  dsimp only;rw[ep];dsimp only;rw[qag ⟨by simp only[dep];ext,s.able,qaE s.len (by ext)⟩]
def tg_t{ds:List D}(hl:ds.length<=30)(h:∀x∈ds,At x):Tg (.tup ds):=by
 obtain⟨us,e,l,dp,sh,ul⟩:=pS h;refine⟨⟨_,rfl⟩,fun _ q=>(by cases q),(PyData.tuple us).shown,?_⟩
 ·have s:=gU sh
  have:(30000+2) * us.length+3<=1000000:=by ext
  have b:=big;unfold f6;have ep:py (.tup ds)=some (.tuple us):=by simp[py,e]
  dsimp only;rw[ep];dsimp only;rw[qag ⟨by simp only[dep];ext,s.able,qaE s.len (by ext)⟩]
def pW{gs:List Int}(hl:gs.length<=14)(h:∀x∈gs,x.natAbs<1900):At (.lst (gs.map .int)):=by
 obtain⟨a,b⟩:=eL gs;obtain⟨l1,l2⟩:=fj gs;refine⟨⟨_,rfl⟩,.list (gs.map .int),by simp[py,a],by simpa [PyData.canLay0] using l1,by simp[dep,b],?_⟩;refine (nZ (L:=2000) fun d hd=>?_).mono (by rw[qal];ext);obtain⟨i,hi,rfl⟩:=qaC.mp hd;exact iN (du (h i hi))
def at_str{x:Str}(h1:PyData.strOk x=true)(h2:PyData.strOk (reprText x)=true)(h3:(reprText x).length<=30000):At (.str x):=⟨⟨_,rfl⟩,.str x,rfl,h1,by simp[dep],⟨rfl,h2,h3⟩⟩
def RgP(n:Nat)(ks:List (List Int))(gs:List Int):Prop:=Rg n gs/\∀k∈cX gs,k∈ks
open Classical in
def rgB(n:Nat)(ks:List (List Int))(d:D):Bool:=decide (∃gs,d=.lst (gs.map .int)/\RgP n ks gs)
open Classical in
theorem rgB_l{n:Nat}{ks:List (List Int)}{gs:List Int}:rgB n ks (.lst (gs.map .int))=true↔RgP n ks gs:=by
 unfold rgB;rw[decide_eq_true_eq];constructor
 ·rintro⟨hs,e,r⟩;injection e with e
  rw[kB e];exact r
 ·exact fun r=>⟨gs,rfl,r⟩
def vZ{n:Nat}{ks:List (List Int)}{d:D}(h:∀gs,d=.lst (gs.map .int)->¬RgP n ks gs):rgB n ks d=false:=by
 unfold rgB;exact @decide_eq_false _ (_) fun ⟨gs,e,r⟩=>h gs e r
def all_b{ds:List D}{f:D->Bool}:lF.p [.lst (ds.map fun x=>.bl (f x))]=some (.bl (ds.all f)):=by
 show ((some (ds.map fun x=>D.bl (f x))).bind j8).map _=_
 have:(ds.map fun x=>D.bl (f x))=(ds.map f).map .bl:=by rw[qbl];rfl
 rw[this,qaO,n5,qbB,qcG];rfl
open Classical in
theorem vh{n:Nat}{ks:List (List Int)}{d:D}{s:Pen}(hn:n<=12)(h:Tg d):eM.p [aG n ks,d] s=.ok (.bl (rgB n ks d)) s:=by
 by_cases zl:∃ds,d=.lst ds
 ·obtain⟨ds,rfl⟩:=zl;obtain⟨hl,ha⟩:=h.li ds rfl;by_cases r:∃gs,ds=gs.map .int/\RgP n ks gs
  ·obtain⟨gs,rfl,r⟩:=r;rw[rgB_l.mpr r];exact vg r.1 r.2
  ·have rb:rgB n ks (.lst ds)=false:=vZ fun gs e q=>r ⟨gs,by injection e,q⟩;rw[rb,jv (by rfl)];unfold dv;rw[show dSt 2 [aG n ks,.lst ds]=[some (aG n ks),some (.lst ds)] from rfl];have il:(bS ["list"]).p (.lst ds)=some (.bl true):=by simp[bL]
   rw[aw,aV];by_cases l3:(ds.length:Int)<3
   ·simp![cq,bA,aY,cr,il,Pf,Pl,qaI,qac,if_false,aA,aQ,bw,aJ,aH,dO,l3,decide_true,Pg,if_true,aN,cK,PU.cf,PU.aO]
   ·simp![cq,bA,aY,cr,il,Pf,Pl,qaI,qac,if_false,aA,aQ,bw,aJ,aH,dO,l3,decide_false,Pg,bh,PU.au];have q:=hJ (ws:=[]) (ws':=[]) (env:=[some (aG n ks),some (.lst ds)]) (s:=s) (fm:=[0]) (i:=bD (ac 1)) (t:=xTrue) (e:=(aB cH (aa (ae oIx (ac 1) (xC (.int 0))) (aa (ac 0) xNil)))) (ds:=ds) (fun _=>true) (fun x=>.bl (plB n x)) (by simp) (by ext) (fun x hx=>⟨rfl,fun _=>by simp[aG,place_k (ha x hx).kd]⟩);rw[cU] at q;rw[aw,aV,bA,aY,aQ,af,q];simp only[Pb,ak,all_b,Pf,Pl];by_cases za:ds.all (plB n)=true
    ·simp only[za,qaI,Pg,qac,if_false,bh,PU.au];have zp:=qaX.mp za;obtain⟨gs,rfl⟩:=lz (ds:=ds) fun x hx=>by
      have:=zp x hx
      cases x with
      | int i=>rfl
      | _=>cases this
     rw[qal] at hl l3;have bd:∀x∈gs,0<=x/\x<(n:Int):=fun x hx=>by
      have:=zp (.int x) (qaC.mpr ⟨x,hx,rfl⟩)
      simpa [plB] using this
     have ls:=cLS_i (ns:=gs) (by ext);rw[aw,aV];by_cases nd:gs.Nodup
     ·have mn:many gs=gs.length:=nD.mpr nd;have g:Rg n gs:=⟨nd,bd,hn,by ext⟩;rw[mn] at ls;simp![aY,aA,aQ,ls,bw,qal,Pf,fG,bW,if_true,decide_true,qaI,Pl,Pg,qac,if_false,bh,PU.au];have sw:=lv g;have sl:=kG sw.n12 sw.tie sw.nd
      have q2:=hJ (ws:=[]) (ws':=[]) (env:=[some (aG n ks),some (.lst (gs.map .int))]) (s:=s) (fm:=[0]) (i:=bD (aB dC (aa (ac 1) xNil))) (t:=xTrue) (e:=ae (oIn false) (ac 0) (ae oIx (ac 1) (xC (.int 1)))) (ds:=(cX gs).map kD) (fun _=>true) (fun x=>.bl (ju ks x)) (by
       simp![eZ,aE,nO g];rfl) (by simp;ext) (fun x hx=>by
       obtain⟨k,hk,rfl⟩:=qaC.mp hx
       exact⟨rfl,fun _=>by simp[aG,iz (d:=.tup (ks.map kD)) rfl,ju,gA]⟩)
      rw[cU] at q2;have an:((cX gs).map kD).all (ju ks)=false:=by
       refine Bool.eq_false_iff.mpr fun q=>r ⟨gs,rfl,g,fun k hk=>?_⟩
       have:=qaX.mp q (kD k) (qaC.mpr ⟨k,hk,rfl⟩)
       simpa [ju,gA] using this
      rw[aN,aQ,af,q2];simp only[Pb,ak,all_b,an,Pf,Pg,PU.aO]
     ·have mn:¬((many gs:Nat):Int)=(gs.length:Int):=fun q=>nd (nD.mp (by ext));simp![aY,aA,aQ,ls,bw,qal,Pf,fG,bW,if_true,mn,decide_false,qbb,Pl,Pg,aN,aJ,cK,PU.cf,PU.aO]
    ·simp only[za,qbb,Pg,if_true,aN,aJ,cK,Pb,PU.cf,PU.aO]
 ·have rb:rgB n ks d=false:=vZ fun gs e=>absurd ⟨_,e⟩ zl;rw[rb,jv (by rfl)];unfold dv;rw[show dSt 2 [aG n ks,d]=[some (aG n ks),some d] from rfl];have tl:=isl_k (env:=[some (aG n ks),some d]) (s:=s) (i:=1) h.kd rfl
  cases d with
  | lst ds=>exact absurd ⟨_,rfl⟩ zl
  | _ =>
   rw[aw,aV,cq,bA,tl];simp
set_option maxHeartbeats 1000000
open Classical in
def brB(n:Nat)(ks:List (List Int))(d:D):Bool:=decide (∃gs,d=.lst (gs.map .int)/\RgP n ks gs/\4<=gs.length/\chK ks gs=[])
open Classical in
theorem brB_l{n:Nat}{ks:List (List Int)}{gs:List Int}:brB n ks (.lst (gs.map .int))=true↔RgP n ks gs/\4<=gs.length/\chK ks gs=[]:=by
 unfold brB;rw[decide_eq_true_eq];constructor
 ·rintro⟨hs,e,r⟩;injection e with e
  rw[kB e];exact r
 ·exact fun r=>⟨gs,rfl,r⟩
def brB_rg{n:Nat}{ks:List (List Int)}{d:D}(h:rgB n ks d=false):brB n ks d=false:=by
 unfold brB;refine @decide_eq_false _ (_) fun ⟨gs,e,r,_⟩=>?_;rw[e,rgB_l.mpr r] at h;cases h
def rgB_ex{n:Nat}{ks:List (List Int)}{d:D}(h:rgB n ks d=true):∃gs,d=.lst (gs.map .int)/\RgP n ks gs:=by
 unfold rgB at h;exact @of_decide_eq_true _ (_) h
def xS{b:Bool}{p:Prop}(h:b=true↔p){c:Bool}(h':c=true↔p):b=c:=by
 rw[qcJ,h,h']
def oA{n:Nat}{ks:List (List Int)}{d:D}{s:Pen}(hn:n<=12)(h:Tg d):cT.p [aG n ks,d] s=.ok (.bl (brB n ks d)) s:=by
 cases z:rgB n ks d with
 | true =>
  obtain⟨gs,rfl,r⟩:=rgB_ex z;rw[bare_p r.1 r.2];congr 2;refine xS (p:=RgP n ks gs/\4<=gs.length/\chK ks gs=[]) ?_ brB_l;rw[qbK,decide_eq_true_eq,List.isEmpty_iff];exact⟨fun ⟨a,b⟩=>⟨r,by ext,b⟩,fun ⟨_,a,b⟩=>⟨by ext,b⟩⟩
 | false =>
  have e:=vh (ks:=ks) (s:=s) hn h;rw[z] at e;rw[brB_rg z,mT (by rfl)];unfold eQ;rw[show dSt 2 [aG n ks,d]=[some (aG n ks),some d] from rfl];simp![aN,dE,aE,e,Pl,qac,if_false,Pg,PU.aO]
set_option maxHeartbeats 1000000
def kT{g:D->av->Option av}{b:av->Pen->PS}{s:Pen}(P:D->Bool)(I:av->Prop):∀(ds:List D) (env:av),I env ->
  (∀d∈ds,∀env,I env->∃env1,g d env=some env1/\((P d=true/\∃env',b env1 s=.nx env' s/\I env')\/(P d=false/\b env1 s=.rt (.bl false) s))) ->
  (ds.all P=true/\∃env',pGo g b ds env s=.nx env' s/\I env')\/(ds.all P=false/\pGo g b ds env s=.rt (.bl false) s)
 | [],env,hI,_=>.inl ⟨rfl,env,rfl,hI⟩
 | d::ds,env,hI,st=>by
  obtain⟨env1,e1,⟨p1,env2,e2,I2⟩|⟨p1,e2⟩⟩:=st d (by simp) env hI
  ·rw[lp e1,e2,qcv,p1,qbP];exact kT P I ds env2 I2 fun x hx=>st x (qaf _ hx)
  ·rw[lp e1,e2,qcv,p1];exact .inr ⟨rfl,rfl⟩
def pF{rs:List Int}(nd:rs.Nodup){i j:Nat}(hi:i<rs.length)(hj:j<rs.length)(e:rs.getD i 0=rs.getD j 0):i=j :=
 (qbO (i:=i) (j:=j) hi nd).mp (by simp only[List.getD] at e;simp[hi,hj] at e ⊢;exact e)
def mE{rs:List Int}{i:Nat}(hi:i<rs.length):rs[i]?=some (rs.getD i 0):=by simp[List.getD,hi]
def vN{rs:List Int}(nd:rs.Nodup){i j:Nat}(hi:i<rs.length)(hj:j<rs.length):Adj rs (rs.getD i 0) (rs.getD j 0)↔j=nxt rs.length i:=by
 constructor
 ·rintro⟨k,hk,e1,e2⟩;have k1:k=i:=(qbO (i:=k) (j:=i) hk nd).mp (by rw[e1,mE hi]);subst k1
  have:nxt rs.length k<rs.length:=by unfold nxt;split <;> ext
  exact ((qbO (i:=nxt rs.length k) (j:=j) this nd).mp (by rw[e2,mE hj])).symm
 ·rintro rfl;exact⟨i,hi,mE hi,mE hj⟩
def kO{rs:List Int}(nd:rs.Nodup)(l3:3<=rs.length){i j:Nat}(hi:i<j)(hj:j<rs.length):gN rs (rs.getD j 0) (rs.getD i 0)↔j - i=1\/j - i=rs.length - 1:=by
 unfold gN;rw[vN nd hj (by ext),vN nd (by ext) hj];unfold nxt;constructor
 ·rintro (h|h) <;> split at h <;> ext
 ·rintro (h|h)
  ·right;split <;> ext
  ·left;split <;> ext
def prB(ks:List (List Int))(rs:List Int)(j i:Nat):Bool:=!decide (rs.getD j 0=rs.getD i 0) && (decide (mmK [rs.getD j 0,rs.getD i 0]∈ks) == decide (j - i=1\/j - i=rs.length - 1))
def pr_bare{n:Nat}{ks:List (List Int)}{rs:List Int}(w:WebT n ks)(hn:n<=12)(l4:4<=rs.length)(bd:∀x∈rs,0<=x/\x<(n:Int)) :
  (∀j,j<rs.length->∀i,i<j->prB ks rs j i=true)↔RgP n ks rs/\4<=rs.length/\chK ks rs=[]:=by
 have spl:∀{j i},prB ks rs j i=true↔rs.getD j 0≠rs.getD i 0/\(Td ks (rs.getD j 0) (rs.getD i 0)↔(j - i=1\/j - i=rs.length - 1)):=fun {j i}=>by
  unfold prB;rw[qbK,beq_iff_eq,decide_eq_decide,mm_td w,qbq,decide_eq_false_iff_not]
 have td:∀{a b:Int},a<b->([a,b]∈ks↔Td ks a b):=fun {a b} lt=>by rw[<-mm_td w,iT lt]
 constructor
 ·intro h;have nd:rs.Nodup:=by
   rw[List.nodup_iff_pairwise_ne,qbi];intro i j hi hj lt e
   have:=(spl.mp (h j hj i lt)).1
   exact this (by simp[List.getD,hi,hj,e])
  have g:Rg n rs:=⟨nd,bd,hn,by ext⟩;have key:∀{a b:Int},a∈rs->b∈rs->a≠b->(Td ks a b↔gN rs a b):=fun {a b} ha hb ne=>by
   obtain⟨i,hi,rfl⟩:=qbI ha;obtain⟨j,hj,rfl⟩:=qbI hb;have ei:rs[i]=rs.getD i 0:=by simp[List.getD,hi]
   have ej:rs[j]=rs.getD j 0:=by simp[List.getD,hj]
   rw[ei,ej] at ne ⊢;rcases Nat.lt_trichotomy i j with lt|e | lt
   ·rw[show Td ks (rs.getD i 0) (rs.getD j 0)↔Td ks (rs.getD j 0) (rs.getD i 0) from⟨.symm,.symm⟩,(spl.mp (h j hj i lt)).2,<-kO nd (by ext) lt hj];exact⟨.symm,.symm⟩
   ·subst e;exact absurd rfl ne
   ·rw[(spl.mp (h i hi j lt)).2,<-kO nd (by ext) lt hi]
  refine⟨⟨g,fun k hk=>?_⟩,l4,?_⟩
  ·obtain⟨a,b,rfl,_,lt,_⟩:=(lv g).tie k hk;have sa:=(ln g lt).mp hk;have m:a∈rs/\b∈rs:=by
    rcases sa with q|q
    ·exact (g.ne q).2
    ·exact (g.ne q).2.symm
   exact (td lt).mpr ((key m.1 m.2 (by ext)).mpr sa)
  ·unfold chK;rw[List.filter_eq_nil_iff];intro k hk q;have hk':=hk;unfold ik at hk';obtain⟨a,b,rfl,_,lt,_⟩:=(nE g).tie k (qbr.mp hk').1;obtain⟨ma,mb,ns⟩:=(kj g lt).mp hk;exact ns ((key ma mb (by ext)).mp ((td lt).mp (by simpa using q)))
 ·rintro⟨⟨g,hs⟩,_,hc⟩ j hj i lt;have mj:rs.getD j 0∈rs:=by simp[List.getD,hj]
  have mi:rs.getD i 0∈rs:=by simp[List.getD,show i<rs.length by ext]
  have ne:rs.getD j 0≠rs.getD i 0:=fun e=>by have:=pF g.nd hj (by ext) e;ext
  rw[spl];refine⟨ne,?_⟩;rw[<-kO g.nd (by ext) lt hj];have key:∀{a b:Int},a∈rs->b∈rs->a<b->(Td ks a b↔gN rs a b):=fun {a b} ha hb lt=>by
   rw[<-td lt];constructor
   ·intro q;refine Classical.byContradiction fun ns=>?_;have m:[a,b]∈chK ks rs:=qbr.mpr ⟨(kj g lt).mpr ⟨ha,hb,ns⟩,by simpa using q⟩;rw[hc] at m;cases m
   ·exact fun q=>hs _ ((ln g lt).mpr q)
  rcases qcf ne with z|z
  ·exact key mj mi z
  ·rw[show Td ks (rs.getD j 0) (rs.getD i 0)↔Td ks (rs.getD i 0) (rs.getD j 0) from⟨.symm,.symm⟩,key mi mj z];exact⟨.symm,.symm⟩
abbrev lvB:Xd []:=(xIf (xOr (dJ (xB (xUn (bS ["int"]) (ac 2)))) (xOr (xB (xUn (bS ["bool"]) (ac 2))) (xOr (xB (ae oLt (ac 2) (xC (.int 0)))) (xB (ae oGe (ac 2) (ae oIx (ac 0) (xC (.int 0)))))))) (aT (xC (.bl false))) xSkip)
abbrev liB:Xd []:=(aK (pK 5 6 (aa (xCb io (aa (ae oIx (ac 1) (ac 3)) (aa (ae oIx (ac 1) (ac 4)) xNil))) (aa (xCb j0 (aa (ae oIx (ac 1) (ac 3)) (aa (ae oIx (ac 1) (ac 4)) xNil))) xNil)))
 (xIf (xOr (xB (ae oEq (ac 5) (ac 6))) (xB (ae oNe (ae (oIn false) (aM (aa (ac 5) (aa (ac 6) xNil))) (ae oIx (ac 0) (xC (.int 1)))) (ae (oIn false) (ae bP (ac 3) (ac 4)) (aM (aa (xC (.int 1)) (aa (ae bP (xCb bB (aa (ac 1) xNil)) (xC (.int 1))) xNil))))))) (aT (xC (.bl false))) xSkip))
def lv_turn{n:Nat}{ks:List (List Int)}{d x:D}{z3 z4 z5 z6:Option D}{s:Pen}(k:Kd x) :
  (plB n x=true/\lvB.p [some (aG n ks),some d,some x,z3,z4,z5,z6] s=.nx [some (aG n ks),some d,some x,z3,z4,z5,z6] s)\/(plB n x=false/\lvB.p [some (aG n ks),some d,some x,z3,z4,z5,z6] s=.rt (.bl false) s):=by
 have i0:oIx.p (aG n ks) (.int 0)=some (.int (n:Int)):=rfl
 cases x with
 | int i =>
  have b1:(bS ["int"]).p (.int i)=some (.bl true):=by simp[bL]
  have b2:(bS ["bool"]).p (.int i)=some (.bl false):=by simp[bL]
  by_cases h1:i<0
  ·exact .inr ⟨by simp[plB];ext,by dsimp![aV,cq,bA,aY,cr,b1,b2,qaI,aH,dO,h1,decide_true,if_true,Pg,aN,cK]⟩
  ·by_cases h2:(n:Int)<=i
   ·exact .inr ⟨by simp[plB];ext,by dsimp![aV,cq,bA,aY,cr,b1,b2,qaI,aH,dO,h1,i0,iO,h2,decide_true,decide_false,if_true,Pg,aN,cK]⟩
   ·exact .inl ⟨by simp[plB];ext,by dsimp![aV,cq,bA,aY,cr,b1,b2,qaI,aH,dO,h1,i0,iO,h2,decide_false,Pg,bh]⟩
 | _ =>
  refine .inr ⟨rfl,?_⟩;obtain⟨t,ht⟩:=k
  first
  | (cases ht;done)
  | (simp[bL,tyD] at ht ⊢)
def li_turn{n:Nat}{ks:List (List Int)}{rs:List Int}{z2 z5 z6:Option D}{s:Pen}{j i:Nat}(hi:i<j)(hj:j<rs.length) :
  (prB ks rs j i=true/\∃y5 y6,liB.p [some (aG n ks),some (.lst (rs.map .int)),z2,some (.int (j:Int)),some (.int (i:Int)),z5,z6] s=.nx [some (aG n ks),some (.lst (rs.map .int)),z2,some (.int (j:Int)),some (.int (i:Int)),y5,y6] s) \/
  (prB ks rs j i=false/\liB.p [some (aG n ks),some (.lst (rs.map .int)),z2,some (.int (j:Int)),some (.int (i:Int)),z5,z6] s=.rt (.bl false) s):=by
 have a1:atI (rs.map D.int) (j:Int)=some (.int (rs.getD j 0)):=L2.dj (by simp[List.getD,hj]);have a2:atI (rs.map D.int) (i:Int)=some (.int (rs.getD i 0)):=L2.dj (by simp[List.getD,show i<rs.length by ext]);have i1:oIx.p (aG n ks) (.int 1)=some (.tup (ks.map kD)):=rfl;have el:((rs.map D.int).length:Int)=(rs.length:Int):=by simp
 have pr:prB ks rs j i=(!decide (rs.getD j 0=rs.getD i 0) && (decide (mmK [rs.getD j 0,rs.getD i 0]∈ks) == decide (j - i=1\/j - i=rs.length - 1))):=rfl;generalize rs.getD j 0=a at a1 pr;generalize rs.getD i 0=b at a2 pr;have mm:mmK [a,b]=[if b<a then b else a,if b>a then b else a]:=rfl;rw[mm] at pr;have hq:∀c d:Int,inD false (.tup [.int c,.int d]) (.tup (ks.map kD))=some (.bl (decide ([c,d]∈ks))):=fun c d=>(iz (neg:=false) (k:=[c,d]) (d:=.tup (ks.map kD)) rfl).trans rfl;have hr:inD false (.int ((j:Int) - (i:Int))) (.tup [.int 1,.int ((rs.length:Int) - 1)])=some (.bl (decide (j - i=1\/j - i=rs.length - 1))):=by
  refine (wB (neg:=false) (xs:=[1,(rs.length:Int) - 1]) rfl).trans ?_
  have:((j:Int) - (i:Int)∈[1,(rs.length:Int) - 1])↔(j - i=1\/j - i=rs.length - 1):=by
   simp only[qaj,qaN,or_false];ext
  simp only[qac,if_false,this]
 have t2:∀{x y:D} {s:Pen},(if [x,y].length<=100000 then PR.ok (D.tup [x,y]) s else .bad)=.ok (.tup [x,y]) s:=fun {x y s}=>qag (by simp);have run:liB.p [some (aG n ks),some (.lst (rs.map .int)),z2,some (.int (j:Int)),some (.int (i:Int)),z5,z6] s=if prB ks rs j i=true then .nx [some (aG n ks),some (.lst (rs.map .int)),z2,some (.int (j:Int)),some (.int (i:Int)),some (.int (if b<a then b else a)),some (.int (if b>a then b else a))] s else .rt (.bl false) s:=by
  rw[pr,aw,xPar_p];simp![aQ,aA,d7,a1,a2,Pf,sH,cMax_ii,Pg,qaq,qar,PU.au];by_cases ab:a=b
  ·have e:(if b<a then b else a)=(if b>a then b else a):=by subst ab;simp
   dsimp![aV,cq,aY,eR,bW,e,decide_true,if_true,Pg,aN,cK,ab,qaI,qby]
  ·have e:¬(if b<a then b else a)=(if b>a then b else a):=by split <;> split <;> ext
   simp![aV,cq,aY,aA,eR,bW,e,decide_false,qac,if_false,Pf,Pl,cI,t2,oIn_p,i1,hq,eO,aJ,aH,aQ,bw,el,hr,fG,eqD_bb,if_true,Pg,ab,qbb,qbP];generalize decide ([if b<a then b else a,if b>a then b else a]∈ks)=p;generalize decide (j - i=1\/j - i=rs.length - 1)=q;cases p <;> cases q <;> rfl
 cases hp:prB ks rs j i with
 | true=>rw[hp,qag rfl] at run;exact .inl ⟨rfl,_,_,run⟩
 | false=>rw[hp,qao (by simp)] at run;exact .inr ⟨rfl,run⟩
abbrev lE(n:Nat)(ks:List (List Int))(d:D)(z2 z3 z4 z5 z6:Option D):av:=[some (aG n ks),some d,z2,z3,z4,z5,z6]
def lj_turn{n:Nat}{ks:List (List Int)}{rs:List Int}{z2 z4 z5 z6:Option D}{s:Pen}{j:Nat}(hj:j<rs.length)(hl:rs.length<=30) :
  ((∀i,i<j->prB ks rs j i=true)/\∃y4 y5 y6,(cW (bU iR1 (aa (ac 3) xNil)) (xNm 4) liB:Xd []).p (lE n ks (.lst (rs.map .int)) z2 (some (.int (j:Int))) z4 z5 z6) s=.nx (lE n ks (.lst (rs.map .int)) z2 (some (.int (j:Int))) y4 y5 y6) s) \/
  ((∃i,i<j/\prB ks rs j i=false)/\(cW (bU iR1 (aa (ac 3) xNil)) (xNm 4) liB:Xd []).p (lE n ks (.lst (rs.map .int)) z2 (some (.int (j:Int))) z4 z5 z6) s=.rt (.bl false) s):=by
 rw[dS,dP,af];simp only[ah,ag,Pb,ak];rw[iZ (by ext),Pf,Pg,qaG]
 rcases kT (g:=(xNm 4:Xg []).p) (b:=liB.p) (s:=s) (fun d=>match d with | .int i=>prB ks rs j i.toNat | _=>false) (fun env=>∃y4 y5 y6,env=lE n ks (.lst (rs.map .int)) z2 (some (.int (j:Int))) y4 y5 y6) (cv 0 j) _ ⟨z4,z5,z6,rfl⟩ (fun d hd env ⟨y4,y5,y6,hE⟩=>by
  obtain⟨i,rfl,h0,h1⟩:=dy hd;obtain⟨k,rfl⟩:=cR h0;subst hE;refine⟨_,rfl,?_⟩;rcases li_turn (n:=n) (ks:=ks) (rs:=rs) (z2:=z2) (z5:=y5) (z6:=y6) (s:=s) (j:=j) (i:=k) (by ext) hj with ⟨p,u,v,e⟩|⟨p,e⟩
  ·exact .inl ⟨p,_,e,_,_,_,rfl⟩
  ·exact .inr ⟨p,e⟩) with ⟨ha,env',e,y4,y5,y6,rfl⟩|⟨ha,e⟩
 ·refine .inl ⟨fun i hi=>?_,y4,y5,y6,e⟩
  have:=qaX.mp ha (.int (i:Int)) (by rw[oH];exact qaC.mpr ⟨_,jn.mpr ⟨by ext,by ext⟩,rfl⟩)
  simpa using this
 ·refine .inr ⟨?_,e⟩;rw[qct] at ha;obtain⟨d,hd,p⟩:=ha;obtain⟨i,rfl,h0,h1⟩:=dy hd;exact⟨i.toNat,by ext,by simpa using p⟩
def bare_k{n:Nat}{ks:List (List Int)}{d:D}{s:Pen}(w:WebT n ks)(hn:n<=12)(h:Tg d):cM.p [aG n ks,d] s=.ok (.bl (brB n ks d)) s:=by
 rw[qG (by rfl)];unfold dU;rw[show dSt 7 [aG n ks,d]=lE n ks d none none none none none from rfl];have no:(∀gs:List Int,d=.lst (gs.map .int)->¬(RgP n ks gs/\4<=gs.length/\chK ks gs=[]))->brB n ks d=false:=fun q=>by
  unfold brB;exact @decide_eq_false _ (_) fun ⟨gs,e,r⟩=>q gs e r
 have tl:=isl_k (env:=lE n ks d none none none none none) (s:=s) (i:=1) h.kd rfl;rw[aw,aV,cq,bA,tl];by_cases zl:∃ds,d=.lst ds
 ·obtain⟨ds,rfl⟩:=zl;obtain⟨hl,ha⟩:=h.li ds rfl;by_cases l4:(ds.length:Int)<4
  ·rw[no fun gs e q=>by injection e with e;subst e;rw[qal] at l4;ext];simp![aY,qaI,qac,if_false,aA,aQ,bw,aJ,aH,dO,l4,decide_true,Pf,Pl,Pg,if_true,aN,cK,PU.cf,PU.aO]
  ·simp![aY,qaI,qac,if_false,aA,aQ,bw,aJ,aH,dO,l4,decide_false,Pf,Pl,Pg,bh,PU.au]
   have f1:=kT (g:=(xNm 2:Xg []).p) (b:=lvB.p) (s:=s) (plB n) (fun env=>∃y2,env=lE n ks (.lst ds) y2 none none none none) ds _ ⟨none,rfl⟩ (fun x hx env ⟨y2,hE⟩=>by
    subst hE;refine⟨_,rfl,?_⟩;rcases lv_turn (n:=n) (ks:=ks) (d:=.lst ds) (z3:=none) (z4:=none) (z5:=none) (z6:=none) (s:=s) (ha x hx).kd with ⟨p,e⟩|⟨p,e⟩
    ·exact .inl ⟨p,_,e,_,rfl⟩
    ·exact .inr ⟨p,e⟩)
   rw[aw,dS,eZ];simp only[ah,ag,Pb,show (D.lst ds).items=some ds from rfl,Pf,Pg];rcases f1 with ⟨al,env',e,y2,rfl⟩|⟨al,e⟩
   ·rw[e,PU.au];have zp:=qaX.mp al;obtain⟨gs,rfl⟩:=lz (ds:=ds) fun x hx=>by
     have:=zp x hx
     cases x with
     | int i=>rfl
     | _=>cases this
    have bd:∀x∈gs,0<=x/\x<(n:Int):=fun x hx=>by
     have:=zp (.int x) (qaC.mpr ⟨x,hx,rfl⟩)
     simpa [plB] using this
    rw[qal] at hl l4;have pb:=pr_bare w hn (by ext) bd
    have f2:=kT (g:=(xNm 3:Xg []).p) (b:=(cW (bU iR1 (aa (ac 3) xNil)) (xNm 4) liB:Xd []).p) (s:=s) (fun d=>match d with | .int j=>decide (∀i,i<j.toNat->prB ks gs j.toNat i=true) | _=>false) (fun env=>∃y3 y4 y5 y6,env=lE n ks (.lst (gs.map .int)) y2 y3 y4 y5 y6) (cv 0 gs.length) _ ⟨none,none,none,none,rfl⟩ (fun x hx env ⟨y3,y4,y5,y6,hE⟩=>by
     obtain⟨j,rfl,h0,h1⟩:=dy hx;obtain⟨k,rfl⟩:=cR h0;subst hE;refine⟨_,rfl,?_⟩;rcases lj_turn (n:=n) (ks:=ks) (rs:=gs) (z2:=y2) (z4:=y4) (z5:=y5) (z6:=y6) (s:=s) (j:=k) (by ext) hl with ⟨p,u,v,t,e⟩|⟨⟨i,hi,p⟩,e⟩
     ·exact .inl ⟨by simpa using p,_,e,_,_,_,_,rfl⟩
     ·exact .inr ⟨by simp only[qaG,decide_eq_false_iff_not];exact fun q=>(by rw[q i hi] at p;cases p),e⟩)
    rw[aw,dS,dP,af];simp![aQ,bw,qal,Pf];rw[iZ (by ext),Pf,Pg,qaG];rcases f2 with ⟨al2,env2,e2,y3,y4,y5,y6,rfl⟩|⟨al2,e2⟩
    ·rw[e2,PU.au,brB_l.mpr (pb.mp fun j hj i hi=>by
      have:=qaX.mp al2 (.int (j:Int)) (by rw[oH];exact qaC.mpr ⟨_,jn.mpr ⟨by ext,by ext⟩,rfl⟩)
      simp only[qaG,decide_eq_true_eq] at this
      exact this i hi)]
     simp
    ·rw[e2,no fun hs e q=>by
      injection e with e
      have:=kB e
      subst this;rw[qct] at al2;obtain⟨d,hd,p⟩:=al2;obtain⟨j,rfl,h0,h1⟩:=dy hd;refine p ?_;simp only[decide_eq_true_eq]
      exact fun i hi=>pb.mpr q j.toNat (by ext) i hi]
     simp
   ·rw[e,no fun gs e q=>by
     injection e with e
     subst e;rw[qct] at al;obtain⟨x,hx,p⟩:=al;obtain⟨i,hi,rfl⟩:=qaC.mp hx
     have:=q.1.1.bd i hi
     exact p (by simp[plB];ext)]
    simp
 ·rw[no fun gs e=>absurd ⟨_,e⟩ zl]
  cases d with
  | lst ds=>exact absurd ⟨_,rfl⟩ zl
  | _=>simp
def lnD:D->Int
 | .lst ds=>ds.length
 | _=>0
def eqS{a b:Str}(ha:PyData.strOk a=true)(hb:PyData.strOk b=true):eqD false (.str a) (.str b)=some (.bl (a == b)):=by
 simp[eqD,py,dep,SeqAt.shaped,PyData.canLay0,PyData.depth,PyData.eqv,ha,hb]
def hdB(wd:Str):List D->Bool
 | .str x::_=>x == wd
 | _=>false
def hdOk:List D->Prop
 | d::_=>Kd d/\∀x,d=.str x->PyData.strOk x=true
 | []=>True
def gS{ds:List D}{wd:Str}{k:Nat}{s:Pen}(hk:0<k)(h:hdOk ds)(hw:PyData.strOk wd=true):aR.p [.tup ds,.str wd,.int (k:Int)] s=.ok (.bl (decide (ds.length=k) && hdB wd ds)) s:=by
 rw[iQ (by rfl)];unfold cA;rw[show dSt 3 [.tup ds,.str wd,.int (k:Int)]=[some (.tup ds),some (.str wd),some (.int (k:Int))] from rfl];have it:(bS ["tuple"]).p (.tup ds)=some (.bl true):=by simp[bL]
 by_cases hl:ds.length=k
 ·have e:((ds.length:Int)=(k:Int)):=by ext
  rw[aw,aV];simp![cq,bA,aY,cr,it,Pf,Pl,qaI,qac,if_false,aA,aQ,qK,fG,bW,e,decide_true,if_true,Pg,bh,PU.au,hl,qbP]
  match ds,hl,h with
  | d::r,hl,⟨⟨t,ht⟩,hs⟩ =>
   have i0:atI (d::r) ((0:Nat):Int)=some d:=L2.dj rfl;have i0:atI (d::r) 0=some d:=i0;by_cases z:∃x,d=.str x
   ·obtain⟨x,rfl⟩:=z;have b1:(bS ["str"]).p (.str x)=some (.bl true):=by simp[bL]
    simp only[aN,dE,cr,aA,ah,ag,Pb,aJ,aH,pI,i0,Pf,b1,Pl,if_true,eR,eqS (hs x rfl) hw,Pg,PU.aO,hdB]
   ·have b1:(bS ["str"]).p d=some (.bl false):=by
     rw[rD,ht];cases d <;> first | (exact absurd ⟨_,rfl⟩ z) | (simp[tyD] at ht;subst ht;simp[bL];done) | (cases ht;done) | skip
    have b2:hdB wd (d::r)=false:=by
     cases d <;> first | (exact absurd ⟨_,rfl⟩ z) | rfl
    dsimp![aN,dE,cr,aH,pI,i0,b1,Pg,PU.aO,b2]
  | [],hl,_=>exact absurd hl (by simp;ext)
 ·have e:¬((ds.length:Int)=(k:Int)):=by ext
  rw[aw,aV];simp![cq,bA,aY,cr,it,Pf,Pl,qaI,qac,if_false,aA,aQ,qK,fG,bW,e,decide_false,qbb,if_true,Pg,aN,aJ,cK,PU.cf,PU.aO,hl,qby]
def qN{d:D}{wd:Str}{k:Int}{s:Pen}(h:Kd d)(nt:∀ds,d≠.tup ds):aR.p [d,.str wd,.int k] s=.ok (.bl false) s:=by
 rw[iQ (by rfl)];unfold cA;rw[show dSt 3 [d,.str wd,.int k]=[some d,some (.str wd),some (.int k)] from rfl];obtain⟨t,ht⟩:=h;have it:(bS ["tuple"]).p d=some (.bl false):=by
  rw[rD,ht];cases d <;> first | (exact absurd rfl (nt _)) | (simp[tyD] at ht;subst ht;simp[bL];done) | (cases ht;done) | skip
 rw[aw,aV];simp only[cq,bA,aY,cr,ah,ag,Pb,it,Pf,Pl,qbb,if_true,Pg,aN,aJ,cK,PU.cf,PU.aO]
def kI:PyData.strOk "need"=true:=by decide +kernel
def sCh:PyData.strOk "chords"=true:=by decide +kernel
def need_p{n:Nat}{ks:List (List Int)}{d:D}{k:Int}{s:Pen}(hn:n<=12)(h:Tg d):cy.p [aG n ks,.int k,d] s=.ok (.bl (brB n ks d && decide (k<lnD d - 3))) s:=by
 rw[oo (by rfl)];unfold c5;rw[show dSt 3 [aG n ks,.int k,d]=[some (aG n ks),some (.int k),some d] from rfl];have e:=oA (ks:=ks) (s:=s) hn h
 cases z:brB n ks d with
 | false =>
  rw[z] at e;simp![aN,dE,aE,e,Pl,qac,if_false,Pg,PU.aO,qby]
 | true =>
  rw[z] at e;have z':=z;unfold brB at z';obtain⟨gs,rfl,_⟩:=@of_decide_eq_true _ (_) z';simp![aN,dE,aE,e,Pl,if_true,aA,aQ,bw,Pf,aJ,aH,eO,v9,Pg,PU.aO,qbP,lnD];rfl
abbrev dnC:Xd []:=(aK (xIf (xB (aB aR (aa (ac 2) (aa (xC (.str "need")) (aa (xC (.int 2)) xNil))))) (aT (aB cy (aa (ac 0) (aa (ac 1) (aa (ae oIx (ac 2) (xC (.int 1))) xNil))))) xSkip)
 (aK (xIf (xB (aB aR (aa (ac 2) (aa (xC (.str "chords")) (aa (xC (.int 3)) xNil))))) (aT (aB cB (aa (ac 0) (aa (ac 1) (aa (ae oIx (ac 2) (xC (.int 1))) (aa (ae oIx (ac 2) (xC (.int 2))) xNil)))))) xSkip)
 (aT (xC (.bl false)))))
def lG{wb d:D}{k:Int}{s:Pen}(hk:0<=k):bc.p [wb,.int k,d] s=(dnC.p [some wb,some (.int k),some d] s).fin:=by
 rw[oT (by rfl)];unfold ft;rw[show dSt 3 [wb,.int k,d]=[some wb,some (.int k),some d] from rfl];rw[aw,aV];simp![cq,bA,aY,aE,nM,Pl,qaI,qac,if_false,aA,aJ,aH,dO,show ¬k<0 by ext,decide_false,Pf,Pg,bh,PU.au]
def qr{n:Nat}{ks:List (List Int)}{d:D}{k:Int}{s:Pen}(hn:n<=12)(h:Tg d):bc.p [aG n ks,.int k,.tup [.str "need",d]] s=.ok (.bl (decide (0<=k) && (brB n ks d && decide (k<lnD d - 3)))) s:=by
 by_cases hk:0<=k
 ·have b:=gS (ds:=[.str "need",d]) (wd:="need") (k:=2) (s:=s) (by decide) ⟨⟨_,rfl⟩,fun x q=>by cases q;exact kI⟩ kI;have b:aR.p [.tup [.str "need",d],.str "need",.int 2] s=.ok (.bl true) s:=b;have i1:atI [D.str "need",d] 1=some d:=rfl;rw[lG hk,aw,aV];simp![aY,aE,aJ,dQ,aH,b,Pl,Pg,if_true,aN,aA,pI,i1,Pf,need_p hn h,PU.cf,PU.aO,hk,decide_true,qbP]
 ·rw[oT (by rfl)];unfold ft;rw[show dSt 3 [aG n ks,.int k,.tup [.str "need",d]]=[some (aG n ks),some (.int k),some (.tup [.str "need",d])] from rfl];rw[aw,aV];simp![cq,bA,aY,aE,nM,Pl,qaI,qac,if_false,aA,aJ,aH,dO,show k<0 by ext,decide_true,Pf,if_true,Pg,aN,cK,PU.cf,PU.aO,hk,decide_false,qby]
def v4{wb d:D}{s:Pen}(b1:aR.p [d,.str "need",.int 2] s=.ok (.bl false) s)(b2:aR.p [d,.str "chords",.int 3] s=.ok (.bl false) s):bc.p [wb,.int 0,d] s=.ok (.bl false) s:=by
 rw[lG (by decide),aw,aV];simp![aY,aE,aJ,dQ,aH,b1,Pl,Pg,qac,if_false,bh,PU.au];rw[aw,aV];simp![aY,aE,aJ,dQ,aH,b2,Pl,Pg,qac,if_false,bh,PU.au,aN,cK,PU.aO]
def den_k{wb d:D}{s:Pen}(h:Kd d)(nt:∀ds,d≠.tup ds):bc.p [wb,.int 0,d] s=.ok (.bl false) s:=v4 (qN h nt) (qN h nt)
def m4{wb:D}{ds:List D}{s:Pen}(h:hdOk ds)(h2:ds.length=2->hdB "need" ds=false)(h3:ds.length=3->hdB "chords" ds=false):bc.p [wb,.int 0,.tup ds] s=.ok (.bl false) s:=by
 have c1:=gS (wd:="need") (k:=2) (s:=s) (by decide) h kI;have c2:=gS (wd:="chords") (k:=3) (s:=s) (by decide) h sCh;refine v4 (c1.trans ?_) (c2.trans ?_)
 ·by_cases z:ds.length=2
  ·rw[h2 z,qci]
  ·rw[decide_eq_false z,qby]
 ·by_cases z:ds.length=3
  ·rw[h3 z,qci]
  ·rw[decide_eq_false z,qby]
def apr_ne{n:Nat}{rs:List Int}(g:Rg n rs)(l4:4<=rs.length):(ik rs).length≠0:=fun e=>by
 have e:ik rs=[]:=List.eq_nil_of_length_eq_zero e;have m0:rs.getD 0 0∈rs:=by simp[List.getD,show 0<rs.length by ext]
 have m2:rs.getD 2 0∈rs:=by simp[List.getD,show 2<rs.length by ext]
 have ne:rs.getD 2 0≠rs.getD 0 0:=fun q=>by have:=pF g.nd (i:=2) (j:=0) (by ext) (by ext) q;ext
 have ns:¬gN rs (rs.getD 2 0) (rs.getD 0 0):=fun q=>by
  have:=(kO g.nd (by ext) (i:=0) (j:=2) (by ext) (by ext)).mp q
  ext
 rcases qcf ne with z|z
 ·have:=(kj g z).mpr ⟨m2,m0,ns⟩
  rw[e] at this;cases this
 ·have:=(kj g z).mpr ⟨m0,m2,fun q=>ns q.symm⟩
  rw[e] at this;cases this
def wH{n:Nat}{ks:List (List Int)}{d e:D}{s:Pen}(hn:n<=12)(h:Tg d)(he:e=.tup []\/e=.lst []):bc.p [aG n ks,.int 0,.tup [.str "chords",d,e]] s=.ok (.bl false) s:=by
 have o:hdOk [D.str "chords",d,e]:=⟨⟨_,rfl⟩,fun x q=>by cases q;exact sCh⟩;have b1:aR.p [.tup [.str "chords",d,e],.str "need",.int 2] s=.ok (.bl false) s:=gS (wd:="need") (k:=2) (s:=s) (by decide) o kI;have b2:aR.p [.tup [.str "chords",d,e],.str "chords",.int 3] s=.ok (.bl true) s:=gS (wd:="chords") (k:=3) (s:=s) (by decide) o sCh;have i1:atI [D.str "chords",d,e] 1=some d:=rfl;have i2:atI [D.str "chords",d,e] 2=some e:=rfl;have c:cB.p [aG n ks,.int 0,d,e] s=.ok (.bl false) s:=by
  rw[nA (by rfl)];unfold de;rw[show dSt 7 [aG n ks,.int 0,d,e]=[some (aG n ks),some (.int 0),some d,some e,none,none,none] from rfl];have eb:=oA (ks:=ks) (s:=s) hn h
  cases z:brB n ks d with
  | false =>
   rw[z] at eb;rw[aw,aV];simp![cq,bA,aY,aE,eb,Pl,qbb,if_true,Pg,aN,aJ,cK,PU.cf,PU.aO]
  | true =>
   rw[z] at eb;unfold brB at z;obtain⟨gs,rfl,⟨g,hs⟩,l4,hc⟩:=@of_decide_eq_true _ (_) z;rcases he with rfl|rfl
   ·have it:(bS ["tuple"]).p (.tup [])=some (.bl true):=by simp[bL]
    have ap:=tO (s:=s) g;have ne:¬((([]:List D).length:Int)=(((ik gs).map kD).length:Int)):=by have:=apr_ne g l4;simp;ext
    rw[aw,aV];simp![cq,bA,aY,aE,eb,Pl,qaI,qac,if_false,cr,it,Pf,Pg,bh,PU.au];rw[aw,bz];simp![aE,ap,Pg,qaq,qar,PU.au];rw[aw,aV];simp![aY,aA,aQ,qK,bw,Pf,fG,bW,ne,decide_false,if_true,qbb,Pl,Pg,aN,aJ,cK,PU.cf,PU.aO]
   ·have it:(bS ["tuple"]).p (.lst [])=some (.bl false):=by simp[bL]
    rw[aw,aV];simp![cq,bA,aY,aE,eb,Pl,qaI,qbb,qac,if_false,if_true,cr,it,Pf,Pg,aN,aJ,cK,PU.cf,PU.aO]
 rw[lG (by decide),aw,aV];simp![aY,aE,aJ,dQ,aH,b1,Pl,Pg,qac,if_false,bh,PU.au];rw[aw,aV];simp![aY,aE,aJ,dQ,aH,b2,Pl,Pg,if_true,aN,aA,pI,i1,i2,Pf,c,PU.cf,PU.aO]
def PrD(n:Nat)(y:D):Prop:=∃k,y=kD k/\IsT n k
def qB{n:Nat}:∀{ys:List D},(∀y∈ys,PrD n y)->∃ps:List (List Int),ys=ps.map kD/\∀k∈ps,IsT n k
 | [],_=>⟨[],rfl,(fun _ h=>nomatch h)⟩
 | y::ys,h=>by
  obtain⟨ps,e,hp⟩:=qB (ys:=ys) fun y hy=>h y (qaf _ hy);obtain⟨k,rfl,h1⟩:=h y (by simp);exact⟨k::ps,by rw[e];rfl,fun x hx=>(qaj.mp hx).elim (fun q=>q▸h1) (hp x)⟩
def vB{n:Nat}{rs:List Int}(g:Rg n rs){i j:Nat}(hi:i<rs.length)(hj:j<rs.length)(ne:i≠j):IsT n [rs.getD i 0,rs.getD j 0]:=by
 have bi:=g.bd (rs.getD i 0) (by simp[List.getD,hi]);have bj:=g.bd (rs.getD j 0) (by simp[List.getD,hj]);exact⟨_,_,rfl,bi.1,bi.2,bj.1,bj.2,fun e=>ne (pF g.nd hi hj e)⟩
def c7{rs:List Int}{i:Nat}(hi:i<rs.length):atI (rs.map D.int) (i:Int)=some (.int (rs.getD i 0)):=L2.dj (by simp[List.getD,hi])
def sT{rs:List Int}{k:Nat}(hk:k<rs.length):atI (rs.map D.int) ((k:Int) - 1)=some (.int (rs.getD (if k=0 then rs.length - 1 else k - 1) 0)):=by
 by_cases z:k=0
 ·subst z;rw[qag rfl];unfold atI ixN;rw[qao (by ext),qag (by simp;ext),qaO]
  have:(((0:Nat):Int) - 1+((rs.map D.int).length:Int)).toNat=rs.length - 1:=by simp;ext
  rw[this];simp[List.getD,show rs.length - 1<rs.length by ext]
 ·rw[qao z,show (k:Int) - 1=((k - 1:Nat):Int) by ext];exact c7 (by ext)
def round_l{n:Nat}{rs:List Int}{s:Pen}(g:Rg n rs):∃ps s',fM.p [.lst (rs.map .int)] s=.ok (.lst ps) s'/\ps.length<=12/\∀y∈ps,PrD n y:=by
 have l12:=g.len;have l3:=g.l3;have t2:∀{x y:D} {s:Pen},(if [x,y].length<=100000 then PR.ok (D.tup [x,y]) s else .bad)=.ok (.tup [x,y]) s:=fun {x y s}=>qag (by simp)
 obtain⟨r,s',q,hl,hr⟩:=gp (ws:=[]) (ws':=[]) (env:=[some (.lst (rs.map .int))]) (s:=s) (s0:=s) (fm:=[0]) (i:=bU iR1 (aa (xCb bB (aa (ac 0) xNil)) xNil)) (t:=xTrue) (e:=aM (aa (ae oIx (ac 1) (ae bP (ac 0) (xC (.int 1)))) (aa (ae oIx (ac 1) (ac 0)) xNil))) (ds:=cv 0 rs.length) (PrD n) (by
  simp only[dP,af,aQ,ag,Pb,ak,bw,qal,Pf]
  rw[iZ (by ext),qaG];rfl) (by rw[cV];ext) (fun x hx s=>by
   obtain⟨i,rfl,h0,h1⟩:=dy hx;obtain⟨k,rfl⟩:=cR h0;refine⟨true,s,rfl,fun _=>⟨_,s,?_,_,rfl,vB g (i:=if k=0 then rs.length - 1 else k - 1) (j:=k) (by split <;> ext) (by ext) (by split <;> ext)⟩⟩;simp![cI,aA,qaF,qbF,qbc,qbu,aJ,aH,eO,Pf,d7,sT (show k<rs.length by ext),c7 (show k<rs.length by ext),t2]
   rfl)
 refine⟨r,s',?_,by rw[cV] at hl;ext,hr⟩;rw[uY (by rfl)];unfold fV;rw[show dSt 1 [D.lst (rs.map .int)]=[some (.lst (rs.map .int))] from rfl,aN,q];rfl
def ss{ws:List Nat}{env:av}{i:Nat}{ks:List (List Int)}{n:Int}{s:Pen}(e:env[i]?=some (some (.lst (ks.map kD))))(hk:∀k∈ks,IsT n k)(hl:ks.length<=100000)(hw:cws 2 [] ws=[]){hz} :
  (bx 2 [] (bD (ac i)) (ws':=[]) (xGp (xGc (xNm 0) (xGc (xNm 1) xGl)) 2) xTrue (aM (aa (xCb io (aa (ac 0) (aa (ac 1) xNil))) (aa (xCb j0 (aa (ac 0) (aa (ac 1) xNil))) xNil))) hw hz:Xe ws).p env s=.ok (.lst ((ks.map mmK).map kD)) s:=by
 have q:=comp2 (ws:=ws) (ws':=[]) (env:=env) (s:=s) (fm:=[]) (i:=bD (ac i)) (t:=xTrue) (e:=(aM (aa (xCb io (aa (ac 0) (aa (ac 1) xNil))) (aa (xCb j0 (aa (ac 0) (aa (ac 1) xNil))) xNil)))) (ds:=ks.map kD) (fun _=>true) (fun x=>match fu x with | some k=>kD (mmK k) | none=>.non) (by
  rw[eZ,sj e];rfl) (by simpa using hl) (fun x hx=>by
   obtain⟨k,hk',rfl⟩:=qaC.mp hx;obtain⟨a,b,rfl,_⟩:=hk k hk';refine⟨.int a,.int b,rfl,rfl,fun _=>?_⟩
   simp[kD,fu,bQ,mmK]) (hw:=hw) (hz:=hz)
 rw[cU,qbl] at q;rw[q,qbl];congr 2;refine List.map_congr_left fun k hk'=>?_;obtain⟨a,b,rfl,_⟩:=hk k hk';rfl
def sort_k{ks:List (List Int)}(h1:∀k∈ks,k≠[])(hl:ks.length<=66):iU.p [.lst (ks.map kD)]=some (.lst ((bI ks).map kD)):=by
 by_cases z:ks=[]
 ·subst z;have e:=w4 (ns:=[]) (by decide);rw[List.Perm.eq_nil (jQ [])] at e;rw[List.Perm.eq_nil (ce [])];exact e
 ·exact we z h1 hl
def apart_l{n:Nat}{rs:List Int}{s:Pen}(g:Rg n rs):∃ks s',fQ.p [.lst (rs.map .int)] s=.ok (.lst ((ks:List (List Int)).map kD)) s'/\ks.length<=66/\∀k∈ks,IsT n k:=by
 have l12:=g.len;have l3:=g.l3;have t2:∀{x y:D} {s:Pen},(if [x,y].length<=100000 then PR.ok (D.tup [x,y]) s else .bad)=.ok (.tup [x,y]) s:=fun {x y s}=>qag (by simp);obtain⟨env',s1,e,z,ps,rfl,pl,pt⟩:=eP (g:=(xNm 2:Xg [1]).p) (b:=(xMt aExtend 1 (aa (bx 1 [0,2] (bU iR1 (aa (ac 2) xNil)) (ws':=[]) (xNm 0) (xB (ae (oIn true) (ae bP (ac 2) (ac 0)) (aM (aa (xC (.int 1)) (aa (ae bP (xCb bB (aa (ac 1) xNil)) (xC (.int 1))) xNil))))) (aM (aa (ae oIx (ac 1) (ac 2)) (aa (ae oIx (ac 1) (ac 0)) xNil)))) xNil):Xd [1]).p)
  (fun j env s'=>∃z ps,env=[some (.lst (rs.map .int)),some (.lst ps),z]/\2 * ps.length+j<=j * j/\∀y∈ps,PrD n y) (cv 0 rs.length) 0 [some (.lst (rs.map .int)),some (.lst []),none] s ⟨none,[],rfl,by simp,by simp⟩ (fun j env s' d ⟨z,ps,hE,pl,pt⟩ hd=>by
   rw[qaS] at pl ⊢;subst hE;obtain⟨rfl,hj⟩:=qC hd;have ej:(j+1) * (j+1)=j * j+2 * j+1:=by simp only[Nat.add_mul,Nat.mul_add];ext
   have e12:j * j<=12 * 12:=Nat.mul_le_mul (by ext) (by ext)
   obtain⟨r,s2,q,hl,hr⟩:=gp (ws:=[1]) (ws':=[]) (env:=[some (.lst (rs.map .int)),some (.lst ps),some (.int (j:Int))]) (s:=s') (s0:=s') (fm:=[0,2]) (i:=bU iR1 (aa (ac 2) xNil)) (t:=xB (ae (oIn true) (ae bP (ac 2) (ac 0)) (aM (aa (xC (.int 1)) (aa (ae bP (xCb bB (aa (ac 1) xNil)) (xC (.int 1))) xNil))))) (e:=aM (aa (ae oIx (ac 1) (ac 2)) (aa (ae oIx (ac 1) (ac 0)) xNil))) (ds:=cv 0 j) (PrD n) (by
    simp![dP]
    rw[iZ (by ext),qaG];rfl) (by rw[cV];ext) (fun x hx s=>by
     obtain⟨i,rfl,h0,h1⟩:=dy hx;obtain⟨k,rfl⟩:=cR h0;have hq:=wB (neg:=true) (x:=(j:Int) - (k:Int)) (d:=.tup [.int 1,.int ((rs.length:Int) - 1)]) (xs:=[1,(rs.length:Int) - 1]) rfl;refine⟨_,s,by simp![aY,aA,qaF,qbF,qbc,qbo,qbu,eO,Pf,cI,aJ,aH,aQ,bw,qal,t2,oIn_p,hq,Pl];rfl,fun _=>⟨_,s,?_,_,rfl,vB g (i:=j) (j:=k) hj (by ext) (by ext)⟩⟩;simp![cI,aA,qaF,qbF,qbc,qbo,qbu,Pf,d7,c7 hj,c7 (show k<rs.length by ext),t2]
     rfl)
   rw[cV] at hl
   refine⟨_,_,s2,rfl,fw (s1:=s2) (as:=[.lst r]) (ds:=ps) (ds':=ps++r) (r:=.non) (by
    show (aa _ xNil:Xs [1]).p [some (.lst (rs.map .int)),some (.lst ps),some (.int (j:Int))] s'=_
    rw[af,q];rfl) rfl (g8 (by ext)),some (.int (j:Int)),ps++r,rfl,by rw[qaQ,ej];ext,fun y hy=>(qav.mp hy).elim (pt y) (hr y)⟩)
 rw[cV,qaS] at pl;obtain⟨ks,rfl,kt⟩:=qB pt;rw[qal] at pl;have e12:rs.length * rs.length<=12 * rs.length:=Nat.mul_le_mul_right _ l12;have mt:=gX (ks:=ks) kt;refine⟨bI (ks.map mmK),s1,?_,by rw[(ce _).length_eq,qal];ext,fun k hk=>isT_of mt k ((ce _).mem_iff.mp hk)⟩;rw[uF (by rfl)];unfold fU;rw[show dSt 3 [D.lst (rs.map .int)]=[some (.lst (rs.map .int)),none,none] from rfl];rw[aw,kz];simp only[cG,ak,Pb,qcK,qaR,if_true,Pg,qaq,qar,PU.au];rw[aw,dS,dP,af];simp only[aQ,af,ag,Pb,ak,bw,qal,Pf];rw[iZ (by ext),qaG,Pf,Pg,e,PU.au];have so:=sort_k (ks:=ks.map mmK) (fun k hk=>by obtain⟨a,b,rfl,_⟩:=mt k hk;simp) (by rw[qal];ext);rw[aN,aQ,af,ss (ws:=[1]) (i:=1) (ks:=ks) rfl kt (by ext) rfl];simp only[Pb,ak,so,Pf,Pg,PU.aO]
def made_l{n:Nat}{ks:List (List Int)}{s:Pen}(hn:n<=12)(kt:∀k∈ks,IsT n k)(hl:ks.length<=100000):gZ.p [.int (n:Int),.lst (ks.map kD)] s=.ok (aG n (bI (SetT.ded (ks.map mmK)))) s:=by
 have mt:=gX kt;have q2:=cSS_k (ks:=ks.map mmK) ⟨fun k hk=>by obtain⟨a,b,rfl,_⟩:=mt k hk;simp,rA (by ext) mt⟩;have t2:∀{x y:D} {s:Pen},(if [x,y].length<=100000 then PR.ok (D.tup [x,y]) s else .bad)=.ok (.tup [x,y]) s:=fun {x y s}=>qag (by simp);rw[vY (by rfl)];unfold gJ;rw[show dSt 2 [.int (n:Int),D.lst (ks.map kD)]=[some (.int (n:Int)),some (.lst (ks.map kD))] from rfl];rw[aN,cI,af,ag,Pb,af,aQ,af,aQ,af,ss (ws:=[]) (i:=1) (ks:=ks) rfl kt hl rfl];simp only[ag,Pb,ak,q2,Pf,lW,t2,Pg,PU.aO,aG]
def yr{n:Int}{ks:List (List Int)}:lend (aG n ks)=true:=by
 have fi:∀k:List Int,flats (k.map .int)=true:=fun k=>by
  induction k with
  | nil=>rfl
  | cons i k ih=>simp[flats,flat,ih]
 have fk:flats (ks.map kD)=true:=by
  induction ks with
  | nil=>rfl
  | cons i k ih=>simp[flats,flat,ih,kD,fi]
 simp[aG,lend,flat,flats,fk]
abbrev wE(sz n:Int)(qs rs:List Int)(ps as:List D)(way:Int)(z:Option D):av:=[some .pen,some (.int sz),some (.int n),some (.lst (qs.map .int)),some (.lst (rs.map .int)),some (.lst ps),some (.lst as),some (.int way),z]
abbrev w1B:Xd [5]:=(xIf (rE (xB (ae oEq (ac 7) (xC (.int 1)))) (xB (ae oNe (ac 6) (br xNil)))) (xMt aAppend 5 (aa (ae oIx (ac 6) (aB be (aa (ac 0) (aa (xCb bB (aa (ac 6) xNil)) xNil)))) xNil)) xSkip)
abbrev w2B:Xd [5]:=(xIf (xB (ae oEq (ac 7) (xC (.int 2)))) (xMt aExtend 5 (aa (bx 1 [0] (bD (ac 6)) (ws':=[]) (xNm 0) (xB (ae oEq (aB be (aa (ac 1) (aa (xC (.int 6)) xNil))) (xC (.int 0)))) (ac 0)) xNil)) xSkip)
abbrev w3B:Xd [5]:=(xMt aExtend 5 (aa (bx 1 [3,8,0] (bU iR1 (aa (ac 8) xNil)) (ws':=[]) (xNm 0) (xB (ae oEq (aB be (aa (ac 3) (aa (xC (.int 3)) xNil))) (xC (.int 0)))) (aM (aa (ae oIx (ac 1) (ac 2)) (aa (ae oIx (ac 1) (ac 0)) xNil)))) xNil))
def sZ{ks:List (List Int)}:eqD true (.lst (ks.map kD)) (.lst [])=some (.bl (!ks.isEmpty)):=by
 obtain⟨a,b⟩:=i9 ks;obtain⟨l1,l2⟩:=lm ks;simp only[eqD,py,a,pys,qbB];rw[qag ⟨⟨by simp only[dep];ext,by simp[dep,deps]⟩,vP (by simpa [PyData.canLay0] using l1) (by simp only[PyData.depth];ext),rfl⟩];cases ks <;> rfl
def w1_p{n:Nat}{sz:Int}{qs rs:List Int}{ps:List D}{ks:List (List Int)}{way:Int}{s:Pen}(pl:ps.length<=1000)(pt:∀y∈ps,PrD n y)(kl:ks.length<=66)(kt:∀k∈ks,IsT n k) :
  ∃ps' s',w1B.p (wE sz n qs rs ps (ks.map kD) way none) s=.nx (wE sz n qs rs ps' (ks.map kD) way none) s'/\ps'.length<=ps.length+1/\∀y∈ps',PrD n y:=by
 have u0:∀{s:Pen},(if ([]:List D).length<=100000 then PR.ok (D.lst []) s else .bad)=.ok (.lst []) s:=fun {s}=>qag (by decide);by_cases h1:way=1
 ·cases ke:ks.isEmpty with
  | true =>
   refine⟨ps,s,?_,by ext,pt⟩;rw[aV];dsimp![qi,aY,aH,eR,bW,h1,decide_true,if_true,cG,ak,u0,fG,sZ,ke,qaI,Pg,bh]
  | false =>
   have k0:0<ks.length:=by cases ks with
    | nil=>cases ke
    | cons a b=>simp
   obtain⟨d,s1,d0,d1,qd⟩:=cQ (s:=s) (size:=(ks.length:Int)) (by ext) (by ext);obtain⟨y,ey,my⟩:=wV (ds:=ks.map kD) d0 (by simpa using d1);obtain⟨k,hk,rfl⟩:=qaC.mp my;refine⟨ps++[kD k],s1,?_,by simp,fun y hy=>?_⟩
   ·rw[aV];dsimp![qi,aY,aH,eR,bW,h1,decide_true,if_true,cG,ak,u0,fG,sZ,ke,qbb,Pg]
    exact fw (s1:=s1) (as:=[kD k]) (ds:=ps) (ds':=ps++[kD k]) (r:=.non) (by
     simp![aA,aE,aQ,bw,qal,Pf,qd,d7,ey]) rfl (vU (by ext))
   ·rcases qav.mp hy with hy|hy
    ·exact pt y hy
    ·have:y=kD k:=by simpa using hy
     exact⟨k,this,kt k hk⟩
 ·refine⟨ps,s,?_,by ext,pt⟩;rw[aV];dsimp![qi,aY,aH,eR,bW,h1,decide_false,Pg,bh]
def w2_p{n:Nat}{sz:Int}{qs rs:List Int}{ps:List D}{ks:List (List Int)}{way:Int}{s:Pen}(pl:ps.length<=1000)(pt:∀y∈ps,PrD n y)(kl:ks.length<=66)(kt:∀k∈ks,IsT n k) :
  ∃ps' s',w2B.p (wE sz n qs rs ps (ks.map kD) way none) s=.nx (wE sz n qs rs ps' (ks.map kD) way none) s'/\ps'.length<=ps.length+66/\∀y∈ps',PrD n y:=by
 by_cases h1:way=2
 ·obtain⟨r,s1,q,hl,hr⟩:=gp (ws:=[5]) (ws':=[]) (env:=wE sz n qs rs ps (ks.map kD) way none) (s:=s) (s0:=s) (fm:=[0]) (i:=bD (ac 6)) (t:=xB (ae oEq (aB be (aa (ac 1) (aa (xC (.int 6)) xNil))) (xC (.int 0)))) (e:=ac 0) (ds:=ks.map kD) (PrD n) (by
   simp only[eZ,ah,ag,Pb];rfl) (by simp;ext) (fun x hx s=>by
    obtain⟨k,hk,rfl⟩:=qaC.mp hx;obtain⟨d,s2,d0,d1,qd⟩:=cQ (s:=s) (size:=6) (by decide) (by decide)
    refine⟨_,s2,by simp![aY,aA,aE,qaF,qbF,qbc,qbu,aJ,aH,qd,eR,bW,Pf,Pl];rfl,fun _=>⟨_,s2,by rw[ag],k,rfl,kt k hk⟩⟩)
  rw[qal] at hl;refine⟨ps++r,s1,?_,by rw[qaQ];ext,fun y hy=>(qav.mp hy).elim (pt y) (hr y)⟩;rw[aV];dsimp![aY,aH,eR,bW,h1,decide_true,if_true,Pg];subst h1;exact fw (s1:=s1) (as:=[.lst r]) (ds:=ps) (ds':=ps++r) (r:=.non) (by rw[af,q];rfl) rfl (g8 (by ext))
 ·refine⟨ps,s,?_,by ext,pt⟩;rw[aV];dsimp![aY,aH,eR,bW,h1,decide_false,Pg,bh]
def w3_p{n:Nat}{sz:Int}{qs rs:List Int}{ps as:List D}{way:Int}{j:Nat}{s:Pen}(o:Ord n qs)(hj:j<n)(pl:ps.length<=1000)(pt:∀y∈ps,PrD n y) :
  ∃ps' s',w3B.p (wE sz n qs rs ps as way (some (.int (j:Int)))) s=.nx (wE sz n qs rs ps' as way (some (.int (j:Int)))) s'/\ps'.length<=ps.length+12/\∀y∈ps',PrD n y:=by
 have ol:=o.len;have n12:=o.n12;have t2:∀{x y:D} {s:Pen},(if [x,y].length<=100000 then PR.ok (D.tup [x,y]) s else .bad)=.ok (.tup [x,y]) s:=fun {x y s}=>qag (by simp)
 obtain⟨r,s1,q,hl,hr⟩:=gp (ws:=[5]) (ws':=[]) (env:=wE sz n qs rs ps as way (some (.int (j:Int)))) (s:=s) (s0:=s) (fm:=[3,8,0]) (i:=bU iR1 (aa (ac 8) xNil)) (t:=xB (ae oEq (aB be (aa (ac 3) (aa (xC (.int 3)) xNil))) (xC (.int 0)))) (e:=aM (aa (ae oIx (ac 1) (ac 2)) (aa (ae oIx (ac 1) (ac 0)) xNil))) (ds:=cv 0 j) (PrD n) (by
  simp![dP]
  rw[iZ (by ext),qaG];rfl) (by rw[cV];ext) (fun x hx s=>by
   obtain⟨i,rfl,h0,h1⟩:=dy hx;obtain⟨k,rfl⟩:=cR h0;obtain⟨d,s2,d0,d1,qd⟩:=cQ (s:=s) (size:=3) (by decide) (by decide);have nd:qs.Nodup:=o.pm.symm.nodup (sG n);have b1:=o.at (j:=j) (by ext);have b2:=o.at (j:=k) (by ext);refine⟨_,s2,by simp![aY,aA,aE,qaF,qbF,qbc,qbo,qbu,aJ,aH,qd,eR,bW,Pf,Pl];rfl,fun _=>⟨_,s2,?_,[qs.getD j 0,qs.getD k 0],rfl,_,_,rfl,b1.1,b1.2,b2.1,b2.2,fun e=>?_⟩⟩
   ·simp![cI,aA,qaF,qbF,qbc,qbo,qbu,Pf,d7,c7 (show j<qs.length by ext),c7 (show k<qs.length by ext),t2];rfl
   ·have:=pF nd (i:=j) (j:=k) (by ext) (by ext) e
    ext)
 rw[cV] at hl;exact⟨ps++r,s1,fw (s1:=s1) (as:=[.lst r]) (ds:=ps) (ds':=ps++r) (r:=.non) (by rw[af,q];rfl) rfl (g8 (by ext)),by rw[qaQ];ext,fun y hy=>(qav.mp hy).elim (pt y) (hr y)⟩
def web_p{s:Pen}:∃(n:Nat) (ks:List (List Int)) (rs:List Int) (s':Pen),gD.p [.pen] s=.ok (.tup [aG n ks,.lst (rs.map .int)]) s'/\n<=12/\WebT n ks/\Rg n rs:=by
 obtain⟨a,s1,a0,a9,qa⟩:=cQ (s:=s) (size:=10) (by decide) (by decide);obtain⟨sz,hz⟩:=cR (i:=3+a) (by ext);obtain⟨b,s2,b0,b9,qb⟩:=cQ (s:=s1) (size:=13 - (sz:Int)) (by ext) (by ext);obtain⟨n,hn⟩:=cR (i:=(sz:Int)+b) (by ext);obtain⟨qs,s3,q3,o⟩:=order_p (n:=n) (s:=s2) (by ext);have ol:=o.len;have nd:qs.Nodup:=o.pm.symm.nodup (sG n);have g:Rg n (qs.take sz):=⟨nd.sublist (qcs _ _),fun x hx=>o.bd x (qbV hx),by ext,by rw[qbJ];ext⟩;obtain⟨ps,s4,q4,pl,pt⟩:=round_l (s:=s3) g;obtain⟨as,s5,q5,al,at'⟩:=apart_l (s:=s4) g;obtain⟨way,s6,w0,w9,qw⟩:=cQ (s:=s5) (size:=4) (by decide) (by decide);obtain⟨ps1,s7,q7,pl1,pt1⟩:=w1_p (sz:=sz) (qs:=qs) (rs:=qs.take sz) (way:=way) (s:=s6) (by ext) pt al at';obtain⟨ps2,s8,q8,pl2,pt2⟩:=w2_p (sz:=sz) (qs:=qs) (rs:=qs.take sz) (way:=way) (s:=s7) (by ext) pt1 al at';have rl:(cv (sz:Int) ((n:Int) - (sz:Int)).toNat).length<=12:=by rw[cV];ext
 obtain⟨env',s9,e,z,ps3,rfl,pl3,pt3⟩:=eP (g:=(xNm 8:Xg [5]).p) (b:=w3B.p)
  (fun j env s'=>∃z ps3,env=wE sz n qs (qs.take sz) ps3 (as.map kD) way z/\ps3.length<=ps2.length+12 * j/\∀y∈ps3,PrD n y) (cv (sz:Int) ((n:Int) - (sz:Int)).toNat) 0 _ s8 ⟨none,ps2,rfl,by simp,pt2⟩ (fun j env s' d ⟨z,ps3,hE,pl3,pt3⟩ hd=>by
   rw[qaS] at pl3 ⊢;subst hE;have hm:=qaL hd;have hj:=(qad.mp hd).1;obtain⟨i,rfl,h0,h1⟩:=dy hm;obtain⟨k,rfl⟩:=cR (i:=i) (by ext);obtain⟨ps4,s10,q,pl4,pt4⟩:=w3_p (sz:=sz) (rs:=qs.take sz) (as:=as.map kD) (way:=way) (j:=k) (s:=s') o (by ext) (by ext) pt3
   exact⟨_,_,s10,rfl,q,_,ps4,rfl,by ext,pt4⟩)
 rw[qaS] at pl3;obtain⟨ks,rfl,kt⟩:=qB pt3;rw[qal] at pl3;refine⟨n,bI (SetT.ded (ks.map mmK)),qs.take sz,s9,?_,by ext,nK (by ext) (by ext) (gX kt),g⟩;have mk:=made_l (s:=s9) (n:=n) (by ext) kt (by ext);have t2:∀{x y:D} {s:Pen},(if [x,y].length<=100000 then PR.ok (D.tup [x,y]) s else .bad)=.ok (.tup [x,y]) s:=fun {x y s}=>qag (by simp);rw[xm (by rfl)];unfold iI;rw[show dSt 9 [D.pen]=[some .pen,none,none,none,none,none,none,none,none] from rfl];rw[aw,bz];simp only[aA,aJ,aH,Pb,aE,af,ag,ak,qa,iP,hz,Pf,Pg,qaq,qar,PU.au];rw[aw,bz];simp![aA,aJ,aH,aE,eO,Pf,qb,iP,hn,Pg,qaq,qar,PU.au];rw[aw,bz];simp![aE,q3,Pg,qaq,qar,PU.au];rw[aw,bz];simp only[Pb,kc,kH,k5,ah,ag,km,Pf,wN (show (0:Int)<=(sz:Int) by ext),qaG,Pg,qaq,qar,PU.au];rw[aw,kz];simp![aE,q4,Pg,qaq,qar,PU.au];rw[aw,bz];simp![aE,q5,Pg,qaq,qar,PU.au];rw[aw,bz];simp![aE,aJ,aH,qw,Pg,qaq,qar,PU.au];rw[aw];refine (congrArg (fun z:PS=>(z.then _).fin) q7).trans ?_;rw[PU.au,aw];refine (congrArg (fun z:PS=>(z.then _).fin) q8).trans ?_;rw[PU.au,aw,dS,dP,af];simp![Pb];rw[iR2_i ⟨by ext,by ext⟩,Pf,Pg];refine (congrArg (fun z:PS=>(z.then _).fin) e).trans ?_;rw[PU.au,aN,cI,af,xLend_p];simp![mk,yr,if_true,t2,Pg,PU.aO]
def at_pl{n:Nat}{gs:List Int}(hn:n<=12)(h:∀x∈gs,0<=x/\x<(n:Int)):∀x∈gs.map D.int,At x:=fun x hx=>by
 obtain⟨i,hi,rfl⟩:=qaC.mp hx
 have:=h i hi
 exact mf (by ext)
def mz{a b:List D}(ha:∀x∈a,At x)(hb:∀x∈b,At x):∀x∈a++b,At x:=fun x hx=>(qav.mp hx).elim (ha x) (hb x)
def jP{d:D}(h:At d):∀x∈[d],At x:=fun x hx=>by
 have:x=d:=by simpa using hx
 subst this;exact h
def gC{ns:List Int}{lo hi:Option Int}:∃ts:List Int,f8 (ns.map D.int) lo hi=ts.map .int/\ts.length<=ns.length/\∀x∈ts,x∈ns:=by
 unfold f8;refine⟨(ns.drop _).take _,by rw[List.map_take,List.map_drop],?_,fun x hx=>qbU (qbV hx)⟩;rw[qbJ,qbm];ext
def ym{rs:List Int}{s:Pen}(h0:0<rs.length)(h1:rs.length<=12):∃ts s',eU.p [.pen,.lst (rs.map .int)] s=.ok (.lst ((ts:List Int).map .int)) s'/\ts.length<=24/\∀x∈ts,x∈rs:=by
 obtain⟨a,s1,a0,a9,qa⟩:=cQ (s:=s) (size:=(rs.length:Int)) (by ext) (by ext);obtain⟨b,s2,b0,b9,qb⟩:=cQ (s:=s1) (size:=2) (by decide) (by decide);obtain⟨t1,e1,l1,m1⟩:=gC (ns:=rs) (lo:=some a) (hi:=none);obtain⟨t2,e2,l2,m2⟩:=gC (ns:=rs) (lo:=none) (hi:=some a);have oa:=di (x:=t1.map D.int) (y:=t2.map D.int) (by simp;ext);rw[<-List.map_append] at oa;have mm:∀x∈t1++t2,x∈rs:=fun x hx=>(qav.mp hx).elim (m1 x) (m2 x);rw[rO (by rfl)];unfold eT;rw[show dSt 4 [D.pen,.lst (rs.map .int)]=[some .pen,some (.lst (rs.map .int)),none,none] from rfl];rw[aw,bz];simp![aE,aQ,bw,qal,Pf,qa,Pg,qaq,qar,PU.au];rw[aw,kz];simp only[aA,kc,k5,kH,ah,ag,Pb,km,Pf,e1,e2,oa,Pg,qaq,qar,PU.au];rw[aw,aV];simp![aY,aA,aE,aJ,aH,qb,eR,bW,qac,if_false,Pf,Pl,Pg];by_cases z:b=1
 ·refine⟨(t1++t2).reverse,s2,?_,by simp;ext,fun x hx=>mm x (List.mem_reverse.mp hx)⟩;rw[qag (by simpa using z),fw (s1:=s2) (as:=[]) (ds:=(t1++t2).map .int) (ds':=((t1++t2).map D.int).reverse) (r:=.non) (by rfl) rfl rfl];rw[PU.au,kE (d:=.lst (((t1++t2).map D.int).reverse)) rfl,PU.aO,List.map_reverse]
 ·refine⟨t1++t2,s2,?_,by simp;ext,mm⟩;rw[qao (by simpa using z),bh,PU.au,kE (d:=.lst ((t1++t2).map D.int)) rfl,PU.aO]
def at_non:At .non:=⟨⟨_,rfl⟩,_,rfl,rfl,by simp[dep],⟨rfl,by decide +kernel,by decide +kernel⟩⟩
def at_tup{gs:List Int}(hl:gs.length<=14)(h:∀x∈gs,x.natAbs<1900):At (.tup (gs.map .int)):=by
 obtain⟨a,b⟩:=eL gs;obtain⟨l1,l2⟩:=fj gs;refine⟨⟨_,rfl⟩,.tuple (gs.map .int),by simp[py,a],by simpa [PyData.canLay0] using l1,by simp[dep,b],?_⟩;refine (gU (L:=2000) fun d hd=>?_).mono (by rw[qal];ext);obtain⟨i,hi,rfl⟩:=qaC.mp hd;exact iN (du (h i hi))
def sw_p{ws:List Nat}{env:av}{s:Pen}{i j k:Nat}{u v:Int}{rs:List Int}{a b x y:Xe ws}{hi}(ea:a.p env s=.ok (.int u) s)(eb:b.p env s=.ok (.int v) s)(ei:env[i]?=some (some (.lst (rs.map .int))))(ex:x.p env s=.ok (.int (j:Int)) s)(ey:y.p (env.set i (some (.lst ((rs.set j u).map .int)))) s=.ok (.int (k:Int)) s)(hj:j<rs.length)(hk:k<rs.length) :
  (xSw i a b x y hi).p env s=.nx (env.set i (some (.lst (((rs.set j u).set k v).map .int)))) s:=by
 have il:i<env.length:=by
  rw[qad] at ei;exact ei.1
 have n1:ixN (rs.map D.int).length (j:Int)=some j:=by rw[qal];exact kY hj
 have n2:ixN ((rs.set j u).map D.int).length (k:Int)=some k:=by rw[qal,List.length_set];exact kY hk
 rw[xSw_p];unfold pSw;rw[ea];dsimp only;rw[eb];dsimp only;rw[nS (e:=fun _ s=>.ok (.int u) s) rfl ex ei n1,PU.au];have em:(rs.map D.int).set j (.int u)=(rs.set j u).map .int:=(List.map_set ..).symm;rw[em,nS (e:=fun _ s=>.ok (.int v) s) rfl ey (by simp[il]) n2,List.set_set];have em2:((rs.set j u).map D.int).set k (.int v)=((rs.set j u).set k v).map .int:=(List.map_set ..).symm;rw[em2]
def near_p{n:Nat}{ks:List (List Int)}{rs:List Int}{s:Pen}(hn:n<=12)(g:Rg n rs):∃ds s',fx.p [.pen,aG n ks,.lst (rs.map .int)] s=.ok (.lst ds) s'/\ds.length=17/\∀d∈ds,Tg d:=by
 have l12:=g.len;have l3:=g.l3;have bd:=g.bd;obtain⟨a,s1,a0,a9,qa⟩:=cQ (s:=s) (size:=(rs.length:Int) - 1) (by ext) (by ext);obtain⟨a,rfl⟩:=cR a0;have sub:∀{hs:List Int},(∀x∈hs,x∈rs)->∀x∈hs.map D.int,At x:=fun {hs} h=>at_pl hn fun x hx=>bd x (h x hx);have mem:∀i,i<rs.length->rs.getD i 0∈rs:=fun i hi=>by simp[List.getD,hi]
 have i0:oIx.p (aG n ks) (.int 0)=some (.int (n:Int)):=rfl;have en:jO.p (.int 1)=some (.int (-1)):=rfl;have g0:atI (rs.map D.int) 0=some (.int (rs.getD 0 0)):=c7 (i:=0) (by ext);have g1:atI (rs.map D.int) 1=some (.int (rs.getD 1 0)):=c7 (i:=1) (by ext);have ga:=c7 (rs:=rs) (i:=a) (by ext);have gb:atI (rs.map D.int) ((a:Int)+1)=some (.int (rs.getD (a+1) 0)):=by
  have:=c7 (rs:=rs) (i:=a+1) (by ext)
  rwa [Int.natCast_add] at this
 have gl:atI (rs.map D.int) (-1)=some (.int (rs.getD (rs.length - 1) 0)):=by
  have:=sT (rs:=rs) (k:=0) (by ext)
  simpa using this
 have u1:∀{x:D} {s:Pen},(if [x].length<=100000 then PR.ok (D.lst [x]) s else .bad)=.ok (.lst [x]) s:=fun {x s}=>qag (by simp);have u2:∀{x y:D} {s:Pen},(if [x,y].length<=100000 then PR.ok (D.lst [x,y]) s else .bad)=.ok (.lst [x,y]) s:=fun {x y s}=>qag (by simp);have u4:∀{x y z w:D} {s:Pen},(if [x,y,z,w].length<=100000 then PR.ok (D.lst [x,y,z,w]) s else .bad)=.ok (.lst [x,y,z,w]) s:=fun {x y z w s}=>qag (by simp);have u0:∀{s:Pen},(if ([]:List D).length<=100000 then PR.ok (D.lst []) s else .bad)=.ok (.lst []) s:=fun {s}=>qag (by decide);have t1:∀{x:D} {s:Pen},(if [x].length<=100000 then PR.ok (D.tup [x]) s else .bad)=.ok (.tup [x]) s:=fun {x s}=>qag (by simp);have cl:nr.p [.lst (rs.map .int)]=some (.lst (rs.map .int)):=cList_l (by simp;ext);have bn:∀i,i<rs.length->(rs.getD i 0).natAbs<1900:=fun i hi=>by have:=bd _ (mem i hi);ext
 generalize hO:([.int (n:Int),.int (-1),.bl true,.non,.str "0",.tup [.int (rs.getD 0 0)],.lst [.int (rs.getD 0 0)]]:List D)=LO;have lO:LO.length=7:=by rw[<-hO];rfl
 have zO:∀{s:Pen},(if LO.length<=100000 then PR.ok (D.lst LO) s else .bad)=.ok (.lst LO) s:=fun {s}=>qag (by ext);obtain⟨c,s2,c0,c9,qc⟩:=cQ (s:=s1) (size:=7) (by decide) (by decide);obtain⟨od,eo,mo⟩:=wV (ds:=LO) c0 (by ext);have ao:At od:=by
  rw[<-hO] at mo;simp only[qaj,qaN,or_false] at mo;rcases mo with rfl|rfl|rfl|rfl|rfl|rfl|rfl
  ·exact mf (by ext)
  ·exact mf (by decide)
  ·exact at_bl
  ·exact at_non
  ·exact at_str (by decide +kernel) (by decide +kernel) (by decide +kernel)
  ·exact at_tup (gs:=[rs.getD 0 0]) (by simp) (fun x hx=>by rw[qcd.mp hx];exact bn 0 (by ext))
  ·exact pW (gs:=[rs.getD 0 0]) (by simp) (fun x hx=>by rw[qcd.mp hx];exact bn 0 (by ext))
 obtain⟨ts,s3,qt,tl,tm⟩:=ym (rs:=rs) (s:=s2) (by ext) l12;have hos:∀x∈(rs.set a (rs.getD (a+1) 0)).set (a+1) (rs.getD a 0),x∈rs:=fun x hx=>by
  rcases qcr hx with h|h
  ·rcases qcr h with h|h
   ·exact h
   ·rw[h];exact mem _ (by ext)
  ·rw[h];exact mem _ (by ext)
 generalize ho:(rs.set a (rs.getD (a+1) 0)).set (a+1) (rs.getD a 0)=os at hos;have ol:os.length=rs.length:=by rw[<-ho];simp
 obtain⟨t5,e5,l5,m5⟩:=gC (ns:=rs) (lo:=some 1) (hi:=none);obtain⟨t6,e6,l6,m6⟩:=gC (ns:=rs) (lo:=none) (hi:=some (-1));obtain⟨t7,e7,l7,m7⟩:=gC (ns:=rs) (lo:=none) (hi:=some 3);have e8:f8 (rs.map D.int) none (some 2)=(rs.take (2:Int).toNat).map .int:=wN (by decide);have l8:(rs.take (2:Int).toNat).length=2:=by simp;ext
 have m8:∀x∈rs.take (2:Int).toNat,x∈rs:=fun x hx=>qbV hx;generalize rs.take (2:Int).toNat=t8 at e8 l8 m8;have o1:∀y:D,bJ.p (.lst (rs.map .int)) (.lst [y])=some (.lst (rs.map .int++[y])):=fun y=>di (by simp;ext);have o2:∀y:D,bJ.p (.lst (t6.map .int)) (.lst [y])=some (.lst (t6.map .int++[y])):=fun y=>di (by simp;ext);have o3:∀y:D,bJ.p (.lst (t7.map .int)) (.lst [y])=some (.lst (t7.map .int++[y])):=fun y=>di (by simp;ext);have o4:bJ.p (.lst (rs.map .int)) (.lst (rs.map .int))=some (.lst (rs.map .int++rs.map .int)):=di (by simp;ext);have fl:∀(m:Nat),((List.replicate m t8).flatten).length=2 * m:=fun m=>by simp[l8];ext
 have fm:∀(m:Nat),(List.replicate m (t8.map D.int)).flatten=((List.replicate m t8).flatten).map .int:=fun m=>by simp[List.map_flatten]
 have o5:qo.p (.lst (t8.map .int)) (.int ((a:Int)+2))=some (.lst (((List.replicate (a+2) t8).flatten).map .int)):=by
  show (if (0<=(a:Int)+2/\(a:Int)+2<=1000)/\((List.replicate ((a:Int)+2).toNat (t8.map D.int)).flatten).length<=100000 then some (D.lst (List.replicate ((a:Int)+2).toNat (t8.map D.int)).flatten) else none)=_;rw[show ((a:Int)+2).toNat=a+2 by ext,fm,qag ⟨by ext,by rw[qal,fl];ext⟩]
 have o6:∀x y:D,qo.p (.lst [x,y]) (.int 2)=some (.lst [x,y,x,y]):=fun x y=>rfl;have m9:∀x∈(List.replicate (a+2) t8).flatten,x∈rs:=fun x hx=>by
  obtain⟨l,hl,hx⟩:=List.mem_flatten.mp hx;rw[List.eq_of_mem_replicate hl] at hx;exact m8 x hx
 have l9:=fl (a+2);generalize (List.replicate (a+2) t8).flatten=t9 at o5 m9 l9;generalize hL1:([.lst (rs.map .int),.lst (ts.map .int),.lst (os.map .int),.lst (t5.map .int),.lst (rs.map .int++[.int (rs.getD a 0)]),.tup (rs.map .int),.lst (t6.map .int++[od])]:List D)=L1;generalize hL2:([.lst [.int (rs.getD 0 0),.int (rs.getD 1 0),.int (rs.getD 0 0),.int (rs.getD 1 0)],.lst [.int (rs.getD 0 0),.int (rs.getD 1 0),.int (rs.getD 0 0),.int (rs.getD (rs.length - 1) 0)],.lst (t7.map .int++[.int (rs.getD 1 0)])]:List D)=L2;generalize hL3:([.lst (rs.map .int++rs.map .int),.lst (t9.map .int)]:List D)=L3;generalize hL4:([.lst [],.non,.int (rs.getD 0 0),.lst [.lst (rs.map .int)],.dic]:List D)=L4;have k1:L1.length=7:=by rw[<-hL1];rfl
 have k2:L2.length=3:=by rw[<-hL2];rfl
 have k3:L3.length=2:=by rw[<-hL3];rfl
 have k4:L4.length=5:=by rw[<-hL4];rfl
 have z1:∀{s:Pen},(if L1.length<=100000 then PR.ok (D.lst L1) s else .bad)=.ok (.lst L1) s:=fun {s}=>qag (by ext);have z2:∀{s:Pen},(if L2.length<=100000 then PR.ok (D.lst L2) s else .bad)=.ok (.lst L2) s:=fun {s}=>qag (by ext);have z3:∀{s:Pen},(if L3.length<=100000 then PR.ok (D.lst L3) s else .bad)=.ok (.lst L3) s:=fun {s}=>qag (by ext);have z4:∀{s:Pen},(if L4.length<=100000 then PR.ok (D.lst L4) s else .bad)=.ok (.lst L4) s:=fun {s}=>qag (by ext);have d1:=di (x:=L1) (y:=L2) (by ext);have d2:=di (x:=L1++L2) (y:=L3) (by simp;ext);have d3:=di (x:=L1++L2++L3) (y:=L4) (by simp;ext);have ai:∀i,i<rs.length->At (.int (rs.getD i 0)):=fun i hi=>mf (bn i hi);have four:∀{x y z w:D},At x->At y->At z->At w->Tg (.lst [x,y,z,w]):=fun {x y z w} hx hy hz hw=>fc (by simp) fun d hd=>by
  simp only[qaj,qaN,or_false] at hd;rcases hd with rfl|rfl|rfl|rfl <;> assumption
 have good:∀d∈L1++L2++L3++L4,Tg d:=fun d hd=>by
  rcases qav.mp hd with hd|hd
  ·rcases qav.mp hd with hd|hd
   ·rcases qav.mp hd with hd|hd
    ·rw[<-hL1] at hd;simp only[qaj,qaN,or_false] at hd;rcases hd with rfl|rfl|rfl|rfl|rfl|rfl|rfl
     ·exact fc (by simp;ext) (sub fun x h=>h)
     ·exact fc (by simp;ext) (sub tm)
     ·exact fc (by simp;ext) (sub hos)
     ·exact fc (by simp;ext) (sub m5)
     ·exact fc (by simp;ext) (mz (sub fun x h=>h) (jP (ai a (by ext))))
     ·exact tg_t (by simp;ext) (sub fun x h=>h)
     ·exact fc (by simp;ext) (mz (sub m6) (jP ao))
    ·rw[<-hL2] at hd;simp only[qaj,qaN,or_false] at hd;have h0:=ai 0 (by ext);have h1:=ai 1 (by ext);rcases hd with rfl|rfl|rfl
     ·exact four h0 h1 h0 h1
     ·exact four h0 h1 h0 (ai _ (by ext))
     ·exact fc (by simp;ext) (mz (sub m7) (jP h1))
   ·rw[<-hL3] at hd;simp only[qaj,qaN,or_false] at hd;rcases hd with rfl|rfl
    ·exact fc (by simp;ext) (mz (sub fun x h=>h) (sub fun x h=>h))
    ·exact fc (by simp;ext) (sub m9)
  ·rw[<-hL4] at hd;simp only[qaj,qaN,or_false] at hd;rcases hd with rfl|rfl|rfl|rfl|rfl
   ·exact fc (by simp) (by simp)
   ·exact⟨⟨_,rfl⟩,fun _ q=>(by cases q),_,rfl⟩
   ·exact⟨⟨_,rfl⟩,fun _ q=>(by cases q),_,qag (du (bn 0 (by ext)))⟩
   ·exact fc (by simp) (jP (pW (by ext) fun x hx=>by have:=bd x hx;ext))
   ·exact⟨⟨_,rfl⟩,fun _ q=>(by cases q),_,rfl⟩
 refine⟨L1++L2++L3++L4,s3,?_,by simp[k1,k2,k3,k4],good⟩;rw[vS (by rfl)];unfold gW;rw[show dSt 7 [D.pen,aG n ks,.lst (rs.map .int)]=[some .pen,some (aG n ks),some (.lst (rs.map .int)),none,none,none,none] from rfl];rw[aw,bz];simp![aE,aA,aQ,bw,qal,Pf,aJ,aH,eO,qa,Pg,qaq,qar,PU.au]
 rw[xBld_p (s1:=s1) (s2:=s1) (ds:=rs.map .int) (d:=.lst (os.map .int)) (env':=[some .pen,some (aG n ks),some (.lst (rs.map .int)),some (.int (a:Int)),some (.lst (os.map .int)),none,none]) (by
  simp![aQ,cl,Pf]) (by
  refine (sw_p (ws:=[4]) (i:=4) (j:=a) (k:=a+1) (u:=rs.getD (a+1) 0) (v:=rs.getD a 0) (rs:=rs) ?_ ?_ rfl ?_ ?_ (by ext) (by ext)).trans ?_
  ·simp only[aA,qaq,qar,ah,ag,Pb,aJ,aH,iP,Pf,d7,gb]
  ·simp only[aA,qaq,qar,ah,ag,Pb,Pf,d7,ga]
  ·simp only[qaq,qar,ah,ag]
  ·simp only[aA,qaq,qar,ah,ag,Pb,aJ,aH,iP,Pf,Int.natCast_add,Int.cast_ofNat_Int]
  ·rw[ho];rfl) rfl]
 rw[aw,bz];simp![cG,aA,cr,aJ,aH,cK,nk,dQ,i0,en,cI,d7,g0,Pf,t1,u1,hO,zO,aE,qc,eo,Pg,qaq,qar,PU.au];rw[aw,bz];simp![cG,aA,aE,qt,kc,k5,kH,km,cr,aJ,aH,en,Pf,e5,e6,d7,ga,u1,o1,o2,aQ,lW,hL1,z1,Pg,qaq,qar,PU.au];rw[aw,bz];simp![cG,aA,kc,k5,kH,km,cr,aJ,aH,en,Pf,e7,d7,g0,g1,gl,u1,u2,u4,o3,o6,hL2,z2,d1,Pg,qaq,qar,PU.au];rw[aw,bz];simp![cG,aA,kc,k5,kH,km,aJ,aH,Pf,e8,iP,o4,o5,hL3,z3,d2,Pg,qaq,qar,PU.au];simp![aN,cG,aA,aJ,nk,aH,wS,d7,g0,Pf,u0,u1,hL4,z4,d3,Pg,PU.aO]
def no_p{n:Nat}{ks:List (List Int)}{rs:List Int}{s:Pen}(hn:n<=12)(g:Rg n rs):∃ds,cz.p [.lst (rs.map .int)] s=.ok (.lst ds) s/\∀d∈ds,∀s,bc.p [aG n ks,.int 0,d] s=.ok (.bl false) s:=by
 have l12:=g.len;have l3:=g.l3;have bd:=g.bd;have tr:Tg (.lst (rs.map .int)):=fc (by simp;ext) (at_pl hn bd);have u1:∀{x:D} {s:Pen},(if [x].length<=100000 then PR.ok (D.lst [x]) s else .bad)=.ok (.lst [x]) s:=fun {x s}=>qag (by simp);have u2:∀{x y:D} {s:Pen},(if [x,y].length<=100000 then PR.ok (D.lst [x,y]) s else .bad)=.ok (.lst [x,y]) s:=fun {x y s}=>qag (by simp);have u0:∀{s:Pen},(if ([]:List D).length<=100000 then PR.ok (D.lst []) s else .bad)=.ok (.lst []) s:=fun {s}=>qag (by decide);have t0:∀{s:Pen},(if ([]:List D).length<=100000 then PR.ok (D.tup []) s else .bad)=.ok (.tup []) s:=fun {s}=>qag (by decide);have t1:∀{x:D} {s:Pen},(if [x].length<=100000 then PR.ok (D.tup [x]) s else .bad)=.ok (.tup [x]) s:=fun {x s}=>qag (by simp);have t2:∀{x y:D} {s:Pen},(if [x,y].length<=100000 then PR.ok (D.tup [x,y]) s else .bad)=.ok (.tup [x,y]) s:=fun {x y s}=>qag (by simp);have t3:∀{x y z:D} {s:Pen},(if [x,y,z].length<=100000 then PR.ok (D.tup [x,y,z]) s else .bad)=.ok (.tup [x,y,z]) s:=fun {x y z s}=>qag (by simp);have dk:∀{d:D},Kd d->(∀ds,d≠.tup ds)->∀s,bc.p [aG n ks,.int 0,d] s=.ok (.bl false) s:=fun h nt s=>den_k h nt;have ds2:∀{x:Str} {e:D},PyData.strOk x=true->(x == ("need":Str))=false->∀s,bc.p [aG n ks,.int 0,.tup [.str x,e]] s=.ok (.bl false) s:=fun hx ne s=>m4 ⟨⟨_,rfl⟩,fun y q=>by cases q;exact hx⟩ (fun _=>ne) (fun q=>by simp at q)
 have do2:∀{x e:D},Kd x->(∀y,x≠.str y)->∀s,bc.p [aG n ks,.int 0,.tup [x,e]] s=.ok (.bl false) s:=fun {x e} hx ne s=>m4 ⟨hx,fun y q=>absurd q (ne y)⟩ (fun _=>by
  cases x <;> first | rfl | exact absurd rfl (ne _)) (fun q=>by simp at q)
 have dn3:∀{e f:D},∀s,bc.p [aG n ks,.int 0,.tup [.str "need",e,f]] s=.ok (.bl false) s:=fun {e f} s=>m4 ⟨⟨_,rfl⟩,fun y q=>by cases q;exact kI⟩ (fun q=>by simp at q) (fun _=>show (("need":Str) == ("chords":Str))=false by decide +kernel);generalize hL1:([.non,.str "need",.tup [],.tup [.str "need"],.lst [.str "need",.lst (rs.map .int)],.tup [.str "need",.lst (rs.map .int),.tup []],.tup [.str "need",.lst (rs.map .int),.non],.tup [.lst (rs.map .int),.str "need"]]:List D)=L1;generalize hL2:([.tup [.str "needs",.lst (rs.map .int)],.tup [.str "Need",.lst (rs.map .int)],.tup [.str "",.lst (rs.map .int)],.tup [.non,.lst (rs.map .int)],.tup [.bl true,.lst (rs.map .int)],.tup [.lst [.str "need"],.lst (rs.map .int)],.dic]:List D)=L2;generalize hL3:([.lst (rs.map .int),.tup [.str "chords",.lst (rs.map .int)],.tup [.str "chords",.lst (rs.map .int),.tup []],.tup [.str "chords",.lst (rs.map .int),.lst []],.tup [.str "need",.lst [.lst (rs.map .int)]],.int 7]:List D)=L3;have k1:L1.length=8:=by rw[<-hL1];rfl
 have k2:L2.length=7:=by rw[<-hL2];rfl
 have k3:L3.length=6:=by rw[<-hL3];rfl
 have z1:∀{s:Pen},(if L1.length<=100000 then PR.ok (D.lst L1) s else .bad)=.ok (.lst L1) s:=fun {s}=>qag (by ext);have z2:∀{s:Pen},(if L2.length<=100000 then PR.ok (D.lst L2) s else .bad)=.ok (.lst L2) s:=fun {s}=>qag (by ext);have z3:∀{s:Pen},(if L3.length<=100000 then PR.ok (D.lst L3) s else .bad)=.ok (.lst L3) s:=fun {s}=>qag (by ext);have d1:=di (x:=L1) (y:=L2) (by ext);have d2:=di (x:=L1++L2) (y:=L3) (by simp;ext);refine⟨L1++L2++L3,?_,fun d hd=>?_⟩
 ·rw[n8 (by rfl)];unfold dh;rw[show dSt 2 [D.lst (rs.map .int)]=[some (.lst (rs.map .int)),none] from rfl];rw[aw,bz];simp only[cG,cI,af,ag,Pb,aJ,nk,dQ,ak,t0,t1,t2,t3,u2,hL1,z1,Pg,qaq,qar,PU.au];rw[aw,bz];simp![aA,cG,cI,aJ,nk,cK,dQ,wS,t2,u1,hL2,z2,d1,Pf,Pg,qaq,qar,PU.au];simp![aN,aA,cG,cI,aJ,aH,dQ,t0,t2,t3,u0,u1,hL3,z3,d2,Pf,Pg,PU.aO]
 ·rcases qav.mp hd with hd|hd
  ·rcases qav.mp hd with hd|hd
   ·rw[<-hL1] at hd;simp only[qaj,qaN,or_false] at hd;rcases hd with rfl|rfl|rfl|rfl|rfl|rfl|rfl|rfl
    ·exact dk ⟨_,rfl⟩ (by simp)
    ·exact dk ⟨_,rfl⟩ (by simp)
    ·exact fun s=>m4 trivial (fun q=>by simp at q) (fun q=>by simp at q)
    ·exact fun s=>m4 ⟨⟨_,rfl⟩,fun y q=>by cases q;exact kI⟩ (fun q=>by simp at q) (fun q=>by simp at q)
    ·exact dk ⟨_,rfl⟩ (by simp)
    ·exact dn3
    ·exact dn3
    ·exact do2 ⟨_,rfl⟩ (by simp)
   ·rw[<-hL2] at hd;simp only[qaj,qaN,or_false] at hd;rcases hd with rfl|rfl|rfl|rfl|rfl|rfl|rfl
    ·exact ds2 (by decide +kernel) (by decide +kernel)
    ·exact ds2 (by decide +kernel) (by decide +kernel)
    ·exact ds2 (by decide +kernel) (by decide +kernel)
    ·exact do2 ⟨_,rfl⟩ (by simp)
    ·exact do2 ⟨_,rfl⟩ (by simp)
    ·exact do2 ⟨_,rfl⟩ (by simp)
    ·exact dk ⟨_,rfl⟩ (by simp)
  ·rw[<-hL3] at hd;simp only[qaj,qaN,or_false] at hd;rcases hd with rfl|rfl|rfl|rfl|rfl|rfl
   ·exact dk ⟨_,rfl⟩ (by simp)
   ·exact ds2 (by decide +kernel) (by decide +kernel)
   ·exact fun s=>wH hn tr (.inl rfl)
   ·exact fun s=>wH hn tr (.inr rfl)
   ·intro s;have nb:brB n ks (.lst [.lst (rs.map .int)])=false:=by
     unfold brB;refine @decide_eq_false _ (_) fun ⟨gs,e,_,l4,_⟩=>?_;injection e with e
     have:=congrArg List.length e
     simp at this;ext
    rw[qr hn (fc (by simp) (jP (pW (by ext) fun x hx=>by have:=bd x hx;ext))),nb];rfl
   ·exact dk ⟨_,rfl⟩ (by simp)
def vf{a:Bool}{s:Pen}:cN.p [.bl a,.bl a] s=.ok (.bl true) s:=by
 rw[vI (by rfl)];unfold gO;cases a <;> simp[dSt,bL]
abbrev bE(n:Nat)(ks:List (List Int))(rs:List Int)(kp:D)(ns:List Int)(z5 z8 z9 z10 z11:Option D):av:=[none,none,some .pen,some kp,some (.lst (ns.map .int)),z5,some (aG n ks),some (.lst (rs.map .int)),z8,z9,z10,z11]
abbrev b1B:Xd []:=(aK (bO 11 (cP (ae oGe (ac 10) (xC (.int 0))) (cP (ac 9) (ae oGt (ae bP (xCb bB (aa (ac 5) xNil)) (xC (.int 3))) (ac 10)))))
 (xIf (dJ (xB (aB cN (aa (aB bc (aa (ac 6) (aa (ac 10) (aa (aM (aa (xC (.str "need")) (aa (ac 5) xNil))) xNil)))) (aa (ac 11) xNil))))) (aT (xC (.bl false))) xSkip))
def b1_p{n:Nat}{ks:List (List Int)}{rs ns:List Int}{kp d:D}{z8 z11:Option D}{k:Int}{s:Pen}(hn:n<=12)(h:Tg d):∃y,b1B.p (bE n ks rs kp ns (some d) z8 (some (.bl (brB n ks d))) (some (.int k)) z11) s=.nx (bE n ks rs kp ns (some d) z8 (some (.bl (brB n ks d))) (some (.int k)) y) s:=by
 have t2:∀{x y:D} {s:Pen},(if [x,y].length<=100000 then PR.ok (D.tup [x,y]) s else .bad)=.ok (.tup [x,y]) s:=fun {x y s}=>qag (by simp);have dn:=qr (ks:=ks) (k:=k) (s:=s) hn h;have due:(cP (ae oGe (ac 10) (xC (.int 0))) (cP (ac 9) (ae oGt (ae bP (xCb bB (aa (ac 5) xNil)) (xC (.int 3))) (ac 10))):Xe []).p (bE n ks rs kp ns (some d) z8 (some (.bl (brB n ks d))) (some (.int k)) z11) s=.ok (.bl (decide (0<=k) && (brB n ks d && decide (k<lnD d - 3)))) s:=by
  by_cases hk:0<=k
  ·cases z:brB n ks d with
   | false=>dsimp![dE,aH,iO,hk,decide_true,if_true,qbP,qby]
   | true =>
    unfold brB at z;obtain⟨gs,rfl,_⟩:=@of_decide_eq_true _ (_) z;simp![dE,aA,aJ,aH,iO,Pf,Pl,hk,decide_true,if_true,aQ,bw,eO,v9,qbP,lnD];rfl
  ·dsimp![dE,aH,iO,hk,decide_false,qby]
 refine⟨some (.bl (decide (0<=k) && (brB n ks d && decide (k<lnD d - 3)))),?_⟩
 ·rw[aw,bz,due];simp only[Pg,qaq,qar,PU.au];rw[aV];simp![bA,aY,aE,cI,aJ,dQ,t2,dn,vf,Pl,qaI,Pg,qac,if_false,bh]
abbrev b2B:Xd []:=(aK (bO 9 (aB cM (aa (ac 6) (aa (ac 5) xNil))))
 (cW (bD (ae oIx (br (aa (ac 4) (aa (xSl (ac 4) (xPt (xC (.int 1))) xNo) (aa (br (aa (xC (.int 0)) (aa (ae oIx (ac 4) (xC (.int 0))) (aa (ae oIx (ac 4) (xC (.int 5))) xNil)))) xNil)))) (xCb io (aa (ac 8) (aa (xC (.int 2)) xNil))))) (xNm 10) b1B))
def b2_p{n:Nat}{ks:List (List Int)}{rs ns:List Int}{kp d:D}{z9 z10 z11:Option D}{j:Nat}{s:Pen}(w:WebT n ks)(hn:n<=12)(h:Tg d)(hl:ns.length=7):∃y9 y10 y11,b2B.p (bE n ks rs kp ns (some d) (some (.int (j:Int))) z9 z10 z11) s=.nx (bE n ks rs kp ns (some d) (some (.int (j:Int))) y9 y10 y11) s:=by
 have eb:=bare_k (s:=s) w hn h;obtain⟨t1,e1,l1,_⟩:=gC (ns:=ns) (lo:=some 1) (hi:=none);have g0:atI (ns.map D.int) 0=some (.int (ns.getD 0 0)):=c7 (i:=0) (by ext);have g5:atI (ns.map D.int) 5=some (.int (ns.getD 5 0)):=c7 (i:=5) (by ext);have u3:∀{x y z:D} {s:Pen},(if [x,y,z].length<=100000 then PR.ok (D.lst [x,y,z]) s else .bad)=.ok (.lst [x,y,z]) s:=fun {x y z s}=>qag (by simp);obtain⟨ms,em⟩:∃ms:List Int,atI [D.lst (ns.map .int),.lst (t1.map .int),.lst [.int 0,.int (ns.getD 0 0),.int (ns.getD 5 0)]] (if (2:Int)<(j:Int) then 2 else (j:Int))=some (.lst (ms.map .int)):=by
  obtain⟨i,hi⟩:=cR (i:=if (2:Int)<(j:Int) then 2 else (j:Int)) (by split <;> ext)
  have:i<3:=by have:(i:Int)<=2:=(by rw[<-hi];split <;> ext);ext
  rw[hi]
  match i,this with
  | 0,_=>exact⟨ns,rfl⟩
  | 1,_=>exact⟨t1,rfl⟩
  | 2,_=>exact⟨[0,ns.getD 0 0,ns.getD 5 0],rfl⟩
 obtain⟨env',s',e,y10,y11,rfl,rfl⟩:=eP (g:=(xNm 10:Xg []).p) (b:=b1B.p)
  (fun _ env s'=>∃y10 y11,env=bE n ks rs kp ns (some d) (some (.int (j:Int))) (some (.bl (brB n ks d))) y10 y11/\s'=s) (ms.map .int) 0 (bE n ks rs kp ns (some d) (some (.int (j:Int))) (some (.bl (brB n ks d))) z10 z11) s ⟨z10,z11,rfl,rfl⟩ (fun m env s' x ⟨y10,y11,hE,hS⟩ hx=>by
   subst hE hS;obtain⟨rfl,_⟩:=lS hx;obtain⟨y,e⟩:=b1_p (ks:=ks) (rs:=rs) (ns:=ns) (kp:=kp) (z8:=some (.int (j:Int))) (z11:=y11) (k:=ms.getD m 0) (s:=s') hn h
   exact⟨_,_,s',rfl,e,_,_,rfl,rfl⟩)
 refine⟨some (.bl (brB n ks d)),y10,y11,?_⟩;rw[aw,bz];simp![aE,eb,Pg,qaq,qar,PU.au];rw[dS,eZ];simp![aA,cG,kc,k5,kH,aJ,aH,km,e1,Pf,d7,g0,g5,u3,aQ,sH,em,show (D.lst (ms.map .int)).items=some (ms.map .int) from rfl,Pg];exact e
def sh_tie{n:Nat}{k:List Int}(hn:n<=12)(h:IsT n k):Sh 5000 (.tuple (k.map .int)):=by
 obtain⟨a,b,rfl,h1⟩:=h;refine (gU (L:=2000) fun d hd=>?_).mono (by simp);simp only[qaF,qbF,qaj,qaN,or_false] at hd;rcases hd with rfl|rfl <;> exact iN (du (by ext))
def rep_web{n:Nat}{ks:List (List Int)}(w:WebT n ks):∃t,kM.p [aG n ks]=some (.str t)/\PyData.strOk t=true:=by
 obtain⟨a,b⟩:=i9 ks;have n12:=w.n12;have kl:=kG w.n12 w.tie w.nd
 have s1:Sh 500000 (.tuple (ks.map fun k=>.tuple (k.map .int))):=(gU (L:=5000) fun d hd=>by
  obtain⟨k,hk,rfl⟩:=qaC.mp hd
  exact sh_tie (n:=n) (by ext) (w.isT k hk)).mono (by rw[qal];ext)
 have s2:Sh 1100000 (.tuple [.int (n:Int),.tuple (ks.map fun k=>.tuple (k.map .int))]):=(gU (L:=500000) fun d hd=>by
  simp only[qaj,qaN,or_false] at hd;rcases hd with rfl|rfl
  ·exact (iN (du (by ext))).mono (by decide)
  ·exact s1).mono (by simp)
 refine⟨_,?_,s2.ok⟩;have ep:py (aG n ks)=some (.tuple [.int (n:Int),.tuple (ks.map fun k=>.tuple (k.map .int))]):=by simp[aG,py,pys,a]
 show (f6 (aG n ks)).map _=_;unfold f6 aG;dsimp only;unfold aG at ep;rw[ep];dsimp only;rw[qag ⟨by simp only[dep,deps];ext,s2.able,qaE s2.len (by decide)⟩];rfl
def x9{n:Nat}{rs:List Int}(hn:n<=12)(g:Rg n rs):∃t,kM.p [.lst (rs.map .int)]=some (.str t)/\PyData.strOk t=true:=by
 obtain⟨a,b⟩:=eL rs;have l12:=g.len
 have s2:Sh 100000 (.list (rs.map .int)):=(nZ (L:=2000) fun d hd=>by
  obtain⟨i,hi,rfl⟩:=qaC.mp hd
  have:=g.bd i hi
  exact iN (du (by ext))).mono (by rw[qal];ext)
 refine⟨_,?_,s2.ok⟩;have ep:py (.lst (rs.map .int))=some (.list (rs.map .int)):=by simp[py,a]
 show (f6 (.lst (rs.map .int))).map _=_;unfold f6;dsimp only;rw[ep];dsimp only;rw[qag ⟨by simp only[dep];ext,s2.able,qaE s2.len (by decide)⟩];rfl
def eq_tt{a b:Str}(ha:PyData.strOk a=true)(hb:PyData.strOk b=true):eqD true (.tup [.str a,.str b]) (.tup [.str a,.str b])=some (.bl false):=by
 simp[eqD,py,pys,dep,deps,SeqAt.shaped,PyData.canLay0,PyData.canLayAll0,PyData.depth,PyData.depthAll,PyData.eqv,PyData.eqvAll,ha,hb]
def body_p{s:Pen}:∃env' s',fN.p [none,none,some .pen,none,none,none,none,none,none,none,none,none] s=.nx env' s':=by
 obtain⟨n,ks,rs,s1,q1,hn,w,g⟩:=web_p (s:=s);obtain⟨t1,r1,o1⟩:=rep_web w;obtain⟨t2,r2,o2⟩:=x9 hn g;have tt:∀{x y:D} {s:Pen},(if [x,y].length<=100000 then PR.ok (D.tup [x,y]) s else .bad)=.ok (.tup [x,y]) s:=fun {x y s}=>qag (by simp);have en:jO.p (.int 1)=some (.int (-1)):=rfl;obtain⟨a,s2,a0,a9,qa⟩:=cQ (s:=s1) (size:=9) (by decide) (by decide);have ep:oPow.p (.int 10) (.int 9)=some (.int 1000000000):=by
  unfold oPow;dsimp only;rw[qag (by unfold dr;decide)];rfl
 obtain⟨b,s3,b0,b9,qb⟩:=cQ (s:=s2) (size:=1000000000) (by decide) (by decide);have z7:∀{x1 x2 x3 x4 x5 x6 x7:D} {s:Pen},(if [x1,x2,x3,x4,x5,x6,x7].length<=100000 then PR.ok (D.lst [x1,x2,x3,x4,x5,x6,x7]) s else .bad)=.ok (.lst [x1,x2,x3,x4,x5,x6,x7]) s:=fun {x1 x2 x3 x4 x5 x6 x7 s}=>qag (by simp);have z7':∀{ns:List Int} {s:Pen},ns.length=7->(if (ns.map D.int).length<=100000 then PR.ok (D.lst (ns.map D.int)) s else .bad)=.ok (.lst (ns.map .int)) s:=fun h=>qag (by rw[qal];ext);obtain⟨ns,hns,nl⟩:∃ns:List Int,[D.int ((rs.length:Int) - 5),.int ((rs.length:Int) - 4),.int ((rs.length:Int) - 3),.int 0,.int (-1),.int (-1 - a),.int b]=ns.map .int/\ns.length=7:=⟨[(rs.length:Int) - 5,(rs.length:Int) - 4,(rs.length:Int) - 3,0,-1,-1 - a,b],rfl,rfl⟩;obtain⟨ds,s4,q4,dl,dg⟩:=near_p (ks:=ks) (s:=s3) hn g;obtain⟨env5,s5,e5,y5,y8,y9,y10,y11,rfl,rfl⟩:=eP (g:=(xGp (xGc (xNm 8) (xGc (xNm 5) xGl)) 2:Xg []).p) (b:=b2B.p)
  (fun _ env s'=>∃y5 y8 y9 y10 y11,env=bE n ks rs (.tup [.str t1,.str t2]) ns y5 y8 y9 y10 y11/\s'=s4) (d4 ds) 0 (bE n ks rs (.tup [.str t1,.str t2]) ns none none none none none) s4 ⟨_,_,_,_,_,rfl,rfl⟩ (fun m env s' x ⟨y5,y8,y9,y10,y11,hE,hS⟩ hx=>by
   subst hE hS;obtain⟨d,hd,rfl⟩:=jU hx;obtain⟨u9,u10,u11,e⟩:=b2_p (rs:=rs) (kp:=.tup [.str t1,.str t2]) (z9:=y9) (z10:=y10) (z11:=y11) (j:=m) (s:=s') w hn (dg d (qaL hd)) nl
   exact⟨_,_,s',rfl,e,_,_,_,_,_,rfl,rfl⟩)
 obtain⟨ps,q6,pd⟩:=no_p (ks:=ks) (s:=s5) hn g;obtain⟨env6,s6,e6,v5,rfl,rfl⟩:=eP (g:=(xNm 5:Xg []).p) (b:=(xIf (dJ (xB (aB cN (aa (aB bc (aa (ac 6) (aa (xC (.int 0)) (aa (ac 5) xNil)))) (aa (xC (.bl false)) xNil))))) (aT (xC (.bl false))) xSkip:Xd []).p)
  (fun _ env s'=>∃v5,env=bE n ks rs (.tup [.str t1,.str t2]) ns v5 y8 y9 y10 y11/\s'=s5) ps 0 (bE n ks rs (.tup [.str t1,.str t2]) ns y5 y8 y9 y10 y11) s5 ⟨_,rfl,rfl⟩ (fun m env s' x ⟨v5,hE,hS⟩ hx=>by
   subst hE hS
   have:=pd x (qaL hx) s'
   refine⟨_,_,s',rfl,?_,some x,rfl,rfl⟩;rw[aV]
   simp![bA,aY,aE,qaq,qar,aJ,aH,cK,this,vf,Pl,qaI,Pg,qac,if_false,bh])
 refine⟨bE n ks rs (.tup [.str t1,.str t2]) ns v5 y8 y9 y10 y11,s6,?_⟩;unfold fN;rw[aw,xAsg_p];simp![aE,q1,Pg,xGp_p,qaY,qcK,if_true,xGc_p,xNm_p,qaO,xGl_p,qaq,qar,PU.au,qaS,Nat.reduceAdd];rw[aw,bz];simp![cI,aQ,r1,r2,Pf,tt,Pg,qaq,qar,PU.au];rw[aw,bz];simp![cG,aA,aQ,bw,qal,Pf,aJ,aH,eO,cr,en,aE,qa,ep,qb,z7,Pg,qaq,qar,PU.au];rw[hns];rw[aw,dS,dP,af];simp![aE,q4,iE_l,Pf,Pg];refine (congrArg (fun z:PS=>z.then _) e5).trans ?_;rw[PU.au,aw,dS,eZ];simp![aE,q6,show (D.lst ps).items=some ps from rfl,Pf,Pg];refine (congrArg (fun z:PS=>z.then _) e6).trans ?_;rw[PU.au,aV];simp![aY,aA,cI,aQ,r1,r2,Pf,tt,fG,eq_tt o1 o2,Pl,Pg,qac,if_false,bh]
def sD{ns:List Int}{k:Nat}(hk:k<ns.length):atI (ns.map PV.int) (k:Int)=some (.int ns[k]):=L2.dj (by simp[hk])
def rk{h:MH}:opPow (.int 10) (.int 18) h=.ok (.int (10 ^ 18)) h:=qv (by decide)
def xZ{h:MH}:opPow (.int 10) (.int 15) h=.ok (.int (10 ^ 15)) h:=qv (by decide)
def yK{h:MH}{ns:List Int}{k:Nat}(hk:k<64):∃m c:Int,eN [.frl (ns.map .int),.int k] h=.ok (.loc h.length) (h++[.lst [.int m,.int c,.int 0]]):=by
 unfold eN;have k1:∀{i:Int} {h:MH},opMul (.int 7919) (.int i) h=.ok (.int (7919 * i)) h:=gw (by decide);have k2:∀{i:Int} {h:MH},opMul (.int 48271) (.int i) h=.ok (.int (48271 * i)) h:=gw (by decide);have k3:∀{i:Int} {h:MH},opMul (.int 40009) (.int i) h=.ok (.int (40009 * i)) h:=gw (by decide);have n3:∀{a b c:PV} {h:MH},newL [a,b,c] h=.ok (.loc h.length) (h++[.lst [a,b,c]]):=ux (by simp)
 have fin:∀cell:Int,∃m c:Int,(bq (mIf (mB (az opGe (mCB fAbs (aj (aq 2) mNil)) (az opPow (mC (.int 10)) (mC (.int 18))))) (b7 (fo (aj (mC (.int 1)) (aj (mCB fAbs (aj (aq 2) mNil)) (aj (mC (.int 0)) mNil))))) mSkip)
   (b7 (fo (aj (mC (.int 0)) (aj (az opAdd (az opMod (aq 2) (mC (.int 2147483587))) (az opMul (mC (.int 40009)) (aq 1))) (aj (mC (.int 0)) mNil)))))) [some (.frl (ns.map .int)),some (.int k),some (.int cell)] h=.rt (.loc h.length) (h++[.lst [.int m,.int c,.int 0]]):=fun cell=>by
  by_cases z:(10:Int) ^ 18<=(if cell<0 then -cell else cell)
  ·exact⟨1,(if cell<0 then -cell else cell),by simp[rk,n3,z,-Int.reducePow]⟩
  ·exact⟨0,cell.fmod 2147483587+40009 * k,by simp[rk,n3,z,k3,fy,-Int.reducePow]⟩
 have fin':∀cell:Int,∃m c:Int,((bq (mIf (mB (az opGe (mCB fAbs (aj (aq 2) mNil)) (az opPow (mC (.int 10)) (mC (.int 18))))) (b7 (fo (aj (mC (.int 1)) (aj (mCB fAbs (aj (aq 2) mNil)) (aj (mC (.int 0)) mNil))))) mSkip)
   (b7 (fo (aj (mC (.int 0)) (aj (az opAdd (az opMod (aq 2) (mC (.int 2147483587))) (az opMul (mC (.int 40009)) (aq 1))) (aj (mC (.int 0)) mNil)))))) [some (.frl (ns.map .int)),some (.int k),some (.int cell)] h).fin=.ok (.loc h.length) (h++[.lst [.int m,.int c,.int 0]]):=fun cell=>by
  obtain⟨m,c,q⟩:=fin cell;exact⟨m,c,by rw[q];rfl⟩
 have lift:∀cell:Int,(bq (bG 2 (az opAdd (az opMul (mC (.int 7919)) (aq 1)) (mC (.int 11))))
 (mIf (mB (az opLt (aq 1) (mCB fMin (aj (mCB fLen (aj (aq 0) mNil)) (aj (mC (.int 63)) mNil))))) (bG 2 (az bT (aq 0) (aq 1))) (mIf (mB (az opGt (mCB fLen (aj (aq 0) mNil)) (mC (.int 0)))) (bG 2 (az opAdd (az opMod (az bT (aq 0) (az opMod (aq 1) (mCB fMin (aj (mCB fLen (aj (aq 0) mNil)) (aj (mC (.int 63)) mNil))))) (az opPow (mC (.int 10)) (mC (.int 15)))) (az opMul (mC (.int 48271)) (aq 1)))) mSkip))) [some (.frl (ns.map .int)),some (.int k),none] h=.nx [some (.frl (ns.map .int)),some (.int k),some (.int cell)] h ->
   ∃m c:Int,eD 3 2 m_l_pen [.frl (ns.map .int),.int k] h=.ok (.loc h.length) (h++[.lst [.int m,.int c,.int 0]]):=fun cell q=>by
  obtain⟨m,c,q2⟩:=fin' cell;refine⟨m,c,(kK (by rfl)).trans ?_⟩;rw[<-q2];unfold m_l_pen;simp only[kq] at q ⊢;have e0:bX 3 [PV.frl (ns.map .int),PV.int k]=[some (.frl (ns.map .int)),some (.int k),none]:=rfl;rw[e0];generalize (bG 2 (az opAdd (az opMul (mC (.int 7919)) (aq 1)) (mC (.int 11)))) [some (.frl (ns.map .int)),some (.int k),none] h=o1 at q ⊢
  cases o1 with
  | nx σ1 h1 =>
   simp only[MM.au,kq] at q ⊢;rw[q];rfl
  | _=>cases q
 have hlim:∃lim:Nat,(if (63:Int)<(ns.length:Int) then (63:Int) else (ns.length:Int))=(lim:Int)/\lim<=ns.length/\(0<ns.length->0<lim):=by
  by_cases z:(63:Int)<(ns.length:Int)
  ·exact⟨63,by rw[qag z];rfl,by ext,by ext⟩
  ·exact⟨ns.length,by rw[qao z],by ext,by ext⟩
 obtain⟨lim,el,hl1,hl2⟩:=hlim;by_cases h1:k<lim
 ·refine lift (ns[k]'(by ext)) ?_;simp[k1,el,h1,sD (show k<ns.length by ext)]
 ·by_cases h0:0<ns.length
  ·have hm0:(lim:Int)≠0:=by have:=hl2 h0;ext
   have hj:k % lim<ns.length:=qaB (Nat.mod_lt _ (hl2 h0)) hl1;have ej:(k:Int).fmod (lim:Int)=((k % lim:Nat):Int):=by rw[qbS _ (by ext)];rfl
   refine lift ((ns[k % lim]'hj).fmod (10 ^ 15)+48271 * k) ?_;have p0:((10:Int) ^ 15)≠0:=by decide
   have a1:=sD hj;rw[Int.natCast_emod] at a1;simp[k1,el,h1,h0,fy hm0,ej,a1,xZ,fy p0,k2,-Int.reducePow]
  ·have h0':ns=[]:=qbG.mp (by ext);refine lift (7919 * k+11) ?_;have z:¬((k:Int)<(lim:Int)):=by ext
   simp[k1,el,z,h0]
def uR{lo:Int}{c i:Nat}{x:PV}(h:(bY lo c)[i]?=some x):x=.int (lo+i)/\i<c:=by
 unfold bY at h;rw[qat,qax] at h;obtain⟨k,hk,rfl⟩:=h
 have:=qad.mp hk
 obtain⟨a,b⟩:=this;simp at a b;subst b;exact⟨rfl,a⟩
def KS(σ:PSt)(o:SOut):Prop:=match o with
 | .nx σ' _=>σ'.length=σ.length/\σ'[0]?=σ[0]?
 | .bk σ' _=>σ'.length=σ.length/\σ'[0]?=σ[0]?
 | .ct σ' _=>σ'.length=σ.length/\σ'[0]?=σ[0]?
 | _=>True
def KS.of{σ σ1:PSt}{o:SOut}(h:σ1.length=σ.length/\σ1[0]?=σ[0]?)(k:KS σ1 o):KS σ o:=by
 cases o with
 | nx a b=>exact⟨k.1.trans h.1,k.2.trans h.2⟩
 | bk a b=>exact⟨k.1.trans h.1,k.2.trans h.2⟩
 | ct a b=>exact⟨k.1.trans h.1,k.2.trans h.2⟩
 | _=>trivial
def K0(m:Mst):Prop:=∀σ h,KS σ (m σ h)
def k_skip:K0 mSkip:=fun σ h=>⟨rfl,rfl⟩
def qf{α:Type}{m:Mx α}{k:α->Mst}(hk:∀v,K0 (k v)):K0 (mEx m k):=fun σ h=>by
 unfold mEx
 cases m σ h with
 | ok v h1=>exact hk v σ h1
 | _=>trivial
def k_ret{m:Mx PV}:K0 (b7 m):=fun σ h=>by
 unfold b7
 cases m σ h with
 | ok v h1=>trivial
 | _=>trivial
def ku{i:Nat}{v:PV}{σ:PSt}(h:i≠0):(σ.set i (some v)).length=σ.length/\(σ.set i (some v))[0]?=σ[0]?:=⟨by simp,qai h⟩
def k_set{i:Nat}{m:Mx PV}(h:i≠0):K0 (bG i m):=qf fun v σ h1=>ku h
def k_seq{a b:Mst}(ha:K0 a)(hb:K0 b):K0 (bq a b):=fun σ h=>by
 have:=ha σ h
 unfold bq
 cases e:a σ h with
 | nx σ1 h1=>rw[e] at this;exact KS.of this (hb σ1 h1)
 | bk σ1 h1=>rw[e] at this;exact this
 | ct σ1 h1=>rw[e] at this;exact this
 | _=>trivial
def k_if{c:Mx Bool}{a b:Mst}(ha:K0 a)(hb:K0 b):K0 (mIf c a b):=qf fun x=>by
 cases x
 ·exact hb
 ·exact ha
def k_go{it:MIt}{i:Nat}{b:Mst}(hi:i≠0)(hb:K0 b):∀xs:List PV,K0 (mGo it (gNm i) b xs):=by
 intro xs
 induction xs with
 | nil =>
  intro σ h;unfold mGo;split
  ·exact⟨rfl,rfl⟩
  ·trivial
 | cons x r ih =>
  intro σ h;unfold mGo;split
  ·show KS σ (match b (σ.set i (some x)) h with
    | .nx σ2 h2=>mGo it (gNm i) b r σ2 h2
    | .ct σ2 h2=>mGo it (gNm i) b r σ2 h2
    | .bk σ2 h2=>.nx σ2 h2
    | .rt v h2=>.rt v h2
    | .exc e σ2 h2=>.exc e σ2 h2
    | .rse e σ2 h2=>.rse e σ2 h2
    | .bad=>.bad)
   have k:=(hb (σ.set i (some x)) h)
   cases e:b (σ.set i (some x)) h with
   | nx σ2 h2=>rw[e] at k;exact KS.of (ku hi) (KS.of k (ih σ2 h2))
   | ct σ2 h2=>rw[e] at k;exact KS.of (ku hi) (KS.of k (ih σ2 h2))
   | bk σ2 h2=>rw[e] at k;exact KS.of (ku hi) k
   | _=>trivial
  ·trivial
def k_for{mi:Mx MIt}{i:Nat}{b:Mst}(hi:i≠0)(hb:K0 b):K0 (jq mi (gNm i) b):=qf fun it=>k_go hi hb it.xs
section
variable {ws:List Nat}
def gK{a b:Xd ws}(ha:K0 a.m)(hb:K0 b.m):K0 (aK a b).m:=k_seq ha hb
def mq{i:Nat}{e:Xe ws}{hi:ws.contains i=false}{hz:e.fz=true}(h:i≠0):K0 (bO i e hi hz).m:=k_set h
def uS{t:Xt ws}{e:Xe ws}:K0 (xIf t (aT e) xSkip).m:=k_if k_ret k_skip
def wT{it:Xi ws}{i:Nat}{hi:ws.contains i=false}{b:Xd ws}{hz:it.fz=true}(h:i≠0)(hb:K0 b.m):K0 (cW it (xNm i hi) b hz).m:=k_for h hb
end
def kg_2{i j n:Nat}(hi:i≠0)(hj:j≠0)(v:PV):K0 (gTp (gCn (gNm i) (gCn (gNm j) gNl)) n v):=fun σ h=>by
 unfold gTp;split
 ·rename_i xs
  split
  ·match xs with
   | []=>trivial
   | [_]=>trivial
   | a::b::r =>
    show KS σ (gNl r ((σ.set i (some a)).set j (some b)) h);unfold gNl;split
    ·exact KS.of (ku hi) (σ1:=σ.set i (some a)) (ku hj)
    ·trivial
  ·trivial
 ·trivial
def k_asg{m:Mx PV}{g:Mg}(hg:∀v,K0 (g v)):K0 (e9 m g):=qf fun v σ h=>by
 have:=hg v σ h
 cases e:g v σ h with
 | nx σ1 h1=>rw[e] at this;exact this
 | _=>trivial
def k_goG{it:MIt}{g:Mg}{b:Mst}(hg:∀v,K0 (g v))(hb:K0 b):∀xs:List PV,K0 (mGo it g b xs):=by
 intro xs
 induction xs with
 | nil =>
  intro σ h;unfold mGo;split
  ·exact⟨rfl,rfl⟩
  ·trivial
 | cons x r ih =>
  intro σ h;unfold mGo;split
  ·have k0:=hg x σ h
   cases e0:g x σ h with
   | nx σ1 h1 =>
    rw[e0] at k0;have k:=hb σ1 h1;dsimp only
    cases e:b σ1 h1 with
    | nx σ2 h2=>rw[e] at k;exact KS.of k0 (KS.of k (ih σ2 h2))
    | ct σ2 h2=>rw[e] at k;exact KS.of k0 (KS.of k (ih σ2 h2))
    | bk σ2 h2=>rw[e] at k;exact KS.of k0 k
    | _=>trivial
   | _=>trivial
  ·trivial
def kx_for2{ws:List Nat}{it:Xi ws}{i j:Nat}{a:ws.contains i=false}{c:ws.contains j=false}{b:Xd ws}{hz}(hi:i≠0)(hj:j≠0)(hb:K0 b.m):K0 (cW it (xGp (xGc (xNm i a) (xGc (xNm j c) xGl)) 2) b hz).m:=qf fun it=>k_goG (kg_2 hi hj) hb it.xs
def k_body:K0 fN.m:=by
 unfold fN;exact gK (k_asg (kg_2 (by decide) (by decide))) (gK (mq (by decide)) (gK (mq (by decide)) (gK (kx_for2 (by decide) (by decide) (gK (mq (by decide)) (wT (by decide) (gK (mq (by decide)) uS)))) (gK (wT (by decide) uS) uS))))
def dozen{σ:PSt}{x:Option PV}(h:σ.length=12)(h0:σ[0]?=some x):∃a1 r,σ=x::a1::r/\r.length=10:=by
 match σ,h with
 | b0::b1::r,h =>
  cases h0;exact⟨b1,r,rfl,by simpa using h⟩
def turn_m{h:MH}{a b:Int}{z0 z1:Option PV}{r:List (Option PV)}(hr:r.length=9):∃σ' h',fN.m (z0::z1::some (.loc h.length)::r) (h++[.lst [.int a,.int b,.int 0]])=.nx σ' h'/\σ'.length=12/\σ'[0]?=some z0:=by
 have pn:cp (h++[.lst [.int a,.int b,.int 0]]) h.length (a,b,0):=app_0;obtain⟨env',s',q⟩:=body_p (s:=(a,b,0));have c:PU.Cx h.length (h++[.lst [.int a,.int b,.int 0]]) (h++[MO.lst [.int a,.int b,.int 0]]).length [h.length] [h.length] [] (z0::z1::some (.loc h.length)::r) [none,none,some .pen,none,none,none,none,none,none,none,none,none] (a,b,0):=by
  refine⟨fun o ho=>?_,fun _ h=>h,fun o ho=>?_,by simp,qah _,pn,⟨by simp[hr],fun i d e _=>?_,fun i d e hi=>by cases hi⟩⟩
  ·have:o=h.length:=by simpa using ho
   subst this;simp
  ·have:o=h.length:=by simpa using ho
   subst this;simp
  ·match i,e with
   | 0,e=>cases e
   | 1,e=>cases e
   | 2,e=>cases e;exact⟨_,rfl,rfl⟩
   | n+3,e =>
    have:([none,none,none,none,none,none,none,none,none]:av)[n]?=some (some d):=e
    rw[show ([none,none,none,none,none,none,none,none,none]:av)=List.replicate 9 none from rfl,qaV] at this
    split at this <;> cases this
 have k:=fN.ok c fun i j hi _ _ d _ _ e=>by cases hi
 rw[q] at k;obtain⟨σ',h',e,O',_,cx,_⟩:=k;have kk:=k_body (z0::z1::some (.loc h.length)::r) (h++[.lst [.int a,.int b,.int 0]]);rw[e] at kk;exact⟨σ',h',e,kk.1.trans (by simp[hr]),kk.2⟩
def xA:m_law=bq (jq (kJ (aj (mC (.int 2)) mNil)) (gNm 1) (bq (bG 2 (b8 eN (aj (aq 0) (aj (aq 1) mNil)))) fN.m)) (b7 (mC (.bl true))):=rfl
def law_true(ns:List Int)(hn:ns.length<=63):∃h',f_law [.frl (ns.map .int)] []=.ok (.bl true) h':=by
 unfold f_law;rw[kK (by rfl),xA];have e0:bX 12 [PV.frl (ns.map .int)]=[some (.frl (ns.map .int)),none,none,none,none,none,none,none,none,none,none,none]:=rfl;rw[e0];obtain⟨σ',h',e,hσ,hσ0⟩:=tN (it:=⟨bY 0 2,[]⟩) (g:=gNm 1) (b:=bq (bG 2 (b8 eN (aj (aq 0) (aj (aq 1) mNil)))) fN.m)
  (fun j σ h=>σ.length=12/\σ[0]?=some (some (.frl (ns.map .int)))) (bY 0 2) 0 [some (.frl (ns.map .int)),none,none,none,none,none,none,none,none,none,none,none] [] ⟨rfl,rfl⟩ (fun _ _ _ _=>ok_none.mpr trivial) (fun m σ h x ⟨hl,h0⟩ hx=>by
   obtain⟨a1,r,rfl,hr⟩:=dozen hl h0;obtain⟨rfl,hm⟩:=uR hx
   match r,hr with
   | a2::r,hr =>
    obtain⟨a,b,qp⟩:=yK (h:=h) (ns:=ns) (k:=m) (by ext);obtain⟨σ2,h2,e2,k1,k2⟩:=turn_m (h:=h) (a:=a) (b:=b) (z0:=some (.frl (ns.map .int))) (z1:=some (.int (0+(m:Int)))) (r:=r) (by simpa using hr);refine⟨_,_,σ2,h2,rfl,?_,k1,k2⟩;rw[kq];have qp':eN [.frl (ns.map .int),.int (0+(m:Int))] h=.ok (.loc h.length) (h++[.lst [.int a,.int b,.int 0]]):=by
     rw[Int.zero_add];exact qp
    have e1:bG 2 (b8 eN (aj (aq 0) (aj (aq 1) mNil))) (some (.frl (ns.map .int))::some (.int (0+(m:Int)))::a2::r) h=.nx (some (.frl (ns.map .int))::some (.int (0+(m:Int)))::some (.loc h.length)::r) (h++[.lst [.int a,.int b,.int 0]]):=by
     simp -implicitDefEqProofs [qp',-Int.zero_add]
    refine (congrArg (fun z:SOut=>z.then _) e1).trans ?_;rw[MM.au]
    exact e2)
 refine⟨h',?_⟩;have er:kJ (aj (mC (.int 2)) mNil) [some (.frl (ns.map .int)),none,none,none,none,none,none,none,none,none,none,none] []=.ok ⟨bY 0 2,[]⟩ []:=by
  simp -implicitDefEqProofs
 rw[kq,mFor_ap,er,ar,e,MM.au];rfl
end Law
namespace Law
open PySem PySem.Spec PyProof.Rows L2 MM
set_option maxHeartbeats 4000000
def top(i:Nat):Stmt:=PySem.Challenge.pw_fewfills_k18_rings_that_need_more.main.body.getD i (.Pass ⟨0,0,0,0⟩)
local macro_rules | `(tactic| contradiction)=>`(tactic| (first | assumption | (apply w_par2;assumption;(intro env h;cases env;cases h;first | rfl | with_unfolding_all rfl)) | (apply w_sw;assumption;(intro env h;cases env;cases h;first | rfl | with_unfolding_all rfl)) | with_reducible (first | apply w_var | apply w_int | apply w_bl | apply w_str | apply w_non | apply w_nil | apply w_cons | apply w_ix | apply w_call | apply w_lend | apply w_SS | apply w_LS | apply w_isi | apply w_blt | apply w_bin | apply w_cmp | apply w_neg | apply w_notV | apply w_notT | apply w_chain | apply w_one | apply w_andV | apply w_tup | apply w_lst | apply w_dic | apply w_sl | apply w_no | apply w_pt | apply w_comp | apply w_ts0 | apply w_ts1 | apply w_me | apply w_tcmp | apply w_tchain | apply w_tnot | apply w_tw | apply w_and1 | apply w_and | apply w_or1 | apply w_or | apply w_val | apply w_nm | apply w_gl | apply w_gc | apply w_gp | apply w_iE | apply w_iR1 | apply w_iR2 | apply w_itS | apply w_s0 | apply gh | apply eY | apply w_bld | apply w_ret | apply w_retO | apply w_if | apply w_for | apply w_set | apply w_setO | apply w_asg | apply w_me0 | apply w_mt | apply xl | apply xk | apply yi | apply ww | apply w_bad | apply j_Add | apply j_Sub | apply j_Mul | apply j_Pow | apply j_Lt | apply j_Le | apply j_Gt | apply j_Ge | apply j_Eq | apply j_Ne | apply j_In | apply j_Inn | apply b_min | apply b_max | apply b_minS | apply b_maxS | apply b_len | apply b_list | apply b_tuple | apply b_repr | apply b_all | apply yE | apply B_int | apply B_bool | apply B_tuple | apply B_list | apply B_str) | exact rfl | decide +kernel | refine fun Y c=>⟨?_,?_,?_⟩ | (intro _;rfl) | exact fun _ _=>rfl | exact nomark _ | omega | exact⟨⟨rfl,rfl⟩,rfl,rfl,rfl⟩ | with_unfolding_all rfl) <;> contradiction)
abbrev gn:Stmt:=top 1
abbrev gq:Stmt:=top 3
abbrev dX:Stmt:=top 4
abbrev eB:Stmt:=top 6
abbrev kW:Stmt:=top 8
abbrev hV:Stmt:=top 9
abbrev d5:Stmt:=top 10
abbrev fE:Stmt:=top 11
abbrev hZ:Stmt:=top 12
abbrev fJ:Stmt:=top 14
abbrev dY:Stmt:=top 15
abbrev d9:Stmt:=top 16
abbrev dZ:Stmt:=top 17
abbrev jt:Stmt:=top 18
abbrev kC:Stmt:=top 20
abbrev tf:List Str:=["_law_script","_law_k","_law_cell"]
abbrev tw:List Str:=["min","len","abs"]
abbrev P_l_pen:List Str:=["_law_script","_law_k"]
def b_l_pen(hsc:Sc X kC)(g:Gd X tf tw k)(dc:DefCx X)(n0:Nn X "abs")(n6:Nn X "len")(n9:Nn X "min"):MSs X (aI kC) m_l_pen :=
 (MS2.h (m1c (a_1 g 2 (e_1 (aL dW (aL fO aC (kV g 1)) aC)))
 (m1c (s_1 (hX (kTc oj_lt (kV g 1) (kCb g 0 (mL g) n9 jD (aD (kCb g 1 fP n6 fK (aD (kV g 0) aU)) (aD aC aU)))) (MS2.h (m1n (a_1 g 2 (e_1 (kIx (kV g 0) (kV g 1)))))) (MS2.h (m1n (s_1 (hX (kTc uy (kCb g 1 fP n6 fK (aD (kV g 0) aU)) aC) (MS2.h (m1n (a_1 g 2 (e_1 (aL dW (aL dR (kIx (kV g 0) (aL dR (kV g 1) (kCb g 0 (mL g) n9 jD (aD (kCb g 1 fP n6 fK (aD (kV g 0) aU)) (aD aC aU))))) (aL rC aC aC)) (aL fO aC (kV g 1))))))) fv))))))
 (m1c (s_1 (hX (kTc uM (kCb g 2 wm n0 wQ (aD (kV g 2) aU)) (aL rC aC aC)) (MS2.h (m1n (r_1 (l_1 (bf (e_1 aC) (bf (e_1 (kCb g 2 wm n0 wQ (aD (kV g 2) aU))) (bf (e_1 aC) fb))))))) fv))
 (m1n (r_1 (l_1 (bf (e_1 aC) (bf (e_1 (aL dW (aL dR (kV g 2) aC) (aL fO aC (kV g 1)))) (bf (e_1 aC) fb))))))))))
abbrev je:Stmt:=top 21
abbrev pX:List Str:=["_law_pen_here","_law_size","_law_number","_law_drawn"]
abbrev qJ:List Str:=[]
abbrev xj:List Str:=["_law_pen_here","_law_size"]
def xW(hsc:Sc X je)(g:Gd X pX qJ k)(dc:DefCx X):MSs X (aI je) m_l_draw :=
 (MS2.h (m1c (s_1 (ni (aL dW (kIx (kV g 0) aC) aC) (nh (kV g 0) aC)))
 (m1c (s_1 (hX (kTc (oj_eq g.room) (kIx (kV g 0) aC) aC) (MS2.h (m1c (a_1 g 3 (e_1 (aL dR (kIx (kV g 0) aC) (kV g 1))))
 (m1c (s_1 (ni (aL oj_fd (kIx (kV g 0) aC) (kV g 1)) (nh (kV g 0) aC)))
 (m1n (r_1 (e_1 (kV g 3))))))) fv))
 (m1c (a_1 g 2 (e_1 (aL dR (aL fO (aL dW (aL dW (kIx (kV g 0) aC) (aL fO aC (kIx (kV g 0) aC))) aC) aC) aC)))
 (m1c (a_1 g 2 (e_1 (aL dR (aL fO (kV g 2) (aL dW (aL dW (aL dR (kV g 2) aC) (kIx (kV g 0) aC)) aC)) aC)))
 (m1n (r_1 (e_1 (aL dR (aL oj_fd (aL dR (aL fO (kV g 2) (aL dW (aL dR (kV g 2) aC) aC)) aC) aC) (kV g 1))))))))))
abbrev ic:Stmt:=top 22
abbrev jm:Stmt:=top 23
abbrev ie:Stmt:=top 24
abbrev g7:Stmt:=top 25
abbrev fC:Stmt:=top 26
abbrev gv:Stmt:=top 27
abbrev jb:Stmt:=top 28
abbrev kf:Stmt:=top 29
abbrev jc:Stmt:=top 30
abbrev eA:Stmt:=top 31
abbrev nz:Stmt:=top 32
abbrev N_law:List Str:=["_law_script","_law_turn","_law_pen_here","_law_kept","_law_numbers","_law_thing","_law_web_here","_law_ring","_law_k","_law_bare","_law_number","_law_due"]
abbrev G_law:List Str:=["range","_law_pen","_law_web","repr","len","_law_draw","enumerate","_law_near","_law_is_bare","min","_law_told","denies","_law_no_papers"]
abbrev P_law:List Str:=["_law_script"]
def b_law(hsc:Sc X nz)(g:Gd X N_law G_law k)(dc:DefCx X)(c25:Cal X "_law_no_papers" ["_law_ring"] cz.m k)(c13:Cal X "denies" ["web","k","paper"] bc.m k)(c22:Cal X "_law_told" ["_law_found","_law_due"] cN.m k)(c24:Cal X "_law_near" ["_law_pen_here","_law_web_here","_law_ring"] fx.m k)(c20:Cal X "_law_is_bare" ["_law_web_here","_law_thing"] cM.m k)(c15:Cal X "_law_draw" ["_law_pen_here","_law_size"] ck k)(c23:Cal X "_law_web" ["_law_pen_here"] gD.m k)(c14:Cal X "_law_pen" ["_law_script","_law_k"] eN k)(n10:Nn X "range")(n11:Nn X "repr")(n3:Nn X "enumerate")(n9:Nn X "min")(n6:Nn X "len"):MSs X (aI nz) m_law :=
 (MS2.h (m1c (s_1 (jX g (kR1 g 0 n10 (aD aC aU)) (kNm g 1) (MS2.h (m1c (a_1 g 2 (e_1 (kCa g 1 c14 (aD (kV g 0) (aD (kV g 1) aU)))))
 (m1c (s_1 (ni (kCa g 2 c23 (aD (kV g 2) aU)) (mU g (eI (kNm g 6) (eI (kNm g 7) kw)))))
 (m1c (a_1 g 3 (t_1 (bf (e_1 (kCb g 3 (jw g) n11 kZ (aD (kV g 6) aU))) (bf (e_1 (kCb g 3 (jw g) n11 kZ (aD (kV g 7) aU))) fb))))
 (m1c (a_1 g 4 (l_1 (bf (e_1 (aL iL (kCb g 4 fP n6 fK (aD (kV g 7) aU)) aC)) (bf (e_1 (aL iL (kCb g 4 fP n6 fK (aD (kV g 7) aU)) aC)) (bf (e_1 (aL iL (kCb g 4 fP n6 fK (aD (kV g 7) aU)) aC)) (bf (e_1 aC) (bf (e_1 (ur qM aC)) (bf (e_1 (aL iL (ur qM aC) (kCa g 5 c15 (aD (kV g 2) (aD aC aU))))) (bf (e_1 (kCa g 5 c15 (aD (kV g 2) (aD (aL rC aC aC) aU)))) fb)))))))))
 (m1c (s_1 (jX g (kEn g 6 n3 (aD (kCa g 7 c24 (aD (kV g 2) (aD (kV g 6) (aD (kV g 7) aU)))) aU)) (mU g (eI (kNm g 8) (eI (kNm g 5) kw))) (MS2.h (m1c (a_1 g 9 (e_1 (kCa g 8 c20 (aD (kV g 6) (aD (kV g 5) aU)))))
 (m1n (s_1 (jX g (rL (kIx (ME1.h (l_1 (bf (e_1 (kV g 4)) (bf (e_1 (me_sl (kV g 4) (sF aC) sE)) (bf (l_1 (bf (e_1 aC) (bf (e_1 (kIx (kV g 4) aC)) (bf (e_1 (kIx (kV g 4) aC)) fb)))) fb))))) (kCb g 9 (mL g) n9 jD (aD (kV g 8) (aD aC aU))))) (kNm g 10) (MS2.h (m1c (a_1 g 11 (e_1 (pQ (kCm uM (kV g 10) aC) (pQ (kV g 9) (wg (kCm uy (aL iL (kCb g 4 fP n6 fK (aD (kV g 5) aU)) aC) (kV g 10)))))))
 (m1n (s_1 (hX (qS (rf (kCa g 10 c22 (aD (kCa g 11 c13 (aD (kV g 6) (aD (kV g 10) (aD (ME1.h (t_1 (bf (e_1 vD) (bf (e_1 (kV g 5)) fb)))) aU)))) (aD (kV g 11) aU))))) (MS2.h (m1n (r_1 (e_1 k8)))) fv))))))))))))
 (m1c (s_1 (jX g (rL (kCa g 12 c25 (aD (kV g 7) aU))) (kNm g 5) (MS2.h (m1n (s_1 (hX (qS (rf (kCa g 10 c22 (aD (kCa g 11 c13 (aD (kV g 6) (aD aC (aD (kV g 5) aU)))) (aD k8 aU))))) (MS2.h (m1n (r_1 (e_1 k8)))) fv))))))
 (m1n (s_1 (hX (kTc (oj_ne g.room) (ME1.h (t_1 (bf (e_1 (kCb g 3 (jw g) n11 kZ (aD (kV g 6) aU))) (bf (e_1 (kCb g 3 (jw g) n11 kZ (aD (kV g 7) aU))) fb)))) (kV g 3)) (MS2.h (m1n (r_1 (e_1 k8)))) fv))))))))))))
 (m1n (r_1 (e_1 k8)))))
def bi_law:iH "law" nz P_law:=fun _ _ _ _ _ _=>ar1 fun _=>rfl
abbrev jh:List Str:=["thing"]
def uG{K:qaa}(c:Wc X P w K mg base jh jh 0 (am gn))(d:DefCx X)(z5:Zn K "isinstance")(z2:Zn K "bool")(z4:Zn K "int"):MS2 X (aI gn) dH.m:=by unfold dH;apply gh <;> contradiction
abbrev jg:List Str:=["n","thing"]
def uC{K:qaa}(c:Wc X P w K mg base jg jg 1 (am gq))(d:DefCx X)(a0:FnAt P w K mg base "is_whole" Ps0 cD.m 1):MS2 X (aI gq) dI.m:=by unfold dI;apply gh <;> contradiction
abbrev f7:List Str:=["pairs"]
def pz{K:qaa}(c:Wc X P w K mg base f7 f7 0 (am dX))(d:DefCx X)(z13:Zn K "sorted")(z12:Zn K "set")(z8:Zn K "max")(z9:Zn K "min")(z15:Zn K "tuple"):MS2 X (aI dX) c6.m:=by unfold c6;apply gh <;> contradiction
abbrev f9:List Str:=["places","pairs","k","a"]
def pB{K:qaa}(c:Wc X P w K mg base f9 f9 0 (am eB))(d:DefCx X)(z3:Zn K "enumerate"):MS2 X (aI eB) cY.m:=by unfold cY;apply eY <;> contradiction
abbrev nY:List Str:=["ring"]
def h_sides{K:qaa}(c:Wc X P w K mg base nY nY 1 (am kW))(d:DefCx X)(z3:Zn K "enumerate")(a2:FnAt P w K mg base "rising_once" Ps2 bt.m 1):MS2 X (aI kW) iS.m:=by unfold iS;apply gh <;> contradiction
abbrev jG:List Str:=["web","thing"]
def vd{K:qaa}(c:Wc X P w K mg base jG jG 2 (am hV))(d:DefCx X)(z1:Zn K "all")(z6:Zn K "len")(z12:Zn K "set")(z5:Zn K "isinstance")(z7:Zn K "list")(a4:FnAt P w K mg base "sides" Ps4 dC.m 2)(a1:FnAt P w K mg base "is_place" Ps1 cH.m 2):MS2 X (aI hV) dv.m:=by unfold dv;apply eY <;> contradiction
abbrev fZ:List Str:=["ring","beside"]
def pf{K:qaa}(c:Wc X P w K mg base fZ fZ 2 (am d5))(d:DefCx X)(a3:FnAt P w K mg base "pairs_among" Ps3 cC.m 1)(a2:FnAt P w K mg base "rising_once" Ps2 bt.m 1)(a4:FnAt P w K mg base "sides" Ps4 dC.m 2):MS2 X (aI d5) c8.m:=by unfold c8;apply eY <;> contradiction
abbrev iw:List Str:=["web","ring"]
def sd{K:qaa}(c:Wc X P w K mg base iw iw 3 (am fE))(d:DefCx X)(a6:FnAt P w K mg base "pairs_apart" Ps6 bH.m 3):MS2 X (aI fE) dN.m:=by unfold dN;apply gh <;> contradiction
abbrev jH:List Str:=["web","thing"]
def vX{K:qaa}(c:Wc X P w K mg base jH jH 4 (am hZ))(d:DefCx X)(z6:Zn K "len")(a7:FnAt P w K mg base "chords_of" Ps7 dL.m 4)(a5:FnAt P w K mg base "is_ring" Ps5 eM.m 3):MS2 X (aI hZ) eQ.m:=by unfold eQ;apply gh <;> contradiction
abbrev iq:List Str:=["web","pair"]
def rY{K:qaa}(c:Wc X P w K mg base iq iq 1 (am fJ))(d:DefCx X)(z7:Zn K "list")(a2:FnAt P w K mg base "rising_once" Ps2 bt.m 1):MS2 X (aI fJ) iu.m:=by unfold iu;apply gh <;> contradiction
abbrev gk:List Str:=["paper","word","parts"]
def oZ{K:qaa}(c:Wc X P w K mg base gk gk 0 (am dY))(d:DefCx X)(z5:Zn K "isinstance")(z14:Zn K "str")(z6:Zn K "len")(z15:Zn K "tuple"):MS2 X (aI dY) cA.m:=by unfold cA;apply eY <;> contradiction
abbrev gc:List Str:=["web","k","ring"]
def ph{K:qaa}(c:Wc X P w K mg base gc gc 5 (am d9))(d:DefCx X)(z6:Zn K "len")(a8:FnAt P w K mg base "is_bare" Ps8 cT.m 5):MS2 X (aI d9) c5.m:=by unfold c5;apply gh <;> contradiction
abbrev gi:List Str:=["web","k","ring","papers","pairs","pair","paper"]
def o8{K:qaa}(c:Wc X P w K mg base gi gi 5 (am dZ))(d:DefCx X)(z6:Zn K "len")(z5:Zn K "isinstance")(z15:Zn K "tuple")(a6:FnAt P w K mg base "pairs_apart" Ps6 bH.m 3)(a8:FnAt P w K mg base "is_bare" Ps8 cT.m 5):MS2 X (aI dZ) de.m:=by unfold de;apply eY <;> contradiction
abbrev lJ:List Str:=["web","k","paper"]
def yp{K:qaa}(c:Wc X P w K mg base lJ lJ 6 (am jt))(d:DefCx X)(a10:FnAt P w K mg base "begins_with" Ps10 aR.m 1)(a12:FnAt P w K mg base "chords_deny" Ps12 cB.m 6)(a11:FnAt P w K mg base "need_denies" Ps11 cy.m 6)(a0:FnAt P w K mg base "is_whole" Ps0 cD.m 1):MS2 X (aI jt) ft.m:=by unfold ft;apply eY <;> contradiction
abbrev jK:List Str:=["_law_pen_here","_law_n","_law_found","_law_k"]
def vR{K:qaa}(c:Wc X P w K mg base jK jK 1 (am ic))(d:DefCx X)(z10:Zn K "range")(a15:FnAt P w K mg base "_law_draw" Ps15 ck 1):MS2 X (aI ic) fT.m:=by unfold fT;apply eY <;> contradiction
abbrev lH:List Str:=["_law_n","_law_pairs"]
def yw{K:qaa}(c:Wc X P w K mg base lH lH 0 (am jm))(d:DefCx X)(z13:Zn K "sorted")(z12:Zn K "set")(z8:Zn K "max")(z9:Zn K "min")(z15:Zn K "tuple"):MS2 X (aI jm) gJ.m:=by unfold gJ;apply gh <;> contradiction
abbrev jF:List Str:=["_law_ring"]
def vW{K:qaa}(c:Wc X P w K mg base jF jF 0 (am ie))(d:DefCx X)(z10:Zn K "range")(z6:Zn K "len"):MS2 X (aI ie) fV.m:=by unfold fV;apply gh <;> contradiction
abbrev jM:List Str:=["_law_ring","_law_some","_law_j"]
def vJ{K:qaa}(c:Wc X P w K mg base jM jM 0 (am g7))(d:DefCx X)(z8:Zn K "max")(z9:Zn K "min")(z13:Zn K "sorted")(z10:Zn K "range")(z6:Zn K "len"):MS2 X (aI g7) fU.m:=by unfold fU;apply eY <;> contradiction
abbrev ii:List Str:=["_law_web_here","_law_thing","_law_v","_law_j","_law_k","_law_a","_law_b"]
def rQ{K:qaa}(c:Wc X P w K mg base ii ii 0 (am fC))(d:DefCx X)(z10:Zn K "range")(z6:Zn K "len")(z8:Zn K "max")(z9:Zn K "min")(z5:Zn K "isinstance")(z2:Zn K "bool")(z4:Zn K "int")(z7:Zn K "list"):MS2 X (aI fC) dU.m:=by unfold dU;apply eY <;> contradiction
abbrev ji:List Str:=["_law_pen_here","_law_ring","_law_at","_law_found"]
def ue{K:qaa}(c:Wc X P w K mg base ji ji 1 (am gv))(d:DefCx X)(z6:Zn K "len")(a15:FnAt P w K mg base "_law_draw" Ps15 ck 1):MS2 X (aI gv) eT.m:=by unfold eT;apply eY <;> contradiction
abbrev lU:List Str:=["_law_found","_law_due"]
def xw{K:qaa}(c:Wc X P w K mg base lU lU 0 (am jb))(d:DefCx X)(z5:Zn K "isinstance")(z2:Zn K "bool"):MS2 X (aI jb) gO.m:=by unfold gO;apply gh <;> contradiction
abbrev nQ:List Str:=["_law_pen_here","_law_size","_law_n","_law_order_here","_law_ring","_law_pairs","_law_aside","_law_way","_law_k"]
def h_l_web{K:qaa}(c:Wc X P w K mg base nQ nQ 2 (am kf))(d:DefCx X)(z10:Zn K "range")(z6:Zn K "len")(a17:FnAt P w K mg base "_law_made" Ps17 gZ.m 1)(a15:FnAt P w K mg base "_law_draw" Ps15 ck 1)(a19:FnAt P w K mg base "_law_apart" Ps19 fQ.m 1)(a18:FnAt P w K mg base "_law_round" Ps18 fM.m 1)(a16:FnAt P w K mg base "_law_order" Ps16 fS.m 2):MS2 X (aI kf) iI.m:=by unfold iI;apply eY <;> contradiction
abbrev lT:List Str:=["_law_pen_here","_law_web_here","_law_ring","_law_at","_law_other","_law_odd","_law_some"]
def xG{K:qaa}(c:Wc X P w K mg base lT lT 2 (am jc))(d:DefCx X)(z15:Zn K "tuple")(z7:Zn K "list")(z6:Zn K "len")(a21:FnAt P w K mg base "_law_turned" Ps21 eU.m 2)(a15:FnAt P w K mg base "_law_draw" Ps15 ck 1):MS2 X (aI jc) gW.m:=by unfold gW;apply eY <;> contradiction
abbrev gf:List Str:=["_law_ring","_law_some"]
def pA{K:qaa}(c:Wc X P w K mg base gf gf 0 (am eA))(d:DefCx X):MS2 X (aI eA) dh.m:=by unfold dh;apply eY <;> contradiction
def all_fn{K:qaa}(b:Ba P w K mg base)
  (D0:DefAt K "is_whole" gn)
  (D1:DefAt K "is_place" gq)
  (D2:DefAt K "rising_once" dX)
  (D3:DefAt K "pairs_among" eB)
  (D4:DefAt K "sides" kW)
  (D5:DefAt K "is_ring" hV)
  (D6:DefAt K "pairs_apart" d5)
  (D7:DefAt K "chords_of" fE)
  (D8:DefAt K "is_bare" hZ)
  (D9:DefAt K "with_tied" fJ)
  (D10:DefAt K "begins_with" dY)
  (D11:DefAt K "need_denies" d9)
  (D12:DefAt K "chords_deny" dZ)
  (D13:DefAt K "denies" jt)
  (D14:DefAt K "_law_pen" kC)
  (D15:DefAt K "_law_draw" je)
  (D16:DefAt K "_law_order" ic)
  (D17:DefAt K "_law_made" jm)
  (D18:DefAt K "_law_round" ie)
  (D19:DefAt K "_law_apart" g7)
  (D20:DefAt K "_law_is_bare" fC)
  (D21:DefAt K "_law_turned" gv)
  (D22:DefAt K "_law_told" jb)
  (D23:DefAt K "_law_web" kf)
  (D24:DefAt K "_law_near" jc)
  (D25:DefAt K "_law_no_papers" eA)
  (D26:DefAt K "law" nz)
  (z0:Zn K "abs")
  (z1:Zn K "all")
  (z2:Zn K "bool")
  (z3:Zn K "enumerate")
  (z4:Zn K "int")
  (z5:Zn K "isinstance")
  (z6:Zn K "len")
  (z7:Zn K "list")
  (z8:Zn K "max")
  (z9:Zn K "min")
  (z10:Zn K "range")
  (z11:Zn K "repr")
  (z12:Zn K "set")
  (z13:Zn K "sorted")
  (z14:Zn K "str")
  (z15:Zn K "tuple")
   :FnAt P w K mg base "law" P_law f_law 8:=by
 have a0:=fnW (F:=cD) jh b D0 fun X c d=>uG c d z5 z2 z4;have a1:=fnW (F:=cH) jg b D1 fun X c d=>uC c d  a0;have a2:=fnW (F:=bt) f7 b D2 fun X c d=>pz c d z13 z12 z8 z9 z15;have a3:=fnW (F:=cC) f9 b D3 fun X c d=>pB c d z3;have a4:=fnW (F:=dC) nY b D4 fun X c d=>h_sides c d z3 a2;have a5:=fnW (F:=eM) jG b D5 fun X c d=>vd c d z1 z6 z12 z5 z7 a4 a1;have a6:=fnW (F:=bH) fZ b D6 fun X c d=>pf c d  a3 a2 a4;have a7:=fnW (F:=dL) iw b D7 fun X c d=>sd c d  a6;have a8:=fnW (F:=cT) jH b D8 fun X c d=>vX c d z6 a7 a5;have a9:=fnW (F:=rN) iq b D9 fun X c d=>rY c d z7 a2;have a10:=fnW (F:=aR) gk b D10 fun X c d=>oZ c d z5 z14 z6 z15;have a11:=fnW (F:=cy) gc b D11 fun X c d=>ph c d z6 a8;have a12:=fnW (F:=cB) gi b D12 fun X c d=>o8 c d z6 z5 z15 a6 a8;have a13:=fnW (F:=bc) lJ b D13 fun X c d=>yp c d  a10 a12 a11 a0;have a14:=fnN (k:=0) (N:=tf) (G:=tw) (ps:=P_l_pen) b D14 fun X e h g d=>b_l_pen h g d (e.n z0) (e.n z6) (e.n z9);have a15:=fnN (k:=0) (N:=pX) (G:=qJ) (ps:=xj) b D15 fun X e h g d=>xW h g d;have a16:=fnW (F:=fS) jK b D16 fun X c d=>vR c d z10 a15;have a17:=fnW (F:=gZ) lH b D17 fun X c d=>yw c d z13 z12 z8 z9 z15;have a18:=fnW (F:=fM) jF b D18 fun X c d=>vW c d z10 z6;have a19:=fnW (F:=fQ) jM b D19 fun X c d=>vJ c d z8 z9 z13 z10 z6;have a20:=fnW (F:=cM) ii b D20 fun X c d=>rQ c d z10 z6 z8 z9 z5 z2 z4 z7;have a21:=fnW (F:=eU) ji b D21 fun X c d=>ue c d z6 a15;have a22:=fnW (F:=cN) lU b D22 fun X c d=>xw c d z5 z2;have a23:=fnW (F:=gD) nQ b D23 fun X c d=>h_l_web c d z10 z6 a17 a15 a19 a18 a16;have a24:=fnW (F:=fx) lT b D24 fun X c d=>xG c d z15 z7 z6 a21 a15;have a25:=fnW (F:=cz) gf b D25 fun X c d=>pA c d;have a26:=fnN (k:=7) (N:=N_law) (G:=G_law) (ps:=P_law) b D26 fun X e h g d=>b_law h g d (a25.c e) (a13.c e) (a22.c e) (a24.c e) (a20.c e) (a15.c e) (a23.c e) (a14.c e) (e.n z10) (e.n z11) (e.n z3) (e.n z9) (e.n z6);exact a26
end Law
namespace PySem.W.Fast
def tw12324204784368520183:=0
def tw9501343730551910233:=0
def tw10097469418317508303:=0
def tw18314077610458580658:=0
def tw3601205638871590711:=0
def tw17479817613885718933:=0
def tw13035134383956332200:=0
def tw9136601664654602678:=0
def tw6134076429420467354:=0
def tw5877430791417395608:=0
def tw13545383921266362269:=0
def tw17617403669457945981:=0
def tw16456148120681463914:=0
def tw12128202273708453270:=0
def tw11041827255181968876:=0
def tw14048193786365965204:=0
def tw6816228487628588072:=0
def tw14226567313241117819:=0
def tw16699420960181393977:=0
def tw10171688516030379094:=0
def tw9032395994338901371:=0
def tw6313699727743698672:=0
def tw549612437218581601:=0
def tw20524202140774721:=0
def tw4390899132542327673:=0
def tw794221855198103788:=0
def tw9952626889584050575:=0
def tw9677457306004184876:=0
def tw12468875147427921742:=0
def tw3960454566963066435:=0
def tw216391578206944044:=0
def tw12353834091412908999:=0
def tw10164079927629235957:=0
def tw13588533514213238474:=0
def tw8944114867763239949:=0
def tw12832552168667571433:=0
def tw16878049596392769218:=0
def tw14300209812255834224:=0
def tw7244460049648421116:=0
def tw17861930008151732011:=0
def tw1785436506541086152:=0
end PySem.W.Fast
open PySem PySem.W PyProof.Rows
local macro_rules | `(tactic| and_intros) => `(tactic| (dsimp only [L2.KOf]; first | k_is | (refine' MM.defAt_mk ?a ?l ?c ?k; (case a => k_is); (case l => k_is); (case c => k_is); (case k => k_is))))
set_option maxRecDepth 100000 in
set_option maxHeartbeats 0 in
theorem PySem.Challenge.cw_fewfills_k18_rings_that_need_more_holds : PySem.Challenge.rw_fewfills_k18_rings_that_need_more.Holds := by
  w_on; o_law; k_head; (case hw=>w_witness2)
  k_fill
  refine MM.walk_M (l:=PySem.Challenge.rw_fewfills_k18_rings_that_need_more) (k:=8) (x:="_law_script") (F:=Law.f_law) rfl rfl ⟨rfl,by decide,by decide,rfl⟩ (fun w h Y=>PySem.W.kIn_of Y) ?F Law.law_true
  case F=>
    intro w mg fa h KX G hmg
    have Dlaw:MM.DefAt (L2.KOf KX) "law" Law.nz:=by and_intros
    have D0:MM.DefAt (L2.KOf KX) "is_whole" Law.gn:=by and_intros
    have D1:MM.DefAt (L2.KOf KX) "is_place" Law.gq:=by and_intros
    have D2:MM.DefAt (L2.KOf KX) "rising_once" Law.dX:=by and_intros
    have D3:MM.DefAt (L2.KOf KX) "pairs_among" Law.eB:=by and_intros
    have D4:MM.DefAt (L2.KOf KX) "sides" Law.kW:=by and_intros
    have D5:MM.DefAt (L2.KOf KX) "is_ring" Law.hV:=by and_intros
    have D6:MM.DefAt (L2.KOf KX) "pairs_apart" Law.d5:=by and_intros
    have D7:MM.DefAt (L2.KOf KX) "chords_of" Law.fE:=by and_intros
    have D8:MM.DefAt (L2.KOf KX) "is_bare" Law.hZ:=by and_intros
    have D9:MM.DefAt (L2.KOf KX) "with_tied" Law.fJ:=by and_intros
    have D10:MM.DefAt (L2.KOf KX) "begins_with" Law.dY:=by and_intros
    have D11:MM.DefAt (L2.KOf KX) "need_denies" Law.d9:=by and_intros
    have D12:MM.DefAt (L2.KOf KX) "chords_deny" Law.dZ:=by and_intros
    have D13:MM.DefAt (L2.KOf KX) "denies" Law.jt:=by and_intros
    have D14:MM.DefAt (L2.KOf KX) "_law_pen" Law.kC:=by and_intros
    have D15:MM.DefAt (L2.KOf KX) "_law_draw" Law.je:=by and_intros
    have D16:MM.DefAt (L2.KOf KX) "_law_order" Law.ic:=by and_intros
    have D17:MM.DefAt (L2.KOf KX) "_law_made" Law.jm:=by and_intros
    have D18:MM.DefAt (L2.KOf KX) "_law_round" Law.ie:=by and_intros
    have D19:MM.DefAt (L2.KOf KX) "_law_apart" Law.g7:=by and_intros
    have D20:MM.DefAt (L2.KOf KX) "_law_is_bare" Law.fC:=by and_intros
    have D21:MM.DefAt (L2.KOf KX) "_law_turned" Law.gv:=by and_intros
    have D22:MM.DefAt (L2.KOf KX) "_law_told" Law.jb:=by and_intros
    have D23:MM.DefAt (L2.KOf KX) "_law_web" Law.kf:=by and_intros
    have D24:MM.DefAt (L2.KOf KX) "_law_near" Law.jc:=by and_intros
    have D25:MM.DefAt (L2.KOf KX) "_law_no_papers" Law.eA:=by and_intros
    have Z26:PySem.W.nsIn (L2.KOf KX) mainGlobals "abs" = some none:=by and_intros
    have Z27:PySem.W.nsIn (L2.KOf KX) mainGlobals "all" = some none:=by and_intros
    have Z28:PySem.W.nsIn (L2.KOf KX) mainGlobals "bool" = some none:=by and_intros
    have Z29:PySem.W.nsIn (L2.KOf KX) mainGlobals "enumerate" = some none:=by and_intros
    have Z30:PySem.W.nsIn (L2.KOf KX) mainGlobals "int" = some none:=by and_intros
    have Z31:PySem.W.nsIn (L2.KOf KX) mainGlobals "isinstance" = some none:=by and_intros
    have Z32:PySem.W.nsIn (L2.KOf KX) mainGlobals "len" = some none:=by and_intros
    have Z33:PySem.W.nsIn (L2.KOf KX) mainGlobals "list" = some none:=by and_intros
    have Z34:PySem.W.nsIn (L2.KOf KX) mainGlobals "max" = some none:=by and_intros
    have Z35:PySem.W.nsIn (L2.KOf KX) mainGlobals "min" = some none:=by and_intros
    have Z36:PySem.W.nsIn (L2.KOf KX) mainGlobals "range" = some none:=by and_intros
    have Z37:PySem.W.nsIn (L2.KOf KX) mainGlobals "repr" = some none:=by and_intros
    have Z38:PySem.W.nsIn (L2.KOf KX) mainGlobals "set" = some none:=by and_intros
    have Z39:PySem.W.nsIn (L2.KOf KX) mainGlobals "sorted" = some none:=by and_intros
    have Z40:PySem.W.nsIn (L2.KOf KX) mainGlobals "str" = some none:=by and_intros
    have Z41:PySem.W.nsIn (L2.KOf KX) mainGlobals "tuple" = some none:=by and_intros
    exact MM.head_M Dlaw Law.bi_law hmg KX G fun base kb nb=>Law.all_fn ⟨kb,nb⟩ D0 D1 D2 D3 D4 D5 D6 D7 D8 D9 D10 D11 D12 D13 D14 D15 D16 D17 D18 D19 D20 D21 D22 D23 D24 D25 Dlaw Z26 Z27 Z28 Z29 Z30 Z31 Z32 Z33 Z34 Z35 Z36 Z37 Z38 Z39 Z40 Z41
