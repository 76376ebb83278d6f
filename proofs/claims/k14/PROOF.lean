import PyProof.Rows.All
import Wide.All
import OpenK.AllK
import Wide.FinOn
import Lean
import PyProof.EqAt
import PyProof.EqKinds
import PyProof.TupleCall
import PyProof.ReprRoads
import PyProof.FitsInt
import PyProof.FitsBits
import PyProof.Rows.IntMath
import PyProof.ConsumeWalk
import PyProof.WalkInts
import PyProof.ListRange
import PySem.SetTable
import PyProof.SetKind
import PyProof.TupleKey
import PyProof.DictKinds
import PyProof.IsRules
import PyProof.Rows.SetFrom
import PyProof.CollectIter
import PyProof.ForAny
import PyProof.Rows.SortRuns
import PyProof.Rows.SortKey
import KE.KSortTup
import PyProof.ZipIter
import PyProof.Draws
import PyProof.EnumMake
import PyProof.TupleIter
import PyProof.P3Eq
import PyProof.StrCalls2
import PyProof.StrCalls3
import PyProof.FString
import PyProof.SetRoads
import PyProof.Rows.SeqMore
import PyProof.CallFns
import PyProof.StrOps
import PySem.Challenge.RW_fewfills_k14_what_is_a_ring
set_option Elab.async false
set_option bootstrap.genMatcherCode false
set_option compiler.extract_closed false
set_option linter.all false
set_option maxRecDepth 100000
open PySem
abbrev qaa:=@wpAny_bind
abbrev qab:=@Heap.get?_push_of_some
abbrev qac:=@Bool.false_eq_true
abbrev qad:=@PySem.W.Frag
abbrev qae:=@List.getElem?_eq_some_iff
abbrev qaf:=@if_pos
abbrev qag:=@Nat.le_refl
abbrev qah:=@wpAny_pure
abbrev qai:=@List.mem_cons_of_mem
abbrev qaj:=@List.size_toArray
abbrev qak:=@if_neg
abbrev qal:=@List.mem_append_right
abbrev qam:=@List.getElem?_append_left
abbrev qan:=@List.getElem?_set_ne
abbrev qao:=@List.getElem?_map
abbrev qap:=@Heap.get?_push_size
abbrev qaq:=@Heap.lt_size
abbrev qar:=@List.mem_cons
abbrev qas:=@List.getElem?_eq_getElem
abbrev qat:=@List.length_map
abbrev qau:=@List.mem_append
abbrev qav:=@Option.map_eq_some_iff
abbrev qaw:=@Array.getElem?_toList
abbrev qax:=@List.mem_map
abbrev qay:=@List.length_append
abbrev qaz:=@Array.length_toList
abbrev qaA:=@List.getElem?_append_right
abbrev qaB:=@List.mem_iff_getElem?
abbrev qaC:=@Nat.lt_of_lt_of_le
abbrev qaD:=@Nat.le_trans
abbrev qaE:=@List.length_cons
abbrev qaF:=@List.getElem?_set_self
abbrev qaG:=@List.map_cons
abbrev qaH:=@List.mem_append_left
abbrev qaI:=@List.mem_of_getElem?
abbrev qaJ:=@List.set_cons_succ
abbrev qaK:=@Nat.ne_of_lt
abbrev qaL:=@List.mem_cons_self
abbrev qaM:=@List.set_cons_zero
abbrev qaN:=@List.getElem?_eq_none
abbrev qaO:=@Option.bind_eq_some_iff
abbrev qaP:=@Nat.zero_le
abbrev qaQ:=@Int.toNat_natCast
abbrev qaR:=@List.extract_eq_take_drop
abbrev qaS:=@Bool.not_true
abbrev qaT:=@Option.bind_some
abbrev qaU:=@Nat.zero_add
abbrev qaV:=@List.append_assoc
abbrev qaW:=@List.lookup_cons
abbrev qaX:=@Bool.false_ne_true
abbrev qaY:=@List.mem_range
abbrev qaZ:=@List.drop_eq_nil_of_le
abbrev qba:=@List.length_nil
abbrev qbb:=@Array.toList_append
abbrev qbc:=@Heap.size_push
abbrev qbd:=@Nat.ne_of_gt
abbrev qbe:=@Nat.lt_irrefl
abbrev qbf:=@List.replicate_succ
abbrev qbg:=@List.length_drop
abbrev qbh:=@Array.toList_push
abbrev qbi:=@Array.getElem?_eq_some_iff
abbrev qbj:=@List.map_map
abbrev qbk:=@List.take_of_length_le
abbrev qbl:=@List.mem_filter
abbrev qbm:=@Array.getElem?_eq_getElem
abbrev qbn:=@List.not_mem_nil
abbrev qbo:=@Array.toList_inj
abbrev qbp:=@List.getElem?_toArray
abbrev qbq:=@List.take_append_drop
abbrev qbr:=@List.mem_filterMap
abbrev qbs:=@List.getElem?_replicate
abbrev qbt:=@List.flatten_cons
abbrev qbu:=@List.ext_getElem?
abbrev qbv:=@List.pairwise_iff_getElem
abbrev qbw:=@Bool.beq_eq_decide_eq
abbrev qbx:=@Array.size_push
abbrev qby:=@List.getElem?_take_of_lt
abbrev qbz:=@List.pairwise_cons
abbrev qbA:=@List.filter_cons
abbrev qbB:=@List.mem_of_mem_drop
abbrev qbC:=@List.getElem?_cons_succ
abbrev qbD:=@List.length_eq_zero_iff
abbrev qbE:=@List.filterMap_cons
abbrev qbF:=@Array.getElem?_eq_none
abbrev qbG:=@Array.getElem?_extract
abbrev qbH:=@List.all_eq_true
abbrev qbI:=@List.length_replicate
abbrev qbJ:=@Heap.get?_update_self
abbrev qbK:=@Array.toList_extract
abbrev qbL:=@List.nodup_cons
abbrev qbM:=@Option.map_some
abbrev qbN:=@Nat.lt_succ_of_lt
abbrev qbO:=@Bool.not_eq_true'
abbrev qbP:=@List.reverse_cons
abbrev qbQ:=@Heap.get?_update_ne
abbrev qbR:=@List.length_take
abbrev qbS:=@Bool.and_eq_true
abbrev qbT:=@List.perm_middle
abbrev qbU:=@List.take_succ
abbrev qbV:=@Heap.get?_update_other
abbrev qbW:=@Array.getElem?_setIfInBounds
abbrev qbX:=@List.getElem?_drop
abbrev qbY:=@List.nodup_append
abbrev qbZ:=@Array.size_append
abbrev qca:=@List.pairwise_map
abbrev qcb:=@Array.getElem?_eq_none_iff
abbrev qcc:=@Array.perm_iff_toList_perm
abbrev qcd:=@Int.fmod_eq_emod_of_nonneg
abbrev qce:=@Nat.lt_succ_self
abbrev qcf:=@List.mem_flatMap
abbrev qcg:=@List.getElem_mem
abbrev qch:=@List.getElem?_range
abbrev qci:=@List.getElem_of_mem
abbrev qcj:=@Nat.le_of_lt
abbrev qck:=@List.append_nil
abbrev qcl:=@List.pairwise_filterMap
abbrev qcm:=@List.range_succ
abbrev qcn:=@List.range_succ_eq_map
abbrev qco:=@List.pairwise_lt_range
abbrev qcp:=@List.getElem?_inj
abbrev qcq:=@Bool.not_false
abbrev qcr:=@List.take_length
abbrev qcs:=@List.pairwise_append
abbrev qct:=@Array.toList_reverse
abbrev qcu:=@List.mem_of_mem_take
abbrev qcv:=@List.getElem?_zipIdx
abbrev qcw:=@List.foldl_cons
abbrev qcx:=@List.map_congr_left
abbrev qcy:=@List.map_append
abbrev qcz:=@List.perm_append_singleton
abbrev qcA:=@List.map_nil
abbrev qcB:=@Int.emod_lt_of_pos
abbrev qcC:=@Bool.not_eq_false'
abbrev qcD:=@Int.lt_or_gt_of_ne
abbrev qcE:=@List.drop_eq_getElem_cons
abbrev qcF:=@List.getElem?_zip_eq_some
abbrev qcG:=@List.getElem_drop
abbrev qcH:=@List.any_cons
abbrev qcI:=@Nat.le_succ
abbrev qcJ:=@List.pairwise_mergeSort
abbrev qcK:=@List.nodup_range
abbrev qcL:=@Nat.le_add_right
abbrev qcM:=@List.zipIdx_cons
abbrev qcN:=@List.countP_cons
abbrev qcO:=@List.any_eq_true
abbrev qcP:=@List.getElem_cons_drop
abbrev qcQ:=@List.filter_eq_nil_iff
abbrev qcR:=@List.of_mem_zip
abbrev qcS:=@Nat.lt_trans
abbrev qcT:=@List.forIn_cons
abbrev qcU:=@List.set_append_right
abbrev qcV:=@List.all_map
abbrev qcW:=@Int.emod_nonneg
abbrev qcX:=@List.perm_append_comm
abbrev qcY:=@Nat.min_eq_left
abbrev qcZ:=@Bool.eq_iff_iff
abbrev qda:=@List.length_filter_le
abbrev qdb:=@List.count_cons
abbrev qdc:=@Bool.and_false
abbrev qdd:=@List.nodup_nil
abbrev qde:=@List.forIn_nil
abbrev qdf:=@Int.ediv_one
noncomputable section
local macro_rules | `(tactic| ext) => `(tactic| omega)
namespace L2
open PySem PySem.Spec PyProof.Rows
abbrev Key:=Sum Int Str
def keyIs:Key->Value->Bool
 | .inl k,v=>Value.isInt k v
 | .inr x,v=>Value.isStrOf x v
def keyH(w:World):Key->Int
 | .inl k=>hashInt k
 | .inr x=>hashStr w x
def b7:∀{k:Key} {v:Value},keyIs k v=true->(∃i t,k=Sum.inl i/\v=Value.int i t)\/(∃x t,k=Sum.inr x/\v=Value.str x t)
 | .inl i,v,h=>by
  obtain⟨t,e⟩:=Value.isInt_shape (k:=i) (v:=v) h;exact .inl ⟨i,t,rfl,e⟩
 | .inr x,v,h=>by
  obtain⟨t,e⟩:=Value.isStrOf_shape (x:=x) (v:=v) h;exact .inr ⟨x,t,rfl,e⟩
def key_ll(a b:Int):decide ((Sum.inl a:Key)=Sum.inl b)=(a == b):=by
 by_cases e:a=b
 ·subst e;simp
 ·have h:¬(Sum.inl a:Key)=Sum.inl b:=fun q=>e (Sum.inl.inj q);rw[decide_eq_false h];exact (beq_eq_false_iff_ne.mpr e).symm
def key_rr(a b:Str):decide ((Sum.inr a:Key)=Sum.inr b)=decide (a=b):=by
 by_cases e:a=b
 ·subst e;simp
 ·have h:¬(Sum.inr a:Key)=Sum.inr b:=fun q=>e (Sum.inr.inj q);rw[decide_eq_false h,decide_eq_false e]
def key_lr(a:Int)(b:Str):decide ((Sum.inl a:Key)=Sum.inr b)=false:=decide_eq_false (fun q=>nomatch q)
def key_rl(a:Str)(b:Int):decide ((Sum.inr a:Key)=Sum.inl b)=false:=decide_eq_false (fun q=>nomatch q)
def oG(prog:Program)(w:World):PySem.KeyKind prog w Key where
 is:=keyIs
 hash:=keyH w
 inj:=fun v a b ha hb=>by
  rcases b7 ha with ⟨i,t,rfl,rfl⟩|⟨x,t,rfl,rfl⟩
  ·rcases b7 hb with ⟨j,u,rfl,e⟩|⟨y,u,rfl,e⟩
   ·injection e with e1 _;rw[e1]
   ·exact nomatch e
  ·rcases b7 hb with ⟨j,u,rfl,e⟩|⟨y,u,rfl,e⟩
   ·exact nomatch e
   ·injection e with e1 _;rw[e1]
 byValue:=fun k v h=>by
  rcases b7 h with ⟨i,t,rfl,rfl⟩|⟨x,t,rfl,rfl⟩ <;> rfl
 pyHash:=fun hv h=>by
  rcases b7 hv with ⟨i,t,rfl,rfl⟩|⟨x,t,rfl,rfl⟩
  ·exact wpAny_pyHash_int h
  ·exact wpAny_pyHash_str h
 eqBool:=fun hu hv h=>by
  rcases b7 hu with ⟨i,t,rfl,rfl⟩|⟨x,t,rfl,rfl⟩
  ·rcases b7 hv with ⟨j,u,rfl,rfl⟩|⟨y,u,rfl,rfl⟩
   ·rw[key_ll] at h;exact wpAny_eqBool_int h
   ·rw[key_lr] at h;exact SeqAt.EqAt.int_str i t y u _ _ _ _ h
  ·rcases b7 hv with ⟨j,u,rfl,rfl⟩|⟨y,u,rfl,rfl⟩
   ·rw[key_rl] at h;exact SeqAt.EqAt.str_int x t j u _ _ _ _ h
   ·rw[key_rr] at h;exact wpAny_eqBool_str h
 «strs»:=fun k x t v h=>by
  rcases b7 h with ⟨i,u,rfl,e⟩|⟨y,u,rfl,e⟩
  ·exact nomatch e
  ·injection e with e1 _
   subst e1;cases v <;> rfl
inductive V where
 | non | bl (b:Bool) | int (i:Int) | str (x:Str) | byt (b:Array UInt8) | flt (b:UInt64) | ref (a:Addr) | ty (n:String)
 deriving DecidableEq
def bh:V->Value->Prop
 | .non,u=>u=Value.none
 | .bl b,u=>u=Value.bool b
 | .int i,u=>∃t,u=Value.int i t
 | .str x,u=>∃t,u=Value.str x t
 | .byt b,u=>∃t,u=Value.bytes b t
 | .flt b,u=>∃t,u=Value.float b t
 | .ref a,u=>u=Value.ref a
 | .ty n,u=>u=Value.type n
abbrev az:List V->List Value->Prop:=Paired bh
def az.length(r:az xs us):xs.length=us.length:=Paired.length r
def az.get{xs:List V}{us:List Value}{i:Nat}{x:V}(r:az xs us)(e:xs[i]?=some x):∃u,us[i]?=some u/\bh x u:=by
 induction r generalizing i with
 | nil=>cases e
 | cons r t ih =>
  cases i with
  | zero=>cases e;exact⟨_,rfl,r⟩
  | succ i=>have z:=@ih i e;exact z
def az.set(r:bh x u)(i:Nat)(q:az xs us):az (xs.set i x) (us.set i u):=by
 induction q generalizing i with
 | nil=>exact .nil
 | cons a t ih =>
  cases i with
  | zero=>exact .cons r t
  | succ i=>exact .cons a (ih i)
def az.append(r:az xs us)(s:az ys ws):az (xs++ys) (us++ws):=by
 induction r with
 | nil=>exact s
 | cons r t ih=>exact .cons r ih
def az.take(n:Nat)(r:az xs us):az (xs.take n) (us.take n):=by
 induction r generalizing n with
 | nil=>cases n <;> exact .nil
 | cons a t ih =>
  cases n with
  | zero=>exact .nil
  | succ n=>exact .cons a (ih n)
def az.drop(n:Nat)(r:az xs us):az (xs.drop n) (us.drop n):=by
 induction r generalizing n with
 | nil=>cases n <;> exact .nil
 | cons a t ih =>
  cases n with
  | zero=>exact .cons a t
  | succ n=>exact ih n
def RelO:Option V->Option Value->Prop
 | some v,some u=>bh v u
 | none,none=>True
 | _,_=>False
def KV{κ:Type}:List (κ × V)->List (κ × Value)->Prop:=Paired fun (p:κ × V) (q:κ × Value)=>p.1=q.1/\bh p.2 q.2
def kV:Key->V
 | .inl i=>.int i
 | .inr x=>.str x
inductive HO where
 | lst (xs:List V)
 | tup (xs:List V)
 | dK (kvs:List (Key × V)) | dT (kvs:List (List Key × V))
 | set (S:Int->Bool) (n:Nat)
 | ins (C dx:Addr) (fs:List (Str × V))
 | own (x:Addr)
 | xd (fs:List (Str × V))
 | met (f x:Addr)
 | rng (lo hi:Int)
 | frz (o:Obj) (u:HO)
 | tbl (ps:Array Value)
 | ext (φ:Heap->Prop)
abbrev Hp:=Addr->Option HO
def upd(H:Hp)(a:Addr)(o:HO):Hp:=fun b=>if b=a then some o else H b
def bZ:upd H a o a=some o:=by unfold upd;rw[qaf rfl]
def br(h:b≠a):upd H a o b=H b:=by unfold upd;rw[qak h]
def bT{H:Hp}{a b:Addr}{o:HO}(h:H a=some o)(h':H b=none):a≠b:=by
 intro e;subst e;rw[h] at h';cases h'
def gH(h:Heap)(a:Addr)(its:Array Value):Prop:=∃o,h.get? a=some o/\o.cls=.type "tuple"/\(∃n,o.data=.seq its n)/\o.dict=none
def gH.tup(t:gH h a its):IsTup h a its:=let ⟨o,e,c,d,_⟩:=t;⟨o,e,c,d⟩
def gH.lt(t:gH h a its):a<h.objs.size:=t.tup.lt
def gH.new(h:Heap)(its:Array Value):gH (h.push { cls:=.type "tuple",data:=.seq its}) h.objs.size its:=⟨_,qap h rfl,rfl,⟨_,rfl⟩,rfl⟩
section
variable (P:Program) (w:World)
def ObjOk(H:Hp)(h:Heap)(a:Addr):HO->Prop
 | .lst xs=>xs.length<=sizeLine/\∃(its:List Value) (n:Nat),az xs its/\h.get? a=some { cls:=.type "list",data:=.seq its.toArray n}
 | .tup xs=>xs.length<=sizeLine/\∃its:List Value,az xs its/\gH h a its.toArray
 | .dK kvs=>kvs.length<=sizeLine/\(a == sysModules)=false/\∃vs,KV kvs vs/\h.DictOf (oG P w) a vs
 | .dT kvs=>kvs.length<=sizeLine/\(a == sysModules)=false/\∃xs:List (List Key × Addr × Value),
   Paired (fun (p:List Key × V) (q:List Key × Addr × Value)=>p.1=q.1/\H q.2.1=some (.tup (p.1.map kV))/\bh p.2 q.2.2) kvs xs /\
   ∃o es ep,h.get? a=some o/\o.ExactDict/\o.data=.dict es ep/\es.toList=xs.map (entryOfKey (tupleKind (oG P w)))/\(xs.map (·.1)).Nodup
 | .set S n=>h.SetOf (intKind P w) a S n
 | .ins C dx fs=>H dx=some (.own a)/\fs.length<=1000/\dx≠a/\h.get? a=some (PySem.W.instObj C dx) /\
   ∃mA,h.Ns1 dx mA/\(∀f,RelO (fs.lookup f) (mA f))/\PySem.Within mA (fs.map (·.1))
 | .own _=>∃o,h.get? a=some o
 | .xd fs=>∃mA,h.Ns1 a mA/\∀f,RelO (fs.lookup f) (mA f)
 | .rng lo hi=>∃t u v,h.get? a=some { cls:=.type "range",data:=.fields #[.int lo t,.int hi u,.int 1 v]}
 | .frz o u=>h.get? a=some o/\ObjOk H h a u
 | .tbl ps=>h.get? a=some { cls:=.none,data:=.fields ps}
 | .met f x=>h.get? a=some (PySem.W.methodObj (.ref f) (.ref x))
 | .ext φ=>φ h/\(∃o,h.get? a=some o)/\∀h1 h2:Heap,φ h1->(∀o,h1.get? a=some o->h2.get? a=some o)->φ h2
def HOk(H:Hp)(h:Heap):Prop:=∀a o,H a=some o->ObjOk P w H h a o
end
section
variable {P:Program} {w:World} {H H':Hp} {h h':Heap} {a:Addr} {o:HO}
def ObjOk.lt(x:ObjOk P w H h a o):a<h.objs.size:=by
 cases o with
 | lst xs=>obtain⟨_,_,_,_,e⟩:=x;exact qaq e
 | tup xs=>obtain⟨_,_,_,p⟩:=x;exact p.lt
 | dK kvs=>obtain⟨_,_,_,_,o,_,_,e,_⟩:=x;exact qaq e
 | dT kvs=>obtain⟨_,_,_,_,o,_,_,e,_⟩:=x;exact qaq e
 | set S n=>obtain⟨o,_,_,_,e,_⟩:=x;exact qaq e
 | ins C dx fs=>obtain⟨_,_,_,e,_⟩:=x;exact qaq e
 | own y=>obtain⟨_,e⟩:=x;exact qaq e
 | xd fs=>obtain⟨_,⟨_,_,_,e,_⟩,_⟩:=x;exact qaq e
 | rng lo hi=>obtain⟨_,_,_,e⟩:=x;exact qaq e
 | frz ob u=>obtain⟨e,_⟩:=x;exact qaq e
 | tbl ps=>exact qaq (show h.get? a=some _ from x)
 | met f y=>exact qaq (show h.get? a=some _ from x)
 | ext φ=>obtain⟨_,⟨_,e⟩,_⟩:=x;exact qaq e
def Paired.mapP{α β:Type}{F G:α->β->Prop}{l₁:List α}{l₂:List β}(r:Paired F l₁ l₂)(f:∀a b,F a b->G a b):Paired G l₁ l₂:=by
 induction r with
 | nil=>exact .nil
 | cons r t ih=>exact .cons (f _ _ r) ih
def ObjOk.stay(x:ObjOk P w H h a o)(k:∀b u,(b=a\/H b=some (.own a))->h.get? b=some u->h'.get? b=some u)
  (ho:∀b,H b=some (.own a)->H' b=some (.own a)) (ht:∀b xs,H b=some (.tup xs)->H' b=some (.tup xs)):ObjOk P w H' h' a o:=by
 induction o with
 | lst xs=>obtain⟨z,its,n,r,e⟩:=x;exact⟨z,its,n,r,k _ _ (.inl rfl) e⟩
 | tup xs=>obtain⟨z,its,r,ob,e,c⟩:=x;exact⟨z,its,r,ob,k _ _ (.inl rfl) e,c⟩
 | dK kvs=>obtain⟨z,y,vs,r,ob,es,ep,e,c⟩:=x;exact⟨z,y,vs,r,ob,es,ep,k _ _ (.inl rfl) e,c⟩
 | dT kvs =>
  obtain⟨z,y,xs,r,ob,es,ep,e,c⟩:=x;exact⟨z,y,xs,Paired.mapP r fun p q z=>⟨z.1,ht _ _ z.2.1,z.2.2⟩,ob,es,ep,k _ _ (.inl rfl) e,c⟩
 | set S n=>obtain⟨ob,es,ep,t,e,c⟩:=x;exact⟨ob,es,ep,t,k _ _ (.inl rfl) e,c⟩
 | ins C dx fs =>
  obtain⟨d,z,ne,e,mA,⟨od,es,ep,e2,c⟩,r⟩:=x;exact⟨ho _ d,z,ne,k _ _ (.inl rfl) e,mA,⟨od,es,ep,k _ _ (.inr d) e2,c⟩,r⟩
 | own y=>obtain⟨ob,e⟩:=x;exact⟨ob,k _ _ (.inl rfl) e⟩
 | xd fs=>obtain⟨mA,⟨od,es,ep,e,c⟩,r⟩:=x;exact⟨mA,⟨od,es,ep,k _ _ (.inl rfl) e,c⟩,r⟩
 | rng lo hi=>obtain⟨t,u,v,e⟩:=x;exact⟨t,u,v,k _ _ (.inl rfl) e⟩
 | frz ob u ih=>obtain⟨e,q⟩:=x;exact⟨k _ _ (.inl rfl) e,ih q⟩
 | tbl ps =>
  have e:h.get? a=some { cls:=.none,data:=.fields ps}:=x;show h'.get? a=some { cls:=.none,data:=.fields ps};exact k a _ (.inl rfl) e
 | met f y =>
  have e:h.get? a=some (PySem.W.methodObj (.ref f) (.ref y)):=x;show h'.get? a=some (PySem.W.methodObj (.ref f) (.ref y));exact k a _ (.inl rfl) e
 | ext φ=>obtain⟨p,⟨o,e⟩,st⟩:=x;exact⟨st _ _ p fun o q=>k _ _ (.inl rfl) q,⟨o,k _ _ (.inl rfl) e⟩,st⟩
def HOk.lt(x:HOk P w H h)(e:H a=some o):a<h.objs.size:=(x a o e).lt
def HOk.fresh(x:HOk P w H h)(e:h.objs.size<=a):H a=none:=by
 cases q:H a with
 | none=>rfl
 | some u=>exact absurd (qaC (x.lt q) e) (qbe _)
def HOk.kept(x:HOk P w H h)(k:∀b u,h.get? b=some u->h'.get? b=some u):HOk P w H h':=fun a o e =>
 (x a o e).stay (fun b u _ q=>k b u q) (fun _ q=>q) fun _ _ q=>q
def HOk.laid(x:HOk P w H h)(k:∀b u,h.get? b=some u->h'.get? b=some u)(hp:h.objs.size<=a)(new:ObjOk P w (upd H a o) h' a o):HOk P w (upd H a o) h':=fun b u e=>by
 have hn:=x.fresh hp;by_cases hb:b=a
 ·subst hb;rw[bZ] at e;cases e;exact new
 ·rw[br hb] at e;exact (x b u e).stay (fun c v _ q=>k c v q) (fun c q=>by rw[br (bT q hn)];exact q) fun c xs q=>by rw[br (bT q hn)];exact q
end
def Rd(H:Hp)(a:Addr)(u:HO):Prop:=H a=some u\/∃o,H a=some (.frz o u)
def Rd.ok(r:Rd H a u)(x:HOk P w H h):ObjOk P w H h a u:=by
 rcases r with r|⟨o,r⟩
 ·exact x a u r
 ·obtain⟨_,q⟩:=x a _ r;exact q
def Mut:Option HO->Prop
 | some (.lst _)=>True
 | some (.dK _)=>True
 | some (.dT _)=>True
 | some (.set _ _)=>True
 | some (.ins _ _ _)=>True
 | some (.ext _)=>True
 | _=>False
section
variable {P:Program} {w:World} {H:Hp} {h h':Heap} {x e:Addr} {o':HO}
def HOk.write(ok:HOk P w H h)(mu:Mut (H x))(he:e=x\/H e=some (.own x))(k:∀b u,b≠e->h.get? b=some u->h'.get? b=some u)(heo:∃u,h'.get? e=some u)
  (new:ObjOk P w (upd H x o') h' x o'):HOk P w (upd H x o') h':=fun b u q=>by
 have nown:∀c y,H c=some (.own y)->c≠x:=fun c y r z=>by subst z;rw[r] at mu;exact mu
 have ntup:∀c xs,H c=some (.tup xs)->c≠x:=fun c xs r z=>by subst z;rw[r] at mu;exact mu
 by_cases hb:b=x
 ·subst hb;rw[bZ] at q;cases q;exact new
 ·rw[br hb] at q;by_cases hbe:b=e
  ·have q':H b=some (.own x):=by
    rcases he with z|z
    ·exact absurd (hbe.trans z) hb
    ·rw[hbe];exact z
   rw[q] at q';cases q';obtain⟨v,hv⟩:=heo;exact⟨v,by rw[hbe];exact hv⟩
  ·refine (ok b u q).stay (fun c v hc r=>k c v ?_ r) (fun c r=>by rw[br (nown c b r)];exact r) fun c xs r=>by rw[br (ntup c xs r)];exact r
   rcases hc with rfl|hc
   ·exact hbe
   ·rintro rfl;rcases he with z|z
    ·exact nown c b hc z
    ·rw[hc] at z;cases z;exact hb rfl
end
structure Un (fs ex:List Addr) (H H':Hp) (h h':Heap):Prop where
 keep:∀b o,h.get? b=some o->H b=none->b∉fs->b∉ex->h'.get? b=some o
 slot:∀b o,h.get? b=some o->H b=none->b∈fs->b∉ex->∃sl,h'.get? b=some { o with slots:=sl}
 free:∀b o,h.get? b=some o->H b=none->b∉ex->H' b=none
 there:∀b o,h.get? b=some o->b∉ex->∃o',h'.get? b=some o'
 tups:∀b xs,H b=some (.tup xs)->H' b=some (.tup xs)
 frzs:∀b o u,H b=some (.frz o u)->H' b=some (.frz o u)
 tbls:∀b ps,H b=some (.tbl ps)->∃more,H' b=some (.tbl (ps++more))
section
variable {fs fs' ex ex':List Addr} {H H1 H2:Hp} {h h1 h2 h':Heap} {a x e:Addr} {o:HO}
def Un.any(u:Un fs ex H H1 h h1)(q:h.get? b=some ob)(n:H b=none)(hx:b∉ex):∃sl,h1.get? b=some { ob with slots:=sl}:=by
 by_cases hb:b∈fs
 ·exact u.slot b ob q n hb hx
 ·exact⟨ob.slots,u.keep b ob q n hb hx⟩
def Un.kept(k:∀b u,h.get? b=some u->h'.get? b=some u):Un fs ex H H h h' :=
 ⟨fun b ob q _ _ _=>k b ob q,fun b ob q _ _ _=>⟨ob.slots,k b ob q⟩,fun _ _ _ n _=>n,fun b ob q _=>⟨ob,k b ob q⟩,fun _ _ q=>q,fun _ _ _ q=>q,fun _ ps q=>⟨#[],by rw[q];simp⟩⟩
def Un.refl:Un fs ex H H h h:=Un.kept fun _ _ q=>q
def Un.laid(k:∀b u,h.get? b=some u->h'.get? b=some u)(hp:h.objs.size<=a)(hn:H a=none):Un fs ex H (upd H a o) h h' where
 keep:=fun b u q _ _ _=>k b u q
 slot:=fun b u q _ _ _=>⟨u.slots,k b u q⟩
 free:=fun b u q n _=>by rw[br (qaK (qaC (qaq q) hp))];exact n
 there:=fun b u q _=>⟨u,k b u q⟩
 tups:=fun b xs q=>by rw[br (bT q hn)];exact q
 frzs:=fun b u xs q=>by rw[br (bT q hn)];exact q
 tbls:=fun b ps q=>⟨#[],by rw[br (bT q hn),q];simp⟩
def Un.write(mu:Mut (H x))(he:e=x\/H e=some (.own x))(k:∀b u,b≠e->h.get? b=some u->h'.get? b=some u)(heo:∃u,h'.get? e=some u):Un fs ex H (upd H x o) h h':=by
 have hx:∀b,H b=none->b≠x:=fun b n z=>by subst z;rw[n] at mu;exact mu
 have hb:∀b,H b=none->b≠e:=fun b n z=>by
  subst z;rcases he with r|r
  ·exact hx b n r
  ·rw[n] at r;cases r
 have hm:∀b u,H b=some u->¬Mut (some u)->b≠x:=fun b u q nm z=>by subst z;rw[q] at mu;exact nm mu
 refine⟨fun b u q n _ _=>k b u (hb b n) q,fun b u q n _ _=>⟨u.slots,k b u (hb b n) q⟩,fun b u q n _=>by rw[br (hx b n)];exact n,fun b u q _=>?_,
  fun b xs q=>by rw[br (hm b _ q fun z=>z)];exact q,fun b u xs q=>by rw[br (hm b _ q fun z=>z)];exact q,fun b ps q=>⟨#[],by rw[br (hm b _ q fun z=>z),q];simp⟩⟩
 by_cases hbe:b=e
 ·subst hbe;exact heo
 ·exact⟨u,k b u hbe q⟩
end
def trk(h:Heap)(H:Hp):List Addr:=(List.range h.objs.size).filter fun a=>(H a).isSome
def jh(h:Heap)(H:Hp):Heap:=PySem.W.hideAll h (trk h H)
def yr(h:Heap)(H:Hp):(jh h H).objs.size=h.objs.size:=PySem.W.hideAll_size _ _
def zX(e:h.get? b=some o)(n:H b=none):(jh h H).get? b=some o :=
 PySem.W.hideAll_get _ e fun hm=>by
  have q:(H b).isSome=true:=(qbl.mp hm).2;rw[n] at q;simp at q
def of_hidT(e:(jh h H).get? b=some o):h.get? b=some o/\H b=none:=by
 have e':h.get? b=some o:=PySem.W.of_hideAll (trk h H) e;refine⟨e',?_⟩
 cases q:H b with
 | none=>rfl
 | some x =>
  have hm:b∈trk h H:=qbl.mpr ⟨qaY.mpr (qaq e'),by simp[q]⟩;have z:(jh h H).get? b=none:=PySem.W.hideAll_none (trk h H) hm;rw[z] at e;cases e
structure Mod (K:qad) (mg:Str->Option Value) (base:Heap):Prop where
 kin:K.In base
 glob:base.Ns mainGlobals mg
 blt:∃mb,base.Ns builtinsNs mb/\∀x:Str,x≠"__name__"->mb x=bootBuiltins x
 nolimit:base.NoLimit
structure Cx where
 prog:Program
 w:World
 K:qad
 mg:Str->Option Value
 base:Heap
 A:Around
 N:List Str
 s₀:Shared
 H₀:Hp
 env:Env
 outer:List Env
 stack:List Env
 ex:List Addr
 fn:Str->Bool
 calm:Bool
 pn:List (Addr × Obj)
 xe:Value->Shared->Prop
def frs(l:List Env):List Addr:=l.filterMap (·.frame)
abbrev Cx.fs(X:Cx):List Addr:=frs X.outer
def Vis(sc:Scope)(x:Str):Prop:=sc.names.lookup x=some .local\/sc.names.lookup x=some .cell\/sc.names.lookup x=some .free
def Loc(sc:Scope)(x:Str):Prop:=sc.names.lookup x=some .local\/sc.names.lookup x=some .cell
def Look(env:Env)(h:Heap)(m:Str->Option Value)(x:Str)(u:Value):Prop :=
 (env.kindOf x=some .local/\m x=some u)\/((env.kindOf x=some .cell\/env.kindOf x=some .free)/\∃c,env.cells.lookup x=some c/\h.IsCell c (some u))
structure Cx.Ok (X:Cx):Prop where
 mod:Mod X.K X.mg X.base
 kind:X.env.scope.kind=.function
 glob:X.env.globals=mainGlobals
 blt:X.env.builtins=builtinsNs
 above:X.s₀.heap.objs.size<=X.env.locals
 inj:∀x y c,X.env.cells.lookup x=some c->X.env.cells.lookup y=some c->x=y
 has:∀x,(X.env.kindOf x=some .cell\/X.env.kindOf x=some .free)->∃c,X.env.cells.lookup x=some c
 cab:∀x c,X.fn x=true->X.env.cells.lookup x=some c->X.s₀.heap.objs.size<=c
 hd:X.calm=true->X.A.handled=none
 frames:X.A.frames=some X.stack
 stk:X.stack=X.outer\/(X.stack=X.env::X.outer/\X.env.frame=some X.env.locals)
 exf:∀b∈X.ex,b≠X.env.locals/\∀x c,X.env.cells.lookup x=some c->c≠b
 bs:∀b o,X.base.get? b=some o->X.s₀.heap.get? b=some o/\X.H₀ b=none
 bsz:X.base.objs.size<=X.s₀.heap.objs.size
 noex:∀b o,X.base.get? b=some o->b∉X.ex
 exfs:∀b∈X.ex,b∉X.fs
 funs:X.s₀.heap.FunFrames X.base X.outer
 frf:∀b∈X.fs,X.H₀ b=none
structure Inv (X:Cx) (HV:List (Addr × Obj)) (σ:List (Option V)) (H:Hp) (s:Shared):Prop where
 ok:X.Ok
 os:s.os=X.s₀.os
 bare:AllBare s.gens
 base:Un X.fs X.ex X.H₀ H X.s₀.heap s.heap
 loc:∃m,s.heap.Ns X.env.locals m/\∀(i:Nat) (x:Str) (v:V),X.N[i]?=some x->σ[i]?=some (some v)->Vis X.env.scope x->∃u,bh v u/\Look X.env s.heap m x u
 cell:∀x c,X.env.cells.lookup x=some c->∃v,s.heap.IsCell c v
 free:H X.env.locals=none
 freeC:∀x c,X.env.cells.lookup x=some c->H c=none
 pin:∀p∈X.pn++HV,s.heap.get? p.1=some p.2/\H p.1=none/\p.1≠X.env.locals/\p.1∉X.fs/\∀v,p.2.data≠.cell v
 hok:HOk X.prog X.w H s.heap
 len:σ.length=X.N.length
section
variable {X:Cx} {HV:List (Addr × Obj)} {σ:List (Option V)} {H H':Hp} {s:Shared} {h':Heap}
def Cx.Ok.nofr(ok:X.Ok)(e:X.base.get? b=some o):b∉X.fs:=fun hb=>by
 have:=(ok.funs.mem hb).1
 rw[e] at this;cases this
def Inv.bs(I:Inv X HV σ H s):∀b o,X.base.get? b=some o->s.heap.get? b=some o/\H b=none:=fun b o e =>
 ⟨I.base.keep b o (I.ok.bs b o e).1 (I.ok.bs b o e).2 (I.ok.nofr e) (I.ok.noex b o e),I.base.free b o (I.ok.bs b o e).1 (I.ok.bs b o e).2 (I.ok.noex b o e)⟩
def Inv.bk(I:Inv X HV σ H s):∀b o,X.base.get? b=some o->s.heap.get? b=some o:=fun b o e=>(I.bs b o e).1
def Inv.mod(I:Inv X HV σ H s):Mod X.K X.mg X.base:=I.ok.mod
def Inv.kIn(I:Inv X HV σ H s):X.K.In s.heap:=I.ok.mod.kin.keeps I.bk
def Inv.lt(I:Inv X HV σ H s):X.env.locals<s.heap.objs.size:=let ⟨_,hn,_⟩:=I.loc;hn.lt
def Inv.sz(I:Inv X HV σ H s):X.s₀.heap.objs.size<=s.heap.objs.size:=qaD I.ok.above (qcj I.lt)
def Inv.nofs(I:Inv X HV σ H s){a:Addr}(h:s.heap.objs.size<=a):a∉X.fs:=fun hb=>by
 obtain⟨_,o,ho,_⟩:=I.ok.funs.mem hb;exact absurd (qaC (qaq ho) (qaD I.sz h)) (qbe _)
def Inv.cne(I:Inv X HV σ H s):∀x c,X.env.cells.lookup x=some c->c≠X.env.locals:=fun x c e z=>by
 obtain⟨v,o,ho,hd⟩:=I.cell x c e;obtain⟨m,⟨o',es,ep,ho',hd',_⟩,_⟩:=I.loc;rw[z,ho'] at ho;cases ho;rw[hd'] at hd;cases hd
def Inv.funs(I:Inv X HV σ H s):s.heap.FunFrames X.base X.outer:=by
 have all:∀(l:List Env),(∀b∈frs l,b∈X.fs)->X.s₀.heap.FunFrames X.base l->s.heap.FunFrames X.base l:=by
  intro l
  induction l with
  | nil=>intro _ _;trivial
  | cons env r ih =>
   intro hs hl;obtain⟨hk,⟨L,o,hf,hn,ho,hd⟩,hr⟩:=hl;have hL:L∈X.fs:=hs L (by unfold frs;rw[qbE,hf];exact qaL);obtain⟨sl,e⟩:=I.base.slot L o ho (I.ok.frf L hL) hL fun z=>I.ok.exfs L z hL;exact⟨hk,⟨L,_,hf,hn,e,hd⟩,ih (fun b hb=>hs b (by unfold frs;rw[qbE,hf];exact qai _ hb)) hr⟩
 exact all X.outer (fun _ hb=>hb) I.ok.funs
def Inv.stack(I:Inv X HV σ H s):s.heap.FunFrames X.base X.stack:=by
 rcases I.ok.stk with e|⟨e,hf⟩
 ·rw[e];exact I.funs
 ·rw[e];obtain⟨m,hn,_⟩:=I.loc;refine .cons (by rw[I.ok.kind];decide) hf hn ?_ I.funs;exact Heap.get?_none_of_le (qaD I.ok.bsz I.ok.above)
def Inv.stkSub(I:Inv X HV σ H s):∀b∈frs X.stack,b∈X.env.locals::X.fs:=fun b hb=>by
 rcases I.ok.stk with e|⟨e,hf⟩
 ·rw[e] at hb;exact qai _ hb
 ·rw[e] at hb;unfold frs at hb;rw[qbE,hf] at hb;exact hb
def Inv.stkFree(I:Inv X HV σ H s):∀b∈frs X.stack,H b=none:=fun b hb=>by
 rcases qar.mp (I.stkSub b hb) with e|hb
 ·rw[e];exact I.free
 ·obtain⟨_,o,ho,_⟩:=I.ok.funs.mem hb;exact I.base.free b o ho (I.ok.frf b hb) fun z=>I.ok.exfs b z hb
def Inv.step{g':Array GenState}{t':Nat}{d':Drawn}{ch:List Addr}(I:Inv X HV σ H s)
  (hch:∀b∈ch,(b∈X.ex\/X.s₀.heap.objs.size<=b)/\b≠X.env.locals/\(∀x c,X.env.cells.lookup x=some c->c≠b)/\∀p∈X.pn++HV,p.1≠b)
  (keep:∀b o,b≠X.env.locals->b∉X.fs->b∉ch->s.heap.get? b=some o->H b=none->h'.get? b=some o)
  (slot:∀b o,b≠X.env.locals->b∈X.fs->b∉ch->s.heap.get? b=some o->H b=none->∃sl,h'.get? b=some { o with slots:=sl}) (free:∀b o,b∉ch->s.heap.get? b=some o->H b=none->H' b=none)
  (there:∀b o,b∉ch->s.heap.get? b=some o->∃o',h'.get? b=some o')
  (tups:∀b xs,H b=some (.tup xs)->H' b=some (.tup xs)) (frzs:∀b o u,H b=some (.frz o u)->H' b=some (.frz o u)) (tbls:∀b ps,H b=some (.tbl ps)->∃more,H' b=some (.tbl (ps++more)))
  (ns:∀m,s.heap.Ns X.env.locals m->h'.Ns X.env.locals m) (hok:HOk X.prog X.w H' h') (hg:AllBare g') :
  Inv X HV σ H' { s with heap:=h',gens:=g',drawn:=d',toks:=t'}:=by
 have neL:∀b o,X.s₀.heap.get? b=some o->b≠X.env.locals:=fun b o e=>qaK (qaC (qaq e) I.ok.above);have neC:∀b o,X.s₀.heap.get? b=some o->b∉X.ex->b∉ch:=fun b o e hx hb=>by
  rcases (hch b hb).1 with z|z
  ·exact hx z
  ·exact absurd (qaC (qaq e) z) (qbe _)
 have cellK:∀x c,X.env.cells.lookup x=some c->∀v,s.heap.IsCell c v->h'.IsCell c v:=fun x c e v ⟨o,ho,hd⟩=>by
  have nch:c∉ch:=fun z=>(hch c z).2.2.1 x c e rfl;by_cases hc:c∈X.fs
  ·obtain⟨sl,q⟩:=slot c o (I.cne x c e) hc nch ho (I.freeC x c e);exact⟨_,q,hd⟩
  ·exact⟨o,keep c o (I.cne x c e) hc nch ho (I.freeC x c e),hd⟩
 refine⟨I.ok,I.os,hg,⟨fun b o e n hb hx=>?_,fun b o e n hb hx=>?_,fun b o e n hx=>?_,fun b o e hx=>?_,fun b xs e=>tups b xs (I.base.tups b xs e),fun b o xs e=>frzs b o xs (I.base.frzs b o xs e),fun b ps e=>?_⟩,?_,fun x c e=>?_,?_,fun x c e=>?_,fun p hp=>?_,hok,I.len⟩
 ·exact keep b o (neL b o e) hb (neC b o e hx) (I.base.keep b o e n hb hx) (I.base.free b o e n hx)
 ·obtain⟨sl,e1⟩:=I.base.slot b o e n hb hx;obtain⟨sl',e2⟩:=slot b _ (neL b o e) hb (neC b o e hx) e1 (I.base.free b o e n hx);exact⟨sl',e2⟩
 ·obtain⟨o',e1⟩:=I.base.there b o e hx;exact free b o' (neC b o e hx) e1 (I.base.free b o e n hx)
 ·obtain⟨o',e1⟩:=I.base.there b o e hx;exact there b o' (neC b o e hx) e1
 ·obtain⟨m1,e1⟩:=I.base.tbls b ps e;obtain⟨m2,e2⟩:=tbls b _ e1;exact⟨m1++m2,by rw[e2,Array.append_assoc]⟩
 ·obtain⟨m,hn,hl⟩:=I.loc;refine⟨m,ns m hn,fun i x v e1 e2 e3=>?_⟩;obtain⟨u,r,l⟩:=hl i x v e1 e2 e3;refine⟨u,r,?_⟩;rcases l with l|⟨k,c,e,z⟩
  ·exact .inl l
  ·exact .inr ⟨k,c,e,cellK x c e _ z⟩
 ·obtain⟨v,z⟩:=I.cell x c e;exact⟨v,cellK x c e v z⟩
 ·obtain⟨m,⟨o,_,_,ho,_⟩,_⟩:=I.loc;exact free _ o (fun z=>(hch _ z).2.1 rfl) ho I.free
 ·obtain⟨v,o,ho,hd⟩:=I.cell x c e;exact free c o (fun z=>(hch c z).2.2.1 x c e rfl) ho (I.freeC x c e)
 ·obtain⟨e,n,ne,nf,d⟩:=I.pin p hp;have nch:p.1∉ch:=fun z=>(hch p.1 z).2.2.2 p hp rfl;exact⟨keep p.1 p.2 ne nf nch e n,free p.1 p.2 nch e n,ne,nf,d⟩
def Inv.un{t':Nat}(I:Inv X HV σ H s)(u:Un X.fs [] H H' s.heap h')(hok:HOk X.prog X.w H' h'):Inv X HV σ H' { s with heap:=h',toks:=t'}:=by
 obtain⟨m,⟨o,es,ep,ho,r⟩,_⟩:=id I.loc;obtain⟨sl,hL⟩:=u.any ho I.free (by simp)
 exact I.step (g':=s.gens) (d':=s.drawn) (ch:=[]) (fun _ z=>nomatch z) (fun b o _ hb _ e n=>u.keep b o e n hb (by simp)) (fun b o _ hb _ e n=>u.slot b o e n hb (by simp)) (fun b o _ e n=>u.free b o e n (by simp)) (fun b o _ e=>u.there b o e (by simp)) u.tups u.frzs u.tbls (fun m' hm=>by
  obtain⟨o',es',ep',ho',r'⟩:=hm;rw[ho] at ho';cases ho'
  exact⟨_,es',ep',hL,r'⟩) hok I.bare
def Inv.call{g':Array GenState}{t':Nat}{d':Drawn}{ch:List Addr}(I:Inv X HV σ H s)(u:Un (frs X.stack) ch H H' s.heap h')(hok:HOk X.prog X.w H' h')(hg:AllBare g')
  (hch:∀b∈ch,(b∈X.ex\/X.s₀.heap.objs.size<=b)/\b≠X.env.locals/\(∀x c,X.env.cells.lookup x=some c->c≠b)/\∀p∈X.pn++HV,p.1≠b) :
  Inv X HV σ H' { s with heap:=h',gens:=g',drawn:=d',toks:=t'}:=by
 obtain⟨m,⟨o,es,ep,ho,r⟩,_⟩:=id I.loc;obtain⟨sl,hL⟩:=u.any ho I.free fun z=>(hch _ z).2.1 rfl
 exact I.step (ch:=ch) hch (fun b o hL hb hc e n=>u.keep b o e n (fun z=>(qar.mp (I.stkSub b z)).elim hL hb) hc) (fun b o _ _ hc e n=>u.any e n hc) (fun b o hc e n=>u.free b o e n hc) (fun b o hc e=>u.there b o e hc) u.tups u.frzs u.tbls (fun m' hm=>by
  obtain⟨o',es',ep',ho',r'⟩:=hm;rw[ho] at ho';cases ho'
  exact⟨_,es',ep',hL,r'⟩) hok hg
def Inv.turned{t':Nat}{it:Addr}(I:Inv X HV σ H s)(k:∀b o,b≠it->s.heap.get? b=some o->h'.get? b=some o)(hn:H it=none)(hL:it≠X.env.locals)
  (h1:it∈X.ex\/X.s₀.heap.objs.size<=it) (h2:∀x c,X.env.cells.lookup x=some c->c≠it) (h3:∀p∈X.pn++HV,p.1≠it):Inv X HV σ H { s with heap:=h',toks:=t'}:=by
 have nit:∀b u,H b=some u->b≠it:=fun b u e z=>by rw[z,hn] at e;cases e
 refine I.step (g':=s.gens) (d':=s.drawn) (ch:=[it]) (fun b hb=>?_) (fun b o _ _ hc e _=>k b o (fun z=>hc (by simp[z])) e) (fun b o _ _ hc e _=>⟨o.slots,k b o (fun z=>hc (by simp[z])) e⟩) (fun _ _ _ _ n=>n)
  (fun b o hc e=>⟨o,k b o (fun z=>hc (by simp[z])) e⟩) (fun _ _ e=>e) (fun _ _ _ e=>e) (fun b ps e=>⟨#[],by rw[e];simp⟩) (fun m hm=>?_) (fun b u e=>?_) I.bare
 ·have e:b=it:=by simpa using hb
  subst e;exact⟨h1,hL,h2,h3⟩
 ·obtain⟨o,es,ep,ho,r⟩:=hm;exact⟨o,es,ep,k _ o (Ne.symm hL) ho,r⟩
 ·refine (I.hok b u e).stay (fun c v hc q=>k c v ?_ q) (fun _ q=>q) fun _ _ q=>q;rcases hc with z|z
  ·rw[z];exact nit b u e
  ·exact nit c _ z
def Inv.tok(I:Inv X HV σ H s)(t:Nat):Inv X HV σ H { s with toks:=t}:=I.un (h':=s.heap) (t':=t) Un.refl I.hok
def Inv.kept(I:Inv X HV σ H s)(k:∀b u,s.heap.get? b=some u->h'.get? b=some u):Inv X HV σ H { s with heap:=h',toks:=t'}:=I.un (Un.kept k) (I.hok.kept k)
def Inv.laid{a:Addr}{o:HO}{t':Nat}(I:Inv X HV σ H s)(k:∀b u,s.heap.get? b=some u->h'.get? b=some u)(hp:s.heap.objs.size<=a)(new:ObjOk X.prog X.w (upd H a o) h' a o) :
  Inv X HV σ (upd H a o) { s with heap:=h',toks:=t'}:=I.un (Un.laid k hp (I.hok.fresh hp)) (I.hok.laid k hp new)
def Inv.write(I:Inv X HV σ H s)(mu:Mut (H x))(he:e=x\/H e=some (.own x))(k:∀b u,b≠e->s.heap.get? b=some u->h'.get? b=some u)(heo:∃u,h'.get? e=some u)
  (new:ObjOk X.prog X.w (upd H x o) h' x o):Inv X HV σ (upd H x o) { s with heap:=h',toks:=t'}:=I.un (Un.write mu he k heo) (I.hok.write mu he k heo new)
def Inv.pins_of(I:Inv X HV σ H s)(h:∀p∈pins',s.heap.get? p.1=some p.2/\H p.1=none/\p.1≠X.env.locals/\p.1∉X.fs/\∀v,p.2.data≠.cell v):Inv X pins' σ H s :=
 ⟨I.ok,I.os,I.bare,I.base,I.loc,I.cell,I.free,I.freeC,fun p hp=>(qau.mp hp).elim (fun z=>I.pin p (qaH _ z)) (h p),I.hok,I.len⟩
def sE{N:List Str}(hN:N.Nodup){i j:Nat}{x:Str}(a:N[i]?=some x)(b:N[j]?=some x):i=j:=by
 obtain⟨h1,e1⟩:=qae.mp a;obtain⟨h2,e2⟩:=qae.mp b;exact (List.getElem_inj hN).mp (e1.trans e2.symm)
def xz{M:Model}{A:Around}{E:Value->Shared->Prop}{i:Nat}{x:Str}{v:V}{u:Value}{Q:Unit->Shared->Prop}(I:Inv X HV σ H s)(hN:X.N.Nodup)(hi:X.N[i]?=some x)(hx:Loc X.env.scope x)(r:bh v u)
  (h:∀s',Inv X HV (σ.set i (some v)) H s'->(∃a,Heap.SameBut a s.heap s'.heap/\(a=X.env.locals\/X.env.cells.lookup x=some a))->Q () s') (hf:X.fn x=true\/X.env.scope.names.lookup x=some .local:=by first | exact .inl rfl | exact .inr rfl | assumption):wpAny M A (storeName X.env x u) Q E s:=by
 obtain⟨m,hn,hl⟩:=id I.loc;have hcls:(X.env.scope.kind == .class || (X.env.scope.kind == .module && X.env.locals != X.env.globals))=false:=by rw[I.ok.kind];rfl
 have hiσ:i<σ.length:=by rw[I.len];exact (qae.mp hi).1
 have cne:=I.cne;have tracked:∀{a:Addr} {h':Heap},(∃o,s.heap.get? a=some o/\H a=none)->Heap.SameBut a s.heap h'->HOk X.prog X.w H h':=fun {a h'} ha hs b ob e=>by
  obtain⟨_,_,hfree⟩:=ha;refine (I.hok b ob e).stay (fun c w' hc q=>(hs.2 c ?_).trans q) (fun _ q=>q) fun _ _ q=>q;rintro rfl;rcases hc with rfl|hc
  ·rw[hfree] at e;cases e
  ·rw[hfree] at hc;cases hc
 rcases hx with hk|hk
 ·refine wpAny_storeName_local hk hn (fun h' hn' hs=>?_) hcls;obtain⟨oL,_,_,hoL,_⟩:=id hn;refine h _ ⟨I.ok,I.os,I.bare,⟨fun b o e n hb hx=>?_,fun b o e n hb hx=>?_,I.base.free,fun b o e hx=>?_,I.base.tups,I.base.frzs,I.base.tbls⟩,⟨_,hn',fun j y v' e1 e2 e3=>?_⟩,fun y c e=>?_,I.free,I.freeC,fun p hp=>?_,tracked ⟨oL,hoL,I.free⟩ hs,by simpa using I.len⟩ ⟨_,hs,.inl rfl⟩
  ·exact (hs.2 b (qaK (qaC (qaq e) I.ok.above))).trans (I.base.keep b o e n hb hx)
  ·obtain⟨sl,e1⟩:=I.base.slot b o e n hb hx;exact⟨sl,(hs.2 b (qaK (qaC (qaq e) I.ok.above))).trans e1⟩
  ·obtain⟨o',e1⟩:=I.base.there b o e hx;exact⟨o',(hs.2 b (qaK (qaC (qaq e) I.ok.above))).trans e1⟩
  ·by_cases hj:j=i
   ·subst hj;rw[hi] at e1;cases e1;rw[qaF hiσ] at e2;cases e2;exact⟨u,r,.inl ⟨hk,by simp⟩⟩
   ·rw[qan (Ne.symm hj)] at e2;obtain⟨u',r',q⟩:=hl j y v' e1 e2 e3;refine⟨u',r',?_⟩;rcases q with ⟨k,e⟩|⟨k,c,e,z⟩
    ·refine .inl ⟨k,?_⟩
     have:y≠x:=fun e=>hj (sE hN e1 (e▸hi))
     simp[this,e]
    ·exact .inr ⟨k,c,e,z.sameBut hs (cne y c e)⟩
  ·obtain⟨w',z⟩:=I.cell y c e;exact⟨w',z.sameBut hs (cne y c e)⟩
  ·obtain⟨e,n,ne,nf,d⟩:=I.pin p hp;exact⟨(hs.2 p.1 ne).trans e,n,ne,nf,d⟩
 ·have hfn:X.fn x=true:=by
   rcases hf with z|z
   ·exact z
   ·rw[z] at hk;cases hk
  obtain⟨c,hc⟩:=I.ok.has x (.inl hk);obtain⟨w',z⟩:=I.cell x c hc;refine wpAny_storeName_cell I.ok.kind hk hc z (fun h' hc' hs=>?_);obtain⟨oc,hoc,hocd⟩:=id z;refine h { s with heap:=h'} ⟨I.ok,I.os,I.bare,⟨fun b o e n hb hx=>?_,fun b o e n hb hx=>?_,I.base.free,fun b o e hx=>?_,I.base.tups,I.base.frzs,I.base.tbls⟩,⟨m,hn.sameBut hs (Ne.symm (cne x c hc)),fun j y v' e1 e2 e3=>?_⟩,fun y c' e=>?_,I.free,I.freeC,fun p hp=>?_,tracked ⟨oc,hoc,I.freeC x c hc⟩ hs,by simpa using I.len⟩ ⟨c,hs,.inr hc⟩
  ·exact (hs.2 b (qaK (qaC (qaq e) (I.ok.cab x c hfn hc)))).trans (I.base.keep b o e n hb hx)
  ·obtain⟨sl,e1⟩:=I.base.slot b o e n hb hx;exact⟨sl,(hs.2 b (qaK (qaC (qaq e) (I.ok.cab x c hfn hc)))).trans e1⟩
  ·obtain⟨o',e1⟩:=I.base.there b o e hx;exact⟨o',(hs.2 b (qaK (qaC (qaq e) (I.ok.cab x c hfn hc)))).trans e1⟩
  ·by_cases hj:j=i
   ·subst hj;rw[hi] at e1;cases e1;rw[qaF hiσ] at e2;cases e2;exact⟨u,r,.inr ⟨.inl hk,c,hc,hc'⟩⟩
   ·rw[qan (Ne.symm hj)] at e2;obtain⟨u',r',q⟩:=hl j y v' e1 e2 e3;refine⟨u',r',?_⟩;rcases q with q|⟨k,c',e,z'⟩
    ·exact .inl q
    ·refine .inr ⟨k,c',e,z'.sameBut hs ?_⟩;rintro rfl;exact hj (sE hN e1 (I.ok.inj _ _ _ e hc▸hi))
  ·by_cases hcc:c'=c
   ·subst hcc;exact⟨_,hc'⟩
   ·obtain⟨w2,z2⟩:=I.cell y c' e;exact⟨w2,z2.sameBut hs hcc⟩
  ·obtain⟨e,n,ne,nf,d⟩:=I.pin p hp;refine⟨(hs.2 p.1 ?_).trans e,n,ne,nf,d⟩;intro q;rw[q,hoc] at e;have q':oc=p.2:=Option.some.inj e;exact d w' (by rw[<-q'];exact hocd)
def tS(I:Inv X HV σ H s)(hN:X.N.Nodup)(hi:X.N[i]?=some x)(hx:Loc X.env.scope x)(r:bh v u)
  (h:∀s',Inv X HV (σ.set i (some v)) H s'->Q () s') (hf:X.fn x=true\/X.env.scope.names.lookup x=some .local:=by first | exact .inl rfl | exact .inr rfl | assumption):wpAny M A (storeName X.env x u) Q E s :=
 xz I hN hi hx r (fun s' I' _=>h s' I') hf
def Inv.call'(I:Inv X HV σ H s)(ho:s'.os=s.os)(u:Un (frs X.stack) ch H H' s.heap s'.heap)(hok:HOk X.prog X.w H' s'.heap)(hg:AllBare s'.gens)
  (hch:∀b∈ch,(b∈X.ex\/X.s₀.heap.objs.size<=b)/\b≠X.env.locals/\(∀x c,X.env.cells.lookup x=some c->c≠b)/\∀p∈X.pn++HV,p.1≠b):Inv X HV σ H' s':=by
 obtain⟨h',g',d',t',o'⟩:=s';have e:o'=s.os:=ho;subst e;exact I.call (g':=g') (t':=t') (d':=d') u hok hg hch
end
abbrev XK:=Value->Option Addr->Hp->Prop
abbrev St:=List (Option V)
abbrev VK:=V->Hp->Prop
abbrev TE:=St->Hp->VK->Prop
abbrev TT:=St->Hp->(Bool->Hp->Prop)->Prop
abbrev TA:=St->Hp->(List V->Hp->Prop)->Prop
structure Ends where
 nx:St->Hp->Prop
 rt:VK
 bk:St->Hp->Prop:=fun _ _=>False
 ct:St->Hp->Prop:=fun _ _=>False
abbrev TS:=Ends->St->Hp->Prop
inductive EP (X:Cx) (HV:List (Addr × Obj)) (σ:St) (Q:VK) (u:Value) (s':Shared):Prop
 | mk (v:V) (H':Hp) (i:Inv X HV σ H' s') (r:bh v u) (q:Q v H'):EP X HV σ Q u s'
inductive TP (X:Cx) (HV:List (Addr × Obj)) (σ:St) (Q:Bool->Hp->Prop) (b:Bool) (s':Shared):Prop
 | mk (H':Hp) (i:Inv X HV σ H' s') (q:Q b H'):TP X HV σ Q b s'
inductive AP (X:Cx) (HV:List (Addr × Obj)) (σ:St) (Q:List V->Hp->Prop) (us:List Value) (s':Shared):Prop
 | mk (vs:List V) (H':Hp) (i:Inv X HV σ H' s') (r:az vs us) (q:Q vs H'):AP X HV σ Q us s'
inductive SN (X:Cx) (HV:List (Addr × Obj)) (Q:St->Hp->Prop) (s':Shared):Prop
 | mk (σ':St) (H':Hp) (i:Inv X HV σ' H' s') (q:Q σ' H'):SN X HV Q s'
inductive SR (X:Cx) (HV:List (Addr × Obj)) (Q:VK) (u:Value) (s':Shared):Prop
 | mk (v:V) (σ':St) (H':Hp) (i:Inv X HV σ' H' s') (r:bh v u) (q:Q v H'):SR X HV Q u s'
def SP(X:Cx)(HV:List (Addr × Obj))(D:Ends)(f:Flow)(s':Shared):Prop :=
 match f with
 | .next=>SN X HV D.nx s'
 | .brk=>SN X HV D.bk s'
 | .cont=>SN X HV D.ct s'
 | .ret u=>SR X HV D.rt u s'
def PE(X:Cx)(e:Expr)(t:TE):Prop :=
 ∀(HV:List (Addr × Obj)) (s:Shared) (σ:St) (H:Hp) (Q:VK),Inv X HV σ H s->t σ H Q->wpAny (model X.prog X.w) X.A (eval e X.env) (EP X HV σ Q) X.xe s
def PT(X:Cx)(e:Expr)(t:TT):Prop :=
 ∀(HV:List (Addr × Obj)) (s:Shared) (σ:St) (H:Hp) (Q:Bool->Hp->Prop),Inv X HV σ H s->t σ H Q->wpAny (model X.prog X.w) X.A (isTrue e X.env (eval e X.env)) (TP X HV σ Q) X.xe s
def PW(X:Cx)(e:Expr)(t:TT):Prop :=
 ∀(whole:Sem Value) (HV:List (Addr × Obj)) (s:Shared) (σ:St) (H:Hp) (Q:Bool->Hp->Prop),Inv X HV σ H s->t σ H Q->wpAny (model X.prog X.w) X.A (isTrue e X.env whole) (TP X HV σ Q) X.xe s
def PW.pt(h:PW X e t):PT X e t:=h _
def PA(X:Cx)(es:List Expr)(t:TA):Prop :=
 ∀(pos:Pos) (HV:List (Addr × Obj)) (s:Shared) (σ:St) (H:Hp) (Q:List V->Hp->Prop),Inv X HV σ H s->t σ H Q->wpAny (model X.prog X.w) X.A (spliced (backTo pos (starEach es X.env))) (AP X HV σ Q) X.xe s
def PS(X:Cx)(st:Stmt)(t:TS):Prop :=
 ∀(HV:List (Addr × Obj)) (s:Shared) (σ:St) (H:Hp) (D:Ends),Inv X HV σ H s->t D σ H->wpAny (model X.prog X.w) X.A (exec st X.env) (SP X HV D) X.xe s
def PSs(X:Cx)(st:List Stmt)(t:TS):Prop :=
 ∀(HV:List (Addr × Obj)) (s:Shared) (σ:St) (H:Hp) (D:Ends),Inv X HV σ H s->t D σ H->wpAny (model X.prog X.w) X.A (execs st X.env) (SP X HV D) X.xe s
def thn(h:wpAny M A t Q E s)(hQ:∀a s,Q a s->Q' a s):wpAny M A t Q' E s:=wpAny_mono h hQ fun _ _ x=>x
section
variable {X:Cx}
def tVar(i:Nat):TE:=fun σ H Q=>∃v,σ[i]?=some (some v)/\Q v H
def tC(v:V):TE:=fun _ H Q=>Q v H
def pe_var{i:Nat}{x:Str}{pos:Pos}(hN:X.N[i]?=some x)(hv:Vis X.env.scope x)(hd:(x == ("__debug__":Str))=false:=by decide)(hcd:(x == ("__classdict__":Str))=false:=by decide):PE X (.Name x pos) (tVar i):=by
 intro HV s σ H Q I h;obtain⟨v,e,h⟩:=h;obtain⟨m,hn,hl⟩:=I.loc;obtain⟨u,r,l⟩:=hl i x v hN e hv;have fin:EP X HV σ Q u s:=⟨v,H,I,r,h⟩;rcases l with ⟨hk,hm⟩|⟨hk,c,hc,hcell⟩
 ·exact wpAny_Name (wpAny_loadName_local I.ok.kind hk hn hm fin) hd
 ·rcases hk with hk|hk
  ·exact wpAny_Name (wpAny_loadName_cell I.ok.kind hk hc hcell fin) hd
  ·exact wpAny_Name (wpAny_loadName_free I.ok.kind hk hc hcell fin hcd) hd
def pe_int{i j pos}:PE X (.Constant (.int i) j pos) (tC (.int i)):=fun _ _ _ H _ I h=>wpAny_Constant_int ⟨.int i,H,I.tok _,⟨_,rfl⟩,h⟩
def pe_bl{b j pos}:PE X (.Constant (.bool b) j pos) (tC (.bl b)):=fun _ _ _ H _ I h=>Constant_bool ⟨.bl b,H,I,rfl,h⟩
def pe_non{j pos}:PE X (.Constant .none j pos) (tC .non):=fun _ _ _ H _ I h=>Constant_none ⟨.non,H,I,rfl,h⟩
def pe_str{x j pos}:PE X (.Constant (.str x) j pos) (tC (.str x)):=fun _ _ _ H _ I h=>Calls.Constant_str ⟨.str x,H,I.tok _,⟨_,rfl⟩,h⟩
def Gl(X:Cx)(x:Str):Prop:=X.env.kindOf x=some .globalImplicit
def ld_glob{E:Value->Shared->Prop}{HV:List (Addr × Obj)}{s:Shared}{σ:St}{H:Hp}{x:Str}{u:Value}{pos:Pos}{Q:Value->Shared->Prop}(I:Inv X HV σ H s)(hg:Gl X x)(hm:X.mg x=some u)(h:Q u s)
  (hd:(x == ("__debug__":Str))=false:=by decide):wpAny (model X.prog X.w) X.A (eval (.Name x pos) X.env) Q E s :=
 Calls.Name_function_global I.ok.kind hg (Calls.loadGlobal_global (by rw[I.ok.glob];exact I.mod.glob.keeps I.bk) hm h) hd
def ft{E:Value->Shared->Prop}{HV:List (Addr × Obj)}{s:Shared}{σ:St}{H:Hp}{x:Str}{u:Value}{pos:Pos}{Q:Value->Shared->Prop}(I:Inv X HV σ H s)(hg:Gl X x)(hm:X.mg x=none)(hv:bootBuiltins x=some u)(h:Q u s)
  (hn:x≠"__name__":=by decide) (hd:(x == ("__debug__":Str))=false:=by decide):wpAny (model X.prog X.w) X.A (eval (.Name x pos) X.env) Q E s:=by
 obtain⟨mb,h1,h2⟩:=I.mod.blt;exact Calls.Name_function_global I.ok.kind hg (Calls.loadGlobal_builtin (by rw[I.ok.glob];exact I.mod.glob.keeps I.bk) hm (by rw[I.ok.blt];exact h1.keeps I.bk) ((h2 x hn).trans hv) h) hd
def pe_bltn{x:Str}{v:V}{u:Value}{pos:Pos}(hg:Gl X x)(hm:X.mg x=none)(hv:bootBuiltins x=some u)(r:bh v u)(hn:x≠"__name__":=by decide)(hd:(x == ("__debug__":Str))=false:=by decide):PE X (.Name x pos) (tC v) :=
 fun _ _ _ H _ I h=>ft I hg hm hv ⟨v,H,I,r,h⟩ hn hd
variable {a b:Expr} {ta tb:TE} {pos:Pos}
def tB(t:TE):TT:=fun σ H Q=>t σ H fun x H1=>∃c,x=.bl c/\Q c H1
def pt_val(h:PE X e t)(he:∀whole,isTrue e X.env whole=(do let v <-whole;standAt e.pos;holding [v] (truthy v)):=by intro _;rfl):PT X e (tB t):=by
 intro HV s σ H Q I hw;refine isTrue_plain (thn (h HV s σ H _ I hw) fun v s1 ⟨x,H1,I1,r1,q1⟩=>?_) (he _);obtain⟨d,rfl,q⟩:=q1;cases r1;exact wpAny_truthy_bool ⟨H1,I1,q⟩
variable {tA tB':TT} {rest:List Expr}
def tAnd(t u:TT):TT:=fun σ H Q=>t σ H fun c H1=>if c=true then u σ H1 Q else Q false H1
def tOr(t u:TT):TT:=fun σ H Q=>t σ H fun c H1=>if c=true then Q true H1 else u σ H1 Q
def tNot(t:TT):TT:=fun σ H Q=>t σ H fun c H1=>Q (!c) H1
def pw_and1(ha:PT X a tA):PW X (.BoolOp .And [a] pos) tA:=by
 intro wh HV s σ H Q I h;refine isTrue_and (thn (ha HV s σ H Q I h) fun c s1 e=>?_)
 cases c with
 | true=>exact isTrue_and_nil e
 | false=>exact e
def pw_or1(ha:PT X a tA):PW X (.BoolOp .Or [a] pos) tA:=by
 intro wh HV s σ H Q I h;refine isTrue_or (thn (ha HV s σ H Q I h) fun c s1 e=>?_)
 cases c with
 | false=>exact isTrue_or_nil e
 | true=>exact e
def pw_and(ha:PT X a tA)(hb:PW X (.BoolOp .And (b::rest) pos) tB'):PW X (.BoolOp .And (a::b::rest) pos) (tAnd tA tB'):=by
 intro wh HV s σ H Q I h;refine isTrue_and (thn (ha HV s σ H _ I h) fun c s1 ⟨H1,I1,q1⟩=>?_)
 cases c with
 | true=>exact hb wh HV s1 σ H1 Q I1 q1
 | false=>exact⟨H1,I1,q1⟩
def pw_or(ha:PT X a tA)(hb:PW X (.BoolOp .Or (b::rest) pos) tB'):PW X (.BoolOp .Or (a::b::rest) pos) (tOr tA tB'):=by
 intro wh HV s σ H Q I h;refine isTrue_or (thn (ha HV s σ H _ I h) fun c s1 ⟨H1,I1,q1⟩=>?_)
 cases c with
 | true=>exact⟨H1,I1,q1⟩
 | false=>exact hb wh HV s1 σ H1 Q I1 q1
def pt_not(ha:PT X a tA):PT X (.UnaryOp .Not a pos) (tNot tA):=by
 intro HV s σ H Q I h;exact isTrue_not (thn (ha HV s σ H (fun c H1=>Q (!c) H1) I h) fun _ _ ⟨H1,I1,q⟩=>⟨H1,I1,q⟩)
def tAndV(ta tb:TE):TE:=fun σ H Q=>ta σ H fun x H1=>∃c,x=.bl c/\if c=true then tb σ H1 Q else Q (.bl false) H1
def tNotV(ta:TE):TE:=fun σ H Q=>ta σ H fun x H1=>∃c,x=.bl c/\Q (.bl (!c)) H1
def pe_one{op}(h:PE X a t):PE X (.BoolOp op [a] pos) t:=fun HV s σ H Q I hw=>BoolOp_one (h HV s σ H Q I hw)
def pe_and(ha:PE X a ta)(hb:PE X (.BoolOp .And (b::rest) pos) tb):PE X (.BoolOp .And (a::b::rest) pos) (tAndV ta tb):=by
 intro HV s σ H Q I h;refine BoolOp_and (thn (ha HV s σ H _ I h) fun v s1 ⟨x,H1,I1,r1,q1⟩=>?_);obtain⟨c,rfl,q1⟩:=q1;cases r1;refine wpAny_truthy_bool ?_
 cases c with
 | true=>exact hb HV s1 σ H1 Q I1 q1
 | false=>exact⟨.bl false,H1,I1,rfl,q1⟩
def pe_not(ha:PE X a ta):PE X (.UnaryOp .Not a pos) (tNotV ta):=by
 intro HV s σ H Q I h;refine UnaryOp_ (thn (ha HV s σ H _ I h) fun v s1 ⟨x,H1,I1,r1,q1⟩=>?_);obtain⟨c,rfl,q1⟩:=q1;cases r1;exact not_of (wpAny_truthy_bool ⟨.bl (!c),H1,I1,rfl,q1⟩)
end
def SqL(K:qad)(H:Hp)(a:Addr)(xs:List V):Prop :=
 Rd H a (.lst xs) \/
  ∃(o:Obj) (its:Array Value) (n:Nat),K.lookup a=some o/\o.cls=.type "list"/\o.dict=none/\o.data=.seq its n/\its.size<=sizeLine/\az xs its.toList
def SqT(K:qad)(H:Hp)(a:Addr)(xs:List V):Prop :=
 Rd H a (.tup xs) \/
  ∃(o:Obj) (its:Array Value) (n:Nat),K.lookup a=some o/\o.cls=.type "tuple"/\(o.data=.seq its n/\o.dict=none)/\its.size<=sizeLine/\az xs its.toList
def absV:Value->Option V
 | .none=>some .non
 | .bool b=>some (.bl b)
 | .int i _=>some (.int i)
 | .str x _=>some (.str x)
 | .bytes b _=>some (.byt b)
 | .float b _=>some (.flt b)
 | .ref a=>some (.ref a)
 | .type n=>some (.ty n)
 | _=>none
def bh.abs(r:bh x u):absV u=some x:=by
 cases x with
 | non=>cases r;rfl
 | bl _=>cases r;rfl
 | int _=>obtain⟨t,rfl⟩:=r;rfl
 | str _=>obtain⟨t,rfl⟩:=r;rfl
 | byt _=>obtain⟨t,rfl⟩:=r;rfl
 | flt _=>obtain⟨t,rfl⟩:=r;rfl
 | ref _=>cases r;rfl
 | ty _=>cases r;rfl
def bh.inj(r:bh x u)(q:bh y u):x=y:=Option.some.inj (r.abs.symm.trans q.abs)
def az.inj(r:az xs us)(q:az ys us):xs=ys:=by
 induction r generalizing ys with
 | nil=>cases q;rfl
 | cons r t ih=>cases q with | cons r' t'=>rw[r.inj r',ih t']
section
variable {X:Cx} {HV:List (Addr × Obj)} {σ:St} {H:Hp} {s:Shared} {a:Addr} {xs ys:List V}
def SqL.of{K:qad}(h:H a=some (.lst xs)):SqL K H a xs:=.inl (.inl h)
def SqT.of{K:qad}(h:H a=some (.tup xs)):SqT K H a xs:=.inl (.inl h)
def Inv.list(I:Inv X HV σ H s)(h:SqL X.K H a xs):∃its:List Value,az xs its/\PlainL s.heap a its.toArray/\xs.length<=sizeLine:=by
 rcases h with h|⟨o,its,n,hk,hc,hd,hs,hz,r⟩
 ·obtain⟨z,its,n,r,e⟩:=h.ok I.hok;exact⟨its,r,⟨_,n,e,rfl,rfl,rfl⟩,z⟩
 ·refine⟨its.toList,r,⟨o,n,I.kIn a o hk,hc,hd,by simpa using hs⟩,?_⟩;have e:=r.length;simp only[qaz] at e;ext
def Inv.tupleN(I:Inv X HV σ H s)(h:SqT X.K H a xs):∃its:List Value,az xs its/\gH s.heap a its.toArray/\xs.length<=sizeLine:=by
 rcases h with h|⟨o,its,n,hk,hc,hs,hz,r⟩
 ·obtain⟨z,its,r,p⟩:=h.ok I.hok;exact⟨its,r,p,z⟩
 ·refine⟨its.toList,r,⟨o,I.kIn a o hk,hc,⟨n,by simpa using hs.1⟩,hs.2⟩,?_⟩;have e:=r.length;simp only[qaz] at e;ext
def Inv.tuple(I:Inv X HV σ H s)(h:SqT X.K H a xs):∃its:List Value,az xs its/\IsTup s.heap a its.toArray/\xs.length<=sizeLine :=
 let ⟨its,r,p,z⟩:=I.tupleN h
 ⟨its,r,p.tup,z⟩
def Inv.list_inj(I:Inv X HV σ H s)(h:SqL X.K H a xs)(h':SqL X.K H a ys):xs=ys:=by
 obtain⟨its,r,⟨o,n,e,_,_,d⟩,_⟩:=I.list h;obtain⟨its',r',⟨o',n',e',_,_,d'⟩,_⟩:=I.list h';rw[e] at e';cases e';rw[d] at d';injection d' with d1 _
 have:its=its':=by simpa using congrArg Array.toList d1
 subst this;exact r.inj r'
def Inv.tuple_inj(I:Inv X HV σ H s)(h:SqT X.K H a xs)(h':SqT X.K H a ys):xs=ys:=by
 obtain⟨its,r,⟨o,e,_,n,d⟩,_⟩:=I.tuple h;obtain⟨its',r',⟨o',e',_,n',d'⟩,_⟩:=I.tuple h';rw[e] at e';cases e';rw[d] at d';injection d' with d1 _
 have:its=its':=by simpa using congrArg Array.toList d1
 subst this;exact r.inj r'
end
section
variable {X:Cx} {HV:List (Addr × Obj)} {σ:St} {H:Hp} {s:Shared} {E:Value→Shared→Prop}
end
section
variable {X:Cx} {st:Stmt} {rest:List Stmt} {t u:TS} {e:Expr} {te:TE} {pos:Pos}
def tNext:TS:=fun D σ H=>D.nx σ H
def tSeq(t u:TS):TS:=fun D σ H=>t { D with nx:=u D} σ H
def pss_nil:PSs X [] tNext:=fun _ _ σ H _ I h=>wpAny_execs_nil ⟨σ,H,I,h⟩
def zQ(h1:PS X st t)(h2:PSs X rest u):PSs X (st::rest) (tSeq t u):=by
 intro HV s σ H D I h;refine wpAny_execs_cons (thn (h1 HV s σ H { D with nx:=u D} I h) fun f s1 q=>?_)
 cases f with
 | next =>
  obtain⟨σ',H',I',q⟩:=q;exact h2 HV s1 σ' H' D I' q
 | ret v=>exact q
 | brk=>exact q
 | cont=>exact q
def pss_one(h1:PS X st t):PSs X [st] t:=by
 intro HV s σ H D I h;refine wpAny_execs_cons (thn (h1 HV s σ H D I h) fun f s1 q=>?_)
 cases f with
 | next=>exact wpAny_execs_nil q
 | ret v=>exact q
 | brk=>exact q
 | cont=>exact q
def Inv.quiet{HV:List (Addr × Obj)}{σ:St}{H:Hp}{s:Shared}(I:Inv X HV σ H s):interactive X.env=false:=by simp[interactive,I.ok.kind]
def tDrop(te:TE):TS:=fun D σ H=>te σ H fun _ H1=>D.nx σ H1
def ps_expr(he:PE X e te)(hs:swapsWith e none pos.line X.env=pure false:=by rfl):PS X (.Expr e pos) (tDrop te):=by
 intro HV s σ H D I h;exact wpAny_Expr_any (thn (he HV s σ H _ I h) fun v s1 ⟨x,H1,I1,r1,q1⟩=>⟨σ,H1,I1,q1⟩) I.quiet hs
def tRet(te:TE):TS:=fun D σ H=>te σ H D.rt
def ps_ret(he:PE X e te):PS X (.Return (some e) pos) (tRet te):=by
 intro HV s σ H D I h;exact wpAny_Return_some (thn (he HV s σ H _ I h) fun v s1 ⟨x,H1,I1,r1,q1⟩=>⟨x,σ,H1,I1,r1,q1⟩)
def tIfS(c:TT)(t u:TS):TS:=fun D σ H=>c σ H fun b H1=>if b=true then t D σ H1 else u D σ H1
def ps_if(hc:PT X c tc)(ha:PSs X a t)(hb:PSs X b u):PS X (.If c a b pos) (tIfS tc t u):=by
 intro HV s σ H D I h;refine wpAny_If (thn (hc HV s σ H _ I h) fun d s1 ⟨H1,I1,q1⟩=>?_)
 cases d with
 | true=>exact ha HV s1 σ H1 D I1 q1
 | false=>exact hb HV s1 σ H1 D I1 q1
end
abbrev TG:=V->St->Hp->(St->Hp->Prop)->Prop
abbrev TGs:=List V->St->Hp->(St->Hp->Prop)->Prop
def PG(X:Cx)(target:Expr)(t:TG):Prop :=
 ∀(HV:List (Addr × Obj)) (s:Shared) (σ:St) (H:Hp) (v:V) (u:Value) (Q:St->Hp->Prop),Inv X HV σ H s->bh v u->t v σ H Q ->
  wpAny (model X.prog X.w) X.A (assign target X.env u) (fun _ s'=>SN X HV Q s') X.xe s
def PGs(X:Cx)(ts:List Expr)(t:TGs):Prop :=
 ∀(HV:List (Addr × Obj)) (s:Shared) (σ:St) (H:Hp) (vs:List V) (us:List Value) (Q:St->Hp->Prop),Inv X HV σ H s->az vs us->t vs σ H Q ->
  wpAny (model X.prog X.w) X.A (assignInOrder ((assignEach ts X.env).map (·.2)) us) (fun _ s'=>SN X HV Q s') X.xe s
abbrev dk:=V->V->V->Hp->(Hp->Prop)->Prop
inductive SE (X:Cx) (HV:List (Addr × Obj)) (σ:St) (Q:Hp->Prop) (s':Shared):Prop
 | mk (H':Hp) (i:Inv X HV σ H' s') (q:Q H'):SE X HV σ Q s'
def PSet(X:Cx)(t:dk):Prop :=
 ∀(HV:List (Addr × Obj)) (s:Shared) (σ:St) (H:Hp) (o i v:V) (ov iv u:Value) (Q:Hp->Prop),Inv X HV σ H s->bh o ov->bh i iv->bh v u->t o i v H Q ->
  wpAny (model X.prog X.w) X.A (setItem ov iv u) (fun _ s'=>SE X HV σ Q s') X.xe s
section
variable {X:Cx} {pos:Pos}
def gName(i:Nat):TG:=fun v σ H Q=>Q (σ.set i (some v)) H
def vQ(hN:X.N.Nodup)(hi:X.N[i]?=some x)(hx:Loc X.env.scope x)(hf:X.fn x=true\/X.env.scope.names.lookup x=some .local:=by first | exact .inl rfl | exact .inr rfl | assumption):PG X (.Name x pos) (gName i):=by
 intro HV s σ H v u Q I r h;exact wpAny_assign_Name (tS I hN hi hx r (fun s' I'=>⟨_,H,I',h⟩) hf)
def gNil:TGs:=fun vs σ H Q=>vs=[]/\Q σ H
def gCons(t:TG)(u:TGs):TGs:=fun vs σ H Q=>∃v r,vs=v::r/\t v σ H fun σ' H'=>u r σ' H' Q
def pgs_nil:PGs X [] gNil:=by
 intro HV s σ H vs us Q I r h;obtain⟨e,h⟩:=h;subst e;cases r;exact assignInOrder_nil ⟨σ,H,I,h⟩
def Aw(h1:PG X e t)(h2:PGs X es u)
  (hs:(assignEach (e::es) X.env).map (·.2)=assign e X.env::(assignEach es X.env).map (·.2):=by rfl):PGs X (e::es) (gCons t u):=by
 intro HV s σ H vs us Q I r h;obtain⟨v,vr,e1,h⟩:=h;subst e1
 cases r with
 | cons r rr =>
  rw[hs];refine assignInOrder_cons (thn (h1 HV s σ H _ _ _ I r h) fun _ s1 ⟨σ1,H1,I1,q1⟩=>?_);exact h2 HV s1 σ1 H1 _ _ Q I1 rr q1
def gTup(K:qad)(n:Nat)(t:TGs):TG:=fun v σ H Q=>∃a xs,v=.ref a/\SqT K H a xs/\xs.length=n/\t xs σ H Q
def pg_tup{es:List Expr}{k:Nat}{t:TGs}{n:Nat}(hc:X.calm=true)(h:PGs X es t)
  (hn:(assignEach es X.env).length=n:=by rfl) (hst:(assignEach es X.env).findIdx? (·.1)=none:=by rfl):PG X (.Tuple es k pos) (gTup X.K n t):=by
 intro HV s σ H v u Q I r hw;obtain⟨a,xs,e1,hq,hl,hw⟩:=hw;subst e1;cases r;obtain⟨its,rv,ht,hz⟩:=I.tuple hq;refine assign_Tuple_tuple (I.ok.hd hc) ht (by simp[hn,<-hl,rv.length]) hst fun h' hx=>?_;have I1:Inv X HV σ H { s with heap:=h'}:=I.kept (t':=s.toks) fun b o e=>hx b o (qaK (qaq e)) e;exact h HV _ σ H xs _ Q I1 (by simpa using rv) hw
def gSub(to ti:TE)(t:dk):TG:=fun v σ H Q=>to σ H fun o H1=>ti σ H1 fun i H2=>t o i v H2 fun H3=>Q σ H3
def pg_sub(ho:PE X o to)(hi:PE X i ti)(hs:PSet X t)
  (ha:∀v,assign (.Subscript o i pos) X.env v=(do
   let ov <-holding [v] (eval o X.env)
   let iv <-holding [v,ov] (eval i X.env)
   standAt pos
   holding [v,ov,iv] (setItem ov iv v)
   release [v,ov,iv] []):=by intro _;rfl):PG X (.Subscript o i pos) (gSub to ti t):=by
 intro HV s σ H v u Q I r h;rw[ha];refine qaa (wpAny_holding (thn (ho HV s σ H _ I h) fun ov s1 ⟨x,H1,I1,r1,q1⟩=>?_));refine qaa (wpAny_holding (thn (hi HV s1 σ H1 _ I1 q1) fun iv s2 ⟨y,H2,I2,r2,q2⟩=>?_));refine qaa (wpAny_standAt (qaa (wpAny_holding (thn (hs HV s2 σ H2 x y v ov iv u _ I2 r1 r2 r q2) fun _ s3 ⟨H3,I3,q3⟩=>?_))));exact wpAny_release ⟨σ,H3,I3,q3⟩
def tAsg(te:TE)(g:TG):TS:=fun D σ H=>te σ H fun x H1=>g x σ H1 D.nx
def ps_asg(he:PE X e te)(hg:PG X tg g)(hs:swapsWithSole [tg] e pos.line X.env=pure false:=by rfl)(hw:swappedStores [tg] e X.env=pure none:=by rfl)
  (h1:(assignEach [tg] X.env).map (·.2)=[assign tg X.env]:=by rfl):PS X (.Assign [tg] e pos) (tAsg te g):=by
 intro HV s σ H D I h;refine wpAny_Assign_stores (thn (he HV s σ H _ I h) fun v s1 ⟨x,H1,I1,r1,q1⟩=>?_) hs hw;rw[h1];exact thn (hg HV s1 σ H1 x v _ I1 r1 q1) fun _ s2 q=>q
def ps_set(hN:X.N.Nodup)(hi:X.N[i]?=some x)(hx:Loc X.env.scope x)(he:PE X e te)(hs:swapsWith e (some (.Name x pos')) pos.line X.env=pure false:=by rfl)(hf:X.fn x=true\/X.env.scope.names.lookup x=some .local:=by first | exact .inl rfl | exact .inr rfl | assumption) :
  PS X (.Assign [.Name x pos'] e pos) (tAsg te (gName i)):=by
 intro HV s σ H D I h;refine wpAny_Assign_Name (thn (he HV s σ H _ I h) fun v s1 ⟨y,H1,I1,r1,q1⟩=>?_) hs;exact tS I1 hN hi hx r1 (fun s2 I2=>⟨_,H1,I2,q1⟩) hf
end
structure It where
 go:Nat->Hp->Prop
 yld:Nat->Hp->V->Hp->Prop
 stop:Nat->Hp->Prop
def gz(X:Cx)(HV:List (Addr × Obj))(H:Hp)(b:Addr):Prop :=
 H b=none/\b≠X.env.locals/\b∉X.fs/\(b∈X.ex\/X.s₀.heap.objs.size<=b)/\(∀x c,X.env.cells.lookup x=some c->c≠b)/\∀p∈X.pn++HV,p.1≠b
def Inv.fpOk{X:Cx}{HV:List (Addr × Obj)}{σ:St}{H H':Hp}{s:Shared}{b:Addr}(I:Inv X HV σ H s)(hb:s.heap.objs.size<=b)(hn:H' b=none):gz X HV H' b:=by
 refine⟨hn,qbd (qaC I.lt hb),I.nofs hb,.inr (qaD I.sz hb),fun x c e z=>?_,fun p hp z=>?_⟩
 ·obtain⟨v,q⟩:=I.cell x c e;exact absurd (qaC q.lt (by rw[z];exact hb)) (qbe _)
 ·exact absurd (qaC (qaq (I.pin p hp).1) (by rw[z];exact hb)) (qbe _)
inductive TIt (X:Cx) (HV:List (Addr × Obj)) (σ:St) (u:Value) (Y:V->Hp->Prop) (n:Heap->Prop) (fp:List Addr) (s2:Shared):Prop
 | mk (x:V) (H':Hp) (i:Inv X HV σ H' s2) (r:bh x u) (y:Y x H') (t:n s2.heap) (f:∀b∈fp,H' b=none):TIt X HV σ u Y n fp s2
structure Turn (P:Program) (w:World) (K:qad) (tg:Expr) (J:It) (fp:List Addr) (it:Addr) (tn:Nat->Heap->Prop):Prop where
 mem:it∈fp
 obj:∀i h,tn i h->∀b∈fp,∃o,h.get? b=some o/\∀v,o.data≠.cell v
 keep:∀i h h',tn i h->(∀b∈fp,∀o,h.get? b=some o->h'.get? b=some o)->tn i h'
 item:∀(X:Cx),X.prog=P->X.w=w->X.K=K->X.calm=true->∀(i:Nat) (HV:List (Addr × Obj)) (s:Shared) (σ:St) (H:Hp) (E:Value->Shared->Prop),Inv X HV σ H s->(∀b∈fp,gz X HV H b)->tn i s.heap->J.go i H ->
  wpAny (model P w) X.A (pyNext (.ref it)) (fun r s1=>∃u,r=some u /\
   wpAny (model P w) X.A (letOwnedTupleGo tg (.ref it) u) (fun _ s2=>TIt X HV σ u (J.yld i H) (tn (i+1)) fp s2) E s1) E s
 done:∀(X:Cx),X.prog=P->X.w=w->X.K=K->X.calm=true->∀(i:Nat) (HV:List (Addr × Obj)) (s:Shared) (σ:St) (H:Hp) (E:Value->Shared->Prop),Inv X HV σ H s->(∀b∈fp,gz X HV H b)->tn i s.heap->J.stop i H ->
  wpAny (model P w) X.A (pyNext (.ref it)) (fun r s1=>r=none/\Inv X HV σ H s1) E s
 self:∀(A:Around) (i:Nat) (s:Shared) (Q:Value->Shared->Prop) (E:Value->Shared->Prop),tn i s.heap->Q (.ref it) s->wpAny (model P w) A (pyIter (.ref it)) Q E s
abbrev TI:=St->Hp->(It->Hp->Prop)->Prop
inductive PIE (X:Cx) (HV:List (Addr × Obj)) (σ:St) (tg:Expr) (R:It->Hp->Prop) (itv:Value) (s2:Shared):Prop
 | mk (it:Addr) (fp:List Addr) (tn:Nat->Heap->Prop) (J:It) (H':Hp) (e:itv=.ref it) (i:Inv X HV σ H' s2) (t:Turn X.prog X.w X.K tg J fp it tn) (n:tn 0 s2.heap) (f:∀b∈fp,gz X HV H' b) (r:R J H'):PIE X HV σ tg R itv s2
def PI(X:Cx)(tg iter:Expr)(wi:TI):Prop :=
 ∀(HV:List (Addr × Obj)) (s:Shared) (σ:St) (H:Hp) (R:It->Hp->Prop),Inv X HV σ H s->wi σ H R ->
  wpAny (model X.prog X.w) X.A (eval iter X.env) (fun v s1=>wpAny (model X.prog X.w) X.A (pyIter v) (PIE X HV σ tg R) X.xe s1) X.xe s
def xo(ho:s.heap.get? it=some o)(hc:o.cls=.type n)(hd:o.data=.fields vs)
  (hn:["enumerate","zip","dict_itemiterator","dict_reverseitemiterator","odict_iterator","itertools.zip_longest","itertools.pairwise"].contains n=false) (hQ:Q () s):wpAny M A (letOwnedTupleGo tg (.ref it) u) Q E s:=by
 unfold letOwnedTupleGo;cases tg <;> first
  | exact qah hQ
  | (cases u <;> first
    | exact qah hQ
    | (refine qaa (wpAny_load ho ?_)
       rw[hc,hd];show wpAny M A (if (["enumerate","zip","dict_itemiterator","dict_reverseitemiterator","odict_iterator","itertools.zip_longest","itertools.pairwise"].contains n && vs[0]? == some (rawInt _))=true then _ else _) Q E s;rw[qak (by intro h;rw[hn,Bool.false_and] at h;cases h)]
       exact qah hQ))
def Itl(K:qad)(a:Addr):It :=
 ⟨fun i H=>∃xs x,SqL K H a xs/\xs[i]?=some x,fun i H x H'=>H'=H/\∀xs,SqL K H a xs->xs[i]?=some x,fun i H=>∃xs,SqL K H a xs/\xs.length<=i⟩
def Itt(K:qad)(a:Addr):It :=
 ⟨fun i H=>∃xs x,SqT K H a xs/\xs[i]?=some x,fun i H x H'=>H'=H/\∀xs,SqT K H a xs->xs[i]?=some x,fun i H=>∃xs,SqT K H a xs/\xs.length<=i⟩
def Itr(lo:Int)(n:Nat):It:=⟨fun i _=>i<n,fun i H x H'=>H'=H/\x=.int (lo+i),fun i _=>n<=i⟩
def yH{P:Program}{w:World}{K:qad}{tg:Expr}(a it:Addr):Turn P w K tg (Itl K a) [it] it (fun i h=>h.IsListIter it a i) where
 mem:=by simp
 obj:=fun i h st b hb=>by
  have e:b=it:=by simpa using hb
  subst e;obtain⟨o,e,c,d⟩:=st;exact⟨o,e,fun v z=>by rw[d] at z;cases z⟩
 keep:=fun i h h' st k=>st.at fun o e=>k it (by simp) o e
 item:=by
  intro X hP hw hK hc i HV s σ H E I hf st hg;subst hP hw hK;obtain⟨xs,x,hq,hx⟩:=hg;obtain⟨its,rv,p,hz⟩:=I.list hq;obtain⟨u,hu,ru⟩:=rv.get hx;obtain⟨f0,f1,f2,f3,f4,f5⟩:=hf it (by simp);refine wpAny_pyNext_list_item st p.isList (x:=u) (by simpa using hu) fun h' st' sb=>?_;have I1:Inv X HV σ H { s with heap:=h'}:=I.turned (t':=s.toks) (fun b o hb e=>(sb.2 b hb).trans e) f0 f1 f3 f4 f5;obtain⟨o,e,c,d⟩:=id st';exact⟨u,rfl,xo (s:={ s with heap:=h'}) e c d (by decide) ⟨x,H,I1,ru,⟨rfl,fun ys hy=>by rw[I.list_inj hy hq];exact hx⟩,st',fun b hb=>(hf b hb).1⟩⟩
 done:=by
  intro X hP hw hK hc i HV s σ H E I hf st hg;subst hP hw hK;obtain⟨xs,hq,hx⟩:=hg;obtain⟨its,rv,p,hz⟩:=I.list hq;obtain⟨f0,f1,f2,f3,f4,f5⟩:=hf it (by simp);have hl:=rv.length;exact wpAny_pyNext_list_end (I.ok.hd hc) st p.isList (by simp;ext) fun h' eb=>⟨rfl,I.turned (t':=s.toks) (fun b o hb e=>eb b o hb e) f0 f1 f3 f4 f5⟩
 self:=fun _ _ _ _ _ st h=>wpAny_pyIter_listiter st h
def wt{P:Program}{w:World}{K:qad}{tg:Expr}(a it:Addr):Turn P w K tg (Itt K a) [it] it (fun i h=>h.IsTupleIter it a i) where
 mem:=by simp
 obj:=fun i h st b hb=>by
  have e:b=it:=by simpa using hb
  subst e;obtain⟨o,e,c,d⟩:=st;exact⟨o,e,fun v z=>by rw[d] at z;cases z⟩
 keep:=fun i h h' st k=>st.at fun o e=>k it (by simp) o e
 item:=by
  intro X hP hw hK hc i HV s σ H E I hf st hg;subst hP hw hK;obtain⟨xs,x,hq,hx⟩:=hg;obtain⟨its,rv,p,hz⟩:=I.tuple hq;obtain⟨u,hu,ru⟩:=rv.get hx;obtain⟨f0,f1,f2,f3,f4,f5⟩:=hf it (by simp);refine wpAny_pyNext_tuple_item st (show s.heap.IsTuple a its.toArray from p) (x:=u) (by simpa using hu) fun h' st' sb=>?_;have I1:Inv X HV σ H { s with heap:=h'}:=I.turned (t':=s.toks) (fun b o hb e=>(sb.2 b hb).trans e) f0 f1 f3 f4 f5;obtain⟨o,e,c,d⟩:=id st';exact⟨u,rfl,xo (s:={ s with heap:=h'}) e c d (by decide) ⟨x,H,I1,ru,⟨rfl,fun ys hy=>by rw[I.tuple_inj hy hq];exact hx⟩,st',fun b hb=>(hf b hb).1⟩⟩
 done:=by
  intro X hP hw hK hc i HV s σ H E I hf st hg;subst hP hw hK;obtain⟨xs,hq,hx⟩:=hg;obtain⟨its,rv,p,hz⟩:=I.tuple hq;obtain⟨f0,f1,f2,f3,f4,f5⟩:=hf it (by simp);have hl:=rv.length;exact wpAny_pyNext_tuple_end (I.ok.hd hc) st (show s.heap.IsTuple a its.toArray from p) (by simp;ext) fun h' eb=>⟨rfl,I.turned (t':=s.toks) (fun b o hb e=>eb b o hb e) f0 f1 f3 f4 f5⟩
 self:=fun _ _ _ _ _ st h=>wpAny_pyIter_tupleiter st h
def xi{P:Program}{w:World}{K:qad}{tg:Expr}(it:Addr)(lo:Int)(n:Nat):Turn P w K tg (Itr lo n) [it] it (fun i h=>IsRangeIter h it (lo+(i:Nat) * 1) ((n:Int) - (i:Nat)) 1) where
 mem:=by simp
 obj:=fun i h st b hb=>by
  have e:b=it:=by simpa using hb
  subst e
  exact⟨_,st,fun v z=>by
   have z':Data.fields _=Data.cell v:=z
   cases z'⟩
 keep:=fun i h h' st k=>k it (by simp) _ st
 item:=by
  intro X hP hw hK hc i HV s σ H E I hf st hg;subst hP hw hK;obtain⟨f0,f1,f2,f3,f4,f5⟩:=hf it (by simp);have W:=Walks.range (prog:=X.prog) (w:=X.w) (I.ok.hd hc) it lo 1 n;refine W.item i s _ _ hg st fun v h' tk hv st' kk=>?_;obtain⟨t,rfl⟩:=hv;have I1:Inv X HV σ H { s with heap:=h',toks:=tk}:=I.turned (fun b o hb e=>kk b o (by simpa using hb) e) f0 f1 f3 f4 f5;refine⟨_,rfl,xo (s:={ s with heap:=h',toks:=tk}) (n:="range_iterator") st' rfl rfl (by decide) ⟨.int (lo+i),H,I1,⟨t,?_⟩,⟨rfl,rfl⟩,st',fun b hb=>(hf b hb).1⟩⟩;rw[Int.mul_one]
 done:=by
  intro X hP hw hK hc i HV s σ H E I hf st hg;subst hP hw hK;obtain⟨f0,f1,f2,f3,f4,f5⟩:=hf it (by simp);exact wpAny_pyNext_range_end (I.ok.hd hc) st (by have:n<=i:=hg;ext) fun h' eb=>⟨rfl,I.turned (t':=s.toks) (fun b o hb e=>eb b o hb e) f0 f1 f3 f4 f5⟩
 self:=fun _ _ _ _ _ st h=>wpAny_pyIter_rangeiter st h
section
variable {X:Cx} {tg:Expr}
def iList(K:qad)(tl:TE):TI:=fun σ H R=>tl σ H fun x H1=>∃a,x=.ref a/\(∃xs,SqL K H1 a xs)/\R (Itl K a) H1
def iTup(K:qad)(tl:TE):TI:=fun σ H R=>tl σ H fun x H1=>∃a,x=.ref a/\(∃xs,SqT K H1 a xs)/\R (Itt K a) H1
def pi_list{l:Expr}{tl:TE}(hl:PE X l tl):PI X tg l (iList X.K tl):=by
 intro HV s σ H R I h;refine thn (hl HV s σ H _ I h) fun v s1 ⟨x,H1,I1,r1,q1⟩=>?_;obtain⟨a,e,⟨xs,hq⟩,q⟩:=q1;subst e;cases r1;obtain⟨its,rv,p,hz⟩:=I1.list hq;refine wpAny_pyIter_list p.isList ?_;refine⟨s1.heap.objs.size,[s1.heap.objs.size],_,_,H1,rfl,I1.kept (t':=s1.toks) fun b o e=>qab _ e,yH a _,⟨_,qap _ rfl,rfl,rfl⟩,fun b hb=>?_,q⟩;have e:b=s1.heap.objs.size:=by simpa using hb
 subst e;exact I1.fpOk (qag _) (I1.hok.fresh (qag _))
def pi_tup{l:Expr}{tl:TE}(hl:PE X l tl):PI X tg l (iTup X.K tl):=by
 intro HV s σ H R I h;refine thn (hl HV s σ H _ I h) fun v s1 ⟨x,H1,I1,r1,q1⟩=>?_;obtain⟨a,e,⟨xs,hq⟩,q⟩:=q1;subst e;cases r1;obtain⟨its,rv,p,hz⟩:=I1.tuple hq;refine wpAny_pyIter_tuple (show s1.heap.IsTuple a its.toArray from p) ?_;refine⟨s1.heap.objs.size,[s1.heap.objs.size],_,_,H1,rfl,I1.kept (t':=s1.toks) fun b o e=>qab _ e,wt a _,⟨_,qap _ rfl,rfl,rfl⟩,fun b hb=>?_,q⟩;have e:b=s1.heap.objs.size:=by simpa using hb
 subst e;exact I1.fpOk (qag _) (I1.hok.fresh (qag _))
def tW{HV:List (Addr × Obj)}{σ:St}{H:Hp}{s:Shared}{R:It->Hp->Prop}{E:Value->Shared->Prop}{lo hi:Int}{t u v:Tok}{tk:Nat}(I:Inv X HV σ H s)(h1:-(2 ^ 62)<=lo)(h2:lo<2 ^ 62)(h3:-(2 ^ 62)<=hi)(h4:hi<2 ^ 62)
  (q:R (Itr lo (hi - lo).toNat) H):wpAny (model X.prog X.w) X.A (pyIter (.ref s.heap.objs.size)) (PIE X HV σ tg R) E { s with heap:=s.heap.push { cls:=.type "range",data:=.fields #[.int lo t,.int hi u,.int 1 v]},toks:=tk}:=by
 refine wpAny_pyIter_range (IsRange.new ..) (small_one h1 h2 h3 h4) ?_;have I1:Inv X HV σ H { s with heap:=s.heap.push { cls:=.type "range",data:=.fields #[.int lo t,.int hi u,.int 1 v]},toks:=tk}:=I.kept fun b o e=>qab _ e
 refine⟨(s.heap.push { cls:=.type "range",data:=.fields #[.int lo t,.int hi u,.int 1 v]}).objs.size,[(s.heap.push { cls:=.type "range",data:=.fields #[.int lo t,.int hi u,.int 1 v]}).objs.size],_,_,H,rfl,
  I1.kept (t':=tk) fun b o e=>qab _ e,xi _ lo (hi - lo).toNat,?_,fun b hb=>?_,q⟩
 ·have e1:lo+((0:Nat):Int) * 1=lo:=by simp
  have e2:(((hi - lo).toNat:Nat):Int) - ((0:Nat):Int)=Builtin.Range.rangeSize lo hi 1:=by rw[rangeSize_one];split <;> ext
  show IsRangeIter _ _ (lo+((0:Nat):Int) * 1) ((((hi - lo).toNat:Nat):Int) - ((0:Nat):Int)) 1;rw[e1,e2];exact qap _ rfl
 ·have e:b=(s.heap.push { cls:=.type "range",data:=.fields #[.int lo t,.int hi u,.int 1 v]}).objs.size:=by simpa using hb
  subst e;exact I1.fpOk (qag _) (I1.hok.fresh (qag _))
def iRng1(ta:TA):TI:=fun σ H R=>ta σ H fun vs H1=>∃j:Int,vs=[.int j] /\ -(2 ^ 62)<=j/\j<2 ^ 62/\R (Itr 0 j.toNat) H1
def iRng2(ta:TA):TI:=fun σ H R=>ta σ H fun vs H1=>∃i j:Int,vs=[.int i,.int j]/\(-(2 ^ 62)<=i/\i<2 ^ 62 /\ -(2 ^ 62)<=j/\j<2 ^ 62)/\R (Itr i (j - i).toNat) H1
def xy{a:Expr}{ta:TA}{p pos:Pos}(hg:Gl X "range")(hm:X.mg "range"=none)(ha:PA X [a] ta)(hs:starEach [a] X.env=[(false,eval a X.env)]:=by rfl):PI X tg (.Call (.Name "range" p) [a] [] pos) (iRng1 ta):=by
 intro HV s σ H R I h;refine Call_ (ft I hg hm boot_range (PyProof.Rows.callWith_type1 (thn (ha pos HV s σ H _ I h) fun us s1 ⟨vs,H1,I1,r1,q1⟩=>?_) hs rfl));obtain⟨j,e,q1,q2,q⟩:=q1;subst e
 cases r1 with
 | cons r rr =>
  cases rr;obtain⟨t,rfl⟩:=r;exact call_range_1 (tW I1 (by ext) (by ext) q1 q2 (by simpa using q))
def yi{a b:Expr}{ta:TA}{p pos:Pos}(hg:Gl X "range")(hm:X.mg "range"=none)(ha:PA X [a,b] ta)(hs:starEach [a,b] X.env=[(false,eval a X.env),(false,eval b X.env)]:=by rfl)(hs2:starEach [b] X.env=[(false,eval b X.env)]:=by rfl) :
  PI X tg (.Call (.Name "range" p) [a,b] [] pos) (iRng2 ta):=by
 intro HV s σ H R I h;refine Call_ (ft I hg hm boot_range (PyProof.Rows.callWith_type1 (thn (ha pos HV s σ H _ I h) fun us s1 ⟨vs,H1,I1,r1,q1⟩=>?_) (by rw[hs,hs2]) (by rw[hs2];rfl)));obtain⟨i,j,e,⟨q1,q2,q3,q4⟩,q⟩:=q1;subst e
 cases r1 with
 | cons r rr =>
  cases rr with
  | cons r' rr =>
   cases rr;obtain⟨t,rfl⟩:=r;obtain⟨t',rfl⟩:=r';exact call_range_2 (tW I1 q1 q2 q3 q4 q)
def tFor(wi:TI)(g:TG)(tb:TS):TS:=fun D σ H=>wi σ H fun J H1=>∃W:Nat->Nat->St->Hp->Prop,(∃m,W 0 m σ H1)/\∀i m σ H,W i m σ H ->
 (J.stop i H/\D.nx σ H)\/(J.go i H/\∃N:St->Hp->Prop,(∀σ' H',N σ' H'->∃m',m'<m/\W (i+1) m' σ' H')/\∀x H',J.yld i H x H'->g x σ H' fun σ2 H2=>tb { D with nx:=N,ct:=N,bk:=D.nx} σ2 H2)
def kW(fp:List Addr)(h:Heap):List (Addr × Obj):=fp.filterMap fun b=>(h.get? b).map fun o=>(b,o)
def fW(hb:b∈fp)(e:h.get? b=some o):(b,o)∈kW fp h:=qbr.mpr ⟨b,hb,by rw[e];rfl⟩
def xD(hp:p∈kW fp h):p.1∈fp/\h.get? p.1=some p.2:=by
 obtain⟨b,hb,e⟩:=qbr.mp hp
 cases q:h.get? b with
 | none=>rw[q] at e;cases e
 | some o =>
  rw[q] at e;have e':(b,o)=p:=Option.some.inj e;subst e';exact⟨hb,q⟩
def Inv.pinned{HV:List (Addr × Obj)}{σ:St}{H:Hp}{s:Shared}{fp:List Addr}(I:Inv X HV σ H s)(hf:∀b∈fp,gz X HV H b)(ho:∀b∈fp,∃o,s.heap.get? b=some o/\∀v,o.data≠.cell v):Inv X (HV++kW fp s.heap) σ H s :=
 I.pins_of fun p hp=>(qau.mp hp).elim (fun z=>I.pin p (qal _ z)) fun z=>by
  obtain⟨hb,e⟩:=xD z;obtain⟨f0,f1,f2,_⟩:=hf p.1 hb;obtain⟨o,e',d⟩:=ho p.1 hb;rw[e] at e';cases e';exact⟨e,f0,f1,f2,d⟩
def Inv.unpinned{HV pl:List (Addr × Obj)}{σ:St}{H:Hp}{s:Shared}(I:Inv X (HV++pl) σ H s):Inv X HV σ H s:=I.pins_of fun p hp=>I.pin p (qal _ (qaH _ hp))
def ps_for(hp:PassesOwn (model X.prog X.w) X.A X.env X.xe)(hc:X.calm=true)(hi:PI X tg iter wi)(hg:PG X tg g)(hb:PSs X body tb)
  (hs:∀x,foldedSetIterable iter X.env x=pure x:=by intro _;rfl):PS X (.For tg iter body [] pos) (tFor wi g tb):=by
 intro HV s σ H D I h;refine wpAny_For (thn (hi HV s σ H _ I h) fun v s1 h1=>thn h1 fun itv s2 h2=>?_) hs;obtain⟨it,fp,tn,J,H2,e,I2,T,st2,f2,W,⟨m0,w0⟩,turn⟩:=h2;subst e;have stat:∀{H':Hp},(∀b∈fp,H' b=none)->∀b∈fp,gz X HV H' b:=fun hn b hb=>⟨hn b hb,(f2 b hb).2⟩;refine codeAny_forLoop_any (fun n s'=>∃i σ' H',Inv X HV σ' H' s'/\tn i s'.heap/\(∀b∈fp,H' b=none)/\W i n σ' H') ?_ m0 ⟨0,σ,H2,I2,st2,fun b hb=>(f2 b hb).1,w0⟩;rintro n s3 ⟨i,σ3,H3,I3,st3,fr3,w3⟩;rcases turn i n σ3 H3 w3 with ⟨stop,qn⟩|⟨go,N,hN,step⟩
 ·refine wpAny_passesOwn hp (thn (T.done X rfl rfl rfl hc i HV s3 σ3 H3 X.xe I3 (stat fr3) st3 stop) fun r s4 ⟨hr,I4⟩=>?_);subst hr;exact wpAny_execs_nil ⟨σ3,H3,I4,qn⟩
 ·refine wpAny_passesOwn hp (thn (T.item X rfl rfl rfl hc i HV s3 σ3 H3 X.xe I3 (stat fr3) st3 go) fun r s4 ⟨u,hr,h4⟩=>?_);subst hr;refine wpAny_passesOwn hp (thn h4 fun _ s5 ⟨x,H5,I5,r5,y5,st5,fr5⟩=>?_);have I5':=I5.pinned (stat fr5) (T.obj _ _ st5);refine wpAny_passesOwn hp (thn (hg _ s5 σ3 H5 x u _ I5' r5 (step x H5 y5)) fun _ s6 ⟨σ6,H6,I6,q6⟩=>?_);refine wpAny_passesOwn hp (thn (hb _ s6 σ6 H6 _ I6 q6) fun f s7 q7=>?_);have again:∀{σ7:St} {H7:Hp},Inv X (HV++kW fp s5.heap) σ7 H7 s7->N σ7 H7->∃m,m<n/\∃i σ' H',Inv X HV σ' H' s7/\tn i s7.heap/\(∀b∈fp,H' b=none)/\W i m σ' H':=fun {σ7 H7} I7 n7=>by
   obtain⟨m',hm,w7⟩:=hN σ7 H7 n7;refine⟨m',hm,i+1,σ7,H7,I7.unpinned,T.keep _ _ _ st5 fun b hb o e=>(I7.pin (b,o) (qal _ (qal _ (fW hb e)))).1,fun b hb=>?_,w7⟩;obtain⟨o,e,d⟩:=T.obj _ _ st5 b hb;exact (I7.pin (b,o) (qal _ (qal _ (fW hb e)))).2.1
  cases f with
  | next=>obtain⟨σ7,H7,I7,n7⟩:=q7;exact again I7 n7
  | cont=>obtain⟨σ7,H7,I7,n7⟩:=q7;exact again I7 n7
  | brk=>obtain⟨σ7,H7,I7,q7⟩:=q7;exact⟨σ7,H7,I7.unpinned,q7⟩
  | ret v=>obtain⟨x7,σ7,H7,I7,r7,q7⟩:=q7;exact⟨x7,σ7,H7,I7.unpinned,r7,q7⟩
end
abbrev R2:=V->V->Hp->VK->Prop
def OpR(X:Cx)(f:Value->Value->Sem Value)(r:R2):Prop :=
 ∀(HV:List (Addr × Obj)) (s:Shared) (σ:St) (H:Hp) (x y:V) (v u:Value) (Q:VK),Inv X HV σ H s->bh x v->bh y u->r x y H Q ->
  wpAny (model X.prog X.w) X.A (f v u) (EP X HV σ Q) X.xe s
def UnR(X:Cx)(f:Value->Sem Value)(r:V->Hp->VK->Prop):Prop :=
 ∀(HV:List (Addr × Obj)) (s:Shared) (σ:St) (H:Hp) (x:V) (v:Value) (Q:VK),Inv X HV σ H s->bh x v->r x H Q ->
  wpAny (model X.prog X.w) X.A (f v) (EP X HV σ Q) X.xe s
def cu(X:Cx)(f:Value)(r:List V->Hp->VK->Prop):Prop :=
 ∀(HV:List (Addr × Obj)) (s:Shared) (σ:St) (H:Hp) (xs:List V) (us:List Value) (Q:VK),Inv X HV σ H s->az xs us->r xs H Q ->
  wpAny (model X.prog X.w) X.A (call f us) (EP X HV σ Q) X.xe s
def TruR(X:Cx)(r:V->Hp->(Bool->Hp->Prop)->Prop):Prop :=
 ∀(HV:List (Addr × Obj)) (s:Shared) (σ:St) (H:Hp) (x:V) (v:Value) (Q:Bool->Hp->Prop),Inv X HV σ H s->bh x v->r x H Q ->
  wpAny (model X.prog X.w) X.A (truthy v) (TP X HV σ Q) X.xe s
def tOp(r:R2)(ta tb:TE):TE:=fun σ H Q=>ta σ H fun x H1=>tb σ H1 fun y H2=>r x y H2 Q
def tUn(r:V->Hp->VK->Prop)(ta:TE):TE:=fun σ H Q=>ta σ H fun x H1=>r x H1 Q
def rI(C:Int->Int->Prop)(g:Int->Int->V):R2:=fun x y H Q=>∃i j,x=.int i/\y=.int j/\C i j/\Q (g i j) H
def rI0(g:Int->Int->V):R2:=fun x y H Q=>∃i j,x=.int i/\y=.int j/\Q (g i j) H
def rU(g:Int->V):V->Hp->VK->Prop:=fun x H Q=>∃i,x=.int i/\Q (g i) H
section
variable {X:Cx} {a b c:Expr} {ta tb tc:TE} {pos:Pos}
def binT(ha:PE X a ta)(hb:PE X b tb){HV:List (Addr × Obj)}{s:Shared}{σ:St}{H:Hp}{R:V->V->Hp->Prop}(I:Inv X HV σ H s)
  (h:ta σ H fun x H1=>tb σ H1 fun y H2=>R x y H2) {Q:Value->Shared->Prop} {f:Value->Value->Sem Value}
  (hf:∀v u s2 x y H2,Inv X HV σ H2 s2->bh x v->bh y u->R x y H2->wpAny (model X.prog X.w) X.A (f v u) Q X.xe s2) :
  wpAny (model X.prog X.w) X.A (eval a X.env) (fun v s₁=>wpAny (model X.prog X.w) X.A (eval b X.env) (fun u s₂=>wpAny (model X.prog X.w) X.A (f v u) Q X.xe s₂) X.xe s₁) X.xe s:=by
 refine thn (ha HV s σ H _ I h) fun v s1 ⟨x,H1,I1,r1,q1⟩=>?_;refine thn (hb HV s1 σ H1 _ I1 q1) fun u s2 ⟨y,H2,I2,r2,q2⟩=>?_;exact hf v u s2 x y H2 I2 r1 r2 q2
def pe_op{op:Operator}{r:R2}(ho:OpR X (binaryOp op) r)(ha:PE X a ta)(hb:PE X b tb):PE X (.BinOp a op b pos) (tOp r ta tb):=by
 intro HV s σ H Q I h;exact wpAny_BinOp (binT ha hb I h fun v u s2 x y H2 I2 rx ry q=>ho HV s2 σ H2 x y v u Q I2 rx ry q)
def pe_un(ho:UnR X (unaryOp op) r)(ha:PE X a ta):PE X (.UnaryOp op a pos) (tUn r ta):=by
 intro HV s σ H Q I h;exact UnaryOp_ (thn (ha HV s σ H _ I h) fun v s1 ⟨x,H1,I1,r1,q1⟩=>ho HV s1 σ H1 x v Q I1 r1 q1)
def opI{f:Value->Value->Sem Value}{C:Int->Int->Prop}{g:Int->Int->Int}
  (rule:∀(i j:Int) (t u:Tok) (s:Shared) (Q:Value->Shared->Prop) (E:Value->Shared->Prop),C i j->Q (.int (g i j) s.toks) { s with toks:=s.toks+1}->wpAny (model X.prog X.w) X.A (f (.int i t) (.int j u)) Q E s) :
  OpR X f (rI C fun i j=>.int (g i j)):=by
 intro HV s σ H x y v u Q I rx ry h;obtain⟨i,j,rfl,rfl,hc,q⟩:=h;obtain⟨t,rfl⟩:=rx;obtain⟨t',rfl⟩:=ry;exact rule i j t t' s _ _ hc ⟨.int (g i j),H,I.tok _,⟨_,rfl⟩,q⟩
def opI0{f:Value->Value->Sem Value}{g:Int->Int->Int}
  (rule:∀(i j:Int) (t u:Tok) (s:Shared) (Q:Value->Shared->Prop) (E:Value->Shared->Prop),Q (.int (g i j) s.toks) { s with toks:=s.toks+1}->wpAny (model X.prog X.w) X.A (f (.int i t) (.int j u)) Q E s) :
  OpR X f (rI0 fun i j=>.int (g i j)):=by
 intro HV s σ H x y v u Q I rx ry h;obtain⟨i,j,rfl,rfl,q⟩:=h;obtain⟨t,rfl⟩:=rx;obtain⟨t',rfl⟩:=ry;exact rule i j t t' s _ _ ⟨.int (g i j),H,I.tok _,⟨_,rfl⟩,q⟩
def opB0{f:Value->Value->Sem Value}{g:Int->Int->Bool}
  (rule:∀(i j:Int) (t u:Tok) (s:Shared) (Q:Value->Shared->Prop) (E:Value->Shared->Prop),Q (.bool (g i j)) s->wpAny (model X.prog X.w) X.A (f (.int i t) (.int j u)) Q E s) :
  OpR X f (rI0 fun i j=>.bl (g i j)):=by
 intro HV s σ H x y v u Q I rx ry h;obtain⟨i,j,rfl,rfl,q⟩:=h;obtain⟨t,rfl⟩:=rx;obtain⟨t',rfl⟩:=ry;exact rule i j t t' s _ _ ⟨.bl (g i j),H,I,rfl,q⟩
def gG(i j:Int):Prop:=0<=j/\j<=1000000/\i.natAbs<2 ^ 64
def op_add:OpR X (binaryOp .Add) (rI0 fun i j=>.int (i+j)):=opI0 fun _ _ _ _ _ _ _ q=>add_int q
def op_sub:OpR X (binaryOp .Sub) (rI0 fun i j=>.int (i - j)):=opI0 fun _ _ _ _ _ _ _ q=>sub_int q
def op_pow:OpR X (binaryOp .Pow) (rI gG fun i j=>.int (i ^ j.toNat)):=opI fun _ _ _ _ _ _ _ hc q=>pow_int_small hc.1 hc.2.1 hc.2.2 q
def unI{f:Value->Sem Value}{g:Int->Int}
  (rule:∀(i:Int) (t:Tok) (s:Shared) (Q:Value->Shared->Prop) (E:Value->Shared->Prop),Q (.int (g i) s.toks) { s with toks:=s.toks+1}->wpAny (model X.prog X.w) X.A (f (.int i t)) Q E s) :
  UnR X f (rU fun i=>.int (g i)):=by
 intro HV s σ H x v Q I rx h;obtain⟨i,rfl,q⟩:=h;obtain⟨t,rfl⟩:=rx;exact rule i t s _ _ ⟨.int (g i),H,I.tok _,⟨_,rfl⟩,q⟩
def un_neg:UnR X (unaryOp .USub) (rU fun i=>.int (-i)):=unI fun _ _ _ _ _ q=>neg_int q
def op_lt:OpR X (compareOp .Lt) (rI0 fun i j=>.bl (decide (i<j))):=opB0 fun _ _ _ _ _ _ _ q=>lt_int q
def op_le:OpR X (compareOp .LtE) (rI0 fun i j=>.bl (decide (i<=j))):=opB0 fun _ _ _ _ _ _ _ q=>le_int q
def op_gt:OpR X (compareOp .Gt) (rI0 fun i j=>.bl (decide (j<i))):=opB0 fun _ _ _ _ _ _ _ q=>gt_int q
def op_ge:OpR X (compareOp .GtE) (rI0 fun i j=>.bl (decide (j<=i))):=opB0 fun _ _ _ _ _ _ _ q=>ge_int q
def nomark(b:Expr)(h:op≠.In:=by decide)(h2:op≠.NotIn:=by decide):behindInMarks op b=false:=by
 have e1:(op == CmpOp.In)=false:=by cases op <;> first | rfl | exact absurd rfl h
 have e2:(op == CmpOp.NotIn)=false:=by cases op <;> first | rfl | exact absurd rfl h2
 cases b <;> simp[behindInMarks,e1,e2]
def pe_cmpR{op:CmpOp}{r:R2}(ho:OpR X (compareOp op) r)(ha:PE X a ta)(hb:PE X b tb)(hm:behindInMarks op b=false):PE X (.Compare a [op] [b] pos) (tOp r ta tb):=by
 intro HV s σ H Q I h;exact wpAny_Compare1 (binT ha hb I h fun v u s2 x y H2 I2 rx ry q=>ho HV s2 σ H2 x y v u Q I2 rx ry q) hm
def tTest(t:TE):TT:=fun σ H Q=>t σ H fun x H'=>∃k,x=.bl k/\Q k H'
def pt_cmpR(ho:OpR X (compareOp op) r)(ha:PE X a ta)(hb:PE X b tb)(hm:behindInMarks op b=false):PT X (.Compare a [op] [b] pos) (tTest (tOp r ta tb)):=by
 intro HV s σ H Q I h
 refine wpAny_isTrue_Compare1 (thn (ha HV s σ H _ I h) fun v s1 ⟨x,H1,I1,r1,q1⟩=>thn (hb HV s1 σ H1 _ I1 q1) fun u s2 ⟨y,H2,I2,r2,q2⟩ =>
  thn (ho HV s2 σ H2 x y v u _ I2 r1 r2 q2) fun c s3 ⟨z,H3,I3,r3,k,e,q3⟩=>?_) hm
 subst e;cases r3;exact wpAny_truthy_bool ⟨H3,I3,q3⟩
def sZ(r r':R2)(ta tb tc:TE):TE:=fun σ H Q=>ta σ H fun x H1=>tb σ H1 fun y H2=>r x y H2 fun z H3=>∃k,z=.bl k /\
 (if k=true then tc σ H3 fun w' H4=>r' y w' H4 Q else Q (.bl false) H3)
def zU(ho:OpR X (compareOp op) r)(ho':OpR X (compareOp op') r')(ha:PE X a ta)(hb:PE X b tb)(hc:PE X c tc)
  (hm:lastMarks [op,op'] [b,c]=false:=by with_unfolding_all rfl):PE X (.Compare a [op,op'] [b,c] pos) (sZ r r' ta tb tc):=by
 intro HV s σ H Q I h
 refine Compare_chain (thn (ha HV s σ H _ I h) fun v s1 ⟨x,H1,I1,r1,q1⟩=>chain_link (thn (hb HV s1 σ H1 _ I1 q1) fun u s2 ⟨y,H2,I2,r2,q2⟩ =>
  thn (ho HV s2 σ H2 x y v u _ I2 r1 r2 q2) fun d s3 ⟨z,H3,I3,r3,k,e,q3⟩=>?_)) hm
 subst e;cases r3;refine wpAny_truthy_bool ?_
 cases k with
 | false=>exact ite_ff ⟨.bl false,H3,I3,rfl,q3⟩
 | true=>exact ite_tt (chain_last (thn (hc HV s3 σ H3 _ I3 q3) fun w' s4 ⟨z',H4,I4,r4,q4⟩=>ho' HV s4 σ H4 y z' u w' Q I4 r2 r4 q4))
def zm(ho:OpR X (compareOp op) r)(ho':OpR X (compareOp op') r')(ha:PE X a ta)(hb:PE X b tb)(hc:PE X c tc)
  (hm:lastMarks [op,op'] [b,c]=false:=by with_unfolding_all rfl):PT X (.Compare a [op,op'] [b,c] pos) (tTest (sZ r r' ta tb tc)):=by
 intro HV s σ H Q I h
 refine isTrue_chain (thn (ha HV s σ H _ I h) fun v s1 ⟨x,H1,I1,r1,q1⟩=>test_link (thn (hb HV s1 σ H1 _ I1 q1) fun u s2 ⟨y,H2,I2,r2,q2⟩ =>
  thn (ho HV s2 σ H2 x y v u _ I2 r1 r2 q2) fun d s3 ⟨z,H3,I3,r3,k,e,q3⟩=>?_)) hm
 subst e;cases r3;refine wpAny_truthy_bool ?_
 cases k with
 | false =>
  obtain⟨k',e',q'⟩:=q3;cases e';exact ite_ff ⟨H3,I3,q'⟩
 | true =>
  refine ite_tt (test_last (thn (hc HV s3 σ H3 _ I3 q3) fun w' s4 ⟨z',H4,I4,r4,q4⟩=>thn (ho' HV s4 σ H4 y z' u w' _ I4 r2 r4 q4) fun d' s5 ⟨z2,H5,I5,r5,k2,e2,q5⟩=>?_));subst e2;cases r5;exact wpAny_truthy_bool ⟨H5,I5,q5⟩
def TruV(K:qad)(x:V)(H:Hp)(k:Bool):Prop :=
 match x with
 | .non=>k=false
 | .bl b=>k=b
 | .int i=>k=(i != 0)
 | .str y=>y.length<=sizeLine/\k=((y.length:Int) != 0)
 | .byt y=>y.size<=sizeLine/\k=((y.size:Int) != 0)
 | .ref p=>(∃xs,SqL K H p xs/\k=!xs.isEmpty)\/(∃xs,SqT K H p xs/\k=!xs.isEmpty)\/∃kvs,H p=some (.dK kvs)/\k=!kvs.isEmpty
 | _=>False
def wq{κ:Type}{kvs:List (κ × V)}{vs:List (κ × Value)}(r:KV kvs vs):(!vs.isEmpty)=!kvs.isEmpty:=by
 cases r <;> rfl
def m8(r:az xs its):(!its.toArray.isEmpty)=!xs.isEmpty:=by
 cases r <;> simp
def iN:(sizeLine:Nat)<2 ^ 63:=by rw[sizeLine_eq];decide
def tq:TruR X (fun x H Q=>∃k,TruV X.K x H k/\Q k H):=by
 intro HV s σ H x v Q I rx h;obtain⟨k,e,q⟩:=h;have hl:=iN;have hs:sizeLine=16777216:=sizeLine_eq
 cases x with
 | non =>
  cases rx;have e':k=false:=e;subst e';exact truthy_none ⟨H,I,q⟩
 | bl b =>
  cases rx;have e':k=b:=e;subst e';exact wpAny_truthy_bool ⟨H,I,q⟩
 | int i =>
  obtain⟨t,rfl⟩:=rx;have e':k=(i != 0):=e;subst e';exact PySem.P.truthy_int ⟨H,I,q⟩
 | str y =>
  obtain⟨t,rfl⟩:=rx;obtain⟨hy,e'⟩:y.length<=sizeLine/\k=((y.length:Int) != 0):=e;subst e';exact PySem.P.truthy_str (by ext) ⟨H,I.tok _,q⟩
 | byt y =>
  obtain⟨t,rfl⟩:=rx;obtain⟨hy,e'⟩:y.size<=sizeLine/\k=((y.size:Int) != 0):=e;subst e';exact PySem.W.truthy_bytes (by ext) ⟨H,I.tok _,q⟩
 | ref p =>
  cases rx;have e':(∃xs,SqL X.K H p xs/\k=!xs.isEmpty)\/(∃xs,SqT X.K H p xs/\k=!xs.isEmpty)\/∃kvs,H p=some (.dK kvs)/\k=!kvs.isEmpty:=e;rcases e' with ⟨xs,hx,e'⟩|⟨xs,hx,e'⟩|⟨kvs,hx,e'⟩
  ·subst e';obtain⟨its,r,pl,hz⟩:=I.list hx;have hlen:=r.length;exact wpAny_truthy_list pl.isList (by simp only[qaj];ext) ⟨H,I.tok _,by rw[m8 r];exact q⟩
  ·subst e';obtain⟨its,r,pl,hz⟩:=I.tuple hx;have hlen:=r.length;exact truthy_tuple pl (by simp only[qaj];ext) ⟨H,I.tok _,by rw[m8 r];exact q⟩
  ·subst e';obtain⟨hz,hS,vs,r,m⟩:kvs.length<=sizeLine/\(p == sysModules)=false/\∃vs,KV kvs vs/\s.heap.DictOf (oG X.prog X.w) p vs:=I.hok p _ hx;have hlen:kvs.length=vs.length:=Paired.length r;exact wpAny_truthy_dict hS m (by ext) ⟨H,I.tok _,by rw[wq r];exact q⟩
 | _=>exact (show False from e).elim
def wc:OpR X (binaryOp .Add) (fun x y H Q=>∃i j,x=.str i/\y=.str j/\i.length+j.length<=sizeLine/\Q (.str (i++j)) H):=by
 intro HV s σ H x y v u Q I rx ry h;obtain⟨i,j,rfl,rfl,hz,q⟩:=h;obtain⟨t,rfl⟩:=rx;obtain⟨t',rfl⟩:=ry;exact add_str (fun t' tk=>⟨.str (i++j),H,I.tok _,⟨_,rfl⟩,q⟩) hz
def dM(r:az [x] us):∃u,us=[u]/\bh x u:=by
 cases r with
 | cons r1 r2=>cases r2;exact⟨_,rfl,r1⟩
def vals2(r:az [x,y] us):∃u w',us=[u,w']/\bh x u/\bh y w':=by
 cases r with
 | cons r1 r2 =>
  cases r2 with
  | cons r3 r4=>cases r4;exact⟨_,_,rfl,r1,r3⟩
def AJ:cu X (.builtin "abs") (fun xs H Q=>∃i,xs=[.int i]/\Q (.int (if i<0 then -i else i)) H):=by
 intro HV s σ H xs us Q I r h;obtain⟨i,rfl,q⟩:=h;obtain⟨u,rfl,t,rfl⟩:=dM r;exact call_abs_int fun u tk=>⟨.int (if i<0 then -i else i),H,I.tok _,⟨_,rfl⟩,q⟩
def pX(hc:X.calm=true):cu X (.builtin "max") (fun xs H Q=>∃i j,xs=[.int i,.int j]/\Q (.int (if j>i then j else i)) H):=by
 intro HV s σ H xs us Q I r h;obtain⟨i,j,rfl,q⟩:=h;obtain⟨u,w',rfl,⟨t,rfl⟩,⟨t',rfl⟩⟩:=vals2 r;refine max_two_ints (I.ok.hd hc) fun h' tk k=>⟨_,H,I.kept k,?_,q⟩;by_cases hj:j>i
 ·rw[qaf hj,qaf hj];exact⟨_,rfl⟩
 ·rw[qak hj,qak hj];exact⟨_,rfl⟩
def qz(hc:X.calm=true):cu X (.builtin "min") (fun xs H Q=>∃i j,xs=[.int i,.int j]/\Q (.int (if j<i then j else i)) H):=by
 intro HV s σ H xs us Q I r h;obtain⟨i,j,rfl,q⟩:=h;obtain⟨u,w',rfl,⟨t,rfl⟩,⟨t',rfl⟩⟩:=vals2 r;refine min_two_ints (I.ok.hd hc) fun h' tk k=>⟨_,H,I.kept k,?_,q⟩;by_cases hj:j<i
 ·rw[qaf hj,qaf hj];exact⟨_,rfl⟩
 ·rw[qak hj,qak hj];exact⟨_,rfl⟩
def pK:cu X (.type "int") (fun xs H Q=>(∃i,xs=[.int i]/\Q (.int i) H)\/∃k,xs=[.bl k]/\Q (.int (if k then 1 else 0)) H):=by
 intro HV s σ H xs us Q I r h;rcases h with ⟨i,rfl,q⟩|⟨k,rfl,q⟩
 ·obtain⟨u,rfl,t,rfl⟩:=dM r;exact call_int_int ⟨.int i,H,I,⟨_,rfl⟩,q⟩
 ·obtain⟨u,rfl,r1⟩:=dM r;cases r1;exact call_int_bool ⟨.int (if k then 1 else 0),H,I.tok _,⟨_,rfl⟩,q⟩
def LenV(K:qad)(x:V)(H:Hp)(n:Nat):Prop :=
 match x with
 | .str y=>y.length<=sizeLine/\n=y.length
 | .byt y=>y.size<=sizeLine/\n=y.size
 | .ref p=>(∃xs,SqL K H p xs/\n=xs.length)\/∃xs,SqT K H p xs/\n=xs.length
 | _=>False
def jZ:cu X (.builtin "len") (fun xs H Q=>∃x n,xs=[x]/\LenV X.K x H n/\Q (.int n) H):=by
 intro HV s σ H xs us Q I r h;obtain⟨x,n,rfl,e,q⟩:=h;obtain⟨u,rfl,rx⟩:=dM r;have hl:=iN;have hs:sizeLine=16777216:=sizeLine_eq
 cases x with
 | str y =>
  obtain⟨t,rfl⟩:=rx;obtain⟨hy,e'⟩:y.length<=sizeLine/\n=y.length:=e;subst e';exact len_str (by ext) ⟨.int _,H,I.tok _,⟨_,rfl⟩,q⟩
 | byt y =>
  obtain⟨t,rfl⟩:=rx;obtain⟨hy,e'⟩:y.size<=sizeLine/\n=y.size:=e;subst e';exact PySem.W.len_bytes (by ext) ⟨.int _,H,I.tok _,⟨_,rfl⟩,q⟩
 | ref p =>
  cases rx;have e':(∃xs,SqL X.K H p xs/\n=xs.length)\/∃xs,SqT X.K H p xs/\n=xs.length:=e;rcases e' with ⟨xs,hx,e'⟩|⟨xs,hx,e'⟩
  ·subst e';obtain⟨its,r',pl,hz⟩:=I.list hx;have hlen:=r'.length;exact Calls.call_len_list pl.isList (by simp only[qaj];ext) ⟨.int xs.length,H,I.tok _,⟨_,by simp only[qaj];rw[hlen]⟩,q⟩
  ·subst e';obtain⟨its,r',pl,hz⟩:=I.tuple hx;have hlen:=r'.length;exact len_tuple pl (by simp only[qaj];ext) ⟨.int xs.length,H,I.tok _,⟨_,by simp only[qaj];rw[hlen]⟩,q⟩
 | _=>exact (show False from e).elim
end
section
variable {prog:Program} {w:World} {A:Around} {E:Value→Shared→Prop} {s:Shared} {K:qad} {x dx C f:Addr} {mA:Str→Option Value} {name:Str} {v:Value}
end
section
variable {P:Program} {w:World} {H H':Hp} {h h':Heap} {a C dx:Addr} {fs fs':List (Str × V)}
end
section
variable {X:Cx} {HV:List (Addr × Obj)} {σ:St} {H:Hp} {s:Shared} {a C dx:Addr} {fs:List (Str × V)} {f:Str} {v:V} {A:Around} {E:Value→Shared→Prop}
end
section
variable {X:Cx} {o e value:Expr} {f:Str} {pos pos' tpos:Pos} {ta tv:TE}
end
section
variable {X:Cx} {HV:List (Addr × Obj)} {σ:St} {H:Hp} {s:Shared} {A:Around} {E:Value→Shared→Prop} {Q:Value→Shared→Prop} {c:Value} {b:Bool}
end
structure Room (k:Nat) (A:Around):Prop where
 hd:A.handled=none
 dp:A.depth+3 * k+5<recursionLimit
 un:A.units+16 * k+200<cLine
 gd:A.guards=some []
def Room.mono(r:Room k A)(h:j<=k):Room j A:=⟨r.hd,by have:=r.dp;ext,by have:=r.un;ext,r.gd⟩
def Room.deeper(r:Room (k+1) A)(env:Env):Room k (A.deeper env) :=
 ⟨r.hd,by have:=r.dp;show A.depth+1+3 * k+5<_;ext,by have:=r.un;show A.units+3+16 * k+200<_;ext,r.gd⟩
def Room.depth(r:Room k A):A.depth<recursionLimit:=by have:=r.dp;ext
def Room.units(r:Room k A):A.units+64<cLine:=by have:=r.un;ext
def tNil:TA:=fun _ H Q=>Q [] H
def tCons(ta:TE)(tr:TA):TA:=fun σ H Q=>ta σ H fun x H1=>tr σ H1 fun xs H2=>Q (x::xs) H2
section
variable {X:Cx} {e:Expr} {es:List Expr} {te:TE} {t:TA} {pos:Pos}
def kM:PA X [] tNil:=fun _ _ _ _ H Q I h=>Calls.spliced_nil ⟨[],H,I,.nil,h⟩
def gh(ha:PE X e te)(hr:PA X es t)(hs:starEach (e::es) X.env=(false,eval e X.env)::starEach es X.env:=by rfl):PA X (e::es) (tCons te t):=by
 intro pos HV s σ H Q I h;rw[hs];show wpAny _ _ (spliced ((false,eval e X.env)::backTo pos (starEach es X.env))) _ _ s;refine Calls.spliced_cons (thn (ha HV s σ H _ I h) fun u s1 ⟨x,H1,I1,r1,q1⟩=>?_);exact thn (hr pos HV s1 σ H1 _ I1 q1) fun us s2 ⟨xs,H2,I2,r2,q2⟩=>⟨x::xs,H2,I2,.cons r1 r2,q2⟩
def tTup(t:TA):TE:=fun σ H Q=>t σ H fun xs H1=>xs.length<=sizeLine/\∀p,H1 p=none->Q (.ref p) (upd H1 p (.tup xs))
def tLst(t:TA):TE:=fun σ H Q=>t σ H fun xs H1=>xs.length<=sizeLine/\∀p,H1 p=none->Q (.ref p) (upd H1 p (.lst xs))
def pe_tup{x1}(h:PA X es t):PE X (.Tuple es x1 pos) (tTup t):=by
 intro HV s σ H Q I hq;refine wpAny_Tuple_spliced (thn (h pos HV s σ H _ I hq) fun us s1 ⟨xs,H1,I1,r,z,q⟩=>⟨by rw[<-r.length];exact z,?_⟩);have hf:H1 s1.heap.objs.size=none:=I1.hok.fresh (qag _);refine⟨.ref s1.heap.objs.size,upd H1 s1.heap.objs.size (.tup xs),I1.laid (t':=s1.toks) (fun b u e=>qab _ e) (qag _) ?_,rfl,q _ hf⟩;exact⟨z,us,r,⟨_,qap _ rfl,rfl,⟨_,rfl⟩,rfl⟩⟩
def pe_lst(h:PA X es t):PE X (.List es pos) (tLst t):=by
 intro HV s σ H Q I hq;refine wpAny_List_spliced (thn (h pos HV s σ H _ I hq) fun us s1 ⟨xs,H1,I1,r,z,q⟩=>⟨by rw[<-r.length];exact z,?_⟩);have hf:H1 s1.heap.objs.size=none:=I1.hok.fresh (qag _);refine⟨.ref s1.heap.objs.size,upd H1 s1.heap.objs.size (.lst xs),I1.laid (t':=s1.toks) (fun b u e=>qab _ e) (qag _) ?_,rfl,q _ hf⟩;exact⟨z,us,0,r,qap _ rfl⟩
end
abbrev Sp:=List V->Hp->VK->XK->Prop
abbrev CXT:=List Env->Hp->Shared->XK->Value->Shared->Prop
structure Env0 (P:Program) (w:World) (K:qad) (mg:Str->Option Value) (base:Heap) (A:Around) (outer:List Env) (s:Shared) (H:Hp):Prop where
 frames:A.frames=some outer
 mod:Mod K mg base
 bs:∀b o,base.get? b=some o->s.heap.get? b=some o/\H b=none
 bsz:base.objs.size<=s.heap.objs.size
 funs:s.heap.FunFrames base outer
 frf:∀b∈frs outer,H b=none
 hok:HOk P w H s.heap
 bare:AllBare s.gens
inductive CE (outer:List Env) (P:Program) (w:World) (H:Hp) (s:Shared) (Q:VK) (u:Value) (s':Shared):Prop
 | mk (v:V) (H':Hp) (o:s'.os=s.os) (b:AllBare s'.gens) (n:Un (frs outer) [] H H' s.heap s'.heap) (k:HOk P w H' s'.heap) (r:bh v u) (q:Q v H'):CE outer P w H s Q u s'
def CR(CX:CXT)(outer:List Env)(P:Program)(w:World)(H:Hp)(s:Shared)(Q:VK)(E:XK)(r:Result)(s':Shared):Prop :=
 match r with
 | .ok (.ret u)=>CE outer P w H s Q u s'
 | .ok _=>False
 | .error e=>CX outer H s E e s'
structure FnOk (P:Program) (w:World) (K:qad) (mg:Str->Option Value) (base:Heap) (CX:CXT) (k:Nat) (f:Addr) (fd:FuncData) (ps:List Str) (sp:Sp):Prop where
 len:∀vs H Q E,sp vs H Q E->vs.length=ps.length
 run:∀(A:Around) (outer:List Env) (s:Shared) (H:Hp) (args:Args) (us:List Value) (vs:List V) (Q:VK) (E:XK),Room k A->Env0 P w K mg base A outer s H->BindsTo s fd args (ps.zip us)->az vs us->sp vs H Q E ->
  codeAny (model P w) A (.call (.ref f) args) (CR CX outer P w H s Q E) s
def FnOk.mono{P:Program}{w:World}{K:qad}{mg:Str->Option Value}{base:Heap}{CX:CXT}{j k:Nat}{f:Addr}{fd:FuncData}{ps:List Str}{sp:Sp}(F:FnOk P w K mg base CX j f fd ps sp)(h:j<=k) :
  FnOk P w K mg base CX k f fd ps sp:=⟨F.len,fun A outer s H args us vs Q E hr=>F.run A outer s H args us vs Q E (hr.mono h)⟩
def FnOk.imp{P:Program}{w:World}{K:qad}{mg:Str->Option Value}{base:Heap}{CX:CXT}{k:Nat}{f:Addr}{fd:FuncData}{ps:List Str}{sp sp':Sp}(F:FnOk P w K mg base CX k f fd ps sp)
  (h:∀vs H Q E,sp' vs H Q E->sp vs H Q E):FnOk P w K mg base CX k f fd ps sp' :=
 ⟨fun vs H Q E q=>F.len vs H Q E (h _ _ _ _ q),fun A outer s H args us vs Q E hr he hb hv hs=>F.run A outer s H args us vs Q E hr he hb hv (h _ _ _ _ hs)⟩
section
variable {X:Cx} {HV:List (Addr × Obj)} {σ:St} {H:Hp} {s s':Shared}
def Inv.env0(I:Inv X HV σ H s):Env0 X.prog X.w X.K X.mg X.base X.A X.stack s H :=
 ⟨I.ok.frames,I.ok.mod,I.bs,qaD I.ok.bsz I.sz,I.stack,I.stkFree,I.hok,I.bare⟩
def Inv.after(I:Inv X HV σ H s)(h:CE X.stack X.prog X.w H s Q u s'):EP X HV σ Q u s':=by
 obtain⟨v,H',os,bare,un,hok,r,q⟩:=h;obtain⟨hh,g,d,t,os'⟩:=s';obtain rfl:os'=s.os:=os;exact⟨v,H',I.call (h':=hh) (g':=g) (d':=d) (t':=t) (ch:=[]) un hok bare (fun b z=>absurd z (by simp)),r,q⟩
end
def nF(K:qad)(fd:FuncData)(ps:List Str)(ds:List Value):Prop :=
 ∀(s:Shared) (us:List Value),K.In s.heap->(us++ds).length=ps.length->BindsTo s fd ⟨us,[]⟩ (ps.zip (us++ds))
def nF.all{K:qad}{fd:FuncData}{ps:List Str}(h:∀us:List Value,us.length=ps.length->bindArgs fd ⟨us,[]⟩=pure (ps.zip us)):nF K fd ps []:=fun s us _ hl=>by
 rw[qck] at hl ⊢;exact .of_eq (h us hl)
section
variable {X:Cx} {CX:CXT} {k:Nat} {f C:Addr} {fd:FuncData} {ps:List Str} {sp:Sp} {dvs:List V} {ds:List Value} {E:XK} {x m:Str} {p pos apos:Pos} {e o:Expr} {es:List Expr} {ta:TE} {t:TA}
end
section
variable {X:Cx} {CX:CXT} {k:Nat} {f C:Addr} {fd:FuncData} {ps ks:List Str} {sp:Sp} {E:XK} {x m:Str} {p pos apos kpos:Pos} {e o:Expr} {es:List Expr} {kws:List Keyword} {te ta:TE} {t tk:TA} {nm:Option Str} {g:List Value→List Value→List Value} {gV:List V→List V→List V}
end
structure FnScope (N P:List Str) (sc:Scope):Prop where
 kind:sc.kind=.function
 co:sc.isCoroutine=false
 gen:sc.isGenerator=false
 nd:N.Nodup
 pre:N.take P.length=P
 par:∀x∈P,sc.names.lookup x=some .local\/sc.names.lookup x=some .cell
 nofree:∀y∈sc.names,y.2≠.free
def qG{kindOf:Str->Option NameKind}{x:Str}:∀{binds:List (Str × Value)} {m:Str->Option Value},(∀v,(x,v)∉binds)->bindL kindOf binds m x=m x
 | [],_,_=>rfl
 | (n,v)::r,m,h=>by
  unfold bindL;rw[qG fun w hw=>h w (qai _ hw)];split
  ·have:x≠n:=by rintro rfl;exact h v qaL
   simp[this]
  ·rfl
def qK{kindOf:Str->Option NameKind}{x:Str}:∀{binds:List (Str × Value)} {m:Str->Option Value},(∀v,(x,v)∉binds)->bindC kindOf binds m x=m x
 | [],_,_=>rfl
 | (n,v)::r,m,h=>by
  unfold bindC;rw[qK fun w hw=>h w (qai _ hw)];split
  ·rfl
  ·have:x≠n:=by rintro rfl;exact h v qaL
   simp[this]
def pS{kindOf:Str->Option NameKind}{x:Str}{v:Value}:∀{P:List Str} {vs:List Value} {i:Nat} {m:Str->Option Value},P.Nodup->P[i]?=some x->vs[i]?=some v->kindOf x=some .local ->
  bindL kindOf (P.zip vs) m x=some v
 | [],_,_,_,_,h,_,_=>by simp at h
 | _::_,[],_,_,_,_,h,_=>by simp at h
 | p::P,w::vs,0,m,nd,h1,h2,hk=>by
  simp at h1 h2;subst h1;subst h2;show bindL kindOf ((p,w)::P.zip vs) m p=_;unfold bindL;rw[qG fun v hv=>(qbL.mp nd).1 (qcR hv).1,qaf hk];simp
 | p::P,w::vs,i+1,m,nd,h1,h2,hk=>by
  show bindL kindOf ((p,w)::P.zip vs) m x=_;unfold bindL;exact pS (i:=i) (qbL.mp nd).2 (by simpa using h1) (by simpa using h2) hk
def pQ{kindOf:Str->Option NameKind}{x:Str}{v:Value}:∀{P:List Str} {vs:List Value} {i:Nat} {m:Str->Option Value},P.Nodup->P[i]?=some x->vs[i]?=some v->kindOf x≠some .local ->
  bindC kindOf (P.zip vs) m x=some v
 | [],_,_,_,_,h,_,_=>by simp at h
 | _::_,[],_,_,_,_,h,_=>by simp at h
 | p::P,w::vs,0,m,nd,h1,h2,hk=>by
  simp at h1 h2;subst h1;subst h2;show bindC kindOf ((p,w)::P.zip vs) m p=_;unfold bindC;rw[qK fun v hv=>(qbL.mp nd).1 (qcR hv).1,qak hk];simp
 | p::P,w::vs,i+1,m,nd,h1,h2,hk=>by
  show bindC kindOf ((p,w)::P.zip vs) m x=_;unfold bindC;exact pQ (i:=i) (qbL.mp nd).2 (by simpa using h1) (by simpa using h2) hk
def start(N:List Str)(vs:List V):St:=vs.map some++List.replicate (N.length - vs.length) none
def rF(CX:CXT)(P:Program)(w:World)(K:qad)(mg:Str->Option Value)(base:Heap)(N:List Str)(qual:Str)(scope:Scope)(f:Addr)(cd:Value)(A:Around)(outer:List Env)(s:Shared)(H:Hp)(E:XK):Cx where
 prog:=P
 w:=w
 K:=K
 mg:=mg
 base:=base
 A:=A.deeper (envOfC qual scope s.heap.objs.size f cd)
 N:=N
 s₀:=s
 H₀:=H
 env:=envOfC qual scope s.heap.objs.size f cd
 outer:=outer
 stack:=envOfC qual scope s.heap.objs.size f cd::outer
 ex:=[]
 calm:=true
 fn:=fun _=>true
 pn:=[]
 xe:=fun e s'=>wpAny (model P w) (A.deeper (envOfC qual scope s.heap.objs.size f cd)) (leaving (envOfC qual scope s.heap.objs.size f cd) e) (fun _ s''=>CX outer H s E e s'') (fun e' s''=>CX outer H s E e' s'') s'
def t6{sc:Scope}{n:Nat}{x:Str}(h:sc.names.lookup x=some .cell):∃c,(cellsFrom n sc.names []).lookup x=some c:=by
 have q:=PySem.W.cellsFrom_some sc.names n [] (.inl h);exact Option.isSome_iff_exists.mp q
def yj{CX:CXT}{P:Program}{w:World}{K:qad}{mg:Str->Option Value}{base:Heap}{N ps:List Str}{qual:Str}{scope:Scope}{f:Addr}{cd:Value}{A:Around}{outer:List Env}{s s1:Shared}{H:Hp}{E:XK}{us:List Value}{vs:List V}
  (S:FnScope N ps scope) (hd:A.handled=none) (e0:Env0 P w K mg base A outer s H) (hl:vs.length=ps.length) (r:az vs us)
  (x:InCallC s s.heap.objs.size (bindL (envOfC qual scope s.heap.objs.size f cd).kindOf (ps.zip us) fun _=>none) (cellsFrom (s.heap.objs.size+1) scope.names []) (bindC (envOfC qual scope s.heap.objs.size f cd).kindOf (ps.zip us) fun _=>none) s1) :
  Inv (rF CX P w K mg base N qual scope f cd A outer s H E) [] (start N vs) H s1:=by
 have hpl:ps.length<=N.length:=by have:=congrArg List.length S.pre;rw[qbR] at this;ext
 obtain⟨h1,tk,rfl,hk⟩:=x.done;have noA:∀b:Addr,b∉(rF CX P w K mg base N qual scope f cd A outer s H E).ex:=fun b z=>absurd (show b∈([]:List Addr) from z) (by simp)
 refine⟨⟨e0.mod,S.kind,rfl,rfl,qag _,fun y z c h1 h2=>?_,fun y hy=>?_,fun y c _ h=>?_,fun _=>hd,Around.frames_deeper e0.frames,.inr ⟨rfl,rfl⟩,fun b z=>absurd z (noA b),e0.bs,e0.bsz,fun b _ _=>noA b,fun b z=>absurd z (noA b),e0.funs,e0.frf⟩,
  rfl,e0.bare,Un.kept hk,⟨_,x.toInCall.ns,fun i y v h1 h2 h3=>?_⟩,fun y c h=>⟨_,x.cell y c h⟩,e0.hok.fresh (qag _),fun y c h=>?_,fun p hp=>absurd (show p∈([]:List (Addr × Obj)) from hp) (by simp),e0.hok.kept hk,?_⟩
 ·exact name_of_addr x.apart (PySem.mem_of_lookup h1) (PySem.mem_of_lookup h2)
 ·have hy:scope.names.lookup y=some .cell\/scope.names.lookup y=some .free:=hy;rcases hy with hy|hy
  ·exact t6 hy
  ·exact absurd rfl (S.nofree _ (PySem.mem_of_lookup hy))
 ·exact qcj (x.above y c (PySem.mem_of_lookup h))
 ·have hi:i<vs.length:=by
   unfold start at h2;by_cases hi:i<vs.length
   ·exact hi
   ·rw[qaA (by simpa using hi)] at h2;rw[qbs] at h2
    split at h2 <;> cases h2
  have ha:vs[i]?=some v:=by
   unfold start at h2;rw[qam (by simpa using hi),qao] at h2
   cases e:vs[i]? with
   | none=>rw[e] at h2;cases h2
   | some a=>rw[e] at h2;cases h2;rfl
  obtain⟨u,hu,rv⟩:=r.get ha;have hp:ps[i]?=some y:=by
   rw[<-S.pre,qby (by ext)];exact h1
  have ndP:ps.Nodup:=by rw[<-S.pre];exact S.nd.sublist (List.take_sublist _ _)
  refine⟨u,rv,?_⟩;rcases S.par y (qaI hp) with k|k
  ·exact .inl ⟨k,pS ndP hp hu k⟩
  ·obtain⟨c,e⟩:=t6 (n:=s.heap.objs.size+1) k;refine .inr ⟨.inl k,c,e,?_⟩;have q:=x.cell y c e;rw[pQ ndP hp hu (by show scope.names.lookup y≠_;rw[k];decide)] at q;exact q
 ·exact e0.hok.fresh (qcj (x.above y c (PySem.mem_of_lookup h)))
 ·unfold start;show _=N.length;rw[qay,qat,qbI];ext
def fn_of{CX:CXT}{P:Program}{w:World}{K:qad}{mg:Str->Option Value}{base:Heap}{k:Nat}{f:Addr}{name qual:Str}{params:Arguments}{body:List Stmt}{scope:Scope}{dV kV doc pm cdv ct oc:Value}{an od:Option Addr}
  {osl:Array (Option Value)} {N ps:List Str} {sp:Sp} (lk:K.lookup f=some ⟨oc,od,.func (PySem.W.fnOf name qual params body scope dV kV doc pm an cdv ct),osl⟩) (hcd:PySem.W.codeIn K cdv qual=true) (S:FnScope N ps scope)
  (len:∀vs H Q E,sp vs H Q E->vs.length=ps.length)
  (hbody:∀(A:Around) (outer:List Env) (s:Shared) (H:Hp) (vs:List V) (Q:VK) (E:XK),Room k (A.deeper (envOfC qual scope s.heap.objs.size f cdv))->sp vs H Q E ->
   ∃t,PSs (rF CX P w K mg base N qual scope f cdv A outer s H E) body t/\t { nx:=fun _ H'=>Q .non H',rt:=Q} (start N vs) H) :
  FnOk P w K mg base CX (k+1) f (PySem.W.fnOf name qual params body scope dV kV doc pm an cdv ct) ps sp:=by
 refine⟨len,fun A outer s H args us vs Q E hr e0 hb r hsp=>?_⟩;have hl:=len _ _ _ _ hsp;have KX:K.In s.heap:=e0.mod.kin.keeps fun b o e=>(e0.bs b o e).1;have lim:s.heap.NoLimit:=e0.mod.nolimit.keeps fun b o e=>(e0.bs b o e).1;have hkind:∀y∈ps.zip us,scope.names.lookup y.1=some .local\/(scope.names.lookup y.1=some .cell/\((cellsFrom (s.heap.objs.size+1) scope.names []).lookup y.1).isSome=true):=fun ⟨n,v⟩ hy=>by
  rcases S.par n (qcR hy).1 with q|q
  ·exact .inl q
  ·exact .inr ⟨q,PySem.W.cellsFrom_some _ _ _ (.inl q)⟩
 refine codeAny_call_function hr.depth (KX _ _ lk) rfl S.co S.gen rfl (PySem.W.codeRec_of KX hcd) (hb _ _ _ _ ?_);refine wpAny_newFunctionEnv_cells S.kind hkind fun env he s1 x=>?_;subst he;refine⟨lim.keeps x.toInCall.keep,codeAny_func ?_⟩;obtain⟨t,ht,hq⟩:=hbody A outer s H vs Q E (hr.deeper _) hsp;have I:Inv (rF CX P w K mg base N qual scope f cdv A outer s H E) [] (start N vs) H s1:=yj S hr.hd e0 hl r x;refine wpAny_mono (ht [] s1 (start N vs) H _ I hq) (fun fl s' hs=>?_) fun e s' hs=>hs;have fin:∀{σ':St} {H':Hp} {v:V} {u:Value},Inv (rF CX P w K mg base N qual scope f cdv A outer s H E) [] σ' H' s'->bh v u->Q v H'->CE outer P w H s Q u s' :=
  fun {σ' H' v u} J rv q=>⟨v,H',J.os,J.bare,J.base,J.hok,rv,q⟩
 cases fl with
 | ret u =>
  obtain⟨v,σ',H',J,rv,q⟩:=hs;exact fin J rv q
 | next =>
  obtain⟨σ',H',J,q⟩:=hs;exact fin (v:=V.non) (u:=Value.none) J rfl q
 | brk =>
  obtain⟨_,_,_,q⟩:=hs;exact False.elim q
 | cont =>
  obtain⟨_,_,_,q⟩:=hs;exact False.elim q
section
variable {X:Cx} {x:Str} {p pos:Pos} {e:Expr} {es:List Expr} {t:TA} {id T:String} {r:List V→Hp→VK→Prop}
def tCB(r:List V->Hp->VK->Prop)(t:TA):TE:=fun σ H Q=>t σ H fun vs H1=>r vs H1 Q
def jo(hc:cu X (.builtin id) r)(hg:Gl X x)(hm:X.mg x=none)(hv:bootBuiltins x=some (.builtin id))(ha:PA X (e::es) t)(hn:x≠"__name__":=by decide)(hdb:(x == ("__debug__":Str))=false:=by decide)
  (he:starEach (e::es) X.env=(false,eval e X.env)::starEach es X.env:=by rfl) (hpl:(backTo pos (starEach es X.env)).any (·.1)=false:=by rfl):PE X (.Call (.Name x p) (e::es) [] pos) (tCB r t):=by
 intro HV s σ H Q I h;refine wpAny_Call_Name_kw (ft I hg hm hv ?_ hn hdb);exact PyProof.Rows.callWith_builtin1 (thn (ha pos HV s σ H _ I h) fun us s1 ⟨vs,H1,I1,r1,q1⟩=>hc HV s1 σ H1 vs us Q I1 r1 q1) he hpl
def iu(hc:cu X (.type T) r)(hg:Gl X x)(hm:X.mg x=none)(hv:bootBuiltins x=some (.type T))(ha:PA X (e::es) t)(hn:x≠"__name__":=by decide)(hdb:(x == ("__debug__":Str))=false:=by decide)
  (he:starEach (e::es) X.env=(false,eval e X.env)::starEach es X.env:=by rfl) (hpl:(backTo pos (starEach es X.env)).any (·.1)=false:=by rfl):PE X (.Call (.Name x p) (e::es) [] pos) (tCB r t):=by
 intro HV s σ H Q I h;refine wpAny_Call_Name_kw (ft I hg hm hv ?_ hn hdb);exact PyProof.Rows.callWith_type1 (thn (ha pos HV s σ H _ I h) fun us s1 ⟨vs,H1,I1,r1,q1⟩=>hc HV s1 σ H1 vs us Q I1 r1 q1) he hpl
end
end L2
namespace HT
open PySem PyProof.Rows
section
open PySem.SeqAt
open PySem.AutoSeq1 (wpAny_loadPart')
open PySem.MeetsSeq PySem.MeetsSeq2 PySem.MeetsSeq3
end
section
variable {prog:Program} {w:World} {A:Around} {E:Value→Shared→Prop} {s:Shared}
def cat_tup(ht:IsTup s.heap t vs.toArray)(hb:IsTup s.heap b ws.toArray)(hv:vs≠[])
  (h1:ws=[]->Q (.ref t) s) (h2:ws≠[]->Q (.ref s.heap.objs.size) { s with heap:=s.heap.push { cls:=.type "tuple",data:=.seq (vs++ws).toArray}})
  (hsz:vs.length+ws.length<=sizeLine):wpAny (model prog w) A (binaryOp .Add (.ref t) (.ref b)) Q E s:=by
 obtain⟨⟨cls,dd,data,sl⟩,ho,hc,n,hd⟩:=id ht;obtain⟨⟨cls2,dd2,data2,sl2⟩,ho2,hc2,n2,hd2⟩:=id hb;simp only at hc hd hc2 hd2;subst hc hd hc2 hd2;have e:vs.toArray++ws.toArray=(vs++ws).toArray:=by simp
 by_cases hw:ws=[]
 ·exact concat_meets ⟨_,ho,rfl⟩ ⟨_,ho2,rfl⟩ noFill_tuple_add seq_tuple_add PySem.F.slot_tuple_add PySem.F.entry_tuple_add (PySem.F.args_tuple_add_2 _ _)
   (tuple_addW1 t b vs.toArray ws.toArray n n2 dd dd2 sl sl2 (by simpa using hv) (by simp[hw])) ⟨ho,ho2,h1 hw⟩
 ·refine concat_meets ⟨_,ho,rfl⟩ ⟨_,ho2,rfl⟩ noFill_tuple_add seq_tuple_add PySem.F.slot_tuple_add PySem.F.entry_tuple_add (PySem.F.args_tuple_add_2 _ _)
   (tuple_addW2 t b vs.toArray ws.toArray n n2 dd dd2 sl sl2 (by simpa using hv) (by simpa using hw) (by rw[qaj,qaj];exact hsz)) ⟨ho,ho2,?_⟩
  rw[e];exact h2 hw
def sIx(n d:Nat):Option Int->Nat
 | none=>d
 | some v=>if v<0 then (v+(n:Int)).toNat else min v.toNat n
def mL(n d:Nat):sIx n d none=d:=rfl
def pe(n d k:Nat):sIx n d (some (k:Int))=min k n:=by
 show (if (k:Int)<0 then ((k:Int)+(n:Int)).toNat else min (k:Int).toNat n)=min k n;rw[qak (by ext),qaQ]
def sIx_le(n d:Nat)(hd:d<=n)(o:Option Int):sIx n d o<=n:=by
 cases o with
 | none=>exact hd
 | some v =>
  show (if v<0 then (v+(n:Int)).toNat else min v.toNat n)<=n;by_cases hv:v<0
  ·rw[qaf hv];ext
  ·rw[qak hv];exact Nat.min_le_right _ _
def u5(v:Int)(n d:Nat):(if v<0 then max (v+(n:Int)) 0 else min v (n:Int))=((sIx n d (some v):Nat):Int):=by
 show (if v<0 then max (v+(n:Int)) 0 else min v (n:Int))=(((if v<0 then (v+(n:Int)).toNat else min v.toNat n):Nat):Int);by_cases hv:v<0
 ·simp only[qaf hv];ext
 ·simp only[qak hv];ext
def wG(lo hi:Option Int)(n:Nat):Builtin.Slice.sliceAdjust lo hi 1 (n:Int)=(((sIx n 0 lo:Nat):Int),((sIx n n hi:Nat):Int)):=by
 have h1:¬((1:Int)<0):=by ext
 unfold Builtin.Slice.sliceAdjust;simp only[h1,if_false];refine Prod.ext ?_ ?_
 ·cases lo with
  | none=>rfl
  | some v=>exact u5 v n 0
 ·cases hi with
  | none=>rfl
  | some v=>exact u5 v n n
def wN(i j:Nat):Builtin.Slice.slicePlaces (i:Int) (j:Int) 1=j - i:=by
 unfold Builtin.Slice.slicePlaces;have h1:(1:Int)>0:=by ext
 simp only[h1,if_true,qdf]
 split <;> ext
def oj(p:IsPart v o)(h:Q o s):wpAny (model prog w) A (Builtin.Slice.slicePartIndex v) Q E s:=by
 cases p with
 | none=>exact slicePart_none h
 | int i t=>exact slicePart_int h
def mw{sl:Addr}{vl vu:Value}{lo hi:Option Int}{n:Nat}{Q:Int × Int × Nat->Shared->Prop}(hs:s.heap.IsSliceOf sl vl vu .none)(pl:IsPart vl lo)(pu:IsPart vu hi)
  (h:Q (((sIx n 0 lo:Nat):Int),1,sIx n n hi - sIx n 0 lo) s):wpAny (model prog w) A (Builtin.Slice.sliceApplied (.ref sl) (pure (n:Int))) Q E s:=by
 obtain⟨os,hos,hcs,hds⟩:=id hs;unfold Builtin.Slice.sliceApplied Builtin.Slice.sliceFields;refine qaa (qaa (wpAny_field hos hds (x:=vl) rfl (qaa (wpAny_field hos hds (x:=vu) rfl (qaa (wpAny_field hos hds (x:=.none) rfl (qah ?_)))))));refine qaa (slicePart_none ?_);show wpAny _ _ (if ((1:Int) == 0)=true then _ else _) _ _ s;rw[qak (by decide)];refine qaa (oj pl (qaa (oj pu (qaa (qah ?_)))));show wpAny _ _ (match Builtin.Slice.sliceAdjust lo hi 1 (n:Int) with | (lo,hi)=>pure (lo,(1:Int),Builtin.Slice.slicePlaces lo hi 1)) _ _ s;rw[wG lo hi n];show wpAny _ _ (pure (((sIx n 0 lo:Nat):Int),(1:Int),Builtin.Slice.slicePlaces ((sIx n 0 lo:Nat):Int) ((sIx n n hi:Nat):Int) 1)) _ _ s;rw[wN];exact qah h
def AC(xs:Array Value)(i k:Nat):((List.range k).filterMap fun (m:Nat)=>xs[((i:Int)+(m:Int) * 1).toNat]?).toArray=((xs.toList.drop i).take k).toArray:=by
 have e:(fun (m:Nat)=>xs[((i:Int)+(m:Int) * 1).toNat]?)=fun m=>xs[i+m]?:=by
  funext m
  have:((i:Int)+(m:Int) * 1).toNat=i+m:=by ext
  rw[this]
 rw[e]
 have:=pick_run xs i k
 rw[List.filterMap_map] at this;have e2:((fun x=>xs[x]?)∘fun x=>i+x)=fun m=>xs[i+m]?:=rfl;rw[e2] at this;rw[this]
def lI{t sl:Addr}{items:Array Value}{vl vu:Value}{lo hi:Option Int}{Q:Value->Shared->Prop}(ht:IsTup s.heap t items)(hs:s.heap.IsSliceOf sl vl vu .none)(pl:IsPart vl lo)(pu:IsPart vu hi)
  (hw:¬(sIx items.size 0 lo=0/\sIx items.size items.size hi=items.size))
  (h:Q (.ref s.heap.objs.size) { s with heap:=s.heap.push { cls:=.type "tuple",data:=.seq ((items.toList.drop (sIx items.size 0 lo)).take (sIx items.size items.size hi - sIx items.size 0 lo)).toArray}})
  (hsz:items.size<=sizeLine):wpAny (model prog w) A (getItem (.ref t) (.ref sl)) Q E s:=by
 have htake:sizeOk (.seq ((items.toList.drop (sIx items.size 0 lo)).take (sIx items.size items.size hi - sIx items.size 0 lo)).toArray):=by
  show ((items.toList.drop (sIx items.size 0 lo)).take (sIx items.size items.size hi - sIx items.size 0 lo)).toArray.size<=sizeLine;rw[qaj,qbR,qbg,qaz];ext
 have hj:sIx items.size items.size hi<=items.size:=sIx_le _ _ (qag _) hi;obtain⟨os,hos,hcs,hds⟩:=id hs;have hTs:s.TypeIs (.ref sl) "slice":=⟨os,hos,hcs⟩;unfold getItem
 try with_reducible refine wpAny_holding ?_
 first | refine qaa (qah ?_) | skip
 refine qaa (wpAny_sequenceKey ht.typeIs (by decide) ?_)
 refine qaa (wpAny_callSpecial?_slot (name:=Str.ofString "__getitem__") ht.typeIs PyProof.Rows.slot_tuple_getitem
  (wpAny_call_entry PyProof.Rows.slot_tuple_getitem ht.typeIs entry_tuple_getitem ?_ (args_tuple_getitem _ _)))
 show wpAny _ _ (Builtin.Tuple.tupleItemsOf (.ref t) >>= _) _ _ s;refine qaa (tupleItemsOf_ ht ?_);refine qaa (wpAny_typeOf hTs ?_);rw[qaf (by decide)];refine qaa (mw hs pl pu ?_);have hno:¬((((sIx items.size 0 lo:Nat):Int) == 0 && (1:Int) == 1 && (sIx items.size items.size hi - sIx items.size 0 lo) == items.size)=true):=by
  intro q;rw[qbS,qbS] at q;have q1:((sIx items.size 0 lo:Nat):Int)=0:=eq_of_beq q.1.1;have q2:sIx items.size items.size hi - sIx items.size 0 lo=items.size:=eq_of_beq q.2;exact hw ⟨by ext,by ext⟩
 show wpAny _ _ (if (((sIx items.size 0 lo:Nat):Int) == 0 && (1:Int) == 1 && (sIx items.size items.size hi - sIx items.size 0 lo) == items.size)=true then _ else _) _ _ s;rw[qak hno,AC]
 first
  | exact qaa (m:=Builtin.Tuple.tupleExact _) (wpAny_newObj_type (qah ⟨_,rfl,qah h⟩) htake)
  | exact qaa (m:=Builtin.Tuple.tupleExact _) (wpAny_newObj_type (qaa (qah (qah ⟨_,rfl,qah h⟩))) htake)
  | exact qaa (qaa (m:=Builtin.Tuple.tupleExact _) (wpAny_newObj_type (qah (qah ⟨_,rfl,qah h⟩)) htake))
  | exact qaa (qaa (m:=Builtin.Tuple.tupleExact _) (wpAny_newObj_type (qah ⟨_,rfl,qah h⟩) htake))
end
end HT
namespace L2
open PySem PySem.Spec PyProof.Rows
abbrev TO:=St->Hp->(Option Int->Hp->Prop)->Prop
def PO(X:Cx)(e:Option Expr)(t:TO):Prop :=
 ∀(HV:List (Addr × Obj)) (s:Shared) (σ:St) (H:Hp) (Q:Option Int->Hp->Prop),Inv X HV σ H s->t σ H Q ->
  wpAny (model X.prog X.w) X.A (evalPart e X.env) (fun u s'=>∃o H',Inv X HV σ H' s'/\IsPart u o/\Q o H') X.xe s
def tNoPart:TO:=fun _ H Q=>Q none H
def tPart(t:TE):TO:=fun σ H Q=>t σ H fun x H1=>∃i,x=.int i/\Q (some i) H1
def xf:∀{us:List Value},az (ns.map V.int) us->IntsAre us ns:=by
 induction ns with
 | nil=>intro us r;rw[qcA] at r;cases r;exact .nil
 | cons n ns ih =>
  intro us r;rw[qaG] at r
  cases r with
  | cons r1 r2 =>
   obtain⟨t,e⟩:=r1;subst e;exact .cons n t (ih r2)
section
variable {X:Cx} {e:Expr} {te:TE} {lo hi:Option Expr} {tl th:TO} {pos p2:Pos}
def po_none:PO X none tNoPart:=by
 intro HV s σ H Q I h;rw[evalPart_none];exact qah ⟨none,H,I,.none,h⟩
def po_some(h:PE X e te):PO X (some e) (tPart te):=by
 intro HV s σ H Q I hw;rw[evalPart_some];refine thn (h HV s σ H _ I hw) fun u s1 ⟨x,H1,I1,r1,q1⟩=>?_;obtain⟨i,rfl,q⟩:=q1;obtain⟨t,rfl⟩:=r1;exact⟨some i,H1,I1,.int i t,q⟩
def SlR(X:Cx)(r:V->Option Int->Option Int->Hp->VK->Prop):Prop :=
 ∀(HV:List (Addr × Obj)) (s:Shared) (σ:St) (H:Hp) (x:V) (v vl vu:Value) (lo hi:Option Int) (sl:Addr) (Q:VK),Inv X HV σ H s->bh x v->s.heap.IsSliceOf sl vl vu .none->IsPart vl lo->IsPart vu hi->r x lo hi H Q ->
  ∃T id,typeLookup (.type T) "__getitem__"=pure (some (.builtin id))/\s.TypeIs v T/\wpAny (model X.prog X.w) X.A (getItem v (.ref sl)) (EP X HV σ Q) X.xe s
def tSl(r:V->Option Int->Option Int->Hp->VK->Prop)(te:TE)(tl th:TO):TE:=fun σ H Q=>te σ H fun x H1=>tl σ H1 fun l H2=>th σ H2 fun u H3=>r x l u H3 Q
def zK(hr:SlR X r)(he:PE X e te)(hl:PO X lo tl)(hu:PO X hi th):PE X (.Subscript e (.Slice lo hi none p2) pos) (tSl r te tl th):=by
 intro HV s σ H Q I h;refine Subscript_ (thn (he HV s σ H _ I h) fun v s1 ⟨x,H1,I1,r1,q1⟩=>?_);refine wpAny_Slice (thn (hl HV s1 σ H1 _ I1 q1) fun vl s2 ⟨l,H2,I2,pl,q2⟩=>thn (hu HV s2 σ H2 _ I2 q2) fun vu s3 ⟨u,H3,I3,pu,q3⟩=>?_);rw[evalPart_none];refine qah ?_;have I4:Inv X HV σ H3 { s3 with heap:=s3.heap.push { cls:=.type "slice",data:=.fields #[vl,vu,.none]}}:=I3.kept (t':=s3.toks) fun b ob q=>qab _ q;obtain⟨T,id,hT,ht,hg⟩:=hr HV { s3 with heap:=s3.heap.push { cls:=.type "slice",data:=.fields #[vl,vu,.none]}} σ H3 x v vl vu l u s3.heap.objs.size Q I4 r1 (Heap.IsSliceOf.new ..) pl pu q3;show wpAny (model X.prog X.w) X.A (subscriptTail e (.Slice lo hi none p2) v (.ref s3.heap.objs.size)) (EP X HV σ Q) X.xe { s3 with heap:=s3.heap.push { cls:=.type "slice",data:=.fields #[vl,vu,.none]}};exact tail_any (ops:=[.ref s3.heap.objs.size,v]) ht hT hg (by with_unfolding_all rfl)
def gu(xs:List V)(lo hi:Option Int):List V:=(xs.drop (HT.sIx xs.length 0 lo)).take (HT.sIx xs.length xs.length hi - HT.sIx xs.length 0 lo)
def lW(xs:List V)(lo hi:Option Int):(gu xs lo hi).length<=xs.length:=by
 unfold gu;rw[qbR,qbg];ext
def rSlT(K:qad):V->Option Int->Option Int->Hp->VK->Prop:=fun x lo hi H Q=>∃a xs,x=.ref a/\SqT K H a xs /\
 ¬(HT.sIx xs.length 0 lo=0/\HT.sIx xs.length xs.length hi=xs.length)/\∀p,H p=none->Q (.ref p) (upd H p (.tup (gu xs lo hi)))
def sl_tup:SlR X (rSlT X.K):=by
 intro HV s σ H x v vl vu lo hi sl Q I rx hs pl pu h;obtain⟨a,xs,rfl,hx,hw,q⟩:=h;cases rx;obtain⟨its,r,ht,hz⟩:=I.tuple hx;have hlen:its.toArray.size=xs.length:=by rw[qaj];exact r.length.symm
 refine⟨"tuple",_,PyProof.Rows.slot_tuple_getitem.lookup,ht.typeIs,?_⟩;refine HT.lI ht hs pl pu (by rw[hlen];exact hw) ?_ (by rw[hlen];exact hz);rw[hlen];refine⟨.ref s.heap.objs.size,_,I.laid (t':=s.toks) (o:=.tup (gu xs lo hi)) (fun b ob q=>qab _ q) (qag _) ?_,rfl,q _ (I.hok.fresh (qag _))⟩;exact⟨qaD (lW xs lo hi) hz,_,(r.drop (HT.sIx xs.length 0 lo)).take (HT.sIx xs.length xs.length hi - HT.sIx xs.length 0 lo),gH.new _ _⟩
def rCatT(K:qad):R2:=fun x y H Q=>∃a b xs ys,x=.ref a/\y=.ref b/\SqT K H a xs/\SqT K H b ys/\xs≠[]/\xs.length+ys.length<=sizeLine /\
 (ys=[]->Q (.ref a) H)/\(ys≠[]->∀p,H p=none->Q (.ref p) (upd H p (.tup (xs++ys))))
def az.nil_iff(r:az xs us):us=[]↔xs=[]:=by
 cases r with
 | nil=>simp
 | cons _ _=>simp
def op_catT:OpR X (binaryOp .Add) (rCatT X.K):=by
 intro HV s σ H x y v u Q I rx ry h;obtain⟨a,b,xs,ys,rfl,rfl,ha,hb,hx,hz,q1,q2⟩:=h;cases rx;cases ry;obtain⟨its,r1,p1,_⟩:=I.tuple ha;obtain⟨its2,r2,p2,_⟩:=I.tuple hb;refine HT.cat_tup p1 p2 (fun z=>hx (r1.nil_iff.mp z)) (fun z=>⟨.ref a,H,I,rfl,q1 (r2.nil_iff.mp z)⟩) (fun z=>?_) (by rw[<-r1.length,<-r2.length];exact hz);refine⟨.ref s.heap.objs.size,_,I.laid (t':=s.toks) (o:=.tup (xs++ys)) (fun b ob q=>qab _ q) (qag _) ?_,rfl,q2 (fun w=>z (r2.nil_iff.mpr w)) _ (I.hok.fresh (qag _))⟩;exact⟨by rw[qay];exact hz,_,r1.append r2,gH.new _ _⟩
end
def ixN(n:Nat)(i:Int):Option Nat:=if 0<=i then (if i<n then some i.toNat else none) else if -(n:Int)<=i then some (i+n).toNat else none
def atI{α:Type}(xs:List α)(i:Int):Option α:=(ixN xs.length i).bind fun j=>xs[j]?
def u6(h:ixN n i=some j):seqIndex? i n=some j/\j<n /\ -(n:Int)<=i/\i<n:=by
 unfold ixN at h;by_cases h0:0<=i
 ·rw[qaf h0] at h;by_cases h1:i<n
  ·rw[qaf h1] at h;have e:i.toNat=j:=Option.some.inj h;exact⟨by rw[seqIndex_of h0 h1,e],by ext,by ext,h1⟩
  ·rw[qak h1] at h;cases h
 ·rw[qak h0] at h;by_cases h1:-(n:Int)<=i
  ·rw[qaf h1] at h;have e:(i+n).toNat=j:=Option.some.inj h;exact⟨by rw[seqIndex_neg (by ext) h1,e],by ext,h1,by ext⟩
  ·rw[qak h1] at h;cases h
def oE(h:atI xs i=some v):∃j,seqIndex? i xs.length=some j/\xs[j]?=some v/\j<xs.length /\ -(xs.length:Int)<=i/\i<xs.length:=by
 unfold atI at h
 cases e:ixN xs.length i with
 | none=>rw[e] at h;cases h
 | some j =>
  rw[e] at h;obtain⟨h1,h2,h3,h4⟩:=u6 e;exact⟨j,h1,h,h2,h3,h4⟩
def dj{α:Type}{xs:List α}{j:Nat}{v:α}(h:xs[j]?=some v):atI xs (j:Int)=some v:=by
 have hj:j<xs.length:=(qae.mp h).1;have e:ixN xs.length (j:Int)=some j:=by
  unfold ixN;rw[qaf (by ext),qaf (by ext)];simp
 unfold atI;rw[e];exact h
def oD(b:Expr):Prop:=∀o i,subscripted b false o i=operate [o,i] (getItem o i)
def IxR(X:Cx)(r:R2):Prop :=
 ∀(value slice:Expr) (HV:List (Addr × Obj)) (s:Shared) (σ:St) (H:Hp) (x y:V) (v u:Value) (Q:VK),Inv X HV σ H s->bh x v->bh y u->r x y H Q ->
  subscripted slice false v u=operate [v,u] (getItem v u)->wpAny (model X.prog X.w) X.A (subscriptTail value slice v u) (EP X HV σ Q) X.xe s
def MtR(X:Cx)(id:String)(r:V->List V->Hp->VK->Prop):Prop :=
 ∀(HV:List (Addr × Obj)) (s:Shared) (σ:St) (H:Hp) (x:V) (xs:List V) (v:Value) (us:List Value) (Q:VK),Inv X HV σ H s->bh x v->az xs us->r x xs H Q ->
  wpAny (model X.prog X.w) X.A (call (.builtin id) (v::us)) (EP X HV σ Q) X.xe s
section
variable {X:Cx} {a b:Expr} {ta tb:TE} {pos:Pos}
def IxR.or(h:IxR X r)(h':IxR X r'):IxR X (fun x y H Q=>r x y H Q\/r' x y H Q):=by
 intro value slice HV s σ H x y v u Q I rx ry q hs;rcases q with q|q
 ·exact h value slice HV s σ H x y v u Q I rx ry q hs
 ·exact h' value slice HV s σ H x y v u Q I rx ry q hs
def pe_ix{r:R2}(hr:IxR X r)(ha:PE X a ta)(hb:PE X b tb)(hs:oD b):PE X (.Subscript a b pos) (tOp r ta tb):=by
 intro HV s σ H Q I h;exact Subscript_ (binT ha hb I h fun v u s2 x y H2 I2 rx ry q=>hr a b HV s2 σ H2 x y v u Q I2 rx ry q (hs _ _))
def rIxL(K:qad):R2:=fun x y H Q=>∃p xs i v,x=.ref p/\y=.int i/\SqL K H p xs/\atI xs i=some v/\Q v H
def rIxT(K:qad):R2:=fun x y H Q=>∃p xs i v,x=.ref p/\y=.int i/\SqT K H p xs/\atI xs i=some v/\Q v H
def rIxS:R2:=fun x y H Q=>∃z i c,x=.str z/\y=.int i/\z.length<=sizeLine/\atI z.cps.toList i=some c/\Q (.str ⟨#[c]⟩) H
def ix_list:IxR X (rIxL X.K):=by
 intro value slice HV s σ H x y v u Q I rx ry h hs;obtain⟨p,xs,i,z,rfl,rfl,hq,he,q⟩:=h;cases rx;obtain⟨t,rfl⟩:=ry;obtain⟨its,r,pl,hz⟩:=I.list hq;obtain⟨j,h1,h2,h3,h4,h5⟩:=oE he;obtain⟨w,ew,rw'⟩:=r.get h2;have hl:=r.length;have hn:=iN;have fin:EP X HV σ Q w s:=⟨z,H,I,rw',q⟩;by_cases h0:0<=i
 ·have hj:i.toNat=j:=by
   rw[seqIndex_of h0 h5] at h1;exact Option.some.inj h1
  exact item_listR pl.isList h0 (by ext) (by rw[hj];simpa using ew) fin hs
 ·have hj:(i+(its.toArray.size:Int)).toNat=j:=by
   rw[seqIndex_neg (by ext) h4] at h1;rw[qaj,<-hl];exact Option.some.inj h1
  exact subscriptTail_builtinR (x:=w) pl.isList.typeIs slot_list_getitem.lookup
   (wpAny_getItem_list_neg (Q:=fun r s'=>r=w/\EP X HV σ Q r s') pl.isList (by ext) (by rw[qaj] <;> ext) (by ext) (by rw[hj];simpa using ew) ⟨rfl,fin⟩) hs
def ix_tup:IxR X (rIxT X.K):=by
 intro value slice HV s σ H x y v u Q I rx ry h hs;obtain⟨p,xs,i,z,rfl,rfl,hq,he,q⟩:=h;cases rx;obtain⟨t,rfl⟩:=ry;obtain⟨its,r,pl,hz⟩:=I.tuple hq;obtain⟨j,h1,h2,h3,h4,h5⟩:=oE he;obtain⟨w,ew,rw'⟩:=r.get h2;have hl:=r.length;have hn:=iN;have fin:EP X HV σ Q w s:=⟨z,H,I,rw',q⟩;exact subscriptTail_builtinR (x:=w) pl.typeIs slot_tuple_getitem.lookup
  (getItem_tuple (j:=j) (Q:=fun r s'=>r=w/\EP X HV σ Q r s') pl (by ext) (by ext) (by rw[qaj,<-hl];exact h1) (by simpa using ew) ⟨rfl,fin⟩) hs
def ix_str:IxR X rIxS:=by
 intro value slice HV s σ H x y v u Q I rx ry h hs;obtain⟨z,i,c,rfl,rfl,hz,he,q⟩:=h;obtain⟨t,rfl⟩:=rx;obtain⟨t',rfl⟩:=ry;obtain⟨j,h1,h2,h3,h4,h5⟩:=oE he;have hl:z.cps.toList.length=z.length:=by simp[Str.length]
 rw[hl] at h1 h4 h5;have hn:=iN
 exact tail_any (typeIs_str s z t) slot_str_getitem.lookup (getItem_str (c:=c) (by
  have e1:decide (i < -(2 ^ 63:Int))=false:=decide_eq_false (by ext);have e2:decide (i>=2 ^ 63)=false:=decide_eq_false (by ext)
  rw[e1,e2,Bool.or_false]) (by rw[h1];simpa using h2) ⟨.str ⟨#[c]⟩,H,I.tok _,⟨_,rfl⟩,q⟩) hs
def rIx(K:qad):R2:=fun x y H Q=>rIxL K x y H Q\/rIxT K x y H Q\/rIxS x y H Q
def ix_seq:IxR X (rIx X.K):=ix_list.or (ix_tup.or ix_str)
def xl(its:List Value)(n j:Nat)(u:Value):Obj.mapSeq (·.setIfInBounds j u) { cls:=.type "list",data:=.seq its.toArray n}={ cls:=.type "list",data:=.seq (its.set j u).toArray n}:=by
 simp[Obj.mapSeq]
def Inv.lst{HV:List (Addr × Obj)}{σ:St}{H:Hp}{s:Shared}{p:Addr}{xs:List V}(I:Inv X HV σ H s)(h:H p=some (.lst xs)) :
  ∃(its:List Value) (n:Nat),az xs its/\s.heap.get? p=some { cls:=.type "list",data:=.seq its.toArray n}/\xs.length<=sizeLine:=by
 obtain⟨z,its,n,r,e⟩:=I.hok p _ h;exact⟨its,n,r,e,z⟩
def Inv.lstUpd{HV:List (Addr × Obj)}{σ:St}{H:Hp}{s:Shared}{p:Addr}{xs ys:List V}{its its':List Value}{n n':Nat}{f:Obj->Obj}(I:Inv X HV σ H s)(h:H p=some (.lst xs))
  (ho:s.heap.get? p=some { cls:=.type "list",data:=.seq its.toArray n}) (hf:f { cls:=.type "list",data:=.seq its.toArray n}={ cls:=.type "list",data:=.seq its'.toArray n'}) (r:az ys its') (hz:ys.length<=sizeLine) (t:Nat) :
  Inv X HV σ (upd H p (.lst ys)) { s with heap:=s.heap.update p f,toks:=t}:=by
 have e:(s.heap.update p f).get? p=some { cls:=.type "list",data:=.seq its'.toArray n'}:=by
  rw[qbJ f ho (by rw[hf] <;> rfl),hf]
 refine I.write (x:=p) (e:=p) (by rw[h];trivial) (.inl rfl) (fun b u hb q=>(qbV _ _ (Ne.symm hb)).trans q) ⟨_,e⟩ ?_;exact⟨hz,its',n',r,e⟩
def rSetL:V->V->V->Hp->(Hp->Prop)->Prop:=fun o i v H Q=>∃p xs k j,o=.ref p/\i=.int k/\H p=some (.lst xs)/\ixN xs.length k=some j/\Q (upd H p (.lst (xs.set j v)))
def zJ:PSet X rSetL:=by
 intro HV s σ H o i v ov iv u Q I ro ri rv h;obtain⟨p,xs,k,j,rfl,rfl,hp,hj,q⟩:=h;cases ro;obtain⟨t,rfl⟩:=ri;obtain⟨its,n,r,ho,hz⟩:=I.lst hp;obtain⟨h1,h2,h3,h4⟩:=u6 hj;have hl:=r.length;have hn:=iN;have I':Inv X HV σ (upd H p (.lst (xs.set j v))) { s with heap:=s.heap.update p (Obj.mapSeq (·.setIfInBounds j u))} :=
  I.lstUpd hp ho (xl its n j u) (r.set rv j) (by rw[List.length_set];exact hz) s.toks
 by_cases h0:0<=k
 ·have hk:k.toNat=j:=by
   rw[seqIndex_of h0 h4] at h1;exact Option.some.inj h1
  exact PySem.W.ki_setAt ho h0 (by ext) (by rw[qaj,<-hl];exact h4) (by rw[hk];exact⟨_,I',q⟩)
 ·have hk:(k+(its.toArray.size:Int)).toNat=j:=by
   rw[seqIndex_neg (by ext) h3] at h1;rw[qaj,<-hl];exact Option.some.inj h1
  exact PySem.W.ki_setBack ho (by ext) (by rw[qaj,<-hl];exact h3) (by ext) (by rw[hk];exact⟨_,I',q⟩)
def si(lo hi:Option Int)(n:Nat):(sliceBounds lo hi none n).1=((HT.sIx n 0 lo:Nat):Int)/\(sliceBounds lo hi none n).2.1=((HT.sIx n n hi:Nat):Int)/\(sliceBounds lo hi none n).2.2=1:=by
 refine⟨?_,?_,rfl⟩
 ·cases lo with
  | none=>simp[sliceBounds,HT.sIx]
  | some i =>
   simp only[sliceBounds,HT.sIx,Option.getD_none,show (1:Int)>0 by decide,if_true];by_cases h:i<0
   ·simp only[h,if_true] <;> ext
   ·simp only[h,if_false] <;> ext
 ·cases hi with
  | none=>simp[sliceBounds,HT.sIx]
  | some i =>
   simp only[sliceBounds,HT.sIx,Option.getD_none,show (1:Int)>0 by decide,if_true];by_cases h:i<0
   ·simp only[h,if_true] <;> ext
   ·simp only[h,if_false] <;> ext
def q0(its:List Value)(lo hi:Option Int):slicePick its.toArray lo hi none=((its.drop (HT.sIx its.length 0 lo)).take (HT.sIx its.length its.length hi - HT.sIx its.length 0 lo)).toArray:=by
 obtain⟨h1,h2,h3⟩:=si lo hi its.toArray.size;unfold slicePick;rw[h1,h2,h3];simp only[sliceRange_one,pick_run,qaj] <;> rfl
def rSlL(K:qad):V->Option Int->Option Int->Hp->VK->Prop:=fun x lo hi H Q=>∃a xs,x=.ref a/\SqL K H a xs/\∀p,H p=none->Q (.ref p) (upd H p (.lst (gu xs lo hi)))
def uS:SlR X (rSlL X.K):=by
 intro HV s σ H x v vl vu lo hi sl Q I rx hs pl pu h;obtain⟨a,xs,rfl,hx,q⟩:=h;cases rx;obtain⟨its,r,ht,hz⟩:=I.list hx;have hlen:=r.length;refine⟨"list",_,slot_list_getitem.lookup,ht.isList.typeIs,?_⟩;refine wpAny_getItem_list_slice ht.isList hs pl pu .none (by simp) ?_ (by rw[qaj] <;> ext);rw[q0,<-hlen];refine⟨.ref s.heap.objs.size,_,I.laid (t':=s.toks) (o:=.lst (gu xs lo hi)) (fun b ob q=>qab _ q) (qag _) ?_,rfl,q _ (I.hok.fresh (qag _))⟩;exact⟨qaD (lW xs lo hi) hz,_,0,(r.drop (HT.sIx xs.length 0 lo)).take (HT.sIx xs.length xs.length hi - HT.sIx xs.length 0 lo),qap _ rfl⟩
def rS:cu X (.type "list") (fun xs H Q=>∃p ys,xs=[.ref p]/\(SqL X.K H p ys\/SqT X.K H p ys)/\∀l,H l=none->Q (.ref l) (upd H l (.lst ys))):=by
 intro HV s σ H xs us Q I r h;obtain⟨p,ys,rfl,hq,q⟩:=h;obtain⟨u,rfl,rx⟩:=dM r;cases rx;have fin:∀(its:List Value),az ys its->ys.length<=sizeLine->∀(h':Heap) (c':Nat),(∀b o',s.heap.get? b=some o'->h'.get? b=some o') ->
   h'.get? s.heap.objs.size=some { cls:=.type "list",dict:=none,data:=.seq its.toArray c',slots:=#[]}->EP X HV σ Q (.ref s.heap.objs.size) { s with heap:=h'}:=fun its r' hz h' c' kp e =>
  ⟨.ref s.heap.objs.size,_,I.laid (t':=s.toks) kp (qag _) (show ObjOk X.prog X.w _ h' _ (.lst ys) from⟨hz,its,c',r',e⟩),rfl,q _ (I.hok.fresh (qag _))⟩
 rcases hq with hq|hq
 ·obtain⟨its,r',pl,hz⟩:=I.list hq;have hlen:=r'.length;obtain⟨o,ho,hc,n,hd⟩:=pl.isList;exact call_list_seq p (.inl rfl) ho hc hd (fun h' c' kp e=>fin its r' hz h' c' kp e) (by simp only[qaj] <;> ext)
 ·obtain⟨its,r',pl,hz⟩:=I.tuple hq;have hlen:=r'.length;obtain⟨o,ho,hc,n,hd⟩:=pl;exact call_list_seq p (.inr rfl) ho hc hd (fun h' c' kp e=>fin its r' hz h' c' kp e) (by simp only[qaj] <;> ext)
def kh:cu X (.type "tuple") (fun xs H Q=>∃p ys,xs=[.ref p]/\((SqL X.K H p ys/\∀l,H l=none->Q (.ref l) (upd H l (.tup ys)))\/(SqT X.K H p ys/\Q (.ref p) H))):=by
 intro HV s σ H xs us Q I r h;obtain⟨p,ys,rfl,h⟩:=h;obtain⟨u,rfl,rx⟩:=dM r;cases rx;rcases h with ⟨hq,q⟩|⟨hq,q⟩
 ·obtain⟨its,r',pl,hz⟩:=I.list hq;have hlen:=r'.length;refine call_tuple_list pl.isList (fun h' kp=>?_) (by simp only[qaj] <;> ext);have I1:Inv X HV σ H { s with heap:=h'}:=I.kept (t':=s.toks) kp;have I2:Inv X HV σ (upd H h'.objs.size (.tup ys)) { s with heap:=h'.push { cls:=.type "tuple",data:=.seq its.toArray}} :=
   I1.laid (t':=s.toks) (fun b o e=>qab _ e) (qag _) (show ObjOk X.prog X.w _ _ _ (.tup ys) from⟨hz,its,r',gH.new _ _⟩)
  exact⟨.ref h'.objs.size,_,I2,rfl,q _ (I1.hok.fresh (qag _))⟩
 ·obtain⟨its,r',pl,hz⟩:=I.tuple hq;exact call_tuple_same pl ⟨.ref p,H,I,rfl,q⟩
def tyV(K:qad)(T:String)(x:V)(H:Hp):Prop:=match x with
 | .str _=>T="str"
 | .int _=>T="int"
 | .ref p=>(T="list"/\∃xs,SqL K H p xs)\/(T="tuple"/\∃o,K.lookup p=some o/\o.cls=.type "tuple"/\o.dict=none) \/
   (T="dict"/\((∃kvs,H p=some (.dK kvs))\/∃kvs,H p=some (.dT kvs)))\/(T="set"/\∃S n,H p=some (.set S n))
 | _=>False
def tyV_is{HV:List (Addr × Obj)}{σ:St}{H:Hp}{s:Shared}{T:String}{x:V}{v:Value}(I:Inv X HV σ H s)(r:bh x v)(ty:tyV X.K T x H) :
  s.TypeIs v T/\∀a,v=.ref a->∃ob,s.heap.get? a=some ob/\ob.dict=none:=by
 cases x with
 | str z =>
  obtain⟨t,rfl⟩:=r;cases (show T="str" from ty);exact⟨typeIs_str s z t,fun _ e=>nomatch e⟩
 | int i =>
  obtain⟨t,rfl⟩:=r;cases (show T="int" from ty);exact⟨typeIs_int s i t,fun _ e=>nomatch e⟩
 | ref p =>
  cases r;rcases ty with ⟨rfl,xs,hq⟩|⟨rfl,o,hk,hc,hd⟩|⟨rfl,hk⟩|⟨rfl,S,n,hk⟩
  ·obtain⟨its,_,pl,_⟩:=I.list hq;refine⟨pl.isList.typeIs,fun a e=>?_⟩;cases e;obtain⟨o,n,e,c,hd,_⟩:=pl;exact⟨o,e,hd⟩
  ·refine⟨⟨o,I.kIn p o hk,hc⟩,fun a e=>?_⟩;cases e;exact⟨o,I.kIn _ o hk,hd⟩
  ·have z:∃o,s.heap.get? p=some o/\o.ExactDict:=by
    rcases hk with ⟨kvs,hk⟩|⟨kvs,hk⟩
    ·obtain⟨_,_,_,_,o,_,_,e,ex,_⟩:=I.hok p _ hk;exact⟨o,e,ex⟩
    ·obtain⟨_,_,_,_,o,_,_,e,ex,_⟩:=I.hok p _ hk;exact⟨o,e,ex⟩
   obtain⟨o,e,ex⟩:=z;refine⟨⟨o,e,ex.1⟩,fun a e2=>?_⟩;cases e2;exact⟨o,e,ex.2.1⟩
  ·obtain⟨o,_,_,_,e,ex,_⟩:=I.hok p _ hk;refine⟨⟨o,e,ex.1⟩,fun a e2=>?_⟩;cases e2;exact⟨o,e,ex.2.1⟩
 | _=>exact False.elim ty
def tBM(K:qad)(T:String)(r:V->List V->Hp->VK->Prop)(to:TE)(t:TA):TE:=fun σ H Q=>to σ H fun x H1=>tyV K T x H1/\t σ H1 fun xs H2=>r x xs H2 Q
variable {o e:Expr} {es:List Expr} {to:TE} {t:TA} {name:Str} {apos cpos:Pos} {T id:String} {r:V→List V→Hp→VK→Prop}
def pe_bm(pa:PlainAttrs T)(slot:Slot T name id)(hty:typeOf (.builtin id)=pure (.type "method_descriptor"))(hm:MtR X id r)(ho:PE X o to)(ha:PA X (e::es) t)
  (hbase:attributeBase o name X.env (eval o X.env)=eval o X.env:=by rfl)
  (hfew:((backTo cpos (starEach (e::es) X.env)).all (fun x=>!x.1) && (backToKw cpos (keywordEach [] X.env)).all (fun x=>x.1.isSome)
   && decide ((e::es).length+([]:List Keyword).length+(if ([]:List Keyword).isEmpty then 0 else 1)<30))=true:=by rfl)
  (hline:(apos.endLine == cpos.line)=true:=by rfl) (hs:starEach (e::es) X.env=(false,eval e X.env)::starEach es X.env:=by rfl) (hplain:(backTo cpos (starEach es X.env)).any (·.1)=false:=by rfl) :
  PE X (.Call (.Attribute o name apos) (e::es) [] cpos) (tBM X.K T r to t):=by
 intro HV s σ H Q I h;refine wpAny_Call_method_late hbase hfew hline rfl (thn (ho HV s σ H _ I h) fun v s1 ⟨x,H1,I1,r1,ty,q1⟩=>?_);obtain⟨h1,h2⟩:=tyV_is I1 r1 ty;refine⟨T,id,pa,slot,hty,h1,h2,?_⟩;have hA:=ha cpos HV s1 σ H1 _ I1 q1;rw[hs] at hA ⊢;refine Calls.callWith_builtin (by show (false || (backTo cpos (starEach es X.env)).any (·.1))=false;rw[hplain] <;> rfl) (Calls.evalArgs_plain ?_);exact thn hA fun us s2 ⟨vs,H2,I2,r2,q2⟩=>hm HV s2 σ H2 x vs v us Q I2 r1 r2 q2
end
def MtM(X:Cx)(id:String)(r:V->List V->Hp->VK->Prop):Prop :=
 ∀(HV:List (Addr × Obj)) (s:Shared) (σ:St) (H:Hp) (x:V) (xs:List V) (v:Value) (us:List Value) (Q:VK),Inv X HV σ H s->bh x v->az xs us->r x xs H Q ->
  wpAny (model X.prog X.w) X.A (call (.builtin id) (v::us)) (EP X HV σ Q) X.xe s
def az.zero(h:az [] us):us=[]:=by cases h;rfl
def az.one(h:az [x] us):∃u,us=[u]/\bh x u:=by
 cases h with|cons r t=>exact⟨_,by rw[az.zero t],r⟩
def az.rep(h:az xs us):∀k:Nat,az (List.replicate k xs).flatten (List.replicate k us).flatten
 | 0=>.nil
 | k+1=>by
  rw[qbf,qbf,qbt,qbt];exact az.append h (az.rep h k)
def pJ(its:List Value):∀(k:Nat) (acc:List Value),
  List.foldl (fun x1 x2=>x1++x2) acc.toArray (List.replicate k its.toArray)=(acc++(List.replicate k its).flatten).toArray
 | 0,acc=>by simp
 | k+1,acc=>by
  have e:acc.toArray++its.toArray=(acc++its).toArray:=by simp
  have e2:(acc++its)++(List.replicate k its).flatten=acc++(List.replicate (k+1) its).flatten:=by
   rw[qbf,qbt,qaV]
  rw[<-e2,<-pJ its k (acc++its),<-e,qbf,qcw]
section
variable {X:Cx} {HV:List (Addr × Obj)} {σ:St} {H:Hp} {s:Shared} {l b:Addr} {xs ys zs:List V}
def Inv.lset{its its':List Value}{n:Nat}{f:Array Value->Array Value}{t':Nat}(I:Inv X HV σ H s)(hH:H l=some (.lst xs))
  (e:s.heap.get? l=some { cls:=.type "list",data:=.seq its.toArray n}) (hf:f its.toArray=its'.toArray) (hv:az ys its') (hz:ys.length<=sizeLine) :
  Inv X HV σ (upd H l (.lst ys)) { s with heap:=s.heap.update l (Obj.mapSeq f),toks:=t'}:=by
 have q:=PySem.IsL.update e f;rw[hf] at q;refine I.write (x:=l) (e:=l) (by rw[hH];exact trivial) (.inl rfl) (fun b' u hb hu=>(qbV s.heap (Obj.mapSeq f) (Ne.symm hb)).trans hu) ⟨_,q⟩ ?_;exact⟨hz,its',_,hv,q⟩
def Inv.lnew(I:Inv X HV σ H s)(hv:az ys its)(hz:ys.length<=sizeLine) :
  Inv X HV σ (upd H s.heap.objs.size (.lst ys)) { s with heap:=s.heap.push { cls:=.type "list",data:=.seq its.toArray},toks:=t'} :=
 I.laid (fun _ _ q=>qab _ q) (qag _) ⟨hz,its,0,hv,qap _ rfl⟩
def Inv.fresh(I:Inv X HV σ H s):H s.heap.objs.size=none:=I.hok.fresh (qag _)
def Inv.lstM(I:Inv X HV σ H s)(hH:H l=some (.lst xs)):xs.length<=sizeLine/\∃(its:List Value) (n:Nat),az xs its/\xs.length=its.length/\s.heap.get? l=some { cls:=.type "list",data:=.seq its.toArray n}:=by
 obtain⟨z,its,n,r,e⟩:=I.hok l _ hH;exact⟨z,its,n,r,r.length,e⟩
def mM(h:n<=sizeLine):Builtin.List.listTooLong n=false:=by
 unfold Builtin.List.listTooLong;exact decide_eq_false (by ext)
end
section
variable {X:Cx}
def rAppend:V->List V->Hp->VK->Prop:=fun x vs H Q=>∃l xs y,x=.ref l/\vs=[y]/\H l=some (.lst xs)/\xs.length<sizeLine/\Q .non (upd H l (.lst (xs++[y])))
def pH:MtM X "list.append" rAppend:=by
 intro HV s σ H x vs v us Q I rx rv h;obtain⟨l,xs,y,rfl,rfl,hH,hz,q⟩:=h;cases rx;obtain⟨u,rfl,ru⟩:=rv.one;obtain⟨z,its,n,r,hl,e⟩:=I.lstM hH;refine call_meets F.slot_list_append ⟨_,e,rfl⟩ F.entry_list_append (F.args_list_append_2 _ _) (PySem.list_append l its.toArray n u (by rw[qaj];ext)) ⟨e,?_⟩;refine⟨.non,_,I.lset (its':=its++[u]) hH e (by simp) (r.append (.cons ru .nil)) ?_,rfl,q⟩;rw[qay,List.length_singleton];ext
def rExtend:V->List V->Hp->VK->Prop:=fun x vs H Q=>∃l b xs zs,x=.ref l/\vs=[.ref b]/\H l=some (.lst xs)/\H b=some (.lst zs)/\xs.length+zs.length<=sizeLine/\Q .non (upd H l (.lst (xs++zs)))
def yh:MtM X "list.extend" rExtend:=by
 intro HV s σ H x vs v us Q I rx rv h;obtain⟨l,b,xs,zs,rfl,rfl,hH,hB,hz,q⟩:=h;cases rx;obtain⟨u,rfl,ru⟩:=rv.one;cases ru;obtain⟨z,its,n,r,hl,e⟩:=I.lstM hH;obtain⟨z2,its2,n2,r2,hl2,e2⟩:=I.lstM hB;have hsz:its.toArray.size+its2.toArray.size<=sizeLine:=by rw[qaj,qaj];ext
 have hlong:¬(!its.toArray.isEmpty && Builtin.List.listTooLong (its.toArray.size+its2.toArray.size))=true:=by
  rw[mM hsz,qdc];exact qaX
 refine call_meets F.slot_list_extend ⟨_,e,rfl⟩ F.entry_list_extend (F.args_list_extend_2 _ _)
  (AutoSeq1.list_extend_list_list_0 l its.toArray n b its2.toArray n2 hlong (by rw[qaj];ext) (by ext)) ⟨e,e2,?_⟩
 refine⟨.non,_,I.lset (its':=its++its2) hH e (by simp) (r.append r2) ?_,rfl,q⟩;rw[qay];ext
def rCat:R2:=fun x y H Q=>∃l b xs zs,x=.ref l/\y=.ref b/\H l=some (.lst xs)/\H b=some (.lst zs)/\xs.length+zs.length<=sizeLine/\∀p,H p=none->Q (.ref p) (upd H p (.lst (xs++zs)))
def op_cat:OpR X (binaryOp .Add) rCat:=by
 intro HV s σ H x y v u Q I rx ry h;obtain⟨l,b,xs,zs,rfl,rfl,hH,hB,hz,q⟩:=h;cases rx;cases ry;obtain⟨z,its,n,r,hl,e⟩:=I.lstM hH;obtain⟨z2,its2,n2,r2,hl2,e2⟩:=I.lstM hB;refine PySem.P.add_list e e2 ?_ (by rw[qaj,qaj];ext);have ea:its.toArray++its2.toArray=(its++its2).toArray:=by simp
 rw[ea];exact⟨.ref _,_,I.lnew (t':=s.toks) (r.append r2) (by rw[qay];ext),rfl,q _ I.fresh⟩
def rRep:R2:=fun x y H Q=>∃l k xs,x=.ref l/\y=.int k/\H l=some (.lst xs) /\ -(2 ^ 63)<=k/\k<2 ^ 63/\xs.length * k.toNat<=sizeLine /\
 ∀p,H p=none->Q (.ref p) (upd H p (.lst (List.replicate k.toNat xs).flatten))
def vq{α:Type}(xs:List α)(k:Nat):(List.replicate k xs).flatten.length=k * xs.length:=by
 induction k with
 | zero=>simp
 | succ k ih=>rw[qbf,qbt,qay,ih,Nat.succ_mul,Nat.add_comm]
def op_rep:OpR X (binaryOp .Mult) rRep:=by
 intro HV s σ H x y v u Q I rx ry h;obtain⟨l,k,xs,rfl,rfl,hH,h1,h2,hz,q⟩:=h;cases rx;obtain⟨t,rfl⟩:=ry;obtain⟨z,its,n,r,hl,e⟩:=I.lstM hH;have hlen:its.toArray.size * k.toNat<=sizeLine:=by rw[qaj,<-hl];exact hz
 have hcap:¬its.toArray.size * k.toNat>(2 ^ 63 - 1) / 8:=by
  have:(sizeLine:Nat)<=(2 ^ 63 - 1) / 8:=by decide
  ext
 have hfit:¬(!Builtin.List.listFitsIndex k)=true:=by
  rw[fitsIndex_both h1 h2];exact qaX
 have hlong:¬Builtin.List.listTooLong (its.toArray.size * k.toNat)=true:=by
  rw[mM hlen];exact qaX
 have hnew:List.foldl (fun x1 x2=>x1++x2) #[] (List.replicate (if its.toArray.isEmpty=true then 0 else k.toNat) its.toArray)=(List.replicate k.toNat its).flatten.toArray:=by
  have f0:∀m:Nat,List.foldl (fun x1 x2=>x1++x2) #[] (List.replicate m its.toArray)=(List.replicate m its).flatten.toArray:=fun m=>by
   have:=pJ its m []
   rw[List.nil_append] at this;exact this
  rw[f0]
  cases its with
  | nil=>simp
  | cons a r'=>rw[qak (by simp)]
 refine wpAny_binaryOp_repeat_ref (T:="list") (U:="int") (by decide) ⟨_,e,rfl⟩ (fun s'=>typeIs_int s' k t) noFill_list_mul F.fills_int_mul F.slot_int_rmul repeat_list F.slot_int_index.lookup
  (call_meets F.slot_int_rmul (typeIs_int s k t) F.entry_int_rmul (F.args_int_rmul_2 _ _) (int___rmul___int_list k t l its.toArray n)
   ⟨e,rfl,⟨_,e,rfl⟩,call_meets F.slot_list_mul ⟨_,e,rfl⟩ F.entry_list_mul (F.args_list_mul_2 _ _) (AutoListH.list___mul___list_int_3 l its.toArray n k t hfit hcap hlong) ⟨e,?_⟩⟩)
 rw[hnew];exact⟨.ref _,_,I.lnew (t':=s.toks) (r.rep k.toNat) (by rw[vq,Nat.mul_comm];exact hz),rfl,q _ I.fresh⟩
end
section
variable {prog:Program} {w:World} {A:Around} {E:Value→Shared→Prop} {s:Shared}
end
section
variable {X:Cx}
end
end L2
namespace Att
open PySem PySem.W PySem.Calls PyProof.Rows
def nU:∀(ns:List Int) (vs:List Value),WellAll P h vs (ns.map WData.int)->IntsAre vs ns:=by
 intro ns
 induction ns with
 | nil =>
  intro vs w;rw[qcA] at w;cases w;exact .nil
 | cons n ns ih =>
  intro vs w;rw[qaG] at w
  cases w with
  | cons a b =>
   cases a;exact .cons _ _ (ih _ b)
def xS{l:OpenLaw}{n:Nat}(hn:l.most=some n){P:Params}{h:Heap}{args:List WData}{vals:List Value}
  (hpre:l.row.toRowW.claim.pre args=true) (hwl:WellAll P h vals args) :
  ∃a vs ns,vals=[Value.ref a]/\args=[WData.list (ns.map WData.int)]/\h.get? a=some { cls:=.type "list",data:=.seq vs.toArray}/\IntsAre vs ns/\ns.length<=n:=by
 have hsh:WShape.hasAll [] args [.list .int]=true:=(pre_splitW hpre).1;have hc:l.pre.holds [] { args:=args}=true:=(pre_splitW hpre).2;obtain⟨d,r,rfl,h1,h2⟩:=hasAllW_cons hsh;obtain rfl:=hasAllW_nil h2;obtain⟨xs,rfl,h3⟩:=hasW_list h1;obtain⟨ns,rfl⟩:=items_int h3;have hlen:ns.length<=n:=by
  unfold OpenLaw.pre at hc;have h4:(WTm.not (.lt (.lit (.int (n:Int))) (.len (.arg 0)))).holds [] { args:=[.list (ns.map .int)]}=true:=by
   have h4:=(holds_andW hc).1;rw[hn] at h4;exact h4
  have h5:=condW_of h4 (w_not (w_lt w_lit (w_len_list (w_arg rfl))));rw[qat] at h5;refine Nat.le_of_not_lt fun q=>?_;have q':(n:Int)<((ns.length:Nat):Int):=by ext
  first
   | (rw[decide_eq_true q'] at h5;exact absurd h5 (by decide))
   | (simp at h5;ext)
 cases hwl with
 | cons w1 w2 =>
  cases w2
  cases w1 with
  | list ho hall=>exact⟨_,_,ns,rfl,rfl,ho,nU ns _ hall,hlen⟩
def xN(l:OpenLaw)(args:List WData):l.row.toRowW.claim.post args (.bool true) args=true :=
 postW_of (r:=l.row.toRowW) (X:=(true == true))
  (show WShape.has [] (.bool true) .bool=true by first | rfl | decide | simp[WShape.has,WShape.arms,WShape.armsAll])
  (show (WTm.eq .res (.lit (.bool true))).value [] { args:=args,res:=some (.bool true),after:=args}=some (.bool (true == true)) from w_eq_bool (w_res rfl) w_lit) rfl
def uM{l:OpenLaw}{n:Nat}{q:Program}{loose:List Str}{XP:(Str->Option Value)->Heap->Prop}{YP:World->Heap->Prop}{d:DefRec}
  (hn:l.most=some n) (hdf:d.params.defaults=[])
  (call:∀(w:World) (s₀ s₁:Shared) (mg mb:Str->Option Value) (fa:Addr) (o:Obj) (pm cd doc:Value) (a:Addr) (vs:List Value) (ns:List Int),
   Ground q loose [] XP w s₀ mg mb s₁.heap->YP w s₁.heap ->
   s₁.heap.get? fa=some o->o.data=.func (docDef d.name d.params d.body d.scope pm cd doc)->s₁.heap.CodeRec cd d.name->mg d.name=some (.ref fa) ->
   s₁.heap.get? a=some { cls:=.type "list",data:=.seq vs.toArray}->IntsAre vs ns->ns.length<=n->s₁.gens=#[] ->
   codeAny (model l.prog w) callerA (.call (.ref fa) ⟨[.ref a],[]⟩) (fun r s'=>r=.ok (.ret (.bool true))/\OldK s₁.heap s'.heap/\s'.os=s₁.os/\AllBare s'.gens) s₁) :
  WalkO q loose XP YP l.row.toRowW d [] (fun f vs=>PySem.call f vs):=by
 intro w s₀ s₁ mg mb G Y fa o pm cd doc dV kV ho hd hcd hD hmg hg args vals as hpre hlay hrd hwl hlo;obtain rfl:dV=.none:=Dflts.none hD hdf;obtain rfl:kV=.none:=Dflts.noKw hD;obtain⟨a,vs,ns,rfl,rfl,hobj,hints,hlen⟩:=xS hn hpre hwl;refine enter_call (codeAny_mono (call w s₀ s₁ mg mb fa o pm cd doc a vs ns G Y ho (fd_plain hd) hcd hmg hobj hints hlen hg) fun r s' hq=>?_);obtain⟨rfl,h2,h3,h4⟩:=hq;exact⟨.inl ⟨.bool true,.bool true,[],rfl,fun _=>rfl,.bool true,xN l _,fun _=>⟨List.Pairwise.nil,fun _ hm=>(nomatch hm)⟩⟩,h2,h3,h4⟩
section
variable {prog:Program} {w:World} {A:Around} {E:Value→Shared→Prop} {s:Shared} {K:Frag}
end
end Att
namespace L2
open PySem PySem.Spec PyProof.Rows
def pM:∀{vs:List Value} {ns:List Int},IntsAre vs ns->az (ns.map V.int) vs
 | _,_,.nil=>.nil
 | _,_,.cons n t h=>.cons ⟨t,rfl⟩ (pM h)
def Only(H:Hp):Prop:=∀b,H b=none\/∃o xs,H b=some (.frz o (.lst xs))
def Ao{P:Program}{w:World}{K:qad}{mg mb:Str->Option Value}{CX:CXT}{k:Nat}{fa a:Addr}{fd:FuncData}{x:Str}{sp:Sp}{s₁:Shared}{vs:List Value}{ns:List Int}
  (KX:K.In s₁.heap) (hns:s₁.heap.Ns mainGlobals mg) (hb:s₁.heap.Ns builtinsNs mb) (hbb:∀x:Str,x≠"__name__"->mb x=bootBuiltins x) (hlim:s₁.heap.NoLimit) (hg:s₁.gens=#[])
  (ha:s₁.heap.get? a=some { cls:=.type "list",data:=.seq vs.toArray}) (hi:IntsAre vs ns) (hl:ns.length<=sizeLine) (hr:Room k callerA)
  (F:∀base:Heap,K.In base->base.Ns mainGlobals mg->FnOk P w K mg base CX k fa fd [x] sp) (hbind:∀(s:Shared) (u:Value),BindsTo s fd ⟨[u],[]⟩ [(x,u)])
  (hsp:∀H:Hp,Only H->SqL K H a (ns.map V.int)->sp [.ref a] H (fun v _=>v=.bl true) fun _ _ _=>False)
  (hCX:∀H e s',CX [] H s₁ (fun _ _ _=>False) e s'->False) :
  codeAny (model P w) callerA (.call (.ref fa) ⟨[.ref a],[]⟩) (fun r s'=>r=.ok (.ret (.bool true))/\OldK s₁.heap s'.heap/\s'.os=s₁.os/\AllBare s'.gens) s₁:=by
 have rv:=pM hi;have lenV:=hi.length;have core:∀H:Hp,Only H->SqL K H a (ns.map V.int)->HOk P w H s₁.heap->(∀b,H b≠none->b=a)->(H a≠none->K.lookup a=none) ->
   codeAny (model P w) callerA (.call (.ref fa) ⟨[.ref a],[]⟩) (fun r s'=>r=.ok (.ret (.bool true))/\OldK s₁.heap s'.heap/\s'.os=s₁.os/\AllBare s'.gens) s₁:=by
  intro H hO hS hok hA hK;have base_of:∀{b:Addr} {o:Obj},s₁.heap.get? b=some o->H b=none->(jh s₁.heap H).get? b=some o:=fun e n=>zX e n;have noA:∀{b:Addr} {o:Obj} {es:Array DictEntry} {ep:Nat},s₁.heap.get? b=some o->o.data=.dict es ep->H b=none:=fun {b o es ep} e d=>by
   cases q:H b with
   | none=>rfl
   | some u =>
    have e':b=a:=hA b (by rw[q];simp);subst e';rw[ha] at e;cases e;have d':Data.seq vs.toArray _=Data.dict es ep:=d;cases d'
  have nsK:∀{b:Addr} {m:Str->Option Value},s₁.heap.Ns b m->(jh s₁.heap H).Ns b m:=fun {b m} ⟨o,es,ep,e,d,r⟩=>⟨o,es,ep,base_of e (noA e d),d,r⟩
  have hKb:K.In (jh s₁.heap H):=fun b o e=>base_of (KX b o e) (by
   cases q:H b with
   | none=>rfl
   | some u =>
    have e':b=a:=hA b (by rw[q];simp);subst e'
    rw[hK (by rw[q];simp)] at e;cases e)
  have hM:Mod K mg (jh s₁.heap H):=⟨hKb,nsK hns,⟨mb,nsK hb,hbb⟩,let ⟨mc,h1,h2⟩:=hlim;⟨mc,nsK h1,h2⟩⟩;have e0:Env0 P w K mg (jh s₁.heap H) callerA [] s₁ H:=⟨rfl,hM,fun b o e=>of_hidT e,Nat.le_of_eq (yr _ _),trivial,fun b hb=>absurd (show b∈([]:List Addr) from hb) (by simp),hok,.of_eq hg⟩;refine codeAny_mono ((F _ hKb (nsK hns)).run callerA [] s₁ H ⟨[.ref a],[]⟩ [.ref a] [.ref a] _ _ hr e0 (hbind s₁ (.ref a)) (.cons rfl .nil) (hsp H hO hS)) fun r s' h=>?_
  cases r with
  | error e=>exact (hCX H e s' h).elim
  | ok fl =>
   cases fl with
   | next=>exact False.elim h
   | brk=>exact False.elim h
   | cont=>exact False.elim h
   | ret u =>
    obtain⟨v,H',os,bare,un,hok',r',q⟩:=h;have q':v=.bl true:=q;subst q';obtain rfl:u=Value.bool true:=r';refine⟨rfl,OldK.of_keep fun b o e=>?_,os,bare⟩
    cases q:H b with
    | none=>exact un.keep b o e q (by intro z;exact absurd (show b∈([]:List Addr) from z) (by simp)) (by simp)
    | some u =>
     rcases hO b with z|⟨ob,xs,z⟩
     ·rw[q] at z;cases z
     ·have z2:=un.frzs b ob _ z;obtain⟨e1,_⟩:=hok b _ z;obtain⟨e2,_⟩:=hok' b _ z2;rw[e] at e1;cases e1;exact e2
 cases hk:K.lookup a with
 | some o =>
  have e:=KX a o hk;rw[ha] at e;cases e;refine core (fun _=>none) (fun _=>.inl rfl) (.inr ⟨_,vs.toArray,_,hk,rfl,rfl,rfl,by rw[qaj,lenV];exact hl,by simpa using rv⟩) (fun b u z=>by have z':(none:Option HO)=some u:=z;cases z') (fun b z=>absurd rfl z) fun z=>absurd rfl z
 | none =>
  refine core (fun b=>if b=a then some (.frz { cls:=.type "list",data:=.seq vs.toArray} (.lst (ns.map V.int))) else none) (fun b=>?_) (.inl (.inr ⟨{ cls:=.type "list",data:=.seq vs.toArray},qaf rfl⟩)) (fun b u z=>?_) (fun b z=>?_) fun _=>hk
  ·by_cases hb:b=a
   ·exact .inr ⟨_,_,qaf hb⟩
   ·exact .inl (qak hb)
  ·by_cases hb:b=a
   ·have z':=(qaf hb).symm.trans z;cases z';subst hb;exact⟨ha,by rw[qat];exact hl,vs,_,rv,ha⟩
   ·have z':=(qak hb).symm.trans z;cases z'
  ·by_cases hb:b=a
   ·exact hb
   ·exact absurd (qak hb) z
abbrev KOf{K:qad}{h:Heap}(_:K.In h):qad:=K
def walk_of{l:PySem.W.OpenLaw}{n k:Nat}{q:Program}{loose:List Str}{XP:(Str->Option Value)->Heap->Prop}{YP:World->Heap->Prop}{d:DefRec}{K:Params->qad}{CX:World->CXT}{sp:World->Sp}{x:Str}
  (hn:l.most=some n) (hn2:n<=sizeLine) (hdf:d.params.defaults=[]) (hr:Room k callerA)
  (hY:∀(w:World) (h:Heap),YP w h->(K w.params).In h)
  (F:∀(w:World) (mg:Str->Option Value) (fa:Addr) (h:Heap),(K w.params).In h->h.Ns mainGlobals mg->mg d.name=some (.ref fa) ->
   ∃fd:FuncData,(∀(s:Shared) (u:Value),BindsTo s fd ⟨[u],[]⟩ [(x,u)]) /\
    ∀base:Heap,(K w.params).In base->base.Ns mainGlobals mg->FnOk l.prog w (K w.params) mg base (CX w) k fa fd [x] (sp w))
  (hsp:∀(w:World) (H:Hp) (a:Addr) (ns:List Int),ns.length<=n->Only H->SqL (K w.params) H a (ns.map V.int)->sp w [.ref a] H (fun v _=>v=.bl true) fun _ _ _=>False)
  (hCX:∀(w:World) (H:Hp) (s:Shared) (e:Value) (s':Shared),CX w [] H s (fun _ _ _=>False) e s'->False) :
  PySem.W.WalkO q loose XP YP l.row.toRowW d [] (fun f vs=>PySem.call f vs):=by
 refine Att.uM hn hdf fun w s₀ s₁ mg mb fa o pm cd doc a vs ns G Y ho hd hcd hmg hobj hints hlen hg=>?_;have KX:=hY w _ Y;obtain⟨fd,hb,hF⟩:=F w mg fa _ KX G.T.g hmg;exact Ao KX G.T.g G.T.b G.T.builtins G.T.nolimit hg hobj hints (qaD hlen hn2) hr hF hb (fun H hO hS=>hsp w H a ns hlen hO hS) fun H e s'=>hCX w H s₁ e s'
def gj(s:Stmt):Arguments:=match s with
 | .FunctionDef _ a _ _ _ _ _ _ _ _=>a
 | _=>{ posonlyargs:=[],args:=[],vararg:=none,kwonlyargs:=[],kw_defaults:=[],kwarg:=none,defaults:=[]}
def aP(s:Stmt):List Stmt:=match s with
 | .FunctionDef _ _ b _ _ _ _ _ _ _=>b
 | _=>[]
def aO(s:Stmt):Scope:=match s with
 | .FunctionDef _ _ _ _ _ _ sc _ _ _=>sc
 | _=>{ kind:=.function,names:=[],isGenerator:=false,isCoroutine:=false}
structure Fun (K:qad) (x qual:Str) (st:Stmt) (f:Addr) (fd:FuncData):Prop where
 ex:∃(oc:Value) (od:Option Addr) (kV doc pm:Value) (an:Option Addr) (cdv ct:Value) (osl:Array (Option Value)),
  fd=PySem.W.fnOf x qual (gj st) (aP st) (aO st) .none kV doc pm an cdv ct/\K.lookup f=some ⟨oc,od,.func fd,osl⟩/\PySem.W.codeIn K cdv qual=true
 kp:PySem.W.keepIn K (.ref f)=true
section
variable {P:Program} {w:World} {K:qad} {mg:Str→Option Value} {base:Heap}
def Fun.binds{x qual:Str}{st:Stmt}{f:Addr}{fd:FuncData}{ps:List Str}(F:Fun K x qual st f fd)
  (h:∀(kV doc pm:Value) (an:Option Addr) (cdv ct:Value) (us:List Value),us.length=ps.length->bindArgs (PySem.W.fnOf x qual (gj st) (aP st) (aO st) .none kV doc pm an cdv ct) ⟨us,[]⟩=pure (ps.zip us)):nF K fd ps []:=by
 obtain⟨oc,od,kV,doc,pm,an,cdv,ct,osl,rfl,lk,hcd⟩:=F.ex;exact .all (h kV doc pm an cdv ct)
def fun_mk{x qual:Str}{st:Stmt}{f:Addr}{oc:Value}{od an:Option Addr}{osl:Array (Option Value)}{kV doc pm cdv ct:Value}(l:K.lookup f=some ⟨oc,od,.func (PySem.W.fnOf x qual (gj st) (aP st) (aO st) .none kV doc pm an cdv ct),osl⟩)
  (c:PySem.W.codeIn K cdv qual=true) (k:PySem.W.keepIn K (.ref f)=true):Fun K x qual st f (PySem.W.fnOf x qual (gj st) (aP st) (aO st) .none kV doc pm an cdv ct):=⟨⟨oc,od,kV,doc,pm,an,cdv,ct,osl,rfl,l,c⟩,k⟩
end
section
variable {X:Cx}
end
end L2
namespace MM
open PySem PySem.Spec PyProof.Rows L2
inductive PV where
 | non | bl (b:Bool) | int (i:Int) | str (x:Str) | tup (xs:List PV) | frl (xs:List PV) | loc (n:Nat)
structure MExc where
 cls:Str
 fs:List (Str × PV):=[]
inductive MO where
 | lst (xs:List PV)
 | dic (kvs:List (PV × PV))
 | exc (x:MExc)
abbrev MH:=List MO
abbrev PSt:=List (Option PV)
inductive Out (α:Type) where
 | ok (a:α) (h:MH)
 | exc (x:MExc) (h:MH)
 | bad
def Out.bind{α β:Type}(o:Out α)(f:α->MH->Out β):Out β:=match o with
 | .ok a h=>f a h
 | .exc x h=>.exc x h
 | .bad=>.bad
@[simp] theorem Out.bind_ok(a:α)(h:MH)(f:α->MH->Out β):(Out.ok a h).bind f=f a h:=rfl
@[simp] theorem Out.bind_exc(x:MExc)(h:MH)(f:α->MH->Out β):(Out.exc x h).bind f=.exc x h:=rfl
@[simp] theorem Out.bind_bad(f:α->MH->Out β):(Out.bad:Out α).bind f=.bad:=rfl
inductive SOut where
 | nx (σ:PSt) (h:MH)
 | rt (v:PV) (h:MH)
 | bk (σ:PSt) (h:MH)
 | ct (σ:PSt) (h:MH)
 | exc (x:MExc) (σ:PSt) (h:MH)
 | rse (x:MExc) (σ:PSt) (h:MH)
 | bad
def Out.ne{α:Type}(o:Out α):Out α:=match o with
 | .exc _ _=>.bad
 | o=>o
@[simp] theorem Out.ne_ok(a:α)(h:MH):(Out.ok a h).ne=.ok a h:=rfl
@[simp] theorem Out.ne_bad:(Out.bad:Out α).ne=.bad:=rfl
@[simp] theorem Out.ne_ne(o:Out α):o.ne.ne=o.ne:=by cases o <;> rfl
def SqF(K:qad)(H:Hp)(a:Addr)(ys:List V):Prop :=
 (∃o,H a=some (.frz o (.lst ys))) \/
  ∃(o:Obj) (its:Array Value) (n:Nat),K.lookup a=some o/\o.cls=.type "list"/\o.dict=none/\o.data=.seq its n/\its.size<=sizeLine/\az ys its.toList
def SqF.sq{K:qad}{H:Hp}{a:Addr}{ys:List V}(h:SqF K H a ys):SqL K H a ys:=by
 rcases h with h|h
 ·exact .inl (.inr h)
 ·exact .inr h
mutual
inductive RP (K:qad) (ρ:List Addr) (H:Hp):PV->V->Prop where
 | non:RP K ρ H .non .non
 | bl (b:Bool):RP K ρ H (.bl b) (.bl b)
 | int (i:Int):RP K ρ H (.int i) (.int i)
 | str (x:Str):RP K ρ H (.str x) (.str x)
 | tup {xs:List PV} {a:Addr} {ys:List V} (s:SqT K H a ys) (r:RPs K ρ H xs ys):RP K ρ H (.tup xs) (.ref a)
 | frl {xs:List PV} {a:Addr} {ys:List V} (s:SqF K H a ys) (r:RPs K ρ H xs ys):RP K ρ H (.frl xs) (.ref a)
 | loc {n:Nat} {a:Addr} (e:ρ[n]?=some a):RP K ρ H (.loc n) (.ref a)
inductive RPs (K:qad) (ρ:List Addr) (H:Hp):List PV->List V->Prop where
 | nil:RPs K ρ H [] []
 | cons {x:PV} {y:V} {xs:List PV} {ys:List V} (r:RP K ρ H x y) (t:RPs K ρ H xs ys):RPs K ρ H (x::xs) (y::ys)
end
structure Le (ρ:List Addr) (H:Hp) (ρ':List Addr) (H':Hp):Prop where
 pre:∃m,ρ'=ρ++m
 tup:∀a xs,H a=some (.tup xs)->H' a=some (.tup xs)
 frz:∀a o u,H a=some (.frz o u)->H' a=some (.frz o u)
def Le.refl(ρ:List Addr)(H:Hp):Le ρ H ρ H:=⟨⟨[],by simp⟩,fun _ _ h=>h,fun _ _ _ h=>h⟩
def Le.trans(a:Le ρ H ρ1 H1)(b:Le ρ1 H1 ρ2 H2):Le ρ H ρ2 H2:=by
 obtain⟨m,e⟩:=a.pre;obtain⟨m',e'⟩:=b.pre;exact⟨⟨m++m',by rw[e',e,qaV]⟩,fun c xs h=>b.tup c xs (a.tup c xs h),fun c o u h=>b.frz c o u (a.frz c o u h)⟩
def Le.get{ρ ρ':List Addr}{H H':Hp}(l:Le ρ H ρ' H'){n:Nat}{a:Addr}(e:ρ[n]?=some a):ρ'[n]?=some a:=by
 obtain⟨m,e'⟩:=l.pre;rw[e',qam (qae.mp e).1];exact e
def Le.sqt{K:qad}{ρ ρ':List Addr}{H H':Hp}(l:Le ρ H ρ' H'){a:Addr}{xs:List V}(h:SqT K H a xs):SqT K H' a xs:=by
 rcases h with (h|⟨o,h⟩)|h
 ·exact .inl (.inl (l.tup _ _ h))
 ·exact .inl (.inr ⟨o,l.frz _ _ _ h⟩)
 ·exact .inr h
def Le.sqf{K:qad}{ρ ρ':List Addr}{H H':Hp}(l:Le ρ H ρ' H'){a:Addr}{xs:List V}(h:SqF K H a xs):SqF K H' a xs:=by
 rcases h with ⟨o,h⟩|h
 ·exact .inl ⟨o,l.frz _ _ _ h⟩
 ·exact .inr h
section
variable {K:qad} {ρ ρ':List Addr} {H H':Hp}
def RP.le(l:Le ρ H ρ' H'){x:PV}{y:V}(r:RP K ρ H x y):RP K ρ' H' x y :=
 RP.rec (motive_1:=fun x y _=>RP K ρ' H' x y) (motive_2:=fun x y _=>RPs K ρ' H' x y) .non .bl .int .str (fun s _ i=>.tup (l.sqt s) i) (fun s _ i=>.frl (l.sqf s) i) (fun e=>.loc (l.get e)) .nil (fun _ _ a b=>.cons a b) r
def RPs.le(l:Le ρ H ρ' H')(r:RPs K ρ H xs ys):RPs K ρ' H' xs ys:=by
 induction xs generalizing ys with
 | nil=>cases r;exact .nil
 | cons x xs ih=>cases r with | cons a t=>exact .cons (a.le l) (ih t)
def RPs.length(r:RPs K ρ H xs ys):xs.length=ys.length:=by
 induction xs generalizing ys with
 | nil=>cases r;rfl
 | cons x xs ih=>cases r with | cons a t=>exact congrArg (·+1) (ih t)
def RPs.get{xs:List PV}{ys:List V}{i:Nat}{x:PV}(r:RPs K ρ H xs ys)(e:xs[i]?=some x):∃y,ys[i]?=some y/\RP K ρ H x y:=by
 induction xs generalizing ys i with
 | nil=>cases e
 | cons x xs ih =>
  cases r with
  | cons a t =>
   cases i with
   | zero=>cases e;exact⟨_,rfl,a⟩
   | succ i=>have z:=@ih _ i t e;exact z
def RPs.set(r:RP K ρ H x u)(i:Nat)(q:RPs K ρ H xs us):RPs K ρ H (xs.set i x) (us.set i u):=by
 induction xs generalizing us i with
 | nil=>cases q;exact .nil
 | cons x xs ih =>
  cases q with
  | cons a t =>
   cases i with
   | zero=>exact .cons r t
   | succ i=>exact .cons a (ih i t)
def RPs.append(r:RPs K ρ H xs us)(s:RPs K ρ H ys ws):RPs K ρ H (xs++ys) (us++ws):=by
 induction xs generalizing us with
 | nil=>cases r;exact s
 | cons x xs ih=>cases r with | cons a t=>exact .cons a (ih t)
def RPs.take(n:Nat)(r:RPs K ρ H xs us):RPs K ρ H (xs.take n) (us.take n):=by
 induction n generalizing xs us with
 | zero=>exact .nil
 | succ n ih =>
  cases xs with
  | nil=>cases r;exact .nil
  | cons x xs=>cases r with | cons a t=>exact .cons a (ih t)
def RPs.drop(n:Nat)(r:RPs K ρ H xs us):RPs K ρ H (xs.drop n) (us.drop n):=by
 induction n generalizing xs us with
 | zero=>exact r
 | succ n ih =>
  cases xs with
  | nil=>cases r;exact .nil
  | cons x xs=>cases r with | cons a t=>exact ih t
def RPs.ints:∀(ns:List Int),RPs K ρ H (ns.map PV.int) (ns.map V.int)
 | []=>.nil
 | n::r=>.cons (.int n) (RPs.ints r)
end
def ExcAt(a C:Addr)(h:Heap):Prop:=∃o vs,h.get? a=some o/\o.cls=.ref C/\o.data=.fields vs
abbrev MGl:=Str->Option Value
def RO(K:qad)(mg:MGl)(ρ:List Addr)(H:Hp)(a:Addr):MO->Option HO->Prop
 | .lst xs,oh=>∃ys,oh=some (.lst ys)/\RPs K ρ H xs ys
 | .dic kvs,oh=>kvs=[]/\oh=some (.dK [])
 | .exc x,oh=>x.fs=[]/\∃C,mg x.cls=some (.ref C)/\oh=some (.ext (ExcAt a C))
structure RH (K:qad) (mg:MGl) (ρ:List Addr) (H:Hp) (h:MH):Prop where
 len:ρ.length=h.length
 nd:ρ.Nodup
 at':∀(n:Nat) (a:Addr) (o:MO),ρ[n]?=some a->h[n]?=some o->RO K mg ρ H a o (H a)
def RO.le{K:qad}{mg:MGl}{ρ ρ':List Addr}{H H':Hp}{a:Addr}(l:Le ρ H ρ' H'){o:MO}{oh:Option HO}(r:RO K mg ρ H a o oh):RO K mg ρ' H' a o oh:=by
 cases o with
 | lst xs=>obtain⟨ys,e,r⟩:=r;exact⟨ys,e,r.le l⟩
 | dic kvs=>exact r
 | exc x=>exact r
def RO.some{K:qad}{mg:MGl}{ρ:List Addr}{H:Hp}{a:Addr}{o:MO}{oh:Option HO}(r:RO K mg ρ H a o oh):oh≠none:=by
 cases o with
 | lst xs=>obtain⟨ys,e,_⟩:=r;rw[e];simp
 | dic kvs=>obtain⟨_,e⟩:=r;rw[e];simp
 | exc x=>obtain⟨_,C,_,e⟩:=r;rw[e];simp
def RO.plain{K:qad}{mg:MGl}{ρ:List Addr}{H:Hp}{a:Addr}{o:MO}{oh:Option HO}(r:RO K mg ρ H a o oh):(∀xs,oh≠Option.some (.tup xs))/\∀p u,oh≠Option.some (.frz p u):=by
 cases o with
 | lst xs=>obtain⟨ys,e,_⟩:=r;rw[e];exact⟨(fun _ z=>nomatch z),(fun _ _ z=>nomatch z)⟩
 | dic kvs=>obtain⟨_,e⟩:=r;rw[e];exact⟨(fun _ z=>nomatch z),(fun _ _ z=>nomatch z)⟩
 | exc x=>obtain⟨_,C,_,e⟩:=r;rw[e];exact⟨(fun _ z=>nomatch z),(fun _ _ z=>nomatch z)⟩
section
variable {K:qad} {mg:MGl} {ρ:List Addr} {H:Hp} {h:MH}
def RH.obj(r:RH K mg ρ H h){n:Nat}{a:Addr}(e:ρ[n]?=some a):∃o,h[n]?=some o/\RO K mg ρ H a o (H a):=by
 have hn:n<h.length:=by rw[<-r.len];exact (qae.mp e).1
 exact⟨h[n],by simp[hn],r.at' n a _ e (by simp[hn])⟩
def RH.new(r:RH K mg ρ H h){p:Addr}(hp:H p=none){o:MO}{ho:HO}(hn:RO K mg ρ H p o (some ho)):RH K mg (ρ++[p]) (upd H p ho) (h++[o])/\Le ρ H (ρ++[p]) (upd H p ho):=by
 have hne:∀n a,ρ[n]?=some a->a≠p:=fun n a e z=>by
  obtain⟨o',_,q⟩:=r.obj e;rw[z,hp] at q;exact q.some rfl
 have l:Le ρ H (ρ++[p]) (upd H p ho):=⟨⟨[p],rfl⟩,fun a xs e=>by rw[br (bT e hp)];exact e,fun a ob u e=>by rw[br (bT e hp)];exact e⟩;refine⟨⟨by simp[r.len],?_,fun n a o' e1 e2=>?_⟩,l⟩
 ·rw[qbY];refine⟨r.nd,by simp,fun a ha b hb=>?_⟩;obtain⟨n,e⟩:=qaB.mp ha;have hb':b=p:=by simpa using hb
  rw[hb'];exact hne n a e
 ·by_cases hlt:n<ρ.length
  ·rw[qam hlt] at e1;rw[qam (by rw[<-r.len];exact hlt)] at e2;rw[br (hne n a e1)];exact (r.at' n a o' e1 e2).le l
  ·rw[qaA (by ext)] at e1;rw[qaA (by rw[<-r.len];ext)] at e2;have hn0:n - ρ.length=0:=by
    rcases Nat.eq_zero_or_pos (n - ρ.length) with z|z
    ·exact z
    ·rw[qaN (by simp;ext)] at e1;cases e1
   rw[hn0] at e1;have hn1:n - h.length=0:=by have:=r.len;ext
   rw[hn1] at e2;simp at e1 e2;subst e1;subst e2;rw[bZ];exact hn.le l
def RH.put(r:RH K mg ρ H h){n:Nat}{a:Addr}(e:ρ[n]?=some a){o:MO}{ho:HO}(hn:RO K mg ρ H a o (some ho)):RH K mg ρ (upd H a ho) (h.set n o)/\Le ρ H ρ (upd H a ho):=by
 obtain⟨o0,_,q⟩:=r.obj e;obtain⟨q1,q2⟩:=q.plain
 have l:Le ρ H ρ (upd H a ho):=⟨⟨[],by simp⟩,fun b xs z=>by
   have:b≠a:=by rintro rfl;exact q1 _ z
   rw[br this];exact z,fun b ob u z=>by
   have:b≠a:=by rintro rfl;exact q2 _ _ z
   rw[br this];exact z⟩
 refine⟨⟨by simp[r.len],r.nd,fun m b o' e1 e2=>?_⟩,l⟩;by_cases hm:m=n
 ·subst hm;rw[e] at e1;cases e1;rw[bZ]
  have:m<h.length:=by rw[<-r.len];exact (qae.mp e).1
  rw[qaF this] at e2;cases e2;exact hn.le l
 ·rw[qan (fun z=>hm z.symm)] at e2;have hb:b≠a:=by
   rintro rfl;have h1:=qae.mp e;have h2:=qae.mp e1;obtain⟨l1,g1⟩:=h1;obtain⟨l2,g2⟩:=h2;exact hm ((List.getElem_inj r.nd).mp (g2.trans g1.symm))
  rw[br hb];exact (r.at' m b o' e1 e2).le l
def RH.tup(r:RH K mg ρ H h){p:Addr}(hp:H p=none)(ys:List V):RH K mg ρ (upd H p (.tup ys)) h/\Le ρ H ρ (upd H p (.tup ys)):=by
 have hne:∀n a,ρ[n]?=some a->a≠p:=fun n a e z=>by
  obtain⟨o',_,q⟩:=r.obj e;rw[z,hp] at q;exact q.some rfl
 have l:Le ρ H ρ (upd H p (.tup ys)):=⟨⟨[],by simp⟩,fun a xs e=>by rw[br (bT e hp)];exact e,fun a ob u e=>by rw[br (bT e hp)];exact e⟩;exact⟨⟨r.len,r.nd,fun n a o e1 e2=>by rw[br (hne n a e1)];exact (r.at' n a o e1 e2).le l⟩,l⟩
end
def RS(K:qad)(ρ:List Addr)(H:Hp)(σp:PSt)(σ:L2.St):Prop :=
 σ.length=σp.length/\∀(i:Nat) (v:PV),σp[i]?=some (some v)->∃v',σ[i]?=some (some v')/\RP K ρ H v v'
def RS.le{K:qad}{ρ ρ':List Addr}{H H':Hp}{σp:PSt}{σ:L2.St}(l:Le ρ H ρ' H')(r:RS K ρ H σp σ):RS K ρ' H' σp σ :=
 ⟨r.1,fun i v e=>by obtain⟨v',e',q⟩:=r.2 i v e;exact⟨v',e',q.le l⟩⟩
def RS.set{K:qad}{ρ:List Addr}{H:Hp}{σp:PSt}{σ:L2.St}(r:RS K ρ H σp σ)(i:Nat){v:PV}{v':V}(q:RP K ρ H v v'):RS K ρ H (σp.set i (some v)) (σ.set i (some v')):=by
 refine⟨by simp[r.1],fun j u e=>?_⟩;by_cases hj:j=i
 ·subst hj;by_cases hl:j<σp.length
  ·rw[qaF hl] at e;cases e;exact⟨v',qaF (by rw[r.1];exact hl),q⟩
  ·rw[qaN (by simp;ext)] at e;cases e
 ·rw[qan (fun z=>hj z.symm)] at e;obtain⟨u',e',q'⟩:=r.2 j u e;exact⟨u',by rw[qan (fun z=>hj z.symm)];exact e',q'⟩
def Cov(B:Heap)(fs:List Addr)(h:Heap):Prop:=∀b o,h.get? b=some o->b∉fs->∃ob,B.get? b=some ob
def Fly(l:List Env)(H:Hp)(lim:Heap)(C ea:Addr)(h:Heap):Prop :=
 ∃B t,Heap.FlyingW B l ea (.ref C) (.ref t) h/\(∀b o,H b=some o->∃ob,B.get? b=some ob)/\Cov B (frs l) lim/\H ea=none
structure Bears (X:Cx) (h:Heap):Prop where
 old:∀b o,X.s₀.heap.get? b=some o->b∉X.ex->∃o',h.get? b=some o'
 cell:∀x c,X.env.cells.lookup x=some c->∃o,h.get? c=some o
 pin:∀p∈X.pn,∃o,h.get? p.1=some o
def Inv.bears{X:Cx}{HV:List (Addr × Obj)}{σ:L2.St}{H:Hp}{s:Shared}(I:Inv X HV σ H s):Bears X s.heap :=
 ⟨fun b o e n=>I.base.there b o e n,fun x c e=>let ⟨_,o,eo,_⟩:=I.cell x c e;⟨o,eo⟩,fun p hp=>⟨_,(I.pin p (qaH _ hp)).1⟩⟩
def XP(X:Cx)(σp:PSt)(ρ:List Addr)(H:Hp)(x:MExc)(h:MH):Prop:=∀(ea C:Addr) (ρ':List Addr) (H':Hp) (σ':L2.St) (s':Shared) (lim:Heap),x.fs=[]->X.mg x.cls=some (.ref C)->Le ρ H ρ' H'->RH X.K X.mg ρ' H' h->RS X.K ρ' H' σp σ' ->
 Inv X [] σ' H' s'->Bears X lim->Fly X.stack H' lim C ea s'.heap->X.xe (.ref ea) s'
def XM(X:Cx)(σp:PSt)(ρ:List Addr)(H:Hp)(x:MExc)(h:MH):Prop:=∀(ea C:Addr) (ρ':List Addr) (H':Hp) (σ':L2.St) (s':Shared) (h0:Heap) (args:List Value),x.fs=[]->X.mg x.cls=some (.ref C)->Le ρ H ρ' H'->RH X.K X.mg ρ' H' h->RS X.K ρ' H' σp σ' ->
 Inv X [] σ' H' { s' with heap:=h0}->Heap.MadeExcOf h0 s'.heap ea (.ref C) args->X.xe (.ref ea) s'
def XP.le(l:Le ρ H ρ' H')(q:XP X σp ρ H x h):XP X σp ρ' H' x h :=
 fun ea C ρ2 H2 σ2 s2 lim e1 e2 l2=>q ea C ρ2 H2 σ2 s2 lim e1 e2 (l.trans l2)
def XM.le(l:Le ρ H ρ' H')(q:XM X σp ρ H x h):XM X σp ρ' H' x h :=
 fun ea C ρ2 H2 σ2 s2 lim args e1 e2 l2=>q ea C ρ2 H2 σ2 s2 lim args e1 e2 (l.trans l2)
abbrev Rl(α β:Type):=List Addr->Hp->α->β->Prop
def Ful{α β:Type}(X:Cx)(R:Rl α β)(σp:PSt)(ρ:List Addr)(H:Hp)(o:Out α)(Q:β->Hp->Prop):Prop:=match o with
 | .ok v h'=>∀ρ' H' v',Le ρ H ρ' H'->RH X.K X.mg ρ' H' h'->R ρ' H' v v'->Q v' H'
 | .exc x h'=>XP X σp ρ H x h'
 | .bad=>False
def gv{α β:Type}(X:Cx)(R:Rl α β)(ρ:List Addr)(H:Hp)(o:Out α)(Q:β->Hp->Prop):Prop:=match o with
 | .ok v h'=>∀ρ' H' v',Le ρ H ρ' H'->RH X.K X.mg ρ' H' h'->R ρ' H' v v'->Q v' H'
 | _=>False
def Ful.zero(f:Ful X R σp ρ H o.ne Q):gv X R ρ H o Q:=by
 cases o with
 | ok v h=>exact f
 | exc x h=>exact f
 | bad=>exact f
def Ful.le(l:Le ρ H ρ1 H1)(f:Ful X R σp ρ H o Q):Ful X R σp ρ1 H1 o Q:=by
 cases o with
 | ok v h=>exact fun ρ' H' v' l'=>f ρ' H' v' (l.trans l')
 | exc x h=>exact XP.le (X:=X) (σp:=σp) (x:=x) (h:=h) l f
 | bad=>exact f
def Ful.bind{α β γ δ:Type}{X:Cx}{R:Rl α β}{S:Rl γ δ}{σp:PSt}{ρ:List Addr}{H:Hp}{o:Out α}{f:α->MH->Out γ}{Q:δ->Hp->Prop}{Q':β->Hp->Prop}(q:Ful X S σp ρ H (o.bind f) Q)
  (k:∀ρ1 H1 v v' h1,o=.ok v h1->Le ρ H ρ1 H1->RH X.K X.mg ρ1 H1 h1->R ρ1 H1 v v'->Ful X S σp ρ1 H1 (f v h1) Q->Q' v' H1):Ful X R σp ρ H o Q':=by
 cases o with
 | ok v h=>exact fun ρ' H' v' l r w=>k ρ' H' v v' h rfl l r w (Ful.le l q)
 | exc x h=>exact q
 | bad=>exact q
abbrev RV'(X:Cx):Rl PV V:=fun ρ H=>RP X.K ρ H
abbrev RVs'(X:Cx):Rl (List PV) (List V):=fun ρ H=>RPs X.K ρ H
abbrev REq{α:Type}:Rl α α:=fun _ _ x y=>x=y
abbrev Mx(α:Type):=PSt->MH->Out α
inductive tM {α β:Type} (X:Cx) (R:Rl α β) (m:Mx α) (σ:L2.St) (H:Hp) (Q:β->Hp->Prop):Prop
 | mk (ρ:List Addr) (σp:PSt) (h:MH) (rs:RS X.K ρ H σp σ) (rh:RH X.K X.mg ρ H h) (q:Ful X R σp ρ H (m σp h) Q):tM X R m σ H Q
def ME(X:Cx)(e:Expr)(m:Mx PV):Prop:=PE X e (tM X (RV' X) m)
def MT(X:Cx)(e:Expr)(m:Mx Bool):Prop:=PT X e (tM X REq m)
def MW(X:Cx)(e:Expr)(m:Mx Bool):Prop:=PW X e (tM X REq m)
def MA(X:Cx)(es:List Expr)(m:Mx (List PV)):Prop:=PA X es (tM X (RVs' X) m)
def PE.imp(h:PE X e t)(i:∀σ H Q,t' σ H Q->t σ H Q):PE X e t':=fun HV s σ H Q I q=>h HV s σ H Q I (i σ H Q q)
def PT.imp(h:PT X e t)(i:∀σ H Q,t' σ H Q->t σ H Q):PT X e t':=fun HV s σ H Q I q=>h HV s σ H Q I (i σ H Q q)
def PW.imp(h:PW X e t)(i:∀σ H Q,t' σ H Q->t σ H Q):PW X e t':=fun whole HV s σ H Q I q=>h whole HV s σ H Q I (i σ H Q q)
def PA.imp(h:PA X e t)(i:∀σ H Q,t' σ H Q->t σ H Q):PA X e t':=fun pos HV s σ H Q I q=>h pos HV s σ H Q I (i σ H Q q)
def PS.imp(h:PS X e t)(i:∀D σ H,t' D σ H->t D σ H):PS X e t':=fun HV s σ H D I q=>h HV s σ H D I (i D σ H q)
def PSs.imp(h:PSs X e t)(i:∀D σ H,t' D σ H->t D σ H):PSs X e t':=fun HV s σ H D I q=>h HV s σ H D I (i D σ H q)
def ck(X:Cx)(ρ:List Addr)(H:Hp)(o:SOut)(D:Ends):Prop:=match o with
 | .nx σp h'=>∀ρ' H' σ',Le ρ H ρ' H'->RH X.K X.mg ρ' H' h'->RS X.K ρ' H' σp σ'->D.nx σ' H'
 | .bk σp h'=>∀ρ' H' σ',Le ρ H ρ' H'->RH X.K X.mg ρ' H' h'->RS X.K ρ' H' σp σ'->D.bk σ' H'
 | .ct σp h'=>∀ρ' H' σ',Le ρ H ρ' H'->RH X.K X.mg ρ' H' h'->RS X.K ρ' H' σp σ'->D.ct σ' H'
 | .rt v h'=>∀ρ' H' v',Le ρ H ρ' H'->RH X.K X.mg ρ' H' h'->RP X.K ρ' H' v v'->D.rt v' H'
 | .exc x σp h'=>XP X σp ρ H x h'
 | .rse x σp h'=>XM X σp ρ H x h'
 | .bad=>False
def ck.le(l:Le ρ H ρ1 H1)(f:ck X ρ H o D):ck X ρ1 H1 o D:=by
 cases o with
 | nx σp h=>exact fun ρ' H' v' l'=>f ρ' H' v' (l.trans l')
 | bk σp h=>exact fun ρ' H' v' l'=>f ρ' H' v' (l.trans l')
 | ct σp h=>exact fun ρ' H' v' l'=>f ρ' H' v' (l.trans l')
 | rt v h=>exact fun ρ' H' v' l'=>f ρ' H' v' (l.trans l')
 | exc x σp h=>exact XP.le (X:=X) (σp:=σp) (x:=x) (h:=h) l f
 | rse x σp h=>exact XM.le (X:=X) (σp:=σp) (x:=x) (h:=h) l f
 | bad=>exact f
abbrev Mst:=PSt->MH->SOut
inductive tMS (X:Cx) (m:Mst) (D:Ends) (σ:L2.St) (H:Hp):Prop
 | mk (ρ:List Addr) (σp:PSt) (h:MH) (rs:RS X.K ρ H σp σ) (rh:RH X.K X.mg ρ H h) (q:ck X ρ H (m σp h) D):tMS X m D σ H
def MS(X:Cx)(st:Stmt)(m:Mst):Prop:=PS X st (tMS X m)
def MSs(X:Cx)(st:List Stmt)(m:Mst):Prop:=PSs X st (tMS X m)
section
variable {X:Cx} {N W G:List Str} {k:Nat}
structure Good (X:Cx) (N W G:List Str) (k:Nat):Prop where
 hN:X.N=N
 nd:N.Nodup
 loc:∀x∈N,Loc X.env.scope x
 fn:∀x∈W,X.fn x=true\/X.env.scope.names.lookup x=some .local
 gl:∀x∈G,Gl X x
 dbg:∀x∈N++G,(x == ("__debug__":Str))=false/\(x == ("__classdict__":Str))=false/\x≠"__name__"
 calm:X.calm=true
 room:Room k X.A
 po:PassesOwn (model X.prog X.w) X.A X.env X.xe
def Good.x(g:Good X N W G k){i:Nat}{x:Str}(hi:N[i]?=some x):X.N[i]?=some x:=by rw[g.hN];exact hi
def aS{l:List Str}{i:Nat}{x:Str}(hi:l[i]?=some x):x∈l:=qaI hi
def rJ(X:Cx)(g:PV->PV->MH->Out PV):R2:=fun x' y' H Q=>∃ρ h x y,RH X.K X.mg ρ H h/\RP X.K ρ H x x'/\RP X.K ρ H y y'/\gv X (RV' X) ρ H (g x y h) Q
abbrev OpJ(X:Cx)(f:Value->Value->Sem Value)(g:PV->PV->MH->Out PV):Prop:=OpR X f (rJ X g)
def uJ(X:Cx)(g:PV->MH->Out PV):V->Hp->VK->Prop:=fun x' H Q=>∃ρ h x,RH X.K X.mg ρ H h/\RP X.K ρ H x x'/\gv X (RV' X) ρ H (g x h) Q
abbrev UnJ(X:Cx)(f:Value->Sem Value)(g:PV->MH->Out PV):Prop:=UnR X f (uJ X g)
def cJ(X:Cx)(g:List PV->MH->Out PV):List V->Hp->VK->Prop:=fun xs' H Q=>∃ρ h xs,RH X.K X.mg ρ H h/\RPs X.K ρ H xs xs'/\gv X (RV' X) ρ H (g xs h) Q
abbrev cH(X:Cx)(f:Value)(g:List PV->MH->Out PV):Prop:=cu X f (cJ X g)
def ae(i:Nat):Mx PV:=fun σ h=>match σ[i]? with
 | some (some v)=>.ok v h
 | _=>.bad
def mC(v:PV):Mx PV:=fun _ h=>.ok v h
def me_var(g:Good X N W G k)(i:Nat){x:Str}{pos:Pos}(hi:N[i]?=some x):ME X (.Name x pos) (ae i):=by
 have d:=g.dbg x (qaH _ (aS hi));have hv:Vis X.env.scope x:=by
  rcases g.loc x (aS hi) with q|q
  ·exact .inl q
  ·exact .inr (.inl q)
 refine PE.imp (pe_var (g.x hi) hv d.1 d.2.1) fun σ H Q ⟨ρ,σp,h,rs,rh,f⟩=>?_;unfold ae at f
 cases e:σp[i]? with
 | none=>rw[e] at f;exact f.elim
 | some o =>
  rw[e] at f
  cases o with
  | none=>exact f.elim
  | some v =>
   obtain⟨v',e',r⟩:=rs.2 i v e;exact⟨v',e',f ρ H v' (Le.refl _ _) rh r⟩
def ai:ME X (.Constant (.int i) j pos) (mC (.int i)):=PE.imp pe_int fun _ H _ ⟨ρ,_,_,_,rh,f⟩=>f ρ H _ (Le.refl _ _) rh (.int i)
def x9:ME X (.Constant (.str i) j pos) (mC (.str i)):=PE.imp pe_str fun _ H _ ⟨ρ,_,_,_,rh,f⟩=>f ρ H _ (Le.refl _ _) rh (.str i)
def dY:ME X (.Constant (.bool i) j pos) (mC (.bl i)):=PE.imp pe_bl fun _ H _ ⟨ρ,_,_,_,rh,f⟩=>f ρ H _ (Le.refl _ _) rh (.bl i)
def me_non:ME X (.Constant .none j pos) (mC .non):=PE.imp pe_non fun _ H _ ⟨ρ,_,_,_,rh,f⟩=>f ρ H _ (Le.refl _ _) rh .non
def ah(f:PV->PV->MH->Out PV)(ma mb:Mx PV):Mx PV:=fun σ h=>(ma σ h).bind fun x h1=>(mb σ h1).bind fun y h2=>(f x y h2).ne
def mUn(f:PV->MH->Out PV)(ma:Mx PV):Mx PV:=fun σ h=>(ma σ h).bind fun x h1=>(f x h1).ne
def tX{f:PV->PV->MH->Out PV}{ma mb:Mx PV}{σ:L2.St}{H:Hp}{Q:VK}(q:tM X (RV' X) (ah f ma mb) σ H Q):tOp (rJ X f) (tM X (RV' X) ma) (tM X (RV' X) mb) σ H Q:=by
 obtain⟨ρ,σp,h,rs,rh,q⟩:=q;refine⟨ρ,σp,h,rs,rh,Ful.bind q fun ρ1 H1 x x' h1 _ l1 rh1 rx q1=>?_⟩;refine⟨ρ1,σp,h1,rs.le l1,rh1,Ful.bind q1 fun ρ2 H2 y y' h2 _ l2 rh2 ry q2=>?_⟩;exact⟨ρ2,h2,x,y,rh2,rx.le l2,ry,q2.zero⟩
def am(ho:OpJ X (binaryOp op) f)(ha:ME X a ma)(hb:ME X b mb):ME X (.BinOp a op b pos) (ah f ma mb) :=
 PE.imp (pe_op ho ha hb) fun _ _ _ q=>tX q
def rm(ho:UnJ X (unaryOp op) f)(ha:ME X a ma):ME X (.UnaryOp op a pos) (mUn f ma) :=
 PE.imp (pe_un ho ha) fun _ _ _ ⟨ρ,σp,h,rs,rh,q⟩=>⟨ρ,σp,h,rs,rh,Ful.bind q fun ρ1 H1 x x' h1 _ l1 rh1 rx q1=>⟨ρ1,h1,x,rh1,rx,q1.zero⟩⟩
def me_cmp(ho:OpJ X (compareOp op) f)(ha:ME X a ma)(hb:ME X b mb)(hm:behindInMarks op b=false):ME X (.Compare a [op] [b] pos) (ah f ma mb) :=
 PE.imp (pe_cmpR ho ha hb hm) fun _ _ _ q=>tX q
def mB(m:Mx PV):Mx Bool:=fun σ h=>(m σ h).bind fun v h1=>match v with
 | .bl b=>.ok b h1
 | _=>.bad
def tM_B(q:tM X REq (mB m) σ H Q):tM X (RV' X) m σ H fun x H1=>∃c,x=.bl c/\Q c H1:=by
 obtain⟨ρ,σp,h,rs,rh,q⟩:=q;refine⟨ρ,σp,h,rs,rh,Ful.bind q fun ρ1 H1 x x' h1 _ l1 rh1 rx q1=>?_⟩
 cases rx with
 | bl b=>exact⟨b,rfl,q1 ρ1 H1 b (Le.refl _ _) rh1 rfl⟩
 | _=>exact q1.elim
def mt_cmp(ho:OpJ X (compareOp op) f)(ha:ME X a ma)(hb:ME X b mb)(hm:behindInMarks op b=false):MT X (.Compare a [op] [b] pos) (mB (ah f ma mb)) :=
 PT.imp (pt_cmpR ho ha hb hm) fun σ H Q q=>by
  obtain⟨ρ,σp,h,rs,rh,q⟩:=tM_B q;exact tX (Q:=fun x H'=>∃k,x=.bl k/\Q k H') ⟨ρ,σp,h,rs,rh,q⟩
def fx(h:ME X e m)(he:∀whole,isTrue e X.env whole=(do let v <-whole;standAt e.pos;holding [v] (truthy v)):=by intro _;rfl):MT X e (mB m) :=
 PT.imp (pt_val h he) fun _ _ _ q=>tM_B q
def fC(m:Mx Bool):Mx Bool:=fun σ h=>(m σ h).bind fun b h1=>.ok (!b) h1
def fv(h:MT X e m):MT X (.UnaryOp .Not e pos) (fC m) :=
 PT.imp (pt_not h) fun _ _ _ ⟨ρ,σp,h,rs,rh,q⟩=>⟨ρ,σp,h,rs,rh,Ful.bind q fun ρ1 H1 x x' h1 _ l1 rh1 rx q1=>by
  cases rx;exact q1 ρ1 H1 _ (Le.refl _ _) rh1 rfl⟩
def mAnd(a b:Mx Bool):Mx Bool:=fun σ h=>(a σ h).bind fun x h1=>if x=true then b σ h1 else .ok false h1
def mOr(a b:Mx Bool):Mx Bool:=fun σ h=>(a σ h).bind fun x h1=>if x=true then .ok true h1 else b σ h1
section
variable {a b:Expr} {rest:List Expr} {ma mb:Mx Bool} {pos:Pos}
def mw_and1(ha:MT X a ma):MW X (.BoolOp .And [a] pos) ma:=pw_and1 ha
def jc(ha:MT X a ma):MW X (.BoolOp .Or [a] pos) ma:=pw_or1 ha
def mw_and(ha:MT X a ma)(hb:MW X (.BoolOp .And (b::rest) pos) mb):MW X (.BoolOp .And (a::b::rest) pos) (mAnd ma mb) :=
 PW.imp (pw_and ha hb) fun σ H Q ⟨ρ,σp,h,rs,rh,q⟩=>⟨ρ,σp,h,rs,rh,Ful.bind q fun ρ1 H1 x x' h1 _ l1 rh1 rx q1=>by
  cases rx
  cases x with
  | true=>rw[qaf rfl] at q1 ⊢;exact⟨ρ1,σp,h1,rs.le l1,rh1,q1⟩
  | false=>rw[qak qaX] at q1 ⊢;exact q1 ρ1 H1 _ (Le.refl _ _) rh1 rfl⟩
def gP(ha:MT X a ma)(hb:MW X (.BoolOp .Or (b::rest) pos) mb):MW X (.BoolOp .Or (a::b::rest) pos) (mOr ma mb) :=
 PW.imp (pw_or ha hb) fun σ H Q ⟨ρ,σp,h,rs,rh,q⟩=>⟨ρ,σp,h,rs,rh,Ful.bind q fun ρ1 H1 x x' h1 _ l1 rh1 rx q1=>by
  cases rx
  cases x with
  | true=>rw[qaf rfl] at q1 ⊢;exact q1 ρ1 H1 _ (Le.refl _ _) rh1 rfl
  | false=>rw[qak qaX] at q1 ⊢;exact⟨ρ1,σp,h1,rs.le l1,rh1,q1⟩⟩
def MW.mt(h:MW X e m):MT X e m:=PW.pt h
end
def jE(a b:Mx PV):Mx PV:=fun σ h=>(a σ h).bind fun x h1=>match x with
 | .bl c=>if c=true then b σ h1 else .ok (.bl false) h1
 | _=>.bad
def rl(a:Mx PV):Mx PV:=fun σ h=>(a σ h).bind fun x h1=>match x with
 | .bl c=>.ok (.bl (!c)) h1
 | _=>.bad
section
variable {a b:Expr} {rest:List Expr} {ma mb:Mx PV} {pos:Pos}
def rP(ha:ME X a ma):ME X (.BoolOp op [a] pos) ma:=pe_one ha
def nI(ha:ME X a ma)(hb:ME X (.BoolOp .And (b::rest) pos) mb):ME X (.BoolOp .And (a::b::rest) pos) (jE ma mb) :=
 PE.imp (pe_and ha hb) fun σ H Q ⟨ρ,σp,h,rs,rh,q⟩=>⟨ρ,σp,h,rs,rh,Ful.bind q fun ρ1 H1 x x' h1 _ l1 rh1 rx q1=>by
  cases rx with
  | bl c =>
   refine⟨c,rfl,?_⟩;dsimp only at q1
   cases c with
   | true=>rw[qaf rfl] at q1 ⊢;exact⟨ρ1,σp,h1,rs.le l1,rh1,q1⟩
   | false=>rw[qak qaX] at q1 ⊢;exact q1 ρ1 H1 _ (Le.refl _ _) rh1 (.bl false)
  | _=>exact q1.elim⟩
def me_not(ha:ME X a ma):ME X (.UnaryOp .Not a pos) (rl ma) :=
 PE.imp (pe_not ha) fun σ H Q ⟨ρ,σp,h,rs,rh,q⟩=>⟨ρ,σp,h,rs,rh,Ful.bind q fun ρ1 H1 x x' h1 _ l1 rh1 rx q1=>by
  cases rx with
  | bl c=>exact⟨c,rfl,q1 ρ1 H1 _ (Le.refl _ _) rh1 (.bl _)⟩
  | _=>exact q1.elim⟩
end
def mNil:Mx (List PV):=fun _ h=>.ok [] h
def af(a:Mx PV)(r:Mx (List PV)):Mx (List PV):=fun σ h=>(a σ h).bind fun x h1=>(r σ h1).bind fun xs h2=>.ok (x::xs) h2
def ag:MA X [] mNil:=PA.imp kM fun σ H Q ⟨ρ,σp,h,rs,rh,q⟩=>q ρ H _ (Le.refl _ _) rh .nil
def aa(ha:ME X e m)(hr:MA X es ms)(hs:starEach (e::es) X.env=(false,eval e X.env)::starEach es X.env:=by rfl):MA X (e::es) (af m ms) :=
 PA.imp (gh ha hr hs) fun σ H Q ⟨ρ,σp,h,rs,rh,q⟩=>⟨ρ,σp,h,rs,rh,Ful.bind q fun ρ1 H1 x x' h1 _ l1 rh1 rx q1 =>
  ⟨ρ1,σp,h1,rs.le l1,rh1,Ful.bind q1 fun ρ2 H2 y y' h2 _ l2 rh2 ry q2=>q2 ρ2 H2 _ (Le.refl _ _) rh2 (.cons (rx.le l2) ry)⟩⟩
def newL(xs:List PV)(h:MH):Out PV:=if xs.length<=sizeLine then .ok (.loc h.length) (h++[.lst xs]) else .bad
def newT(xs:List PV)(h:MH):Out PV:=if xs.length<=sizeLine then .ok (.tup xs) h else .bad
def lA{ρ:List Addr}{H:Hp}{h:MH}{xs:List PV}{ys:List V}{Q:VK}(rh:RH X.K X.mg ρ H h)(rs:RPs X.K ρ H xs ys)(f:gv X (RV' X) ρ H (newL xs h) Q):ys.length<=sizeLine/\∀p,H p=none->Q (.ref p) (upd H p (.lst ys)):=by
 unfold newL at f
 split at f
 ·rename_i hl
  refine⟨by rw[<-rs.length];exact hl,fun p hp=>?_⟩;obtain⟨r1,l1⟩:=rh.new hp (o:=.lst xs) (ho:=.lst ys) ⟨ys,rfl,rs⟩;refine f _ _ _ l1 r1 (.loc ?_);rw[<-rh.len];simp
 ·exact f.elim
def vF{ρ:List Addr}{H:Hp}{h:MH}{xs:List PV}{ys:List V}{Q:VK}(rh:RH X.K X.mg ρ H h)(rs:RPs X.K ρ H xs ys)(f:gv X (RV' X) ρ H (newT xs h) Q):ys.length<=sizeLine/\∀p,H p=none->Q (.ref p) (upd H p (.tup ys)):=by
 unfold newT at f
 split at f
 ·rename_i hl
  refine⟨by rw[<-rs.length];exact hl,fun p hp=>?_⟩;obtain⟨r1,l1⟩:=rh.tup hp ys;exact f _ _ _ l1 r1 (.tup (.inl (.inl bZ)) (rs.le l1))
 ·exact f.elim
def newL_f{σp:PSt}{ρ:List Addr}{H:Hp}{h:MH}{xs:List PV}{Q:VK}(f:Ful X (RV' X) σp ρ H (newL xs h) Q):gv X (RV' X) ρ H (newL xs h) Q:=by
 unfold newL at f ⊢
 split at f
 ·rw[qaf (by assumption)];exact f
 ·exact f.elim
def newT_f{σp:PSt}{ρ:List Addr}{H:Hp}{h:MH}{xs:List PV}{Q:VK}(f:Ful X (RV' X) σp ρ H (newT xs h) Q):gv X (RV' X) ρ H (newT xs h) Q:=by
 unfold newT at f ⊢
 split at f
 ·rw[qaf (by assumption)];exact f
 ·exact f.elim
def bw(m:Mx (List PV)):Mx PV:=fun σ h=>(m σ h).bind newL
def dE(m:Mx (List PV)):Mx PV:=fun σ h=>(m σ h).bind newT
def aY(h:MA X es ms):ME X (.List es pos) (bw ms) :=
 PE.imp (pe_lst h) fun σ H Q ⟨ρ,σp,h,rs,rh,q⟩=>⟨ρ,σp,h,rs,rh,Ful.bind q fun ρ1 H1 x x' h1 _ l1 rh1 rx q1=>lA rh1 rx (newL_f q1)⟩
def cL(h:MA X es ms):ME X (.Tuple es j pos) (dE ms) :=
 PE.imp (pe_tup h) fun σ H Q ⟨ρ,σp,h,rs,rh,q⟩=>⟨ρ,σp,h,rs,rh,Ful.bind q fun ρ1 H1 x x' h1 _ l1 rh1 rx q1=>vF rh1 rx (newT_f q1)⟩
def SOut.then(o:SOut)(k:Mst):SOut:=match o with
 | .nx σ h=>k σ h
 | o=>o
def aI(a b:Mst):Mst:=fun σ h=>(a σ h).then b
def mSkip:Mst:=fun σ h=>.nx σ h
def bD:MSs X [] mSkip:=PSs.imp pss_nil fun D σ H ⟨ρ,σp,h,rs,rh,q⟩=>q ρ H σ (Le.refl _ _) rh rs
def aq{st:Stmt}{m:Mst}(h:MS X st m):MSs X [st] m:=pss_one h
def ck.then{ρ:List Addr}{H:Hp}{o:SOut}{k:Mst}{D:Ends}(q:ck X ρ H (o.then k) D):ck X ρ H o { D with nx:=fun σ H=>tMS X k D σ H}:=by
 cases o with
 | nx σp h=>exact fun ρ' H' σ' l r s=>⟨ρ',σp,h,s,r,ck.le l q⟩
 | _=>exact q
def ak{st:Stmt}{rest:List Stmt}{m u:Mst}(h1:MS X st m)(h2:MSs X rest u):MSs X (st::rest) (aI m u) :=
 PSs.imp (zQ h1 h2) fun D σ H ⟨ρ,σp,h,rs,rh,q⟩=>⟨ρ,σp,h,rs,rh,ck.then q⟩
def aR(m:Mx PV):Mst:=fun σ h=>match m σ h with
 | .ok v h'=>.rt v h'
 | .exc x h'=>.exc x σ h'
 | .bad=>.bad
def aJ(he:ME X e m):MS X (.Return (some e) pos) (aR m) :=
 PS.imp (ps_ret he) fun D σ H ⟨ρ,σp,h,rs,rh,q⟩=>⟨ρ,σp,h,rs,rh,by
  unfold aR at q
  cases e:m σp h with
  | ok v h'=>rw[e] at q;exact q
  | exc x h'=>rw[e] at q;exact q
  | bad=>rw[e] at q;exact q⟩
def mEx{α:Type}(m:Mx α)(k:α->Mst):Mst:=fun σ h=>match m σ h with
 | .ok v h'=>k v σ h'
 | .exc x h'=>.exc x σ h'
 | .bad=>.bad
def ck.ex{α β:Type}{R:Rl α β}{m:Mx α}{k:α->Mst}{ρ:List Addr}{H:Hp}{σp:PSt}{h:MH}{D:Ends}{Q:β->Hp->Prop}(q:ck X ρ H (mEx m k σp h) D)
  (w:∀ρ1 H1 v v' h1,Le ρ H ρ1 H1->RH X.K X.mg ρ1 H1 h1->R ρ1 H1 v v'->ck X ρ1 H1 (k v σp h1) D->Q v' H1):Ful X R σp ρ H (m σp h) Q:=by
 unfold mEx at q
 cases e:m σp h with
 | ok v h'=>rw[e] at q;exact fun ρ1 H1 v' l r z=>w ρ1 H1 v v' h' l r z (ck.le l q)
 | exc x h'=>rw[e] at q;exact q
 | bad=>rw[e] at q;exact q
def dN(m:Mx PV):Mst:=mEx m fun _=>mSkip
def eX{e:Expr}{m:Mx PV}{pos:Pos}(he:ME X e m)(hs:swapsWith e none pos.line X.env=pure false:=by rfl):MS X (.Expr e pos) (dN m) :=
 PS.imp (ps_expr he hs) fun D σ H ⟨ρ,σp,h,rs,rh,q⟩=>⟨ρ,σp,h,rs,rh,ck.ex q fun ρ1 H1 v v' h1 l r z w=>w ρ1 H1 σ (Le.refl _ _) r (rs.le l)⟩
def mIf(c:Mx Bool)(a b:Mst):Mst:=mEx c fun x=>if x=true then a else b
def bU{c:Expr}{a b:List Stmt}{mc:Mx Bool}{ma mb:Mst}{pos:Pos}(hc:MT X c mc)(ha:MSs X a ma)(hb:MSs X b mb):MS X (.If c a b pos) (mIf mc ma mb) :=
 PS.imp (ps_if hc ha hb) fun D σ H ⟨ρ,σp,h,rs,rh,q⟩=>⟨ρ,σp,h,rs,rh,ck.ex q fun ρ1 H1 v v' h1 l r z w=>by
  cases z
  cases v with
  | true=>rw[qaf rfl];exact⟨ρ1,σp,h1,rs.le l,r,w⟩
  | false=>rw[qak qaX];exact⟨ρ1,σp,h1,rs.le l,r,w⟩⟩
def bn(i:Nat)(m:Mx PV):Mst:=mEx m fun v σ h=>.nx (σ.set i (some v)) h
def ms_set(g:Good X N W G k)(i:Nat){x:Str}{e:Expr}{m:Mx PV}{pos pos':Pos}(hi:N[i]?=some x)(hw:W[i]?=some x)(he:ME X e m)(hs:swapsWith e (some (.Name x pos')) pos.line X.env=pure false:=by rfl) :
  MS X (.Assign [.Name x pos'] e pos) (bn i m):=by
 refine PS.imp (ps_set (X:=X) (i:=i) (by rw[g.hN];exact g.nd) (g.x hi) (g.loc x (aS hi)) he hs (g.fn x (aS hw))) fun D σ H ⟨ρ,σp,h,rs,rh,q⟩=>?_;exact⟨ρ,σp,h,rs,rh,ck.ex q fun ρ1 H1 v v' h1 l r z w=>w ρ1 H1 _ (Le.refl _ _) r ((rs.le l).set i z)⟩
end
end MM
namespace MM
open PySem PySem.Spec PyProof.Rows L2
local instance (priority:=1) cdec (p:Prop):Decidable p:=Classical.propDecidable p
section
variable {X:Cx} {N W G:List Str} {k:Nat}
abbrev Mg:=PV->Mst
def mI(X:Cx)(ρ:List Addr)(H:Hp)(o:SOut)(Q:L2.St->Hp->Prop):Prop:=match o with
 | .nx σp h'=>∀ρ' H' σ',Le ρ H ρ' H'->RH X.K X.mg ρ' H' h'->RS X.K ρ' H' σp σ'->Q σ' H'
 | .exc x σp h'=>XP X σp ρ H x h'
 | _=>False
def mI.le(l:Le ρ H ρ1 H1)(f:mI X ρ H o Q):mI X ρ1 H1 o Q:=by
 cases o with
 | nx σp h=>exact fun ρ' H' v' l'=>f ρ' H' v' (l.trans l')
 | exc x σp h=>exact XP.le (X:=X) (σp:=σp) (x:=x) (h:=h) l f
 | _=>exact f
inductive tG (X:Cx) (g:Mg) (v':V) (σ:L2.St) (H:Hp) (Q:L2.St->Hp->Prop):Prop
 | mk (ρ:List Addr) (σp:PSt) (h:MH) (v:PV) (rs:RS X.K ρ H σp σ) (rh:RH X.K X.mg ρ H h) (rv:RP X.K ρ H v v') (q:mI X ρ H (g v σp h) Q):tG X g v' σ H Q
def MG(X:Cx)(tg:Expr)(g:Mg):Prop:=PG X tg (tG X g)
def PG.imp(h:PG X e t)(i:∀v σ H Q,t' v σ H Q->t v σ H Q):PG X e t':=fun HV s σ H v u Q I r q=>h HV s σ H v u Q I r (i v σ H Q q)
def gNm(i:Nat):Mg:=fun v σ h=>.nx (σ.set i (some v)) h
def mg_name(g:Good X N W G k)(i:Nat)(hi:N[i]?=some x)(hw:W[i]?=some x):MG X (.Name x pos) (gNm i) :=
 PG.imp (vQ (by rw[g.hN];exact g.nd) (g.x hi) (g.loc x (aS hi)) (g.fn x (aS hw))) fun v' σ H Q ⟨ρ,σp,h,v,rs,rh,rv,q⟩=>q ρ H _ (Le.refl _ _) rh (rs.set i rv)
abbrev Mgs:=List PV->Mst
inductive tGs (X:Cx) (g:Mgs) (v':List V) (σ:L2.St) (H:Hp) (Q:L2.St->Hp->Prop):Prop
 | mk (ρ:List Addr) (σp:PSt) (h:MH) (v:List PV) (rs:RS X.K ρ H σp σ) (rh:RH X.K X.mg ρ H h) (rv:RPs X.K ρ H v v') (q:mI X ρ H (g v σp h) Q):tGs X g v' σ H Q
def MGs(X:Cx)(tg:List Expr)(g:Mgs):Prop:=PGs X tg (tGs X g)
def PGs.imp(h:PGs X e t)(i:∀v σ H Q,t' v σ H Q->t v σ H Q):PGs X e t':=fun HV s σ H v u Q I r q=>h HV s σ H v u Q I r (i v σ H Q q)
def gNl:Mgs:=fun vs σ h=>match vs with
 | []=>.nx σ h
 | _=>.bad
def gCn(a:Mg)(r:Mgs):Mgs:=fun vs σ h=>match vs with
 | v::vr=>(a v σ h).then (r vr)
 | []=>.bad
def f9:MGs X [] gNl:=PGs.imp pgs_nil fun v' σ H Q ⟨ρ,σp,h,v,rs,rh,rv,q⟩=>by
 cases rv with
 | nil=>exact⟨rfl,q ρ H σ (Le.refl _ _) rh rs⟩
 | cons _ _=>exact q.elim
def ci(h1:MG X e a)(h2:MGs X es r)
  (hs:(assignEach (e::es) X.env).map (·.2)=assign e X.env::(assignEach es X.env).map (·.2):=by rfl):MGs X (e::es) (gCn a r) :=
 PGs.imp (Aw h1 h2 hs) fun v' σ H Q ⟨ρ,σp,h,v,rs,rh,rv,q⟩=>by
  cases rv with
  | nil=>exact q.elim
  | @cons x y xs ys rx rr =>
   refine⟨_,_,rfl,ρ,σp,h,x,rs,rh,rx,?_⟩;dsimp only[gCn] at q
   cases e:a x σp h with
   | nx σ1 h1=>rw[e] at q;exact fun ρ' H' σ' l r1 s1=>⟨ρ',σ1,h1,xs,s1,r1,rr.le l,mI.le l q⟩
   | exc x1 σ1 h1=>rw[e] at q;exact q
   | _=>rw[e] at q;exact q
def gTp(r:Mgs)(n:Nat):Mg:=fun v σ h=>match v with
 | .tup xs=>if xs.length=n then r xs σ h else .bad
 | _=>.bad
def i6(g:Good X N W G k){es:List Expr}{j:Nat}{r:Mgs}{n:Nat}{pos:Pos}(h:MGs X es r)(hn:(assignEach es X.env).length=n:=by rfl)(hst:(assignEach es X.env).findIdx? (·.1)=none:=by rfl) :
  MG X (.Tuple es j pos) (gTp r n) :=
 PG.imp (pg_tup g.calm h hn hst) fun v' σ H Q ⟨ρ,σp,h,v,rs,rh,rv,q⟩=>by
  cases rv with
  | tup s rr =>
   dsimp only[gTp] at q
   split at q
   ·rename_i hl
    exact⟨_,_,rfl,s,by rw[<-rr.length];exact hl,ρ,σp,h,_,rs,rh,rr,q⟩
   ·exact q.elim
  | _=>exact q.elim
def mAsg(m:Mx PV)(g:Mg):Mst:=mEx m fun v σ h=>match g v σ h with
 | .nx σ2 h2=>.nx σ2 h2
 | .exc x σ2 h2=>.exc x σ2 h2
 | _=>.bad
def y7{tg e:Expr}{m:Mx PV}{g:Mg}{pos:Pos}(he:ME X e m)(hg:MG X tg g)(hs:swapsWithSole [tg] e pos.line X.env=pure false:=by rfl)(hw:swappedStores [tg] e X.env=pure none:=by rfl)
  (h1:(assignEach [tg] X.env).map (·.2)=[assign tg X.env]:=by rfl):MS X (.Assign [tg] e pos) (mAsg m g) :=
 PS.imp (ps_asg he hg hs hw h1) fun D σ H ⟨ρ,σp,h,rs,rh,q⟩=>⟨ρ,σp,h,rs,rh,ck.ex q fun ρ1 H1 v v' h1 l r z w=>⟨ρ1,σp,h1,v,rs.le l,r,z,by
  cases e:g v σp h1 with
  | nx σ2 h2=>rw[e] at w;exact w
  | exc x σ2 h2=>rw[e] at w;exact w
  | _=>rw[e] at w;exact w⟩⟩
def uq(o i v:PV)(h:MH):Option MH:=match o,i with
 | .loc n,.int j=>(match h[n]? with
  | some (.lst xs)=>(ixN xs.length j).map fun p=>h.set n (.lst (xs.set p v))
  | _=>none)
 | _,_=>none
def gSb(mo mi:Mx PV):Mg:=fun v=>mEx mo fun o=>mEx mi fun i σ h=>match uq o i v h with
 | some h2=>.nx σ h2
 | none=>.bad
def zd(ho:ME X o mo)(hi:ME X i mi)
  (ha:∀v,assign (.Subscript o i pos) X.env v=(do
   let ov <-holding [v] (eval o X.env)
   let iv <-holding [v,ov] (eval i X.env)
   standAt pos
   holding [v,ov,iv] (setItem ov iv v)
   release [v,ov,iv] []):=by intro _;rfl):MG X (.Subscript o i pos) (gSb mo mi) :=
 PG.imp (pg_sub ho hi zJ ha) fun v' σ H Q ⟨ρ,σp,h,v,rs,rh,rv,q⟩=>by
  refine⟨ρ,σp,h,rs,rh,?_⟩;unfold gSb mEx at q
  cases e:mo σp h with
  | exc x h1=>rw[e] at q;exact q
  | bad=>rw[e] at q;exact q
  | ok ov h1 =>
   rw[e] at q;intro ρ1 H1 o' l1 rh1 ro;refine⟨ρ1,σp,h1,rs.le l1,rh1,?_⟩;dsimp only at q
   cases e2:mi σp h1 with
   | exc x h2=>rw[e2] at q;exact XP.le (X:=X) (σp:=σp) (x:=x) (h:=h2) l1 q
   | bad=>rw[e2] at q;exact q
   | ok iv h2 =>
    rw[e2] at q;intro ρ2 H2 i' l2 rh2 ri;dsimp only at q;have ro2:=ro.le l2;have rv2:=(rv.le l1).le l2;unfold uq at q
    cases ro2 with
    | @loc n a en =>
     cases ri with
     | int j =>
      dsimp only at q;obtain⟨ob,eo,rob⟩:=rh2.obj en;rw[eo] at q
      cases ob with
      | dic kvs=>exact q.elim
      | exc x=>exact q.elim
      | lst xs =>
       obtain⟨ys,ey,ry⟩:=rob;dsimp only at q
       cases ep:ixN xs.length j with
       | none=>rw[ep] at q;exact q.elim
       | some p =>
        rw[ep] at q;refine⟨a,ys,j,p,rfl,rfl,ey,by rw[<-ry.length];exact ep,?_⟩;obtain⟨r3,l3⟩:=rh2.put en (o:=.lst (xs.set p v)) (ho:=.lst (ys.set p v')) ⟨_,rfl,RPs.set rv2 p ry⟩;exact q ρ2 _ σ (l1.trans (l2.trans l3)) r3 (rs.le (l1.trans (l2.trans l3)))
     | _=>exact q.elim
    | _=>exact q.elim
structure MIt where
 xs:List PV
 gd:List (Nat × List PV):=[]
def MIt.ok(it:MIt)(h:MH):Prop:=∀p∈it.gd,h[p.1]?=some (.lst p.2)
def oS(X:Cx):Rl MIt It:=fun ρ0 H0 it J=>∀ρ H h (i:Nat),Le ρ0 H0 ρ H->RH X.K X.mg ρ H h->it.ok h ->
 (i<it.xs.length->J.go i H/\∀x' H',J.yld i H x' H'->∃ρ' x,Le ρ H ρ' H'/\RH X.K X.mg ρ' H' h/\it.xs[i]?=some x/\RP X.K ρ' H' x x')/\(it.xs.length<=i->J.stop i H)
def MI(X:Cx)(tg iter:Expr)(m:Mx MIt):Prop:=PI X tg iter (tM X (oS X) m)
def PI.imp(h:PI X tg e t)(i:∀σ H Q,t' σ H Q->t σ H Q):PI X tg e t':=fun HV s σ H Q I q=>h HV s σ H Q I (i σ H Q q)
def mGo(it:MIt)(g:Mg)(b:Mst):List PV->Mst
 | []=>fun σ h=>if it.ok h then .nx σ h else .bad
 | x::r=>fun σ h=>if it.ok h then (match g x σ h with
   | .nx σ1 h1=>(match b σ1 h1 with
    | .nx σ2 h2=>mGo it g b r σ2 h2
    | .ct σ2 h2=>mGo it g b r σ2 h2
    | .bk σ2 h2=>.nx σ2 h2
    | .rt v h2=>.rt v h2
    | .exc e σ2 h2=>.exc e σ2 h2
    | .rse e σ2 h2=>.rse e σ2 h2
    | .bad=>.bad)
   | .exc e σ1 h1=>.exc e σ1 h1
   | _=>.bad) else .bad
def fH(mi:Mx MIt)(g:Mg)(b:Mst):Mst:=mEx mi fun it=>mGo it g b it.xs
def eO(gd:Good X N W G k)(hi:MI X tg iter mi)(hg:MG X tg g)(hb:MSs X body mb)
  (hs:∀x,foldedSetIterable iter X.env x=pure x:=by intro _;rfl):MS X (.For tg iter body [] pos) (fH mi g mb):=by
 refine PS.imp (ps_for gd.po gd.calm hi hg hb hs) fun D σ H ⟨ρ,σp,h,rs,rh,q⟩=>⟨ρ,σp,h,rs,rh,ck.ex q fun ρ1 H1 it J h1 l1 rh1 jr w=>?_⟩;refine⟨fun i m σ H=>m=it.xs.length - i/\i<=it.xs.length/\∃ρ σp h,Le ρ1 H1 ρ H/\RS X.K ρ H σp σ/\RH X.K X.mg ρ H h/\ck X ρ H (mGo it g mb (it.xs.drop i) σp h) D,⟨_,rfl,qaP _,ρ1,σp,h1,Le.refl _ _,rs.le l1,rh1,w⟩,?_⟩;rintro i m σ2 H2 ⟨rfl,hi,ρ2,σp2,h2,l2,rs2,rh2,w2⟩;by_cases hlt:i<it.xs.length
 ·have ed:it.xs.drop i=it.xs[i]::it.xs.drop (i+1):=qcE hlt;rw[ed] at w2;unfold mGo at w2
  split at w2
  ·rename_i hok
   obtain⟨j1,j2⟩:=jr ρ2 H2 h2 i l2 rh2 hok;obtain⟨go,yl⟩:=j1 hlt;refine .inr ⟨go,fun σ3 H3=>∃ρ3 σp3 h3,Le ρ1 H1 ρ3 H3/\RS X.K ρ3 H3 σp3 σ3/\RH X.K X.mg ρ3 H3 h3/\ck X ρ3 H3 (mGo it g mb (it.xs.drop (i+1)) σp3 h3) D,fun σ3 H3 z=>⟨_,by ext,rfl,hlt,z⟩,fun x' H' y=>?_⟩;obtain⟨ρ',x,l',rh',ex,rx⟩:=yl x' H' y;have ex':x=it.xs[i]:=by rw[qas hlt] at ex;exact (Option.some.inj ex).symm
   subst ex';refine⟨ρ',σp2,h2,_,rs2.le l',rh',rx,?_⟩;have w2':=ck.le l' w2
   cases eg:g it.xs[i] σp2 h2 with
   | nx σ4 h4 =>
    rw[eg] at w2';intro ρ5 H5 σ5 l5 r5 s5;refine⟨ρ5,σ4,h4,s5,r5,?_⟩;have w3:=ck.le l5 w2';have l6:Le ρ1 H1 ρ5 H5:=l2.trans (l'.trans l5);dsimp only at w3
    cases em:mb σ4 h4 with
    | nx σ6 h6=>rw[em] at w3;exact fun ρ7 H7 σ7 l7 r7 s7=>⟨ρ7,σ6,h6,l6.trans l7,s7,r7,ck.le l7 w3⟩
    | ct σ6 h6=>rw[em] at w3;exact fun ρ7 H7 σ7 l7 r7 s7=>⟨ρ7,σ6,h6,l6.trans l7,s7,r7,ck.le l7 w3⟩
    | bk σ6 h6=>rw[em] at w3;exact w3
    | rt v h6=>rw[em] at w3;exact w3
    | exc e σ6 h6=>rw[em] at w3;exact w3
    | rse e σ6 h6=>rw[em] at w3;exact w3
    | bad=>rw[em] at w3;exact w3
   | exc e σ4 h4=>rw[eg] at w2';exact w2'
   | _=>rw[eg] at w2';exact w2'.elim
  ·exact w2.elim
 ·have e:i=it.xs.length:=by ext
  rw[e,List.drop_length] at w2;unfold mGo at w2
  split at w2
  ·rename_i hok
   obtain⟨j1,j2⟩:=jr ρ2 H2 h2 i l2 rh2 hok;exact .inl ⟨j2 (by ext),w2 ρ2 H2 σ2 (Le.refl _ _) rh2 rs2⟩
  ·exact w2.elim
def itSeq(v:PV)(h:MH):Out MIt:=match v with
 | .loc n=>(match h[n]? with
  | some (.lst xs)=>.ok ⟨xs,[(n,xs)]⟩ h
  | _=>.bad)
 | .frl xs=>.ok ⟨xs,[]⟩ h
 | _=>.bad
def mItL(m:Mx PV):Mx MIt:=fun σ h=>(m σ h).bind itSeq
def uW(hS:∀ρ' H' h,Le ρ H ρ' H'->RH X.K X.mg ρ' H' h->(⟨xs,gd⟩:MIt).ok h->∃ys,SqL X.K H' a ys/\RPs X.K ρ' H' xs ys):oS X ρ H ⟨xs,gd⟩ (Itl X.K a):=by
 intro ρ' H' h i l rh ok;obtain⟨ys,hs,rs⟩:=hS ρ' H' h l rh ok;refine⟨fun hi=>?_,fun hi=>⟨ys,hs,by rw[<-rs.length];exact hi⟩⟩;have hx:xs[i]?=some (xs[i]'hi):=qas hi;obtain⟨y,ey,ry⟩:=rs.get hx;refine⟨⟨ys,y,hs,ey⟩,fun x' H2 ⟨e,z⟩=>?_⟩;subst e
 have:ys[i]?=some x':=z ys hs
 rw[ey] at this;cases this;exact⟨ρ',_,Le.refl _ _,rh,hx,ry⟩
def mi_list(hl:ME X l m):MI X tg l (mItL m) :=
 PI.imp (pi_list hl) fun σ H Q ⟨ρ,σp,h,rs,rh,q⟩=>⟨ρ,σp,h,rs,rh,Ful.bind q fun ρ1 H1 x x' h1 _ l1 rh1 rx q1=>by
  cases rx with
  | @loc n a e =>
   obtain⟨ob,eo,rob⟩:=rh1.obj e;dsimp only[itSeq] at q1;rw[eo] at q1
   cases ob with
   | dic kvs=>exact q1.elim
   | exc x=>exact q1.elim
   | lst xs =>
    obtain⟨ys,ey,ry⟩:=rob;refine⟨a,rfl,⟨ys,SqL.of ey⟩,q1 ρ1 H1 _ (Le.refl _ _) rh1 (uW fun ρ' H' h' l rh' ok=>?_)⟩;obtain⟨ys',ey',ry'⟩:=rh'.at' n a _ (l.get e) (ok (n,xs) (by simp));exact⟨ys',SqL.of ey',ry'⟩
  | frl s r =>
   exact⟨_,rfl,⟨_,s.sq⟩,q1 ρ1 H1 _ (Le.refl _ _) rh1 (uW fun ρ' H' h' l rh' ok=>⟨_,(l.sqf s).sq,r.le l⟩)⟩
  | _=>exact q1.elim⟩
def mItT(m:Mx PV):Mx MIt:=fun σ h=>(m σ h).bind fun v h1=>match v with
 | .tup xs=>.ok ⟨xs,[]⟩ h1
 | _=>.bad
def mi_tup(hl:ME X l m):MI X tg l (mItT m) :=
 PI.imp (pi_tup hl) fun σ H Q ⟨ρ,σp,h,rs,rh,q⟩=>⟨ρ,σp,h,rs,rh,Ful.bind q fun ρ1 H1 x x' h1 _ l1 rh1 rx q1=>by
  cases rx with
  | @tup xs a ys s r =>
   refine⟨_,rfl,⟨_,s⟩,q1 ρ1 H1 _ (Le.refl _ _) rh1 ?_⟩;intro ρ' H' h' i l rh' ok;have s':=l.sqt s;have r':=r.le l;refine⟨fun hi=>?_,fun hi=>⟨ys,s',by rw[<-r.length];exact hi⟩⟩;have hx:xs[i]?=some (xs[i]'hi):=qas hi;obtain⟨y,ey,ry⟩:=r'.get hx;refine⟨⟨ys,y,s',ey⟩,fun x' H2 ⟨e,z⟩=>?_⟩;subst e
   have:ys[i]?=some x':=z ys s'
   rw[ey] at this;cases this;exact⟨ρ',_,Le.refl _ _,rh',hx,ry⟩
  | _=>exact q1.elim⟩
def bF(lo:Int)(n:Nat):List PV:=(List.range n).map fun (i:Nat)=>PV.int (lo+(i:Int))
def jH(lo:Int)(n:Nat):(bF lo n).length=n:=by simp[bF]
def vg(lo:Int)(n:Nat):oS X ρ H ⟨bF lo n,[]⟩ (Itr lo n):=by
 intro ρ' H' h i l rh ok;have hl:(bF lo n).length=n:=jH lo n;refine⟨fun hi=>⟨by rw[hl] at hi;exact hi,fun x' H2 ⟨e1,e2⟩=>?_⟩,fun hi=>by rw[hl] at hi;exact hi⟩;subst e1;subst e2;rw[hl] at hi;exact⟨ρ',.int (lo+i),Le.refl _ _,rh,by simp[bF,hi],.int _⟩
def d4(m:Mx (List PV)):Mx MIt:=fun σ h=>(m σ h).bind fun vs h1=>match vs with
 | [.int j]=>if -(2 ^ 62)<=j/\j<2 ^ 62 then .ok ⟨bF 0 j.toNat,[]⟩ h1 else .bad
 | _=>.bad
def jQ(m:Mx (List PV)):Mx MIt:=fun σ h=>(m σ h).bind fun vs h1=>match vs with
 | [.int i,.int j]=>if -(2 ^ 62)<=i/\i<2 ^ 62 /\ -(2 ^ 62)<=j/\j<2 ^ 62 then .ok ⟨bF i (j - i).toNat,[]⟩ h1 else .bad
 | _=>.bad
def xR(hg:Gl X "range")(hm:X.mg "range"=none)(ha:MA X [a] m)(hs:starEach [a] X.env=[(false,eval a X.env)]:=by rfl):MI X tg (.Call (.Name "range" p) [a] [] pos) (d4 m):=by
 refine PI.imp (xy hg hm ha hs) fun σ H Q ⟨ρ,σp,h,rs,rh,q⟩=>⟨ρ,σp,h,rs,rh,Ful.bind q fun ρ1 H1 x x' h1 _ l1 rh1 rx q1=>?_⟩
 cases rx with
 | nil=>exact q1.elim
 | cons r1 t1 =>
  cases t1 with
  | nil =>
   cases r1 with
   | int j =>
    dsimp only at q1
    split at q1
    ·rename_i hj
     exact⟨j,rfl,hj.1,hj.2,q1 ρ1 H1 _ (Le.refl _ _) rh1 (vg 0 j.toNat)⟩
    ·exact q1.elim
   | _=>exact q1.elim
  | cons r2 t2=>cases r1 <;> exact q1.elim
def yN{tg a b:Expr}{m:Mx (List PV)}{p pos:Pos}(hg:Gl X "range")(hm:X.mg "range"=none)(ha:MA X [a,b] m)(hs:starEach [a,b] X.env=[(false,eval a X.env),(false,eval b X.env)]:=by rfl)(hs2:starEach [b] X.env=[(false,eval b X.env)]:=by rfl):MI X tg (.Call (.Name "range" p) [a,b] [] pos) (jQ m):=by
 refine PI.imp (yi hg hm ha hs hs2) fun σ H Q ⟨ρ,σp,h,rs,rh,q⟩=>⟨ρ,σp,h,rs,rh,Ful.bind q fun ρ1 H1 x x' h1 _ l1 rh1 rx q1=>?_⟩
 split at q1
 ·cases rx with
  | cons r1 t1 =>
   cases t1 with
   | cons r2 t2 =>
    cases t2;cases r1;cases r2
    split at q1
    ·rename_i hj
     exact⟨_,_,rfl,hj,q1 ρ1 H1 _ (Le.refl _ _) rh1 (vg _ _)⟩
    ·exact q1.elim
 ·exact q1.elim
def b8(f:PV->Option PyData):List PV->Option (List PyData)
 | []=>some []
 | x::r=>match f x,b8 f r with
  | some d,some ds=>some (d::ds)
  | _,_=>none
def rd:Nat->MH->PV->Option PyData
 | 0,_,v=>(match v with
  | .non=>some .none
  | .bl b=>some (.bool b)
  | .int i=>some (.int i)
  | .str x=>some (.str x)
  | _=>none)
 | n+1,h,v=>(match v with
  | .non=>some .none
  | .bl b=>some (.bool b)
  | .int i=>some (.int i)
  | .str x=>some (.str x)
  | .tup xs=>(b8 (rd n h) xs).map PyData.tuple
  | .frl xs=>(b8 (rd n h) xs).map PyData.list
  | .loc m=>(match h[m]? with
   | some (.lst xs)=>(b8 (rd n h) xs).map PyData.list
   | _=>none))
def dP{hp:Heap}{f:PV->Option PyData}{K:qad}{ρ:List Addr}{H:Hp}(hf:∀v v' u d,RP K ρ H v v'->bh v' u->f v=some d->∃as,Reads hp u d as) :
  ∀{xs:List PV} {ys:List V} {us:List Value} {ds:List PyData},RPs K ρ H xs ys->az ys us->b8 f xs=some ds->∃as,ReadsAll hp us ds as:=by
 intro xs
 induction xs with
 | nil =>
  intro ys us ds r v e;cases r;cases v;cases e;exact⟨_,.nil⟩
 | cons x xs ih =>
  intro ys us ds r v e;cases r with|cons r t=>cases v with|cons v w =>
  simp only[b8] at e
  split at e
  ·rename_i d ds' e1 e2
   cases e;obtain⟨a1,q1⟩:=hf _ _ _ _ r v e1;obtain⟨a2,q2⟩:=ih t w e2;exact⟨_,.cons q1 q2⟩
  ·cases e
def cY{HV:List (Addr × Obj)}{σ:L2.St}{H:Hp}{s:Shared}{ρ:List Addr}{h:MH}(I:Inv X HV σ H s)(rh:RH X.K X.mg ρ H h) :
  ∀(n:Nat) (v:PV) (v':V) (u:Value) (d:PyData),RP X.K ρ H v v'->bh v' u->rd n h v=some d->∃as,Reads s.heap u d as:=by
 intro n
 induction n with
 | zero =>
  intro v v' u d rp r e
  cases rp with
  | non=>cases e;cases r;exact⟨_,.none⟩
  | bl b=>cases e;cases r;exact⟨_,.bool b⟩
  | int i=>cases e;obtain⟨t,rfl⟩:=r;exact⟨_,.int i t⟩
  | str i=>cases e;obtain⟨t,rfl⟩:=r;exact⟨_,.str i t⟩
  | _=>cases e
 | succ n ih =>
  intro v v' u d rp r e
  cases rp with
  | non=>cases e;cases r;exact⟨_,.none⟩
  | bl b=>cases e;cases r;exact⟨_,.bool b⟩
  | int i=>cases e;obtain⟨t,rfl⟩:=r;exact⟨_,.int i t⟩
  | str i=>cases e;obtain⟨t,rfl⟩:=r;exact⟨_,.str i t⟩
  | @tup xs a ys s rr =>
   cases r;simp only[rd] at e
   cases q:b8 (rd n h) xs with
   | none=>rw[q] at e;cases e
   | some ds =>
    rw[q] at e;cases e;obtain⟨its,rv,⟨o,e1,e2,m,e3⟩,_⟩:=I.tuple s;obtain⟨as,ra⟩:=dP (ih) rr rv q;exact⟨_,.tuple e1 e2 e3 (by simpa using ra)⟩
  | @frl xs a ys s rr =>
   cases r;simp only[rd] at e
   cases q:b8 (rd n h) xs with
   | none=>rw[q] at e;cases e
   | some ds =>
    rw[q] at e;cases e;obtain⟨its,rv,⟨o,m,e1,e2,_,e3⟩,_⟩:=I.list s.sq;obtain⟨as,ra⟩:=dP (ih) rr rv q;exact⟨_,.list e1 e2 e3 (by simpa using ra)⟩
  | loc en =>
   cases r;simp only[rd] at e;obtain⟨ob,eo,rob⟩:=rh.obj en;rw[eo] at e
   cases ob with
   | dic kvs=>cases e
   | exc x=>cases e
   | lst xs =>
    obtain⟨ys,ey,ry⟩:=rob;dsimp only at e
    cases q:b8 (rd n h) xs with
    | none=>rw[q] at e;cases e
    | some ds =>
     rw[q] at e;cases e;obtain⟨its,rv,⟨o,m',e1,e2,_,e3⟩,_⟩:=I.list (SqL.of (K:=X.K) ey);obtain⟨as,ra⟩:=dP (ih) ry rv q;exact⟨_,.list e1 e2 e3 (by simpa using ra)⟩
def opEq(x y:PV)(h:MH):Out PV:=match rd 60 h x,rd 60 h y with
 | some a,some b=>if SeqAt.shaped a=true/\SeqAt.shaped b=true then .ok (.bl (PyData.eqv a b)) h else .bad
 | _,_=>.bad
def opNe(x y:PV)(h:MH):Out PV:=match rd 60 h x,rd 60 h y with
 | some a,some b=>if SeqAt.shaped a=true/\SeqAt.shaped b=true then .ok (.bl (!PyData.eqv a b)) h else .bad
 | _,_=>.bad
def fb(hr:Room k X.A):OpJ X (compareOp .Eq) opEq:=by
 intro HV s σ H x' y' u v Q I rx' ry' ⟨ρ,h,x,y,rh,rx,ry,q⟩;unfold opEq at q
 split at q
 ·rename_i a b ea eb
  split at q
  ·rename_i hs
   obtain⟨_,ra⟩:=cY I rh 60 x x' u a rx rx' ea;obtain⟨_,rb⟩:=cY I rh 60 y y' v b ry ry' eb;exact eq_dataH ra rb hs.1 hs.2 hr.units ⟨.bl _,H,I,rfl,q ρ H _ (Le.refl _ _) rh (.bl _)⟩
  ·exact q.elim
 ·exact q.elim
def rk(hr:Room k X.A):OpJ X (compareOp .NotEq) opNe:=by
 intro HV s σ H x' y' u v Q I rx' ry' ⟨ρ,h,x,y,rh,rx,ry,q⟩;unfold opNe at q
 split at q
 ·rename_i a b ea eb
  split at q
  ·rename_i hs
   obtain⟨_,ra⟩:=cY I rh 60 x x' u a rx rx' ea;obtain⟨_,rb⟩:=cY I rh 60 y y' v b ry ry' eb;exact ne_dataH ra rb hs.1 hs.2 hr.units ⟨.bl _,H,I,rfl,q ρ H _ (Le.refl _ _) rh (.bl _)⟩
  ·exact q.elim
 ·exact q.elim
def mT(f:Int->Int->PV):PV->PV->MH->Out PV:=fun x y h=>match x,y with
 | .int i,.int j=>.ok (f i j) h
 | _,_=>.bad
def oi(ho:OpR X F (rI0 f))(hfg:∀ρ H i j,RP X.K ρ H (g i j) (f i j)):OpJ X F (mT g):=by
 intro HV s σ H x' y' u v Q I rx' ry' ⟨ρ,h,x,y,rh,rx,ry,q⟩;unfold mT at q
 split at q
 ·cases rx;cases ry;exact ho HV s σ H _ _ u v Q I rx' ry' ⟨_,_,rfl,rfl,q ρ H _ (Le.refl _ _) rh (hfg ρ H _ _)⟩
 ·exact q.elim
def opLt:=mT fun i j=>.bl (decide (i<j))
def opLe:=mT fun i j=>.bl (decide (i<=j))
def opGt:=mT fun i j=>.bl (decide (j<i))
def opGe:=mT fun i j=>.bl (decide (j<=i))
def fT:OpJ X (compareOp .Lt) opLt:=oi op_lt fun _ _ _ _=>.bl _
def oj_le:OpJ X (compareOp .LtE) opLe:=oi op_le fun _ _ _ _=>.bl _
def lh:OpJ X (compareOp .Gt) opGt:=oi op_gt fun _ _ _ _=>.bl _
def oj_ge:OpJ X (compareOp .GtE) opGe:=oi op_ge fun _ _ _ _=>.bl _
def opMul(x y:PV)(h:MH):Out PV:=match x,y with
 | .int i,.int j=>if IntMulOk i j then .ok (.int (i * j)) h else .bad
 | .loc n,.int j=>(match h[n]? with
  | some (.lst xs)=>if -(2 ^ 63)<=j/\j<2 ^ 63 then newL (List.flatten (List.replicate j.toNat xs)) h else .bad
  | _=>.bad)
 | _,_=>.bad
def opFd(x y:PV)(h:MH):Out PV:=match x,y with
 | .int i,.int j=>if j≠0/\Builtin.divisionGoesByPylong i j=false then .ok (.int (i.fdiv j)) h else .bad
 | _,_=>.bad
def opMod(x y:PV)(h:MH):Out PV:=match x,y with
 | .int i,.int j=>if j≠0 then .ok (.int (i.fmod j)) h else .bad
 | _,_=>.bad
def opPow(x y:PV)(h:MH):Out PV:=match x,y with
 | .int i,.int j=>if gG i j then .ok (.int (i ^ j.toNat)) h else .bad
 | _,_=>.bad
def opAdd(x y:PV)(h:MH):Out PV:=match x,y with
 | .int i,.int j=>.ok (.int (i+j)) h
 | .str a,.str b=>if a.length+b.length<=sizeLine then .ok (.str (a++b)) h else .bad
 | .loc n,.loc m=>(match h[n]?,h[m]? with
  | some (.lst xs),some (.lst ys)=>newL (xs++ys) h
  | _,_=>.bad)
 | .tup xs,.tup ys=>if xs≠[] then newT (xs++ys) h else .bad
 | _,_=>.bad
def opSub:=mT fun i j=>.int (i - j)
def opNeg(x:PV)(h:MH):Out PV:=match x with
 | .int i=>.ok (.int (-i)) h
 | _=>.bad
def iK:OpJ X (binaryOp .Sub) opSub:=oi op_sub fun _ _ _ _=>.int _
def nO:UnJ X (unaryOp .USub) opNeg:=by
 intro HV s σ H x' u Q I rx' ⟨ρ,h,x,rh,rx,q⟩
 cases rx with
 | int i=>exact un_neg HV s σ H _ u Q I rx' ⟨i,rfl,q ρ H _ (Le.refl _ _) rh (.int _)⟩
 | _=>exact q.elim
def oj_fd:OpJ X (binaryOp .FloorDiv) opFd:=by
 intro HV s σ H x' y' u v Q I rx' ry' ⟨ρ,h,x,y,rh,rx,ry,q⟩;unfold opFd at q
 split at q
 ·rename_i i j
  cases rx;cases ry
  split at q
  ·rename_i hc
   obtain⟨t,rfl⟩:=rx';obtain⟨t',rfl⟩:=ry';exact floordiv_int hc.1 ⟨.int _,H,I.tok _,⟨_,rfl⟩,q ρ H _ (Le.refl _ _) rh (.int _)⟩ (.inl hc.2)
  ·exact q.elim
 ·exact q.elim
def dG:OpJ X (binaryOp .Mod) opMod:=by
 intro HV s σ H x' y' u v Q I rx' ry' ⟨ρ,h,x,y,rh,rx,ry,q⟩;unfold opMod at q
 split at q
 ·rename_i i j
  cases rx;cases ry
  split at q
  ·rename_i hc
   obtain⟨t,rfl⟩:=rx';obtain⟨t',rfl⟩:=ry';exact mod_int' hc ⟨.int _,H,I.tok _,⟨_,rfl⟩,q ρ H _ (Le.refl _ _) rh (.int _)⟩
  ·exact q.elim
 ·exact q.elim
def xI:OpJ X (binaryOp .Pow) opPow:=by
 intro HV s σ H x' y' u v Q I rx' ry' ⟨ρ,h,x,y,rh,rx,ry,q⟩;unfold opPow at q
 split at q
 ·rename_i i j
  cases rx;cases ry
  split at q
  ·rename_i hc
   exact op_pow HV s σ H _ _ u v Q I rx' ry' ⟨i,j,rfl,rfl,hc,q ρ H _ (Le.refl _ _) rh (.int _)⟩
  ·exact q.elim
 ·exact q.elim
def aM:OpJ X (binaryOp .Add) opAdd:=by
 intro HV s σ H x' y' u v Q I rx' ry' ⟨ρ,h,x,y,rh,rx,ry,q⟩
 cases rx with
 | int i =>
  cases ry with
  | int j=>exact op_add HV s σ H _ _ u v Q I rx' ry' ⟨i,j,rfl,rfl,q ρ H _ (Le.refl _ _) rh (.int _)⟩
  | _=>exact q.elim
 | str a =>
  cases ry with
  | str b =>
   dsimp only[opAdd] at q
   split at q
   ·rename_i hl
    exact wc HV s σ H _ _ u v Q I rx' ry' ⟨a,b,rfl,rfl,hl,q ρ H _ (Le.refl _ _) rh (.str _)⟩
   ·exact q.elim
  | _=>exact q.elim
 | @loc n a e =>
  cases ry with
  | @loc m b e2 =>
   dsimp only[opAdd] at q;obtain⟨o1,h1,r1⟩:=rh.obj e;obtain⟨o2,h2,r2⟩:=rh.obj e2;rw[h1,h2] at q
   cases o1 with
   | dic kvs=>exact q.elim
   | exc x=>exact q.elim
   | lst xs =>
    cases o2 with
    | dic kvs=>exact q.elim
    | exc x=>exact q.elim
    | lst ys =>
     obtain⟨xs',ex,rx1⟩:=r1;obtain⟨ys',ey,ry1⟩:=r2;obtain⟨z1,z2⟩:=lA rh (rx1.append ry1) q;exact op_cat HV s σ H _ _ u v Q I rx' ry' ⟨a,b,xs',ys',rfl,rfl,ex,ey,by rw[<-qay];exact z1,z2⟩
  | _=>exact q.elim
 | tup s1 r1 =>
  cases ry with
  | tup s2 r2 =>
   dsimp only[opAdd] at q
   split at q
   ·rename_i hne
    obtain⟨z1,z2⟩:=vF rh (r1.append r2) q;refine op_catT HV s σ H _ _ u v Q I rx' ry' ⟨_,_,_,_,rfl,rfl,s1,s2,?_,by rw[<-qay];exact z1,fun z=>?_,fun _=>z2⟩
    ·rintro rfl;cases r1;exact hne rfl
    ·subst z;cases r2;unfold newT at q
     split at q
     ·exact q ρ H _ (Le.refl _ _) rh (by rw[qck];exact .tup s1 r1)
     ·exact q.elim
   ·exact q.elim
  | _=>exact q.elim
 | _=>cases ry <;> exact q.elim
def RPs.rep{K:qad}{ρ:List Addr}{H:Hp}{xs:List PV}{ys:List V}(r:RPs K ρ H xs ys):∀n:Nat,RPs K ρ H (List.replicate n xs).flatten (List.replicate n ys).flatten
 | 0=>.nil
 | n+1=>by rw[qbf,qbf,qbt,qbt];exact r.append (RPs.rep r n)
def fk:OpJ X (binaryOp .Mult) opMul:=by
 intro HV s σ H x' y' u v Q I rx' ry' ⟨ρ,h,x,y,rh,rx,ry,q⟩
 cases rx with
 | int i =>
  cases ry with
  | int j =>
   dsimp only[opMul] at q
   split at q
   ·rename_i hc
    obtain⟨t,rfl⟩:=rx';obtain⟨t',rfl⟩:=ry';exact PyProof.Rows.mul_int ⟨.int _,H,I.tok _,⟨_,rfl⟩,q ρ H _ (Le.refl _ _) rh (.int _)⟩ hc
   ·exact q.elim
  | _=>exact q.elim
 | @loc n a e =>
  cases ry with
  | int j =>
   dsimp only[opMul] at q;obtain⟨o1,h1,r1⟩:=rh.obj e;rw[h1] at q
   cases o1 with
   | dic kvs=>exact q.elim
   | exc x=>exact q.elim
   | lst xs =>
    dsimp only at q
    split at q
    ·rename_i hj
     obtain⟨xs',ex,rx1⟩:=r1;obtain⟨z1,z2⟩:=lA rh (rx1.rep j.toNat) q;refine op_rep HV s σ H _ _ u v Q I rx' ry' ⟨a,j,xs',rfl,rfl,ex,hj.1,hj.2,?_,z2⟩;rw[vq] at z1;rw[Nat.mul_comm];exact z1
    ·exact q.elim
  | _=>exact q.elim
 | _=>cases ry <;> exact q.elim
def aQ(x y:PV)(h:MH):Out PV:=match y with
 | .int i=>(match x with
  | .loc n=>(match h[n]? with
   | some (.lst xs)=>(match atI xs i with
    | some v=>.ok v h
    | none=>.bad)
   | _=>.bad)
  | .tup xs=>(match atI xs i with
   | some v=>.ok v h
   | none=>.bad)
  | .frl xs=>(match atI xs i with
   | some v=>.ok v h
   | none=>.bad)
  | .str z=>(match atI z.cps.toList i with
   | some c=>if z.length<=sizeLine then .ok (.str ⟨#[c]⟩) h else .bad
   | none=>.bad)
  | _=>.bad)
 | _=>.bad
def oR{K:qad}{ρ:List Addr}{H:Hp}{xs:List PV}{ys:List V}{i:Int}{v:PV}(r:RPs K ρ H xs ys)(e:atI xs i=some v):∃v',atI ys i=some v'/\RP K ρ H v v':=by
 unfold atI at e ⊢;rw[<-r.length]
 cases q:ixN xs.length i with
 | none=>rw[q] at e;cases e
 | some j =>
  rw[q] at e;exact r.get e
def me_ix{a b:Expr}{ma mb:Mx PV}{pos:Pos}(ha:ME X a ma)(hb:ME X b mb)(hs:oD b):ME X (.Subscript a b pos) (ah aQ ma mb):=by
 refine PE.imp (pe_ix ix_seq ha hb hs) fun σ H Q q=>?_;obtain⟨ρ,σp,h,rs,rh,q⟩:=q;refine⟨ρ,σp,h,rs,rh,Ful.bind q fun ρ1 H1 x x' h1 _ l1 rh1 rx q1=>⟨ρ1,σp,h1,rs.le l1,rh1,Ful.bind q1 fun ρ2 H2 y y' h2 _ l2 rh2 ry q2=>?_⟩⟩;have rx2:=rx.le l2
 cases ry with
 | int i =>
  cases rx2 with
  | @loc n a e =>
   obtain⟨ob,eo,rob⟩:=rh2.obj e;dsimp only[aQ] at q2;rw[eo] at q2
   cases ob with
   | dic kvs=>exact q2.elim
   | exc x=>exact q2.elim
   | lst xs =>
    obtain⟨ys,ey,rr⟩:=rob;dsimp only at q2
    cases ea:atI xs i with
    | none=>rw[ea] at q2;exact q2.elim
    | some v =>
     rw[ea] at q2;obtain⟨v',e',rv⟩:=oR rr ea;exact .inl ⟨a,ys,i,v',rfl,rfl,SqL.of ey,e',q2 ρ2 H2 _ (Le.refl _ _) rh2 rv⟩
  | @tup xs a ys s1 rr =>
   dsimp only[aQ] at q2
   cases ea:atI xs i with
   | none=>rw[ea] at q2;exact q2.elim
   | some v =>
    rw[ea] at q2;obtain⟨v',e',rv⟩:=oR rr ea;exact .inr (.inl ⟨_,_,i,v',rfl,rfl,s1,e',q2 ρ2 H2 _ (Le.refl _ _) rh2 rv⟩)
  | @frl xs a ys s1 rr =>
   dsimp only[aQ] at q2
   cases ea:atI xs i with
   | none=>rw[ea] at q2;exact q2.elim
   | some v =>
    rw[ea] at q2;obtain⟨v',e',rv⟩:=oR rr ea;exact .inl ⟨_,_,i,v',rfl,rfl,s1.sq,e',q2 ρ2 H2 _ (Le.refl _ _) rh2 rv⟩
  | str z =>
   dsimp only[aQ] at q2
   cases ea:atI z.cps.toList i with
   | none=>rw[ea] at q2;exact q2.elim
   | some c =>
    rw[ea] at q2;dsimp only at q2
    split at q2
    ·rename_i hz
     exact .inr (.inr ⟨z,i,c,rfl,rfl,hz,ea,q2 ρ2 H2 _ (Le.refl _ _) rh2 (.str _)⟩)
    ·exact q2.elim
  | _=>exact q2.elim
 | _=>exact q2.elim
def mCB(f:List PV->MH->Out PV)(m:Mx (List PV)):Mx PV:=fun σ h=>(m σ h).bind fun xs h1=>(f xs h1).ne
section
variable {x:Str} {id T:String} {e:Expr} {es:List Expr} {f:List PV→MH→Out PV} {m:Mx (List PV)} {p pos:Pos}
def tM_cb{σ:L2.St}{H:Hp}{Q:VK}(q:tM X (RV' X) (mCB f m) σ H Q):tCB (cJ X f) (tM X (RVs' X) m) σ H Q:=by
 obtain⟨ρ,σp,h,rs,rh,q⟩:=q;exact⟨ρ,σp,h,rs,rh,Ful.bind q fun ρ1 H1 x x' h1 _ l1 rh1 rx q1=>⟨ρ1,h1,x,rh1,rx,q1.zero⟩⟩
def Ac(g:Good X N W G k)(j:Nat)(hj:G[j]?=some x)(hc:cH X (.builtin id) f)(hm:X.mg x=none)(hv:bootBuiltins x=some (.builtin id))(ha:MA X (e::es) m)
  (he:starEach (e::es) X.env=(false,eval e X.env)::starEach es X.env:=by rfl) (hpl:(backTo pos (starEach es X.env)).any (·.1)=false:=by rfl):ME X (.Call (.Name x p) (e::es) [] pos) (mCB f m) :=
 have d:=g.dbg x (qal _ (aS hj))
 PE.imp (jo hc (g.gl x (aS hj)) hm hv ha d.2.2 d.1 he hpl) fun _ _ _ q=>tM_cb q
def xL(g:Good X N W G k)(j:Nat)(hj:G[j]?=some x)(hc:cH X (.type T) f)(hm:X.mg x=none)(hv:bootBuiltins x=some (.type T))(ha:MA X (e::es) m)
  (he:starEach (e::es) X.env=(false,eval e X.env)::starEach es X.env:=by rfl) (hpl:(backTo pos (starEach es X.env)).any (·.1)=false:=by rfl):ME X (.Call (.Name x p) (e::es) [] pos) (mCB f m) :=
 have d:=g.dbg x (qal _ (aS hj))
 PE.imp (iu hc (g.gl x (aS hj)) hm hv ha d.2.2 d.1 he hpl) fun _ _ _ q=>tM_cb q
end
def fAbs(xs:List PV)(h:MH):Out PV:=match xs with
 | [.int i]=>.ok (.int (if i<0 then -i else i)) h
 | _=>.bad
def fMin(xs:List PV)(h:MH):Out PV:=match xs with
 | [.int i,.int j]=>.ok (.int (if j<i then j else i)) h
 | _=>.bad
def fMax(xs:List PV)(h:MH):Out PV:=match xs with
 | [.int i,.int j]=>.ok (.int (if j>i then j else i)) h
 | _=>.bad
def fInt(xs:List PV)(h:MH):Out PV:=match xs with
 | [.int i]=>.ok (.int i) h
 | [.bl b]=>.ok (.int (if b then 1 else 0)) h
 | _=>.bad
def fLen(xs:List PV)(h:MH):Out PV:=match xs with
 | [.loc n]=>(match h[n]? with
  | some (.lst ys)=>.ok (.int ys.length) h
  | _=>.bad)
 | [.tup ys]=>.ok (.int ys.length) h
 | [.frl ys]=>.ok (.int ys.length) h
 | [.str z]=>if z.length<=sizeLine then .ok (.int z.length) h else .bad
 | _=>.bad
def yo:cH X (.builtin "abs") fAbs:=by
 intro HV s σ H xs us Q I r ⟨ρ,h,ps,rh,rp,q⟩
 cases rp with
 | nil=>exact q.elim
 | cons r1 t1 =>
  cases t1 with
  | cons _ _=>cases r1 <;> exact q.elim
  | nil =>
   cases r1 with
   | int i=>exact AJ HV s σ H _ us Q I r ⟨i,rfl,q ρ H _ (Le.refl _ _) rh (.int _)⟩
   | _=>exact q.elim
def ux{f:List PV->MH->Out PV}{F:Int->Int->Int}{r:List V->Hp->VK->Prop}{V0:Value}(hf:∀i j h,f [.int i,.int j] h=.ok (.int (F i j)) h)(hb:∀xs h,(∀i j,xs≠[.int i,.int j])->f xs h=.bad)
  (hc:cu X V0 (fun xs H Q=>∃i j,xs=[.int i,.int j]/\Q (.int (F i j)) H)):cH X V0 f:=by
 intro HV s σ H xs us Q I r ⟨ρ,h,ps,rh,rp,q⟩;by_cases z:∃i j,ps=[.int i,.int j]
 ·obtain⟨i,j,rfl⟩:=z
  cases rp with
  | cons r1 t1=>cases t1 with
   | cons r2 t2 =>
    cases t2;cases r1;cases r2;rw[hf] at q;exact hc HV s σ H _ us Q I r ⟨i,j,rfl,q ρ H _ (Le.refl _ _) rh (.int _)⟩
 ·rw[hb ps h fun i j e=>z ⟨i,j,e⟩] at q;exact q.elim
def kI(g:Good X N W G k):cH X (.builtin "min") fMin:=ux (r:=fun _ _ _=>True) (F:=fun i j=>if j<i then j else i) (fun _ _ _=>rfl) (fun xs h z=>by unfold fMin;split <;> first | rfl | exact absurd rfl (z _ _)) (qz g.calm)
def uj(g:Good X N W G k):cH X (.builtin "max") fMax:=ux (r:=fun _ _ _=>True) (F:=fun i j=>if j>i then j else i) (fun _ _ _=>rfl) (fun xs h z=>by unfold fMax;split <;> first | rfl | exact absurd rfl (z _ _)) (pX g.calm)
def yp:cH X (.type "int") fInt:=by
 intro HV s σ H xs us Q I r ⟨ρ,h,ps,rh,rp,q⟩
 cases rp with
 | nil=>exact q.elim
 | cons r1 t1 =>
  cases t1 with
  | cons _ _=>cases r1 <;> exact q.elim
  | nil =>
   cases r1 with
   | int i=>exact pK HV s σ H _ us Q I r (.inl ⟨i,rfl,q ρ H _ (Le.refl _ _) rh (.int _)⟩)
   | bl b=>exact pK HV s σ H _ us Q I r (.inr ⟨b,rfl,q ρ H _ (Le.refl _ _) rh (.int _)⟩)
   | _=>exact q.elim
def cN:cH X (.builtin "len") fLen:=by
 intro HV s σ H xs us Q I r ⟨ρ,h,ps,rh,rp,q⟩
 cases rp with
 | nil=>exact q.elim
 | cons r1 t1 =>
  cases t1 with
  | cons _ _=>cases r1 <;> exact q.elim
  | nil =>
   cases r1 with
   | @loc n a e =>
    obtain⟨ob,eo,rob⟩:=rh.obj e;dsimp only[fLen] at q;rw[eo] at q
    cases ob with
    | dic kvs=>exact q.elim
    | exc x=>exact q.elim
    | lst xs =>
     obtain⟨ys,ey,rr⟩:=rob;exact jZ HV s σ H _ us Q I r ⟨_,_,rfl,.inl ⟨ys,SqL.of ey,rfl⟩,by rw[<-rr.length];exact q ρ H _ (Le.refl _ _) rh (.int _)⟩
   | tup s1 rr=>exact jZ HV s σ H _ us Q I r ⟨_,_,rfl,.inr ⟨_,s1,rfl⟩,by rw[<-rr.length];exact q ρ H _ (Le.refl _ _) rh (.int _)⟩
   | frl s1 rr=>exact jZ HV s σ H _ us Q I r ⟨_,_,rfl,.inl ⟨_,s1.sq,rfl⟩,by rw[<-rr.length];exact q ρ H _ (Le.refl _ _) rh (.int _)⟩
   | str z =>
    dsimp only[fLen] at q
    split at q
    ·rename_i hz
     exact jZ HV s σ H _ us Q I r ⟨_,_,rfl,⟨hz,rfl⟩,q ρ H _ (Le.refl _ _) rh (.int _)⟩
    ·exact q.elim
   | _=>exact q.elim
def tyP(h:MH):PV->Option String
 | .non=>some "NoneType"
 | .bl _=>some "bool"
 | .int _=>some "int"
 | .str _=>some "str"
 | .tup _=>some "tuple"
 | .frl _=>some "list"
 | .loc n=>match h[n]? with
  | some (.lst _)=>some "list"
  | some (.dic _)=>some "dict"
  | _=>none
def cj(t:String)(T:String):Bool:=t == T || (t == "bool" && T == "int")
def fI(Ts:List String)(x:PV)(h:MH):Out PV:=match tyP h x with
 | some t=>.ok (.bl (Ts.any (cj t))) h
 | none=>.bad
def okT(T:String):Prop:=∀K:qad,∀t∈["NoneType","bool","int","str","tuple","list","dict"],PySem.W.kitOne K (.type t) (.type T)=some (cj t T)
def r9(h1:∀K,PySem.W.kitOne K (.type "NoneType") (.type T)=some (cj "NoneType" T))(h2:∀K,PySem.W.kitOne K (.type "bool") (.type T)=some (cj "bool" T))(h3:∀K,PySem.W.kitOne K (.type "int") (.type T)=some (cj "int" T))
  (h4:∀K,PySem.W.kitOne K (.type "str") (.type T)=some (cj "str" T)) (h5:∀K,PySem.W.kitOne K (.type "tuple") (.type T)=some (cj "tuple" T)) (h6:∀K,PySem.W.kitOne K (.type "list") (.type T)=some (cj "list" T))
  (h7:∀K,PySem.W.kitOne K (.type "dict") (.type T)=some (cj "dict" T)):okT T:=by
 intro K t ht;simp only[qar,qbn,or_false] at ht;rcases ht with rfl|rfl|rfl|rfl|rfl|rfl|rfl
 ·exact h1 K
 ·exact h2 K
 ·exact h3 K
 ·exact h4 K
 ·exact h5 K
 ·exact h6 K
 ·exact h7 K
def ve:okT "int":=r9 (fun _=>rfl) (fun _=>rfl) (fun _=>rfl) (fun _=>rfl) (fun _=>rfl) (fun _=>rfl) (fun _=>rfl)
def mE:okT "bool":=r9 (fun _=>rfl) (fun _=>rfl) (fun _=>rfl) (fun _=>rfl) (fun _=>rfl) (fun _=>rfl) (fun _=>rfl)
def tt:okT "list":=r9 (fun _=>rfl) (fun _=>rfl) (fun _=>rfl) (fun _=>rfl) (fun _=>rfl) (fun _=>rfl) (fun _=>rfl)
def kitx_of{HV:List (Addr × Obj)}{σ:L2.St}{H:Hp}{s:Shared}{ρ:List Addr}{h:MH}{x:PV}{x':V}{u:Value}{t:String}(I:Inv X HV σ H s)(rh:RH X.K X.mg ρ H h)(rx:RP X.K ρ H x x')(ru:bh x' u)(e:tyP h x=some t) :
  t∈["NoneType","bool","int","str","tuple","list","dict"]/\u≠.builtin "__main__.__loader__#opaque"/\∃Hq,PySem.W.KitX X.K u (.type t) Hq/\Hq s.heap:=by
 cases rx with
 | non=>cases e;cases ru;exact⟨by simp,(fun z=>nomatch z),_,PySem.W.kitx_none,trivial⟩
 | bl b=>cases e;cases ru;exact⟨by simp,(fun z=>nomatch z),_,PySem.W.kitx_bool,trivial⟩
 | int i=>cases e;obtain⟨t,rfl⟩:=ru;exact⟨by simp,(fun z=>nomatch z),_,PySem.W.kitx_int,trivial⟩
 | str i=>cases e;obtain⟨t,rfl⟩:=ru;exact⟨by simp,(fun z=>nomatch z),_,PySem.W.kitx_str,trivial⟩
 | tup s1 r1 =>
  cases e;cases ru;obtain⟨its,rv,⟨o,e1,e2,_⟩,_⟩:=I.tuple s1;exact⟨by simp,(fun z=>nomatch z),_,PySem.W.kitx_tuple,⟨o,e1,e2⟩⟩
 | frl s1 r1 =>
  cases e;cases ru;obtain⟨its,rv,⟨o,m,e1,e2,_,e3⟩,_⟩:=I.list s1.sq;exact⟨by simp,(fun z=>nomatch z),_,PySem.W.kitx_list,⟨o,e1,e2⟩⟩
 | @loc n a en =>
  obtain⟨ob,eo,rob⟩:=rh.obj en;dsimp only[tyP] at e;rw[eo] at e;cases ru
  cases ob with
  | lst xs =>
   cases e;obtain⟨ys,ey,_⟩:=rob;obtain⟨its,rv,⟨o,m,e1,e2,_,e3⟩,_⟩:=I.list (SqL.of (K:=X.K) ey);exact⟨by simp,(fun z=>nomatch z),_,PySem.W.kitx_list,⟨o,e1,e2⟩⟩
  | dic kvs =>
   cases e;obtain⟨_,ey⟩:=rob;obtain⟨_,_,vs,_,p⟩:=(show ObjOk X.prog X.w H s.heap a (.dK []) from I.hok a _ ey);obtain⟨o,es,ep,h1,h2,_⟩:=p;exact⟨by simp,(fun z=>nomatch z),_,PySem.W.kitx_dict,⟨o,h1,h2.1⟩⟩
  | exc x=>cases e
def gC(g:Good X N W G k){a:Expr}{m:Mx PV}{T:String}{c:Str}{i j:Nat}{p q pos:Pos}(hi:G[i]?=some "isinstance")(hm:X.mg "isinstance"=none)(hj:G[j]?=some c)(hc:X.mg c=none)(hv:bootBuiltins c=some (.type T))(hT:okT T)(ha:ME X a m)
  (he:starEach [a,.Name c q] X.env=(false,eval a X.env)::starEach [.Name c q] X.env:=by rfl) (he2:starEach [.Name c q] X.env=[(false,eval (.Name c q) X.env)]:=by rfl) (hpl:(backTo pos (starEach [.Name c q] X.env)).any (·.1)=false:=by rfl) :
  ME X (.Call (.Name "isinstance" p) [a,.Name c q] [] pos) (mUn (fI [T]) m):=by
 have d1:=g.dbg _ (qal _ (aS hi));have d:=g.dbg c (qal _ (aS hj));have hcall:cu X (.builtin "isinstance") (fun xs H Q=>∃x',xs=[x',.ty T]/\uJ X (fI [T]) x' H Q):=by
  intro HV s σ H xs us Q I r ⟨x',e,ρ,h,x,rh,rx,q⟩;subst e
  cases r with
  | cons r1 t1=>cases t1 with
   | cons r2 t2 =>
    cases t2;obtain rfl:=(show _=Value.type T from r2);unfold fI at q
    cases et:tyP h x with
    | none=>rw[et] at q;exact q.elim
    | some t =>
     rw[et] at q;obtain⟨ht,hne,Hq,Z,hz⟩:=kitx_of I rh rx r1 et
     exact PySem.W.kia_one Z I.kIn hz (hT X.K t ht) hne fun tk=>⟨.bl _,H,I.tok _,rfl,by
      have q':=q ρ H _ (Le.refl _ _) rh (.bl _)
      simpa using q'⟩
 refine PE.imp (jo hcall (g.gl _ (aS hi)) hm PyProof.Rows.Boot.«isinstance» (gh ha (gh (pe_bltn (v:=.ty T) (u:=.type T) (g.gl c (aS hj)) hc hv rfl d.2.2 d.1) kM he2) he) d1.2.2 d1.1 he hpl) fun σ H Q ⟨ρ,σp,h,rs,rh,q⟩=>?_;exact⟨ρ,σp,h,rs,rh,Ful.bind q fun ρ1 H1 x x' h1 _ l1 rh1 rx q1=>⟨x',rfl,ρ1,h1,x,rh1,rx,q1.zero⟩⟩
def spM(K:qad)(mg:MGl)(F:List PV->MH->Out PV):Sp:=fun vs H Q E=>∃ρ ps h,RPs K ρ H ps vs/\RH K mg ρ H h/\match F ps h with
 | .ok v h'=>∀ρ' H' v',Le ρ H ρ' H'->RH K mg ρ' H' h'->RP K ρ' H' v v'->Q v' H'
 | .exc x h'=>∀C ρ' H',x.fs=[]->mg x.cls=some (.ref C)->Le ρ H ρ' H'->RH K mg ρ' H' h'->E (.ref C) none H'
 | .bad=>False
def CXm(P:Program)(w:World):CXT:=fun outer H s E e s'=>∃ea C H',e=.ref ea/\s'.os=s.os/\AllBare s'.gens/\Un (frs outer) [] H H' s.heap s'.heap/\HOk P w H' s'.heap/\Fly outer H' s.heap C ea s'.heap/\E (.ref C) none H'
structure Cal (X:Cx) (x:Str) (ps:List Str) (F:List PV->MH->Out PV) (k:Nat):Prop where
 ex:∃f fd,X.mg x=some (.ref f)/\PySem.W.keepIn X.K (.ref f)=true/\nF X.K fd ps []/\FnOk X.prog X.w X.K X.mg X.base (CXm X.prog X.w) k f fd ps (spM X.K X.mg F)
def Cal.to(c:Cal X x ps F i)(e1:Y.prog=X.prog)(e2:Y.w=X.w)(e3:Y.K=X.K)(e4:Y.mg=X.mg)(e5:Y.base=X.base):Cal Y x ps F i:=by
 obtain⟨f,fd,a,b,d,e⟩:=c.ex;refine⟨f,fd,by rw[e4];exact a,by rw[e3];exact b,by rw[e3];exact d,?_⟩;rw[e1,e2,e3,e4,e5];exact e
def aK(F:List PV->MH->Out PV)(m:Mx (List PV)):Mx PV:=fun σ h=>(m σ h).bind F
def me_call(g:Good X N W G k){x:Str}{j:Nat}(hj:G[j]?=some x){ps:List Str}{F:List PV->MH->Out PV}(C:Cal X x ps F k){e:Expr}{es:List Expr}{m:Mx (List PV)}{p pos:Pos}(ha:MA X (e::es) m)
  (he:starEach (e::es) X.env=(false,eval e X.env)::starEach es X.env:=by rfl) (hpl:(backTo pos (starEach es X.env)).any (·.1)=false:=by rfl):ME X (.Call (.Name x p) (e::es) [] pos) (aK F m):=by
 obtain⟨f,fd,hm,hk,hb,F'⟩:=C.ex;have d:=g.dbg x (qal _ (aS hj));intro HV s σ H Q I ⟨ρ,σp,h,rs,rh,q⟩;refine wpAny_Call_Name_kw (ld_glob I (g.gl x (aS hj)) hm ?_ d.1)
 refine PySem.W.callWith_K (h₀:=X.base) I.ok.mod.kin hk (thn (ha pos HV s σ H (fun vs H1=>∃ρ1 xs h1,Le ρ H ρ1 H1/\RH X.K X.mg ρ1 H1 h1/\RPs X.K ρ1 H1 xs vs/\Ful X (RV' X) σp ρ1 H1 (F xs h1) Q) I
  ⟨ρ,σp,h,rs,rh,Ful.bind q fun ρ1 H1 xs vs h1 _ l1 rh1 rx q1=>⟨ρ1,xs,h1,l1,rh1,rx,q1⟩⟩) fun us s1 ⟨vs,H1,I1,r,ρ1,xs,h1,l1,rh1,rx,q1⟩=>⟨I1.kIn,?_⟩) he hpl
 have run:∀E:XK,spM X.K X.mg F vs H1 Q E->(∀ea C H' s',s'.os=s1.os->AllBare s'.gens->Un (frs X.stack) [] H1 H' s1.heap s'.heap->HOk X.prog X.w H' s'.heap->Fly X.stack H' s1.heap C ea s'.heap->E (.ref C) none H'->X.xe (.ref ea) s') ->
   wpAny (model X.prog X.w) X.A (call (.ref f) us) (EP X HV σ Q) X.xe s1:=fun E hsp hE=>by
  have hl:(us++[]).length=ps.length:=by rw[qck,<-r.length];exact F'.len _ _ _ _ hsp
  have hb1:=hb s1 us I1.kIn hl;rw[qck] at hb1;refine wpAny_call (codeAny_mono (F'.run X.A X.stack s1 H1 ⟨us,[]⟩ us vs Q E g.room I1.env0 hb1 r hsp) fun r s' hq=>?_)
  cases r with
  | error e =>
   obtain⟨ea,C,H',rfl,a1,a2,a3,a4,a5,a6⟩:=hq;exact hE ea C H' s' a1 a2 a3 a4 a5 a6
  | ok fl =>
   cases fl with
   | ret u=>exact I1.after hq
   | next=>exact False.elim hq
   | brk=>exact False.elim hq
   | cont=>exact False.elim hq
 cases eF:F xs h1 with
 | bad=>rw[eF] at q1;exact q1.elim
 | ok v h' =>
  rw[eF] at q1;exact run (fun _ _ _=>False) ⟨ρ1,xs,h1,rx,rh1,by rw[eF];exact q1⟩ fun _ _ _ _ _ _ _ _ _ z=>z.elim
 | exc x' h' =>
  rw[eF] at q1;refine run (fun c _ H'=>∃C ρ',c=.ref C/\x'.fs=[]/\X.mg x'.cls=some (.ref C)/\Le ρ1 H1 ρ' H'/\RH X.K X.mg ρ' H' h') ⟨ρ1,xs,h1,rx,rh1,by rw[eF];exact fun C ρ' H' a b c d=>⟨C,ρ',rfl,a,b,c,d⟩⟩ fun ea C H' s' a1 a2 a3 a4 a5 a6=>?_;obtain⟨C',ρ',eC,b1,b2,b3,b4⟩:=a6;cases eC;have IX:=I1.call' (s':=s') (ch:=[]) a1 a3 a4 a2 (fun b z=>absurd z (by simp));have IX0:Inv X [] σ H' s':=Inv.unpinned (HV:=[]) (pl:=HV) IX;exact q1 ea C ρ' H' σ s' s1.heap b1 b2 b3 b4 (rs.le (l1.trans b3)) IX0 (Inv.bears I1) a5
def bS(n:Nat)(ps:List PV):PSt:=ps.map some++List.replicate (n - ps.length) none
def bE(n np:Nat)(m:Mst):List PV->MH->Out PV:=fun ps h=>if ps.length=np then (match m (bS n ps) h with
 | .nx _ h'=>.ok .non h'
 | .rt v h'=>.ok v h'
 | .exc x _ h'=>.exc x h'
 | .rse x _ h'=>.exc x h'
 | _=>.bad) else .bad
def zh{K:qad}{ρ:List Addr}{H:Hp}{N:List Str}{ps:List PV}{vs:List V}(r:RPs K ρ H ps vs):RS K ρ H (bS N.length ps) (L2.start N vs):=by
 have hl:=r.length;refine⟨by simp[bS,L2.start,hl],fun i v e=>?_⟩;unfold bS at e;by_cases hi:i<ps.length
 ·rw[qam (by simpa using hi),qao] at e
  cases q:ps[i]? with
  | none=>rw[q] at e;cases e
  | some x =>
   rw[q] at e;cases e;obtain⟨v',e',rv⟩:=r.get q;refine⟨v',?_,rv⟩;unfold L2.start;rw[qam (by simp;ext),qao,e'];rfl
 ·rw[qaA (by simpa using hi),qbs] at e
  split at e <;> cases e
def zw{B h:Heap}(k:B.StaysIn h){b:Addr}{o ob:Obj}(e1:B.get? b=some ob)(e2:h.get? b=some o):ob=o:=by
 have:=k b ob e1
 rw[e2] at this;exact (Option.some.inj this).symm
def vW{X:Cx}{σ':L2.St}{H':Hp}{s':Shared}{h' B:Heap}(I:Inv X [] σ' H' s')(hex:X.ex=[])(hB:B.StaysIn s'.heap)(hB':B.StaysIn h')(sm:s'.heap.UpToSlots h')
  (cov:∀b o,X.s₀.heap.get? b=some o->b∉X.fs->∃ob,B.get? b=some ob) (cvH:∀b o,H' b=some o->∃ob,B.get? b=some ob):Un X.fs [] X.H₀ H' X.s₀.heap h'/\HOk X.prog X.w H' h':=by
 have nex:∀b:Addr,b∉X.ex:=fun b=>by rw[hex];simp
 have kp:∀b o ob,B.get? b=some ob->s'.heap.get? b=some o->h'.get? b=some o:=fun b o ob e1 e2=>by
  have:=zw hB e1 e2
  subst this;exact hB' b ob e1
 refine⟨⟨fun b o e n hf _=>?_,fun b o e n hf _=>?_,fun b o e n _=>I.base.free b o e n (nex b),fun b o e _=>?_,I.base.tups,I.base.frzs,I.base.tbls⟩,fun a o e=>?_⟩
 ·obtain⟨ob,eb⟩:=cov b o e hf;exact kp b o ob eb (I.base.keep b o e n hf (nex b))
 ·obtain⟨sl,e1⟩:=I.base.slot b o e n hf (nex b);obtain⟨_,oF,eF,dF⟩:=I.ok.funs.mem hf;rw[e] at eF;cases eF;obtain⟨sl',e2⟩:=sm b _ e1 (fun vs z=>dF vs z);exact⟨sl',e2⟩
 ·by_cases hf:b∈X.fs
  ·obtain⟨_,oF,eF,dF⟩:=I.ok.funs.mem hf;rw[e] at eF;cases eF;obtain⟨sl,e1⟩:=I.base.slot b o e (I.ok.frf b hf) hf (nex b);obtain⟨sl',e2⟩:=sm b _ e1 (fun vs z=>dF vs z);exact⟨_,e2⟩
  ·obtain⟨ob,eb⟩:=cov b o e hf;exact⟨ob,hB' b ob eb⟩
 ·refine (I.hok a o e).stay (fun b u hb z=>?_) (fun _ z=>z) fun _ _ z=>z;rcases hb with rfl|hb
  ·obtain⟨ob,eb⟩:=cvH _ _ e;exact kp _ u ob eb z
  ·obtain⟨ob,eb⟩:=cvH _ _ hb;exact kp _ u ob eb z
def _root_.L2.ObjOk.has(x:ObjOk P w H h a o):∃u,h.get? a=some u:=by
 cases o with
 | lst xs=>obtain⟨_,_,_,_,e⟩:=x;exact⟨_,e⟩
 | tup xs=>obtain⟨_,_,_,o,e,_⟩:=x;exact⟨o,e⟩
 | dK kvs=>obtain⟨_,_,_,_,o,_,_,e,_⟩:=x;exact⟨o,e⟩
 | dT kvs=>obtain⟨_,_,_,_,o,_,_,e,_⟩:=x;exact⟨o,e⟩
 | set S n=>obtain⟨o,_,_,_,e,_⟩:=x;exact⟨o,e⟩
 | ins C dx fs=>obtain⟨_,_,_,e,_⟩:=x;exact⟨_,e⟩
 | own y=>obtain⟨o,e⟩:=x;exact⟨o,e⟩
 | xd fs=>obtain⟨_,⟨o,_,_,e,_⟩,_⟩:=x;exact⟨o,e⟩
 | rng lo hi=>obtain⟨_,_,_,e⟩:=x;exact⟨_,e⟩
 | frz ob u=>obtain⟨e,_⟩:=x;exact⟨_,e⟩
 | tbl ps=>exact⟨_,(show h.get? a=some _ from x)⟩
 | met f y=>exact⟨_,(show h.get? a=some _ from x)⟩
 | ext φ=>obtain⟨_,⟨o,e⟩,_⟩:=x;exact⟨o,e⟩
structure DefCx (X:Cx):Prop where
 stk:X.stack=X.env::X.outer
 fr:X.env.frame=some X.env.locals
 ex:X.ex=[]
def fn_M{P:Program}{w:World}{K:qad}{mg:Str->Option Value}{base:Heap}{x qual:Str}{st:Stmt}{f:Addr}{fd:FuncData}{ps:List Str}{m:Mst}(Fu:Fun K x qual st f fd)(S:FnScope N ps (aO st))
  (hl:∀y∈N,Loc (aO st) y) (hgl:∀y∈G,(aO st).names.lookup y=some .globalImplicit)
  (dbg:∀x∈N++G,(x == ("__debug__":Str))=false/\(x == ("__classdict__":Str))=false/\x≠"__name__")
  (hb:∀X:Cx,X.prog=P->X.w=w->X.K=K->X.mg=mg->X.base=base->X.env.scope=aO st->Good X N N G k->DefCx X->MSs X (aP st) m) :
  FnOk P w K mg base (CXm P w) (k+1) f fd ps (spM K mg (bE N.length ps.length m)):=by
 have len:∀vs H Q E,spM K mg (bE N.length ps.length m) vs H Q E->vs.length=ps.length:=by
  rintro vs H Q E ⟨ρ,zs,h,r,rh,q⟩;rw[<-r.length];unfold bE at q;by_cases hp:zs.length=ps.length
  ·exact hp
  ·rw[qak hp] at q;exact q.elim
 obtain⟨oc,od,kV,doc,pm,an,cdv,ct,osl,rfl,lk,hcd⟩:=Fu.ex;refine fn_of lk hcd S len fun A outer s H vs Q E hr hsp=>?_;obtain⟨ρ,zs,h,r,rh,q⟩:=hsp;refine⟨_,hb _ rfl rfl rfl rfl rfl rfl ⟨rfl,S.nd,hl,fun _ _=>.inl rfl,hgl,dbg,rfl,hr,PassesOwn.leaving⟩ ⟨rfl,rfl,rfl⟩,ρ,bS N.length zs,h,zh r,rh,?_⟩;unfold bE at q;by_cases hp:zs.length=ps.length
 ·rw[qaf hp] at q
  cases e:m (bS N.length zs) h with
  | nx σ' h'=>rw[e] at q;exact fun ρ' H' σ' l r' s'=>q ρ' H' .non l r' .non
  | rt v h'=>rw[e] at q;exact q
  | bk σ h'=>rw[e] at q;exact q.elim
  | ct σ h'=>rw[e] at q;exact q.elim
  | bad=>rw[e] at q;exact q.elim
  | exc x σ h' =>
   rw[e] at q;intro ea C ρ' H' σ' s' lim hfs hmg l rh' rs' I' brs fly;obtain⟨B,t,hfl,hBH,hcov,hea⟩:=fly;refine wpAny_leaves_onW (base:=B) (env:=envOfC qual (aO st) s.heap.objs.size f cdv) (outer:=outer) I'.ok.frames rfl hfl fun h'' hfl' sm=>?_;have hb1:∀b o,s.heap.get? b=some o->b∉frs outer->∃ob,B.get? b=some ob:=fun b o eb hf=>by
    obtain⟨o',e'⟩:=brs.old b o eb (by show b∉([]:List Addr);simp);refine hcov b o' e' fun hm=>?_;rcases qar.mp (I'.stkSub b hm) with z|z
    ·exact absurd (qaq eb) (by rw[z];exact qbe _)
    ·exact hf z
   obtain⟨un,hk'⟩:=vW (B:=B) I' rfl hfl.1 hfl'.1 sm hb1 hBH;exact⟨ea,C,H',rfl,I'.os,I'.bare,un,hk',⟨B,t,hfl',hBH,hb1,hea⟩,q C ρ' H' hfs hmg l rh'⟩
  | rse x σ h' =>
   rw[e] at q;intro ea C ρ' H' σ' s' h0 args hfs hmg l rh' rs' I' made;have hst:=I'.stack;have hin:∀env∈(envOfC qual (aO st) s.heap.objs.size f cdv::outer),∀b,env.frame=some b->b∈frs (envOfC qual (aO st) s.heap.objs.size f cdv::outer):=fun env he b hb=>qbr.mpr ⟨env,he,hb⟩;refine wpAny_leaves_madeW (base:=PySem.W.hideAll h0 (frs (envOfC qual (aO st) s.heap.objs.size f cdv::outer))) (h:=h0) (env:=envOfC qual (aO st) s.heap.objs.size f cdv) (outer:=outer) I'.ok.frames rfl (fun b o z=>PySem.W.of_hideAll _ z)
    (PySem.W.funFrames_hide (base:=base) hst hin) made fun h'' t hfl' _ _ sm=>?_
   have sub:∀b,b∈frs (envOfC qual (aO st) s.heap.objs.size f cdv::outer)->b=s.heap.objs.size\/b∈frs outer:=fun b hm=>qar.mp (I'.stkSub b hm);have hb1:∀b o,s.heap.get? b=some o->b∉frs outer->∃ob,(PySem.W.hideAll h0 (frs (envOfC qual (aO st) s.heap.objs.size f cdv::outer))).get? b=some ob:=fun b o eb hf=>by
    obtain⟨o',e'⟩:=I'.base.there b o eb (by show b∉([]:List Addr);simp);refine⟨o',PySem.W.hideAll_get _ e' fun hm=>?_⟩;rcases sub b hm with z|z
    ·exact absurd (qaq eb) (by rw[z];exact qbe _)
    ·exact hf z
   have hBH:∀b o,H' b=some o->∃ob,(PySem.W.hideAll h0 (frs (envOfC qual (aO st) s.heap.objs.size f cdv::outer))).get? b=some ob:=fun b o eb=>by
    have hlt:=I'.hok.lt eb;obtain⟨u,eu⟩:∃u,h0.get? b=some u:=(I'.hok b o eb).has;refine⟨u,PySem.W.hideAll_get _ eu fun hm=>?_⟩
    have:=I'.stkFree b hm
    rw[eb] at this;cases this
   have sm0:h0.UpToSlots h'':=(Heap.UpToSlots.of_keeps made.keeps).trans sm;obtain⟨un,hk'⟩:=vW (B:=PySem.W.hideAll h0 (frs (envOfC qual (aO st) s.heap.objs.size f cdv::outer))) I' rfl (fun b o z=>PySem.W.of_hideAll _ z) hfl'.1 sm0 hb1 hBH;have hea:H' ea=none:=by
    cases z:H' ea with
    | none=>rfl
    | some o =>
     obtain⟨u,eu⟩:=(I'.hok ea o z).has;rw[made.new] at eu;cases eu
   exact⟨ea,C,H',rfl,I'.os,I'.bare,un,hk',⟨_,t,hfl',hBH,hb1,hea⟩,q C ρ' H' hfs hmg l rh'⟩
 ·rw[qak hp] at q;exact q.elim
def itAny(v:PV)(h:MH):Out MIt:=match v with
 | .loc n=>(match h[n]? with
  | some (.lst xs)=>.ok ⟨xs,[(n,xs)]⟩ h
  | _=>.bad)
 | .frl xs=>.ok ⟨xs,[]⟩ h
 | .tup xs=>.ok ⟨xs,[]⟩ h
 | _=>.bad
def cm(m:Mx PV):Mx MIt:=fun σ h=>(m σ h).bind itAny
def ce(hl:ME X l m):MI X tg l (cm m):=by
 intro HV s σ H R I ⟨ρ,σp,h,rs,rh,q⟩;by_cases z:∃xs h1,m σp h=.ok (.tup xs) h1
 ·obtain⟨xs,h1,e⟩:=z;refine mi_tup (tg:=tg) hl HV s σ H R I ⟨ρ,σp,h,rs,rh,?_⟩;unfold cm at q;unfold mItT;rw[e] at q ⊢;exact q
 ·refine mi_list (tg:=tg) hl HV s σ H R I ⟨ρ,σp,h,rs,rh,?_⟩;unfold cm at q;unfold mItL
  cases e:m σp h with
  | ok v h1 =>
   rw[e] at q
   cases v with
   | tup xs=>exact absurd ⟨xs,h1,e⟩ z
   | _=>exact q
  | exc x h1=>rw[e] at q;exact q
  | bad=>rw[e] at q;exact q
def Inv.bigM{HV:List (Addr × Obj)}{σ:L2.St}{H:Hp}{s:Shared}(I:Inv X HV σ H s):sysModules<s.heap.objs.size:=by
 have h:mainGlobals<s.heap.objs.size:=(I.mod.glob.keeps I.bk).lt;exact qcS (by decide) h
def mDic:Mx PV:=fun _ h=>.ok (.loc h.length) (h++[.dic []])
def me_dic0:ME X (.Dict [] [] pos) mDic:=fun HV s σ H Q I ⟨ρ,σp,h,rs,rh,q⟩=>by
 have hf:H s.heap.objs.size=none:=I.hok.fresh (qag _);obtain⟨r1,l1⟩:=rh.new hf (o:=.dic []) (ho:=.dK []) ⟨rfl,rfl⟩;refine wpAny_Dict_empty ⟨.ref s.heap.objs.size,_,I.laid (a:=s.heap.objs.size) (o:=.dK []) (t':=s.toks) (fun _ _ q=>qab _ q) (qag _) ?_,rfl,q _ _ _ l1 r1 (.loc (by rw[<-rh.len];simp))⟩;exact⟨qaP _,beq_eq_false_iff_ne.mpr (Ne.symm (qaK (Inv.bigM I))),[],.nil,Heap.DictOf.new s.heap⟩
structure FnAt (P:Program) (w:World) (K:qad) (mg:Str->Option Value) (base:Heap) (x:Str) (ps:List Str) (F:List PV->MH->Out PV) (k:Nat):Prop where
 ex:∃f fd,mg x=some (.ref f)/\PySem.W.keepIn K (.ref f)=true/\nF K fd ps []/\FnOk P w K mg base (CXm P w) k f fd ps (spM K mg F)/\∃oc od osl,K.lookup f=some ⟨oc,od,.func fd,osl⟩
def FnAt.mono{P:Program}{w:World}{K:qad}{mg:Str->Option Value}{base:Heap}{x:Str}{ps:List Str}{F:List PV->MH->Out PV}{i j:Nat}(c:FnAt P w K mg base x ps F i)(h:i<=j):FnAt P w K mg base x ps F j :=
 let ⟨f,fd,a,b,d,e,z⟩:=c.ex;⟨f,fd,a,b,d,e.mono h,z⟩
def FnAt.cal{P:Program}{w:World}{K:qad}{mg:Str->Option Value}{base:Heap}{x:Str}{ps:List Str}{F:List PV->MH->Out PV}{i:Nat}(c:FnAt P w K mg base x ps F i){X:Cx}(e1:X.prog=P)(e2:X.w=w)(e3:X.K=K)(e4:X.mg=mg)(e5:X.base=base):Cal X x ps F i:=by
 subst e1;subst e2;subst e3;subst e4;subst e5;obtain⟨f,fd,a,b,d,e,_⟩:=c.ex;exact⟨f,fd,a,b,d,e⟩
structure DefAt (K:qad) (x:Str) (st:Stmt):Prop where
 ex:∃f fd,PySem.W.nsIn K mainGlobals x=some (some (.ref f))/\Fun K x x st f fd
def defAt_mk{K:qad}{x:Str}{st:Stmt}{f:Addr}{oc:Value}{od an:Option Addr}{sl:Array (Option Value)}{kV dc pm cd ct:Value}
  (a:PySem.W.nsIn K mainGlobals x=some (some (.ref f))) (l:K.lookup f=some ⟨oc,od,.func (PySem.W.fnOf x x (gj st) (aP st) (aO st) .none kV dc pm an cd ct),sl⟩) (c:PySem.W.codeIn K cd x=true) (kp:PySem.W.keepIn K (.ref f)=true):DefAt K x st :=
 ⟨f,_,a,fun_mk l c kp⟩
def k8(x:Str)(st:Stmt)(ps:List Str):Prop:=∀(kV doc pm:Value) (an:Option Addr) (cdv ct:Value) (us:List Value),us.length=ps.length->bindArgs (PySem.W.fnOf x x (gj st) (aP st) (aO st) .none kV doc pm an cdv ct) ⟨us,[]⟩=pure (ps.zip us)
def fnAt_M{P:Program}{w:World}{K:qad}{mg:Str->Option Value}{base:Heap}{x:Str}{st:Stmt}{ps:List Str}{m:Mst}(kin:K.In base)(ns:base.Ns mainGlobals mg)(D:DefAt K x st)(S:FnScope N ps (aO st))(B:k8 x st ps)
  (hl:∀y∈N,(aO st).names.lookup y=some .local\/(aO st).names.lookup y=some .cell) (hgl:∀y∈G,(aO st).names.lookup y=some .globalImplicit)
  (dbg:∀x∈N++G,(x == ("__debug__":Str))=false/\(x == ("__classdict__":Str))=false/\x≠"__name__")
  (hb:∀X:Cx,X.prog=P->X.w=w->X.K=K->X.mg=mg->X.base=base->X.env.scope=aO st->Good X N N G k->DefCx X->MSs X (aP st) m) :
  FnAt P w K mg base x ps (bE N.length ps.length m) (k+1):=by
 obtain⟨f,fd,a,Fu⟩:=D.ex;have Fx:=Fu.ex;obtain⟨oc,od,kV,doc,pm,an,cdv,ct,osl,e1,e2,_⟩:=Fx;exact⟨f,fd,PySem.W.mg_of kin ns a,Fu.kp,Fu.binds B,fn_M Fu S hl hgl dbg hb,oc,od,osl,e2⟩
def head_M{P:Program}{w:World}{K:qad}{mg:Str->Option Value}{h:Heap}{x y:Str}{st:Stmt}{F:List PV->MH->Out PV}{fa:Addr}(D:DefAt K x st)(B:k8 x st [y])(hmg:mg x=some (.ref fa))(kin:K.In h)(ns:h.Ns mainGlobals mg)
  (H:∀base:Heap,K.In base->base.Ns mainGlobals mg->FnAt P w K mg base x [y] F k) :
  ∃fd:FuncData,(∀(s:Shared) (u:Value),BindsTo s fd ⟨[u],[]⟩ [(y,u)])/\∀base:Heap,K.In base->base.Ns mainGlobals mg->FnOk P w K mg base (CXm P w) k fa fd [y] (spM K mg F):=by
 obtain⟨f,fd,a,Fu⟩:=D.ex;have e:=hmg.symm.trans (PySem.W.mg_of kin ns a);cases e;obtain⟨oc,od,kV,doc,pm,an,cdv,ct,osl,e1,e2,e3⟩:=Fu.ex;refine⟨fd,fun s u=>.of_eq ?_,fun base kb nb=>?_⟩
 ·rw[e1];exact B kV doc pm an cdv ct [u] rfl
 ·obtain⟨f',fd',g1,g2,g3,g4,oc',od',osl',g5⟩:=(H base kb nb).ex;rw[hmg] at g1;cases g1;rw[e2] at g5;cases g5;exact g4
def spLaw(K:qad):Sp:=fun vs H Q _=>∃(a:Addr) (ns:List Int),vs=[.ref a]/\SqF K H a (ns.map V.int)/\ns.length<=63/\∀H',Q (.bl true) H'
def walk_M{l:PySem.W.OpenLaw}{q:Program}{loose:List Str}{XP:(Str->Option Value)->Heap->Prop}{YP:World->Heap->Prop}{d:DefRec}{K:Params->qad}{x:Str}{F:List PV->MH->Out PV}(hn:l.most=some 63)(hdf:d.params.defaults=[])(hr:Room k callerA)
  (hY:∀(w:World) (h:Heap),YP w h->(K w.params).In h)
  (HF:∀(w:World) (mg:Str->Option Value) (fa:Addr) (h:Heap),(K w.params).In h->h.Ns mainGlobals mg->mg d.name=some (.ref fa) ->
   ∃fd:FuncData,(∀(s:Shared) (u:Value),BindsTo s fd ⟨[u],[]⟩ [(x,u)])/\∀base:Heap,(K w.params).In base->base.Ns mainGlobals mg->FnOk l.prog w (K w.params) mg base (CXm l.prog w) k fa fd [x] (spM (K w.params) mg F))
  (ht:∀ns:List Int,ns.length<=63->∃h',F [.frl (ns.map .int)] []=.ok (.bl true) h') :
  PySem.W.WalkO q loose XP YP l.row.toRowW d [] (fun f vs=>PySem.call f vs):=by
 refine L2.walk_of (n:=63) (k:=k) (x:=x) (CX:=fun w=>CXm l.prog w) (sp:=fun w=>spLaw (K w.params)) hn (by decide) hdf hr hY (fun w mg fa h hK hns hmg=>?_) (fun w H a ns hl hO hS=>?_) fun w H s e s' z=>?_
 ·obtain⟨fd,hb,hF⟩:=HF w mg fa h hK hns hmg;refine⟨fd,hb,fun base kb nb=>(hF base kb nb).imp fun vs H Q E z=>?_⟩;obtain⟨a,ns,rfl,sf,hl,hq⟩:=z;obtain⟨h',e⟩:=ht ns hl;refine⟨[],[.frl (ns.map .int)],[],.cons (.frl sf (RPs.ints ns)) .nil,⟨rfl,qdd,fun n a o z _=>by simp at z⟩,?_⟩;rw[e];intro ρ' H' v' _ _ r;cases r;exact hq H'
 ·have sf:SqF (K w.params) H a (ns.map V.int):=by
   rcases hS with (z|z)|z
   ·rcases hO a with y|⟨o,xs,y⟩
    ·rw[y] at z;cases z
    ·rw[y] at z;cases z
   ·exact .inl z
   ·exact .inr z
  exact⟨a,ns,rfl,sf,hl,fun _=>rfl⟩
 ·obtain⟨_,_,_,_,_,_,_,_,_,z⟩:=z;exact z
end
section
variable {α:Type} {σ:PSt} {h:MH}
@[simp] theorem mC_ap:mC v σ h=.ok v h:=rfl
@[simp] theorem tJ{v:PV}{r:PSt}:ae 0 (some v::r) h=.ok v h:=rfl
@[simp] theorem sn{i:Nat}{o:Option PV}{r:PSt}:ae (i+1) (o::r) h=ae i r h:=by simp[ae]
@[simp] theorem mBin_ap:ah f a b σ h=(a σ h).bind fun x h1=>(b σ h1).bind fun y h2=>(f x y h2).ne:=rfl
@[simp] theorem mUn_ap:mUn f a σ h=(a σ h).bind fun x h1=>(f x h1).ne:=rfl
@[simp] theorem mCB_ap:mCB f a σ h=(a σ h).bind fun x h1=>(f x h1).ne:=rfl
@[simp] theorem mCall_ap:aK f a σ h=(a σ h).bind f:=rfl
@[simp] theorem o8:mNil σ h=.ok [] h:=rfl
@[simp] theorem sM:af a r σ h=(a σ h).bind fun x h1=>(r σ h1).bind fun xs h2=>.ok (x::xs) h2:=rfl
@[simp] theorem mLst_ap:bw a σ h=(a σ h).bind newL:=rfl
@[simp] theorem mTup_ap:dE a σ h=(a σ h).bind newT:=rfl
@[simp] theorem mDic_ap:mDic σ h=.ok (.loc h.length) (h++[.dic []]):=rfl
@[simp] theorem mB_ap:mB a σ h=(a σ h).bind fun v h1=>match v with | .bl b=>.ok b h1 | _=>.bad:=rfl
@[simp] theorem mNot_ap:fC a σ h=(a σ h).bind fun b h1=>.ok (!b) h1:=rfl
@[simp] theorem mAnd_ap:mAnd a b σ h=(a σ h).bind fun x h1=>if x=true then b σ h1 else .ok false h1:=rfl
@[simp] theorem mOr_ap:mOr a b σ h=(a σ h).bind fun x h1=>if x=true then .ok true h1 else b σ h1:=rfl
@[simp] theorem mAndV_ap:jE a b σ h=(a σ h).bind fun x h1=>match x with | .bl c=>if c=true then b σ h1 else .ok (.bl false) h1 | _=>.bad:=rfl
@[simp] theorem mNotV_ap:rl a σ h=(a σ h).bind fun x h1=>match x with | .bl c=>.ok (.bl (!c)) h1 | _=>.bad:=rfl
@[simp] theorem sU:mSkip σ h=.nx σ h:=rfl
@[simp] theorem f6:aI a b σ h=(a σ h).then b:=rfl
@[simp] theorem au:(SOut.nx σ h).then k=k σ h:=rfl
@[simp] theorem dh:(SOut.rt v h).then k=.rt v h:=rfl
@[simp] theorem then_bk:(SOut.bk σ h).then k=.bk σ h:=rfl
@[simp] theorem then_ct:(SOut.ct σ h).then k=.ct σ h:=rfl
@[simp] theorem zT:(SOut.rse x σ h).then k=.rse x σ h:=rfl
@[simp] theorem zj:(SOut.exc x σ h).then k=.exc x σ h:=rfl
@[simp] theorem zR:SOut.bad.then k=.bad:=rfl
def Out.rt(o:Out PV)(σ:PSt):SOut:=match o with
 | .ok v h'=>.rt v h'
 | .exc x h'=>.exc x σ h'
 | .bad=>.bad
@[simp] theorem rt_ok:(Out.ok v h).rt σ=.rt v h:=rfl
@[simp] theorem rt_exc:(Out.exc x h:Out PV).rt σ=.exc x σ h:=rfl
@[simp] theorem rt_bad:(Out.bad:Out PV).rt σ=.bad:=rfl
@[simp] theorem mRet_ap:aR m σ h=(m σ h).rt σ:=rfl
def Out.go{α:Type}(o:Out α)(σ:PSt)(k:α->Mst):SOut:=match o with
 | .ok v h'=>k v σ h'
 | .exc x h'=>.exc x σ h'
 | .bad=>.bad
@[simp] theorem aw:(Out.ok v h).go σ k=k v σ h:=rfl
@[simp] theorem go_exc:(Out.exc x h:Out α).go σ k=.exc x σ h:=rfl
@[simp] theorem go_bad:(Out.bad:Out α).go σ k=.bad:=rfl
@[simp] theorem mEx_ap:mEx m k σ h=(m σ h).go σ k:=rfl
@[simp] theorem sS:dN m σ h=(m σ h).go σ fun _=>mSkip:=rfl
@[simp] theorem mIf_ap:mIf c a b σ h=(c σ h).go σ fun x=>if x=true then a else b:=rfl
@[simp] theorem mSet_ap:bn i m σ h=(m σ h).go σ fun v σ h=>.nx (σ.set i (some v)) h:=rfl
@[simp] theorem mAsg_ap:mAsg m g σ h=(m σ h).go σ fun v σ h=>match g v σ h with | .nx σ2 h2=>.nx σ2 h2 | .exc x σ2 h2=>.exc x σ2 h2 | _=>.bad:=rfl
@[simp] theorem gNm_ap:gNm i v σ h=.nx (σ.set i (some v)) h:=rfl
@[simp] theorem gNl_ap:gNl [] σ h=.nx σ h:=rfl
@[simp] theorem gCn_ap:gCn a r (v::vs) σ h=(a v σ h).then (r vs):=rfl
@[simp] theorem gTp_ap:gTp r n (.tup xs) σ h=if xs.length=n then r xs σ h else .bad:=rfl
@[simp] theorem uU:fH mi g b σ h=(mi σ h).go σ fun it=>mGo it g b it.xs:=rfl
@[simp] theorem mItS_ap:cm m σ h=(m σ h).bind itAny:=rfl
@[simp] theorem Ad:d4 m σ h=(m σ h).bind fun vs h1=>match vs with
 | [.int j]=>if -(2 ^ 62)<=j/\j<2 ^ 62 then .ok ⟨bF 0 j.toNat,[]⟩ h1 else .bad
 | _=>.bad:=rfl
@[simp] theorem mItR2_ap:jQ m σ h=(m σ h).bind fun vs h1=>match vs with
 | [.int i,.int j]=>if -(2 ^ 62)<=i/\i<2 ^ 62 /\ -(2 ^ 62)<=j/\j<2 ^ 62 then .ok ⟨bF i (j - i).toNat,[]⟩ h1 else .bad
 | _=>.bad:=rfl
@[simp] theorem gSb_ap:gSb mo mi v σ h=(mo σ h).go σ fun o=>mEx mi fun i σ h=>match uq o i v h with
 | some h2=>.nx σ h2
 | none=>.bad:=rfl
def SOut.fin(o:SOut):Out PV:=match o with
 | .nx _ h'=>.ok .non h'
 | .rt v h'=>.ok v h'
 | .exc x _ h'=>.exc x h'
 | .rse x _ h'=>.exc x h'
 | _=>.bad
@[simp] theorem fin_exc:(SOut.exc x σ h).fin=.exc x h:=rfl
@[simp] theorem fin_rse:(SOut.rse x σ h).fin=.exc x h:=rfl
@[simp] theorem bM:(SOut.rt v h).fin=.ok v h:=rfl
@[simp] theorem fin_nx:(SOut.nx σ h).fin=.ok .non h:=rfl
theorem gf(e:ps.length=np):bE n np m ps h=(m (bS n ps) h).fin:=by unfold bE;rw[qaf e];rfl
end
section
variable {h:MH} {i j:Int}
@[simp] theorem opAdd_ii:opAdd (.int i) (.int j) h=.ok (.int (i+j)) h:=rfl
@[simp] theorem opSub_ii:opSub (.int i) (.int j) h=.ok (.int (i - j)) h:=rfl
@[simp] theorem opNeg_i:opNeg (.int i) h=.ok (.int (-i)) h:=rfl
@[simp] theorem opLt_ii:opLt (.int i) (.int j) h=.ok (.bl (decide (i<j))) h:=rfl
@[simp] theorem opLe_ii:opLe (.int i) (.int j) h=.ok (.bl (decide (i<=j))) h:=rfl
@[simp] theorem opGt_ii:opGt (.int i) (.int j) h=.ok (.bl (decide (j<i))) h:=rfl
@[simp] theorem opGe_ii:opGe (.int i) (.int j) h=.ok (.bl (decide (j<=i))) h:=rfl
@[simp] theorem opEq_ii:opEq (.int i) (.int j) h=.ok (.bl (decide (i=j))) h:=by simp[opEq,rd,SeqAt.shaped,PyData.canLay0,PyData.depth,PyData.eqv,qbw]
@[simp] theorem opNe_ii:opNe (.int i) (.int j) h=.ok (.bl (!decide (i=j))) h:=by simp[opNe,rd,SeqAt.shaped,PyData.canLay0,PyData.depth,PyData.eqv,qbw]
@[simp] theorem opEq_bb:opEq (.bl a) (.bl b) h=.ok (.bl (a == b)) h:=by simp[opEq,rd,SeqAt.shaped,PyData.canLay0,PyData.depth,PyData.eqv]
@[simp] theorem opNe_bb:opNe (.bl a) (.bl b) h=.ok (.bl (!(a == b))) h:=by simp[opNe,rd,SeqAt.shaped,PyData.canLay0,PyData.depth,PyData.eqv]
theorem e8(hj:j≠0):opMod (.int i) (.int j) h=.ok (.int (i.fmod j)) h:=by simp[opMod,hj]
def vK(hj:j≠0)(hl:j.natAbs.log2<9000):opFd (.int i) (.int j) h=.ok (.int (i.fdiv j)) h:=by simp[opFd,hj,PyProof.noPylong_of_log2 hl]
def gk(hl:-(2 ^ 64)<i/\i<2 ^ 64):opMul (.int i) (.int j) h=.ok (.int (i * j)) h:=by simp[opMul,IntMulOk.of_left (intBits_le_64 hl.1 hl.2)]
def opMul_r(hl:-(2 ^ 64)<j/\j<2 ^ 64):opMul (.int i) (.int j) h=.ok (.int (i * j)) h:=by simp[opMul,IntMulOk.of_right (intBits_le_64 hl.1 hl.2)]
def sC(hj:0<=j/\j<=1000000/\i.natAbs<2 ^ 64):opPow (.int i) (.int j) h=.ok (.int (i ^ j.toNat)) h:=by simp[opPow,gG,hj]
@[simp] theorem fAbs_i:fAbs [.int i] h=.ok (.int (if i<0 then -i else i)) h:=rfl
@[simp] theorem fMin_ii:fMin [.int i,.int j] h=.ok (.int (if j<i then j else i)) h:=rfl
@[simp] theorem fMax_ii:fMax [.int i,.int j] h=.ok (.int (if j>i then j else i)) h:=rfl
@[simp] theorem fInt_i:fInt [.int i] h=.ok (.int i) h:=rfl
@[simp] theorem fInt_b:fInt [.bl b] h=.ok (.int (if b then 1 else 0)) h:=rfl
@[simp] theorem fLen_frl:fLen [.frl xs] h=.ok (.int xs.length) h:=rfl
@[simp] theorem fLen_tup:fLen [.tup xs] h=.ok (.int xs.length) h:=rfl
theorem nX(hl:xs.length<=1000):newL xs h=.ok (.loc h.length) (h++[.lst xs]):=by
 unfold newL;rw[qaf (qaD hl (by decide))]
def u7(hl:m<n):ixN n (m:Int)=some m:=by unfold ixN;rw[qaf (by ext),qaf (by ext)];simp
@[simp] theorem atI_0:atI (a::r) 0=some a:=dj (j:=0) rfl
@[simp] theorem atI_1:atI (a::b::r) 1=some b:=dj (j:=1) rfl
@[simp] theorem atI_2:atI (a::b::c::r) 2=some c:=dj (j:=2) rfl
@[simp] theorem atI_3:atI (a::b::c::d::r) 3=some d:=dj (j:=3) rfl
def Out.ofO(o:Option PV)(h:MH):Out PV:=match o with
 | some v=>.ok v h
 | none=>.bad
@[simp] theorem ofO_some:Out.ofO (some v) h=.ok v h:=rfl
@[simp] theorem opIx_tup:aQ (.tup xs) (.int i) h=Out.ofO (atI xs i) h:=rfl
@[simp] theorem opIx_frl:aQ (.frl xs) (.int i) h=Out.ofO (atI xs i) h:=rfl
theorem gM(e:h[n]?=some (.lst xs)):aQ (.loc n) (.int i) h=Out.ofO (atI xs i) h:=by
 simp only[aQ,e];rfl
def mJ(e:h[n]?=some (.lst xs)):uq (.loc n) (.int i) v h=(ixN xs.length i).map fun p=>h.set n (.lst (xs.set p v)):=by simp only[uq,e]
def yv(e:h[n]?=some (.lst xs)):itAny (.loc n) h=.ok ⟨xs,[(n,xs)]⟩ h:=by simp only[itAny,e]
@[simp] theorem itAny_tup:itAny (.tup xs) h=.ok ⟨xs,[]⟩ h:=rfl
@[simp] theorem itAny_frl:itAny (.frl xs) h=.ok ⟨xs,[]⟩ h:=rfl
@[simp] theorem px:(⟨xs,[]⟩:MIt).ok h↔True:=⟨fun _=>trivial,fun _ p hp=>nomatch hp⟩
@[simp] theorem ok_some:(⟨xs,[(n,zs)]⟩:MIt).ok h↔h[n]?=some (.lst zs):=by
 constructor
 ·intro q;exact q (n,zs) (by simp)
 ·intro q p hp;have e:p=(n,zs):=List.mem_singleton.mp hp;subst e;exact q
end
def SOut.turn(o:SOut)(k:Mst):SOut:=match o with
 | .nx σ2 h2=>k σ2 h2
 | .ct σ2 h2=>k σ2 h2
 | .bk σ2 h2=>.nx σ2 h2
 | .rt v h2=>.rt v h2
 | .exc e σ2 h2=>.exc e σ2 h2
 | .rse e σ2 h2=>.rse e σ2 h2
 | .bad=>.bad
@[simp] theorem Az:(SOut.rse x σ h).turn k=.rse x σ h:=rfl
@[simp] theorem zg:(SOut.exc x σ h).turn k=.exc x σ h:=rfl
@[simp] theorem turn_nx:(SOut.nx σ h).turn k=k σ h:=rfl
@[simp] theorem turn_ct:(SOut.ct σ h).turn k=k σ h:=rfl
@[simp] theorem turn_bk:(SOut.bk σ h).turn k=.nx σ h:=rfl
@[simp] theorem turn_rt:(SOut.rt v h).turn k=.rt v h:=rfl
theorem mGo_nil(e:it.ok h):mGo it g b [] σ h=.nx σ h:=by
 rw[mGo];dsimp only;rw[qaf e]
def Am(e:it.ok h)(eg:g x σ h=.nx σ1 h1):mGo it g b (x::r) σ h=(b σ1 h1).turn (mGo it g b r):=by
 rw[mGo];dsimp only;rw[qaf e,eg];rfl
def ub(I:Nat->Shared->Prop)
  (turn:∀n s,I n s->wpAny (model prog w) A (pyNext it) (fun r s₁=>match r with
   | none=>R (.ok .next) s₁
   | some v=>wpAny (model prog w) A (letOwnedTupleGo target it v) (fun _ s₂'=>wpAny (model prog w) A (assign target env v) (fun _ s₂ =>
     wpAny (model prog w) A (forIn ifs true fun c r=>if r=true then do let ok <-isTrue c env (eval c env);pure (ForInStep.yield ok) else pure (ForInStep.yield r)) (fun ok s₃ =>
      if ok=true then wpAny (model prog w) A (eval elt env) (fun x s₄ =>
       wpAny (model prog w) A (call (.builtin "list.append") [acc,x]) (fun _ s₅=>∃m,m<n/\I m s₅) (fun _ _=>False) s₄) (fun _ _=>False) s₃
      else ∃m,m<n/\I m s₃) (fun _ _=>False) s₂) (fun _ _=>False) s₂') (fun _ _=>False) s₁) (fun _ _=>False) s)
  (n:Nat) (h:I n s) :
  codeAny (model prog w) A (.compLoop (.ListComp elt [⟨target,iter,ifs,0⟩] scope pos) 0 it acc env) R s:=by
 refine codeAny_loop rfl I (fun n s hI=>?_) n h;show wpAny _ A ((compTurn (.ListComp elt [⟨target,iter,ifs,0⟩] scope pos) 0 it acc env).onRaise (fun x=>do noteFrame x env;theTreesLotGoes x)) _ _ s;refine wpAny_noted ?_;rw[compTurn_list];have no:∀(e:Value) (s':Shared),False->notedBy (model prog w) A env (fun e s'=>R (.error e) s') e s':=fun _ _ z=>z.elim;refine qaa (wpAny_standAt (qaa (wpAny_mono (turn n s hI) (fun r s₁ h₁=>?_) fun _ _ h'=>h'.elim)))
 cases r with
 | none=>exact qah h₁
 | some v =>
  refine qaa (wpAny_mono h₁ (fun _ s₂' h₂'=>?_) fun _ _ h'=>h'.elim);refine qaa (wpAny_mono h₂' (fun _ s₂ h₂=>qaa (wpAny_mono h₂ (fun ok s₃ h₃=>?_) fun _ _ h'=>h'.elim)) fun _ _ h'=>h'.elim)
  cases ok with
  | false=>exact qah ⟨rfl,h₃⟩
  | true =>
   exact qaa (qaa (wpAny_mono h₃ (fun x s₄ h₄=>qaa (wpAny_mono h₄ (fun _ s₅ h₅=>qah (qah ⟨rfl,h₅⟩)) fun _ _ h'=>h'.elim)) fun _ _ h'=>h'.elim))
def jG(env:Env):List (Str × NameKind)->List (Str × Addr)->List (Str × Addr)
 | [],cs=>cs
 | (n,k)::r,cs=>jG env r (if (k == NameKind.free)=true then (n,(env.cells.lookup n).getD 0)::cs else cs)
def qW(h:∀y∈scope.names,y.2=.free->∃c,env.cells.lookup y.1=some c):closureFor scope env=pure (jG env scope.names []):=by
 have key:∀(l:List (Str × NameKind)) (cs:List (Str × Addr)),(∀y∈l,y.2=.free->∃c,env.cells.lookup y.1=some c) ->
   (forIn l cs fun (x:Str × NameKind) (r:List (Str × Addr))=>if (x.2 == NameKind.free)=true then (do let a <-cellOf env x.1;pure (ForInStep.yield ((x.1,a)::r)):Sem _) else pure (ForInStep.yield r))=(pure (jG env l cs):Sem _):=by
  intro l
  induction l with
  | nil=>intro cs _;rfl
  | cons y l ih =>
   intro cs hh;obtain⟨n,k⟩:=y;rw[qcT];have hl:=fun z hz=>hh z (qai _ hz);by_cases hk:(k == NameKind.free)=true
   ·obtain⟨c,hc⟩:=hh (n,k) qaL (by simpa using hk);dsimp only at hc ⊢;rw[qaf hk];have hco:cellOf env n=pure c:=by unfold cellOf;rw[hc]
    rw[hco];refine (ih ((n,c)::cs) hl).trans ?_;simp only[jG,hk,if_true,hc,Option.getD_some]
   ·dsimp only;rw[qak hk];refine (ih cs hl).trans ?_;simp[jG,hk]
 unfold closureFor;exact (congrArg (fun z=>z >>= fun r=>pure r) (key scope.names [] h)).trans rfl
def lK:∀(l:List (Str × NameKind)) (cs:List (Str × Addr)),(∀a,cs.lookup x=some a->a=(env.cells.lookup x).getD 0)->(∀a,(jG env l cs).lookup x=some a->a=(env.cells.lookup x).getD 0)/\((∃k,(x,k)∈l/\k=.free)\/(∃a,cs.lookup x=some a)->∃a,(jG env l cs).lookup x=some a):=by
 intro l
 induction l with
 | nil =>
  intro cs h;refine⟨h,fun z=>?_⟩;rcases z with ⟨k,z,_⟩|z
  ·cases z
  ·exact z
 | cons y r ih =>
  intro cs h;obtain⟨n,k⟩:=y;have h':∀a,(if (k == NameKind.free)=true then (n,(env.cells.lookup n).getD 0)::cs else cs).lookup x=some a->a=(env.cells.lookup x).getD 0:=fun a ha=>by
   split at ha
   ·rw[qaW] at ha
    split at ha
    ·rename_i e
     have:x=n:=by simpa using e
     subst this;exact (Option.some.inj ha).symm
    ·exact h a ha
   ·exact h a ha
  obtain⟨i1,i2⟩:=ih _ h';refine⟨i1,fun z=>i2 ?_⟩;rcases z with ⟨k',z,hk⟩|⟨a,z⟩
  ·rcases qar.mp z with e|e
   ·cases e;right;subst hk;exact⟨(env.cells.lookup x).getD 0,by simp⟩
   ·exact .inl ⟨k',e,hk⟩
  ·right;split
   ·rw[qaW];split
    ·exact⟨_,rfl⟩
    ·exact⟨a,z⟩
   ·exact⟨a,z⟩
def cB{env:Env}(hk:env.scope.kind=.function):∀{names:List (Str × NameKind)} {x:Str} {k:NameKind},names.lookup x=some k ->
  (names.map fun (n,k)=>if (k == NameKind.free && env.scope.kind == .function && env.kindOf n == some .cell) then (n,NameKind.cell) else (n,k)).lookup x=some (if k=.free/\env.kindOf x=some .cell then .cell else k):=by
 intro names
 induction names with
 | nil=>intro x k h;simp at h
 | cons y r ih0 =>
  intro x k h;obtain⟨n,k'⟩:=y;have ih:=@ih0 x k;show List.lookup x ((if (k' == NameKind.free && env.scope.kind == .function && env.kindOf n == some .cell)=true then (n,NameKind.cell) else (n,k'))::_)=_
  cases hx:x == n with
  | true =>
   have e:x=n:=by simpa using hx
   subst e;simp only[qaW,hx] at h;cases h;by_cases z:k=.free/\env.kindOf x=some .cell
   ·rw[qaf (by simp[z.1,z.2,hk]),qaf z];simp[qaW]
   ·rw[qak (by simp[hk];intro q1 q2;exact z ⟨q1,q2⟩),qak z];simp[qaW]
  | false =>
   simp only[qaW,hx] at h;by_cases hc:(k' == NameKind.free && env.scope.kind == .function && env.kindOf n == some .cell)=true
   ·rw[qaf hc];simp only[qaW,hx];exact ih h
   ·rw[qak hc];simp only[qaW,hx];exact ih h
def dv(X:Cx)(scope:Scope)(cl:List (Str × Addr))(s₃:Shared)(H₃:Hp)(fp:List Addr)(N':List Str):Cx :=
 { X with N:=N',s₀:=s₃,H₀:=H₃,env:=compEnvC scope cl s₃.heap.objs.size X.env,outer:=X.stack,ex:=fp,fn:=fun x=>decide (scope.names.lookup x=some .cell),pn:=[],xe:=fun _ _=>False}
structure CompOk (X:Cx) (N:List Str) (scope:Scope) (vars frees:List Str) (fm:List Nat):Prop where
 kind:scope.kind=.function
 cell:∀y∈scope.names,y.2=.cell->scope.names.lookup y.1=some .cell
 names:∀y∈scope.names,y.2=.local->scope.names.lookup y.1=some .local
 hv:∀x∈vars,scope.names.lookup x=some .local\/scope.names.lookup x=some .cell
 hf:∀x∈frees,scope.names.lookup x=some .free
 all:∀y∈scope.names,y.2=.free->y.1∈frees
 fm:fm.map (fun i=>N[i]?)=frees.map some
 cl:∀x∈frees,X.env.kindOf x=some .cell
def cSt(nv:Nat)(fm:List Nat)(σ:PSt):PSt:=List.replicate nv none++fm.map fun i=>(σ[i]?).getD none
def cGo(it:MIt)(n:Nat)(gt:Mg)(mt:Mx Bool)(me:Mx PV):List PV->PSt->MH->Out Unit
 | [],_,h=>if it.ok h then .ok () h else .bad
 | x::r,σ,h=>if it.ok h then (match gt x σ h with
  | .nx σ1 h1=>(mt σ1 h1).ne.bind fun b h2=>if b=true then (me σ1 h2).ne.bind fun v h3=>(match h3[n]? with
    | some (.lst ys)=>if ys.length<sizeLine then cGo it n gt mt me r σ1 (h3.set n (.lst (ys++[v]))) else .bad
    | _=>.bad) else cGo it n gt mt me r σ1 h2
  | _=>.bad) else .bad
def bB(nv:Nat)(fm:List Nat)(mi:Mx MIt)(gt:Mg)(mt:Mx Bool)(me:Mx PV):Mx PV:=fun σ h =>
 (mi σ h).bind fun it h1=>(cGo it h1.length gt mt me it.xs (cSt nv fm σ) (h1++[.lst []])).bind fun _ h3=>.ok (.loc h1.length) h3
def MTs(X:Cx)(ifs:List Expr)(m:Mx Bool):Prop :=
 ∀(HV:List (Addr × Obj)) (s:Shared) (σ:L2.St) (H:Hp) (Q:Bool->Hp->Prop),Inv X HV σ H s->tM X REq m σ H Q ->
  wpAny (model X.prog X.w) X.A (forIn ifs true fun c r=>if r=true then do let ok <-isTrue c X.env (eval c X.env);pure (ForInStep.yield ok) else pure (ForInStep.yield r)) (TP X HV σ Q) X.xe s
def mTrue:Mx Bool:=fun _ h=>.ok true h
def cx:MTs X [] mTrue:=fun HV s σ H Q I ⟨ρ,σp,h,rs,rh,q⟩=>wpAny_tests_nil ⟨H,I,q ρ H true (Le.refl _ _) rh rfl⟩
def eG(h:MT X c m):MTs X [c] m:=fun HV s σ H Q I q=>wpAny_tests_one (h HV s σ H Q I q)
inductive CS (X:Cx) (ρ:List Addr) (H:Hp) (σp:PSt) (gt:Mg) (mt:Mx Bool) (me:Mx PV) (σ0:PSt) (Q:VK) (J:It) (H1:Hp):Prop
 | mk (ρ1:List Addr) (it:MIt) (h1:MH) (l:Le ρ H ρ1 H1) (rh:RH X.K X.mg ρ1 H1 h1) (j:oS X ρ1 H1 it J) (q:Ful X (RV' X) σp ρ1 H1 ((cGo it h1.length gt mt me it.xs σ0 (h1++[.lst []])).bind fun _ h3=>.ok (.loc h1.length) h3) Q):CS X ρ H σp gt mt me σ0 Q J H1
inductive CI (X Y:Cx) (it:MIt) (tn:Nat->Heap->Prop) (fp ρ0:List Addr) (H0:Hp) (σp:PSt) (n1:Nat) (gt:Mg) (mt:Mx Bool) (me:Mx PV) (Q:VK) (n:Nat) (s6:Shared):Prop
 | mk (i:Nat) (σ6:L2.St) (H6:Hp) (ρ6:List Addr) (σp6:PSt) (h6:MH) (e:n=it.xs.length - i) (l:i<=it.xs.length) (v:Inv Y [] σ6 H6 s6) (t:tn i s6.heap) (f:∀b∈fp,H6 b=none) (le:Le ρ0 H0 ρ6 H6) (rs:RS X.K ρ6 H6 σp6 σ6) (rh:RH X.K X.mg ρ6 H6 h6)
   (q:Ful X (RV' X) σp ρ6 H6 ((cGo it n1 gt mt me (it.xs.drop i) σp6 h6).bind fun _ h3=>.ok (.loc n1) h3) Q):CI X Y it tn fp ρ0 H0 σp n1 gt mt me Q n s6
def qT
  (hQ:Q (newEnv scope s.heap.objs.size globals (cellsFrom (s.heap.objs.size+1) scope.names closure) qual none .none (some env) builtinsNs) { s with heap:=pushCells (s.heap.push { cls:=.type "dict",data:=.dict #[]}) scope.names}) :
  wpAny M A (newFunctionEnv scope globals closure [] qual none .none (some env)) Q E s:=by
 simp only[newFunctionEnv,Option.isSome_some,if_true];refine qaa (wpAny_alloc ?_);refine qaa (wpAny_layCells _ (fun name kind cells=>by cases hkc:kind == NameKind.cell <;> simp[hkc]) _ _ _ _ ?_);rw[show ({ s with heap:=s.heap.push { cls:=.type "dict",data:=.dict #[]}}:Shared).heap.objs.size=s.heap.objs.size+1 from qbc ..];rw[qde];exact qaa (qah (qah hQ))
def da:∀(names:List (Str × NameKind)) (n:Nat) (acc:List (Str × Addr)),cellsFrom n names acc=cellsFrom n names []++acc
 | [],n,acc=>rfl
 | (x,k)::r,n,acc=>by
  unfold cellsFrom;split
  ·rw[da r (n+1) ((x,n)::acc),da r (n+1) [(x,n)]];simp
  ·exact da r n acc
def eJ:∀(names:List (Str × NameKind)) (n:Nat) (x:Str),(∃c,(x,c)∈cellsFrom n names [])↔(x,NameKind.cell)∈names
 | [],n,x=>by simp[cellsFrom]
 | (y,k)::r,n,x=>by
  unfold cellsFrom;split
  ·rename_i hk
   have hk':k=NameKind.cell:=by simpa using hk
   subst hk';rw[da];constructor
   ·rintro⟨c,hc⟩;rcases qau.mp hc with hc|hc
    ·exact qai _ ((eJ r (n+1) x).mp ⟨c,hc⟩)
    ·have:x=y:=by simp at hc;exact hc.1
     rw[this];exact qaL
   ·intro h;rcases qar.mp h with e|h
    ·have:x=y:=by simpa using e
     subst this;exact⟨n,qal _ (by simp)⟩
    ·obtain⟨c,hc⟩:=(eJ r (n+1) x).mpr h;exact⟨c,qaH _ hc⟩
  ·rename_i hk
   rw[eJ r n x];constructor
   ·exact qai _
   ·intro h;rcases qar.mp h with e|h
    ·exfalso
     have:NameKind.cell=k:=by simpa using (Prod.mk.inj e).2
     rw[<-this] at hk;exact hk rfl
    ·exact h
def ju{α:Type}:∀(a b:List (Str × α)) (x:Str),(a++b).lookup x=(a.lookup x).or (b.lookup x)
 | [],b,x=>rfl
 | (y,v)::a,b,x=>by
  rw[List.cons_append,qaW,qaW]
  cases x == y with
  | true=>rfl
  | false=>exact ju a b x
def rH{α:Type}:∀(a:List (Str × α)) (x:Str),a.lookup x=none->∀c,(x,c)∉a
 | [],x,_,c,h=>nomatch h
 | (y,v)::a,x,e,c,h=>by
  rw[qaW] at e
  cases z:x == y with
  | true=>rw[z] at e;cases e
  | false =>
   rw[z] at e;rcases qar.mp h with q|q
   ·have:x=y:=(Prod.mk.inj q).1
    rw[this] at z;simp at z
   ·exact rH a x e c q
section
variable {X:Cx} {N W G:List Str} {k:Nat}
def qM(g:Good X N W G k){tg iter elt:Expr}{ifs:List Expr}{scope:Scope}{pos:Pos}{vars frees G':List Str}{fm:List Nat}{mi:Mx MIt}{gt:Mg}{mt:Mx Bool}{me:Mx PV}(C:CompOk X N scope vars frees fm)
  (nd:(vars++frees).Nodup) (hgl:∀x∈G',scope.names.lookup x=some .globalImplicit) (dbg:∀x∈(vars++frees)++G',(x == ("__debug__":Str))=false/\(x == ("__classdict__":Str))=false/\x≠"__name__")
  (hi:MI X tg iter mi)
  (hY:∀Y:Cx,Y.prog=X.prog->Y.w=X.w->Y.K=X.K->Y.mg=X.mg->Y.base=X.base->Y.env.scope=relabel scope X.env->Good Y (vars++frees) vars G' k->MG Y tg gt/\MTs Y ifs mt/\ME Y elt me)
  (hs:∀x,foldedSetIterable iter X.env x=pure x) {use:Option (Value->Sem Unit)} {Qv:Value->Shared->Prop} {pp:Pos} {HV:List (Addr × Obj)} {s:Shared} {σ:L2.St} {H:Hp} {Q:VK} (I:Inv X HV σ H s) (tm:tM X (RV' X) (bB vars.length fm mi gt mt me) σ H Q)
  (fin:∀(acc C:Addr) (H6:Hp) (s7:Shared) (m7:Str->Option Value),Inv X HV σ H6 s7->H6 C=none->s7.heap.Ns C m7->C≠X.env.locals->X.s₀.heap.objs.size<=C->C∉X.fs->(∀x c,X.env.cells.lookup x=some c->c≠C)->(∀p∈X.pn++HV,p.1≠C)->Q (.ref acc) H6 ->
   compPost (model X.prog X.w) X.A X.xe use Qv (.ref acc) C (.ok .next) s7) :
  wpAny (model X.prog X.w) X.A (comprehension (.ListComp elt [⟨tg,iter,ifs,0⟩] scope pos) scope X.env pp (newList []) false (eval iter X.env) use) Qv X.xe s:=by
 obtain⟨ρ,σp,h,rs,rh,q⟩:=tm;have hfree:∀y∈scope.names,y.2=.free->∃c,X.env.cells.lookup y.1=some c:=fun y hy e=>I.ok.has y.1 (.inl (C.cl _ (C.all y hy e)));refine wpAny_comprehension_free (use:=use) rfl hs (qW hfree) C.kind C.names ?_;generalize hcl:jG X.env scope.names []=cl;have clk:∀x a,cl.lookup x=some a->X.env.cells.lookup x=some a\/((X.env.cells.lookup x)=none/\a=0):=fun x a e=>by
  rw[<-hcl] at e
  have:=(lK (env:=X.env) (x:=x) scope.names [] (fun a z=>by simp at z)).1 a e
  cases z:X.env.cells.lookup x with
  | none=>right;rw[z] at this;exact⟨rfl,this⟩
  | some c=>left;rw[z] at this;rw[this];rfl
 have clf:∀x∈frees,∃c,cl.lookup x=some c/\X.env.cells.lookup x=some c:=fun x hx=>by
  obtain⟨c,hc⟩:=I.ok.has x (.inl (C.cl x hx));have hm:(∃kk,(x,kk)∈scope.names/\kk=.free):=⟨.free,PySem.mem_of_lookup (C.hf x hx),rfl⟩;obtain⟨a,ha⟩:=(lK (env:=X.env) (x:=x) scope.names [] (fun a z=>by simp at z)).2 (.inl hm);rw[hcl] at ha;rcases clk x a ha with z|⟨z,_⟩
  ·rw[hc] at z;cases z;exact⟨c,ha,hc⟩
  ·rw[hc] at z;cases z
 have clin:∀x a,cl.lookup x=some a->X.env.cells.lookup x=some a/\x∈frees:=fun x a e=>by
   have only:∀(l:List (Str × NameKind)) (cs:List (Str × Addr)) (x:Str) (a:Addr),(jG X.env l cs).lookup x=some a->(x,NameKind.free)∈l\/cs.lookup x=some a:=by
    intro l
    induction l with
    | nil=>intro cs x a e;exact .inr e
    | cons y l ih =>
     intro cs x a e;obtain⟨n,kk⟩:=y;rcases ih _ x a e with z|z
     ·exact .inl (qai _ z)
     ·split at z
      ·rename_i hk
       have hk':kk=NameKind.free:=by simpa using hk
       rw[qaW] at z
       split at z
       ·rename_i e'
        have:x=n:=by simpa using e'
        subst this;subst hk';exact .inl qaL
       ·exact .inr z
      ·exact .inr z
   have e':=e;rw[<-hcl] at e';rcases only _ _ x a e' with z'|z'
   ·refine⟨?_,C.all _ z' rfl⟩;rcases clk x a e with z|⟨z,_⟩
    ·exact z
    ·obtain⟨c,hc⟩:=hfree _ z' rfl;rw[z] at hc;cases hc
   ·simp at z'
 have start:=hi HV s σ H (CS X ρ H σp gt mt me (cSt vars.length fm σp) Q) I
  ⟨ρ,σp,h,rs,rh,Ful.bind q fun ρ1 H1 it J h1 _ l1 rh1 jr q1=>⟨ρ1,it,h1,l1,rh1,jr,q1⟩⟩
 refine wpAny_mono start (fun x s₁ h₁=>wpAny_mono h₁ (fun itv s₂ h₂=>?_) fun _ _ e=>e) fun _ _ e=>e;obtain⟨ita,fp,tn,J,H2,rfl,I2,T,st2,f2,ρ1,it,h1,l1,rh1,jr,q1⟩:=h₂;refine wpAny_newObj_type ?_;have hf2:H2 s₂.heap.objs.size=none:=I2.hok.fresh (qag _);have I3:=I2.lnew (ys:=[]) (its:=[]) (t':=s₂.toks) .nil (qaP _);obtain⟨rh3,l3⟩:=rh1.new hf2 (o:=.lst []) (ho:=.lst []) ⟨[],rfl,.nil⟩;generalize hs3:({ s₂ with heap:=s₂.heap.push { cls:=.type "list",data:=.seq ([]:List Value).toArray},toks:=s₂.toks}:Shared)=s₃ at I3;generalize hH3:upd H2 s₂.heap.objs.size (.lst [])=H₃ at I3 rh3 l3;have hacc:H₃ s₂.heap.objs.size=some (.lst []):=by rw[<-hH3];exact bZ
 have es3:s₃.heap=s₂.heap.push { cls:=.type "list",data:=.seq ([]:List Value).toArray}:=by rw[<-hs3]
 have st3:tn 0 s₃.heap:=T.keep _ _ _ st2 fun b _ o e=>by rw[es3];exact qab _ e
 have fp3:∀b∈fp,gz X HV H₃ b:=fun b hb=>by
  obtain⟨a0,a1⟩:=f2 b hb;refine⟨?_,a1⟩;obtain⟨o,eo,_⟩:=T.obj _ _ st2 b hb;rw[<-hH3,br (qaK (qaq eo))];exact a0
 have goal3:wpAny (model X.prog X.w) X.A (newFunctionEnv scope X.env.globals cl [] X.env.qual none .none (some X.env)) (fun cenv s₄ =>
    codeAny (model X.prog X.w) X.A (.compStart (.ListComp elt [⟨tg,iter,ifs,0⟩] scope pos) 0 (.ref ita) (.ref s₂.heap.objs.size) { cenv with scope:=relabel scope X.env}) (compPost (model X.prog X.w) X.A X.xe use Qv (.ref s₂.heap.objs.size) cenv.locals) s₄) X.xe s₃:=by
  refine qT ?_;have keep4:∀b o,s₃.heap.get? b=some o->(pushCells (s₃.heap.push { cls:=.type "dict",data:=.dict #[]}) scope.names).get? b=some o:=fun b o e=>pushCells_keeps _ _ b o (qab _ e);have hns:=(Heap.Ns.new s₃.heap (.type "dict")).keeps (pushCells_keeps scope.names _);have okc:=cellsFrom_ok scope.names (s₃.heap.push { cls:=.type "dict",data:=.dict #[]}) (s₃.heap.objs.size+1) [] ⟨fun _ _ hm=>(nomatch hm),List.Pairwise.nil⟩ (by rw[qbc];exact qag _);rw[qbc] at okc;rw[da];have hin:=eJ scope.names (s₃.heap.objs.size+1);generalize cellsFrom (s₃.heap.objs.size+1) scope.names []=cn at okc hin ⊢;generalize pushCells (s₃.heap.push { cls:=.type "dict",data:=.dict #[]}) scope.names=h' at keep4 hns okc ⊢;dsimp only[newEnv];have csl:∀x c,(cn++cl).lookup x=some c->((x,c)∈cn/\scope.names.lookup x=some .cell/\s₃.heap.objs.size<c/\h'.IsCell c none)\/(X.env.cells.lookup x=some c/\scope.names.lookup x=some .free):=fun x c e=>by
   rw[ju] at e
   cases z:cn.lookup x with
   | some c' =>
    rw[z] at e
    have:c'=c:=by simpa using e
    subst this;have m:=PySem.mem_of_lookup z;obtain⟨q1,q2⟩:=okc.empty x c' m;exact .inl ⟨m,C.cell _ ((hin x).mp ⟨c',m⟩) rfl,q2,q1⟩
   | none =>
    rw[z] at e;obtain⟨q1,q2⟩:=clin x c (by simpa using e);exact .inr ⟨q1,C.hf x q2⟩
  have csf:∀x c,x∈frees->cl.lookup x=some c->(cn++cl).lookup x=some c:=fun x c hx e=>by
   rw[ju]
   cases z:cn.lookup x with
   | none=>simpa using e
   | some c' =>
    have:=C.cell _ ((hin x).mp ⟨c',PySem.mem_of_lookup z⟩) rfl
    rw[C.hf x hx] at this;cases this
  have old:∀x c,X.env.cells.lookup x=some c->c<s₃.heap.objs.size:=fun x c e=>by
   obtain⟨v,qc⟩:=I3.cell x c e;exact qc.lt
  have ok:(dv X scope (cn++cl) s₃ H₃ fp (vars++frees)).Ok:=by
   refine⟨I3.ok.mod,C.kind,I3.ok.glob,I3.ok.blt,qag _,fun x y c h1 h2=>?_,fun x hx=>?_,fun x c hx e=>?_,I3.ok.hd,I3.ok.frames,.inl rfl,
    fun b hb=>⟨?_,fun x c e z=>?_⟩,I3.bs,qaD I3.ok.bsz I3.sz,fun b o e hb=>?_,fun b hb z=>?_,I3.stack,I3.stkFree⟩
   ·rcases csl x c h1 with ⟨a1,_,a2,_⟩|⟨a1,_⟩ <;> rcases csl y c h2 with ⟨b1,_,b2,_⟩|⟨b1,_⟩
    ·exact PySem.name_of_addr okc.apart a1 b1
    ·exact absurd (qcS a2 (old y c b1)) (qbe _)
    ·exact absurd (qcS b2 (old x c a1)) (qbe _)
    ·exact I3.ok.inj x y c a1 b1
   ·
    have hx':(relabel scope X.env).names.lookup x=some .cell\/(relabel scope X.env).names.lookup x=some .free:=hx
    cases e:scope.names.lookup x with
    | none =>
     exfalso;have nn:∀(l:List (Str × NameKind)),l.lookup x=none->(l.map fun (n,k)=>if (k == NameKind.free && X.env.scope.kind == .function && X.env.kindOf n == some .cell) then (n,NameKind.cell) else (n,k)).lookup x=none:=by
      intro l
      induction l with
      | nil=>intro _;rfl
      | cons y l ih =>
       intro hl;obtain⟨n,kk⟩:=y;rw[qaW] at hl
       split at hl
       ·cases hl
       ·rename_i hx2
        rw[qaG];dsimp only
        split <;> (rw[qaW];simp only[hx2];exact ih hl)
     have e2:=nn scope.names e;rcases hx' with z|z
     ·rw[show (relabel scope X.env).names.lookup x=none from e2] at z;cases z
     ·rw[show (relabel scope X.env).names.lookup x=none from e2] at z;cases z
    | some kk =>
     have e2:=cB (env:=X.env) I3.ok.kind e;have hk:kk=.free\/kk=.cell:=by
      rcases hx' with z|z
      ·rw[show (relabel scope X.env).names.lookup x=_ from e2] at z;have z':=Option.some.inj z;by_cases zz:kk=.free/\X.env.kindOf x=some .cell
       ·exact .inl zz.1
       ·rw[qak zz] at z';exact .inr z'
      ·rw[show (relabel scope X.env).names.lookup x=_ from e2] at z;have z':=Option.some.inj z;by_cases zz:kk=.free/\X.env.kindOf x=some .cell
       ·exact .inl zz.1
       ·rw[qak zz] at z';exact .inl z'
     rcases hk with hk|hk
     ·subst hk;have hf:=C.all _ (PySem.mem_of_lookup e) rfl;obtain⟨c,h1,_⟩:=clf x hf;exact⟨c,csf x c hf h1⟩
     ·subst hk;obtain⟨c,hc⟩:=(hin x).mpr (PySem.mem_of_lookup e);show ∃c,(cn++cl).lookup x=some c;rw[ju]
      cases z:cn.lookup x with
      | some c'=>exact⟨c',rfl⟩
      | none=>exact absurd hc (rH cn x z c)
   ·have hx':=of_decide_eq_true hx;rcases csl x c e with ⟨_,_,q,_⟩|⟨_,q⟩
    ·exact qcj q
    ·rw[q] at hx';cases hx'
   ·obtain⟨o,eo,_⟩:=T.obj _ _ st3 b hb;exact qaK (qaq eo)
   ·rcases csl x c e with ⟨_,_,q,_⟩|⟨q,_⟩
    ·obtain⟨o,eo,_⟩:=T.obj _ _ st3 b hb;exact absurd (qcS q (z▸qaq eo)) (qbe _)
    ·exact (fp3 b hb).2.2.2.2.1 x c q z
   ·obtain⟨_,_,_,h4,_⟩:=fp3 b hb;rcases h4 with h4|h4
    ·exact I3.ok.noex b o e h4
    ·exact absurd (qaC (qaq e) (qaD I3.ok.bsz h4)) (qbe _)
   ·obtain⟨_,h2,h3,_⟩:=fp3 b hb;rcases qar.mp (I3.stkSub b z) with e|e
    ·exact h2 e
    ·exact h3 e
  obtain⟨mX,nsX,lX⟩:=I3.loc;have l13:Le ρ H (ρ1++[s₂.heap.objs.size]) H₃:=l1.trans l3
  let σY:L2.St:=List.replicate vars.length none++fm.map fun i=>(σ[i]?).getD none
  have fml:fm.length=frees.length:=by have:=congrArg List.length C.fm;simpa using this
  have invY:Inv (dv X scope (cn++cl) s₃ H₃ fp (vars++frees)) [] σY H₃ { s₃ with heap:=h',toks:=s₃.toks}:=by
   refine⟨ok,rfl,I3.bare,Un.kept keep4,⟨_,hns,fun i x v hN hv hvis=>?_⟩,fun x c e=>?_,?_,fun x c e=>?_,fun p hp=>absurd (show p∈([]:List (Addr × Obj)) from hp) (by simp),I3.hok.kept keep4,?_⟩
   ·have hN':(vars++frees)[i]?=some x:=hN;have hiv:vars.length<=i:=by
     by_cases z:vars.length<=i
     ·exact z
     ·exfalso;have hv':σY[i]?=some (some v):=hv;rw[qam (by simp;ext),qbs] at hv'
      split at hv' <;> cases hv'
    have hv':σY[i]?=some (some v):=hv;rw[qaA (by simpa using hiv),qbI,qao] at hv';rw[qaA hiv] at hN'
    cases ej:fm[i - vars.length]? with
    | none=>rw[ej] at hv';cases hv'
    | some j =>
     rw[ej] at hv';have ef:=congrArg (fun l=>l[i - vars.length]?) C.fm;simp only[qao,ej,hN',qbM] at ef;have ef':N[j]?=some x:=by simpa using ef
     have ev:σ[j]?=some (some v):=by
      have:(σ[j]?).getD none=some v:=by simpa using hv'
      cases z:σ[j]? with
      | none=>rw[z] at this;cases this
      | some o=>rw[z] at this;simp at this;rw[this]
     have hx:x∈frees:=qaI hN';have vis:Vis X.env.scope x:=.inr (.inl (C.cl x hx));obtain⟨u,ru,look⟩:=lX j x v (by rw[g.hN];exact ef') ev vis;refine⟨u,ru,.inr ⟨?_,?_⟩⟩
     ·left;show (relabel scope X.env).names.lookup x=some .cell
      have:=cB (env:=X.env) I3.ok.kind (C.hf x hx)
      rw[qaf ⟨rfl,C.cl x hx⟩] at this;exact this
     ·rcases look with ⟨hk,_⟩|⟨_,c,hc,hcell⟩
      ·rw[C.cl x hx] at hk;cases hk
      ·obtain⟨c',h1,h2⟩:=clf x hx;rw[hc] at h2;cases h2;obtain⟨o,eo,ed⟩:=hcell;exact⟨c,csf x c hx h1,o,keep4 _ _ eo,ed⟩
   ·rcases csl x c e with ⟨_,_,_,q⟩|⟨q,_⟩
    ·exact⟨none,q⟩
    ·obtain⟨v,o,eo,ed⟩:=I3.cell x c q;exact⟨v,o,keep4 _ _ eo,ed⟩
   ·exact I3.hok.fresh (qag _)
   ·rcases csl x c e with ⟨_,_,q,_⟩|⟨q,_⟩
    ·exact I3.hok.fresh (qcj q)
    ·exact I3.freeC x c q
   ·show σY.length=(vars++frees).length;simp[σY,fml]
  have gY:Good (dv X scope (cn++cl) s₃ H₃ fp (vars++frees)) (vars++frees) vars G' k:=by
   refine⟨rfl,nd,fun x hx=>?_,fun x hx=>?_,fun x hx=>?_,dbg,g.calm,g.room,PassesOwn.never⟩
   ·rcases qau.mp hx with z|z
    ·rcases C.hv x z with z|z
     ·left
      have:=cB (env:=X.env) I3.ok.kind z
      rw[qak (fun q=>nomatch q.1)] at this;exact this
     ·right
      have:=cB (env:=X.env) I3.ok.kind z
      rw[qak (fun q=>nomatch q.1)] at this;exact this
    ·right
     have:=cB (env:=X.env) I3.ok.kind (C.hf x z)
     rw[qaf ⟨rfl,C.cl x z⟩] at this;exact this
   ·rcases C.hv x hx with z|z
    ·right
     have:=cB (env:=X.env) I3.ok.kind z
     rw[qak (fun q=>nomatch q.1)] at this;exact this
    ·exact .inl (decide_eq_true z)
   ·have:=cB (env:=X.env) I3.ok.kind (hgl x hx)
    rw[qak (fun q=>nomatch q.1)] at this;exact this
  obtain⟨hg,ht,he⟩:=hY (dv X scope (cn++cl) s₃ H₃ fp (vars++frees)) rfl rfl rfl rfl rfl rfl gY;have rsY:RS X.K (ρ1++[s₂.heap.objs.size]) H₃ (cSt vars.length fm σp) σY:=by
   refine⟨by simp[σY,cSt],fun i v e=>?_⟩;unfold cSt at e;by_cases z:vars.length<=i
   ·rw[qaA (by simpa using z),qbI,qao] at e
    cases ej:fm[i - vars.length]? with
    | none=>rw[ej] at e;cases e
    | some j =>
     rw[ej] at e;have ev:σp[j]?=some (some v):=by
      have:(σp[j]?).getD none=some v:=by simpa using e
      cases z:σp[j]? with
      | none=>rw[z] at this;cases this
      | some o=>rw[z] at this;simp at this;rw[this]
     obtain⟨v',e',rv⟩:=rs.2 j v ev;refine⟨v',?_,rv.le l13⟩;show σY[i]?=_;rw[qaA (by simpa using z),qbI,qao,ej];simp[e']
   ·rw[qam (by simp;ext),qbs] at e
    split at e <;> cases e
  have q3:Ful X (RV' X) σp (ρ1++[s₂.heap.objs.size]) H₃ ((cGo it h1.length gt mt me it.xs (cSt vars.length fm σp) (h1++[.lst []])).bind fun _ h3=>.ok (.loc h1.length) h3) Q:=Ful.le l3 q1;have hrho:(ρ1++[s₂.heap.objs.size])[h1.length]?=some s₂.heap.objs.size:=by rw[<-rh1.len];simp
  have loop:∀s₅:Shared,s₅={ s₃ with heap:=h',toks:=s₃.toks}->codeAny (model X.prog X.w) X.A (.compLoop (.ListComp elt [⟨tg,iter,ifs,0⟩] scope pos) 0 (.ref ita) (.ref s₂.heap.objs.size) (compEnvC scope (cn++cl) s₃.heap.objs.size X.env))
    (compPost (model X.prog X.w) X.A X.xe use Qv (.ref s₂.heap.objs.size) s₃.heap.objs.size) s₅:=by
   rintro s₅ rfl;refine ub (CI X (dv X scope (cn++cl) s₃ H₃ fp (vars++frees)) it tn fp (ρ1++[s₂.heap.objs.size]) H₃ σp h1.length gt mt me Q) ?_ it.xs.length
    ⟨0,σY,H₃,_,_,_,rfl,qaP _,invY,T.keep _ _ _ st3 (fun b _ o e=>keep4 b o e),fun b hb=>(fp3 b hb).1,Le.refl _ _,rsY,rh3,by simpa using q3⟩
   rintro n s6 ⟨i,σ6,H6,ρ6,σp6,h6,rfl,hi6,I6,st6,fr6,l6,rs6,rh6,q6⟩;have stat:∀{H':Hp},(∀b∈fp,H' b=none)->∀b∈fp,gz (dv X scope (cn++cl) s₃ H₃ fp (vars++frees)) [] H' b:=fun {H'} hn b hb =>
    ⟨hn b hb,(ok.exf b hb).1,ok.exfs b hb,.inl hb,(ok.exf b hb).2,fun p hp=>absurd (show p∈([]:List (Addr × Obj)) from hp) (by simp)⟩
   by_cases hlt:i<it.xs.length
   ·have ed:it.xs.drop i=it.xs[i]::it.xs.drop (i+1):=qcE hlt;rw[ed] at q6;simp only[cGo] at q6;by_cases hok:it.ok h6
    ·rw[qaf hok] at q6;obtain⟨j1,_⟩:=jr ρ6 H6 h6 i (l3.trans l6) rh6 hok;obtain⟨go,yl⟩:=j1 hlt;refine thn (T.item (dv X scope (cn++cl) s₃ H₃ fp (vars++frees)) rfl rfl rfl g.calm i [] s6 σ6 H6 (fun _ _=>False) I6 (stat fr6) st6 go) fun r s7 ⟨u,hr,h7⟩=>?_;subst hr;refine thn h7 fun _ s8 ⟨x8,H8,I8,r8,y8,st8,fr8⟩=>?_;obtain⟨ρ8,x,l8,rh8,ex,rx⟩:=yl x8 H8 y8;have ex':x=it.xs[i]:=by rw[qas hlt] at ex;exact (Option.some.inj ex).symm
     subst ex';have I8p:=I8.pinned (stat fr8) (T.obj _ _ st8);have q8:=Ful.le l8 q6;have back:∀{σ9:L2.St} {H9:Hp} {s9:Shared},Inv (dv X scope (cn++cl) s₃ H₃ fp (vars++frees)) ([]++kW fp s8.heap) σ9 H9 s9->Inv (dv X scope (cn++cl) s₃ H₃ fp (vars++frees)) [] σ9 H9 s9/\tn (i+1) s9.heap/\∀b∈fp,H9 b=none:=fun {σ9 H9 s9} I9=>by
      refine⟨I9.unpinned,T.keep _ _ _ st8 fun b hb o e=>(I9.pin (b,o) (qal _ (qal _ (fW hb e)))).1,fun b hb=>?_⟩;obtain⟨o,e,d⟩:=T.obj _ _ st8 b hb;exact (I9.pin (b,o) (qal _ (qal _ (fW hb e)))).2.1
     cases eg:gt it.xs[i] σp6 h6 with
     | nx σp9 h9 =>
      rw[eg] at q8;dsimp only at q8
      refine thn (hg _ s8 σ6 H8 x8 u (fun σ' H'=>∃ρ',Le ρ8 H8 ρ' H'/\RH X.K X.mg ρ' H' h9/\RS X.K ρ' H' σp9 σ') I8p r8 ⟨ρ8,σp6,h6,_,rs6.le l8,rh8,rx,by
       show mI _ _ _ (gt it.xs[i] σp6 h6) _
       rw[eg];exact fun ρ' H' σ' l r s=>⟨ρ',l,r,s⟩⟩) fun _ s9 ⟨σ9,H9,I9,ρ9,l9,rh9,rs9⟩=>?_
      have q9:=Ful.le l9 q8
      cases em:mt σp9 h9 with
      | ok b h10 =>
       rw[em,Out.ne_ok] at q9;rw[Out.bind_ok] at q9
       refine thn (ht _ s9 σ9 H9 (fun b' H'=>b'=b/\∃ρ',Le ρ9 H9 ρ' H'/\RH X.K X.mg ρ' H' h10) I9 ⟨ρ9,σp9,h9,rs9,rh9,by
        show Ful _ _ _ _ _ (mt σp9 h9) _
        rw[em];exact fun ρ' H' v' l r e=>⟨e.symm,ρ',l,r⟩⟩) fun b' s10 ⟨H10,I10,eb,ρ10,l10,rh10⟩=>?_
       subst eb;have q10:=Ful.le l10 q9
       cases b' with
       | false =>
        rw[qak qaX] at q10 ⊢;obtain⟨I10',st10,fr10⟩:=back I10;exact⟨_,by ext,i+1,σ9,H10,ρ10,σp9,h10,rfl,hlt,I10',st10,fr10,l6.trans (l8.trans (l9.trans l10)),rs9.le l10,rh10,q10⟩
       | true =>
        rw[qaf rfl] at q10 ⊢
        cases ee:me σp9 h10 with
        | ok v h11 =>
         rw[ee,Out.ne_ok] at q10;rw[Out.bind_ok] at q10
         refine thn (he _ s10 σ9 H10 (fun v' H'=>∃ρ',Le ρ10 H10 ρ' H'/\RH X.K X.mg ρ' H' h11/\RP X.K ρ' H' v v') I10 ⟨ρ10,σp9,h10,rs9.le l10,rh10,by
          show Ful _ _ _ _ _ (me σp9 h10) _
          rw[ee];exact fun ρ' H' v' l r e=>⟨ρ',l,r,e⟩⟩) fun u11 s11 ⟨v',H11,I11,ru11,ρ11,l11,rh11,rv11⟩=>?_
         have q11:=Ful.le l11 q10;have lall:Le (ρ1++[s₂.heap.objs.size]) H₃ ρ11 H11:=l6.trans (l8.trans (l9.trans (l10.trans l11)));obtain⟨oa,eoa,roa⟩:=rh11.obj (lall.get hrho);rw[eoa] at q11
         cases oa with
         | dic kvs=>exact q11.elim
         | exc x=>exact q11.elim
         | lst ys =>
          dsimp only at q11;by_cases hl11:ys.length<sizeLine
          ·rw[qaf hl11] at q11;obtain⟨ys',ey',ry⟩:=roa;obtain⟨rh12,l12⟩:=rh11.put (lall.get hrho) (o:=.lst (ys++[v])) (ho:=.lst (ys'++[v'])) ⟨_,rfl,ry.append (.cons rv11 .nil)⟩;have ap:=pH (X:=dv X scope (cn++cl) s₃ H₃ fp (vars++frees)) _ s11 σ9 H11 (.ref s₂.heap.objs.size) [v'] (.ref s₂.heap.objs.size) [u11] (fun _ H'=>H'=upd H11 s₂.heap.objs.size (.lst (ys'++[v']))) I11 rfl (.cons ru11 .nil) ⟨s₂.heap.objs.size,ys',v',rfl,rfl,ey',by rw[<-ry.length];exact hl11,rfl⟩;refine thn ap fun _ s12 ⟨_,H12,I12,_,eH⟩=>?_;subst eH;obtain⟨I12',st12,fr12⟩:=back I12;exact⟨_,by ext,i+1,σ9,_,ρ11,σp9,_,rfl,hlt,I12',st12,fr12,lall.trans l12,(rs9.le l10).le (l11.trans l12),rh12,Ful.le l12 q11⟩
          ·rw[qak hl11] at q11;exact q11.elim
        | exc x h11=>rw[ee] at q10;exact q10.elim
        | bad=>rw[ee] at q10;exact q10.elim
      | exc x h10=>rw[em] at q9;exact q9.elim
      | bad=>rw[em] at q9;exact q9.elim
     | _=>rw[eg] at q8;exact q8.elim
    ·rw[qak hok] at q6;exact q6.elim
   ·have e:i=it.xs.length:=by ext
    rw[e,List.drop_length] at q6;simp only[cGo] at q6;by_cases hok:it.ok h6
    ·rw[qaf hok] at q6;obtain⟨_,j2⟩:=jr ρ6 H6 h6 i (l3.trans l6) rh6 hok;refine thn (T.done (dv X scope (cn++cl) s₃ H₃ fp (vars++frees)) rfl rfl rfl g.calm i [] s6 σ6 H6 (fun _ _=>False) I6 (stat fr6) st6 (j2 (by ext))) fun r s7 ⟨hr,I7⟩=>?_;subst hr;obtain⟨m7,ns7,_⟩:=I7.loc;have IX:=I3.call' (s':=s7) (ch:=fp) I7.os I7.base I7.hok I7.bare fun b hb=>by
      obtain⟨_,a2,_,a4,a5,a6⟩:=fp3 b hb;exact⟨a4,a2,a5,a6⟩
     exact fin _ _ H6 s7 m7 IX I7.free ns7 (qbd I3.lt) I3.sz (I3.nofs (qag _)) (fun x c e z=>by
      obtain⟨v,qc⟩:=I3.cell x c e
      exact absurd qc.lt (by rw[z];exact qbe _)) (fun p hp z=>absurd (qaq (I3.pin p hp).1) (by rw[z];exact qbe _)) (q6 ρ6 H6 _ (Le.refl _ _) rh6 (.loc (l6.get hrho)))
    ·rw[qak hok] at q6;exact q6.elim
  exact codeAny_compStart_list (loop _ rfl) (T.self X.A 0 _ _ _ (T.keep _ _ _ st3 (fun b _ o e=>keep4 b o e)) (loop _ rfl))
 exact goal3
def me_comp(g:Good X N W G k){tg iter elt:Expr}{ifs:List Expr}{scope:Scope}{pos:Pos}{vars frees G':List Str}{fm:List Nat}{mi:Mx MIt}{gt:Mg}{mt:Mx Bool}{me:Mx PV}(C:CompOk X N scope vars frees fm)
  (nd:(vars++frees).Nodup) (hgl:∀x∈G',scope.names.lookup x=some .globalImplicit) (dbg:∀x∈(vars++frees)++G',(x == ("__debug__":Str))=false/\(x == ("__classdict__":Str))=false/\x≠"__name__")
  (hi:MI X tg iter mi)
  (hY:∀Y:Cx,Y.prog=X.prog->Y.w=X.w->Y.K=X.K->Y.mg=X.mg->Y.base=X.base->Y.env.scope=relabel scope X.env->Good Y (vars++frees) vars G' k->MG Y tg gt/\MTs Y ifs mt/\ME Y elt me)
  (hs:∀x,foldedSetIterable iter X.env x=pure x:=by intro _;rfl):ME X (.ListComp elt [⟨tg,iter,ifs,0⟩] scope pos) (bB vars.length fm mi gt mt me):=by
 intro HV s σ H Q I tm;rw[eval_ListComp];refine qM g C nd hgl dbg hi hY hs I tm fun acc D H6 s7 m7 IX hC ns hL hz hfs hcl hp q=>?_;refine⟨m7,ns,fun h'' hsb=>⟨.ref acc,H6,?_,rfl,q⟩⟩;exact IX.turned (it:=D) (t':=s7.toks) (fun b o hb e=>hsb.extBut b o hb e) hC hL (.inr hz) hcl hp
def ms_setC(g:Good X N W G k)(i:Nat){y:Str}{py spos:Pos}{tg iter elt:Expr}{ifs:List Expr}{scope:Scope}{pos:Pos}{vars frees G':List Str}{fm:List Nat}{mi:Mx MIt}{gt:Mg}{mt:Mx Bool}{me:Mx PV}(hyi:N[i]?=some y)(hw:W[i]?=some y)
  (hsw:swapsWith (.ListComp elt [⟨tg,iter,ifs,0⟩] scope pos) (some (.Name y py)) spos.line X.env=pure true) (C:CompOk X N scope vars frees fm)
  (nd:(vars++frees).Nodup) (hgl:∀x∈G',scope.names.lookup x=some .globalImplicit) (dbg:∀x∈(vars++frees)++G',(x == ("__debug__":Str))=false/\(x == ("__classdict__":Str))=false/\x≠"__name__")
  (hi:MI X tg iter mi)
  (hY:∀Y:Cx,Y.prog=X.prog->Y.w=X.w->Y.K=X.K->Y.mg=X.mg->Y.base=X.base->Y.env.scope=relabel scope X.env->Good Y (vars++frees) vars G' k->MG Y tg gt/\MTs Y ifs mt/\ME Y elt me)
  (hs:∀x,foldedSetIterable iter X.env x=pure x:=by intro _;rfl):MS X (.Assign [.Name y py] (.ListComp elt [⟨tg,iter,ifs,0⟩] scope pos) spos) (bn i (bB vars.length fm mi gt mt me)):=by
 intro HV s σ H D I tm;obtain⟨ρ,σp,h,rs,rh,q⟩:=tm;rw[exec_Assign_Name_used _ _ _ _ hsw];refine qaa (wpAny_standAt (qaa ?_));show wpAny _ X.A (do let _ <-comprehension (.ListComp elt [⟨tg,iter,ifs,0⟩] scope pos) scope X.env _ (newList []) false (eval iter X.env) (some (assign (.Name y py) X.env))) _ _ s
 refine qaa (wpAny_mono (qM (pos:=pos) g C nd hgl dbg hi hY hs (use:=some (assign (.Name y py) X.env)) (Qv:=fun _ s'=>SP X HV D .next s') (pp:=firstIterPos [⟨tg,iter,ifs,0⟩] pos) (Q:=fun v H'=>D.nx (σ.set i (some v)) H') I
  ⟨ρ,σp,h,rs,rh,ck.ex q fun ρ1 H1 v v' h1 l r z w=>w ρ1 H1 _ (Le.refl _ _) r ((rs.le l).set i z)⟩ fun acc D' H6 s7 m7 IX hC ns hL hz hfs hcl hp q6=>?_) (fun _ s' hq=>qah (qah hq)) fun _ _ e=>e)
 ·obtain⟨o,es,ep,ho,hd,hr⟩:=id ns;have IP:Inv X (HV++[(D',o)]) σ H6 s7:=IX.pins_of fun p hp'=>(qau.mp hp').elim (fun z=>IX.pin p (qal _ z)) fun z=>by
   have e:p=(D',o):=by simpa using z
   subst e;exact⟨ho,hC,hL,hfs,fun v z=>by rw[hd] at z;cases z⟩
  have st:=vQ (X:=X) (pos:=py) (by rw[g.hN];exact g.nd) (g.x hyi) (g.loc y (aS hyi)) (g.fn y (aS hw)) (HV++[(D',o)]) s7 σ H6 (.ref acc) (.ref acc) (fun σ' H'=>σ'=σ.set i (some (.ref acc))/\H'=H6) IP rfl ⟨rfl,rfl⟩;refine thn st fun _ s8 ⟨σ8,H8,I8,e1,e2⟩=>?_;subst e1;subst e2;have pn:=I8.pin (D',o) (qal _ (qal _ (by simp)));refine⟨m7,⟨o,es,ep,pn.1,hd,hr⟩,fun h'' hsb=>⟨_,_,?_,q6⟩⟩;exact (I8.unpinned).turned (it:=D') (t':=s8.toks) (fun b o hb e=>hsb.extBut b o hb e) hC hL (.inr hz) hcl hp
end
section
variable {X:Cx} {N W G:List Str} {k:Nat} {σ:L2.St} {H:Hp} {s:Shared}
end
section
variable {prog:Program} {w:World} {A:Around} {E:Value→Shared→Prop} {h:Heap} {g:Array GenState} {d:Drawn} {t:Nat} {os:OsState} {a C:Addr} {o:Obj} {K:qad}
end
section
variable {X:Cx} {N W G:List Str} {k:Nat}
end
def fRepr(xs:List PV)(h:MH):Out PV:=match xs with
 | [x]=>(match x with
  | .tup _=>(match rd 60 h x with
   | some d=>if d.showable=true/\d.shown.length<=sizeLine then .ok (.str d.shown) h else .bad
   | none=>.bad)
  | .frl _=>(match rd 60 h x with
   | some d=>if d.showable=true/\d.shown.length<=sizeLine then .ok (.str d.shown) h else .bad
   | none=>.bad)
  | .loc _=>(match rd 60 h x with
   | some d=>if d.showable=true/\d.shown.length<=sizeLine then .ok (.str d.shown) h else .bad
   | none=>.bad)
  | _=>.bad)
 | _=>.bad
def lO(hf:∀v d,f v=some d->d.depth<=n/\d.hasDict=false):∀{xs:List PV} {ds:List PyData},b8 f xs=some ds->PyData.depthAll ds<=n/\PyData.hasDictAll ds=false
 | [],ds,e=>by cases e;simp[PyData.depthAll,PyData.hasDictAll]
 | x::r,ds,e=>by
  simp only[b8] at e
  split at e
  ·rename_i d ds' e1 e2
   cases e;obtain⟨a1,a2⟩:=hf _ _ e1;obtain⟨b1,b2⟩:=lO hf e2;simp only[PyData.depthAll,PyData.hasDictAll,a2,b2];exact⟨by ext,rfl⟩
  ·cases e
def jU:∀(n:Nat) (v:PV) (d:PyData),rd n h v=some d->d.depth<=n/\d.hasDict=false
 | 0,v,d,e=>by
  cases v <;> simp only[rd] at e <;> cases e <;> simp[PyData.depth,PyData.hasDict]
 | n+1,v,d,e=>by
  have key:∀xs,(∀ds,b8 (rd n h) xs=some ds->PyData.depthAll ds<=n/\PyData.hasDictAll ds=false):=fun xs ds=>lO (jU n)
  cases v with
  | non=>simp only[rd] at e;cases e;simp[PyData.depth,PyData.hasDict]
  | bl b=>simp only[rd] at e;cases e;simp[PyData.depth,PyData.hasDict]
  | int b=>simp only[rd] at e;cases e;simp[PyData.depth,PyData.hasDict]
  | str b=>simp only[rd] at e;cases e;simp[PyData.depth,PyData.hasDict]
  | tup xs =>
   simp only[rd,qav] at e;obtain⟨ds,e1,rfl⟩:=e;obtain⟨a,b⟩:=key xs ds e1;exact⟨by simp only[PyData.depth];ext,by simp only[PyData.hasDict,b]⟩
  | frl xs =>
   simp only[rd,qav] at e;obtain⟨ds,e1,rfl⟩:=e;obtain⟨a,b⟩:=key xs ds e1;exact⟨by simp only[PyData.depth];ext,by simp only[PyData.hasDict,b]⟩
  | loc m =>
   simp only[rd] at e
   split at e
   ·rename_i xs _
    simp only[qav] at e;obtain⟨ds,e1,rfl⟩:=e;obtain⟨a,b⟩:=key xs ds e1;exact⟨by simp only[PyData.depth];ext,by simp only[PyData.hasDict,b]⟩
   ·cases e
section
variable {X:Cx} {N W G:List Str} {k:Nat}
def mz{HV:List (Addr × Obj)}{σ:L2.St}{H:Hp}{s:Shared}{ρ:List Addr}{h:MH}{x:PV}{a:Addr}{Q:VK}(hr:Room k X.A)(I:Inv X HV σ H s)(rh:RH X.K X.mg ρ H h)(rx:RP X.K ρ H x (.ref a))
  (q:gv X (RV' X) ρ H (match rd 60 h x with
   | some d=>if d.showable=true/\d.shown.length<=sizeLine then .ok (.str d.shown) h else .bad
   | none=>.bad) Q):wpAny (model X.prog X.w) X.A (call (.builtin "repr") [.ref a]) (EP X HV σ Q) X.xe s:=by
 cases e:rd 60 h x with
 | none=>rw[e] at q;exact q.elim
 | some d =>
  rw[e] at q;dsimp only at q;by_cases z:d.showable=true/\d.shown.length<=sizeLine
  ·rw[qaf z] at q;obtain⟨as,rd1⟩:=cY I rh 60 x (.ref a) (.ref a) d rx rfl e;obtain⟨f1,f2⟩:=jU 60 x d e;refine repr_of_reads' rd1 z.1 (PyData.noDict_hsm f2) hr.gd (by have:=hr.un;ext) (fun _ _ e=>e) (fun h' u tk hk=>⟨.str d.shown,H,I.kept hk,⟨u,rfl⟩,q ρ H _ (Le.refl _ _) rh (.str _)⟩) z.2
  ·rw[qak z] at q;exact q.elim
def iT(g:Good X N W G k):cH X (.builtin "repr") fRepr:=by
 intro HV s σ H xs us Q I r ⟨ρ,h,ps,rh,rp,q⟩
 cases rp with
 | nil=>exact q.elim
 | cons r1 t1 =>
  cases t1 with
  | cons _ _=>cases r1 <;> exact q.elim
  | nil =>
   cases r with
   | cons ru tu =>
    cases tu
    cases r1 with
    | tup s1 rr=>cases ru;exact mz g.room I rh (.tup s1 rr) q
    | frl s1 rr=>cases ru;exact mz g.room I rh (.frl s1 rr) q
    | loc e=>cases ru;exact mz g.room I rh (.loc e) q
    | _=>exact q.elim
end
def t7{p:Str->Prop}{a:Str}{l:List Str}(h:p a)(t:∀x∈l,p x):∀x∈a::l,p x:=fun x hx=>by
 rcases qar.mp hx with rfl|z
 ·exact h
 ·exact t x z
section
variable {X:Cx} {N W G:List Str} {k:Nat}
def Cal.at(e1:Y.prog=X.prog)(e2:Y.w=X.w)(e3:Y.K=X.K)(e4:Y.mg=X.mg)(e5:Y.base=X.base)(c:Cal X x ps F i):Cal Y x ps F i:=c.to e1 e2 e3 e4 e5
end
end MM
namespace MM
open PySem PySem.Spec PyProof.Rows L2
def compOk(hsc:X.env.scope=sc)(h1:scope.kind=.function)(h2:∀y∈scope.names,y.2=.cell->scope.names.lookup y.1=some .cell)(h3:∀y∈scope.names,y.2=.local->scope.names.lookup y.1=some .local)(h4:∀x∈vars,scope.names.lookup x=some .local\/scope.names.lookup x=some .cell)
  (h5:∀x∈frees,scope.names.lookup x=some .free) (h6:∀y∈scope.names,y.2=.free->y.1∈frees) (h7:fm.map (fun i=>N[i]?)=frees.map some) (h8:∀x∈frees,sc.names.lookup x=some .cell):CompOk X N scope vars frees fm :=
 ⟨h1,h2,h3,h4,h5,h6,h7,fun x hx=>by rw[<-hsc] at h8;exact h8 x hx⟩
end MM
namespace MM
open PySem PySem.Spec PyProof.Rows L2
local instance (priority:=1) cdec16 (p:Prop):Decidable p:=Classical.propDecidable p
section
variable {σ:PSt} {h:MH}
@[simp] theorem sK{nv:Nat}{fm:List Nat}{mi:Mx MIt}{gt:Mg}{mt:Mx Bool}{me:Mx PV}:bB nv fm mi gt mt me σ h =
 (mi σ h).bind fun it h1=>(cGo it h1.length gt mt me it.xs (cSt nv fm σ) (h1++[.lst []])).bind fun _ h3=>.ok (.loc h1.length) h3:=rfl
def cGo_nil{it:MIt}{n:Nat}{gt:Mg}{mt:Mx Bool}{me:Mx PV}(e:it.ok h):cGo it n gt mt me [] σ h=.ok () h:=by rw[cGo,qaf e]
def cGo_yes{it:MIt}{n:Nat}{gt:Mg}{mt:Mx Bool}{me:Mx PV}{x v:PV}{r ys:List PV}{σ1:PSt}{h1 h2 h3:MH}(e:it.ok h)(eg:gt x σ h=.nx σ1 h1)(et:mt σ1 h1=.ok true h2)(ee:me σ1 h2=.ok v h3)(el:h3[n]?=some (.lst ys))(hl:ys.length<1000) :
  cGo it n gt mt me (x::r) σ h=cGo it n gt mt me r σ1 (h3.set n (.lst (ys++[v]))):=by
 rw[cGo,qaf e,eg];simp only[et,Out.ne_ok,Out.bind_ok,if_true,ee,el];rw[qaf (qaC hl (by decide))]
def wl:(h++g)[h.length+k]?=g[k]?:=by rw[qaA (by ext)];congr 1;ext
def nN{o:MO}{g:MH}:(h++o::g)[h.length]?=some o:=by simp
def app_l{g:MH}{n:Nat}{o:MO}(e:h[n]?=some o):(h++g)[n]?=some o:=by
 rw[qam (qae.mp e).1];exact e
def set_app:(h++g).set (h.length+k) o=h++g.set k o:=by
 rw[qcU _ _ (by ext)];congr 2;ext
end
end MM
namespace MM
open PySem PySem.Spec PyProof.Rows L2
def d6(s:String):PyData.strOk (Str.ofString s)=true:=by
 rw[Str.ofString_eq_toList];unfold PyData.strOk;simp only[List.all_toArray,qcV,qbH];intro c _;simp only[Function.comp]
 have:=c.valid
 have h2:c.toNat<0x110000:=by
  rcases this with z|z
  ·have:c.toNat<0xd800:=z;ext
  ·exact z.2
 simpa using h2
def dC(ha:PyData.strOk a=true)(hb:PyData.strOk b=true):PyData.strOk (a++b)=true:=by
 unfold PyData.strOk at *;rw[Str.cps_append,Array.all_append,ha,hb];rfl
end MM
namespace MM
open PySem PySem.Spec PyProof.Rows L2
local instance (priority:=1) cdec18 (p:Prop):Decidable p:=Classical.propDecidable p
def mMt(f:Nat->List PV->MH->Out PV)(m:Mx PV)(ma:Mx (List PV)):Mx PV:=fun σ h=>(m σ h).bind fun o h1=>match o with
 | .loc n=>(match h1[n]? with
  | some (.lst _)=>(ma σ h1).bind fun vs h2=>(f n vs h2).ne
  | _=>.bad)
 | _=>.bad
def cw(n:Nat)(vs:List PV)(h:MH):Out PV:=match vs,h[n]? with
 | [v],some (.lst xs)=>if xs.length<sizeLine then .ok .non (h.set n (.lst (xs++[v]))) else .bad
 | _,_=>.bad
def e7(n:Nat)(vs:List PV)(h:MH):Out PV:=match vs with
 | [.loc m]=>(match h[n]?,h[m]? with
  | some (.lst xs),some (.lst ys)=>if xs.length+ys.length<=sizeLine then .ok .non (h.set n (.lst (xs++ys))) else .bad
  | _,_=>.bad)
 | [.tup ys]=>(match h[n]? with
  | some (.lst xs)=>if xs.length+ys.length<=sizeLine then .ok .non (h.set n (.lst (xs++ys))) else .bad
  | _=>.bad)
 | _=>.bad
section
variable {X:Cx} {N W G:List Str} {k:Nat}
def mtJ(X:Cx)(f:Nat->List PV->MH->Out PV):V->List V->Hp->VK->Prop:=fun x vs H Q=>∃ρ h n a ps,x=.ref a/\ρ[n]?=some a/\RH X.K X.mg ρ H h/\RPs X.K ρ H ps vs/\gv X (RV' X) ρ H (f n ps h) Q
def hU:MtR X "list.append" (mtJ X cw):=by
 intro HV s σ H x vs v us Q I rx rv ⟨ρ,h,n,a,ps,e,en,rh,rp,q⟩;subst e;obtain⟨o,eo,ro⟩:=rh.obj en;unfold cw at q
 cases rp with
 | nil=>rw[eo] at q;exact q.elim
 | cons r1 t1 =>
  cases t1 with
  | cons _ _=>rw[eo] at q;exact q.elim
  | nil =>
   rw[eo] at q
   cases o with
   | lst xs =>
    dsimp only at q;by_cases hl:xs.length<sizeLine
    ·rw[qaf hl] at q;obtain⟨ys,ey,ry⟩:=ro;obtain⟨rh',l'⟩:=rh.put en (o:=.lst (xs++[_])) (ho:=.lst (ys++[_])) ⟨_,rfl,ry.append (.cons r1 .nil)⟩;exact pH HV s σ H _ _ v us Q I rx rv ⟨a,ys,_,rfl,rfl,ey,by rw[<-ry.length];exact hl,q ρ _ .non l' rh' .non⟩
    ·rw[qak hl] at q;exact q.elim
   | _=>exact q.elim
def qN(l b:Addr)(its:Array Value)(n:Nat)(items2:Array Value)(hs0:¬(!its.isEmpty && Builtin.List.listTooLong (its.size+items2.size))=true)(hs1:its.size<=sizeLine)(hs2:its.size+items2.size<=sizeLine+1) :
  Meets (Builtin.«list.extend» ⟨[.ref l,.ref b],[]⟩) (fun _ R s=>s.heap.get? l=some { cls:=.type "list",data:=.seq its n}/\IsTup s.heap b items2/\R (.ok (.ret Value.none)) { s with heap:=s.heap.update l (Obj.mapSeq fun x=>x++items2),toks:=s.toks}):=by
 intro prog w A R s ⟨hl,⟨o,ho,hc,n2,hd⟩,h⟩;have hz':(its++items2).size<=sizeLine+1:=by rw[qbZ];exact hs2
 unfold Builtin.«list.extend»;show wpAny _ A.in1 (Builtin.List.listExtendWith (.ref l) (.ref b) .none) _ _ s;unfold Builtin.List.listExtendWith;refine qaa (wpAny_typeOf ⟨o,ho,hc⟩ ?_);have h1:(Builtin.List.listSameRef (.ref l) (.ref b) || Value.type "tuple" == Value.type "list" || Value.type "tuple" == Value.type "tuple")=true:=by simp
 simp only[h1,if_true];refine qaa ?_;unfold Builtin.List.listItems;refine qaa (wpAny_seqItems ho hd (qah ?_));refine qaa ?_;refine qaa (wpAny_seqItems hl rfl (qah ?_));simp only[hs0,if_false];show wpAny _ A.in1 (updateSeq l (·++items2) >>= fun _=>ret Value.none) _ _ s;refine qaa (wpAny_updateSeq hl rfl ?_ (hz:=hs1) (_hz':=hz'));exact qah h
def pR:MtR X "list.extend" (mtJ X e7):=by
 intro HV s σ H x vs v us Q I rx rv ⟨ρ,h,n,a,ps,e,en,rh,rp,q⟩;subst e;obtain⟨o,eo,ro⟩:=rh.obj en;unfold e7 at q
 cases rp with
 | nil=>exact q.elim
 | cons r1 t1 =>
  cases t1 with
  | cons _ _=>cases r1 <;> exact q.elim
  | nil =>
   cases r1 with
   | @loc m b em =>
    obtain⟨o2,eo2,ro2⟩:=rh.obj em;dsimp only at q;rw[eo,eo2] at q
    cases o with
    | lst xs =>
     cases o2 with
     | lst zs =>
      dsimp only at q;by_cases hl:xs.length+zs.length<=sizeLine
      ·rw[qaf hl] at q;obtain⟨ys,ey,ry⟩:=ro;obtain⟨ws,ew,rw'⟩:=ro2;obtain⟨rh',l'⟩:=rh.put en (o:=.lst (xs++zs)) (ho:=.lst (ys++ws)) ⟨_,rfl,ry.append rw'⟩;exact yh HV s σ H _ _ v us Q I rx rv ⟨a,b,ys,ws,rfl,rfl,ey,ew,by rw[<-ry.length,<-rw'.length];exact hl,q ρ _ .non l' rh' .non⟩
      ·rw[qak hl] at q;exact q.elim
     | _=>exact q.elim
    | _=>exact q.elim
   | @tup zs a2 ws sq rr =>
    dsimp only at q;rw[eo] at q
    cases o with
    | lst xs =>
     dsimp only at q;by_cases hl:xs.length+zs.length<=sizeLine
     ·rw[qaf hl] at q;obtain⟨ys,ey,ry⟩:=ro;obtain⟨rh',l'⟩:=rh.put en (o:=.lst (xs++zs)) (ho:=.lst (ys++ws)) ⟨_,rfl,ry.append rr⟩;cases rx;obtain⟨u,rfl,ru⟩:=rv.one;cases ru;obtain⟨z,its,n,r,hl1,e⟩:=I.lstM ey;obtain⟨its2,r2,pl,hz2⟩:=I.tuple sq;have hlen:ys.length+ws.length<=sizeLine:=by rw[<-ry.length,<-rr.length];exact hl
      have hl2:=r2.length;have hsz:its.toArray.size+its2.toArray.size<=sizeLine:=by rw[qaj,qaj];ext
      have hlong:¬(!its.toArray.isEmpty && Builtin.List.listTooLong (its.toArray.size+its2.toArray.size))=true:=by
       rw[mM hsz,qdc];exact qaX
      refine call_meets F.slot_list_extend ⟨_,e,rfl⟩ F.entry_list_extend (F.args_list_extend_2 _ _) (qN a _ its.toArray n its2.toArray hlong (by rw[qaj];ext) (by ext)) ⟨e,pl,?_⟩;refine⟨.non,_,I.lset (its':=its++its2) ey e (by simp) (r.append r2) ?_,rfl,q ρ _ .non l' rh' .non⟩;rw[qay];ext
     ·rw[qak hl] at q;exact q.elim
    | _=>exact q.elim
   | _=>exact q.elim
variable {o e:Expr} {es:List Expr} {name:Str} {apos cpos:Pos} {id:String} {f:Nat→List PV→MH→Out PV} {m:Mx PV} {ma:Mx (List PV)}
def tM_mt{ta:TA}(hna:∀σ H Q,tM X (RVs' X) ma σ H Q->ta σ H Q){σ:L2.St}{H:Hp}{Q:VK}(tm:tM X (RV' X) (mMt f m ma) σ H Q):tM X (RV' X) m σ H (fun x H1=>tyV X.K "list" x H1/\ta σ H1 fun xs H2=>mtJ X f x xs H2 Q):=by
 obtain⟨ρ,σp,h,rs,rh,q⟩:=tm;refine⟨ρ,σp,h,rs,rh,?_⟩;unfold mMt at q;refine Ful.bind q fun ρ1 H1 x x' h1 _ l1 rh1 rx q1=>?_
 cases rx with
 | @loc n a en =>
  obtain⟨ob,eo,ro⟩:=rh1.obj en;dsimp only at q1;rw[eo] at q1
  cases ob with
  | lst xs =>
   obtain⟨ys,ey,ry⟩:=ro;refine⟨.inl ⟨rfl,ys,SqL.of ey⟩,hna σ H1 _ ⟨ρ1,σp,h1,rs.le l1,rh1,?_⟩⟩;exact Ful.bind q1 fun ρ2 H2 vs vs' h2 _ l2 rh2 rvs q2=>⟨ρ2,h2,n,a,vs,rfl,l2.get en,rh2,rvs,q2.zero⟩
  | _=>exact q1.elim
 | _=>exact q1.elim
def fV(slot:Slot "list" name id)(hty:typeOf (.builtin id)=pure (.type "method_descriptor"))(hm:MtR X id (mtJ X f))(ho:ME X o m)(ha:MA X (e::es) ma)
  (hbase:attributeBase o name X.env (eval o X.env)=eval o X.env:=by rfl)
  (hfew:((backTo cpos (starEach (e::es) X.env)).all (fun x=>!x.1) && (backToKw cpos (keywordEach [] X.env)).all (fun x=>x.1.isSome)
   && decide ((e::es).length+([]:List Keyword).length+(if ([]:List Keyword).isEmpty then 0 else 1)<30))=true:=by rfl)
  (hline:(apos.endLine == cpos.line)=true:=by rfl) (hs:starEach (e::es) X.env=(false,eval e X.env)::starEach es X.env:=by rfl) (hplain:(backTo cpos (starEach es X.env)).any (·.1)=false:=by rfl) :
  ME X (.Call (.Attribute o name apos) (e::es) [] cpos) (mMt f m ma) :=
 PE.imp (pe_bm PySem.F.plainAttrs_list slot hty hm ho ha hbase hfew hline hs hplain) fun σ H Q q=>tM_mt (fun _ _ _ z=>z) q
@[simp] theorem mMt_ap:mMt f m ma σ h=(m σ h).bind fun o h1=>match o with
 | .loc n=>(match h1[n]? with
  | some (.lst _)=>(ma σ h1).bind fun vs h2=>(f n vs h2).ne
  | _=>.bad)
 | _=>.bad:=rfl
end
end MM
namespace MM
open PySem PySem.Spec PyProof.Rows L2
def vJ(hs:PyData.strOk sep=true):∀{ts:List Str},(∀t∈ts,PyData.strOk t=true)->PyData.strOk (Str.join sep ts)=true
 | [],_=>by simp[Str.join,PyData.strOk,Str.empty]
 | [x],h=>h x (by simp)
 | x::y::r,h=>by
  show PyData.strOk (x++sep++Str.join sep (y::r))=true;exact dC (dC (h x (by simp)) hs) (vJ hs fun t ht=>h t (qai _ ht))
def um:∀{ts:List Str},(∀t∈ts,t.length<=L)->(Str.join ", " ts).length<=(L+2) * ts.length
 | [],_=>qaP _
 | [x],h=>by have:=h x (by simp);show x.length<=_;simp;ext
 | x::y::r,h=>by
  show (x++(", ":Str)++Str.join ", " (y::r)).length<=_
  have:=h x (by simp)
  have ih:=um (ts:=y::r) fun t ht=>h t (qai _ ht);have e2:(", ":Str).length=2:=by decide
  rw[Str.length_append,Str.length_append,e2]
  have:(L+2) * (x::y::r).length=(L+2)+(L+2) * (y::r).length:=by rw[qaE,Nat.mul_succ];ext
  ext
structure Sh (L:Nat) (d:PyData):Prop where
 able:d.showable=true
 ok:PyData.strOk d.shown=true
 len:d.shown.length<=L
def Sh.mono(s:Sh L d)(h:L<=M):Sh M d:=⟨s.able,s.ok,qaD s.len h⟩
def tw:∀{ds:List PyData},(∀d∈ds,Sh L d)->PyData.showableAll ds=true/\(∀t∈PyData.shownAll ds,PyData.strOk t=true/\t.length<=L)/\(PyData.shownAll ds).length=ds.length
 | [],_=>⟨rfl,(fun t h=>nomatch h),rfl⟩
 | d::ds,h=>by
  obtain⟨a,b,c⟩:=tw (ds:=ds) fun x hx=>h x (qai _ hx);have hd:=h d (by simp);refine⟨by simp only[PyData.showableAll,a,hd.able,Bool.and_self],fun t ht=>?_,by simp only[PyData.shownAll,qaE,c]⟩;simp only[PyData.shownAll,qar] at ht;rcases ht with rfl|ht
  ·exact⟨hd.ok,hd.len⟩
  ·exact b t ht
def vY:∀{ts:List Str} {k:Nat} {acc:Str},PyData.strOk acc=true->(∀t∈ts,PyData.strOk t=true)->PyData.strOk (textFrom k acc ts)=true
 | [],k,acc,ha,_=>ha
 | t::r,k,acc,ha,h=>by
  show PyData.strOk (textFrom (k+1) _ r)=true;refine vY (dC ?_ (h t (by simp))) fun t ht=>h t (qai _ ht);exact dC ha (d6 _)
def tD:∀{ts:List Str} {k:Nat} {acc:Str},(∀t∈ts,t.length<=L)->(textFrom k acc ts).length<=acc.length+(L+2) * ts.length
 | [],k,acc,_=>by show acc.length<=_;simp
 | t::r,k,acc,h=>by
  have e2:(", ":Str).length=2:=by decide
  have ht:=h t (by simp);have ih:∀b:Str,(textFrom (k+1) b r).length<=b.length+(L+2) * r.length:=fun b=>tD fun t ht=>h t (qai _ ht);show (textFrom (k+1) _ r).length<=_;refine qaD (ih _) ?_;rw[Str.length_append,qaE,Nat.mul_succ];split
  ·rw[Str.length_append,e2];ext
  ·have e0:("":Str).length=0:=by decide
   rw[Str.length_append,e0];ext
def vx(h:∀d∈ds,Sh L d):Sh ((L+2) * ds.length+2) (.list ds):=by
 obtain⟨a,b,c⟩:=tw h;have e1:("[":Str).length=1:=by decide
 have e2:("]":Str).length=1:=by decide
 refine⟨by simp only[PyData.showable,a],?_,?_⟩
 ·simp only[PyData.shown,listText];exact dC (vY (d6 _) fun t ht=>(b t ht).1) (d6 _)
 ·simp only[PyData.shown,listText]
  have:=tD (k:=0) (acc:="[") fun t ht=>(b t ht).2
  rw[c,e1] at this;rw[Str.length_append,e2];ext
def Ar(h:∀d∈ds,Sh L d):Sh ((L+2) * ds.length+3) (.tuple ds):=by
 obtain⟨a,b,c⟩:=tw h;have e1:("(":Str).length=1:=by decide
 have e2:∀z:Bool,(Str.ofString (if z=true then ",)" else ")")).length<=2:=by decide
 refine⟨by simp only[PyData.showable,a],?_,?_⟩
 ·simp only[PyData.shown,tupleText];exact dC (dC (d6 _) (vJ (d6 _) fun t ht=>(b t ht).1)) (d6 _)
 ·simp only[PyData.shown,tupleText]
  have:=um fun t ht=>(b t ht).2
  rw[c] at this;rw[Str.length_append,Str.length_append,e1]
  have:=e2 ((PyData.shownAll ds).length == 1)
  ext
def yF(h:i.natAbs.log2<1920):Sh 2000 (.int i):=by
 have l1:=PySem.int_text_length_le (by decide) h;have e1:(Str.ofString (toString i)).length=(toString i).length:=by rw[Str.ofString_eq_toList];simp only[Str.length,qaj,qat];exact String.length_toList
 exact⟨by simpa [PyData.showable] using h,d6 _,by show (Str.ofString (toString i)).length<=2000;ext⟩
end MM
namespace MM
open PySem PySem.Spec PyProof.Rows L2
local instance (priority:=1) cdec20 (p:Prop):Decidable p:=Classical.propDecidable p
def bR(h:MH):PV->Option (List PV)
 | .tup xs=>some xs
 | .frl xs=>some xs
 | .loc n=>(match h[n]? with
  | some (.lst xs)=>some xs
  | _=>none)
 | _=>none
section
variable {X:Cx} {N W G:List Str} {k:Nat}
def gc(rh:RH X.K X.mg ρ H h)(rx:RP X.K ρ H x x')(e:bR h x=some xs):∃a ys,x'=.ref a/\(SqL X.K H a ys\/SqT X.K H a ys)/\RPs X.K ρ H xs ys:=by
 cases rx with
 | tup s r=>cases e;exact⟨_,_,rfl,.inr s,r⟩
 | frl s r=>cases e;exact⟨_,_,rfl,.inl s.sq,r⟩
 | @loc n a en =>
  obtain⟨o,eo,ro⟩:=rh.obj en;simp only[bR,eo] at e
  cases o with
  | lst ys =>
   cases e;obtain⟨zs,ez,rz⟩:=ro;exact⟨a,zs,rfl,.inl (SqL.of ez),rz⟩
  | _=>cases e
 | _=>cases e
def gJ(f g:PV->PV->MH->Out PV)(a b c:Mx PV):Mx PV:=fun σ h=>(a σ h).bind fun x h1=>(b σ h1).bind fun y h2=>(f x y h2).ne.bind fun z h3=>match z with
 | .bl t=>if t=true then (c σ h3).bind fun w h4=>(g y w h4).ne else .ok (.bl false) h3
 | _=>.bad
variable {a b c:Expr} {ma mb mc:Mx PV} {f g':PV→PV→MH→Out PV} {op op':CmpOp} {pos:Pos}
def rT{σ:L2.St}{H:Hp}{Q:VK}(q:tM X (RV' X) (gJ f g' ma mb mc) σ H Q):sZ (rJ X f) (rJ X g') (tM X (RV' X) ma) (tM X (RV' X) mb) (tM X (RV' X) mc) σ H Q:=by
 obtain⟨ρ,σp,h,rs,rh,q⟩:=q;refine⟨ρ,σp,h,rs,rh,Ful.bind q fun ρ1 H1 x x' h1 _ l1 rh1 rx q1=>?_⟩;refine⟨ρ1,σp,h1,rs.le l1,rh1,Ful.bind q1 fun ρ2 H2 y y' h2 _ l2 rh2 ry q2=>?_⟩;refine⟨ρ2,h2,x,y,rh2,rx.le l2,ry,?_⟩;have key:Ful X (RV' X) σp ρ2 H2 (f x y h2).ne (fun z H3=>∃k,z=.bl k/\(if k=true then tM X (RV' X) mc σ H3 fun w' H4=>rJ X g' y' w' H4 Q else Q (.bl false) H3)):=Ful.bind q2 fun ρ3 H3 z z' h3 _ l3 rh3 rz q3=>by
  cases rz with
  | bl t =>
   refine⟨t,rfl,?_⟩;dsimp only at q3
   cases t with
   | true =>
    rw[qaf rfl] at q3 ⊢;exact⟨ρ3,σp,h3,rs.le (l1.trans (l2.trans l3)),rh3,Ful.bind q3 fun ρ4 H4 w w' h4 _ l4 rh4 rw' q4=>⟨ρ4,h4,y,w,rh4,(ry.le l3).le l4,rw',q4.zero⟩⟩
   | false =>
    rw[qak qaX] at q3 ⊢;exact q3 ρ3 H3 _ (Le.refl _ _) rh3 (.bl _)
  | _=>exact q3.elim
 exact key.zero
def zx(ho:OpJ X (compareOp op) f)(ho':OpJ X (compareOp op') g')(ha:ME X a ma)(hb:ME X b mb)(hc:ME X c mc)(hm:lastMarks [op,op'] [b,c]=false:=by with_unfolding_all rfl):ME X (.Compare a [op,op'] [b,c] pos) (gJ f g' ma mb mc) :=
 PE.imp (zU ho ho' ha hb hc hm) fun _ _ _ q=>rT q
def zy(ho:OpJ X (compareOp op) f)(ho':OpJ X (compareOp op') g')(ha:ME X a ma)(hb:ME X b mb)(hc:ME X c mc)(hm:lastMarks [op,op'] [b,c]=false:=by with_unfolding_all rfl):MT X (.Compare a [op,op'] [b,c] pos) (mB (gJ f g' ma mb mc)) :=
 PT.imp (zm ho ho' ha hb hc hm) fun σ H Q ⟨ρ,σp,h,rs,rh,q⟩=>rT ⟨ρ,σp,h,rs,rh,Ful.bind q fun ρ1 H1 v v' h1 _ l1 rh1 rv q1=>by
  cases rv with
  | bl t=>exact⟨t,rfl,q1 ρ1 H1 t (Le.refl _ _) rh1 rfl⟩
  | _=>exact q1.elim⟩
@[simp] theorem mChain_ap:gJ f g' ma mb mc σ h=(ma σ h).bind fun x h1=>(mb σ h1).bind fun y h2=>(f x y h2).ne.bind fun z h3=>match z with
 | .bl t=>if t=true then (mc σ h3).bind fun w h4=>(g' y w h4).ne else .ok (.bl false) h3
 | _=>.bad:=rfl
def fG(neg:Bool)(x y:PV)(h:MH):Out PV:=match bR h y with
 | some ys=>(match rd 60 h x,b8 (rd 60 h) ys with
  | some d,some ds=>if d.canLay0=true/\PyData.canLayAll0 ds=true then .ok (.bl (if neg then !ds.any (fun e=>PyData.eqv e d) else ds.any (fun e=>PyData.eqv e d))) h else .bad
  | _,_=>.bad)
 | none=>.bad
def jP:∀{ds:List PyData},PyData.canLayAll0 ds=true->∀d∈ds,d.canLay0=true
 | [],_,d,hd=>nomatch hd
 | e::ds,h,d,hd=>by
  simp only[PyData.canLayAll0,qbS] at h;rcases qar.mp hd with rfl|hd
  ·exact h.1
  ·exact jP h.2 d hd
def pG(hf:∀u d as,Reads hp u d as->fq u=PyData.eqv d dx):∀{us:List Value} {ds:List PyData} {as:List Addr},ReadsAll hp us ds as->us.any fq=ds.any fun e=>PyData.eqv e dx
 | _,_,_,.nil=>rfl
 | _,_,_,.cons r t=>by rw[qcH,qcH,hf _ _ _ r,pG hf t]
def kn:∀{us:List Value} {ds:List PyData} {as:List Addr},ReadsAll hp us ds as->∀u∈us,∃d as',d∈ds/\Reads hp u d as'
 | _,_,_,.nil,u,h=>nomatch h
 | _,_,_,.cons r t,u,h=>by
  rcases qar.mp h with rfl|h
  ·exact⟨_,_,qaL,r⟩
  ·obtain⟨d,as',hd,hr⟩:=kn t u h;exact⟨d,as',qai _ hd,hr⟩
def fq(hp:Heap)(dx:PyData)(u:Value):Bool:=if z:∃d as,Reads hp u d as then PyData.eqv z.choose dx else false
def rj(r:Reads hp u d as):fq hp dx u=PyData.eqv d dx:=by
 have z:∃d as,Reads hp u d as:=⟨d,as,r⟩;unfold fq;rw[dif_pos z];obtain⟨as',h'⟩:=z.choose_spec;rw[<-(Reads.unique r _ _ h').1]
def iw(hr:Room k X.A)(neg:Bool):OpJ X (compareOp (if neg then .NotIn else .In)) (fG neg):=by
 intro HV s σ H x' y' u v Q I rx' ry' ⟨ρ,h,x,y,rh,rx,ry,q⟩;unfold fG at q
 cases es:bR h y with
 | none=>rw[es] at q;exact q.elim
 | some ys =>
  rw[es] at q;dsimp only at q;obtain⟨a,zs,rfl,hsq,rzs⟩:=gc rh ry es
  cases ex:rd 60 h x with
  | none=>rw[ex] at q;exact q.elim
  | some dx =>
   rw[ex] at q
   cases ed:b8 (rd 60 h) ys with
   | none=>rw[ed] at q;exact q.elim
   | some ds =>
    rw[ed] at q;dsimp only at q;by_cases hl:dx.canLay0=true/\PyData.canLayAll0 ds=true
    ·rw[qaf hl] at q;cases ry';obtain⟨_,rX⟩:=cY I rh 60 x x' u dx rx rx' ex;have hdp:=(jU 60 x dx ex).1;have eqs:∀(its:List Value),az zs its->(∀w∈its,SeqAt.EqAt X.A.in1 s w u (fq s.heap dx w))/\its.any (fq s.heap dx)=ds.any fun e=>PyData.eqv e dx:=fun its rv=>by
      obtain⟨as,RA⟩:=dP (fun v v' u d r1 r2 e=>cY I rh 60 v v' u d r1 r2 e) rzs rv ed;refine⟨fun w hw=>?_,pG (fun u d as r=>rj r) RA⟩;obtain⟨d,as',hd,hrd⟩:=kn RA w hw;rw[rj hrd];refine SeqAt.eqAt_reads d dx X.A.in1 s w u _ _ hrd rX (jP hl.2 d hd) hl.1 ?_
      have:=hr.un
      show X.A.units+1+_<_;ext
     cases neg with
     | false =>
      rcases hsq with hq|hq
      ·obtain⟨its,rv,pl,hz⟩:=I.list hq;obtain⟨h1,h2⟩:=eqs its rv;refine SeqAt.in_listAt (fq s.heap dx) pl.isList (fun w hw=>h1 w (by simpa using hw)) ⟨.bl _,H,I,rfl,?_⟩;rw[show its.toArray.any (fq s.heap dx)=its.any (fq s.heap dx) by simp,h2];exact q ρ H _ (Le.refl _ _) rh (.bl _)
      ·obtain⟨its,rv,pl,hz⟩:=I.tuple hq;obtain⟨h1,h2⟩:=eqs its rv;refine SeqAt.in_tupleAt (fq s.heap dx) pl (fun w hw=>h1 w (by simpa using hw)) ⟨.bl _,H,I,rfl,?_⟩;rw[show its.toArray.any (fq s.heap dx)=its.any (fq s.heap dx) by simp,h2];exact q ρ H _ (Le.refl _ _) rh (.bl _)
     | true =>
      rcases hsq with hq|hq
      ·obtain⟨its,rv,pl,hz⟩:=I.list hq;obtain⟨h1,h2⟩:=eqs its rv;refine SeqAt.notIn_listAt (fq s.heap dx) pl.isList (fun w hw=>h1 w (by simpa using hw)) ⟨.bl _,H,I,rfl,?_⟩;rw[show its.toArray.any (fq s.heap dx)=its.any (fq s.heap dx) by simp,h2];exact q ρ H _ (Le.refl _ _) rh (.bl _)
      ·obtain⟨its,rv,pl,hz⟩:=I.tuple hq;obtain⟨h1,h2⟩:=eqs its rv;refine SeqAt.notIn_tupleAt (fq s.heap dx) pl (fun w hw=>h1 w (by simpa using hw)) ⟨.bl _,H,I,rfl,?_⟩;rw[show its.toArray.any (fq s.heap dx)=its.any (fq s.heap dx) by simp,h2];exact q ρ H _ (Le.refl _ _) rh (.bl _)
    ·rw[qak hl] at q;exact q.elim
def fList(xs:List PV)(h:MH):Out PV:=match xs with
 | [x]=>(match bR h x with
  | some ys=>newL ys h
  | none=>.bad)
 | _=>.bad
def fTuple(xs:List PV)(h:MH):Out PV:=match xs with
 | [x]=>(match bR h x with
  | some ys=>.ok (.tup ys) h
  | none=>.bad)
 | _=>.bad
def cj_list:cH X (.type "list") fList:=by
 intro HV s σ H xs us Q I r ⟨ρ,h,ps,rh,rp,q⟩
 cases rp with
 | nil=>exact q.elim
 | cons r1 t1 =>
  cases t1 with
  | cons _ _=>exact q.elim
  | nil =>
   rename_i x y
   unfold fList at q
   cases es:bR h x with
   | none=>simp only[es] at q;exact q.elim
   | some ys =>
    simp only[es] at q;obtain⟨a,zs,rfl,hsq,rzs⟩:=gc rh r1 es;obtain⟨_,q'⟩:=lA rh rzs q;exact rS HV s σ H _ us Q I r ⟨a,zs,rfl,hsq,q'⟩
def mW:cH X (.type "tuple") fTuple:=by
 intro HV s σ H xs us Q I r ⟨ρ,h,ps,rh,rp,q⟩
 cases rp with
 | nil=>exact q.elim
 | cons r1 t1 =>
  cases t1 with
  | cons _ _=>exact q.elim
  | nil =>
   rename_i x y
   unfold fTuple at q
   cases es:bR h x with
   | none=>simp only[es] at q;exact q.elim
   | some ys =>
    simp only[es] at q;obtain⟨a,zs,rfl,hsq,rzs⟩:=gc rh r1 es;rcases hsq with hq|hq
    ·refine kh HV s σ H _ us Q I r ⟨a,zs,rfl,.inl ⟨hq,fun l hl=>?_⟩⟩;obtain⟨r',l'⟩:=rh.tup hl zs;exact q ρ _ _ l' r' (.tup (SqT.of bZ) (rzs.le l'))
    ·exact kh HV s σ H _ us Q I r ⟨a,zs,rfl,.inr ⟨hq,q ρ H _ (Le.refl _ _) rh (.tup hq rzs)⟩⟩
def eY(xs:List PV)(lo hi:Option Int):List PV:=(xs.drop (HT.sIx xs.length 0 lo)).take (HT.sIx xs.length xs.length hi - HT.sIx xs.length 0 lo)
def fSl(x:PV)(lo hi:Option Int)(h:MH):Out PV:=match x with
 | .tup xs=>if HT.sIx xs.length 0 lo=0/\HT.sIx xs.length xs.length hi=xs.length then .bad else .ok (.tup (eY xs lo hi)) h
 | .frl xs=>.ok (.loc h.length) (h++[.lst (eY xs lo hi)])
 | .loc n=>(match h[n]? with
  | some (.lst xs)=>.ok (.loc h.length) (h++[.lst (eY xs lo hi)])
  | _=>.bad)
 | _=>.bad
def slJ(X:Cx)(f:PV->Option Int->Option Int->MH->Out PV):V->Option Int->Option Int->Hp->VK->Prop:=fun x' lo hi H Q=>∃ρ h x,RH X.K X.mg ρ H h/\RP X.K ρ H x x'/\gv X (RV' X) ρ H (f x lo hi h) Q
def oY{K:qad}{ρ:List Addr}{H:Hp}{xs:List PV}{ys:List V}(r:RPs K ρ H xs ys)(lo hi:Option Int):RPs K ρ H (eY xs lo hi) (gu ys lo hi):=by
 unfold eY gu;rw[r.length];exact (r.drop _).take _
def sj_sl:SlR X (slJ X fSl):=by
 intro HV s σ H x' v vl vu lo hi sl Q I rx hs pl pu ⟨ρ,h,x,rh,rxx,q⟩
 cases rxx with
 | tup s1 r1 =>
  unfold fSl at q;dsimp only at q
  rename_i xs a ys
  by_cases z:HT.sIx xs.length 0 lo=0/\HT.sIx xs.length xs.length hi=xs.length
  ·rw[qaf z] at q;exact q.elim
  ·rw[qak z] at q;refine sl_tup HV s σ H _ v vl vu lo hi sl Q I rx hs pl pu ⟨a,ys,rfl,s1,by rw[<-r1.length];exact z,fun p hp=>?_⟩;obtain⟨r',l'⟩:=rh.tup hp (gu ys lo hi);exact q ρ _ _ l' r' (.tup (SqT.of bZ) ((oY r1 lo hi).le l'))
 | frl s1 r1 =>
  rename_i xs a ys
  refine uS HV s σ H _ v vl vu lo hi sl Q I rx hs pl pu ⟨a,ys,rfl,s1.sq,fun p hp=>?_⟩;obtain⟨r',l'⟩:=rh.new hp (o:=.lst (eY xs lo hi)) (ho:=.lst (gu ys lo hi)) ⟨_,rfl,oY r1 lo hi⟩;exact q _ _ _ l' r' (.loc (by rw[<-rh.len];simp))
 | @loc n a en =>
  obtain⟨o,eo,ro⟩:=rh.obj en;unfold fSl at q;dsimp only at q;rw[eo] at q
  cases o with
  | lst xs =>
   obtain⟨ys,ey,ry⟩:=ro;refine uS HV s σ H _ v vl vu lo hi sl Q I rx hs pl pu ⟨a,ys,rfl,SqL.of ey,fun p hp=>?_⟩;obtain⟨r',l'⟩:=rh.new hp (o:=.lst (eY xs lo hi)) (ho:=.lst (gu ys lo hi)) ⟨_,rfl,oY ry lo hi⟩;exact q _ _ _ l' r' (.loc (by rw[<-rh.len];simp))
  | _=>exact q.elim
 | _=>exact q.elim
def MO'(X:Cx)(e:Option Expr)(m:Mx (Option Int)):Prop:=PO X e (tM X REq m)
def mNo:Mx (Option Int):=fun _ h=>.ok none h
def mPt(m:Mx PV):Mx (Option Int):=fun σ h=>(m σ h).bind fun v h1=>match v with
 | .int i=>.ok (some i) h1
 | _=>.bad
def bc:MO' X none mNo:=fun HV s σ H Q I ⟨ρ,σp,h,rs,rh,q⟩=>po_none HV s σ H Q I (q ρ H none (Le.refl _ _) rh rfl)
def bf(h:ME X e m):MO' X (some e) (mPt m):=fun HV s σ H Q I ⟨ρ,σp,hh,rs,rh,q⟩=>po_some h HV s σ H Q I ⟨ρ,σp,hh,rs,rh,Ful.bind q fun ρ1 H1 v v' h1 _ l1 rh1 rv q1=>by
 cases rv with
 | int i=>exact⟨i,rfl,q1 ρ1 H1 (some i) (Le.refl _ _) rh1 rfl⟩
 | _=>exact q1.elim⟩
def mSl(m:Mx PV)(ml mh:Mx (Option Int)):Mx PV:=fun σ h=>(m σ h).bind fun x h1=>(ml σ h1).bind fun lo h2=>(mh σ h2).bind fun hi h3=>(fSl x lo hi h3).ne
def bP{e:Expr}{lo hi:Option Expr}{m:Mx PV}{ml mh:Mx (Option Int)}{p2:Pos}(he:ME X e m)(hl:MO' X lo ml)(hu:MO' X hi mh):ME X (.Subscript e (.Slice lo hi none p2) pos) (mSl m ml mh) :=
 PE.imp (zK sj_sl he hl hu) fun σ H Q ⟨ρ,σp,h,rs,rh,q⟩=>⟨ρ,σp,h,rs,rh,Ful.bind q fun ρ1 H1 x x' h1 _ l1 rh1 rx q1=>⟨ρ1,σp,h1,rs.le l1,rh1,Ful.bind q1 fun ρ2 H2 lo lo' h2 _ l2 rh2 el q2=>by
  subst el
  exact⟨ρ2,σp,h2,rs.le (l1.trans l2),rh2,Ful.bind q2 fun ρ3 H3 hi hi' h3 _ l3 rh3 eh q3=>by
   subst eh
   exact⟨ρ3,h3,x,rh3,(rx.le l2).le l3,q3.zero⟩⟩⟩⟩
end
section
variable {X:Cx} {N W G:List Str} {k:Nat}
def m5{A:Around}{E:Value->Shared->Prop}{HV:List (Addr × Obj)}{σ:L2.St}{H:Hp}{s:Shared}{a:Addr}{ys:List V}{Q:Value->Shared->Prop}(hh:A.handled=none)(I:Inv X HV σ H s)(hq:SqL X.K H a ys\/SqT X.K H a ys)
  (h:∀(its:List Value) (h2:Heap) (It:Addr) (St:Nat->Heap->Prop),az ys its->Walks X.prog X.w A It [It,a] [It] its.toArray.size (fun i v=>its.toArray[i]?=some v) St->St 0 h2->(∀b∈[It,a],b<h2.objs.size)->(∀b o,s.heap.get? b=some o->h2.get? b=some o)->s.heap.objs.size=It->Q (.ref It) { s with heap:=h2}) :
  wpAny (model X.prog X.w) A (pyIter (.ref a)) Q E s:=by
 have sz:∀(o:Obj),a<s.heap.objs.size->∀b∈[s.heap.objs.size,a],b<(s.heap.push o).objs.size:=fun o hlt b hb=>by
  rw[qbc];rcases qar.mp hb with rfl|hb
  ·exact qce _
  ·rcases qar.mp hb with rfl|hb
   ·exact qbN hlt
   ·cases hb
 rcases hq with hq|hq
 ·obtain⟨its,rv,pl,_⟩:=I.list hq;have hl:=pl.isList;have hlt:a<s.heap.objs.size:=by obtain⟨_,e,_⟩:=hl;exact qaq e
  exact wpAny_pyIter_list hl (h its _ _ _ rv (Walks.list hh _ a (qaK hlt) its.toArray) ⟨⟨_,qap _ rfl,rfl,rfl⟩,hl.push _⟩ (sz _ hlt) (fun b o e=>qab _ e) rfl)
 ·obtain⟨its,rv,hl,_⟩:=I.tuple hq;have hlt:a<s.heap.objs.size:=by obtain⟨_,e,_⟩:=hl;exact qaq e
  exact wpAny_pyIter_tuple hl (h its _ _ _ rv (Walks.tuple hh _ a (qaK hlt) its.toArray) ⟨⟨_,qap _ rfl,rfl,rfl⟩,hl.push _⟩ (sz _ hlt) (fun b o e=>qab _ e) rfl)
def wj{s:Shared}{h2 h':Heap}{It:Addr}(k1:∀b o,s.heap.get? b=some o->h2.get? b=some o)(e:s.heap.objs.size=It)(k2:∀b o,b∉[It]->h2.get? b=some o->h'.get? b=some o):∀b o,s.heap.get? b=some o->h'.get? b=some o:=fun b o q=>by
 refine k2 b o (fun hm=>?_) (k1 b o q)
 have:b=It:=by simpa using hm
 exact absurd (qaq q) (by rw[this,e];exact qbe _)
def mR:List PV->Option (List Bool)
 | []=>some []
 | .bl b::r=>(mR r).map (b::·)
 | _=>none
def fj:List PV->Option (List Int)
 | []=>some []
 | .int i::r=>(fj r).map (i::·)
 | _=>none
def bls_rel{K:qad}{ρ:List Addr}{H:Hp}:∀{xs:List PV} {ys:List V} {bs:List Bool} {us:List Value},RPs K ρ H xs ys->az ys us->mR xs=some bs->us=bs.map Value.bool:=by
 intro xs
 induction xs with
 | nil=>intro ys bs us r v e;cases r;cases v;cases e;rfl
 | cons x xs ih =>
  intro ys bs us r v e
  cases r with
  | cons r1 r2 =>
   cases v with
   | cons v1 v2 =>
    cases r1 with
    | bl b =>
     simp only[mR,qav] at e;obtain⟨bs',e',rfl⟩:=e;rw[ih r2 v2 e',show _=Value.bool b from v1];rfl
    | _=>cases e
def rB{K:qad}{ρ:List Addr}{H:Hp}:∀{xs:List PV} {ys:List V} {is:List Int} {us:List Value},RPs K ρ H xs ys->az ys us->fj xs=some is->us.length=is.length/\∀(i:Nat) (u:Value),us[i]?=some u->∃t,u=.int (is.getD i 0) t:=by
 intro xs
 induction xs with
 | nil=>intro ys is us r v e;cases r;cases v;cases e;exact⟨rfl,fun i u h=>by simp at h⟩
 | cons x xs ih =>
  intro ys is us r v e
  cases r with
  | cons r1 r2 =>
   cases v with
   | cons v1 v2 =>
    cases r1 with
    | int b =>
     simp only[fj,qav] at e;obtain⟨is',e',rfl⟩:=e;obtain⟨a,b'⟩:=ih r2 v2 e';obtain⟨t0,rfl⟩:=v1;refine⟨by simp[a],fun i u h=>?_⟩
     cases i with
     | zero=>simp at h;exact⟨t0,by rw[<-h];rfl⟩
     | succ i=>obtain⟨t,e⟩:=b' i u (by simpa using h);exact⟨t,by rw[e];simp⟩
    | _=>cases e
def uI(bs:List Bool):TruthOf X.prog X.w A (fun i v=>(bs.map Value.bool).toArray[i]?=some v) (fun i=>bs.getD i false):=fun i v s Q E hP hQ=>by
 have:v=.bool (bs.getD i false):=by
  have hP:(List.map Value.bool bs).toArray[i]?=some v:=hP;rw[qbp,qao,qav] at hP;obtain⟨b,e,rfl⟩:=hP;rw[List.getD_eq_getElem?_getD,e];rfl
 subst this;exact wpAny_truthy_bool hQ
def xA(bs:List Bool):(List.range bs.length).all (fun i=>bs.getD i false)=bs.all id:=by
 induction bs with
 | nil=>rfl
 | cons b r ih =>
  rw[qaE,qcn,List.all_cons,qcV,List.all_cons,<-ih];rfl
def fAll(xs:List PV)(h:MH):Out PV:=match xs with
 | [x]=>(match (bR h x).bind mR with
  | some bs=>.ok (.bl (bs.all id)) h
  | none=>.bad)
 | _=>.bad
def xP(g:Good X N W G k):cH X (.builtin "all") fAll:=by
 intro HV s σ H xs us Q I r ⟨ρ,h,ps,rh,rp,q⟩
 cases rp with
 | nil=>exact q.elim
 | cons r1 t1 =>
  cases t1 with
  | cons _ _=>exact q.elim
  | nil =>
   rename_i x y
   unfold fAll at q
   cases es:(bR h x).bind mR with
   | none=>simp only[es] at q;exact q.elim
   | some bs =>
    simp only[es] at q;obtain⟨ys,e1,e2⟩:=qaO.mp es;obtain⟨a,zs,rfl,hsq,rzs⟩:=gc rh r1 e1
    cases r with
    | cons ru tu =>
     cases tu;cases ru;refine call_all_walk (m5 (A:=X.A.in1) g.room.hd I hsq fun its h2 It St rv Wk st fp kp esz=>?_);have ei:=bls_rel rzs rv e2;refine⟨It,_,_,_,_,St,_,rfl,Wk,st,by rw[ei];exact uI bs,fun h' tk kk=>?_⟩;have el:its.toArray.size=bs.length:=by rw[ei];simp
     rw[el,xA];exact⟨.bl _,H,I.kept (wj kp esz kk),rfl,q ρ H _ (Le.refl _ _) rh (.bl _)⟩
def ln(b:Nat->Nat->Bool)(is:List Int):Int:=is.getD (argBest b (is.length - 1)) 0
def fMaxS(xs:List PV)(h:MH):Out PV:=match xs with
 | [x]=>(match (bR h x).bind fj with
  | some is=>if 0<is.length then .ok (.int (ln (fun i j=>decide (is.getD i 0>is.getD j 0)) is)) h else .bad
  | none=>.bad)
 | [.int i,.int j]=>.ok (.int (if j>i then j else i)) h
 | _=>.bad
def fMinS(xs:List PV)(h:MH):Out PV:=match xs with
 | [x]=>(match (bR h x).bind fj with
  | some is=>if 0<is.length then .ok (.int (ln (fun i j=>decide (is.getD i 0<is.getD j 0)) is)) h else .bad
  | none=>.bad)
 | [.int i,.int j]=>.ok (.int (if j<i then j else i)) h
 | _=>.bad
def cj_maxS(g:Good X N W G k):cH X (.builtin "max") fMaxS:=by
 intro HV s σ H xs us Q I r ⟨ρ,h,ps,rh,rp,q⟩;unfold fMaxS at q
 split at q
 ·rename_i x
  cases rp with
  | cons r1 t1 =>
  cases t1
  cases es:(bR h x).bind fj with
  | none=>simp only[es] at q;exact q.elim
  | some is =>
   simp only[es] at q;by_cases hn:0<is.length
   ·rw[qaf hn] at q;obtain⟨ys,e1,e2⟩:=qaO.mp es;obtain⟨a,zs,rfl,hsq,rzs⟩:=gc rh r1 e1
    cases r with
    | cons ru tu =>
     cases tu;cases ru;refine call_max_walk (m5 (A:=X.A.in1) g.room.hd I hsq fun its h2 It St rv Wk st fp kp esz=>?_);obtain⟨el,ei⟩:=rB rzs rv e2;have el':its.toArray.size=is.length:=by rw[qaj];exact el
     refine⟨It,_,_,_,_,St,_,rfl,Wk,st,fp,by rw[el'];exact hn,CmpOf.ints_gt (fun i=>is.getD i 0) (fun i v hv=>ei i v (by simpa using hv)),fun v h' tk hP kk=>?_⟩;have hP':its.toArray[argBest _ (its.toArray.size - 1)]?=some v:=hP;rw[el',qbp] at hP';obtain⟨t,rfl⟩:=ei _ v hP';exact⟨.int _,H,I.kept (wj kp esz kk),⟨t,rfl⟩,q ρ H _ (Le.refl _ _) rh (.int _)⟩
   ·rw[qak hn] at q;exact q.elim
 ·cases rp with
  | cons r1 t1 =>
   cases t1 with
   | cons r2 t2 =>
    cases t2;cases r1;cases r2;exact pX g.calm HV s σ H _ us Q I r ⟨_,_,rfl,q ρ H _ (Le.refl _ _) rh (.int _)⟩
 ·exact q.elim
def cj_minS(g:Good X N W G k):cH X (.builtin "min") fMinS:=by
 intro HV s σ H xs us Q I r ⟨ρ,h,ps,rh,rp,q⟩;unfold fMinS at q
 split at q
 ·rename_i x
  cases rp with
  | cons r1 t1 =>
  cases t1
  cases es:(bR h x).bind fj with
  | none=>simp only[es] at q;exact q.elim
  | some is =>
   simp only[es] at q;by_cases hn:0<is.length
   ·rw[qaf hn] at q;obtain⟨ys,e1,e2⟩:=qaO.mp es;obtain⟨a,zs,rfl,hsq,rzs⟩:=gc rh r1 e1
    cases r with
    | cons ru tu =>
     cases tu;cases ru;refine call_min_walk (m5 (A:=X.A.in1) g.room.hd I hsq fun its h2 It St rv Wk st fp kp esz=>?_);obtain⟨el,ei⟩:=rB rzs rv e2;have el':its.toArray.size=is.length:=by rw[qaj];exact el
     refine⟨It,_,_,_,_,St,_,rfl,Wk,st,fp,by rw[el'];exact hn,CmpOf.ints_lt (fun i=>is.getD i 0) (fun i v hv=>ei i v (by simpa using hv)),fun v h' tk hP kk=>?_⟩;have hP':its.toArray[argBest _ (its.toArray.size - 1)]?=some v:=hP;rw[el',qbp] at hP';obtain⟨t,rfl⟩:=ei _ v hP';exact⟨.int _,H,I.kept (wj kp esz kk),⟨t,rfl⟩,q ρ H _ (Le.refl _ _) rh (.int _)⟩
   ·rw[qak hn] at q;exact q.elim
 ·cases rp with
  | cons r1 t1 =>
   cases t1 with
   | cons r2 t2 =>
    cases t2;cases r1;cases r2;exact qz g.calm HV s σ H _ us Q I r ⟨_,_,rfl,q ρ H _ (Le.refl _ _) rh (.int _)⟩
 ·exact q.elim
end
def RH.loose{K:qad}{mg:MGl}{ρ:List Addr}{H:Hp}{h:MH}(r:RH K mg ρ H h){p:Addr}(hp:H p=none)(ho:HO):RH K mg ρ (upd H p ho) h/\Le ρ H ρ (upd H p ho):=by
 have hne:∀n a,ρ[n]?=some a->a≠p:=fun n a e z=>by
  obtain⟨o',_,q⟩:=r.obj e;rw[z,hp] at q;exact q.some rfl
 have l:Le ρ H ρ (upd H p ho):=⟨⟨[],by simp⟩,fun a xs e=>by rw[br (bT e hp)];exact e,fun a ob u e=>by rw[br (bT e hp)];exact e⟩;exact⟨⟨r.len,r.nd,fun n a o e1 e2=>by rw[br (hne n a e1)];exact (r.at' n a o e1 e2).le l⟩,l⟩
section
variable {X:Cx} {N W G:List Str} {k:Nat}
def kQ(xs:List PV)(i:Int)(v:PV):List PV :=
 let k:=if i<0 then (i+(xs.length:Int)).toNat else min i.toNat xs.length
 xs.take k++v::xs.drop k
def iQ(n:Nat)(vs:List PV)(h:MH):Out PV:=match vs with
 | [.int i,v]=>(match h[n]? with
  | some (.lst xs)=>if (-(2 ^ 63)<=i/\i<2 ^ 63)/\xs.length<sizeLine then .ok .non (h.set n (.lst (kQ xs i v))) else .bad
  | _=>.bad)
 | _=>.bad
def yV:MtR X "list.insert" (mtJ X iQ):=by
 intro HV s σ H x vs v us Q I rx rv ⟨ρ,h,n,a,ps,e,en,rh,rp,q⟩;subst e;obtain⟨o,eo,ro⟩:=rh.obj en;unfold iQ at q
 split at q
 ·rename_i i vv
  cases rp with
  | cons r1 t1 =>
   cases t1 with
   | cons r2 t2 =>
    cases t2;cases r1;rw[eo] at q
    cases o with
    | lst xs =>
     dsimp only at q;by_cases hl:(-(2 ^ 63)<=i/\i<2 ^ 63)/\xs.length<sizeLine
     ·rw[qaf hl] at q;obtain⟨ys,ey,ry⟩:=ro;cases rx
      cases rv with
      | cons rv1 tv1=>cases tv1 with
       | cons rv2 tv2 =>
        cases tv2
        rename_i v' u1 u2
        obtain⟨t,rfl⟩:=rv1;obtain⟨z,its,nn,r,hlen,e⟩:=I.lstM ey
        let kk:=if i<0 then (i+(its.length:Int)).toNat else min i.toNat its.length
        have rel:RPs X.K ρ H (kQ xs i vv) (ys.take kk++v'::ys.drop kk):=by
         have:(if i<0 then (i+(xs.length:Int)).toNat else min i.toNat xs.length)=kk:=by
          show _=(if i<0 then (i+(its.length:Int)).toNat else min i.toNat its.length);rw[ry.length,hlen]
         unfold kQ;rw[this];exact (ry.take kk).append (.cons r2 (ry.drop kk))
        obtain⟨rh',l'⟩:=rh.put en (o:=.lst (kQ xs i vv)) (ho:=.lst (ys.take kk++v'::ys.drop kk)) ⟨_,rfl,rel⟩;refine call_meets PySem.F.slot_list_insert ⟨_,e,rfl⟩ PySem.F.entry_list_insert (PySem.F.args_list_insert_3 _ _ _) (AutoListH.list_insert_list_int_val_1 a its.toArray nn i t u2 (by rw[fitsIndex_both hl.1.1 hl.1.2];simp) (by rw[qaj];ext)) ⟨e,?_⟩;have vals:az (ys.take kk++v'::ys.drop kk) (its.take kk++u2::its.drop kk):=(r.take kk).append (.cons rv2 (r.drop kk));have hlz:(ys.take kk++v'::ys.drop kk).length<=sizeLine:=by
         rw[<-rel.length];have e1:(kQ xs i vv).length=xs.length+1:=by
          unfold kQ;simp only[qay,qaE,qbR,qbg];ext
         ext
        refine⟨.non,_,I.lset (its':=its.take kk++u2::its.drop kk) ey e ?_ vals hlz,rfl,q ρ _ .non l' rh' .non⟩;apply Array.ext';simp only[qbb,qbh,qbK,qaj];simp[kk,List.extract];refine qbk ?_;rw[qbg];exact qag _
     ·rw[qak hl] at q;exact q.elim
    | _=>exact q.elim
 ·exact q.elim
def tRng1(ta:TA):TE:=fun σ H Q=>ta σ H fun vs H1=>∃j:Int,vs=[.int j] /\ -(2 ^ 62)<=j/\j<2 ^ 62/\∀p,H1 p=none->Q (.ref p) (upd H1 p (.rng 0 j))
def xE(hg:Gl X "range")(hm:X.mg "range"=none)(ha:PA X [a] ta)(hs:starEach [a] X.env=[(false,eval a X.env)]:=by rfl):PE X (.Call (.Name "range" p) [a] [] pos) (tRng1 ta):=by
 intro HV s σ H R I h;refine Call_ (ft I hg hm boot_range (PyProof.Rows.callWith_type1 (thn (ha pos HV s σ H _ I h) fun us s1 ⟨vs,H1,I1,r1,q1⟩=>?_) hs rfl));obtain⟨j,e,q1,q2,q⟩:=q1;subst e
 cases r1 with
 | cons r rr =>
  cases rr;obtain⟨t,rfl⟩:=r;refine call_range_1 ⟨.ref s1.heap.objs.size,_,I1.laid (o:=.rng 0 j) (fun b o e=>qab _ e) (qag _) ?_,rfl,q _ (I1.hok.fresh (qag _))⟩;exact⟨_,_,_,qap _ rfl⟩
def nT:∀(n:Nat) (lo:Int) (us:List Value),us.length=n->(∀(i:Nat) (v:Value),us[i]?=some v->∃t,v=.int (lo+i) t)->az ((List.range n).map fun i=>V.int (lo+(i:Nat))) us
 | 0,lo,us,hl,_=>by cases us with | nil=>exact .nil | cons _ _=>simp at hl
 | n+1,lo,us,hl,h=>by
  cases us with
  | nil=>simp at hl
  | cons u us =>
   rw[qcn,qaG,qbj];obtain⟨t,e⟩:=h 0 u rfl;refine .cons ⟨t,e⟩ ?_;have ih:=nT n (lo+1) us (by simpa using hl) fun i v hv=>by
    obtain⟨t,e⟩:=h (i+1) v (by simpa using hv);exact⟨t,by rw[e];congr 1;push_cast;ext⟩
   have e2:((fun i=>V.int (lo+((i:Nat):Int)))∘Nat.succ)=fun i=>V.int (lo+1+((i:Nat):Int)):=by
    funext i;simp only[Function.comp];congr 1;push_cast;ext
   rw[e2];exact ih
def qX(hh:X.calm=true):cu X (.type "list") (fun xs H Q=>∃r j,xs=[.ref r]/\H r=some (.rng 0 j) /\ -(2 ^ 62)<=j/\j<2 ^ 62/\j.toNat<=sizeLine/\∀l,H l=none->Q (.ref l) (upd H l (.lst ((List.range j.toNat).map fun i=>V.int (0+(i:Nat)))))):=by
 intro HV s σ H xs us Q I r ⟨ra,j,e,hr,h1,h2,h3,q⟩;subst e
 cases r with
 | cons r1 t1 =>
  cases t1;cases r1;obtain⟨t,u,v,ho⟩:=(show ObjOk X.prog X.w H s.heap ra (.rng 0 j) from I.hok ra _ hr);refine call_list_range (n:=j.toNat) (I.ok.hd hh) ho (small_one (by ext) (by ext) h1 h2) (by rw[rangeSize_one];split <;> ext) h3 fun h' tk acc' c' kp e it=>?_;have va:az ((List.range j.toNat).map fun i=>V.int (0+(i:Nat))) acc'.toList:=nT _ 0 _ (by rw[qaz];exact it.1) fun i v hv=>by
   obtain⟨t,e⟩:=it.2 i v (by rw[<-qaw];exact hv);exact⟨t,by rw[e];congr 1;ext⟩
  refine⟨.ref s.heap.objs.size,_,I.laid (o:=.lst _) kp (qag _) (show ObjOk X.prog X.w _ h' _ (.lst _) from⟨by simpa using h3,acc'.toList,c',va,by simpa using e⟩),rfl,q _ (I.hok.fresh (qag _))⟩
def mLR(m:Mx (List PV)):Mx PV:=fun σ h=>(m σ h).bind fun vs h1=>match vs with
 | [.int j]=>if -(2 ^ 62)<=j/\j<2 ^ 62/\j.toNat<=sizeLine then .ok (.loc h1.length) (h1++[.lst (bF 0 j.toNat)]) else .bad
 | _=>.bad
def qo{K:qad}{ρ:List Addr}{H:Hp}{lo:Int}:∀(l:List Nat),RPs K ρ H (l.map fun (i:Nat)=>PV.int (lo+(i:Int))) (l.map fun (i:Nat)=>V.int (lo+(i:Int)))
 | []=>.nil
 | i::l=>.cons (.int _) (qo l)
def AH(g:Good X N W G k){a:Expr}{m:Mx (List PV)}{i j:Nat}{p p' pos pos':Pos}(hi:G[i]?=some "list")(hm:X.mg "list"=none)(hj:G[j]?=some "range")(hm':X.mg "range"=none)(ha:MA X [a] m)
  (hs:starEach [a] X.env=[(false,eval a X.env)]:=by rfl) (he:starEach [.Call (.Name "range" p') [a] [] pos'] X.env=[(false,eval (.Call (.Name "range" p') [a] [] pos') X.env)]:=by rfl):ME X (.Call (.Name "list" p) [.Call (.Name "range" p') [a] [] pos'] [] pos) (mLR m):=by
 have d:=g.dbg _ (qal _ (aS hi));refine PE.imp (iu (qX g.calm) (g.gl _ (aS hi)) hm PyProof.Rows.Boot.«list» (gh (xE (g.gl _ (aS hj)) hm' ha hs) kM he) d.2.2 d.1 he rfl) fun σ H Q ⟨ρ,σp,h,rs,rh,q⟩=>?_;refine⟨ρ,σp,h,rs,rh,Ful.bind q fun ρ1 H1 x x' h1 _ l1 rh1 rx q1=>?_⟩
 cases rx with
 | nil=>exact q1.elim
 | cons r1 t1 =>
  cases t1 with
  | cons _ _=>cases r1 <;> exact q1.elim
  | nil =>
   cases r1 with
   | int jj =>
    dsimp only at q1;by_cases z:-(2 ^ 62)<=jj/\jj<2 ^ 62/\jj.toNat<=sizeLine
    ·rw[qaf z] at q1;refine⟨jj,rfl,z.1,z.2.1,fun r hr=>?_⟩;obtain⟨rh2,l2⟩:=rh1.loose hr (.rng 0 jj);refine⟨r,jj,rfl,bZ,z.1,z.2.1,z.2.2,fun l hl=>?_⟩;obtain⟨rh3,l3⟩:=rh2.new hl (o:=.lst (bF 0 jj.toNat)) (ho:=.lst _) ⟨_,rfl,qo _⟩;exact q1 _ _ _ (l2.trans l3) rh3 (.loc (by rw[<-rh1.len];simp))
    ·rw[qak z] at q1;exact q1.elim
   | _=>exact q1.elim
end
end MM
namespace SetT
open PySem PySem.SetTable
def d7(xs:Array Nat):Prop:=∀a b u v:Nat,a<b->xs[a]?=some u->xs[b]?=some v->u<v
def zI(xs:Array Nat)(j:Nat)(hr:d7 xs):∀fuel lo hi:Nat,hi - lo<=fuel->lo<=hi->hi<=xs.size ->
  (∀a v,xs[a]?=some v->a<lo->v<j)->(∀a v,xs[a]?=some v->hi<=a->j<=v) ->
  below.go xs j fuel lo hi<=xs.size/\(∀a v,xs[a]?=some v->a<below.go xs j fuel lo hi->v<j) /\
   (∀a v,xs[a]?=some v->below.go xs j fuel lo hi<=a->j<=v):=by
 intro fuel
 induction fuel with
 | zero =>
  intro lo hi h1 h2 h3 h4 h5
  have:lo=hi:=by lia
  subst this;exact⟨h3,h4,h5⟩
 | succ f ih =>
  intro lo hi h1 h2 h3 h4 h5;unfold below.go;by_cases hlt:lo<hi
  ·simp only[hlt,if_true];have hm:(lo+hi) / 2<xs.size:=by lia
   have hg:xs[(lo+hi) / 2]?=some (xs[(lo+hi)/2]'hm):=qbm hm;have hd:xs.getD ((lo+hi) / 2) j=xs[(lo+hi)/2]'hm:=by simp[Array.getD,hm]
   rw[hd];by_cases hc:xs[(lo+hi)/2]'hm<j
   ·simp only[hc,if_true];apply ih
    ·lia
    ·lia
    ·lia
    ·intro a v ha hlt';by_cases he:a=(lo+hi) / 2
     ·subst he;rw[hg] at ha;cases ha;exact hc
     ·have:=hr a ((lo+hi)/2) v _ (by lia) ha hg;lia
    ·exact h5
   ·simp only[hc,if_false];apply ih
    ·lia
    ·lia
    ·lia
    ·exact h4
    ·intro a v ha hle;by_cases he:a=(lo+hi) / 2
     ·subst he;rw[hg] at ha;cases ha;lia
     ·have:=hr ((lo+hi)/2) a _ v (by lia) hg ha;lia
  ·simp only[hlt,if_false]
   have:lo=hi:=by lia
   subst this;exact⟨h3,h4,h5⟩
def dH(xs:Array Nat)(j:Nat)(hr:d7 xs) :
  below xs j<=xs.size/\(∀a v,xs[a]?=some v->a<below xs j->v<j)/\(∀a v,xs[a]?=some v->below xs j<=a->j<=v):=by
 unfold below;apply zI xs j hr
 ·lia
 ·lia
 ·lia
 ·intro a v _ h;lia
 ·intro a v ha h
  have:=qbF h
  rw[this] at ha;cases ha
def gr(xs:Array Nat)(i j:Nat)(hr:d7 xs)(h:xs[i]?=some j):below xs j=i:=by
 obtain⟨_,h2,h3⟩:=dH xs j hr;by_cases h4:i<below xs j
 ·have:=h2 i j h h4;lia
 ·by_cases h5:below xs j=i
  ·exact h5
  ·have hlt:below xs j<i:=by lia
   have hs:i<xs.size:=by
    by_cases h6:i<xs.size
    ·exact h6
    ·rw[qbF (by lia)] at h;cases h
   have hg:xs[below xs j]?=some (xs[below xs j]'(by lia)):=qbm (by lia);have h7:=hr _ i _ j hlt hg h;have h8:=h3 _ _ hg (qag _);lia
def Occ(pl:Array Nat)(s:Nat):Prop:=∃i:Nat,pl[i]?=some s
def vI(j:Nat):has (#[]:Array Nat) j=false:=by
 unfold has;simp
def qE(t:SetTable)(hr:d7 t.place)(i s:Nat)(h:t.place[i]?=some s):t.slot s=.live i:=by
 unfold SetTable.slot;simp only[gr t.place i s hr h,h];simp
def wF(t:SetTable)(hd:t.dummies=#[])(s:Nat)(h:¬Occ t.place s):t.slot s=.empty:=by
 unfold SetTable.slot;simp only[hd,vI];split
 ·rename_i h1
  exact absurd ⟨_,by simpa using h1⟩ h
 ·simp
def cz(xs:Array α)(p:Nat)(x:α)(hp:p<=xs.size)(i:Nat) :
  (insertAt xs p x)[i]?=if i<p then xs[i]? else if i=p then some x else xs[i - 1]?:=by
 unfold insertAt;have e1:(xs.extract 0 p).size=p:=by simp;lia
 rw[Array.getElem?_append];simp only[qbx,e1];split
 ·rename_i h1
  rw[Array.getElem?_push];simp only[e1];split
  ·rename_i h2;subst h2;simp
  ·rename_i h2
   have:i<p:=by lia
   simp only[this,if_true];rw[qbG];simp;lia
 ·rename_i h1
  have h2:¬i<p:=by lia
  have h3:¬i=p:=by lia
  simp only[h2,h3,if_false];rw[qbG];have e2:p+(i - (p+1))=i - 1:=by lia
  simp only[e2];split
  ·rfl
  ·rename_i h4
   rw[qbF];simp at h4;lia
def db(xs:Array α)(p:Nat)(x:α)(hp:p<=xs.size):(insertAt xs p x).size=xs.size+1:=by
 unfold insertAt;simp;lia
def t5(f:α->β)(xs:Array α)(p:Nat)(x:α):(insertAt xs p x).map f=insertAt (xs.map f) p (f x):=by
 unfold insertAt;simp[Array.map_append,Array.map_push,Array.map_extract]
def nh(x M:Nat):x % (M+1)<=M:=Nat.le_of_lt_succ (Nat.mod_lt x (Nat.succ_pos M))
def adv(M:Nat)(p:Probe):Probe :=
 if p.more>0 then { p with j:=p.j+1,more:=p.more - 1} else
 { p with j:=(leap M p.i p.perturb).1,more:=runEnd M (leap M p.i p.perturb).1 - (leap M p.i p.perturb).1,i:=(leap M p.i p.perturb).1,perturb:=(leap M p.i p.perturb).2}
def wu(t:SetTable)(p:Probe):t.advance p=adv t.mask p:=by
 unfold SetTable.advance adv;rfl
def st0(M:Nat)(h:Int):Probe:={ j:=bits h % (M+1),more:=runEnd M (bits h % (M+1)) - bits h % (M+1),i:=bits h % (M+1),perturb:=bits h,dummy:=none}
def st(M:Nat)(h:Int):Nat->Probe
 | 0=>st0 M h
 | n+1=>adv M (st M h n)
def sl(M:Nat)(h:Int)(n:Nat):Nat:=(st M h n).j
def fA(M i:Nat)(h:i<=M):i<=runEnd M i/\runEnd M i<=M/\runEnd M i - i<=9:=by
 unfold runEnd;split <;> lia
def yD(M:Nat)(h:Int)(n:Nat):(st M h n).i<=M/\(st M h n).j+(st M h n).more=runEnd M (st M h n).i/\(st M h n).dummy=none:=by
 induction n with
 | zero =>
  have hi:bits h % (M+1)<=M:=nh _ _
  have:=fA M _ hi
  refine⟨hi,?_,rfl⟩;show bits h % (M+1)+(runEnd M (bits h % (M+1)) - bits h % (M+1))=runEnd M (bits h % (M+1));lia
 | succ n ih =>
  show (adv M (st M h n)).i<=M/\(adv M (st M h n)).j+(adv M (st M h n)).more=runEnd M (adv M (st M h n)).i/\(adv M (st M h n)).dummy=none;unfold adv;split
  ·refine⟨ih.1,?_,ih.2.2⟩
   have:=ih.2.1
   show (st M h n).j+1+((st M h n).more - 1)=runEnd M (st M h n).i;lia
  ·have hi:(leap M (st M h n).i (st M h n).perturb).1<=M:=nh _ _
   have:=fA M _ hi
   refine⟨hi,?_,ih.2.2⟩;show (leap M (st M h n).i (st M h n).perturb).1+(runEnd M (leap M (st M h n).i (st M h n).perturb).1 - (leap M (st M h n).i (st M h n).perturb).1)=runEnd M (leap M (st M h n).i (st M h n).perturb).1;lia
def sl_le(M:Nat)(h:Int)(n:Nat):sl M h n<=M:=by
 have:=yD M h n
 have h2:=fA M _ this.1;unfold sl;lia
def base(M:Nat)(h:Int):Nat->Nat × Nat
 | 0=>(bits h % (M+1),bits h)
 | b+1=>leap M (base M h b).1 (base M h b).2
def oO(M:Nat)(h:Int)(b:Nat):(base M h b).1<=M:=by
 cases b with
 | zero=>exact nh _ _
 | succ b =>
  exact nh _ _
def tb(M:Nat)(h:Int):Nat->Nat
 | 0=>0
 | b+1=>tb M h b+(runEnd M (base M h b).1 - (base M h b).1)+1
def tb_le(M:Nat)(h:Int)(b:Nat):tb M h b<=10 * b:=by
 induction b with
 | zero=>exact qag _
 | succ b ih =>
  have:=fA M _ (oO M h b)
  show tb M h b+(runEnd M (base M h b).1 - (base M h b).1)+1<=10 * (b+1);lia
def stB(M:Nat)(h:Int)(b k:Nat):Probe :=
 { j:=(base M h b).1+k,more:=runEnd M (base M h b).1 - (base M h b).1 - k,i:=(base M h b).1,perturb:=(base M h b).2,dummy:=none}
def rV(M:Nat)(h:Int)(b:Nat):∀k,k<=runEnd M (base M h b).1 - (base M h b).1->st M h (tb M h b+k)=stB M h b k:=by
 induction b with
 | zero =>
  intro k
  induction k with
  | zero=>intro _;rfl
  | succ k ih =>
   intro hk;show adv M (st M h (tb M h 0+k))=_;rw[ih (by lia)];unfold adv stB
   have:runEnd M (base M h 0).1 - (base M h 0).1 - k>0:=by lia
   simp only[this,if_true];simp only[Probe.mk.injEq,and_true];lia
 | succ b ihb =>
  intro k
  induction k with
  | zero =>
   intro _;show adv M (st M h (tb M h b+(runEnd M (base M h b).1 - (base M h b).1)))=_;rw[ihb _ (qag _)];unfold adv stB;simp;exact⟨rfl,rfl,rfl,rfl⟩
  | succ k ih =>
   intro hk;show adv M (st M h (tb M h (b+1)+k))=_;rw[ih (by lia)];unfold adv stB
   have:runEnd M (base M h (b+1)).1 - (base M h (b+1)).1 - k>0:=by lia
   simp only[this,if_true];simp only[Probe.mk.injEq,and_true];lia
def bits_lt(h:Int):bits h<2 ^ 64:=by
 unfold bits;have h1:0<=h % (2^64:Int):=qcW _ (by decide);have h2:h % (2^64:Int)<2^64:=qcB _ (by decide);lia
def xT(M:Nat)(h:Int):∀b,(base M h b).2=bits h / 32 ^ b:=by
 intro b
 induction b with
 | zero=>simp[base]
 | succ b ih =>
  show (base M h b).2 / 32=_;rw[ih,Nat.div_div_eq_div_mul,Nat.pow_succ]
def wM(M:Nat)(h:Int)(b:Nat)(hb:13<=b):(base M h b).2=0:=by
 rw[xT];apply Nat.div_eq_of_lt;have h1:=bits_lt h;have h2:32 ^ 13<=32 ^ b:=Nat.pow_le_pow_right (by decide) hb;have h3:(2:Nat)^64<32^13:=by decide
 lia
def lcg(M:Nat):Nat->Nat->Nat
 | 0,x=>x
 | n+1,x=>(lcg M n x * 5+1) % (M+1)
def Aj(M:Nat)(h:Int)(n:Nat):(base M h (13+n)).1=lcg M n (base M h 13).1:=by
 induction n with
 | zero=>rfl
 | succ n ih =>
  show ((base M h (13+n)).1 * 5+1+(base M h (13+n)).2 / 32) % (M+1)=(lcg M n (base M h 13).1 * 5+1) % (M+1);rw[ih,wM M h (13+n) (by lia)]
def ly(M:Nat)(a b x:Nat):lcg M (a+b) x=lcg M a (lcg M b x):=by
 induction a with
 | zero=>simp[lcg]
 | succ a ih=>rw[Nat.succ_add];show (lcg M (a+b) x * 5+1) % (M+1)=(lcg M a (lcg M b x) * 5+1) % (M+1);rw[ih]
def orb(M:Nat):Nat->Nat->List Nat
 | 0,_=>[]
 | n+1,x=>x::orb M n ((x * 5+1) % (M+1))
def zF(M n x:Nat):lcg M n ((x * 5+1) % (M+1))=lcg M (n+1) x:=by
 have:=ly M n 1 x
 rw[this];rfl
def uZ(M:Nat)(s:Nat):∀n x,s∈orb M n x->∃m,m<n/\lcg M m x=s:=by
 intro n
 induction n with
 | zero=>intro x h;cases h
 | succ n ih =>
  intro x h
  cases h with
  | head=>exact⟨0,by lia,rfl⟩
  | tail _ h =>
   obtain⟨m,hm,e⟩:=ih _ h;exact⟨m+1,by lia,by rw[<-e,zF]⟩
def eZ(M:Nat):Prop:=lcg M (M+1) 0=0/\∀s,s<=M->s∈orb M (M+1) 0
set_option maxRecDepth 100000 in
theorem full7:eZ 7:=⟨by decide,by
 have:∀s:Fin 8,(orb 7 8 0).contains s.val=true:=by decide
 intro s hs;have:=this ⟨s,by lia⟩;simpa using this⟩
set_option maxRecDepth 100000 in
theorem full31:eZ 31:=⟨by decide,by
 have:(List.range 32).all (fun s=>(orb 31 32 0).contains s)=true:=by decide
 intro s hs;have h2:=qbH.mp this s (by simp;lia)
 simpa using h2⟩
set_option maxRecDepth 100000 in
theorem full127:eZ 127:=⟨by decide,by
 have:(List.range 128).all (fun s=>(orb 127 128 0).contains s)=true:=by decide
 intro s hs;have h2:=qbH.mp this s (by simp;lia)
 simpa using h2⟩
def xH(M:Nat)(hf:eZ M)(x s:Nat)(hx:x<=M)(hs:s<=M):∃m,m<=2 * M+1/\m<=M/\lcg M m x=s:=by
 obtain⟨a,ha,ea⟩:=uZ M x _ _ (hf.2 x hx);obtain⟨b,hb,eb⟩:=uZ M s _ _ (hf.2 s hs);by_cases h:a<=b
 ·refine⟨b - a,by lia,by lia,?_⟩;rw[<-ea,<-ly,Nat.sub_add_cancel h];exact eb
 ·refine⟨M+1 - a+b,by lia,by lia,?_⟩;rw[<-ea,<-ly]
  have:M+1 - a+b+a=b+(M+1):=by lia
  rw[this,ly,hf.1];exact eb
def nR(M:Nat)(hf:eZ M)(h:Int)(s:Nat)(hs:s<=M):∃b,b<=M+13/\(base M h b).1=s:=by
 obtain⟨m,_,hm,e⟩:=xH M hf (base M h 13).1 s (oO M h 13) hs;exact⟨13+m,by lia,by rw[Aj];exact e⟩
def Ab(M:Nat)(hf:eZ M)(h:Int)(s:Nat)(hs:s<=M):∃n,n<=10 * (M+13)/\sl M h n=s:=by
 obtain⟨b,hb,e⟩:=nR M hf h s hs;refine⟨tb M h b,?_,?_⟩
 ·have:=tb_le M h b;lia
 ·have:=rV M h b 0 (by lia)
  unfold sl;rw[Nat.add_zero] at this;rw[this];show (base M h b).1+0=s;lia
structure WF (M:Nat) (pl:Array Nat) (hs:Array Int):Prop where
 rise:d7 pl
 bound:∀i v:Nat,pl[i]?=some v->v<=M
 size:pl.size=hs.size
 reach:∀(i:Nat) (h:Int) (v:Nat),hs[i]?=some h->pl[i]?=some v->∃n,sl M h n=v/\∀m,m<n->Occ pl (sl M h m)
def df{α:Type}{xs:Array α}{i:Nat}{v:α}(h:xs[i]?=some v):i<xs.size:=by
 by_cases h6:i<xs.size
 ·exact h6
 ·rw[qbF (by lia)] at h;cases h
def dD{α:Type}(xs:Array α)(i:Nat)(h:i<xs.size):∃v,xs[i]?=some v:=⟨_,qbm h⟩
def yY(pl:Array Nat)(hr:d7 pl)(M:Nat)(h:∀s,s<=M->Occ pl s):∀s i:Nat,s<=M->pl[i]?=some s->s<=i:=by
 intro s
 induction s with
 | zero=>intro i _ _;lia
 | succ s ih =>
  intro i hs hi;obtain⟨k,hk⟩:=h s (by lia);have h1:=ih k (by lia) hk;by_cases h2:k<i
  ·lia
  ·by_cases h3:k=i
   ·subst h3;rw[hk] at hi;cases hi
   ·have:=hr i k (s+1) s (by lia) hi hk;lia
def yB(pl:Array Nat)(hr:d7 pl)(M:Nat)(hsz:pl.size<=M):∃s,s<=M/\¬Occ pl s:=by
 apply Classical.byContradiction;intro hno;have hall:∀s,s<=M->Occ pl s:=by
  intro s hs;apply Classical.byContradiction;intro h;exact hno ⟨s,hs,h⟩
 obtain⟨i,hi⟩:=hall M (qag _)
 have:=yY pl hr M hall M i (qag _) hi
 have:=df hi
 lia
def least(P:Nat->Prop):∀n,P n->∃m,m<=n/\P m/\∀k,k<m->¬P k:=by
 intro n
 induction n using Nat.strongRecOn with
 | _ n ih =>
  intro hn;by_cases h:∃k,k<n/\P k
  ·obtain⟨k,hk,hp⟩:=h;obtain⟨m,hm,r⟩:=ih k hk hp;exact⟨m,by lia,r⟩
  ·exact⟨n,qag _,hn,fun k hk hp=>h ⟨k,hk,hp⟩⟩
def wz(pl:Array Nat)(hr:d7 pl)(M:Nat)(hf:eZ M)(hsz:pl.size<=M)(h:Int) :
  ∃n,n<=10 * (M+13)/\¬Occ pl (sl M h n)/\∀m,m<n->Occ pl (sl M h m):=by
 obtain⟨s,hs,hno⟩:=yB pl hr M hsz;obtain⟨n,hn,e⟩:=Ab M hf h s hs;obtain⟨m,hm,hp,hl⟩:=least (fun n=>¬Occ pl (sl M h n)) n (by rw[e];exact hno);exact⟨m,by lia,hp,fun k hk=>Classical.byContradiction (hl k hk)⟩
def zY(t:SetTable)(hd:t.dummies=#[])(hr:d7 t.place)(hashAt:Nat->Int)(h:Int)(n1:Nat)
  (hno:¬Occ t.place (sl t.mask h n1)) (hocc:∀m,m<n1->Occ t.place (sl t.mask h m)) :
  ∀fuel n,n<=n1->n1 - n<fuel ->
   (probe.go t hashAt h fuel (st t.mask h n)=some (.empty (sl t.mask h n1) none) /\
    ∀m i:Nat,n<=m->m<n1->t.place[i]?=some (sl t.mask h m)->hashAt i≠h) \/
   (∃m i:Nat,n<=m/\m<n1/\t.place[i]?=some (sl t.mask h m)/\hashAt i=h /\
    probe.go t hashAt h fuel (st t.mask h n)=some (.candidate (sl t.mask h m) i (st t.mask h (m+1))) /\
    ∀m' i':Nat,n<=m'->m'<m->t.place[i']?=some (sl t.mask h m')->hashAt i'≠h):=by
 intro fuel
 induction fuel with
 | zero=>intro n h1 h2;lia
 | succ f ih =>
  intro n h1 h2;by_cases he:n=n1
  ·subst he;left;refine⟨?_,fun m i h3 h4=>by lia⟩;unfold probe.go;have hsl:=wF t hd _ hno;unfold sl at hsl;simp only[hsl]
   have:=(yD t.mask h n).2.2
   rw[this];rfl
  ·obtain⟨i,hi⟩:=hocc n (by lia);have hsl:=qE t hr i _ hi;have hu:probe.go t hashAt h (f+1) (st t.mask h n)=if hashAt i == h then some (.candidate (sl t.mask h n) i (st t.mask h (n+1))) else probe.go t hashAt h f (st t.mask h (n+1)):=by
    conv=>lhs;unfold probe.go
    unfold sl at hsl;simp only[hsl,wu];rfl
   by_cases hh:hashAt i=h
   ·right;refine⟨n,i,qag _,by lia,hi,hh,?_,fun m' i' h3 h4=>by lia⟩;rw[hu];simp[hh]
   ·have hu2:probe.go t hashAt h (f+1) (st t.mask h n)=probe.go t hashAt h f (st t.mask h (n+1)):=by
     rw[hu];simp[hh]
    rw[hu2];have huniq:∀i':Nat,t.place[i']?=some (sl t.mask h n)->i'=i:=by
     intro i' hi';have a:=gr _ _ _ hr hi;have b:=gr _ _ _ hr hi';lia
    rcases ih (n+1) (by lia) (by lia) with ⟨r1,r2⟩|⟨m,i2,q1,q2,q3,q4,q5,q6⟩
    ·left;refine⟨r1,?_⟩;intro m i' h3 h4 h5;by_cases h6:m=n
     ·subst h6;rw[huniq i' h5];exact hh
     ·exact r2 m i' (by lia) h4 h5
    ·right;refine⟨m,i2,by lia,q2,q3,q4,q5,?_⟩;intro m' i' h3 h4 h5;by_cases h6:m'=n
     ·subst h6;rw[huniq i' h5];exact hh
     ·exact q6 m' i' (by lia) h4 h5
def pf(pl:Array Nat)(p s:Nat)(hp:p<=pl.size)(x:Nat)(h:Occ pl x):Occ (insertAt pl p s) x:=by
 obtain⟨i,hi⟩:=h;by_cases h1:i<p
 ·exact⟨i,by rw[cz _ _ _ hp];simp[h1,hi]⟩
 ·refine⟨i+1,?_⟩;rw[cz _ _ _ hp];have a:¬i+1<p:=by lia
  have b:¬i+1=p:=by lia
  simp[a,b,hi]
def AB(pl:Array Nat)(s:Nat)(hr:d7 pl)(hno:¬Occ pl s):d7 (insertAt pl (below pl s) s):=by
 obtain⟨hp,hlo,hhi⟩:=dH pl s hr;intro a b u v hab ha hb;rw[cz _ _ _ hp] at ha hb;have hne:∀i,pl[i]?≠some s:=fun i hi=>hno ⟨i,hi⟩
 split at ha
 ·rename_i h1
  have hu:=hlo a u ha h1
  split at hb
  ·exact hr a b u v hab ha hb
  ·split at hb
   ·cases hb;exact hu
   ·rename_i h2 h3
    exact hr a (b-1) u v (by lia) ha hb
 ·split at ha
  ·cases ha
   rename_i h1 h2
   have e1:¬b<below pl s:=by lia
   have e2:¬b=below pl s:=by lia
   simp only[e1,e2,if_false] at hb
   have:=hhi (b-1) v hb (by lia)
   have h4:v≠s:=fun e=>hne (b-1) (by rw[hb,e]);lia
  ·rename_i h1 h2
   have e1:¬b<below pl s:=by lia
   have e2:¬b=below pl s:=by lia
   simp only[e1,e2,if_false] at hb;exact hr (a-1) (b-1) u v (by lia) ha hb
def wf_put(M:Nat)(pl:Array Nat)(hs:Array Int)(w:WF M pl hs)(h:Int)(n:Nat)(hno:¬Occ pl (sl M h n))
  (hocc:∀m,m<n->Occ pl (sl M h m)) :
  WF M (insertAt pl (below pl (sl M h n)) (sl M h n)) (insertAt hs (below pl (sl M h n)) h):=by
 have hp:=(dH pl (sl M h n) w.rise).1;have hp2:below pl (sl M h n)<=hs.size:=by have:=w.size;lia
 refine⟨AB pl _ w.rise hno,?_,?_,?_⟩
 ·intro i v hi;rw[cz _ _ _ hp] at hi
  split at hi
  ·exact w.bound _ _ hi
  ·split at hi
   ·cases hi;exact sl_le M h n
   ·exact w.bound _ _ hi
 ·rw[db _ _ _ hp,db _ _ _ hp2,w.size]
 ·intro i h' v hh hv;rw[cz _ _ _ hp] at hv;rw[cz _ _ _ hp2] at hh
  split at hv
  ·rename_i h1
   simp only[h1,if_true] at hh;obtain⟨k,e,r⟩:=w.reach i h' v hh hv;exact⟨k,e,fun m hm=>pf _ _ _ hp _ (r m hm)⟩
  ·rename_i h1
   split at hv
   ·rename_i h2
    simp only[h2,if_true] at hh;cases hv;simp at hh;cases hh;exact⟨n,rfl,fun m hm=>pf _ _ _ hp _ (hocc m hm)⟩
   ·rename_i h2
    simp only[h1,h2,if_false] at hh;obtain⟨k,e,r⟩:=w.reach (i-1) h' v hh hv;exact⟨k,e,fun m hm=>pf _ _ _ hp _ (r m hm)⟩
def fJ(ow:Array (Option Nat))(s:Nat):Prop:=∃i:Nat,ow[s]?=some (some i)
structure LC (M:Nat) (ow:Array (Option Nat)) (k:Nat) (hs:Array Int):Prop where
 size:ow.size=M+1
 own:∀i,i<k->∃j:Nat,ow[j]?=some (some i)
 inj:∀i j j':Nat,ow[j]?=some (some i)->ow[j']?=some (some i)->j=j'
 lt:∀j i:Nat,ow[j]?=some (some i)->i<k
 reach:∀(j i:Nat) (h:Int),ow[j]?=some (some i)->hs[i]?=some h->∃n,sl M h n=j/\∀m,m<n->fJ ow (sl M h m)
def jx(ow:Array (Option Nat))(s:Nat)(hs:s<ow.size):(ow.getD s (some 0)).isNone=true↔¬fJ ow s:=by
 unfold fJ
 have:ow[s]?=some (ow[s]'hs):=qbm hs
 simp only[Array.getD,hs,dite_true,this]
 cases h:ow[s]'hs with
 | none=>simp[h]
 | some v=>simp[h]
def yJ(M:Nat)(hf:eZ M)(ow:Array (Option Nat))(hsz:ow.size=M+1)(h:Int)(s:Nat)(hs:s<=M)(hno:¬fJ ow s) :
  ∀fuel b,M+13<b+fuel->(∀m,m<tb M h b->fJ ow (sl M h m)) ->
   ∃n,layClean.free M ow fuel (base M h b).1 (base M h b).2=some (sl M h n)/\¬fJ ow (sl M h n)/\∀m,m<n->fJ ow (sl M h m):=by
 have tb_mono:∀b c,b<c->tb M h b<tb M h c:=by
  intro b c hbc
  induction c with
  | zero=>lia
  | succ c ih =>
   show tb M h b<tb M h c+(runEnd M (base M h c).1 - (base M h c).1)+1;by_cases e:b=c
   ·subst e;lia
   ·have:=ih (by lia);lia
 intro fuel
 induction fuel with
 | zero =>
  intro b hb hocc;obtain⟨b',hb',e⟩:=nR M hf h s hs;have h1:=tb_mono b' b (by lia);have h2:=hocc _ h1;have h3:=rV M h b' 0 (by lia);rw[Nat.add_zero] at h3;unfold sl at h2;rw[h3] at h2
  have:(stB M h b' 0).j=s:=by show (base M h b').1+0=s;lia
  rw[this] at h2;exact absurd h2 hno
 | succ f ih =>
  intro b hb hocc;have hbl:=oO M h b;have hre:=fA M _ hbl;have hrun:∀k,k<=runEnd M (base M h b).1 - (base M h b).1->sl M h (tb M h b+k)=(base M h b).1+k:=by
   intro k hk;unfold sl;rw[rV M h b k hk];rfl
  unfold layClean.free
  cases hfi:(List.range (runEnd M (base M h b).1+1 - (base M h b).1)).find? fun k=>(ow.getD ((base M h b).1+k) (some 0)).isNone with
  | some k =>
   rw[List.find?_range_eq_some] at hfi;obtain⟨p1,p2,p3⟩:=hfi;have hk:k<runEnd M (base M h b).1+1 - (base M h b).1:=by simpa using p2
   refine⟨tb M h b+k,?_,?_,?_⟩
   ·rw[hrun k (by lia)]
   ·rw[hrun k (by lia)];exact (jx ow _ (by lia)).mp p1
   ·intro m hm;by_cases h1:m<tb M h b
    ·exact hocc m h1
    ·have e:m=tb M h b+(m - tb M h b):=by lia
     rw[e,hrun _ (by lia)];have h2:=p3 (m - tb M h b) (by lia);have h3:=jx ow ((base M h b).1+(m - tb M h b)) (by lia);apply Classical.byContradiction;intro hc;rw[h3.mpr hc] at h2;simp at h2
  | none =>
   rw[List.find?_range_eq_none] at hfi;have hall:∀m,m<tb M h (b+1)->fJ ow (sl M h m):=by
    intro m hm;by_cases h1:m<tb M h b
    ·exact hocc m h1
    ·have hm':m<tb M h b+(runEnd M (base M h b).1 - (base M h b).1)+1:=hm;have e:m=tb M h b+(m - tb M h b):=by lia
     rw[e,hrun _ (by lia)];have h2:=hfi (m - tb M h b) (by lia);have h3:=jx ow ((base M h b).1+(m - tb M h b)) (by lia);apply Classical.byContradiction;intro hc;rw[h3.mpr hc] at h2;simp at h2
   exact ih (b+1) (by lia) hall
def lc_free(M:Nat)(ow:Array (Option Nat))(k:Nat)(hs:Array Int)(c:LC M ow k hs)(hk:k<=M):∃s,s<=M/\¬fJ ow s:=by
 apply Classical.byContradiction;intro hno;have hall:∀s,s<=M->fJ ow s:=fun s hs=>Classical.byContradiction (fun h=>hno ⟨s,hs,h⟩);have hget:∀s,s<=M->ow[s]?=some (some ((ow.getD s none).getD 0)):=by
  intro s hs;obtain⟨i,hi⟩:=hall s hs
  have:ow.getD s none=some i:=by
   have hl:=df hi;rw[qbm hl] at hi;simp only[Array.getD,hl,dite_true];exact Option.some.inj hi
  rw[this];exact hi
 have hnd:((List.range (M+1)).map (fun s=>(ow.getD s none).getD 0)).Nodup:=by
  unfold List.Nodup;rw[qca];apply List.Pairwise.imp_of_mem (R:=fun a b=>a≠b) _ qcK;intro a b ha hb hab e;have h1:=hget a (by simp at ha;lia);have h2:=hget b (by simp at hb;lia);rw[<-e] at h2;exact hab (c.inj _ _ _ h1 h2)
 have hsub:((List.range (M+1)).map (fun s=>(ow.getD s none).getD 0)) ⊆ List.range k:=by
  intro x hx;obtain⟨s,hs,e⟩:=qax.mp hx;have h1:=hget s (by simp at hs;lia)
  have:=c.lt _ _ h1
  rw[e] at this;simpa using this
 have:=List.Nodup.length_le_of_subset hnd hsub
 simp at this;lia
def lc_step(M:Nat)(hf:eZ M)(ow:Array (Option Nat))(k:Nat)(hs:Array Int)(c:LC M ow k hs)(hk:k<=M)(h:Int)(hh:hs[k]?=some h) :
  ∃j,layClean.free M ow (turns M) (bits h % (M+1)) (bits h)=some j/\LC M (ow.setIfInBounds j (some k)) (k+1) hs:=by
 obtain⟨s,hs1,hs2⟩:=lc_free M ow k hs c hk;obtain⟨n,e,hno,hocc⟩:=yJ M hf ow c.size h s hs1 hs2 (turns M) 0 (by unfold turns;lia) (by intro m hm;exact absurd hm (Nat.not_lt_zero m));refine⟨sl M h n,e,?_⟩;have hj:=sl_le M h n;have hjs:sl M h n<ow.size:=by have:=c.size;lia
 have hget:∀s:Nat,(ow.setIfInBounds (sl M h n) (some k))[s]?=if s=sl M h n then some (some k) else ow[s]?:=by
  intro s;rw[qbW];by_cases e:sl M h n=s
  ·subst e;simp[hjs]
  ·have e2:¬s=sl M h n:=fun x=>e x.symm;simp[e,e2]
 have hmono:∀s,fJ ow s->fJ (ow.setIfInBounds (sl M h n) (some k)) s:=by
  intro s ⟨i,hi⟩;by_cases e:s=sl M h n
  ·exact⟨k,by rw[hget];simp[e]⟩
  ·exact⟨i,by rw[hget];simp[e,hi]⟩
 refine⟨by simp[c.size],?_,?_,?_,?_⟩
 ·intro i hi;by_cases e:i=k
  ·subst e;exact⟨sl M h n,by rw[hget];simp⟩
  ·obtain⟨j,hj⟩:=c.own i (by lia);refine⟨j,?_⟩;rw[hget]
   have:¬j=sl M h n:=fun e=>hno ⟨i,by rw[<-e];exact hj⟩
   simp[this,hj]
 ·intro i j j' h1 h2;rw[hget] at h1 h2;by_cases e1:j=sl M h n <;> by_cases e2:j'=sl M h n
  ·rw[e1,e2]
  ·simp[e1] at h1;simp[e2] at h2
   have:=c.lt _ _ h2;lia
  ·simp[e1] at h1;simp[e2] at h2
   have:=c.lt _ _ h1;lia
  ·simp[e1] at h1;simp[e2] at h2;exact c.inj _ _ _ h1 h2
 ·intro j i h1;rw[hget] at h1;by_cases e1:j=sl M h n
  ·simp[e1] at h1;lia
  ·simp[e1] at h1;have:=c.lt _ _ h1;lia
 ·intro j i h' h1 h2;rw[hget] at h1;by_cases e1:j=sl M h n
  ·simp[e1] at h1;subst h1;rw[hh] at h2;cases h2;exact⟨n,e1.symm,fun m hm=>hmono _ (hocc m hm)⟩
  ·simp[e1] at h1;obtain⟨n',e',r⟩:=c.reach _ _ _ h1 h2;exact⟨n',e',fun m hm=>hmono _ (r m hm)⟩
def lc_nil(M:Nat)(hs:Array Int):LC M (Array.replicate (M+1) none) 0 hs:=by
 have hget:∀(s i:Nat),(Array.replicate (M+1) (none:Option Nat))[s]?≠some (some i):=by
  intro s i h;rw[Array.getElem?_replicate] at h
  split at h <;> cases h
 exact⟨by simp,fun i hi=>by lia,fun i j j' h=>absurd h (hget _ _),fun j i h=>absurd h (hget _ _),fun j i h h1=>absurd h1 (hget _ _)⟩
def qZ(M:Nat)(hf:eZ M)(hs:Array Int)(hsz:hs.size<=M):∀(l:List Int) (ow:Array (Option Nat)) (k:Nat),
  LC M ow k hs->(∀q:Nat,l[q]?=hs[k+q]?)->k<=hs.size ->
  ∃ow',(l.foldl (init:=some (ow,k)) fun acc h=>do
   let (owner,k) <-acc
   let j <-layClean.free M owner (turns M) (bits h % (M+1)) (bits h)
   pure (owner.setIfInBounds j (some k),k+1))=some (ow',hs.size)/\LC M ow' hs.size hs:=by
 intro l
 induction l with
 | nil =>
  intro ow k c hl hk
  have:=hl 0
  simp at this;have hk2:k=hs.size:=by lia
  subst hk2;exact⟨ow,rfl,c⟩
 | cons h l ih =>
  intro ow k c hl hk;have h0:=hl 0;simp at h0;have hlt:=df h0.symm;obtain⟨j,e,c'⟩:=lc_step M hf ow k hs c (by lia) h h0.symm
  obtain⟨ow',e2,c2⟩:=ih (ow.setIfInBounds j (some k)) (k+1) c' (by
   intro q
   have:=hl (q+1)
   simp at this;rw[this]
   congr 1;lia) (by lia)
  refine⟨ow',?_,c2⟩;rw[<-e2];rw[qcw];congr 1;simp[e]
def uL(M:Nat)(hf:eZ M)(hs:Array Int)(hsz:hs.size<=M):∃ow,layClean M hs=some ow/\LC M ow hs.size hs:=by
 obtain⟨ow,e,c⟩:=qZ M hf hs hsz hs.toList _ 0 (lc_nil M hs) (by intro q;simp) (by lia);refine⟨ow,?_,c⟩;unfold layClean;rw[<-Array.foldl_toList];rw[e];rfl
def rise_of{L:List Nat}(h:L.Pairwise (·<·)):d7 L.toArray:=by
 intro a b u v hab ha hb;simp at ha hb;obtain⟨ha1,ha2⟩:=qae.mp ha;obtain⟨hb1,hb2⟩:=qae.mp hb;rw[<-ha2,<-hb2];exact qbv.mp h a b ha1 hb1 hab
def dS{α β:Type}(f:α->Option β):∀(l:List α),(∀x,x∈l->∃v,f x=some v)->∀q:Nat,(l.filterMap f)[q]?=l[q]?.bind f:=by
 intro l
 induction l with
 | nil=>intro _ q;simp
 | cons x l ih =>
  intro h q;obtain⟨v,hv⟩:=h x (by simp);rw[qbE,hv]
  cases q with
  | zero=>simp[hv]
  | succ q=>simp;exact ih (fun y hy=>h y (by simp[hy])) q
def dJ{α:Type}(es:Array α):(List.range es.size).filterMap (es[·]?)=es.toList:=by
 apply qbu;intro q;rw[dS _ _ (by intro x hx;exact dD es x (by simpa using hx))];by_cases h:q<es.size
 ·rw[qch h];simp
 ·rw[qaN (by simp;lia)];simp;lia
def laid_ok{α:Type}(M:Nat)(hf:eZ M)(hsh:α->Int)(es:Array α)(hsz:es.size<=M)(fin mv:Nat)(led pln:Bool) :
  ∃pl order,laid M fin mv led pln (es.map hsh)=some ({ mask:=M,place:=pl,dummies:=#[],finger:=fin,led:=led,moves:=mv,plain:=pln},order) /\
   WF M pl ((order.filterMap (es[·]?)).map hsh)/\(order.filterMap (es[·]?)).size=es.size/\(order.filterMap (es[·]?)).toList.Perm es.toList /\
   order.toList.Perm (List.range es.size):=by
 obtain⟨ow,e,c⟩:=uL M hf (es.map hsh) (by simpa using hsz);have hn:(es.map hsh).size=es.size:=by simp
 rw[hn] at c
 let f:Nat->Option (Nat × Nat):=fun j=>(ow.getD j none).map (j,·)
 let live:=(List.range (M+1)).filterMap f
 have hf1:∀j b,f j=some b↔(b.1=j/\ow[j]?=some (some b.2)):=by
  intro j b;show (ow.getD j none).map (j,·)=some b↔_;by_cases hj:j<ow.size
  ·have:ow[j]?=some (ow[j]'hj):=qbm hj
   simp only[Array.getD,hj,dite_true,this]
   cases h:ow[j]'hj with
   | none=>simp[h]
   | some v =>
    simp[h];constructor
    ·intro e;subst e;simp
    ·rintro⟨e1,e2⟩;cases b;simp_all
  ·simp[Array.getD,hj]
 have hmem:∀b:Nat × Nat,b∈live↔ow[b.1]?=some (some b.2):=by
  intro b;show b∈(List.range (M+1)).filterMap f↔_;rw[qbr];constructor
  ·rintro⟨j,_,hj⟩;obtain⟨e1,e2⟩:=(hf1 j b).mp hj;rw[e1];exact e2
  ·intro h;refine⟨b.1,?_,(hf1 b.1 b).mpr ⟨rfl,h⟩⟩
   have:=df h
   have:=c.size
   simp;lia
 have hpw:live.Pairwise (fun a b=>a.1<b.1):=by
  show ((List.range (M+1)).filterMap f).Pairwise _;rw[qcl];apply List.Pairwise.imp _ (qco (n:=M+1));intro a b hab x hx y hy;rw[((hf1 _ _).mp hx).1,((hf1 _ _).mp hy).1];exact hab
 have hnd:(live.map (·.2)).Nodup:=by
  unfold List.Nodup;rw[qca];apply List.Pairwise.imp_of_mem _ hpw;intro a b ha hb hab e;have h1:=(hmem a).mp ha;have h2:=(hmem b).mp hb;have e':a.2=b.2:=e;rw[<-e'] at h2
  have:=c.inj _ _ _ h1 h2
  lia
 have hperm:(live.map (·.2)).Perm (List.range es.size):=by
  rw[List.perm_ext_iff_of_nodup hnd qcK];intro i;rw[qax];constructor
  ·rintro⟨b,hb,e⟩
   have:=c.lt _ _ ((hmem b).mp hb)
   rw[e] at this;simpa using this
  ·intro hi;obtain⟨j,hj⟩:=c.own i (by simpa using hi);exact⟨(j,i),(hmem (j,i)).mpr hj,rfl⟩
 have hes:((live.map (·.2)).filterMap (es[·]?)).Perm es.toList:=by
  have:=hperm.filterMap (es[·]?)
  rw[dJ] at this;exact this
 have htl:((live.map (·.2)).toArray.filterMap (es[·]?)).toList=(live.map (·.2)).filterMap (es[·]?):=by simp
 have hsome:∀x,x∈live.map (·.2)->∃v,es[x]?=some v:=by
  intro x hx
  have:=hperm.mem_iff.mp hx
  exact dD es x (by simpa using this)
 refine⟨(live.map (·.1)).toArray,(live.map (·.2)).toArray,?_,?_,?_,?_,?_⟩
 ·unfold laid;rw[e];rfl
 ·refine⟨rise_of (by rw[qca];exact hpw),?_,?_,?_⟩
  ·intro i v hi;simp at hi;obtain⟨b,hb⟩:=hi;have h1:=(hmem _).mp (qaI hb);have h2:=df h1
   have:=c.size
   have h3:v<ow.size:=h2;lia
  ·have h1:=hes.length_eq;have h2:(((live.map (·.2)).toArray.filterMap (es[·]?)).map hsh).size=((live.map (·.2)).filterMap (es[·]?)).length:=by
    rw[Array.size_map,<-qaz,htl]
   rw[h2,h1]
   have:=hperm.length_eq
   simp at this ⊢;exact this
  ·intro i h v hh hv;simp at hv;obtain⟨b,hb⟩:=hv;have h1:=(hmem _).mp (qaI hb);have h3:((live.map (·.2)).toArray.filterMap (es[·]?))[i]?=es[b]?:=by
    rw[<-qaw,htl,dS _ _ hsome];simp[hb]
   rw[Array.getElem?_map,h3] at hh;obtain⟨n,en,r⟩:=c.reach v b h h1 (by rw[Array.getElem?_map];exact hh);refine⟨n,en,?_⟩;intro m hm;obtain⟨i',hi'⟩:=r m hm;have h5:=(hmem (sl M h m,i')).mpr hi';have h6:sl M h m∈live.map (·.1):=qax.mpr ⟨_,h5,rfl⟩;obtain⟨q,hq⟩:=qaB.mp h6;exact⟨q,by simpa using hq⟩
 ·rw[<-qaz,htl,hes.length_eq];simp
 ·rw[htl];exact hes
 ·exact hperm
section
variable {prog:Program} {w:World} {A:Around} {E:Value→Shared→Prop} {s:Shared}
abbrev TK(prog:Program)(w:World)(h:Heap)(k:List Int)(a:Addr):Prop:=IsTupleKey (intKind prog w) h k a
abbrev TH(prog:Program)(w:World)(k:List Int):Int:=tupleKeyHash (intKind prog w) k
def ItemsAre.ints(h:ItemsAre (intKind prog w) ks vs):∀v∈vs,∃i t,v=.int i t:=by
 induction h with
 | nil=>intro v hv;cases hv
 | @cons k v ks vs h1 _ ih =>
  intro u hu
  cases hu with
  | head =>
   cases v with
   | int i t=>exact⟨i,t,rfl⟩
   | _=>simp[intKind,Value.isInt] at h1
  | tail _ hu=>exact ih u hu
def iW(hk:TK prog w s.heap ks a)(h:Q true s):wpAny (model prog w) A (hashByValue 8 (.ref a)) Q E s:=by
 have hT:=hk.typeIs;obtain⟨o,items,n,ho,_,hd,hi⟩:=hk;unfold hashByValue;refine qaa (wpAny_specialOf hT F.slot_tuple_hash.lookup ?_);dsimp only;refine qaa (wpAny_seqItems ho hd ?_);refine qaa ?_;show wpAny _ _ (forIn items _ _) _ _ s;rw[<-Array.forIn_toList];refine wpAny_forIn_list _ (fun rest r s'=>r.1=none/\s'=s/\∀v∈rest,∃i t,v=Value.int i t) _ ?_ ?_ _ _ ⟨rfl,rfl,ItemsAre.ints hi⟩
 ·rintro v rest r s' ⟨hr,rfl,hall⟩;obtain⟨i,t,rfl⟩:=hall v qaL
  have:hashByValue 7 (.int i t)=pure true:=by unfold hashByValue;rfl
  rw[this];refine qaa (qah ?_);simp only[qaS,qac,if_false];exact qah ⟨rfl,rfl,fun u hu'=>hall u (qai _ hu')⟩
 ·rintro⟨r1,r2⟩ s' ⟨hr,rfl,_⟩;simp only at hr;subst hr;exact qah h
def fy(hk:TK prog w s.heap ks a)(h:Q false s):wpAny (model prog w) A (ofAClassStatement 8 (.ref a)) Q E s:=by
 have hT:=hk.typeIs;obtain⟨o,items,n,ho,_,hd,hi⟩:=hk;unfold ofAClassStatement;refine qaa (wpAny_typeOf hT ?_);dsimp only;refine qaa ?_;show wpAny _ _ (pure true) _ _ s;refine qah ?_;simp only[qaS,qac,if_false];refine qaa (wpAny_seqItems ho hd ?_);dsimp only;refine qaa ?_;show wpAny _ _ (forIn items _ _) _ _ s;rw[<-Array.forIn_toList];refine wpAny_forIn_list _ (fun rest r s'=>r.1=none/\s'=s/\∀v∈rest,∃i t,v=Value.int i t) _ ?_ ?_ _ _ ⟨rfl,rfl,ItemsAre.ints hi⟩
 ·rintro v rest r s' ⟨hr,rfl,hall⟩;obtain⟨i,t,rfl⟩:=hall v qaL
  have:ofAClassStatement 7 (.int i t)=pure false:=by unfold ofAClassStatement;rfl
  rw[this];refine qaa (qah ?_);simp only[qac,if_false];exact qah ⟨rfl,rfl,fun u hu'=>hall u (qai _ hu')⟩
 ·rintro⟨r1,r2⟩ s' ⟨hr,rfl,_⟩;simp only at hr;subst hr;exact qah h
def ot{k:List Int}{a:Addr}{stored:List Value}{Q:Bool->Shared->Prop}(hk:TK prog w s.heap k a)(hall:∀v∈stored,∃b k',v=.ref b/\TK prog w s.heap k' b)
  (h:Q false s):wpAny (model prog w) A (searchCouldBeSeen (.ref a) stored) Q E s:=by
 unfold searchCouldBeSeen;refine qaa ?_;refine wpAny_forIn_list _ (fun rest r s'=>r.1=none/\s'=s/\∀v∈rest,∃b k',v=Value.ref b/\TK prog w s.heap k' b) _ ?_ ?_ _ _ ⟨rfl,rfl,hall⟩
 ·rintro v rest r s' ⟨hr,rfl,hall⟩;obtain⟨b,k',rfl,hb⟩:=hall v qaL;have hrest:∀v∈rest,∃b k',v=Value.ref b/\TK prog w s'.heap k' b:=fun u hu'=>hall u (qai _ hu');dsimp only;by_cases hab:(a == b || (carriedByValue (.ref a) && carriedByValue (.ref b)))=true
  ·rw[qaf hab];exact qah ⟨rfl,rfl,hrest⟩
  ·rw[qak hab];refine qaa (wpAny_eqIsQuiet_tuple hk ?_);simp only[qaS,qac,if_false];refine qaa (wpAny_eqIsQuiet_tuple hb ?_);simp only[qaS,qac,if_false];refine qaa (fy hk ?_);simp only[qac,if_false];refine qaa (fy hb ?_);simp only[qac,if_false];exact qah ⟨rfl,rfl,hrest⟩
 ·rintro⟨r1,r2⟩ s' ⟨hr,rfl,_⟩;simp only at hr;subst hr;exact qah h
def fD(prog:Program)(w:World)(P:Addr->Prop)(h:Heap)(es:Array (Int × Value))(ks:List (List Int)):Prop :=
 es.size=ks.length/\∀(i:Nat) (e:Int × Value) (k:List Int),es[i]?=some e->ks[i]?=some k->∃a,e.2=.ref a/\TK prog w h k a/\e.1=TH prog w k/\P a
def fD.at'{P:Addr->Prop}{h:Heap}{es:Array (Int × Value)}{ks:List (List Int)}(x:fD prog w P h es ks){i:Nat}{e:Int × Value}(he:es[i]?=some e) :
  ∃k a,ks[i]?=some k/\e.2=.ref a/\TK prog w h k a/\e.1=TH prog w k:=by
 have hl:=df he
 have:i<ks.length:=by rw[<-x.1];exact hl
 obtain⟨a,r1,r2,r3,_⟩:=x.2 i e ks[i] he (by simp[this]);exact⟨ks[i],a,by simp[this],r1,r2,r3⟩
def fD.key{P:Addr->Prop}{h:Heap}{es:Array (Int × Value)}{ks:List (List Int)}(x:fD prog w P h es ks){i:Nat}{k:List Int}(hk:ks[i]?=some k) :
  ∃e a,es[i]?=some e/\e.2=.ref a/\TK prog w h k a/\e.1=TH prog w k:=by
 have hl:i<es.size:=by rw[x.1];exact (qae.mp hk).1
 obtain⟨e,he⟩:=dD es i hl;obtain⟨a,r1,r2,r3,_⟩:=x.2 i e k he hk;exact⟨e,a,he,r1,r2,r3⟩
def yw{P:Addr->Prop}{S:Addr}{o:Obj}{es:Array (Int × Value)}{ep:Nat}{t:SetTable}{ks:List (List Int)}{k:List Int}{a:Addr}{n1:Nat}{Q:SetFound->Shared->Prop}
  (hu:A.units<cLine) (ho:s.heap.get? S=some o) (hd:o.data=.set es ep t) (hf:t.fits es.size=true) (hdm:t.dummies=#[]) (hodd:t.gaveWay=false)
  (W:WF t.mask t.place (es.map (·.1))) (hes:fD prog w P s.heap es ks) (hk:TK prog w s.heap k a)
  (hno:¬Occ t.place (sl t.mask (TH prog w k) n1)) (hocc:∀m,m<n1->Occ t.place (sl t.mask (TH prog w k) m)) (hn1:n1<10 * turns t.mask)
  (h1:k∈ks->Q (.there none) s) (h2:k∉ks->Q (.free (sl t.mask (TH prog w k) n1) false) s) :
  ∀(fuel n:Nat) (stand:Option Probe),stand.getD (t.probeStart (TH prog w k))=st t.mask (TH prog w k) n->n<=n1->n1 - n<fuel ->
   (∀(m i:Nat),m<n->t.place[i]?=some (sl t.mask (TH prog w k) m)->ks[i]?≠some k) ->
   wpAny (model prog w) A (setSearchFrom S (.ref a) (TH prog w k) true fuel stand) Q E s:=by
 intro fuel
 induction fuel with
 | zero=>intro n stand _ _ h;lia
 | succ f ih =>
  intro n stand hst hn hfu hpast;unfold setSearchFrom;refine qaa (wpAny_setState_of ho hd hf ?_);dsimp only;rw[hodd];simp only[qac,if_false];rw[hst];have hpr:=zY t hdm W.rise (fun i=>(es[i]?.map (·.1)).getD 0) (TH prog w k) n1 hno hocc (10 * turns t.mask) n hn (by lia);have hwhere:∀i:Nat,ks[i]?=some k->∃m,m<n1/\t.place[i]?=some (sl t.mask (TH prog w k) m):=by
   intro i hi;obtain⟨e,b,he,_,_,hh⟩:=hes.key hi;have hl:i<t.place.size:=by
    have:=W.size;simp at this;rw[this];exact df he
   obtain⟨v,hv⟩:=dD t.place i hl;obtain⟨m,em,hm⟩:=W.reach i (TH prog w k) v (by simp[he,hh]) hv;refine⟨m,?_,by rw[em];exact hv⟩;by_cases hlt:m<n1
   ·exact hlt
   ·exfalso;by_cases he2:m=n1
    ·subst he2;exact hno ⟨i,by rw[em];exact hv⟩
    ·exact hno (hm n1 (by lia))
  rcases hpr with ⟨e1,e2⟩|⟨m,i,q1,q2,q3,q4,q5,q6⟩
  ·have e1':t.probe (fun i=>(es[i]?.map (·.1)).getD 0) (TH prog w k) (st t.mask (TH prog w k) n)=some (.empty (sl t.mask (TH prog w k) n1) none):=e1;erw [e1'];dsimp only;refine qah (h2 fun hmem=>?_);obtain⟨i,hi⟩:=qaB.mp hmem;obtain⟨m,hm,hp⟩:=hwhere i hi;by_cases hmn:m<n
   ·exact hpast m i hmn hp hi
   ·obtain⟨e,b,he,_,_,hh⟩:=hes.key hi;exact e2 m i (by lia) hm hp (by simp[he,hh])
  ·have e1':t.probe (fun i=>(es[i]?.map (·.1)).getD 0) (TH prog w k) (st t.mask (TH prog w k) n)=some (.candidate (sl t.mask (TH prog w k) m) i (st t.mask (TH prog w k) (m+1))):=q5;erw [e1'];dsimp only;have hil:i<es.size:=by
    have:=W.size;simp at this;rw[<-this];exact df q3
   obtain⟨e,he⟩:=dD es i hil;obtain⟨k',b,hk',eb,hb,hh⟩:=hes.at' he;obtain⟨eh,ev⟩:=e;simp only at eb hh;subst eb
   have hgo:wpAny (model prog w) A (do
     let some (_,y):=es[i]? | unsupported "internal:set-entry"
     let equal <-holding [y] (eqBool y (.ref a))
     let (es',_,t') <-setState S
     if true && equal then return .there none
     let some same:=t'.sameMemory t.moves t.mask|unsupported "set.changed-during-lookup:is-the-new-block-at-the-old-address"
     let still <-match (if same then t'.slot (sl t.mask (TH prog w k) m) else .empty) with
      | .live i'=>match es'[i']? with
       | some (_,y')=>do pure (if <-isSame y' y then some i' else none)
       | none=>pure none
      | _=>pure none
     match still with
     | none=>rule "set.search.anew";setSearchFrom S (.ref a) (TH prog w k) true f none
     | some i'=>if equal then return .there (some i') else setSearchFrom S (.ref a) (TH prog w k) true f (some (st t.mask (TH prog w k) (m+1)))) Q E s:=by
    rw[he];dsimp only;refine qaa (wpAny_holding (wpAny_eqBool_tuple hu hb hk ?_));refine qaa (wpAny_setState_of ho hd hf ?_);dsimp only;by_cases hkk:k'=k
    ·subst hkk;simp only[decide_true,Bool.and_self,if_true];exact qah (h1 (qaB.mpr ⟨i,hk'⟩))
    ·simp only[hkk,decide_false,qdc,qac,if_false];have hsm:t.sameMemory t.moves t.mask=some true:=by unfold SetTable.sameMemory;simp
     rw[hsm];simp only[if_true];rw[qE t W.rise i _ q3];dsimp only;rw[he];dsimp only;refine qaa (wpAny_isSame_ref_self ?_);simp only[if_true];refine qaa (qah ?_);dsimp only;refine ih (m+1) _ rfl (by lia) (by lia) ?_;intro m' i' hm' hp' hki;by_cases hm2:m'<n
     ·exact hpast m' i' hm2 hp' hki
     ·by_cases hm3:m'<m
      ·obtain⟨e,b,he,_,_,hh⟩:=hes.key hki;exact q6 m' i' (by lia) hm3 hp' (by simp[he,hh])
      ·have:m'=m:=by lia
       subst this;have a1:=gr _ _ _ W.rise q3;have a2:=gr _ _ _ W.rise hp'
       have:i'=i:=by lia
       subst this;rw[hk'] at hki;exact hkk (Option.some.inj hki)
   cases hled:t.led with
   | true =>
    simp only[qaS,qac,if_false];exact hgo
   | false =>
    simp only[qcq,if_true];refine qaa (ot hk ?_ ?_)
    ·intro v hv;obtain⟨e,he',rfl⟩:=qax.mp hv;have he2:e∈es.toList:=by
      have:e∈es.filter (fun x=>x.1 == TH prog w k):=Array.mem_toList_iff.mp he'
      exact Array.mem_toList_iff.mpr (Array.mem_filter.mp this).1
     obtain⟨q,hq⟩:=qaB.mp he2;obtain⟨k2,b2,_,e2,h2,_⟩:=hes.at' (i:=q) (e:=e) (by simpa using hq);exact⟨b2,k2,e2,h2⟩
    ·simp only[qac,if_false];exact hgo
structure TTab (prog:Program) (w:World) (P:Addr->Prop) (h:Heap) (S:Addr) (led:Bool) (o:Obj) (es:Array (Int × Value)) (ep:Nat) (t:SetTable) (ks:List (List Int)):Prop where
 get:h.get? S=some o
 ex:o.ExactSet
 data:o.data=.set es ep t
 dm:t.dummies=#[]
 mask:t.mask=7\/t.mask=31\/t.mask=127
 plain:t.plain=true
 led':t.led=led
 wf:WF t.mask t.place (es.map (·.1))
 ents:fD prog w P h es ks
def jy(t:SetTable)(n:Nat):Prop:=n * 5<t.mask * 3
def dk(prog:Program)(w:World)(P:Addr->Prop)(h:Heap)(S:Addr)(led:Bool)(ks:List (List Int)):Prop :=
 ∃o es ep t ks',TTab prog w P h S led o es ep t ks'/\jy t es.size/\ks'.Perm ks/\ks.Nodup
def vh(h:M=7\/M=31\/M=127):eZ M:=by
 rcases h with h|h | h <;> subst h
 ·exact full7
 ·exact full31
 ·exact full127
def TTab.size{P:Addr->Prop}{h:Heap}{S:Addr}{led:Bool}{o:Obj}{es:Array (Int × Value)}{ep:Nat}{t:SetTable}{ks:List (List Int)}(x:TTab prog w P h S led o es ep t ks):t.place.size=es.size:=by
 have:=x.wf.size;simpa using this
def TTab.fits{P:Addr->Prop}{h:Heap}{S:Addr}{led:Bool}{o:Obj}{es:Array (Int × Value)}{ep:Nat}{t:SetTable}{ks:List (List Int)}(x:TTab prog w P h S led o es ep t ks)(hr:es.size<=t.mask):t.fits es.size=true:=by
 unfold SetTable.fits SetTable.fill
 have:=x.size
 simp[this,x.dm];exact hr
def TTab.odd{P:Addr->Prop}{h:Heap}{S:Addr}{led:Bool}{o:Obj}{es:Array (Int × Value)}{ep:Nat}{t:SetTable}{ks:List (List Int)}(x:TTab prog w P h S led o es ep t ks):t.gaveWay=false:=by
 unfold SetTable.gaveWay;rcases x.mask with h|h | h <;> rw[h] <;> rfl
def tk_same(hs:Heap.SameBut S h h')(ho:h.get? S=some o)(hex:o.ExactSet)(x:TK prog w h k a):TK prog w h' k a:=by
 obtain⟨o',items,n,ho',hc,hd,hi⟩:=x;have hne:a≠S:=by
  rintro rfl;obtain rfl:o'=o:=Option.some.inj (ho'.symm.trans ho);rw[hex.1] at hc;exact absurd hc (by simp)
 exact⟨o',items,n,(hs.2 a hne).trans ho',hc,hd,hi⟩
def pY(hs:Heap.SameBut S h h')(ho:h.get? S=some o)(hex:o.ExactSet)(x:fD prog w P h es ks):fD prog w P h' es ks :=
 ⟨x.1,fun i e k a b=>let ⟨c,d,f,g⟩:=x.2 i e k a b;⟨c,d,tk_same hs ho hex f,g⟩⟩
def qA{h:Heap}{S:Addr}{o:Obj}{es es':Array (Int × Value)}{ep:Nat}{t t':SetTable}(ho:h.get? S=some o)(hd:o.data=.set es ep t) :
  (h.update S (Obj.putSet es' t')).get? S=some { o with data:=.set es' (ep+1) t'}:=by
 have:=qbJ (Obj.putSet es' t') ho (by rw[putSet_of es' t' hd];rfl)
 rw[putSet_of es' t' hd] at this;exact this
def yP(x:fD prog w P h es ks)(order:Array Nat)(hp:order.toList.Perm (List.range es.size)) :
  fD prog w P h (order.filterMap (es[·]?)) (order.toList.filterMap (ks[·]?))/\(order.toList.filterMap (ks[·]?)).Perm ks:=by
 have hlt:∀i,i∈order.toList->i<es.size:=fun i hi=>by simpa using hp.mem_iff.mp hi
 have h1:∀i,i∈order.toList->∃v,es[i]?=some v:=fun i hi=>dD es i (hlt i hi);have h2:∀i,i∈order.toList->∃v,ks[i]?=some v:=fun i hi=>⟨_,qas (by rw[<-x.1];exact hlt i hi)⟩;have e1:(order.filterMap (es[·]?)).toList=order.toList.filterMap (es[·]?):=by simp
 have p2:(order.toList.filterMap (ks[·]?)).Perm ks:=by
  have a:=hp.filterMap (ks[·]?);have b:(List.range es.size).filterMap (ks[·]?)=ks:=by
   have:=dJ ks.toArray
   simp only[qaj,qbp] at this;rw[x.1];exact this
  rw[b] at a;exact a
 have p1:(order.toList.filterMap (es[·]?)).Perm es.toList:=by
  have a:=hp.filterMap (es[·]?);rw[dJ] at a;exact a
 refine⟨⟨?_,?_⟩,p2⟩
 ·rw[<-qaz,e1,p1.length_eq,p2.length_eq,qaz,x.1]
 ·intro i e k he hk;rw[<-qaw,e1,dS _ _ h1] at he;rw[dS _ _ h2] at hk
  cases ho:order.toList[i]? with
  | none=>rw[ho] at he;cases he
  | some q =>
   rw[ho] at he hk;exact x.2 q e k he hk
def grow1:SetTable.sizeAbove (SetTable.grown 5)=32:=by decide
def grow2:SetTable.sizeAbove (SetTable.grown 19)=128:=by decide
def uz{P:Addr->Prop}{S:Addr}{led:Bool}{o:Obj}{es:Array (Int × Value)}{ep:Nat}{t:SetTable}{ks:List (List Int)}{wanted M:Nat}{Q:Unit->Shared->Prop}
  (T:TTab prog w P s.heap S led o es ep t ks) (hfit:es.size<=t.mask) (hM:SetTable.sizeAbove wanted=M+1) (hMM:M=7\/M=31\/M=127) (hroom:es.size * 5<M * 3)
  (h:∀h' o' es' ep' t' ks',Heap.SameBut S s.heap h'->TTab prog w P h' S led o' es' ep' t' ks'->jy t' es'.size->ks'.Perm ks->Q () { s with heap:=h'}) :
  wpAny (model prog w) A (setRelay S wanted) Q E s:=by
 obtain⟨pl,order,e1,w1,z1,p1,p2⟩:=laid_ok M (vh hMM) (fun e:Int × Value=>e.1) es (by lia) t.finger (t.movedTo M) t.led t.plain;have hre:t.relaid (es.map (·.1)) wanted=some ({ mask:=M,place:=pl,dummies:=#[],finger:=t.finger,led:=t.led,moves:=t.movedTo M,plain:=t.plain},order):=by
  unfold SetTable.relaid;rw[hM];exact e1
 unfold setRelay;refine qaa (wpAny_setState_of T.get T.data (T.fits hfit) ?_);dsimp only;have hsz:¬SetTable.sizeAbove wanted>sizeLine:=by
  rw[hM,sizeLine_eq];rcases hMM with h|h | h <;> rw[h] <;> decide
 rw[qak hsz,hre];have hz:es.size<=sizeLine:=by
  rw[sizeLine_eq];rcases hMM with h|h | h <;> lia
 refine qaa (?_:wpAny _ _ (if ((order.filterMap (es[·]?)).size != es.size)=true then _ else _) _ _ _);rw[qak (by simp[z1])];refine qah ?_;dsimp only;refine wpAny_storeSet_of T.get T.data ?_ (by rw[z1];exact hz);have sb:=Heap.SameBut.update s.heap S (Obj.putSet (order.filterMap (es[·]?)) { mask:=M,place:=pl,dummies:=#[],finger:=t.finger,led:=t.led,moves:=t.movedTo M,plain:=t.plain});obtain⟨n1,n2⟩:=yP T.ents order p2;refine h _ _ _ _ _ _ sb ⟨qA T.get T.data,T.ex,rfl,rfl,hMM,T.plain,T.led',w1,pY sb T.get T.ex n1⟩ ?_ n2;unfold jy;rw[z1];exact hroom
def zr(x:fD prog w P h es ks)(hp:p<=es.size)(hk:TK prog w h k a)(hP:P a) :
  fD prog w P h (insertAt es p (TH prog w k,.ref a)) (ks.take p++k::ks.drop p):=by
 have hl:=x.1;refine⟨?_,?_⟩
 ·rw[db _ _ _ hp];simp;lia
 ·intro i e k' he hk';rw[cz _ _ _ hp] at he;by_cases h1:i<p
  ·rw[qaf h1] at he;rw[qam (by simp;lia),qby h1] at hk';exact x.2 i e k' he hk'
  ·rw[qak h1] at he;rw[qaA (by simp;lia)] at hk';have hlen:(ks.take p).length=p:=by simp;lia
   rw[hlen] at hk';by_cases h2:i=p
   ·rw[qaf h2] at he
    have:i - p=0:=by lia
    rw[this] at hk';simp at hk';cases he;subst hk';exact⟨a,rfl,hk,rfl,hP⟩
   ·rw[qak h2] at he;obtain⟨q,hq⟩:∃q,i - p=q+1:=⟨i - p - 1,by lia⟩;rw[hq,qbC,qbX] at hk'
    have:p+q=i - 1:=by lia
    rw[this] at hk';exact x.2 (i - 1) e k' he hk'
def AD(p:Nat)(k:List Int):(ks.take p++k::ks.drop p).Perm (ks++[k]):=by
 have h1:(ks.take p++k::ks.drop p).Perm (k::(ks.take p++ks.drop p)):=qbT;rw[qbq] at h1;exact h1.trans (qcz k ks).symm
def add_wp{P:Addr->Prop}{S a:Addr}{led:Bool}{ks:List (List Int)}{k:List Int}{Q:Bool->Shared->Prop}(hu:A.units<cLine)(T:dk prog w P s.heap S led ks)(hk:TK prog w s.heap k a)(hP:P a)
  (hsz:k∈ks\/ks.length<66)
  (h:∀b h',Heap.SameBut S s.heap h'->dk prog w P h' S led (if k∈ks then ks else ks++[k])->Q b { s with heap:=h'}) :
  wpAny (model prog w) A (setAddHashed S (.ref a) (TH prog w k)) Q E s:=by
 obtain⟨o,es,ep,t,ks',T,hr,hpm,hnd⟩:=T;unfold jy at hr;have hfit:es.size<=t.mask:=by rcases T.mask with e|e | e <;> rw[e] at hr ⊢ <;> lia
 have hf:=T.fits hfit;have hps:t.place.size<=t.mask:=by rw[T.size];exact hfit
 obtain⟨n1,hn1,hno,hocc⟩:=wz t.place T.wf.rise t.mask (vh T.mask) hps (TH prog w k);have hm128:t.mask<=127:=by rcases T.mask with e|e | e <;> lia
 have hlen:es.size=ks.length:=by rw[T.ents.1,hpm.length_eq]
 unfold setAddHashed;refine wpAny_holding ?_;show wpAny _ _ (setAddHashedIn S (.ref a) (TH prog w k) (99999+1)) _ _ _;unfold setAddHashedIn;refine qaa (wpAny_setState_of T.get T.data hf ?_);dsimp only;have hbs:byScan (.ref a) es=false:=rfl;rw[hbs];simp only[qac,if_false];unfold setSearch;refine qaa (yw (n1:=n1) (ks:=ks') hu T.get T.data hf T.dm T.odd T.wf T.ents hk hno hocc (by unfold turns;lia) ?_ ?_ 100000 0 none rfl (qaP _) (by lia) (fun m i hm=>absurd hm (Nat.not_lt_zero m)))
 ·intro hmem;have hmem':k∈ks:=hpm.mem_iff.mp hmem;dsimp only;refine qah ?_
  have:=h false s.heap (Heap.SameBut.refl _ _)
  rw[qaf hmem'] at this;exact this ⟨o,es,ep,t,ks',T,hr,hpm,hnd⟩
 ·intro hmem;have hmem':k∉ks:=fun x=>hmem (hpm.mem_iff.mpr x);have hlt:ks.length<66:=hsz.resolve_left hmem';rw[qak hmem'] at h;dsimp only;refine qaa (wpAny_setState_of T.get T.data hf ?_);dsimp only;have hput:t.put (sl t.mask (TH prog w k) n1)=({ t with place:=insertAt t.place (below t.place (sl t.mask (TH prog w k) n1)) (sl t.mask (TH prog w k) n1)},below t.place (sl t.mask (TH prog w k) n1)):=by
   unfold SetTable.put;simp only[T.dm,vI,qac,if_false]
  rw[hput];dsimp only;rw[qaf T.plain];refine qaa (iW hk ?_);simp only[if_true];have hp:=(dH t.place (sl t.mask (TH prog w k) n1) T.wf.rise).1;have hp2:below t.place (sl t.mask (TH prog w k) n1)<=es.size:=by rw[<-T.size];exact hp
  have hz1:=db es (below t.place (sl t.mask (TH prog w k) n1)) (TH prog w k,.ref a) hp2;refine qaa (wpAny_storeSet_of T.get T.data ?_ (by rw[hz1,sizeLine_eq];lia))
  have sb:=Heap.SameBut.update s.heap S (Obj.putSet (insertAt es (below t.place (sl t.mask (TH prog w k) n1)) (TH prog w k,.ref a))
   { t with place:=insertAt t.place (below t.place (sl t.mask (TH prog w k) n1)) (sl t.mask (TH prog w k) n1)})
  have T2:TTab prog w P (s.heap.update S (Obj.putSet (insertAt es (below t.place (sl t.mask (TH prog w k) n1)) (TH prog w k,.ref a))
    { t with place:=insertAt t.place (below t.place (sl t.mask (TH prog w k) n1)) (sl t.mask (TH prog w k) n1)})) S led
    { o with data:=.set (insertAt es (below t.place (sl t.mask (TH prog w k) n1)) (TH prog w k,.ref a)) (ep+1) { t with place:=insertAt t.place (below t.place (sl t.mask (TH prog w k) n1)) (sl t.mask (TH prog w k) n1)}}
    (insertAt es (below t.place (sl t.mask (TH prog w k) n1)) (TH prog w k,.ref a)) (ep+1)
    { t with place:=insertAt t.place (below t.place (sl t.mask (TH prog w k) n1)) (sl t.mask (TH prog w k) n1)}
    (ks'.take (below t.place (sl t.mask (TH prog w k) n1))++k::ks'.drop (below t.place (sl t.mask (TH prog w k) n1))):=by
   refine⟨qA T.get T.data,T.ex,rfl,T.dm,T.mask,T.plain,T.led',?_,pY sb T.get T.ex (zr T.ents hp2 hk hP)⟩;rw[t5];exact wf_put t.mask t.place (es.map (·.1)) T.wf (TH prog w k) n1 hno hocc
  have hpm2:(ks'.take (below t.place (sl t.mask (TH prog w k) n1))++k::ks'.drop (below t.place (sl t.mask (TH prog w k) n1))).Perm (ks++[k]):=(AD _ k).trans (hpm.append_right [k]);have hnd2:(ks++[k]).Nodup:=by
   rw[qbY];refine⟨hnd,by simp,fun x hx y hy=>?_⟩
   have:y=k:=by simpa using hy
   subst this;rintro rfl;exact hmem' hx
  have hfill:({ t with place:=insertAt t.place (below t.place (sl t.mask (TH prog w k) n1)) (sl t.mask (TH prog w k) n1)}:SetTable).fill=es.size+1:=by
   unfold SetTable.fill;rw[db _ _ _ hp,T.size];simp[T.dm]
  by_cases hfull:({ t with place:=insertAt t.place (below t.place (sl t.mask (TH prog w k) n1)) (sl t.mask (TH prog w k) n1)}:SetTable).tooFull=true
  ·have hfull':(es.size+1) * 5>=t.mask * 3:=by
    unfold SetTable.tooFull at hfull;rw[hfill] at hfull;simpa using hfull
   rw[qaf (by rw[hfull];rfl)];have hcase:(t.mask=7/\es.size=4)\/(t.mask=31/\es.size=18):=by
    rcases T.mask with e|e | e <;> rw[e] at hr hfull' <;> lia
   refine qaa (wpAny_mono (Q:=fun _ s'=>∃h',s'={ s with heap:=h'}/\Heap.SameBut S s.heap h'/\dk prog w P h' S led (ks++[k])) ?_ (fun u s' hq=>?_) fun _ _ x=>x)
   ·rcases hcase with ⟨c1,c2⟩|⟨c1,c2⟩
    ·have e5:es.size+1=5:=by lia
     rw[e5];refine uz (M:=31) (s:={ s with heap:=_}) T2 (by rw[hz1];show es.size+1<=t.mask;lia) grow1 (.inr (.inl rfl)) (by rw[hz1];lia) fun h' o' es' ep' t' ks2 sb2 T3 r3 p3=>?_;exact⟨h',rfl,sb.trans sb2,o',es',ep',t',ks2,T3,r3,p3.trans hpm2,hnd2⟩
    ·have e5:es.size+1=19:=by lia
     rw[e5];refine uz (M:=127) (s:={ s with heap:=_}) T2 (by rw[hz1];show es.size+1<=t.mask;lia) grow2 (.inr (.inr rfl)) (by rw[hz1];lia) fun h' o' es' ep' t' ks2 sb2 T3 r3 p3=>?_;exact⟨h',rfl,sb.trans sb2,o',es',ep',t',ks2,T3,r3,p3.trans hpm2,hnd2⟩
   ·obtain⟨h',rfl,q1,q2⟩:=hq;exact qah (h true h' q1 q2)
  ·have hfull':(es.size+1) * 5<t.mask * 3:=by
    unfold SetTable.tooFull at hfull;rw[hfill] at hfull;simpa using hfull
   rw[qak (by simpa using hfull)];refine qah (h true _ sb ⟨_,_,_,_,_,T2,?_,hpm2,hnd2⟩);unfold jy;rw[hz1];exact hfull'
end
end SetT
namespace SetT
open PySem PySem.SetTable PyProof.Rows
def dQ(acc:List (List Int))(k:List Int):List (List Int):=if k∈acc then acc else acc++[k]
def ded(l:List (List Int)):List (List Int):=l.foldl dQ []
def Ag(l:List (List Int))(k:List Int):ded (l++[k])=dQ (ded l) k:=by
 unfold ded;rw[List.foldl_append];rfl
def yu(acc:List (List Int))(k:List Int):acc.length<=(dQ acc k).length:=by
 unfold dQ;split <;> simp
def zb(l:List (List Int)):∀acc:List (List Int),acc.length<=(l.foldl dQ acc).length:=by
 induction l with
 | nil=>intro acc;exact qag _
 | cons k l ih=>intro acc;exact qaD (yu acc k) (ih _)
def sI(l:List (List Int))(i:Nat):(ded (l.take i)).length<=(ded l).length:=by
 have h:ded l=(l.drop i).foldl dQ (ded (l.take i)):=by
  unfold ded;rw[<-List.foldl_append,qbq]
 rw[h];exact zb _ _
def qQ{l:List (List Int)}{i:Nat}{k:List Int}(h:l[i]?=some k):ded (l.take (i+1))=dQ (ded (l.take i)) k:=by
 rw[qbU,h];exact Ag _ _
def yn(x:List Int)(l:List (List Int)):∀acc:List (List Int),x∈l.foldl dQ acc↔x∈acc\/x∈l:=by
 induction l with
 | nil=>intro acc;simp
 | cons k l ih =>
  intro acc;rw[qcw,ih];unfold dQ;split
  ·rename_i h
   constructor
   ·rintro (h1|h1)
    ·exact .inl h1
    ·exact .inr (qai _ h1)
   ·rintro (h1|h1)
    ·exact .inl h1
    ·rcases qar.mp h1 with rfl|h2
     ·exact .inl h
     ·exact .inr h2
  ·constructor
   ·rintro (h1|h1)
    ·rcases qau.mp h1 with h2|h2
     ·exact .inl h2
     ·have:x=k:=by simpa using h2
      subst this;exact .inr qaL
    ·exact .inr (qai _ h1)
   ·rintro (h1|h1)
    ·exact .inl (qaH _ h1)
    ·rcases qar.mp h1 with rfl|h2
     ·exact .inl (qal _ (by simp))
     ·exact .inr h2
def iO(x:List Int)(l:List (List Int)):x∈ded l↔x∈l:=by
 unfold ded;rw[yn];simp
section
variable {prog:Program} {w:World} {A:Around} {E:Value→Shared→Prop} {s:Shared}
abbrev PB(H0:Heap)(R:Addr->Prop):Addr->Prop:=fun a=>(∃o,H0.get? a=some o)/\R a
def Ext(H0 h:Heap):Prop:=∀b o,H0.get? b=some o->h.get? b=some o
def ko(x:Ext H0 h)(t:TK prog w H0 k a):TK prog w h k a:=by
 obtain⟨o,items,n,ho,r⟩:=t;exact⟨o,items,n,x a o ho,r⟩
def vt{H0 h h':Heap}{RR:Addr->Prop}{S:Addr}{led:Bool}{ks:List (List Int)}(T:dk prog w (PB H0 RR) h S led ks)(hS:∀o,h.get? S=some o->h'.get? S=some o)
  (x:Ext H0 h) (x':Ext H0 h'):dk prog w (PB H0 RR) h' S led ks:=by
 obtain⟨o,es,ep,t,ks',T,r,p,n⟩:=T;refine⟨o,es,ep,t,ks',⟨hS o T.get,T.ex,T.data,T.dm,T.mask,T.plain,T.led',T.wf,T.ents.1,fun i e k a b=>?_⟩,r,p,n⟩;obtain⟨c,d,⟨oc,its,m,hc,q⟩,g,⟨ob,hb⟩,hR⟩:=T.ents.2 i e k a b;have e1:oc=ob:=Option.some.inj (hc.symm.trans (x c ob hb));subst e1;exact⟨c,d,⟨oc,its,m,x' c oc hb,q⟩,g,⟨oc,hb⟩,hR⟩
def Lie(prog:Program)(w:World)(H0:Heap)(items:Array Value)(ks:List (List Int)):Prop :=
 items.size=ks.length/\∀(i:Nat) (v:Value) (k:List Int),items[i]?=some v->ks[i]?=some k->∃a,v=.ref a/\TK prog w H0 k a
def wC{h:Heap}{S:Addr}{led:Bool}{P:Addr->Prop}{o:Obj}(ho:h.get? S=some o)(hex:o.ExactSet)(hd:o.data=.set #[] 0 (.fresh 0 0 led)):dk prog w P h S led []:=by
 refine⟨o,#[],0,.fresh 0 0 led,[],⟨ho,hex,hd,rfl,.inl rfl,rfl,rfl,⟨?_,?_,by simp[SetTable.fresh],?_⟩,rfl,?_⟩,?_,List.Perm.nil,qdd⟩
 ·intro a b u v _ h1;simp[SetTable.fresh] at h1
 ·intro i v h1;simp[SetTable.fresh] at h1
 ·intro i hh v h1;simp at h1
 ·intro i e k h1;simp at h1
 ·show 0 * 5<7 * 3;decide
def uG{RR:Addr->Prop}{R:Result->Shared->Prop}{I:Addr}{fp wr:List Addr}{G:Array GenState->Array GenState->Prop}{n:Nat}{P:Nat->Value->Prop}{St:Nat->Shared->Prop}
  (hu:A.units+1<cLine) (W:WalksS prog w A.in1 I fp wr G n P St) (S:Addr) (hSf:S∉fp) {H0:Heap} (h0S:H0.get? S=none) (h0w:∀b∈wr,H0.get? b=none) {led:Bool} (ks:List (List Int)) (hn:ks.length=n)
  (hval:∀i v k,P i v->ks[i]?=some k->∃a,v=.ref a/\TK prog w H0 k a/\RR a) (h66:(ded ks).length<=66) :
  ∀(c i:Nat) (s:Shared),n - i=c->i<=n->St i s->Ext H0 s.heap->dk prog w (PB H0 RR) s.heap S led (ded (ks.take i)) ->
   (∀s',Moved (S::wr) G s s'->Ext H0 s'.heap->dk prog w (PB H0 RR) s'.heap S led (ded ks)->R (.ok (.ret .none)) s') ->
   codeAny (model prog w) A (.builtin "set.update.loop" ⟨[.ref S,.ref I],[]⟩) R s:=by
 have hSw:S∉wr:=fun h=>hSf (W.sub _ h);have hsub:∀b∈wr,b∈S::wr:=fun b hb=>qai _ hb;have extM:∀{s s':Shared},Moved wr G s s'->Ext H0 s.heap->Ext H0 s'.heap:=fun {s s'} hm x b o e =>
  hm.heap b o (fun hb=>by rw[h0w b hb] at e;cases e) (x b o e)
 intro c
 induction c with
 | zero =>
  intro i s hc hi hst hx hT hRR;have e:i=n:=by lia
  subst e;refine codeAny_builtin F.entry_set_update_loop ?_;rw[Around.under_plainId F.plain_set_update_loop _];show wpAny _ A.in1 (pyNext (.ref I) >>= _) _ _ s;refine qaa (W.done s _ _ hst fun s' hm=>?_);show wpAny _ A.in1 (ret Value.none) _ _ s';rw[<-hn,qcr] at hT;exact qah (hRR s' (hm.mono hsub) (extM hm hx) (vt hT (fun o e=>hm.heap S o hSw e) hx (extM hm hx)))
 | succ c ih =>
  intro i s hc hi hst hx hT hRR;have hlt:i<n:=by lia
  refine codeAny_builtin F.entry_set_update_loop ?_;rw[Around.under_plainId F.plain_set_update_loop _];show wpAny _ A.in1 (pyNext (.ref I) >>= _) _ _ s;refine qaa (W.item i s _ _ hlt hst fun v s' hP hst' hm=>?_);obtain⟨k,hk⟩:∃k,ks[i]?=some k:=⟨_,qas (by lia)⟩;obtain⟨a,rfl,ha,hR⟩:=hval i v k hP hk;have hx':=extM hm hx;have hT':=vt hT (fun o e=>hm.heap S o hSw e) hx hx';have ha':=ko hx' ha;show wpAny _ A.in1 (holding [Value.ref a] (setAdd S (.ref a)) >>= _) _ _ s';refine qaa (wpAny_holding ?_);unfold setAdd;refine wpAny_holding ?_;refine qaa (wpAny_pyHash_tuple (by show A.units+1<cLine;exact hu) ha' ?_);have hsucc:=qQ hk;refine add_wp (s:={ s' with toks:=s'.toks+(k.length+1)}) (by show A.units+1<cLine;exact hu) hT' ha' ⟨let ⟨o,_,_,ho,_⟩:=ha;⟨o,ho⟩,hR⟩ ?_ fun b h' sb hT2=>?_
  ·have h1:=sI ks (i+1);rw[hsucc] at h1;unfold dQ at h1;by_cases hm':k∈ded (ks.take i)
   ·exact .inl hm'
   ·rw[qak hm'] at h1;simp at h1;exact .inr (by lia)
  ·have hx2:Ext H0 h':=fun q o e=>by
    have hq:q≠S:=by rintro rfl;rw[h0S] at e;cases e
    exact (sb.2 q hq).trans (hx' q o e)
   have hT3:dk prog w (PB H0 RR) h' S led (ded (ks.take (i+1))):=by rw[hsucc];exact hT2
   refine qah ⟨plainId_quiet F.plain_set_update_loop _,ih (i+1) _ (by lia) hlt (W.frame _ s' _ _ hst' (qcL _ _) fun b hb o e=>?_) hx2 hT3 fun s'' hm'' hx3 hT4=>?_⟩
   ·exact (sb.2 b (fun q:b=S=>hSf (by rw[<-q];exact hb))).trans e
   ·refine hRR s'' (Moved.trans W.gtrans ((hm.mono hsub).then_heap (qcL _ _) fun b o hb e=>?_) hm'') hx3 hT4;exact (sb.2 b (fun q:b=S=>hb (by rw[q];exact qaL))).trans e
abbrev fE(led:Bool):Obj:={ cls:=.type "set",dict:=none,data:=.set #[] 0 (.fresh 0 0 led)}
abbrev bV(w:World):Bool:=!w.params.followText "set-order"
def zo(a:Value)(h:Q₁ (.ref s.heap.objs.size) { s with heap:=s.heap.push (fE (bV w))}) :
  codeAny (model prog w) A (.call (.builtin "set.__new__") ⟨[.type "set",a],[]⟩) (wants Q₁ E) s:=by
 refine codeAny_of_tree ?_;show wpAny _ A.in1 (checkBuiltinCall "set.__new__" ⟨[.type "set",a],[]⟩ >>= fun _=>again (.builtin "set.__new__" ⟨[.type "set",a],[]⟩)) _ _ s;refine qaa (wpAny_of_eq (PySem.F.newCall_set_1 a) (qah ⟨plainId_quiet PySem.F.plain_set_new _,codeAny_builtin PySem.F.entry_set_new ?_⟩));rw[Around.under_plainId PySem.F.plain_set_new _];unfold Builtin.«set.__new__» Builtin.Frozenset.newClass;have hsub:=sub_set_self;obtain⟨hp,g,d,tk,os⟩:=s;dsimp only
 wp_walk
 refine wpAny_askSetting (qah ?_);dsimp only;simp only[newObj];exact qaa (wpAny_alloc (qah (qah h)))
set_option maxHeartbeats 3200000 in
theorem qP(hh:A.handled=none)(hu:A.units+16<cLine)(hl:s.heap.IsList l items)
  (hk:Lie prog w s.heap items ks) (h66:(ded ks).length<=66)
  (h:∀(h':Heap) (tk:Nat),dk prog w (PB s.heap fun a=>Value.ref a∈items.toList) h' s.heap.objs.size (bV w) (ded ks)->Ext s.heap h'->s.toks<=tk->Q (.ref s.heap.objs.size) { s with heap:=h',toks:=tk}) :
  wpAny (model prog w) A (call (.type "set") [.ref l]) Q E s:=by
 obtain⟨c,tl,hmro⟩:=PySem.F.called_set.mro;have hmade:=PySem.F.called_set.made;have hsub:=PySem.F.called_set.sub;refine wpAny_call (codeAny_of_tree ?_);show wpAny _ _ (callAny (.type "set") _) _ _ _;refine qah ⟨Code.quiet_builtin _ (by decide +kernel),codeAny_builtin PySem.F.entry_type_call ?_⟩;rw[Around.under_plain (weight_type_call_type "set" [.ref l] []) rfl];have h1:=PySem.F.called_set.notType;have h2:=PySem.F.called_set.canCreate;have hct:=PySem.F.typeCall_set_1 (.ref l)
 repeat (any_goals (first | assumption | wp_step))
 refine codeAny_mono (zo (.ref l) (E:=E) (Q₁:=fun obj s₁=>obj=.ref s.heap.objs.size/\s₁={ s with heap:=s.heap.push (fE (bV w))}) ⟨rfl,rfl⟩) fun r s₁ hr=>?_
 cases r with
 | error e=>exact hr
 | ok fl =>
  cases fl with
  | ret obj =>
   obtain⟨rfl,rfl⟩:=hr;have hS:(s.heap.push (fE (bV w))).get? s.heap.objs.size=some (fE (bV w)):=qap _ rfl;have hT:Shared.TypeIs { s with heap:=s.heap.push (fE (bV w))} (.ref s.heap.objs.size) "set":=⟨_,hS,rfl⟩;have hli:=PySem.F.called_set.init.lookup;have hbi:=PySem.F.called_set.init.bind (.ref s.heap.objs.size)
   repeat (any_goals (first | assumption | wp_step))
   refine codeAny_mono (codeAny_call_builtin (R:=wants (fun r s₂=>r=.none/\∃h' tk,s₂={ s with heap:=h',toks:=tk} /\
     dk prog w (PB s.heap fun a=>Value.ref a∈items.toList) h' s.heap.objs.size (bV w) (ded ks)/\Ext s.heap h'/\s.toks<=tk) E) PySem.F.called_set.init.plain PySem.F.entry_set_init (check_set_init_1 hT ?_)) fun r₂ s₂ hr₂=>?_
   ·have hl0:=hl;obtain⟨ol,hol,hcl,nl,hdl⟩:=hl;obtain⟨ocls,odict,odata,oslots⟩:=ol;simp only at hcl hdl;subst hcl;subst hdl;have hol':(s.heap.push (fE (bV w))).get? l=some { cls:=.type "list",dict:=odict,data:=.seq items nl,slots:=oslots}:=qab _ hol;have hsls:=PySem.F.sub_list_set;have hslf:=PySem.F.sub_list_frozenset;have hne:(Value.type "list" == Value.type "dict")=false:=by decide
    have hl1:(s.heap.push (fE (bV w))).IsList l items:=⟨_,hol',rfl,nl,rfl⟩;unfold Builtin.«set.__init__» noKeywords Builtin.Frozenset.updateFrom;generalize hPI:pyIter=PI
    wp_walk
    subst hPI;refine wpAny_pyIter_list hl1 ?_;refine qaa (wpAny_runValue ?_);have hlS:l<s.heap.objs.size:=qaq hol;have hh3:A.in1.in1.in1.handled=none:=by simp[hh]
    have hsz:(s.heap.push (fE (bV w))).objs.size=s.heap.objs.size+1:=by rw[qbc]
    have hneI:l≠(s.heap.push (fE (bV w))).objs.size:=by rw[hsz];exact qaK (qbN hlS)
    have hnone:∀b,s.heap.objs.size<=b->s.heap.get? b=none:=fun b hb=>by
     cases e:s.heap.get? b with
     | none=>rfl
     | some o=>exact absurd (qaq e) (Nat.not_lt.mpr hb)
    have hSf:s.heap.objs.size∉[(s.heap.push (fE (bV w))).objs.size,l]:=by
     rw[hsz];simp only[qar,qbn,or_false,not_or];exact⟨qaK (qce _),qbd hlS⟩
    refine uG (RR:=fun a=>Value.ref a∈items.toList) (H0:=s.heap) (led:=bV w) (by show A.units+1+1+1<cLine;lia) ((Walks.list hh3 _ l hneI items).toS) s.heap.objs.size hSf (hnone _ (qag _)) ?_ ks hk.1.symm
     (fun i v k hv hk'=>let ⟨a,e,t⟩:=hk.2 i v k hv hk';⟨a,e,t,by rw[<-e];exact qaB.mpr ⟨i,by rw[qaw];exact hv⟩⟩) h66 (items.size - 0) 0 _ (by lia) (qaP _) ⟨⟨_,qap _ rfl,rfl,rfl⟩,(hl1.push _)⟩ ?_ ?_ ?_
    ·intro b hb
     have:b=(s.heap.push (fE (bV w))).objs.size:=by simpa using hb
     rw[this,hsz];exact hnone _ (qcI _)
    ·intro b o e;exact qab _ (qab _ e)
    ·exact wC (o:=fE (bV w)) (qab _ hS) ⟨rfl,rfl,rfl⟩ rfl
    ·intro s' hm hx hT';obtain⟨h',g',d',tk',os'⟩:=s';have eg:g'=s.gens:=hm.gens;have ed:d'=s.drawn:=hm.drawn;have eo:os'=s.os:=hm.os;have et:s.toks<=tk':=hm.toks;subst eg;subst ed;subst eo;show wpAny _ _ _ _ _ _;refine qah ?_;show wpAny _ _ (ret Value.none) _ _ _;exact qah ⟨rfl,h',tk',rfl,hT',hx,et⟩
   ·cases r₂ with
    | error e=>exact hr₂
    | ok fl₂ =>
     cases fl₂ with
     | ret r =>
      obtain⟨rfl,h',tk,rfl,hT',hx,et⟩:=hr₂
      repeat (any_goals (first | assumption | wp_step))
      exact h _ _ hT' hx et
     | _=>exact hr₂.elim
  | _=>exact hr.elim
end
def cT:Slot "set_iterator" "__next__" "set_iterator.__next__" :=
 .of (owner:="set_iterator") (n:="__next__") (by rw[typeLookup_type,builtinLookup_eq_fast];kernel_rfl) (by decide +kernel) (by decide +kernel) (by decide +kernel) (.inl (by decide +kernel)) (by rw[isSubtype_type];kernel_rfl)
def k7:Slot "set_iterator" "__iter__" "set_iterator.__iter__" :=
 .of (owner:="set_iterator") (n:="__iter__") (by rw[typeLookup_type,builtinLookup_eq_fast];kernel_rfl) (by decide +kernel) (by decide +kernel) (by decide +kernel) (.inl (by decide +kernel)) (by rw[isSubtype_type];kernel_rfl)
def j5:entryFor table "set_iterator.__next__"=some Builtin.«set_iterator.__next__»:=entryFor_of_fast (by kernel_rfl)
def qR:entryFor table "set_iterator.__iter__"=some Builtin.«dict_keyiterator.__iter__» :=
 entryFor_alias (id':="dict_keyiterator.__iter__") (by kernel_rfl) rfl (by decide +kernel) (by kernel_rfl)
def kz(a:Value):argsOk "set_iterator.__next__" ⟨[a],[]⟩:=by unfold argsOk;kernel_rfl
def uo(a:Value):argsOk "set_iterator.__iter__" ⟨[a],[]⟩:=by unfold argsOk;kernel_rfl
def tE:entryFor table "set.__iter__"=some Builtin.«frozenset.__iter__» :=
 entryFor_alias (id':="frozenset.__iter__") (by kernel_rfl) rfl (by decide +kernel) (by kernel_rfl)
def wV{α:Type}(l:List α)(i:Nat)(h:i<l.length):(l[i]::l.eraseIdx i).Perm l:=by
 rw[List.eraseIdx_eq_take_drop_succ];have e:l.take i++l[i]::l.drop (i+1)=l:=by rw[qcP h,qbq]
 exact qbT.symm.trans (List.Perm.of_eq e)
def pick_go(next:Nat->Nat):∀(fuel k:Nat) (left:List α) (out:Array α),left.length<=fuel->(pickOrder.go next fuel k left out).toList.Perm (out.toList++left):=by
 intro fuel
 induction fuel with
 | zero =>
  intro k left out h
  have:left=[]:=qbD.mp (by lia)
  subst this;unfold pickOrder.go;simp
 | succ f ih =>
  intro k left out h;unfold pickOrder.go
  cases left with
  | nil=>simp
  | cons x l =>
   have hlt:next k % (x::l).length<(x::l).length:=Nat.mod_lt _ (by simp)
   have hg:(x::l)[next k % (x::l).length]?=some ((x::l)[next k % (x::l).length]'hlt):=qas hlt;rw[hg];dsimp only;have hl:((x::l).eraseIdx (next k % (x::l).length)).length<=f:=by
    rw[List.length_eraseIdx_of_lt hlt];lia
   refine (ih (k+1) _ _ hl).trans ?_;rw[qbh,qaV];refine List.Perm.append_left _ ?_;have hp:(x::l).Perm ((x::l)[next k % (x::l).length]'hlt::(x::l).eraseIdx (next k % (x::l).length)):=(wV _ _ hlt).symm;exact hp.symm
def ye(next:Nat->Nat)(xs:Array α):(pickOrder next xs).toList.Perm xs.toList:=by
 unfold pickOrder
 have:=pick_go next xs.size 0 xs.toList #[] (by simp)
 simpa using this
def wZ(xs:Array Nat)(hr:d7 xs):below xs 0=0:=by
 obtain⟨h1,h2,_⟩:=dH xs 0 hr;by_cases h:below xs 0=0
 ·exact h
 ·exfalso;obtain⟨v,hv⟩:=dD xs 0 (by lia)
  have:=h2 0 v hv (by lia)
  lia
def wI(xs:Array Nat)(hr:d7 xs)(i j:Nat)(h:xs[i]?=some j):below xs (j+1)=i+1:=by
 obtain⟨h1,h2,h3⟩:=dH xs (j+1) hr;have hi:=df h;by_cases h4:below xs (j+1)<=i
 ·have:=h3 i j h h4;lia
 ·by_cases h5:i+1<below xs (j+1)
  ·obtain⟨v,hv⟩:=dD xs (i+1) (by lia);have a:=h2 (i+1) v hv h5;have b:=hr i (i+1) j v (by lia) h hv;lia
  ·lia
section
variable {prog:Program} {w:World} {A:Around} {E:Value→Shared→Prop} {s:Shared}
def cp(w:World)(S:Addr)(ep:Nat)(es:Array (Int × Value)):Array (Int × Value):=if w.params.followText "set-order" then pickOrder (w.params.setOrder S ep) es else es
def ig(w:World)(S:Addr)(ep:Nat)(es:Array (Int × Value)):(cp w S ep es).toList.Perm es.toList:=by
 unfold cp;split
 ·exact ye _ _
 ·exact List.Perm.refl _
def SIt(w:World)(it S:Addr)(o:Obj)(es:Array (Int × Value))(ep:Nat)(t:SetTable)(i:Nat)(h:Heap):Prop :=
 h.get? S=some o/\∃slot:Nat,h.get? it=some { cls:=.type "set_iterator",dict:=none,data:=.fields #[.int slot 0,.int i 0,.ref S,.int es.size 0,.int ep 0],slots:=#[]} /\
  (w.params.followText "set-order"=false->below t.place slot=i)
end
section
variable {prog:Program} {w:World} {A:Around} {E:Value→Shared→Prop} {s:Shared} {S it:Addr} {o:Obj} {es:Array (Int × Value)} {ep:Nat} {t:SetTable} {ks:List (List Int)}
def oW(hit:SIt w it S o es ep t i s.heap):s.TypeIs (.ref it) "set_iterator":=let ⟨_,_,h,_⟩:=hit;⟨_,h,rfl⟩
def Wkd(prog:Program)(w:World)(S:Addr)(o:Obj)(es:Array (Int × Value))(ep:Nat)(t:SetTable):Prop :=
 o.ExactSet/\o.data=.set es ep t/\t.dummies=#[]/\t.plain=true/\t.led=bV w/\d7 t.place/\t.place.size=es.size/\es.size<=t.mask
def v7{i:Nat}{h:Heap}{slot:Nat}{Q:Option (Value × Nat)->Shared->Prop}(T:Wkd prog w S o es ep t)(ho:s.heap.get? S=some o)
  (hsl:w.params.followText "set-order"=false->below t.place slot=i)
  (h1:∀(x:Int × Value) slot',(cp w S ep es)[i]?=some x->(w.params.followText "set-order"=false->below t.place slot'=i+1)->Q (some (x.2,slot')) s)
  (h2:(cp w S ep es)[i]?=none->Q none s) :
  wpAny (model prog w) A (setNext S slot i ep) Q E s:=by
 obtain⟨T1,T2,T3,T4,T5,T6,T7,T8⟩:=T;have hf:t.fits es.size=true:=by
  unfold SetTable.fits SetTable.fill;simp[T7,T3];exact T8
 unfold setNext;refine qaa (wpAny_setState_of ho T2 hf ?_);dsimp only;unfold setsByText;refine qaa (qaa (wpAny_askSetting (qah ?_)));unfold cp at h1 h2
 cases hb:w.params.followText "set-order" with
 | true =>
  rw[hb] at h1 h2;simp only[if_true] at h1 h2;show wpAny _ _ (if w.params.followText "set-order"=true then _ else _) _ _ _;rw[hb];simp only[if_true,bne_self_eq_false,qac,if_false];unfold setWalk;refine qaa (qaa (wpAny_setState_of ho T2 hf ?_));dsimp only;unfold setsByText;refine qaa (qaa (wpAny_askSetting (qah ?_)));show wpAny _ _ (if w.params.followText "set-order"=true then _ else _) _ _ _;rw[hb];simp only[if_true];refine qaa (wpAny_askSetting (qah ?_));refine qah ?_;show Q (((pickOrder (w.params.setOrder S ep) es)[i]?).map fun e=>(e.2,slot)) s
  cases hg:(pickOrder (w.params.setOrder S ep) es)[i]? with
  | none=>exact h2 hg
  | some x=>exact h1 x slot hg (fun z=>nomatch z)
 | false =>
  rw[hb] at h1 h2;simp only[qac,if_false] at h1 h2;show wpAny _ _ (if w.params.followText "set-order"=true then _ else _) _ _ _;rw[hb];simp only[qac,if_false];have hdr:¬((!t.plain && decide (es.size>1))=true):=by rw[T4];simp
  refine (?_:wpAny _ _ (if (!t.plain && decide (es.size>1))=true then _ else _) _ _ _);rw[qak hdr];have hld:¬((!t.led && !es.isEmpty)=true):=by rw[T5];simp[bV,hb]
  refine qaa (?_:wpAny _ _ (if (!t.led && !es.isEmpty)=true then _ else _) _ _ _);rw[qak hld];refine qah ?_;refine qah ?_;have hbl:=hsl hb;rw[hbl]
  cases he:es[i]? with
  | none=>exact h2 he
  | some x =>
   obtain⟨j,hj⟩:=dD t.place i (by rw[T7];exact df he);rw[hj];exact h1 x (j+1) he (fun _=>wI _ T6 i j hj)
def Wkd.fits(T:Wkd prog w S o es ep t):t.fits es.size=true:=by
 obtain⟨T1,T2,T3,T4,T5,T6,T7,T8⟩:=T;unfold SetTable.fits SetTable.fill;simp[T7,T3];exact T8
def uO{i:Nat}{x:Int × Value}{Q:Option Value->Shared->Prop}(T:Wkd prog w S o es ep t)(hne:S≠it)(hit:SIt w it S o es ep t i s.heap)(hx:(cp w S ep es)[i]?=some x)
  (hQ:∀h',SIt w it S o es ep t (i+1) h'->Heap.SameBut it s.heap h'->Q (some x.2) { s with heap:=h'}):wpAny (model prog w) A (pyNext (.ref it)) Q E s:=by
 have hT:=oW hit;obtain⟨ho,slot,hi,hsl⟩:=hit;unfold pyNext;refine qaa (wpAny_attempt (wpAny_callSpecial?_slot (name:=Str.ofString "__next__") hT cT (wpAny_call_entry cT hT j5 ?_ (kz _))));unfold Builtin.«set_iterator.__next__»;refine qaa (m:=slotArgs "__next__" 0 _) (qah ?_);dsimp only;refine qaa (wpAny_fieldsOf hi rfl ?_);dsimp only;refine qaa (wpAny_setEntries_of ho T.2.1 T.fits ?_);rw[qak (by simp)];refine qaa ?_;rw[qaQ,qaQ,qaQ];refine v7 (h:=s.heap) T ho hsl (fun x' slot' e1 e2=>?_) (fun e1=>by rw[hx] at e1;cases e1);rw[hx] at e1;cases e1;dsimp only;refine qaa (wpAny_setField_rec hi (by simp) fun h1 g1 sb1=>?_);refine qaa (wpAny_setField_rec (s:={ s with heap:=h1}) g1 (by simp) fun h2 g2 sb2=>?_);refine qah ⟨_,rfl,qah (hQ h2 ⟨?_,slot',?_,e2⟩ (sb1.trans sb2))⟩
 ·rw[(sb1.trans sb2).2 S hne];exact ho
 ·exact g2
def wX{i:Nat}{Q:Option Value->Shared->Prop}(hh:A.handled=none)(T:Wkd prog w S o es ep t)(hit:SIt w it S o es ep t i s.heap)(hx:(cp w S ep es)[i]?=none)
  (hQ:∀h',Heap.ExtBut it s.heap h'->Q none { s with heap:=h'}):wpAny (model prog w) A (pyNext (.ref it)) Q E s:=by
 have hT:=oW hit;obtain⟨ho,slot,hi,hsl⟩:=hit;unfold pyNext;refine qaa (wpAny_attempt (wpAny_callSpecial?_slot (name:=Str.ofString "__next__") hT cT (wpAny_call_entry cT hT j5 ?_ (kz _))));unfold Builtin.«set_iterator.__next__»;refine qaa (m:=slotArgs "__next__" 0 _) (qah ?_);dsimp only;refine qaa (wpAny_fieldsOf hi rfl ?_);dsimp only;refine qaa (wpAny_setEntries_of ho T.2.1 T.fits ?_);rw[qak (by simp)];refine qaa ?_;rw[qaQ,qaQ,qaQ];refine v7 (h:=s.heap) T ho hsl (fun x' slot' e1 e2=>by rw[hx] at e1;cases e1) (fun e1=>?_);dsimp only;refine qaa (wpAny_setField hi rfl (by simp) ?_);refine qaa ?_;simp only[newExc,newTuple];refine qaa (wpAny_newObj_type ?_ (by size_fits));refine qaa (m:=firstArgMember _ _) (wpAny_of_eq (a:=Value.none) (by first | rfl | (simp only[firstArgMember];rfl)) ?_);refine wpAny_newObj_type ?_ (by size_fits);simp only[raiseNew];refine qaa (wpAny_handled ?_);rw[show A.in1.handled=none from hh];refine qaa (qah (wpAny_throw ?_));refine qaa (wpAny_isInstance (T:="StopIteration") (b:=true) ⟨_,qap _ rfl,rfl⟩ isSubtype_stop ?_);exact qah (hQ _ (((Heap.SameBut.update ..).extBut.push _).push _))
def x6(hh:A.handled=none)(hne:S≠it)(T:Wkd prog w S o es ep t) :
  Walks prog w A it [it,S] [it] es.size (fun i v=>∃x,(cp w S ep es)[i]?=some x/\v=x.2) (fun i h=>SIt w it S o es ep t i h) where
 sub:=fun b hb=>by simp at hb;simp[hb]
 frame:=fun _ _ _ st hk=>⟨hk S (by simp) _ st.1,let ⟨slot,a,b⟩:=st.2;⟨slot,hk it (by simp) _ a,b⟩⟩
 item:=fun i s Q E hi st hQ=>by
  have hl:(cp w S ep es).size=es.size:=by
   rw[<-qaz,(ig w S ep es).length_eq,qaz]
  obtain⟨x,hx⟩:=dD (cp w S ep es) i (by lia);exact uO T hne st hx fun h' st' sb=>hQ _ h' s.toks ⟨x,hx,rfl⟩ st' fun b o hb e=>sb.extBut b o (fun h=>hb (by simp[h])) e
 done:=fun s Q E st hQ=>by
  have hl:(cp w S ep es).size=es.size:=by
   rw[<-qaz,(ig w S ep es).length_eq,qaz]
  exact wX hh T st (qbF (by lia)) fun h' he=>hQ h' s.toks fun b o hb e=>he b o (fun h=>hb (by simp[h])) e
 self:=fun _ s Q E st hQ=>by
  have hT:=oW st;refine wpAny_pyIter_slot hT k7 (wpAny_call_entry k7 hT qR ?_ (uo _));show wpAny _ _ (ret (.ref it)) _ _ s;exact qah ⟨_,rfl,"set_iterator",_,hT,cT.lookup,hQ⟩
def ww(T:Wkd prog w S o es ep t)(ho:s.heap.get? S=some o)
  (hQ:Q (.ref s.heap.objs.size) { s with heap:=s.heap.push { cls:=.type "set_iterator",data:=.fields #[.int 0 0,.int 0 0,.ref S,.int es.size 0,.int ep 0]}}) :
  wpAny (model prog w) A (pyIter (.ref S)) Q E s:=by
 have hT:s.TypeIs (.ref S) "set":=⟨o,ho,T.1.1⟩;refine wpAny_pyIter_slot hT PySem.F.slot_set_iter (wpAny_call_entry PySem.F.slot_set_iter hT tE ?_ (PySem.F.args_set_iter_1 _));unfold Builtin.«frozenset.__iter__» Builtin.Frozenset.slot0;refine qaa (qaa (m:=slotArgs "__iter__" 0 _) (qah (qah ?_)));unfold Builtin.Frozenset.sizeOf;refine qaa (qaa (wpAny_setEntries_of ho T.2.1 T.fits (qah ?_)));unfold setDrawn;refine qaa (qaa (wpAny_setState_of ho T.2.1 T.fits ?_));dsimp only;unfold setsByText;refine qaa (qaa (wpAny_askSetting (qah (qah ?_))));have hdr:(!w.params.followText "set-order" && (!t.plain && decide (es.size>1)))=false:=by rw[T.2.2.2.1];simp
 refine (?_:wpAny _ _ (if (!w.params.followText "set-order" && (!t.plain && decide (es.size>1)))=true then _ else _) _ _ _);rw[qak (by rw[hdr];simp)];refine qaa (qah ?_);refine qaa (wpAny_setEpoch_of ho T.2.1 T.fits ?_);exact qaa (wpAny_newObj_type (qah ⟨_,rfl,"set_iterator",_,⟨_,qap _ rfl,rfl⟩,cT.lookup,hQ⟩))
end
section
variable {prog:Program} {w:World} {A:Around} {E:Value→Shared→Prop} {s:Shared} {S:Addr} {o:Obj} {es:Array (Int × Value)} {ep:Nat} {t:SetTable}
def qO:splitId "set.__len__"=some ("set","__len__"):=by kernel_rfl
def zq(hT:s.TypeIs (.ref S) "set")(hQ:Q false s):wpAny (model prog w) A (Builtin.List.listLengthHint (.ref S)) Q E s:=by
 unfold Builtin.List.listLengthHint;refine qaa (wpAny_specialOf hT PySem.F.slot_set_len.lookup ?_);dsimp only;rw[qO];dsimp only;refine qaa (wpAny_isInstance hT sub_set_self ?_);simp only[qaS,qac,if_false];rw[qaf (by decide +kernel)];refine qaa (wpAny_typeOf hT ?_);dsimp only;exact qah hQ
def rE(hh:A.handled=none)(T:Wkd prog w S o es ep t)(ho:s.heap.get? S=some o)(hn:es.size<=sizeLine)
  (hQ:∀h' tk,Ext s.heap h'->s.heap.objs.size<h'.objs.size->s.toks<=tk->Q ((cp w S ep es).toList.map (·.2)) { s with heap:=h',toks:=tk}) :
  wpAny (model prog w) A (collect (.ref S)) Q E s:=by
 have hSlt:S<s.heap.objs.size:=qaq ho;unfold collect;refine qaa (wpAny_runValue (codeAny_builtin PySem.F.entry_proto_collect ?_));rw[Around.under_plainId PySem.F.plain_proto_collect _];show wpAny _ A.in1 (newList [] >>= fun l=>again (.builtin "list.__iadd__" ⟨[l,.ref S],[]⟩)) _ _ s;refine qaa (wpAny_newObj_type ?_);refine qah ⟨plainId_quiet PySem.F.plain_list_iadd _,codeAny_builtin PySem.F.entry_list_iadd ?_⟩;rw[Around.under_plainId PySem.F.plain_list_iadd _];generalize hL:({ cls:=.type "list",data:=.seq ([]:List Value).toArray}:Obj)=oL;have hS1:(s.heap.push oL).get? S=some o:=qab _ ho;have hL1:(s.heap.push oL).get? s.heap.objs.size=some oL:=qap _ (by rw[<-hL];rfl);have hsz1:(s.heap.push oL).objs.size=s.heap.objs.size+1:=by rw[qbc]
 show wpAny _ A.in1 (Builtin.List.listExtendWith (.ref s.heap.objs.size) (.ref S) (.ref s.heap.objs.size)) _ _ { s with heap:=s.heap.push oL};unfold Builtin.List.listExtendWith;have hT1:Shared.TypeIs { s with heap:=s.heap.push oL} (.ref S) "set":=⟨o,hS1,T.1.1⟩;refine qaa (wpAny_typeOf hT1 ?_);have h1:Builtin.List.listSameRef (.ref s.heap.objs.size) (.ref S)=false:=by
  simp only[Builtin.List.listSameRef,beq_eq_false_iff_ne];exact qbd hSlt
 have h2:(Value.type "set" == Value.type "list")=false:=by decide
 have h3:(Value.type "set" == Value.type "tuple")=false:=by decide
 simp only[h1,h2,h3,Bool.or_false,qac,if_false];refine qaa (ww (s:={ s with heap:=s.heap.push oL}) T hS1 ?_);generalize hI:({ cls:=.type "set_iterator",data:=.fields #[.int 0 0,.int 0 0,.ref S,.int es.size 0,.int ep 0]}:Obj)=oI;have hS2:((s.heap.push oL).push oI).get? S=some o:=qab _ hS1;have hL2:((s.heap.push oL).push oI).get? s.heap.objs.size=some oL:=qab _ hL1;have hI2:((s.heap.push oL).push oI).get? (s.heap.push oL).objs.size=some oI:=qap _ (by rw[<-hI];rfl);show wpAny _ A.in1 _ _ _ { s with heap:=(s.heap.push oL).push oI};have hT2:Shared.TypeIs { s with heap:=(s.heap.push oL).push oI} (.ref S) "set":=⟨o,hS2,T.1.1⟩;refine qaa (wpAny_holding (zq hT2 ?_));rw[qaf (by decide +kernel)];refine qaa (wpAny_rule ?_);refine qaa ?_;show wpAny _ A.in1 (updateSeq s.heap.objs.size (·.push .none) >>= fun _=>updateSeq s.heap.objs.size (·.pop)) _ _ _;subst hL;refine qaa (wpAny_updateSeq hL2 rfl ?_);have hS₂:=qbJ (Obj.mapSeq (·.push Value.none)) hL2 rfl;refine wpAny_updateSeq hS₂ rfl ?_;have hS₃:=qbJ (Obj.mapSeq (·.pop)) hS₂ rfl;have oth:∀b o',b≠s.heap.objs.size->((s.heap.push { cls:=.type "list",data:=.seq ([]:List Value).toArray}).push oI).get? b=some o' ->
   ((((s.heap.push { cls:=.type "list",data:=.seq ([]:List Value).toArray}).push oI).update s.heap.objs.size (Obj.mapSeq (·.push Value.none))).update s.heap.objs.size (Obj.mapSeq (·.pop))).get? b=some o' :=
  fun b o' hb e=>(qbV _ _ (Ne.symm hb)).trans ((qbV _ _ (Ne.symm hb)).trans e)
 have hneI:s.heap.objs.size≠(s.heap.push { cls:=.type "list",data:=.seq ([]:List Value).toArray}).objs.size:=by
  rw[hsz1];exact qaK (qce _)
 have hneS:S≠(s.heap.push { cls:=.type "list",data:=.seq ([]:List Value).toArray}).objs.size:=by
  rw[hsz1];exact qaK (qbN hSlt)
 have hW:=(x6 (A:=A.in1) (it:=(s.heap.push { cls:=.type "list",data:=.seq ([]:List Value).toArray}).objs.size) hh hneS T).toS;have hSf:s.heap.objs.size∉[(s.heap.push { cls:=.type "list",data:=.seq ([]:List Value).toArray}).objs.size,S]:=by
  simp only[qar,qbn,or_false,not_or];exact⟨hneI,qbd hSlt⟩
 refine qah ⟨plainId_quiet PySem.F.plain_extend_loop _,codeAny_extend_loopS hW hn _ hSf _ es.size 0 _ _ _ rfl (qaP _) ?_ hS₃ (ItemsOf.nil _) fun s' acc' c' hm hS' hacc=>?_⟩
 ·refine⟨oth S _ (qaK hSlt) hS2,0,?_,fun _=>wZ _ T.2.2.2.2.2.1⟩;subst hI;exact oth _ _ (Ne.symm hneI) hI2
 ·show wpAny _ A (load s.heap.objs.size >>= _) _ _ s';refine qaa (wpAny_load hS' ?_);refine qah ?_;have hacc2:acc'.toList=(cp w S ep es).toList.map (·.2):=by
   have hl:(cp w S ep es).size=es.size:=by
    rw[<-qaz,(ig w S ep es).length_eq,qaz]
   apply qbu;intro i;by_cases hi:i<es.size
   ·obtain⟨v,hv⟩:=dD acc' i (by rw[hacc.1];exact hi);obtain⟨x,hx,e⟩:=hacc.2 i v hv;rw[qaw,hv,qao,qaw,hx,e];rfl
   ·rw[qaN (by rw[qaz,hacc.1];lia),qaN (by rw[qat,qaz,hl];lia)]
  rw[hacc2];obtain⟨h',g',d',tk',os'⟩:=s';have eg:g'=s.gens:=hm.gens;have ed:d'=s.drawn:=hm.drawn;have eo:os'=s.os:=hm.os;have et:s.toks<=tk':=hm.toks;subst eg;subst ed;subst eo;refine hQ h' tk' (fun b o' e=>?_) (qaq hS') et;have hb:b<s.heap.objs.size:=qaq e;refine hm.heap b o' ?_ (oth b o' (qaK hb) (qab _ (qab _ e)));simp only[qar,qbn,or_false,not_or];exact⟨qaK hb,by rw[hsz1];exact qaK (qbN hb)⟩
def uD(hh:A.handled=none)(T:dk prog w (PB H0 R) s.heap S (bV w) ks)(hx:Ext H0 s.heap)
  (hQ:∀h' tk vs ks',Ext s.heap h'->s.heap.objs.size<h'.objs.size->s.toks<=tk->Lie prog w H0 (List.toArray vs) ks'->(∀v∈vs,∃a,v=.ref a/\R a)->ks'.Perm ks->Q vs { s with heap:=h',toks:=tk}) :
  wpAny (model prog w) A (collect (.ref S)) Q E s:=by
 obtain⟨o,es,ep,t,ks1,T,hr,hpm,hnd⟩:=T;unfold jy at hr;have hfit:es.size<=t.mask:=by rcases T.mask with e|e | e <;> rw[e] at hr ⊢ <;> lia
 have hmm:t.mask<=127:=by rcases T.mask with e|e | e <;> lia
 refine rE hh ⟨T.ex,T.data,T.dm,T.plain,T.led',T.wf.rise,T.size,hfit⟩ T.get (by rw[sizeLine_eq];lia) fun h' tk e1 e3 e2=>?_;have hp:=ig w S ep es;have hents:∀e∈es.toList,∃k a,e.2=.ref a/\TK prog w H0 k a/\R a:=by
  intro e he;obtain⟨i,hi⟩:=qaB.mp he;rw[qaw] at hi;obtain⟨k,hk⟩:∃k,ks1[i]?=some k:=⟨_,qas (by rw[<-T.ents.1];exact df hi)⟩;obtain⟨c,d,⟨oc,its,m,hc,q⟩,g,⟨ob,hb⟩,hR⟩:=T.ents.2 i e k hi hk;have e3:oc=ob:=Option.some.inj (hc.symm.trans (hx c ob hb));subst e3;exact⟨k,c,d,⟨oc,its,m,hb,q⟩,hR⟩
 let ky:Int × Value->List Int:=fun e=>Classical.epsilon fun k=>∃a,e.2=.ref a/\TK prog w H0 k a
 have hky:∀e∈es.toList,∃a,e.2=.ref a/\TK prog w H0 (ky e) a:=by
  intro e he;obtain⟨k,a,h1,h2,_⟩:=hents e he;exact Classical.epsilon_spec (p:=fun k=>∃a,e.2=.ref a/\TK prog w H0 k a) ⟨k,a,h1,h2⟩
 have hmap:es.toList.map ky=ks1:=by
  apply qbu;intro i;rw[qao,qaw]
  cases hi:es[i]? with
  | none =>
   have:ks1.length<=i:=by
    rw[<-T.ents.1]
    have:=qcb.mp hi
    lia
   rw[qaN this];rfl
  | some e =>
   obtain⟨k,hk⟩:∃k,ks1[i]?=some k:=⟨_,qas (by rw[<-T.ents.1];exact df hi)⟩;obtain⟨c,d,hc,g,⟨ob,hb⟩,_⟩:=T.ents.2 i e k hi hk;have he:e∈es.toList:=qaB.mpr ⟨i,by rw[qaw];exact hi⟩;obtain⟨a,h1,h2⟩:=hky e he;rw[d] at h1;cases h1;have h3:=ko hx h2;rw[hk];show some (ky e)=some k;rw[IsTupleKey.inj h3 hc]
 refine hQ h' tk _ ((cp w S ep es).toList.map ky) e1 e3 e2 ⟨by simp,?_⟩ ?_ ?_
 ·intro i v k hv hk;rw[qbp,qao] at hv;rw[qao] at hk
  cases hi:(cp w S ep es).toList[i]? with
  | none=>rw[hi] at hv;cases hv
  | some e =>
   rw[hi] at hv hk;cases hv;cases hk;exact hky e (hp.mem_iff.mp (qaI hi))
 ·intro v hv;obtain⟨e,he,rfl⟩:=qax.mp hv;obtain⟨k,a,h1,_,h3⟩:=hents e (hp.mem_iff.mp he);exact⟨a,h1,h3⟩
 ·have:=hp.map ky
  rw[hmap] at this;exact this.trans hpm
end
end SetT
namespace SortT
open PySem PyProof.Rows
structure Cmp (prog:Program) (w:World) (A:Around) (E:Value->Shared->Prop) (s:Shared) (kd:SortKind) (O:KeyOrd) where
 key:Keyed->O.α
 dflt:O.α
 good:Keyed->Prop
 ask:∀(x y:Keyed) (st:SortSt) (Q:Option Bool->SortSt->Prop),good x->good y->kindOf st=kd->Q (some (O.blt (key x) (key y))) st->wpS (model prog w) A E s (lt' x y) Q st
section
variable {prog:Program} {w:World} {A:Around} {E:Value→Shared→Prop} {s:Shared} {kd:SortKind} {O:KeyOrd} (C:Cmp prog w A E s kd O)
def kk(xs:Array Keyed)(i:Nat):O.α:=match xs[i]? with
 | some p=>C.key p
 | none=>C.dflt
def Srt(xs:Array Keyed)(lo hi:Nat):Prop:=∀i j,lo<=i->i<=j->j<hi->O.kle (kk C xs i) (kk C xs j)
def Fal(xs:Array Keyed)(lo hi:Nat):Prop:=∀i j,lo<=i->i<=j->j<hi->O.kle (kk C xs j) (kk C xs i)
def cK(xs:Array Keyed):Prop:=∀p,p∈xs.toList->C.good p
structure SB (kd:SortKind) (a₀:Array Keyed) (st:SortSt):Prop where
 perm:(arrOf st).Perm a₀
 kind:kindOf st=kd
 failed:failedOf st=none
def cR(lo:Nat)(xs ys:Array Keyed):Prop:=∀i,i<lo->ys[i]?=xs[i]?
def cR.rfl'{lo:Nat}{xs:Array Keyed}:cR lo xs xs:=fun _ _=>rfl
def cR.trans{lo:Nat}{xs ys zs:Array Keyed}(h:cR lo xs ys)(g:cR lo ys zs):cR lo xs zs:=fun i hi=>(g i hi).trans (h i hi)
variable {C} {a₀:Array Keyed} {st:SortSt}
def SB.size(h:SB kd a₀ st):(arrOf st).size=a₀.size:=h.perm.size_eq
def SB.arr(h:SB kd a₀ st)(hp:xs.Perm (arrOf st)):SB kd a₀ (setArr st xs):=⟨hp.trans h.perm,h.kind,h.failed⟩
def SB.good(h:SB kd a₀ st)(h0:cK C a₀):cK C (arrOf st):=fun p hp=>h0 p ((qcc.mp h.perm).mem_iff.mp hp)
def eA(h:xs[i]?=ys[j]?):kk C xs i=kk C ys j:=by unfold kk;rw[h]
def aV(h:xs[i]?=some p):kk C xs i=C.key p:=by unfold kk;rw[h]
def bJ{xs:Array Keyed}(g:cK C xs){i:Nat}{p:Keyed}(h:xs[i]?=some p):C.good p:=by
 refine g p (qaB.mpr ⟨i,?_⟩);rw[qaw];exact h
def aX(hi:i<xs.size)(h:∀p,xs[i]?=some p->Q p st):wpS (model prog w) A E s (elem' xs i) Q st:=by
 rw[elem'_eq];have e:xs[i]?=some xs[i]:=getElem?_pos xs i hi;rw[e];exact wpS_pure (h _ e)
def kR{i j:Nat}{Q:Option Bool->SortSt->Prop}(hB:SB kd a₀ st)(h0:cK C a₀)(hi:i<a₀.size)(hj:j<a₀.size)
  (h:Q (some (O.blt (kk C (arrOf st) i) (kk C (arrOf st) j))) st):wpS (model prog w) A E s (ltAt' i j) Q st:=by
 rw[ltAt'_eq];refine wpS_bind (wpS_get ?_);refine wpS_bind (aX (by rw[hB.size];exact hi) fun x hx=>wpS_bind (aX (by rw[hB.size];exact hj) fun y hy=>?_));rw[aV hx,aV hy] at h;exact C.ask x y st Q (bJ (hB.good h0) hx) (bJ (hB.good h0) hy) hB.kind h
def pW(hs:src<xs.size)(hd:d<=src)(i:Nat) :
  kk C (bubble xs src d) i=if i=src - d then kk C xs src else if src - d<i/\i<=src then kk C xs (i - 1) else kk C xs i:=by
 have e:=getElem?_bubble hs d hd i;split
 ·next h1=>rw[qaf h1] at e;exact eA e
 ·next h1 =>
  rw[qak h1] at e;split
  ·next h2=>rw[qaf h2] at e;exact eA e
  ·next h2=>rw[qak h2] at e;exact eA e
def kX(hj:j<=xs.size)(q:Nat) :
  kk C (mirror xs i j ((j - i) / 2)) q=if i<=q/\q<j then kk C xs (i+j - 1 - q) else kk C xs q:=by
 have e:=getElem?_mirror_all (i:=i) hj q;split
 ·next h1=>rw[qaf h1] at e;exact eA e
 ·next h1=>rw[qak h1] at e;exact eA e
def dq(hj:j<=xs.size)(heq:∀q,i<=q->q<j->kk C xs q=kk C xs (j - 1))(q:Nat) :
  kk C (mirror xs i j ((j - i) / 2)) q=kk C xs q:=by
 rw[kX hj];split
 ·next h=>rw[heq (i+j - 1 - q) (by lia) (by lia),heq q h.1 h.2]
 ·rfl
def ff{xs:Array Keyed}{lo i j:Nat}(hj:j<=xs.size)(h:lo<=i):cR lo xs (mirror xs i j ((j - i) / 2)):=fun q hq=>by
 rw[getElem?_mirror_all hj,qak (by lia)]
def uQ{xs:Array Keyed}{lo src d:Nat}(hs:src<xs.size)(hd:d<=src)(h:lo<=src - d):cR lo xs (bubble xs src d):=fun q hq=>by
 rw[getElem?_bubble hs d hd,qak (by lia),qak (by lia)]
abbrev AS:=Option (Option Nat) × Nat
abbrev DS:=Option (Option Nat) × Nat × Nat
def jW(p a nrem:Nat):StateT SortSt Sem AS :=
 forIn [a:nrem] ((none,a):AS) fun _ c=>do
  let q <-ltAt' (p+c.2) (p+c.2 - 1)
  match q with
  | some z=>if z=true then pure (ForInStep.done (none,c.2)) else pure (ForInStep.yield (none,c.2+1))
  | _=>pure (ForInStep.done (some none,c.2))
def rY(p n nrem:Nat):StateT SortSt Sem (Option Nat):=do
 reverseSlice' p (p+n)
 let c <-jW p n nrem
 match c.1 with
 | some r=>pure r
 | none=>pure (some c.2)
def tj(p n nrem:Nat):StateT SortSt Sem DS :=
 forIn [n:nrem] ((none,n,0):DS) fun _ c=>do
  let q <-ltAt' (p+c.2.1) (p+c.2.1 - 1)
  match q with
  | some z =>
   if z=true then
    if c.2.2>0 then do
     reverseSlice' (p+c.2.1 - (c.2.2+1)) (p+c.2.1)
     pure (ForInStep.yield (none,c.2.1+1,0))
    else pure (ForInStep.yield (none,c.2.1+1,0))
   else do
    let q <-ltAt' (p+c.2.1 - 1) (p+c.2.1)
    match q with
    | some z=>if z=true then pure (ForInStep.done (none,c.2.1,c.2.2)) else pure (ForInStep.yield (none,c.2.1+1,c.2.2+1))
    | _=>pure (ForInStep.done (some none,c.2.1,c.2.2))
  | _=>pure (ForInStep.done (some none,c.2.1,c.2.2))
def tK(p n nrem:Nat):StateT SortSt Sem (Option Nat):=do
 liftM (rule "list.sort.descending-run")
 let c <-tj p (n+1) nrem
 match c.1 with
 | some r=>pure r
 | none =>
  if c.2.2>0 then do
   reverseSlice' (p+c.2.1 - (c.2.2+1)) (p+c.2.1)
   rY p c.2.1 nrem
  else rY p c.2.1 nrem
def run_eq(p nrem:Nat):countRun' p nrem=(do
  let c <-jW p 1 nrem
  match c.1 with
  | some r=>pure r
  | none =>
   if (c.2 == nrem)=true then pure (some c.2)
   else if c.2>1 then do
    let q <-ltAt' p (p+c.2 - 1)
    match q with
    | some z=>if z=true then pure (some c.2) else do
      reverseSlice' p (p+c.2)
      tK p c.2 nrem
    | _=>pure none
   else tK p c.2 nrem):=by
 rw[countRun'_eq];unfold tK rY;refine congrArg (fun g=>jW p 1 nrem >>= g) (funext fun c=>?_);obtain⟨r,n⟩:=c
 cases r with
 | some r=>rfl
 | none =>
  dsimp only;split
  ·rfl
  ·split
   ·congr 1;funext x
    cases x with
    | none=>rfl
    | some z =>
     dsimp only;split
     ·rfl
     ·refine congrArg _ (funext fun _=>?_);refine congrArg _ (funext fun _=>?_);refine congrArg (fun g=>tj p (n+1) nrem >>= g) (funext fun c2=>?_);obtain⟨r2,n2,q2⟩:=c2
      cases r2 with
      | some r2=>rfl
      | none =>
       dsimp only;split
       ·refine congrArg _ (funext fun _=>?_);refine congrArg _ (funext fun _=>?_);refine congrArg (fun g=>jW p n2 nrem >>= g) (funext fun c3=>?_);obtain⟨r3,n3⟩:=c3;cases r3 <;> rfl
       ·refine congrArg _ (funext fun _=>?_);refine congrArg (fun g=>jW p n2 nrem >>= g) (funext fun c3=>?_);obtain⟨r3,n3⟩:=c3;cases r3 <;> rfl
   ·refine congrArg _ (funext fun _=>?_);refine congrArg (fun g=>tj p (n+1) nrem >>= g) (funext fun c2=>?_);obtain⟨r2,n2,q2⟩:=c2
    cases r2 with
    | some r2=>rfl
    | none =>
     dsimp only;split
     ·refine congrArg _ (funext fun _=>?_);refine congrArg _ (funext fun _=>?_);refine congrArg (fun g=>jW p n2 nrem >>= g) (funext fun c3=>?_);obtain⟨r3,n3⟩:=c3;cases r3 <;> rfl
     ·refine congrArg _ (funext fun _=>?_);refine congrArg (fun g=>jW p n2 nrem >>= g) (funext fun c3=>?_);obtain⟨r3,n3⟩:=c3;cases r3 <;> rfl
def vn(h0:cK C a₀)(hn:p+nrem<=a₀.size)(ha:1<=a)(han:a<=nrem)(hB:SB kd a₀ st)
  (hs:Srt C (arrOf st) p (p+a))
  (h:∀n,a<=n->n<=nrem->Srt C (arrOf st) p (p+n)->(n=nrem\/O.klt (kk C (arrOf st) (p+n)) (kk C (arrOf st) (p+n - 1)))->Q (none,n) st) :
  wpS (model prog w) A E s (jW p a nrem) Q st:=by
 unfold jW;refine wpS_forRange (I:=fun x c st'=>st'=st/\c=(none,x)/\Srt C (arrOf st) p (p+x)) ?_ ?_ ⟨rfl,rfl,hs⟩
 ·rintro x c st' h1 h2 ⟨rfl,rfl,h3⟩;refine wpS_bind (kR hB h0 (by lia) (by lia) ?_)
  cases hz:O.blt (kk C (arrOf st') (p+x)) (kk C (arrOf st') (p+x - 1)) with
  | true=>exact wpS_pure (h x h1 (by lia) h3 (.inr hz))
  | false =>
   refine wpS_pure ⟨rfl,rfl,fun i j hi hij hj=>?_⟩;by_cases hjx:j<p+x
   ·exact h3 i j hi hij hjx
   ·have e:j=p+x:=by lia
    subst e;by_cases hi':i=p+x
    ·subst hi';exact KeyOrd.kle_refl _
    ·exact KeyOrd.kle_trans (h3 i (p+x - 1) hi (by lia) (by lia)) hz
 ·rintro c st' ⟨rfl,rfl,h3⟩;have e:max a nrem=nrem:=by lia
  rw[e] at h3 ⊢;exact h nrem han (qag _) h3 (.inl rfl)
def lw(h:Q () (setArr st (mirror (arrOf st) i j ((j - i) / 2)))):wpS (model prog w) A E s (reverseSlice' i j) Q st:=by
 rw[reverseSlice'_eq];exact wpS_modify h
def vL(h0:cK C a₀)(hn:p+nrem<=a₀.size)(h1:1<=n)(hnn:n<=nrem)(hB:SB kd a₀ st)
  (hs:Fal C (arrOf st) p (p+n))
  (h:∀m st',SB kd a₀ st'->cR p (arrOf st) (arrOf st')->pendingOf st'=pendingOf st->1<=m->m<=nrem->Srt C (arrOf st') p (p+m)->Q (some m) st') :
  wpS (model prog w) A E s (rY p n nrem) Q st:=by
 unfold rY;have hsz:p+n<=(arrOf st).size:=by rw[hB.size];lia
 refine wpS_bind (lw ?_);have hB':=hB.arr (mirror_perm (arrOf st) p (p+n) ((p+n - p) / 2));refine wpS_bind (vn h0 hn h1 hnn hB' (fun i j hi hij hj=>?_) fun m a1 a2 a3 _=>wpS_pure (h m _ hB' (ff hsz (qag _)) rfl (by lia) a2 a3));show O.kle (kk C (mirror _ _ _ _) i) (kk C (mirror _ _ _ _) j);rw[kX hsz,kX hsz,qaf (by lia),qaf (by lia)];exact hs _ _ (by lia) (by lia) (by lia)
def wps_dsc{p n nrem:Nat}{Q:DS->SortSt->Prop}(h0:cK C a₀)(hn:p+nrem<=a₀.size)(h1:1<=n)(hnn:n<=nrem)(hB:SB kd a₀ st)(hs:Fal C (arrOf st) p (p+n))
  (h:∀m q st',SB kd a₀ st'->cR p (arrOf st) (arrOf st')->pendingOf st'=pendingOf st->n<=m->m<=nrem->Fal C (arrOf st') p (p+m)->q+1<=m ->
   (∀i,p+m - (q+1)<=i->i<p+m->kk C (arrOf st') i=kk C (arrOf st') (p+m - 1))->Q (none,m,q) st') :
  wpS (model prog w) A E s (tj p n nrem) Q st:=by
 unfold tj
 refine wpS_forRange (I:=fun x c st'=>∃q,c=(none,x,q)/\SB kd a₀ st'/\cR p (arrOf st) (arrOf st')/\pendingOf st'=pendingOf st/\Fal C (arrOf st') p (p+x)/\q+1<=x /\
   ∀i,p+x - (q+1)<=i->i<p+x->kk C (arrOf st') i=kk C (arrOf st') (p+x - 1)) ?_ ?_ ⟨0,rfl,hB,cR.rfl',rfl,hs,by lia,fun i a b=>by congr 1;lia⟩
 ·rintro x c st' hx1 hx2 ⟨q,rfl,hB',hsm,hpd,hf,hq,he⟩;have hsz:p+x<=(arrOf st').size:=by rw[hB'.size];lia
  have grow:∀xs:Array Keyed,(∀i,kk C xs i=kk C (arrOf st') i)->O.kle (kk C (arrOf st') (p+x)) (kk C (arrOf st') (p+x - 1))->Fal C xs p (p+(x+1)):=by
   intro xs hk hle i j hi hij hj;rw[hk,hk];by_cases hjx:j<p+x
   ·exact hf i j hi hij hjx
   ·have e:j=p+x:=by lia
    subst e;by_cases hi':i=p+x
    ·subst hi';exact KeyOrd.kle_refl _
    ·exact KeyOrd.kle_trans hle (hf i (p+x - 1) hi (by lia) (by lia))
  dsimp only;refine wpS_bind (kR hB' h0 (by lia) (by lia) ?_)
  cases hz:O.blt (kk C (arrOf st') (p+x)) (kk C (arrOf st') (p+x - 1)) with
  | true =>
   dsimp only;rw[qaf rfl];by_cases hq0:q>0
   ·rw[qaf hq0];refine wpS_bind (lw (wpS_pure ⟨0,rfl,hB'.arr (mirror_perm _ _ _ _),hsm.trans (ff hsz (by lia)),hpd,grow _ (dq hsz he) (KeyOrd.kle_of_klt hz),by lia,fun i a b=>by congr 1;lia⟩))
   ·rw[qak hq0];exact wpS_pure ⟨0,rfl,hB',hsm,hpd,grow _ (fun _=>rfl) (KeyOrd.kle_of_klt hz),by lia,fun i a b=>by congr 1;lia⟩
  | false =>
   dsimp only;rw[qak (by simp)];refine wpS_bind (kR hB' h0 (by lia) (by lia) ?_)
   cases hz2:O.blt (kk C (arrOf st') (p+x - 1)) (kk C (arrOf st') (p+x)) with
   | true =>
    dsimp only;rw[qaf rfl];exact wpS_pure (h x q st' hB' hsm hpd hx1 (by lia) hf hq he)
   | false =>
    dsimp only;rw[qak (by simp)];have heq:kk C (arrOf st') (p+x)=kk C (arrOf st') (p+x - 1):=KeyOrd.kle_antisymm hz2 hz;refine wpS_pure ⟨q+1,rfl,hB',hsm,hpd,grow _ (fun _=>rfl) hz2,by lia,fun i a b=>?_⟩;have e1:p+(x+1) - 1=p+x:=by lia
    rw[e1];by_cases hix:i=p+x
    ·subst hix;rfl
    ·rw[heq];exact he i (by lia) (by lia)
 ·rintro c st' ⟨q,rfl,hB',hsm,hpd,hf,hq,he⟩;have e:max n nrem=nrem:=by lia
  rw[e] at hf hq he ⊢;exact h nrem q st' hB' hsm hpd hnn (qag _) hf hq he
def rO{p n nrem:Nat}{Q:Option Nat->SortSt->Prop}(h0:cK C a₀)(hn:p+nrem<=a₀.size)(hnn:n+1<=nrem)(hB:SB kd a₀ st)(hs:Fal C (arrOf st) p (p+(n+1)))
  (h:∀m st',SB kd a₀ st'->cR p (arrOf st) (arrOf st')->pendingOf st'=pendingOf st->1<=m->m<=nrem->Srt C (arrOf st') p (p+m)->Q (some m) st') :
  wpS (model prog w) A E s (tK p n nrem) Q st:=by
 unfold tK;refine wpS_bind (wpS_lift (wpAny_rule ⟨rfl,?_⟩));refine wpS_bind (wps_dsc h0 hn (by lia) hnn hB hs fun m q st' hB' hsm hpd hm1 hm2 hf hq he=>?_);dsimp only;have hsz:p+m<=(arrOf st').size:=by rw[hB'.size];lia
 by_cases hq0:q>0
 ·rw[qaf hq0];refine wpS_bind (lw (vL h0 hn (by lia) hm2 (hB'.arr (mirror_perm _ _ _ _)) ?_ fun m2 st2 b1 b2 b3=>h m2 st2 b1 ((hsm.trans (ff hsz (by lia))).trans b2) (b3.trans hpd)));intro i j hi hij hj;show O.kle (kk C (mirror _ _ _ _) j) (kk C (mirror _ _ _ _) i);rw[dq hsz he,dq hsz he];exact hf i j hi hij hj
 ·rw[qak hq0];exact vL h0 hn (by lia) hm2 hB' hf fun m2 st2 b1 b2 b3=>h m2 st2 b1 (hsm.trans b2) (b3.trans hpd)
def vB(h0:cK C a₀)(hn:p+nrem<=a₀.size)(h1:1<=nrem)(hB:SB kd a₀ st)
  (h:∀m st',SB kd a₀ st'->cR p (arrOf st) (arrOf st')->pendingOf st'=pendingOf st->1<=m->m<=nrem->Srt C (arrOf st') p (p+m)->Q (some m) st') :
  wpS (model prog w) A E s (countRun' p nrem) Q st:=by
 rw[run_eq];refine wpS_bind (vn h0 hn (qag 1) h1 hB (fun i j hi hij hj=>by have e:i=j:=(by lia);subst e;exact KeyOrd.kle_refl _) fun n a1 a2 hsn hor=>?_);dsimp only;by_cases hnn:n=nrem
 ·rw[qaf (by simpa using hnn)];exact wpS_pure (h n st hB cR.rfl' rfl a1 a2 hsn)
 ·rw[qak (by simpa using hnn)];have hlt:=hor.resolve_left hnn;by_cases hgt:n>1
  ·rw[qaf hgt];refine wpS_bind (kR hB h0 (by lia) (by lia) ?_)
   cases hz:O.blt (kk C (arrOf st) p) (kk C (arrOf st) (p+n - 1)) with
   | true =>
    dsimp only;rw[qaf rfl];exact wpS_pure (h n st hB cR.rfl' rfl a1 a2 hsn)
   | false =>
    dsimp only;rw[qak (by simp)];have hsz:p+n<=(arrOf st).size:=by rw[hB.size];lia
    have hall:∀q,p<=q->q<p+n->kk C (arrOf st) q=kk C (arrOf st) (p+n - 1):=fun q b1 b2 =>
     KeyOrd.kle_antisymm (hsn q (p+n - 1) b1 (by lia) (by lia)) (KeyOrd.kle_trans hz (hsn p q (qag _) b1 b2))
    refine wpS_bind (lw (rO h0 hn (by lia) (hB.arr (mirror_perm _ _ _ _)) ?_ fun m2 st2 b1 b2 b3=>h m2 st2 b1 ((ff hsz (qag _)).trans b2) b3));intro i j hi hij hj;show O.kle (kk C (mirror _ _ _ _) j) (kk C (mirror _ _ _ _) i);rw[dq hsz hall,dq hsz hall];by_cases hjn:j<p+n
    ·rw[hall i hi (by lia),hall j (by lia) hjn];exact KeyOrd.kle_refl _
    ·have e:j=p+n:=by lia
     subst e;by_cases hi':i=p+n
     ·subst hi';exact KeyOrd.kle_refl _
     ·rw[hall i hi (by lia)];exact KeyOrd.kle_of_klt hlt
  ·rw[qak hgt];have e:n=1:=by lia
   subst e;refine rO h0 hn (by lia) hB ?_ h;intro i j hi hij hj;by_cases hi':i=j
   ·subst hi';exact KeyOrd.kle_refl _
   ·have e1:i=p:=by lia
    have e2:j=p+1:=by lia
    subst e1;subst e2;exact KeyOrd.kle_of_klt hlt
end
section
variable {prog:Program} {w:World} {A:Around} {E:Value→Shared→Prop} {s:Shared} {kd:SortKind} {O:KeyOrd} {C:Cmp prog w A E s kd O} {a₀:Array Keyed} {st:SortSt}
def vX(h0:cK C a₀)(hn:p+n<=a₀.size)(hok:ok<=n)(hB:SB kd a₀ st)(hs:Srt C (arrOf st) p (p+ok))
  (h:∀st',SB kd a₀ st'->cR p (arrOf st) (arrOf st')->pendingOf st'=pendingOf st->Srt C (arrOf st') p (p+n)->Q true st'):wpS (model prog w) A E s (binarySort' p n ok) Q st:=by
 rw[binarySort'_eq]
 refine wpS_bind (wpS_mono (wpS_forRange (I:=fun k c st'=>c=(none,())/\SB kd a₀ st'/\cR p (arrOf st) (arrOf st')/\pendingOf st'=pendingOf st/\Srt C (arrOf st') p (p+min k n))
  (Q:=fun c st'=>c=(none,())/\SB kd a₀ st'/\cR p (arrOf st) (arrOf st')/\pendingOf st'=pendingOf st/\Srt C (arrOf st') p (p+n)) ?_ ?_ ?_) ?_)
 ·rintro k c st' hk1 hk2 ⟨rfl,hB',hsm,hpd,hs'⟩;have ek:min k n=k:=by lia
  rw[ek] at hs'
  refine wpS_bind (wpS_mono (wpS_forRange (I:=fun x c st''=>st''=st'/\∃l r,c=(none,l,r)/\l<=r/\r<=k/\r - l<=k - x /\
    (∀i,p<=i->i<p+l->O.kle (kk C (arrOf st') i) (kk C (arrOf st') (p+k)))/\∀i,p+r<=i->i<p+k->O.klt (kk C (arrOf st') (p+k)) (kk C (arrOf st') i))
   (Q:=fun c st''=>st''=st'/\∃l r,c=(none,l,r)/\l<=k /\
    (∀i,p<=i->i<p+l->O.kle (kk C (arrOf st') i) (kk C (arrOf st') (p+k)))/\∀i,p+l<=i->i<p+k->O.klt (kk C (arrOf st') (p+k)) (kk C (arrOf st') i)) ?_ ?_ ?_) ?_)
  ·rintro x c st'' _ hx ⟨rfl,l,r,rfl,hlr,hrk,hm,hlo,hhi⟩;dsimp only;by_cases hge:l>=r
   ·rw[qaf hge];have e:l=r:=by lia
    subst e;exact wpS_pure ⟨rfl,l,l,rfl,hrk,hlo,hhi⟩
   ·rw[qak hge];refine wpS_bind (kR hB' h0 (by lia) (by lia) ?_)
    cases hz:O.blt (kk C (arrOf st'') (p+k)) (kk C (arrOf st'') (p+(l+r) / 2)) with
    | true =>
     simp only[if_true];exact wpS_pure ⟨rfl,l,(l+r) / 2,rfl,by lia,by lia,by lia,hlo,fun i a b=>KeyOrd.klt_of_klt_of_kle hz (hs' _ _ (by lia) a b)⟩
    | false =>
     simp only[qac,if_false];exact wpS_pure ⟨rfl,(l+r) / 2+1,r,rfl,by lia,by lia,by lia,fun i a b=>KeyOrd.kle_trans (hs' i (p+(l+r) / 2) a (by lia) (by lia)) hz,hhi⟩
  ·rintro c st'' ⟨rfl,l,r,rfl,hlr,hrk,hm,hlo,hhi⟩;have e:l=r:=by lia
   subst e;exact⟨rfl,l,l,rfl,hrk,hlo,hhi⟩
  ·exact⟨rfl,0,k,rfl,by lia,by lia,by lia,fun i a b=>by lia,fun i a b=>by lia⟩
  ·rintro c st'' ⟨rfl,l,r,rfl,hlk,hlo,hhi⟩;dsimp only;rw[moveDown'_eq];have hks:p+k<(arrOf st'').size:=by rw[hB'.size];lia
   have ed:p+k - (p+l)=k - l:=by lia
   rw[ed];refine wpS_bind (wpS_modify (wpS_pure ⟨rfl,hB'.arr (bubble_perm _ _ _),hsm.trans (uQ hks (by lia) (by lia)),hpd,?_⟩));have e1:min (k+1) n=k+1:=by lia
   rw[e1];intro i j hi hij hj;show O.kle (kk C (bubble (arrOf st'') (p+k) (k - l)) i) (kk C (bubble (arrOf st'') (p+k) (k - l)) j);have e2:p+k - (k - l)=p+l:=by lia
   rw[pW hks (by lia),pW hks (by lia),e2]
   repeat' split
   all_goals first
    | (exfalso;lia)
    | exact KeyOrd.kle_refl _
    | exact hlo _ (by lia) (by lia)
    | exact KeyOrd.kle_of_klt (hhi _ (by lia) (by lia))
    | exact hs' _ _ (by lia) (by lia) (by lia)
 ·rintro c st' ⟨hc,hB',hsm,hpd,hs'⟩;refine⟨hc,hB',hsm,hpd,?_⟩;have e:min (max (max ok 1) n) n=n:=by lia
  rwa [e] at hs'
 ·refine⟨rfl,hB,cR.rfl',rfl,fun i j hi hij hj=>?_⟩;by_cases h1:ok=0
  ·have e:i=j:=by lia
   subst e;exact KeyOrd.kle_refl _
  ·exact hs i j hi hij (by lia)
 ·rintro c st' ⟨rfl,hB',hsm,hpd,hs'⟩;exact wpS_pure (h st' hB' hsm hpd hs')
def gallop':Bool->Keyed->Array Keyed->Nat->Nat->Nat->StateT SortSt Sem (Option Nat):=sortPriv% PySem.Builtin.gallop
def mY(left:Bool)(key:Keyed)(arr:Array Keyed)(base i:Nat):StateT SortSt Sem (Option Bool):=do
 let x <-elem' arr (base+i)
 if left then lt' x key else return (<-lt' key x).map (!·)
def wK(left:Bool)(key:Keyed)(arr:Array Keyed)(base n hint:Nat):gallop' left key arr base n hint=(do
  let mut la:=0
  let mut of:=1
  let mut lo:=0
  let mut hi:=0
  let some rt <-mY left key arr base hint|return none
  if rt then
   let mx:=n - hint
   for _ in [0:n] do
    if of>=mx then break
    let some q <-mY left key arr base (hint+of)|return none
    if !q then break
    la:=of
    of:=2 * of+1
   lo:=hint+la+1
   hi:=hint+min of mx
  else
   let mx:=hint+1
   for _ in [0:n] do
    if of>=mx then break
    let some q <-mY left key arr base (hint - of)|return none
    if q then break
    la:=of
    of:=2 * of+1
   lo:=hint+1 - min of mx
   hi:=hint - la
  for _ in [0:n] do
   if lo>=hi then break
   let m:=lo+(hi - lo) / 2
   let some q <-mY left key arr base m|return none
   if q then lo:=m+1 else hi:=m
  return some hi):=rfl
def ahead(C:Cmp prog w A E s kd O)(left:Bool)(key:Keyed)(arr:Array Keyed)(i:Nat):Bool:=if left then O.blt (kk C arr i) (C.key key) else !O.blt (C.key key) (kk C arr i)
def lf(hk:kindOf st=kd)(hg:cK C arr)(hkey:C.good key)(hi:base+i<arr.size)
  (h:Q (some (ahead C left key arr (base+i))) st):wpS (model prog w) A E s (mY left key arr base i) Q st:=by
 unfold mY;refine wpS_bind (aX hi fun x hx=>?_);unfold ahead at h;rw[aV hx] at h
 cases left with
 | true =>
  simp only[if_true] at h ⊢;exact C.ask x key st Q (bJ hg hx) hkey hk h
 | false =>
  simp only[qac,if_false] at h ⊢;exact wpS_bind (C.ask key x st _ hkey (bJ hg hx) hk (wpS_pure h))
def halfL(left:Bool)(key:Keyed)(arr:Array Keyed)(base n lo hi:Nat):StateT SortSt Sem DS :=
 forIn [:n] ((none,lo,hi):DS) fun _ c =>
  if c.2.1>=c.2.2 then pure (ForInStep.done (none,c.2.1,c.2.2))
  else do
   let q <-mY left key arr base (c.2.1+(c.2.2 - c.2.1) / 2)
   match q with
   | some q=>if q=true then pure (ForInStep.yield (none,c.2.1+(c.2.2 - c.2.1) / 2+1,c.2.2)) else pure (ForInStep.yield (none,c.2.1,c.2.1+(c.2.2 - c.2.1) / 2))
   | _=>pure (ForInStep.done (some none,c.2.1,c.2.2))
section
variable {left:Bool} {key:Keyed} {arr:Array Keyed} {base n:Nat}
def fX(hn:base+n<=arr.size)(hs:Srt C arr base (base+n)):∀i j,i<=j->j<n->ahead C left key arr (base+j)=true->ahead C left key arr (base+i)=true:=by
 intro i j hij hj;have hle:=hs (base+i) (base+j) (by lia) (by lia) (by lia);unfold ahead
 cases left with
 | true=>simp only[if_true];exact fun q=>KeyOrd.klt_of_kle_of_klt hle q
 | false =>
  simp only[qac,if_false,qbO];exact fun q=>KeyOrd.kle_trans hle q
def jY(hn:base+n<=arr.size)(hs:Srt C arr base (base+n)):∀i j,i<=j->j<n->ahead C left key arr (base+i)=false->ahead C left key arr (base+j)=false:=by
 intro i j hij hj hi
 cases hj':ahead C left key arr (base+j) with
 | false=>rfl
 | true=>rw[fX hn hs i j hij hj hj'] at hi;cases hi
def sB{lo hi:Nat}{Q:DS->SortSt->Prop}(hk:kindOf st=kd)(hg:cK C arr)(hkey:C.good key)(hn:base+n<=arr.size)(hs:Srt C arr base (base+n))
  (hlh:lo<=hi) (hhn:hi<=n) (h1:∀i,i<lo->ahead C left key arr (base+i)=true) (h2:∀i,hi<=i->i<n->ahead C left key arr (base+i)=false)
  (h:∀k,k<=n->(∀i,i<k->ahead C left key arr (base+i)=true)->(∀i,k<=i->i<n->ahead C left key arr (base+i)=false)->Q (none,k,k) st) :
  wpS (model prog w) A E s (halfL left key arr base n lo hi) Q st:=by
 unfold halfL;refine wpS_forRange (I:=fun x c st'=>st'=st/\∃l r,c=(none,l,r)/\l<=r/\r<=n/\r - l<=n - x/\(∀i,i<l->ahead C left key arr (base+i)=true)/\∀i,r<=i->i<n->ahead C left key arr (base+i)=false)
  ?_ ?_ ⟨rfl,lo,hi,rfl,hlh,hhn,by lia,h1,h2⟩
 ·rintro x c st' _ hx ⟨rfl,l,r,rfl,hlr,hrn,hm,ha,hb⟩;dsimp only;by_cases hge:l>=r
  ·rw[qaf hge];have e:l=r:=by lia
   subst e;exact wpS_pure (h l hrn ha hb)
  ·rw[qak hge];refine wpS_bind (lf hk hg hkey (by lia) ?_)
   cases hz:ahead C left key arr (base+(l+(r - l) / 2)) with
   | true =>
    simp only[if_true];exact wpS_pure ⟨rfl,_,_,rfl,by lia,by lia,by lia,fun i hi=>fX hn hs i (l+(r - l) / 2) (by lia) (by lia) hz,hb⟩
   | false =>
    simp only[qac,if_false];exact wpS_pure ⟨rfl,_,_,rfl,by lia,by lia,by lia,ha,fun i a b=>jY hn hs (l+(r - l) / 2) i a b hz⟩
 ·rintro c st' ⟨rfl,l,r,rfl,hlr,hrn,hm,ha,hb⟩;have e:l=r:=by lia
  subst e;exact h l hrn ha hb
def dO{hint:Nat}{Q:Option Nat->SortSt->Prop}(hk:kindOf st=kd)(hg:cK C arr)(hkey:C.good key)(hn:base+n<=arr.size)(hh:hint<n)(hs:Srt C arr base (base+n))
  (h:∀k,k<=n->(∀i,i<k->ahead C left key arr (base+i)=true)->(∀i,k<=i->i<n->ahead C left key arr (base+i)=false)->Q (some k) st) :
  wpS (model prog w) A E s (gallop' left key arr base n hint) Q st:=by
 rw[wK];dsimp only;refine wpS_bind (lf hk hg hkey (by lia) ?_);dsimp only
 cases hz:ahead C left key arr (base+hint) with
 | true =>
  simp only[if_true]
  refine wpS_bind (wpS_mono (wpS_forRange (I:=fun x c st'=>st'=st/\∃la of,c=(none,la,of)/\la<of/\x+1<=of/\hint+la<n/\ahead C left key arr (base+(hint+la))=true)
   (Q:=fun c st'=>st'=st/\∃la of,c=(none,la,of)/\la<of/\hint+la<n/\ahead C left key arr (base+(hint+la))=true/\(n - hint<=of\/of<n - hint/\ahead C left key arr (base+(hint+of))=false)) ?_ ?_
    ⟨rfl,0,1,rfl,by lia,by lia,hh,hz⟩) ?_)
  ·rintro x c st' _ hx ⟨rfl,la,of,rfl,h1,h2,h3,h4⟩;dsimp only;by_cases hge:of>=n - hint
   ·rw[qaf hge];exact wpS_pure ⟨rfl,la,of,rfl,h1,h3,h4,.inl hge⟩
   ·rw[qak hge];refine wpS_bind (lf hk hg hkey (by lia) ?_)
    cases hy:ahead C left key arr (base+(hint+of)) with
    | true =>
     simp only[qaS,qac,if_false];exact wpS_pure ⟨rfl,_,_,rfl,by lia,by lia,by lia,hy⟩
    | false =>
     simp only[qcq,if_true];exact wpS_pure ⟨rfl,la,of,rfl,h1,h3,h4,.inr ⟨by lia,hy⟩⟩
  ·rintro c st' ⟨rfl,la,of,rfl,h1,h2,h3,h4⟩;exact⟨rfl,la,of,rfl,h1,h3,h4,.inl (by lia)⟩
  ·rintro c st' ⟨rfl,la,of,rfl,h1,h3,h4,h5⟩;dsimp only;refine wpS_bind (sB (lo:=hint+la+1) (hi:=hint+min of (n - hint)) hk hg hkey hn hs (by lia) (by lia) (fun i hi=>fX hn hs i (hint+la) (by lia) h3 h4) (fun i a b=>?_) fun k a b c=>wpS_pure (h k a b c));rcases h5 with h5|⟨h5,h6⟩
   ·lia
   ·exact jY hn hs (hint+of) i (by lia) b h6
 | false =>
  simp only[qac,if_false]
  refine wpS_bind (wpS_mono (wpS_forRange (I:=fun x c st'=>st'=st/\∃la of,c=(none,la,of)/\la<of/\x+1<=of/\la<=hint/\ahead C left key arr (base+(hint - la))=false)
   (Q:=fun c st'=>st'=st/\∃la of,c=(none,la,of)/\la<of/\la<=hint/\ahead C left key arr (base+(hint - la))=false/\(hint+1<=of\/of<hint+1/\ahead C left key arr (base+(hint - of))=true)) ?_ ?_
    ⟨rfl,0,1,rfl,by lia,by lia,by lia,hz⟩) ?_)
  ·rintro x c st' _ hx ⟨rfl,la,of,rfl,h1,h2,h3,h4⟩;dsimp only;by_cases hge:of>=hint+1
   ·rw[qaf hge];exact wpS_pure ⟨rfl,la,of,rfl,h1,h3,h4,.inl hge⟩
   ·rw[qak hge];refine wpS_bind (lf hk hg hkey (by lia) ?_)
    cases hy:ahead C left key arr (base+(hint - of)) with
    | true =>
     simp only[if_true];exact wpS_pure ⟨rfl,la,of,rfl,h1,h3,h4,.inr ⟨by lia,hy⟩⟩
    | false =>
     simp only[qac,if_false];exact wpS_pure ⟨rfl,_,_,rfl,by lia,by lia,by lia,hy⟩
  ·rintro c st' ⟨rfl,la,of,rfl,h1,h2,h3,h4⟩;exact⟨rfl,la,of,rfl,h1,h3,h4,.inl (by lia)⟩
  ·rintro c st' ⟨rfl,la,of,rfl,h1,h3,h4,h5⟩;dsimp only;refine wpS_bind (sB (lo:=hint+1 - min of (hint+1)) (hi:=hint - la) hk hg hkey hn hs (by lia) (by lia) (fun i hi=>?_) (fun i a b=>jY hn hs (hint - la) i a b h4) fun k a b c=>wpS_pure (h k a b c));rcases h5 with h5|⟨h5,h6⟩
   ·lia
   ·exact fX hn hs i (hint - of) (by lia) (by lia) h6
end
end
def jN:Array Keyed->Array Keyed->StateT SortSt Sem (Array Keyed):=sortPriv% PySem.Builtin.mergeLo
def jk:Nat->StateT SortSt Sem Unit:=sortPriv% PySem.Builtin.setMinGallop
def lC(g:Nat):jk g=modify fun s=>SortSt.mk' (kindOf s) (arrOf s) (pendingOf s) g (failedOf s):=rfl
def uP(a b:Array Keyed):jN a b=(do
 rule "list.sort.merge-lo"
 let tot:=a.size+b.size
 let all (ou:Array Keyed) (i j:Nat):=ou++a.extract i a.size++b.extract j b.size
 let one (ou:Array Keyed) (i j:Nat):=ou++b.extract j b.size++a.extract i a.size
 let mut ou:Array Keyed:=#[<-elem' b 0]
 let mut i:=0
 let mut j:=1
 if j == b.size then return all ou i j
 if i+1 == a.size then return one ou i j
 let mut g:=gallopOf (<-get)
 for _ in [0:tot] do
  let mut na:=0
  let mut nb:=0
  for _ in [0:tot] do
   let some q <-lt' (<-elem' b j) (<-elem' a i)|return all ou i j
   if q then
    ou:=ou.push (<-elem' b j);j:=j+1;nb:=nb+1;na:=0
    if j == b.size then return all ou i j
    if nb>=g then break
   else
    ou:=ou.push (<-elem' a i);i:=i+1;na:=na+1;nb:=0
    if i+1 == a.size then return one ou i j
    if na>=g then break
  rule "list.sort.gallop"
  g:=g+1
  for _ in [0:tot] do
   if g>1 then g:=g - 1
   jk g
   let some k <-gallop' false (<-elem' b j) a i (a.size - i) 0|return all ou i j
   na:=k
   if k>0 then
    ou:=ou++a.extract i (i+k);i:=i+k
    if i+1 == a.size then return one ou i j
    if i == a.size then return all ou i j
   ou:=ou.push (<-elem' b j);j:=j+1
   if j == b.size then return all ou i j
   let some k <-gallop' true (<-elem' a i) b j (b.size - j) 0|return all ou i j
   nb:=k
   if k>0 then
    ou:=ou++b.extract j (j+k);j:=j+k
    if j == b.size then return all ou i j
   ou:=ou.push (<-elem' a i);i:=i+1
   if i+1 == a.size then return one ou i j
   if na<7 && nb<7 then break
  g:=g+1
  jk g
 unsupported "internal:list.sort.merge-bound"):=rfl
section
variable {prog:Program} {w:World} {A:Around} {E:Value→Shared→Prop} {s:Shared} {kd:SortKind} {O:KeyOrd} (C:Cmp prog w A E s kd O)
def LS(l:List Keyed):Prop:=l.Pairwise fun x y=>O.kle (C.key x) (C.key y)
def LB(l m:List Keyed):Prop:=∀x∈l,∀y∈m,O.kle (C.key x) (C.key y)
variable {C}
def cv(h1:LS C l)(h2:LS C m)(h3:LB C l m):LS C (l++m):=by
 unfold LS;rw[qcs];exact⟨h1,h2,h3⟩
def nW{xs:Array Keyed}{lo hi:Nat}(hhi:hi<=xs.size)(h:Srt C xs lo hi):LS C (xs.extract lo hi).toList:=by
 unfold LS;rw[qbv];intro i j hi' hj' hij;have hsz:(xs.extract lo hi).size=hi - lo:=by simp;lia
 have hi2:i<(xs.extract lo hi).size:=by rw[<-qaz];exact hi'
 have hj2:j<(xs.extract lo hi).size:=by rw[<-qaz];exact hj'
 have e1:(xs.extract lo hi).toList[i]=xs[lo+i]'(by lia):=by simp
 have e2:(xs.extract lo hi).toList[j]=xs[lo+j]'(by lia):=by simp
 rw[e1,e2]
 have:=h (lo+i) (lo+j) (by lia) (by lia) (by lia)
 rw[aV (getElem?_pos xs (lo+i) (by lia)),aV (getElem?_pos xs (lo+j) (by lia))] at this;exact this
def kB(h:LS C xs.toList):Srt C xs 0 xs.size:=by
 intro i j _ hij hj;rw[aV (getElem?_pos xs i (by lia)),aV (getElem?_pos xs j hj)];by_cases e:i=j
 ·subst e;exact KeyOrd.kle_refl _
 ·unfold LS at h;rw[qbv] at h
  have:=h i j (by simp;lia) (by simpa using hj) (by lia)
  simpa using this
structure MI (C:Cmp prog w A E s kd O) (a b ou:Array Keyed) (i j:Nat):Prop where
 perm:(ou.toList++(a.toList.drop i++b.toList.drop j)).Perm (a.toList++b.toList)
 srt:LS C ou.toList
 low:LB C ou.toList (a.toList.drop i++b.toList.drop j)
variable {a b ou:Array Keyed} {i j:Nat}
def MI.size(m:MI C a b ou i j)(hi:i<=a.size)(hj:j<=b.size):ou.size+(a.size - i)+(b.size - j)=a.size+b.size:=by
 have:=m.perm.length_eq
 simp at this;lia
def i9{xs:Array Keyed}{i:Nat}{p:Keyed}(h:xs[i]?=some p):xs.toList.drop i=p::xs.toList.drop (i+1):=by
 have hl:i<xs.toList.length:=by
  have:=(qbi.mp h).1
  simpa using this
 have e:xs.toList[i]=p:=by
  have:=(qbi.mp h).2
  simpa using this
 rw[<-e,qcP hl]
def ja{xs:Array Keyed}(h:LS C xs.toList)(i:Nat):LS C (xs.toList.drop i):=h.sublist (List.drop_sublist i _)
def i5{xs:Array Keyed}(h:LS C xs.toList){i:Nat}{p:Keyed}(hp:xs[i]?=some p):∀y∈xs.toList.drop i,O.kle (C.key p) (C.key y):=by
 have h1:=ja h i;rw[i9 hp] at h1 ⊢;unfold LS at h1;rw[qbz] at h1;intro y hy;rcases qar.mp hy with rfl|hy
 ·exact KeyOrd.kle_refl _
 ·exact h1.1 y hy
def MI.pushA(m:MI C a b ou i j)(ha:LS C a.toList)(hb:LS C b.toList){p:Keyed}(hp:a[i]?=some p)(hq:∀q,b[j]?=some q->O.kle (C.key p) (C.key q)):MI C a b (ou.push p) (i+1) j:=by
 have hd:=i9 hp;have hle:∀y∈a.toList.drop i++b.toList.drop j,O.kle (C.key p) (C.key y):=by
  intro y hy;rcases qau.mp hy with hy|hy
  ·exact i5 ha hp y hy
  ·cases hb':b[j]? with
   | none =>
    have:b.toList.drop j=[]:=qaZ (by have:=qcb.mp hb';simpa using this)
    rw[this] at hy;cases hy
   | some q=>exact KeyOrd.kle_trans (hq q hb') (i5 hb hb' y hy)
 refine⟨?_,?_,?_⟩
 ·have:=m.perm
  rw[hd] at this;rw[qbh,qaV];exact this
 ·rw[qbh];refine cv m.srt (by unfold LS;simp) fun x hx y hy=>?_
  have:y=p:=by simpa using hy
  subst this;exact m.low x hx y (qaH _ (by rw[hd];exact qaL))
 ·intro x hx y hy;rw[qbh] at hx;have hy':y∈a.toList.drop i++b.toList.drop j:=by
   rcases qau.mp hy with hy|hy
   ·exact qaH _ (by rw[hd];exact qai _ hy)
   ·exact qal _ hy
  rcases qau.mp hx with hx|hx
  ·exact m.low x hx y hy'
  ·have:x=p:=by simpa using hx
   subst this;exact hle y hy'
def MI.pushB(m:MI C a b ou i j)(ha:LS C a.toList)(hb:LS C b.toList){p:Keyed}(hp:b[j]?=some p)(hq:∀q,a[i]?=some q->O.kle (C.key p) (C.key q)):MI C a b (ou.push p) i (j+1):=by
 have hd:=i9 hp;have hle:∀y∈a.toList.drop i++b.toList.drop j,O.kle (C.key p) (C.key y):=by
  intro y hy;rcases qau.mp hy with hy|hy
  ·cases ha':a[i]? with
   | none =>
    have:a.toList.drop i=[]:=qaZ (by have:=qcb.mp ha';simpa using this)
    rw[this] at hy;cases hy
   | some q=>exact KeyOrd.kle_trans (hq q ha') (i5 ha ha' y hy)
  ·exact i5 hb hp y hy
 refine⟨?_,?_,?_⟩
 ·have:=m.perm
  rw[hd] at this;rw[qbh,qaV];refine List.Perm.trans (List.Perm.append_left _ ?_) this;show (p::(a.toList.drop i++b.toList.drop (j+1))).Perm _;exact qbT.symm
 ·rw[qbh];refine cv m.srt (by unfold LS;simp) fun x hx y hy=>?_
  have:y=p:=by simpa using hy
  subst this;exact m.low x hx y (qal _ (by rw[hd];exact qaL))
 ·intro x hx y hy;rw[qbh] at hx;have hy':y∈a.toList.drop i++b.toList.drop j:=by
   rcases qau.mp hy with hy|hy
   ·exact qaH _ hy
   ·exact qal _ (by rw[hd];exact qai _ hy)
  rcases qau.mp hx with hx|hx
  ·exact m.low x hx y hy'
  ·have:x=p:=by simpa using hx
   subst this;exact hle y hy'
def kT{xs:Array Keyed}{i k:Nat}{p:Keyed}(h:xs[i+k]?=some p):xs.extract i (i+(k+1))=(xs.extract i (i+k)).push p:=by
 have hl:=(qbi.mp h).1;apply qbo.mp;simp only[qbK,qbh,qaR];have e1:i+(k+1) - i=k+1:=by lia
 have e2:i+k - i=k:=by lia
 rw[e1,e2,qbU,qbX,qaw,h];rfl
def MI.moveA(m:MI C a b ou i j)(ha:LS C a.toList)(hb:LS C b.toList):∀k,i+k<=a.size->(∀r p q,r<k->a[i+r]?=some p->b[j]?=some q->O.kle (C.key p) (C.key q))->MI C a b (ou++a.extract i (i+k)) (i+k) j:=by
 intro k
 induction k with
 | zero =>
  intro _ _;have e:ou++a.extract i (i+0)=ou:=by apply qbo.mp;simp[qaR]
  rw[e];exact m
 | succ k ih =>
  intro hk hq;have hp:a[i+k]?=some (a[i+k]'(by lia)):=getElem?_pos a (i+k) (by lia);have m1:=(ih (by lia) fun r p q hr=>hq r p q (by lia)).pushA ha hb hp (fun q hq'=>hq k _ q (by lia) hp hq');have e:ou++(a.extract i (i+k)).push (a[i+k]'(by lia))=(ou++a.extract i (i+k)).push (a[i+k]'(by lia)):=by apply qbo.mp;simp
  rw[kT hp,e];exact m1
def MI.moveB(m:MI C a b ou i j)(ha:LS C a.toList)(hb:LS C b.toList):∀k,j+k<=b.size->(∀r p q,r<k->b[j+r]?=some p->a[i]?=some q->O.kle (C.key p) (C.key q))->MI C a b (ou++b.extract j (j+k)) i (j+k):=by
 intro k
 induction k with
 | zero =>
  intro _ _;have e:ou++b.extract j (j+0)=ou:=by apply qbo.mp;simp[qaR]
  rw[e];exact m
 | succ k ih =>
  intro hk hq;have hp:b[j+k]?=some (b[j+k]'(by lia)):=getElem?_pos b (j+k) (by lia);have m1:=(ih (by lia) fun r p q hr=>hq r p q (by lia)).pushB ha hb hp (fun q hq'=>hq k _ q (by lia) hp hq');have e:ou++(b.extract j (j+k)).push (b[j+k]'(by lia))=(ou++b.extract j (j+k)).push (b[j+k]'(by lia)):=by apply qbo.mp;simp
  rw[kT hp,e];exact m1
def MR(C:Cmp prog w A E s kd O)(a b out:Array Keyed):Prop:=out.toList.Perm (a.toList++b.toList)/\LS C out.toList
def gw{xs:Array Keyed}{i:Nat}:(xs.extract i xs.size).toList=xs.toList.drop i:=by
 rw[qbK,qaR];exact qbk (by simp)
def MI.all(m:MI C a b ou i j)(ha:LS C a.toList)(hb:LS C b.toList)(h:a.size<=i\/b.size<=j):MR C a b (ou++a.extract i a.size++b.extract j b.size):=by
 have e:(ou++a.extract i a.size++b.extract j b.size).toList=ou.toList++(a.toList.drop i++b.toList.drop j):=by
  rw[qbb,qbb,gw,gw,qaV]
 unfold MR;rw[e];refine⟨m.perm,cv m.srt ?_ m.low⟩;rcases h with h|h
 ·have:a.toList.drop i=[]:=qaZ (by simpa using h)
  rw[this];exact ja hb j
 ·have:b.toList.drop j=[]:=qaZ (by simpa using h)
  rw[this,qck];exact ja ha i
def MI.one(m:MI C a b ou i j)(ha:LS C a.toList)(hb:LS C b.toList)(h:i+1=a.size)(hl:∀x q,x∈b.toList->a[i]?=some q->O.kle (C.key x) (C.key q)):MR C a b (ou++b.extract j b.size++a.extract i a.size):=by
 have e:(ou++b.extract j b.size++a.extract i a.size).toList=ou.toList++(b.toList.drop j++a.toList.drop i):=by
  rw[qbb,qbb,gw,gw,qaV]
 unfold MR;rw[e];have hp:a[i]?=some (a[i]'(by lia)):=getElem?_pos a i (by lia);have hd:=i9 hp;have hnil:a.toList.drop (i+1)=[]:=qaZ (by simp;lia);rw[hnil] at hd;refine⟨(List.Perm.append_left _ qcX).trans m.perm,cv m.srt (cv (ja hb j) (ja ha i) ?_) ?_⟩
 ·intro x hx y hy;rw[hd] at hy
  have:y=a[i]'(by lia):=by simpa using hy
  subst this;exact hl x _ (qbB hx) hp
 ·intro x hx y hy;exact m.low x hx y (qau.mpr (qau.mp hy).symm)
end
structure Eqv (st st':SortSt):Prop where
 kind:kindOf st'=kindOf st
 arr:arrOf st'=arrOf st
 pend:pendingOf st'=pendingOf st
 failed:failedOf st'=failedOf st
def Eqv.rfl'{st:SortSt}:Eqv st st:=⟨rfl,rfl,rfl,rfl⟩
def Eqv.trans{st st1 st2:SortSt}(x:Eqv st st1)(y:Eqv st1 st2):Eqv st st2:=⟨y.kind.trans x.kind,y.arr.trans x.arr,y.pend.trans x.pend,y.failed.trans x.failed⟩
abbrev GS:=Option (Array Keyed) × Array Keyed × Nat × Nat × Nat × Nat × Nat
def loT3(a b ou:Array Keyed)(i j g na nb:Nat):StateT SortSt Sem (ForInStep GS):=do
 let x <-elem' a i
 if (i+1+1 == a.size)=true then pure (ForInStep.done (some (ou.push x++b.extract j b.size++a.extract (i+1) a.size),ou.push x,i+1,j,g,na,nb))
 else if (decide (na<7) && decide (nb<7))=true then pure (ForInStep.done (none,ou.push x,i+1,j,g,na,nb))
 else pure (ForInStep.yield (none,ou.push x,i+1,j,g,na,nb))
def loT2(a b ou:Array Keyed)(i j g na nb:Nat):StateT SortSt Sem (ForInStep GS):=do
 let x <-elem' b j
 if (j+1 == b.size)=true then pure (ForInStep.done (some (ou.push x++a.extract i a.size++b.extract (j+1) b.size),ou.push x,i,j+1,g,na,nb))
 else do
  let y <-elem' a i
  let q <-gallop' true y b (j+1) (b.size - (j+1)) 0
  match q with
  | some k =>
   if k>0 then
    if (j+1+k == b.size)=true then
     pure (ForInStep.done (some (ou.push x++b.extract (j+1) (j+1+k)++a.extract i a.size++b.extract (j+1+k) b.size),ou.push x++b.extract (j+1) (j+1+k),i,j+1+k,g,na,k))
    else loT3 a b (ou.push x++b.extract (j+1) (j+1+k)) i (j+1+k) g na k
   else loT3 a b (ou.push x) i (j+1) g na k
  | _=>pure (ForInStep.done (some (ou.push x++a.extract i a.size++b.extract (j+1) b.size),ou.push x,i,j+1,g,na,nb))
def loT1(a b ou:Array Keyed)(i j g na nb:Nat):StateT SortSt Sem (ForInStep GS):=do
 jk g
 let x <-elem' b j
 let q <-gallop' false x a i (a.size - i) 0
 match q with
 | some k =>
  if k>0 then
   if (i+k+1 == a.size)=true then
    pure (ForInStep.done (some (ou++a.extract i (i+k)++b.extract j b.size++a.extract (i+k) a.size),ou++a.extract i (i+k),i+k,j,g,k,nb))
   else if (i+k == a.size)=true then
    pure (ForInStep.done (some (ou++a.extract i (i+k)++a.extract (i+k) a.size++b.extract j b.size),ou++a.extract i (i+k),i+k,j,g,k,nb))
   else loT2 a b (ou++a.extract i (i+k)) (i+k) j g k nb
  else loT2 a b ou i j g k nb
 | _=>pure (ForInStep.done (some (ou++a.extract i a.size++b.extract j b.size),ou,i,j,g,na,nb))
abbrev LBt:=Option (Array Keyed) × Array Keyed × Nat × Nat × Nat × Nat
abbrev LCt:=Option (Array Keyed) × Array Keyed × Nat × Nat × Nat
def loP(a b:Array Keyed)(g:Nat)(c:LBt):StateT SortSt Sem (ForInStep LBt):=do
 let x <-elem' b c.2.2.2.1
 let y <-elem' a c.2.2.1
 let q <-lt' x y
 match q with
 | some q =>
  if q=true then do
   let z <-elem' b c.2.2.2.1
   if (c.2.2.2.1+1 == b.size)=true then pure (ForInStep.done (some (c.2.1.push z++a.extract c.2.2.1 a.size++b.extract (c.2.2.2.1+1) b.size),c.2.1.push z,c.2.2.1,c.2.2.2.1+1,0,c.2.2.2.2.2+1))
   else if c.2.2.2.2.2+1>=g then pure (ForInStep.done (none,c.2.1.push z,c.2.2.1,c.2.2.2.1+1,0,c.2.2.2.2.2+1))
   else pure (ForInStep.yield (none,c.2.1.push z,c.2.2.1,c.2.2.2.1+1,0,c.2.2.2.2.2+1))
  else do
   let z <-elem' a c.2.2.1
   if (c.2.2.1+1+1 == a.size)=true then pure (ForInStep.done (some (c.2.1.push z++b.extract c.2.2.2.1 b.size++a.extract (c.2.2.1+1) a.size),c.2.1.push z,c.2.2.1+1,c.2.2.2.1,c.2.2.2.2.1+1,0))
   else if c.2.2.2.2.1+1>=g then pure (ForInStep.done (none,c.2.1.push z,c.2.2.1+1,c.2.2.2.1,c.2.2.2.2.1+1,0))
   else pure (ForInStep.yield (none,c.2.1.push z,c.2.2.1+1,c.2.2.2.1,c.2.2.2.2.1+1,0))
 | _=>pure (ForInStep.done (some (c.2.1++a.extract c.2.2.1 a.size++b.extract c.2.2.2.1 b.size),c.2.1,c.2.2.1,c.2.2.2.1,c.2.2.2.2.1,c.2.2.2.2.2))
def loG(a b:Array Keyed)(c:GS):StateT SortSt Sem (ForInStep GS) :=
 if c.2.2.2.2.1>1 then loT1 a b c.2.1 c.2.2.1 c.2.2.2.1 (c.2.2.2.2.1 - 1) c.2.2.2.2.2.1 c.2.2.2.2.2.2
 else loT1 a b c.2.1 c.2.2.1 c.2.2.2.1 c.2.2.2.2.1 c.2.2.2.2.2.1 c.2.2.2.2.2.2
def loE(c:GS):StateT SortSt Sem (ForInStep LCt) :=
 match c.1 with
 | some r=>pure (ForInStep.done (some r,c.2.1,c.2.2.1,c.2.2.2.1,c.2.2.2.2.1))
 | none=>do
  jk (c.2.2.2.2.1+1)
  pure (ForInStep.yield (none,c.2.1,c.2.2.1,c.2.2.2.1,c.2.2.2.2.1+1))
def loD(a b:Array Keyed)(g:Nat)(c:LBt):StateT SortSt Sem (ForInStep LCt) :=
 match c.1 with
 | some r=>pure (ForInStep.done (some r,c.2.1,c.2.2.1,c.2.2.2.1,g))
 | none=>do
  liftM (rule "list.sort.gallop")
  let e <-forIn [:a.size+b.size] ((none,c.2.1,c.2.2.1,c.2.2.2.1,g+1,c.2.2.2.2.1,c.2.2.2.2.2):GS) fun _ e=>loG a b e
  loE e
def loO(a b:Array Keyed)(c:LCt):StateT SortSt Sem (ForInStep LCt):=do
 let d <-forIn [:a.size+b.size] ((none,c.2.1,c.2.2.1,c.2.2.2.1,0,0):LBt) fun _ d=>loP a b c.2.2.2.2 d
 loD a b c.2.2.2.2 d
def loZ(a b:Array Keyed)(x:Keyed):StateT SortSt Sem (Array Keyed):=do
 let g <-get
 let r <-forIn [:a.size+b.size] ((none,#[x],0,1,gallopOf g):LCt) fun _ c=>loO a b c
 match r.1 with
 | some r=>pure r
 | none=>liftM (unsupported "internal:list.sort.merge-bound":Sem (Array Keyed))
def lo_n(a b:Array Keyed):jN a b=(do
 liftM (rule "list.sort.merge-lo")
 let x <-elem' b 0
 if (1 == b.size)=true then pure (#[x]++a.extract 0 a.size++b.extract 1 b.size)
 else if (0+1 == a.size)=true then pure (#[x]++b.extract 1 b.size++a.extract 0 a.size)
 else loZ a b x):=by
 rw[uP];dsimp only;refine congrArg (Bind.bind _) (funext fun _=>congrArg (Bind.bind _) (funext fun x=>congrArg (fun z=>ite _ _ (ite _ _ z)) ?_));unfold loZ;have e:∀{α β:Type} {x y:StateT SortSt Sem α} {f h:α->StateT SortSt Sem β},x=y->(∀a,f a=h a)->(x >>= f)=(y >>= h):=fun e f=>by rw[e,funext f]
 refine congrArg (Bind.bind _) (funext fun g=>e (congrArg (forIn _ _) (funext fun _=>funext fun c=>?_)) fun ⟨r,_⟩=>by cases r <;> rfl);refine e rfl fun d=>?_;obtain⟨d1,d2⟩:=d
 cases d1 with
 | some r=>rfl
 | none=>exact congrArg (Bind.bind _) (funext fun _=>e rfl fun ⟨r,_⟩=>by cases r <;> rfl)
section
variable {prog:Program} {w:World} {A:Around} {E:Value→Shared→Prop} {s:Shared} {kd:SortKind} {O:KeyOrd} {C:Cmp prog w A E s kd O} {st:SortSt} {a b:Array Keyed}
structure Two (C:Cmp prog w A E s kd O) (a b:Array Keyed):Prop where
 ga:cK C a
 gb:cK C b
 sa:LS C a.toList
 sb:LS C b.toList
 na:1<=a.size
 nb:1<=b.size
 fst:∀p q,b[0]?=some p->a[0]?=some q->O.kle (C.key p) (C.key q)
 lst:∀x q,x∈b.toList->a[a.size - 1]?=some q->O.kle (C.key x) (C.key q)
def LI(C:Cmp prog w A E s kd O)(a b:Array Keyed)(N:Nat)(c:GS):Prop:=c.1=none/\MI C a b c.2.1 c.2.2.1 c.2.2.2.1/\c.2.2.1+1<a.size/\c.2.2.2.1<b.size/\N<=c.2.1.size
def kA(C:Cmp prog w A E s kd O)(a b:Array Keyed)(N:Nat)(st:SortSt)(r:ForInStep GS)(st':SortSt):Prop:=Eqv st st'/\match r with
 | .done c=>(∃x,c.1=some x/\MR C a b x)\/LI C a b N c
 | .yield c=>LI C a b N c
def vV(T:Two C a b)(m:MI C a b ou i j)(hi:i+1<a.size)(hj:j<b.size)(hN:N<=ou.size)(hle:∀p q,a[i]?=some p->b[j]?=some q->O.kle (C.key p) (C.key q)) :
  wpS (model prog w) A E s (loT3 a b ou i j g na nb) (kA C a b N st) st:=by
 unfold loT3;refine wpS_bind (aX (by lia) fun x hx=>?_);have m1:=m.pushA T.sa T.sb hx (fun q hq=>hle x q hx hq);have hsz:(ou.push x).size=ou.size+1:=qbx ..;by_cases h1:i+1+1=a.size
 ·rw[qaf (by simpa using h1)];exact wpS_pure ⟨Eqv.rfl',.inl ⟨_,rfl,m1.one T.sa T.sb h1 fun y q hy hq=>T.lst y q hy (by rw[<-h1];exact hq)⟩⟩
 ·rw[qak (by simpa using h1)];have li:LI C a b N (none,ou.push x,i+1,j,g,na,nb):=⟨rfl,m1,by show i+1+1<a.size;lia,hj,by show N<=(ou.push x).size;lia⟩;split
  ·exact wpS_pure ⟨Eqv.rfl',.inr li⟩
  ·exact wpS_pure ⟨Eqv.rfl',li⟩
def vp(T:Two C a b)(hk:kindOf st=kd)(m:MI C a b ou i j)(hi:i+1<a.size)(hj:j<b.size)(hN:N<=ou.size)(hle:∀p q,b[j]?=some p->a[i]?=some q->O.kle (C.key p) (C.key q)) :
  wpS (model prog w) A E s (loT2 a b ou i j g na nb) (kA C a b N st) st:=by
 unfold loT2;refine wpS_bind (aX hj fun x hx=>?_);have m1:=m.pushB T.sa T.sb hx (fun q hq=>hle x q hx hq);have hsz:(ou.push x).size=ou.size+1:=qbx ..;by_cases h1:j+1=b.size
 ·rw[qaf (by simpa using h1)];exact wpS_pure ⟨Eqv.rfl',.inl ⟨_,rfl,m1.all T.sa T.sb (.inr (by lia))⟩⟩
 ·rw[qak (by simpa using h1)];refine wpS_bind (aX (by lia) fun y hy=>?_);refine wpS_bind (dO (C:=C) hk T.gb (bJ T.ga hy) (by lia) (by lia) ?_ fun k hkn hlo hhi=>?_)
  ·intro p q hp hpq hq;exact kB T.sb p q (qaP _) hpq (by lia)
  ·have hlo':∀r p q,r<k->b[j+1+r]?=some p->a[i]?=some q->O.kle (C.key p) (C.key q):=fun r p q hr hp hq=>by
    have:=hlo r hr
    unfold ahead at this;rw[aV hp] at this;rw[hy] at hq;cases hq;exact KeyOrd.kle_of_klt this
   have hhi':∀p q,a[i]?=some p->b[j+1+k]?=some q->O.kle (C.key p) (C.key q):=fun p q hp hq=>by
    have hlt:=(qbi.mp hq).1
    have:=hhi k (qag _) (by lia)
    unfold ahead at this;rw[aV hq] at this;rw[hy] at hp;cases hp;exact this
   dsimp only;by_cases hk0:k>0
   ·rw[qaf hk0];have m2:=m1.moveB T.sa T.sb k (by lia) hlo';by_cases h2:j+1+k=b.size
    ·rw[qaf (by simpa using h2)];exact wpS_pure ⟨Eqv.rfl',.inl ⟨_,rfl,m2.all T.sa T.sb (.inr (by lia))⟩⟩
    ·rw[qak (by simpa using h2)];exact vV T m2 hi (by lia) (by rw[qbZ];lia) hhi'
   ·rw[qak hk0];have e:k=0:=by lia
    subst e;exact vV T m1 hi (by lia) (by lia) hhi'
def vo(T:Two C a b)(hk:kindOf st=kd)(m:MI C a b ou i j)(hi:i+1<a.size)(hj:j<b.size)(hN:N<=ou.size) :
  wpS (model prog w) A E s (loT1 a b ou i j g na nb) (kA C a b N st) st:=by
 unfold loT1;rw[lC];refine wpS_bind (wpS_modify ?_);have ev:Eqv st (SortSt.mk' (kindOf st) (arrOf st) (pendingOf st) g (failedOf st)):=⟨rfl,rfl,rfl,rfl⟩;refine wpS_mono (Q:=kA C a b N (SortSt.mk' (kindOf st) (arrOf st) (pendingOf st) g (failedOf st))) ?_ fun r st' h=>⟨ev.trans h.1,h.2⟩;have hk':kindOf (SortSt.mk' (kindOf st) (arrOf st) (pendingOf st) g (failedOf st))=kd:=hk;refine wpS_bind (aX hj fun x hx=>?_);refine wpS_bind (dO (C:=C) hk' T.ga (bJ T.gb hx) (by lia) (by lia) ?_ fun k hkn hlo hhi=>?_)
 ·intro p q hp hpq hq;exact kB T.sa p q (qaP _) hpq (by lia)
 ·have hlo':∀r p q,r<k->a[i+r]?=some p->b[j]?=some q->O.kle (C.key p) (C.key q):=fun r p q hr hp hq=>by
   have:=hlo r hr
   unfold ahead at this;rw[aV hp] at this;rw[hx] at hq;cases hq;simp only[qac,if_false,qbO] at this;exact this
  have hhi':∀p q,b[j]?=some p->a[i+k]?=some q->O.kle (C.key p) (C.key q):=fun p q hp hq=>by
   have hlt:=(qbi.mp hq).1
   have:=hhi k (qag _) (by lia)
   unfold ahead at this;rw[aV hq] at this;rw[hx] at hp;cases hp;simp only[qac,if_false,qcC] at this;exact KeyOrd.kle_of_klt this
  dsimp only;by_cases hk0:k>0
  ·rw[qaf hk0];have m2:=m.moveA T.sa T.sb k (by lia) hlo';by_cases h2:i+k+1=a.size
   ·rw[qaf (by simpa using h2)];exact wpS_pure ⟨Eqv.rfl',.inl ⟨_,rfl,m2.one T.sa T.sb h2 fun y q hy hq=>T.lst y q hy (by rw[<-h2];exact hq)⟩⟩
   ·rw[qak (by simpa using h2)];by_cases h3:i+k=a.size
    ·rw[qaf (by simpa using h3)];exact wpS_pure ⟨Eqv.rfl',.inl ⟨_,rfl,m2.all T.sa T.sb (.inl (by lia))⟩⟩
    ·rw[qak (by simpa using h3)];exact vp T hk' m2 (by lia) hj (by rw[qbZ];lia) hhi'
  ·rw[qak hk0];have e:k=0:=by lia
   subst e;exact vp T hk' m hi hj hN hhi'
def L1l(C:Cmp prog w A E s kd O)(a b:Array Keyed)(N:Nat)(c:LBt):Prop:=c.1=none/\MI C a b c.2.1 c.2.2.1 c.2.2.2.1/\c.2.2.1+1<a.size/\c.2.2.2.1<b.size/\N<=c.2.1.size
def L0l(C:Cmp prog w A E s kd O)(a b:Array Keyed)(N:Nat)(c:LCt):Prop:=c.1=none/\MI C a b c.2.1 c.2.2.1 c.2.2.2.1/\c.2.2.1+1<a.size/\c.2.2.2.1<b.size/\N<=c.2.1.size
def Stp1(C:Cmp prog w A E s kd O)(a b:Array Keyed)(N:Nat)(st:SortSt)(r:ForInStep LBt)(st':SortSt):Prop:=match r with
 | .done c=>st'=st/\((∃x,c.1=some x/\MR C a b x)\/L1l C a b N c)
 | .yield c=>st'=st/\L1l C a b N c
def Stp0(C:Cmp prog w A E s kd O)(a b:Array Keyed)(N:Nat)(st:SortSt)(r:ForInStep LCt)(st':SortSt):Prop:=match r with
 | .done c=>Eqv st st'/\∃x,c.1=some x/\MR C a b x
 | .yield c=>Eqv st st'/\L0l C a b N c
def loP_ok(T:Two C a b)(hk':kindOf st=kd)(m':MI C a b ou' i' j')(hi':i'+1<a.size)(hj':j'<b.size)(hN:N<=ou'.size) :
  wpS (model prog w) A E s (loP a b g (none,ou',i',j',na,nb)) (Stp1 C a b (N+1) st) st:=by
 unfold loP;dsimp only;refine wpS_bind (aX hj' fun p hp=>wpS_bind (aX (by lia) fun q hq=>?_));refine wpS_bind (C.ask p q st _ (bJ T.gb hp) (bJ T.ga hq) hk' ?_)
 cases hz:O.blt (C.key p) (C.key q) with
 | true =>
  dsimp only;rw[qaf rfl];refine wpS_bind (aX hj' fun p' hp'=>?_);rw[hp] at hp';cases hp';have m2:=m'.pushB T.sa T.sb hp (fun q' hq'=>by rw[hq] at hq';cases hq';exact KeyOrd.kle_of_klt hz);have hs2:(ou'.push p).size=ou'.size+1:=qbx ..;by_cases h3:j'+1=b.size
  ·rw[qaf (by simpa using h3)];exact wpS_pure ⟨rfl,.inl ⟨_,rfl,m2.all T.sa T.sb (.inr (by lia))⟩⟩
  ·rw[qak (by simpa using h3)];split
   ·exact wpS_pure ⟨rfl,.inr ⟨rfl,m2,hi',by lia,by rw[hs2];lia⟩⟩
   ·exact wpS_pure ⟨rfl,rfl,m2,hi',by lia,by rw[hs2];lia⟩
 | false =>
  dsimp only;rw[qak (by simp)];refine wpS_bind (aX (by lia) fun q' hq'=>?_);rw[hq] at hq';cases hq';have m2:=m'.pushA T.sa T.sb hq (fun p' hp'=>by rw[hp] at hp';cases hp';exact hz);have hs2:(ou'.push q).size=ou'.size+1:=qbx ..;by_cases h3:i'+1+1=a.size
  ·rw[qaf (by simpa using h3)];exact wpS_pure ⟨rfl,.inl ⟨_,rfl,m2.one T.sa T.sb h3 fun y q hy hq=>T.lst y q hy (by rw[<-h3];exact hq)⟩⟩
  ·rw[qak (by simpa using h3)];split
   ·exact wpS_pure ⟨rfl,.inr ⟨rfl,m2,by lia,hj',by rw[hs2];lia⟩⟩
   ·exact wpS_pure ⟨rfl,rfl,m2,by lia,hj',by rw[hs2];lia⟩
def loE_ok(ev:Eqv st0 st)(hc:(∃x,c.1=some x/\MR C a b x)\/LI C a b N c):wpS (model prog w) A E s (loE c) (Stp0 C a b N st0) st:=by
 obtain⟨c1,ou3,i3,j3,g3,na3,nb3⟩:=c;rcases hc with ⟨r,hr,mr⟩|⟨hc,hr⟩
 ·cases hr;exact wpS_pure ⟨ev,r,rfl,mr⟩
 ·cases hc;unfold loE;dsimp only;rw[lC];exact wpS_bind (wpS_modify (wpS_pure ⟨ev.trans ⟨rfl,rfl,rfl,rfl⟩,rfl,hr⟩))
def loG_ok(T:Two C a b)(hk:kindOf st=kd)(h:LI C a b N c):wpS (model prog w) A E s (loG a b c) (kA C a b N st) st:=by
 obtain⟨_,m3,hi3,hj3,hN3⟩:=h;unfold loG;split
 ·exact vo T hk m3 hi3 hj3 hN3
 ·exact vo T hk m3 hi3 hj3 hN3
def loD_ok(T:Two C a b)(hk:kindOf st=kd)(ev:Eqv st0 st)(hc:(∃x,c.1=some x/\MR C a b x)\/L1l C a b N c):wpS (model prog w) A E s (loD a b g c) (Stp0 C a b N st0) st:=by
 obtain⟨c1,ou',i',j',na,nb⟩:=c;rcases hc with ⟨r,hr,mr⟩|⟨hc,hr⟩
 ·cases hr;exact wpS_pure ⟨ev,r,rfl,mr⟩
 ·cases hc;unfold loD;dsimp only;refine wpS_bind (wpS_lift (wpAny_rule ⟨rfl,?_⟩));refine wpS_bind (wpS_mono (wpS_forRange (I:=fun y c st3=>Eqv st st3/\LI C a b N c) (Q:=fun c st3=>Eqv st st3/\((∃x,c.1=some x/\MR C a b x)\/LI C a b N c)) ?_ ?_ ⟨Eqv.rfl',rfl,hr⟩) ?_)
  ·rintro y c st3 _ hy ⟨ev3,h3⟩;refine wpS_mono (loG_ok T (ev3.kind.trans hk) h3) fun r st4 hr=>?_
   cases r with
   | done c'=>exact⟨ev3.trans hr.1,hr.2⟩
   | yield c'=>exact⟨ev3.trans hr.1,hr.2⟩
  ·rintro c st3 ⟨ev3,hli⟩;exact⟨ev3,.inr hli⟩
  ·rintro c st3 ⟨ev3,hc⟩;exact loE_ok (ev.trans ev3) hc
def loO_ok(T:Two C a b)(hk:kindOf st=kd)(h:L0l C a b N c):wpS (model prog w) A E s (loO a b c) (Stp0 C a b (N+1) st) st:=by
 obtain⟨c1,ou,i,j,g⟩:=c;obtain⟨hc,hm⟩:=h;cases hc;unfold loO
 refine wpS_bind (wpS_mono (wpS_forRange (I:=fun y c st''=>st''=st/\L1l C a b (N+y) c)
  (Q:=fun c st''=>st''=st/\((∃x,c.1=some x/\MR C a b x)\/L1l C a b (N+1) c)) ?_ ?_ ⟨rfl,rfl,hm⟩) ?_)
 ·rintro y c st'' _ hy ⟨rfl,h1⟩;obtain⟨c1,ou',i',j',na,nb⟩:=c;obtain⟨hc,m',hi',hj',hsz'⟩:=h1;cases hc;refine wpS_mono (loP_ok T hk m' hi' hj' hsz') fun r st4 hr=>?_
  cases r with
  | done c'=>exact⟨hr.1,hr.2.imp_right fun h=>⟨h.1,h.2.1,h.2.2.1,h.2.2.2.1,qaD (by lia) h.2.2.2.2⟩⟩
  | yield c'=>exact hr
 ·rintro c st'' ⟨rfl,h⟩
  have:=T.na
  exact⟨rfl,.inr ⟨h.1,h.2.1,h.2.2.1,h.2.2.2.1,qaD (by lia) h.2.2.2.2⟩⟩
 ·rintro c st'' ⟨rfl,hc⟩;exact loD_ok T hk Eqv.rfl' hc
def loZ_ok(T:Two C a b)(hk:kindOf st=kd)(h1:MI C a b #[x0] 0 1)(ha:0+1<a.size)(hb:1<b.size)(h:∀x st',Eqv st st'->MR C a b x->Q x st'):wpS (model prog w) A E s (loZ a b x0) Q st:=by
 unfold loZ;refine wpS_bind (wpS_get ?_)
 refine wpS_bind (wpS_mono (wpS_forRange (I:=fun x c st'=>Eqv st st'/\L0l C a b (x+1) c)
  (Q:=fun c st'=>Eqv st st'/\∃x,c.1=some x/\MR C a b x) ?_ ?_ ⟨Eqv.rfl',rfl,h1,ha,hb,qag _⟩) ?_)
 ·rintro x c st' _ hx ⟨ev,h0⟩;refine wpS_mono (loO_ok T (ev.kind.trans hk) h0) fun r st4 hr=>?_
  cases r with
  | done c'=>exact⟨ev.trans hr.1,hr.2⟩
  | yield c'=>exact⟨ev.trans hr.1,hr.2⟩
 ·rintro c st' ⟨ev,h0⟩;exfalso;have h1:=h0.2.2.1;have h2:=h0.2.2.2.1
  have:=h0.2.1.size (by lia) (by lia)
  have:=h0.2.2.2.2
  lia
 ·rintro c st' ⟨ev,r,hr,mr⟩;obtain⟨c1,c2⟩:=c;cases hr;exact wpS_pure (h r st' ev mr)
def wps_lo(T:Two C a b)(hk:kindOf st=kd)(h:∀x st',Eqv st st'->MR C a b x->Q x st'):wpS (model prog w) A E s (jN a b) Q st:=by
 rw[lo_n];refine wpS_bind (wpS_lift (wpAny_rule ⟨rfl,?_⟩));have hna:=T.na;have hnb:=T.nb;refine wpS_bind (aX (by lia) fun x0 hx0=>?_);have m0:MI C a b #[] 0 0:=⟨by simp,by unfold LS;simp,fun x hx=>by simp at hx⟩;have m1:MI C a b #[x0] 0 1:=by
  have:=m0.pushB T.sa T.sb hx0 (fun q hq=>T.fst x0 q hx0 hq)
  simpa using this
 by_cases h1:1=b.size
 ·rw[qaf (by simpa using h1)]
  have:=m1.all T.sa T.sb (.inr (by lia))
  exact wpS_pure (h _ st Eqv.rfl' (by simpa using this))
 ·rw[qak (by simpa using h1)];by_cases h2:0+1=a.size
  ·rw[qaf (by simpa using h2)]
   have:=m1.one T.sa T.sb h2 fun y q hy hq=>T.lst y q hy (by rw[<-h2];exact hq)
   exact wpS_pure (h _ st Eqv.rfl' (by simpa using this))
  ·rw[qak (by simpa using h2)];exact loZ_ok T hk m1 (by lia) (by lia) h
end
def jF:Array Keyed->Array Keyed->StateT SortSt Sem (Array Keyed):=sortPriv% PySem.Builtin.mergeHi
def uF(a b:Array Keyed):jF a b=(do
 rule "list.sort.merge-hi"
 let tot:=a.size+b.size
 let all (ou:Array Keyed) (m n:Nat):=a.extract 0 m++b.extract 0 n++ou.reverse
 let one (ou:Array Keyed) (m n:Nat):=b.extract 0 n++a.extract 0 m++ou.reverse
 let mut m:=a.size - 1
 let mut n:=b.size
 let mut ou:Array Keyed:=#[<-elem' a m]
 if m == 0 then return all ou m n
 if n == 1 then return one ou m n
 let mut g:=gallopOf (<-get)
 for _ in [0:tot] do
  let mut ca:=0
  let mut cb:=0
  for _ in [0:tot] do
   let some q <-lt' (<-elem' b (n - 1)) (<-elem' a (m - 1))|return all ou m n
   if q then
    m:=m - 1;ou:=ou.push (<-elem' a m);ca:=ca+1;cb:=0
    if m == 0 then return all ou m n
    if ca>=g then break
   else
    n:=n - 1;ou:=ou.push (<-elem' b n);cb:=cb+1;ca:=0
    if n == 1 then return one ou m n
    if cb>=g then break
  rule "list.sort.gallop"
  g:=g+1
  for _ in [0:tot] do
   if g>1 then g:=g - 1
   jk g
   let some z <-gallop' false (<-elem' b (n - 1)) a 0 m (m - 1)|return all ou m n
   let k:=m - z
   ca:=k
   if k>0 then
    ou:=ou++(a.extract z m).reverse;m:=z
    if m == 0 then return all ou m n
   n:=n - 1;ou:=ou.push (<-elem' b n)
   if n == 1 then return one ou m n
   let some z <-gallop' true (<-elem' a (m - 1)) b 0 n (n - 1)|return all ou m n
   let k:=n - z
   cb:=k
   if k>0 then
    ou:=ou++(b.extract z n).reverse;n:=z
    if n == 1 then return one ou m n
    if n == 0 then return all ou m n
   m:=m - 1;ou:=ou.push (<-elem' a m)
   if m == 0 then return all ou m n
   if ca<7 && cb<7 then break
  g:=g+1
  jk g
 unsupported "internal:list.sort.merge-bound"):=rfl
section
variable {prog:Program} {w:World} {A:Around} {E:Value→Shared→Prop} {s:Shared} {kd:SortKind} {O:KeyOrd} {C:Cmp prog w A E s kd O} {a b ou:Array Keyed} {m n:Nat} {st:SortSt}
structure HI (C:Cmp prog w A E s kd O) (a b ou:Array Keyed) (m n:Nat):Prop where
 perm:(a.toList.take m++b.toList.take n++ou.toList.reverse).Perm (a.toList++b.toList)
 srt:LS C ou.toList.reverse
 hgh:LB C (a.toList.take m++b.toList.take n) ou.toList.reverse
def HI.size(h:HI C a b ou m n)(hm:m<=a.size)(hn:n<=b.size):ou.size+m+n=a.size+b.size:=by
 have:=h.perm.length_eq
 simp at this;lia
def lx{xs:Array Keyed}{i:Nat}{p:Keyed}(h:xs[i]?=some p):xs.toList.take (i+1)=xs.toList.take i++[p]:=by
 rw[qbU,qaw,h];rfl
def i7{xs:Array Keyed}(h:LS C xs.toList)(i:Nat):LS C (xs.toList.take i):=h.sublist (List.take_sublist i _)
def lv{xs:Array Keyed}(h:LS C xs.toList){i:Nat}{p:Keyed}(hp:xs[i]?=some p):∀y∈xs.toList.take (i+1),O.kle (C.key y) (C.key p):=by
 have h1:=i7 h (i+1);rw[lx hp] at h1 ⊢;unfold LS at h1;rw[qcs] at h1;intro y hy;rcases qau.mp hy with hy|hy
 ·exact h1.2.2 y hy p (by simp)
 ·have:y=p:=by simpa using hy
  subst this;exact KeyOrd.kle_refl _
def eW(p:Keyed):(ou.push p).toList.reverse=p::ou.toList.reverse:=by simp
def HI.pushA(h:HI C a b ou (m+1) n)(ha:LS C a.toList)(hb:LS C b.toList){p:Keyed}(hp:a[m]?=some p)(hn:1<=n)(hnb:n<=b.size)(hq:∀q,b[n - 1]?=some q->O.kle (C.key q) (C.key p)):HI C a b (ou.push p) m n:=by
 have hd:=lx hp;obtain⟨q,hqq⟩:∃q,b[n - 1]?=some q:=⟨_,getElem?_pos b (n - 1) (by lia)⟩;have hle:∀y∈a.toList.take m++b.toList.take n,O.kle (C.key y) (C.key p):=by
  intro y hy;rcases qau.mp hy with hy|hy
  ·exact lv ha hp y (by rw[hd];exact qaH _ hy)
  ·refine KeyOrd.kle_trans (lv hb hqq y ?_) (hq q hqq)
   have:n - 1+1=n:=by lia
   rw[this];exact hy
 refine⟨?_,?_,?_⟩
 ·have:=h.perm
  rw[hd] at this;rw[eW];refine List.Perm.trans ?_ this;have e1:(a.toList.take m++b.toList.take n++p::ou.toList.reverse).Perm (p::(a.toList.take m++b.toList.take n++ou.toList.reverse)):=qbT;have e2:(a.toList.take m++[p]++b.toList.take n++ou.toList.reverse).Perm (p::(a.toList.take m++b.toList.take n++ou.toList.reverse)):=by
   have:a.toList.take m++[p]++b.toList.take n++ou.toList.reverse=a.toList.take m++p::(b.toList.take n++ou.toList.reverse):=by simp
   rw[this];have q:=qbT (a:=p) (l₁:=a.toList.take m) (l₂:=b.toList.take n++ou.toList.reverse);rw[<-qaV] at q;exact q
  exact e1.trans e2.symm
 ·rw[eW];unfold LS;rw[qbz];refine⟨fun y hy=>h.hgh p (qaH _ (by rw[hd];simp)) y hy,h.srt⟩
 ·rw[eW];intro x hx y hy;rcases qar.mp hy with rfl|hy
  ·exact hle x hx
  ·refine h.hgh x ?_ y hy;rcases qau.mp hx with hx|hx
   ·exact qaH _ (by rw[hd];exact qaH _ hx)
   ·exact qal _ hx
def HI.pushB(h:HI C a b ou m (n+1))(ha:LS C a.toList)(hb:LS C b.toList){p:Keyed}(hp:b[n]?=some p)(hm:1<=m)(hma:m<=a.size)(hq:∀q,a[m - 1]?=some q->O.kle (C.key q) (C.key p)):HI C a b (ou.push p) m n:=by
 have hd:=lx hp;obtain⟨q,hqq⟩:∃q,a[m - 1]?=some q:=⟨_,getElem?_pos a (m - 1) (by lia)⟩;have hle:∀y∈a.toList.take m++b.toList.take n,O.kle (C.key y) (C.key p):=by
  intro y hy;rcases qau.mp hy with hy|hy
  ·refine KeyOrd.kle_trans (lv ha hqq y ?_) (hq q hqq)
   have:m - 1+1=m:=by lia
   rw[this];exact hy
  ·exact lv hb hp y (by rw[hd];exact qaH _ hy)
 refine⟨?_,?_,?_⟩
 ·have:=h.perm
  rw[hd] at this;rw[eW];have e:a.toList.take m++(b.toList.take n++[p])++ou.toList.reverse=a.toList.take m++b.toList.take n++p::ou.toList.reverse:=by simp
  rw[e] at this;exact this
 ·rw[eW];unfold LS;rw[qbz];refine⟨fun y hy=>h.hgh p (qal _ (by rw[hd];simp)) y hy,h.srt⟩
 ·rw[eW];intro x hx y hy;rcases qar.mp hy with rfl|hy
  ·exact hle x hx
  ·refine h.hgh x ?_ y hy;rcases qau.mp hx with hx|hx
   ·exact qaH _ hx
   ·exact qal _ (by rw[hd];exact qaH _ hx)
def rQ{xs:Array Keyed}{m k:Nat}{p:Keyed}(hk:k<m)(hm:m<=xs.size)(h:xs[m - (k+1)]?=some p):ou++(xs.extract (m - (k+1)) m).reverse=(ou++(xs.extract (m - k) m).reverse).push p:=by
 apply qbo.mp;simp only[qbb,qct,qbh,qbK,qaR];have e1:m - (m - (k+1))=k+1:=by lia
 have e2:m - (m - k)=k:=by lia
 have e3:m - (k+1)+1=m - k:=by lia
 rw[e1,e2,i9 h,e3,List.take_succ_cons];simp
def HI.moveA(h:HI C a b ou m n)(ha:LS C a.toList)(hb:LS C b.toList)(hm:m<=a.size)(hn:1<=n)(hnb:n<=b.size):∀k,k<=m->(∀r p q,m - k<=r->r<m->a[r]?=some p->b[n - 1]?=some q->O.kle (C.key q) (C.key p)) ->
  HI C a b (ou++(a.extract (m - k) m).reverse) (m - k) n:=by
 intro k
 induction k with
 | zero =>
  intro _ _;have e:ou++(a.extract (m - 0) m).reverse=ou:=by apply qbo.mp;simp[qaR]
  rw[e];exact h
 | succ k ih =>
  intro hk hq;have hp:a[m - (k+1)]?=some (a[m - (k+1)]'(by lia)):=getElem?_pos a _ (by lia);have h1:=ih (by lia) fun r p q hr1 hr2=>hq r p q (by lia) hr2;have e:m - k=m - (k+1)+1:=by lia
  rw[rQ (by lia) hm hp];rw[e] at h1;have h2:=h1.pushA ha hb hp hn hnb (fun q hq'=>hq _ _ q (qag _) (by lia) hp hq');rw[<-e] at h2;exact h2
def HI.moveB(h:HI C a b ou m n)(ha:LS C a.toList)(hb:LS C b.toList)(hn:n<=b.size)(hm:1<=m)(hma:m<=a.size):∀k,k<=n->(∀r p q,n - k<=r->r<n->b[r]?=some p->a[m - 1]?=some q->O.kle (C.key q) (C.key p)) ->
  HI C a b (ou++(b.extract (n - k) n).reverse) m (n - k):=by
 intro k
 induction k with
 | zero =>
  intro _ _;have e:ou++(b.extract (n - 0) n).reverse=ou:=by apply qbo.mp;simp[qaR]
  rw[e];exact h
 | succ k ih =>
  intro hk hq;have hp:b[n - (k+1)]?=some (b[n - (k+1)]'(by lia)):=getElem?_pos b _ (by lia);have h1:=ih (by lia) fun r p q hr1 hr2=>hq r p q (by lia) hr2;have e:n - k=n - (k+1)+1:=by lia
  rw[rQ (by lia) hn hp];rw[e] at h1;have h2:=h1.pushB ha hb hp hm hma (fun q hq'=>hq _ _ q (qag _) (by lia) hp hq');rw[<-e] at h2;exact h2
def gn{xs:Array Keyed}{i:Nat}:(xs.extract 0 i).toList=xs.toList.take i:=by
 rw[qbK,qaR];simp
def HI.all(h:HI C a b ou m n)(ha:LS C a.toList)(hb:LS C b.toList)(hz:m=0\/n=0):MR C a b (a.extract 0 m++b.extract 0 n++ou.reverse):=by
 have e:(a.extract 0 m++b.extract 0 n++ou.reverse).toList=a.toList.take m++b.toList.take n++ou.toList.reverse:=by
  rw[qbb,qbb,gn,gn,qct]
 unfold MR;rw[e];refine⟨h.perm,cv ?_ h.srt h.hgh⟩;rcases hz with rfl|rfl
 ·simpa using i7 hb n
 ·simpa using i7 ha m
def HI.one(h:HI C a b ou m n)(T:Two C a b)(hz:n=1):MR C a b (b.extract 0 n++a.extract 0 m++ou.reverse):=by
 subst hz;have e:(b.extract 0 1++a.extract 0 m++ou.reverse).toList=b.toList.take 1++a.toList.take m++ou.toList.reverse:=by
  rw[qbb,qbb,gn,gn,qct]
 unfold MR;rw[e];have hnb:=T.nb;have hna:=T.na;have hp:b[0]?=some (b[0]'(by lia)):=getElem?_pos b 0 (by lia);have hq:a[0]?=some (a[0]'(by lia)):=getElem?_pos a 0 (by lia);have hd:=lx hp;refine⟨(List.Perm.append_right _ qcX).trans h.perm,cv (cv (i7 T.sb 1) (i7 T.sa m) ?_) h.srt ?_⟩
 ·intro x hx y hy;have hx':x=b[0]'(by lia):=by
   have:x∈b.toList.take (0+1):=hx
   rw[hd] at this;simpa using this
  subst hx';refine KeyOrd.kle_trans (T.fst _ _ hp hq) (i5 T.sa hq y ?_);rw[List.drop_zero];exact qcu hy
 ·intro x hx y hy;exact h.hgh x (qau.mpr (qau.mp hx).symm) y hy
end
abbrev HS:=Option (Array Keyed) × Nat × Nat × Array Keyed × Nat × Nat × Nat
def hiT3(a b ou:Array Keyed)(m n g ca cb:Nat):StateT SortSt Sem (ForInStep HS):=do
 let x <-elem' a (m - 1)
 if (m - 1 == 0)=true then pure (ForInStep.done (some (a.extract 0 (m - 1)++b.extract 0 n++(ou.push x).reverse),m - 1,n,ou.push x,g,ca,cb))
 else if (decide (ca<7) && decide (cb<7))=true then pure (ForInStep.done (none,m - 1,n,ou.push x,g,ca,cb))
 else pure (ForInStep.yield (none,m - 1,n,ou.push x,g,ca,cb))
def hiT2(a b ou:Array Keyed)(m n g ca cb:Nat):StateT SortSt Sem (ForInStep HS):=do
 let x <-elem' b (n - 1)
 if (n - 1 == 1)=true then pure (ForInStep.done (some (b.extract 0 (n - 1)++a.extract 0 m++(ou.push x).reverse),m,n - 1,ou.push x,g,ca,cb))
 else do
  let y <-elem' a (m - 1)
  let q <-gallop' true y b 0 (n - 1) (n - 1 - 1)
  match q with
  | some z =>
   if n - 1 - z>0 then
    if (z == 1)=true then
     pure (ForInStep.done (some (b.extract 0 z++a.extract 0 m++(ou.push x++(b.extract z (n - 1)).reverse).reverse),m,z,ou.push x++(b.extract z (n - 1)).reverse,g,ca,n - 1 - z))
    else if (z == 0)=true then
     pure (ForInStep.done (some (a.extract 0 m++b.extract 0 z++(ou.push x++(b.extract z (n - 1)).reverse).reverse),m,z,ou.push x++(b.extract z (n - 1)).reverse,g,ca,n - 1 - z))
    else hiT3 a b (ou.push x++(b.extract z (n - 1)).reverse) m z g ca (n - 1 - z)
   else hiT3 a b (ou.push x) m (n - 1) g ca (n - 1 - z)
  | _=>pure (ForInStep.done (some (a.extract 0 m++b.extract 0 (n - 1)++(ou.push x).reverse),m,n - 1,ou.push x,g,ca,cb))
def hiT1(a b ou:Array Keyed)(m n g ca cb:Nat):StateT SortSt Sem (ForInStep HS):=do
 jk g
 let x <-elem' b (n - 1)
 let q <-gallop' false x a 0 m (m - 1)
 match q with
 | some z =>
  if m - z>0 then
   if (z == 0)=true then
    pure (ForInStep.done (some (a.extract 0 z++b.extract 0 n++(ou++(a.extract z m).reverse).reverse),z,n,ou++(a.extract z m).reverse,g,m - z,cb))
   else hiT2 a b (ou++(a.extract z m).reverse) z n g (m - z) cb
  else hiT2 a b ou m n g (m - z) cb
 | _=>pure (ForInStep.done (some (a.extract 0 m++b.extract 0 n++ou.reverse),m,n,ou,g,ca,cb))
abbrev HB:=Option (Array Keyed) × Nat × Nat × Array Keyed × Nat × Nat
abbrev HC:=Option (Array Keyed) × Nat × Nat × Array Keyed × Nat
def hiP(a b:Array Keyed)(g:Nat)(c:HB):StateT SortSt Sem (ForInStep HB):=do
 let x <-elem' b (c.2.2.1 - 1)
 let y <-elem' a (c.2.1 - 1)
 let q <-lt' x y
 match q with
 | some q =>
  if q=true then do
   let z <-elem' a (c.2.1 - 1)
   if (c.2.1 - 1 == 0)=true then pure (ForInStep.done (some (a.extract 0 (c.2.1 - 1)++b.extract 0 c.2.2.1++(c.2.2.2.1.push z).reverse),c.2.1 - 1,c.2.2.1,c.2.2.2.1.push z,c.2.2.2.2.1+1,0))
   else if c.2.2.2.2.1+1>=g then pure (ForInStep.done (none,c.2.1 - 1,c.2.2.1,c.2.2.2.1.push z,c.2.2.2.2.1+1,0))
   else pure (ForInStep.yield (none,c.2.1 - 1,c.2.2.1,c.2.2.2.1.push z,c.2.2.2.2.1+1,0))
  else do
   let z <-elem' b (c.2.2.1 - 1)
   if (c.2.2.1 - 1 == 1)=true then pure (ForInStep.done (some (b.extract 0 (c.2.2.1 - 1)++a.extract 0 c.2.1++(c.2.2.2.1.push z).reverse),c.2.1,c.2.2.1 - 1,c.2.2.2.1.push z,0,c.2.2.2.2.2+1))
   else if c.2.2.2.2.2+1>=g then pure (ForInStep.done (none,c.2.1,c.2.2.1 - 1,c.2.2.2.1.push z,0,c.2.2.2.2.2+1))
   else pure (ForInStep.yield (none,c.2.1,c.2.2.1 - 1,c.2.2.2.1.push z,0,c.2.2.2.2.2+1))
 | _=>pure (ForInStep.done (some (a.extract 0 c.2.1++b.extract 0 c.2.2.1++c.2.2.2.1.reverse),c.2.1,c.2.2.1,c.2.2.2.1,c.2.2.2.2.1,c.2.2.2.2.2))
def hiG(a b:Array Keyed)(c:HS):StateT SortSt Sem (ForInStep HS) :=
 if c.2.2.2.2.1>1 then hiT1 a b c.2.2.2.1 c.2.1 c.2.2.1 (c.2.2.2.2.1 - 1) c.2.2.2.2.2.1 c.2.2.2.2.2.2
 else hiT1 a b c.2.2.2.1 c.2.1 c.2.2.1 c.2.2.2.2.1 c.2.2.2.2.2.1 c.2.2.2.2.2.2
def hiE(c:HS):StateT SortSt Sem (ForInStep HC) :=
 match c.1 with
 | some r=>pure (ForInStep.done (some r,c.2.1,c.2.2.1,c.2.2.2.1,c.2.2.2.2.1))
 | none=>do
  jk (c.2.2.2.2.1+1)
  pure (ForInStep.yield (none,c.2.1,c.2.2.1,c.2.2.2.1,c.2.2.2.2.1+1))
def hiD(a b:Array Keyed)(g:Nat)(c:HB):StateT SortSt Sem (ForInStep HC) :=
 match c.1 with
 | some r=>pure (ForInStep.done (some r,c.2.1,c.2.2.1,c.2.2.2.1,g))
 | none=>do
  liftM (rule "list.sort.gallop")
  let e <-forIn [:a.size+b.size] ((none,c.2.1,c.2.2.1,c.2.2.2.1,g+1,c.2.2.2.2.1,c.2.2.2.2.2):HS) fun _ e=>hiG a b e
  hiE e
def hiO(a b:Array Keyed)(c:HC):StateT SortSt Sem (ForInStep HC):=do
 let d <-forIn [:a.size+b.size] ((none,c.2.1,c.2.2.1,c.2.2.2.1,0,0):HB) fun _ d=>hiP a b c.2.2.2.2 d
 hiD a b c.2.2.2.2 d
def hiZ(a b:Array Keyed)(x:Keyed):StateT SortSt Sem (Array Keyed):=do
 let g <-get
 let r <-forIn [:a.size+b.size] ((none,a.size - 1,b.size,#[x],gallopOf g):HC) fun _ c=>hiO a b c
 match r.1 with
 | some r=>pure r
 | none=>liftM (unsupported "internal:list.sort.merge-bound":Sem (Array Keyed))
def hi_n(a b:Array Keyed):jF a b=(do
 liftM (rule "list.sort.merge-hi")
 let x <-elem' a (a.size - 1)
 if (a.size - 1 == 0)=true then pure (a.extract 0 (a.size - 1)++b.extract++#[x].reverse)
 else if (b.size == 1)=true then pure (b.extract++a.extract 0 (a.size - 1)++#[x].reverse)
 else hiZ a b x):=by
 rw[uF];dsimp only;refine congrArg (Bind.bind _) (funext fun _=>congrArg (Bind.bind _) (funext fun x=>congrArg (fun z=>ite _ _ (ite _ _ z)) ?_));unfold hiZ;have e:∀{α β:Type} {x y:StateT SortSt Sem α} {f h:α->StateT SortSt Sem β},x=y->(∀a,f a=h a)->(x >>= f)=(y >>= h):=fun e f=>by rw[e,funext f]
 refine congrArg (Bind.bind _) (funext fun g=>e (congrArg (forIn _ _) (funext fun _=>funext fun c=>?_)) fun ⟨r,_⟩=>by cases r <;> rfl);refine e rfl fun d=>?_;obtain⟨d1,d2⟩:=d
 cases d1 with
 | some r=>rfl
 | none=>exact congrArg (Bind.bind _) (funext fun _=>e rfl fun ⟨r,_⟩=>by cases r <;> rfl)
section
variable {prog:Program} {w:World} {A:Around} {E:Value→Shared→Prop} {s:Shared} {kd:SortKind} {O:KeyOrd} {C:Cmp prog w A E s kd O} {st:SortSt} {a b:Array Keyed}
def LIh(C:Cmp prog w A E s kd O)(a b:Array Keyed)(N:Nat)(c:HS):Prop :=
 c.1=none/\HI C a b c.2.2.2.1 c.2.1 c.2.2.1/\1<=c.2.1/\c.2.1<=a.size/\2<=c.2.2.1/\c.2.2.1<=b.size/\N<=c.2.2.2.1.size
def og(C:Cmp prog w A E s kd O)(a b:Array Keyed)(N:Nat)(st:SortSt)(r:ForInStep HS)(st':SortSt):Prop:=Eqv st st'/\match r with
 | .done c=>(∃x,c.1=some x/\MR C a b x)\/LIh C a b N c
 | .yield c=>LIh C a b N c
def vG(T:Two C a b)(h:HI C a b ou m n)(hm:1<=m)(hma:m<=a.size)(hn:2<=n)(hnb:n<=b.size)(hN:N<=ou.size)
  (hle:∀p q,b[n - 1]?=some p->a[m - 1]?=some q->O.kle (C.key p) (C.key q)):wpS (model prog w) A E s (hiT3 a b ou m n g ca cb) (og C a b N st) st:=by
 unfold hiT3;refine wpS_bind (aX (by lia) fun x hx=>?_);have e:m=m - 1+1:=by lia
 have h1:HI C a b (ou.push x) (m - 1) n:=by
  have h':=h;rw[e] at h';exact h'.pushA T.sa T.sb hx (by lia) hnb (fun q hq=>hle q x hq hx)
 have hsz:(ou.push x).size=ou.size+1:=qbx ..;by_cases z1:m - 1=0
 ·rw[qaf (by simpa using z1)];exact wpS_pure ⟨Eqv.rfl',.inl ⟨_,rfl,h1.all T.sa T.sb (.inl z1)⟩⟩
 ·rw[qak (by simpa using z1)];have li:LIh C a b N (none,m - 1,n,ou.push x,g,ca,cb):=⟨rfl,h1,by show 1<=m - 1;lia,by show m - 1<=a.size;lia,hn,hnb,by show N<=(ou.push x).size;lia⟩;split
  ·exact wpS_pure ⟨Eqv.rfl',.inr li⟩
  ·exact wpS_pure ⟨Eqv.rfl',li⟩
def vH(T:Two C a b)(hk:kindOf st=kd)(h:HI C a b ou m n)(hm:1<=m)(hma:m<=a.size)(hn:2<=n)(hnb:n<=b.size)(hN:N<=ou.size)
  (hle:∀p q,a[m - 1]?=some p->b[n - 1]?=some q->O.kle (C.key p) (C.key q)):wpS (model prog w) A E s (hiT2 a b ou m n g ca cb) (og C a b N st) st:=by
 unfold hiT2;refine wpS_bind (aX (by lia) fun x hx=>?_);have e:n=n - 1+1:=by lia
 have h1:HI C a b (ou.push x) m (n - 1):=by
  have h':=h;rw[e] at h';exact h'.pushB T.sa T.sb hx hm hma (fun q hq=>hle q x hq hx)
 have hsz:(ou.push x).size=ou.size+1:=qbx ..;by_cases z1:n - 1=1
 ·rw[qaf (by simpa using z1)];exact wpS_pure ⟨Eqv.rfl',.inl ⟨_,rfl,h1.one T z1⟩⟩
 ·rw[qak (by simpa using z1)];refine wpS_bind (aX (by lia) fun y hy=>?_);refine wpS_bind (dO (C:=C) hk T.gb (bJ T.ga hy) (by lia) (by lia) ?_ fun z hz hlo hhi=>?_)
  ·intro p q hp hpq hq;exact kB T.sb p q (qaP _) hpq (by lia)
  ·have hlo':∀r p q,r<z->b[r]?=some p->a[m - 1]?=some q->O.kle (C.key p) (C.key q):=fun r p q hr hp hq=>by
    have:=hlo r hr
    unfold ahead at this;rw[qaU,aV hp] at this;rw[hy] at hq;cases hq;exact KeyOrd.kle_of_klt this
   have hhi':∀r p q,z<=r->r<n - 1->b[r]?=some p->a[m - 1]?=some q->O.kle (C.key q) (C.key p):=fun r p q hr1 hr2 hp hq=>by
    have:=hhi r hr1 hr2
    unfold ahead at this;rw[qaU,aV hp] at this;rw[hy] at hq;cases hq;exact this
   dsimp only;by_cases hk0:n - 1 - z>0
   ·rw[qaf hk0];have ez:n - 1 - (n - 1 - z)=z:=by lia
    have h2:=h1.moveB T.sa T.sb (by lia) hm hma (n - 1 - z) (by lia) (fun r p q hr1 hr2=>hhi' r p q (by lia) hr2);rw[ez] at h2;by_cases z2:z=1
    ·rw[qaf (by simpa using z2)];exact wpS_pure ⟨Eqv.rfl',.inl ⟨_,rfl,h2.one T z2⟩⟩
    ·rw[qak (by simpa using z2)];by_cases z3:z=0
     ·rw[qaf (by simpa using z3)];exact wpS_pure ⟨Eqv.rfl',.inl ⟨_,rfl,h2.all T.sa T.sb (.inr z3)⟩⟩
     ·rw[qak (by simpa using z3)];exact vG T h2 hm hma (by lia) (by lia) (by rw[qbZ];lia) (fun p q hp hq=>hlo' (z - 1) p q (by lia) hp hq)
   ·rw[qak hk0];exact vG T h1 hm hma (by lia) (by lia) (by lia) (fun p q hp hq=>hlo' (n - 1 - 1) p q (by lia) hp hq)
def u9(T:Two C a b)(hk:kindOf st=kd)(h:HI C a b ou m n)(hm:1<=m)(hma:m<=a.size)(hn:2<=n)(hnb:n<=b.size)(hN:N<=ou.size) :
  wpS (model prog w) A E s (hiT1 a b ou m n g ca cb) (og C a b N st) st:=by
 unfold hiT1;rw[lC];refine wpS_bind (wpS_modify ?_);have ev:Eqv st (SortSt.mk' (kindOf st) (arrOf st) (pendingOf st) g (failedOf st)):=⟨rfl,rfl,rfl,rfl⟩;refine wpS_mono (Q:=og C a b N (SortSt.mk' (kindOf st) (arrOf st) (pendingOf st) g (failedOf st))) ?_ fun r st' h=>⟨ev.trans h.1,h.2⟩;have hk':kindOf (SortSt.mk' (kindOf st) (arrOf st) (pendingOf st) g (failedOf st))=kd:=hk;refine wpS_bind (aX (by lia) fun x hx=>?_);refine wpS_bind (dO (C:=C) hk' T.ga (bJ T.gb hx) (by lia) (by lia) ?_ fun z hz hlo hhi=>?_)
 ·intro p q hp hpq hq;exact kB T.sa p q (qaP _) hpq (by lia)
 ·have hlo':∀r p q,r<z->a[r]?=some p->b[n - 1]?=some q->O.kle (C.key p) (C.key q):=fun r p q hr hp hq=>by
   have:=hlo r hr
   unfold ahead at this;rw[qaU,aV hp] at this;rw[hx] at hq;cases hq;simp only[qac,if_false,qbO] at this;exact this
  have hhi':∀r p q,z<=r->r<m->a[r]?=some p->b[n - 1]?=some q->O.kle (C.key q) (C.key p):=fun r p q hr1 hr2 hp hq=>by
   have:=hhi r hr1 hr2
   unfold ahead at this;rw[qaU,aV hp] at this;rw[hx] at hq;cases hq;simp only[qac,if_false,qcC] at this;exact KeyOrd.kle_of_klt this
  dsimp only;by_cases hk0:m - z>0
  ·rw[qaf hk0];have ez:m - (m - z)=z:=by lia
   have h2:=h.moveA T.sa T.sb hma (by lia) hnb (m - z) (by lia) (fun r p q hr1 hr2=>hhi' r p q (by lia) hr2);rw[ez] at h2;by_cases z2:z=0
   ·rw[qaf (by simpa using z2)];exact wpS_pure ⟨Eqv.rfl',.inl ⟨_,rfl,h2.all T.sa T.sb (.inl z2)⟩⟩
   ·rw[qak (by simpa using z2)];exact vH T hk' h2 (by lia) (by lia) hn hnb (by rw[qbZ];lia) (fun p q hp hq=>hlo' (z - 1) p q (by lia) hp hq)
  ·rw[qak hk0];exact vH T hk' h hm hma hn hnb hN (fun p q hp hq=>hlo' (m - 1) p q (by lia) hp hq)
def L1h(C:Cmp prog w A E s kd O)(a b:Array Keyed)(N:Nat)(c:HB):Prop :=
 c.1=none/\HI C a b c.2.2.2.1 c.2.1 c.2.2.1/\1<=c.2.1/\c.2.1<=a.size/\2<=c.2.2.1/\c.2.2.1<=b.size/\N<=c.2.2.2.1.size
def L0h(C:Cmp prog w A E s kd O)(a b:Array Keyed)(N:Nat)(c:HC):Prop :=
 c.1=none/\HI C a b c.2.2.2.1 c.2.1 c.2.2.1/\1<=c.2.1/\c.2.1<=a.size/\2<=c.2.2.1/\c.2.2.1<=b.size/\N<=c.2.2.2.1.size
def Step1(C:Cmp prog w A E s kd O)(a b:Array Keyed)(N:Nat)(st:SortSt)(r:ForInStep HB)(st':SortSt):Prop:=match r with
 | .done c=>st'=st/\((∃x,c.1=some x/\MR C a b x)\/L1h C a b N c)
 | .yield c=>st'=st/\L1h C a b N c
def wp(C:Cmp prog w A E s kd O)(a b:Array Keyed)(N:Nat)(st:SortSt)(r:ForInStep HC)(st':SortSt):Prop:=match r with
 | .done c=>Eqv st st'/\∃x,c.1=some x/\MR C a b x
 | .yield c=>Eqv st st'/\L0h C a b N c
def hiP_ok(T:Two C a b)(hk':kindOf st=kd)(hI':HI C a b ou' m' n')(hm':1<=m')(hma':m'<=a.size)(hn':2<=n')(hnb2:n'<=b.size)(hN:N<=ou'.size) :
  wpS (model prog w) A E s (hiP a b g (none,m',n',ou',ca,cb)) (Step1 C a b (N+1) st) st:=by
 unfold hiP;dsimp only;refine wpS_bind (aX (by lia) fun p hp=>wpS_bind (aX (by lia) fun q hq=>?_));refine wpS_bind (C.ask p q st _ (bJ T.gb hp) (bJ T.ga hq) hk' ?_)
 cases hz:O.blt (C.key p) (C.key q) with
 | true =>
  dsimp only;rw[qaf rfl];refine wpS_bind (aX (by lia) fun q' hq'=>?_);rw[hq] at hq';cases hq';have em:m'=m' - 1+1:=by lia
  have h2:HI C a b (ou'.push q) (m' - 1) n':=by
   have h':=hI';rw[em] at h';exact h'.pushA T.sa T.sb hq (by lia) hnb2 (fun p' hp'=>by rw[hp] at hp';cases hp';exact KeyOrd.kle_of_klt hz)
  have hs2:(ou'.push q).size=ou'.size+1:=qbx ..;by_cases z3:m' - 1=0
  ·rw[qaf (by simpa using z3)];exact wpS_pure ⟨rfl,.inl ⟨_,rfl,h2.all T.sa T.sb (.inl z3)⟩⟩
  ·rw[qak (by simpa using z3)];split
   ·exact wpS_pure ⟨rfl,.inr ⟨rfl,h2,by lia,by lia,hn',hnb2,by rw[hs2];lia⟩⟩
   ·exact wpS_pure ⟨rfl,rfl,h2,by lia,by lia,hn',hnb2,by rw[hs2];lia⟩
 | false =>
  dsimp only;rw[qak (by simp)];refine wpS_bind (aX (by lia) fun p' hp'=>?_);rw[hp] at hp';cases hp';have en:n'=n' - 1+1:=by lia
  have h2:HI C a b (ou'.push p) m' (n' - 1):=by
   have h':=hI';rw[en] at h';exact h'.pushB T.sa T.sb hp hm' hma' (fun q' hq'=>by rw[hq] at hq';cases hq';exact hz)
  have hs2:(ou'.push p).size=ou'.size+1:=qbx ..;by_cases z3:n' - 1=1
  ·rw[qaf (by simpa using z3)];exact wpS_pure ⟨rfl,.inl ⟨_,rfl,h2.one T z3⟩⟩
  ·rw[qak (by simpa using z3)];split
   ·exact wpS_pure ⟨rfl,.inr ⟨rfl,h2,hm',hma',by lia,by lia,by rw[hs2];lia⟩⟩
   ·exact wpS_pure ⟨rfl,rfl,h2,hm',hma',by lia,by lia,by rw[hs2];lia⟩
def hiE_ok(ev:Eqv st0 st)(hc:(∃x,c.1=some x/\MR C a b x)\/LIh C a b N c):wpS (model prog w) A E s (hiE c) (wp C a b N st0) st:=by
 obtain⟨c1,m3,n3,ou3,g3,ca3,cb3⟩:=c;rcases hc with ⟨r,hr,mr⟩|⟨hc,hr⟩
 ·cases hr;exact wpS_pure ⟨ev,r,rfl,mr⟩
 ·cases hc;unfold hiE;dsimp only;rw[lC];exact wpS_bind (wpS_modify (wpS_pure ⟨ev.trans ⟨rfl,rfl,rfl,rfl⟩,rfl,hr⟩))
def hiG_ok(T:Two C a b)(hk:kindOf st=kd)(h:LIh C a b N c):wpS (model prog w) A E s (hiG a b c) (og C a b N st) st:=by
 obtain⟨_,i3,hm3,hma3,hn3,hnb3,hN3⟩:=h;unfold hiG;split
 ·exact u9 T hk i3 hm3 hma3 hn3 hnb3 hN3
 ·exact u9 T hk i3 hm3 hma3 hn3 hnb3 hN3
def hiD_ok(T:Two C a b)(hk:kindOf st=kd)(ev:Eqv st0 st)(hc:(∃x,c.1=some x/\MR C a b x)\/L1h C a b N c):wpS (model prog w) A E s (hiD a b g c) (wp C a b N st0) st:=by
 obtain⟨c1,m',n',ou',ca,cb⟩:=c;rcases hc with ⟨r,hr,mr⟩|⟨hc,hr⟩
 ·cases hr;exact wpS_pure ⟨ev,r,rfl,mr⟩
 ·cases hc;unfold hiD;dsimp only;refine wpS_bind (wpS_lift (wpAny_rule ⟨rfl,?_⟩));refine wpS_bind (wpS_mono (wpS_forRange (I:=fun y c st3=>Eqv st st3/\LIh C a b N c) (Q:=fun c st3=>Eqv st st3/\((∃x,c.1=some x/\MR C a b x)\/LIh C a b N c)) ?_ ?_ ⟨Eqv.rfl',rfl,hr⟩) ?_)
  ·rintro y c st3 _ hy ⟨ev3,h3⟩;refine wpS_mono (hiG_ok T (ev3.kind.trans hk) h3) fun r st4 hr=>?_
   cases r with
   | done c'=>exact⟨ev3.trans hr.1,hr.2⟩
   | yield c'=>exact⟨ev3.trans hr.1,hr.2⟩
  ·rintro c st3 ⟨ev3,hli⟩;exact⟨ev3,.inr hli⟩
  ·rintro c st3 ⟨ev3,hc⟩;exact hiE_ok (ev.trans ev3) hc
def hiO_ok(T:Two C a b)(hk:kindOf st=kd)(h:L0h C a b N c):wpS (model prog w) A E s (hiO a b c) (wp C a b (N+1) st) st:=by
 obtain⟨c1,m,n,ou,g⟩:=c;obtain⟨hc,hI,hm,hma,hn,hnb',hsz⟩:=h;cases hc;unfold hiO
 refine wpS_bind (wpS_mono (wpS_forRange (I:=fun y c st''=>st''=st/\L1h C a b (N+y) c)
  (Q:=fun c st''=>st''=st/\((∃x,c.1=some x/\MR C a b x)\/L1h C a b (N+1) c)) ?_ ?_ ⟨rfl,rfl,hI,hm,hma,hn,hnb',hsz⟩) ?_)
 ·rintro y c st'' _ hy ⟨rfl,h1⟩;obtain⟨c1,m',n',ou',ca,cb⟩:=c;obtain⟨hc,hI',hm',hma',hn',hnb2,hsz'⟩:=h1;cases hc;refine wpS_mono (hiP_ok T hk hI' hm' hma' hn' hnb2 hsz') fun r st4 hr=>?_
  cases r with
  | done c'=>exact⟨hr.1,hr.2.imp_right fun h=>⟨h.1,h.2.1,h.2.2.1,h.2.2.2.1,h.2.2.2.2.1,h.2.2.2.2.2.1,qaD (by lia) h.2.2.2.2.2.2⟩⟩
  | yield c'=>exact hr
 ·rintro c st'' ⟨rfl,h⟩
  have:=T.na
  exact⟨rfl,.inr ⟨h.1,h.2.1,h.2.2.1,h.2.2.2.1,h.2.2.2.2.1,h.2.2.2.2.2.1,qaD (by lia) h.2.2.2.2.2.2⟩⟩
 ·rintro c st'' ⟨rfl,hc⟩;exact hiD_ok T hk Eqv.rfl' hc
def hiZ_ok(T:Two C a b)(hk:kindOf st=kd)(h1:HI C a b #[x0] (a.size - 1) b.size)(hm:1<=a.size - 1)(hn:2<=b.size)(h:∀x st',Eqv st st'->MR C a b x->Q x st'):wpS (model prog w) A E s (hiZ a b x0) Q st:=by
 unfold hiZ;refine wpS_bind (wpS_get ?_)
 refine wpS_bind (wpS_mono (wpS_forRange (I:=fun x c st'=>Eqv st st'/\L0h C a b (x+1) c)
  (Q:=fun c st'=>Eqv st st'/\∃x,c.1=some x/\MR C a b x) ?_ ?_ ⟨Eqv.rfl',rfl,h1,hm,Nat.sub_le _ _,hn,qag _,qag _⟩) ?_)
 ·rintro x c st' _ hx ⟨ev,h0⟩;refine wpS_mono (hiO_ok T (ev.kind.trans hk) h0) fun r st4 hr=>?_
  cases r with
  | done c'=>exact⟨ev.trans hr.1,hr.2⟩
  | yield c'=>exact⟨ev.trans hr.1,hr.2⟩
 ·rintro c st' ⟨ev,h0⟩;exfalso
  have:=h0.2.1.size h0.2.2.2.1 h0.2.2.2.2.2.1
  have:=h0.2.2.2.2.2.2
  lia
 ·rintro c st' ⟨ev,r,hr,mr⟩;obtain⟨c1,c2⟩:=c;cases hr;exact wpS_pure (h r st' ev mr)
def wps_hi(T:Two C a b)(hk:kindOf st=kd)(h:∀x st',Eqv st st'->MR C a b x->Q x st'):wpS (model prog w) A E s (jF a b) Q st:=by
 rw[hi_n];refine wpS_bind (wpS_lift (wpAny_rule ⟨rfl,?_⟩));have hna:=T.na;have hnb:=T.nb;refine wpS_bind (aX (by lia) fun x0 hx0=>?_)
 have h0:HI C a b #[] a.size b.size:=⟨by
   have e1:a.toList.take a.size=a.toList:=qbk (by simp);have e2:b.toList.take b.size=b.toList:=qbk (by simp)
   rw[e1,e2];simp,by unfold LS;simp,fun x _ y hy=>by simp at hy⟩
 have h1:HI C a b #[x0] (a.size - 1) b.size:=by
  have e:a.size=a.size - 1+1:=by lia
  have h':HI C a b #[] (a.size - 1+1) b.size:=by rw[<-e];exact h0
  have:=h'.pushA T.sa T.sb hx0 hnb (qag _) (fun q hq=>T.lst q x0 (qaB.mpr ⟨_,by rw[qaw];exact hq⟩) hx0)
  simpa using this
 by_cases z1:a.size - 1=0
 ·rw[qaf (by simpa using z1)];exact wpS_pure (h _ st Eqv.rfl' (h1.all T.sa T.sb (.inl z1)))
 ·rw[qak (by simpa using z1)];by_cases z2:b.size=1
  ·rw[qaf (by simpa using z2)];exact wpS_pure (h _ st Eqv.rfl' (h1.one T z2))
  ·rw[qak (by simpa using z2)];exact hiZ_ok T hk h1 (by lia) (by lia) h
end
def uC(i:Nat):mergeAt' i=(do
 let c <-get
 let (some (sa,na,pw),some (sb,nb,_)):=((pendingOf c)[i]?,(pendingOf c)[i+1]?)|unsupported "internal:list.sort.pending"
 set (setPending c (((pendingOf c).setIfInBounds i (sa,na+nb,pw)).eraseIdxIfInBounds (i+1)))
 let some k <-gallop' false (<-elem' (arrOf c) sb) (arrOf c) sa na 0|return false
 let (sa,na):=(sa+k,na - k)
 if na == 0 then return true
 let some nb <-gallop' true (<-elem' (arrOf c) (sa+na - 1)) (arrOf c) sb nb (nb - 1)|return false
 if nb == 0 then return true
 let x:=(arrOf c).extract sa sb
 let y:=(arrOf c).extract sb (sb+nb)
 let ou <-if na<=nb then jN x y else jF x y
 modify fun c=>setArr c (ou.toList.zipIdx.foldl (fun a (p,j)=>a.setIfInBounds (sa+j) p) (arrOf c))
 return (failedOf (<-get)).isNone):=rfl
def lay_get(off:Nat):∀(l:List Keyed) (q:Nat) (xs:Array Keyed) (i:Nat),((l.zipIdx q).foldl (fun a (p:Keyed × Nat)=>a.setIfInBounds (off+p.2) p.1) xs)[i]? =
  if off+q<=i/\i<off+q+l.length/\i<xs.size then l[i - (off+q)]? else xs[i]?:=by
 intro l
 induction l with
 | nil=>intro q xs i;rw[qak (by simp;lia)];rfl
 | cons p l ih =>
  intro q xs i;rw[qcM,qcw,ih];simp only[Array.size_setIfInBounds,qaE];by_cases h1:off+q=i
  ·subst h1;rw[qak (by lia),qbW];by_cases h2:off+q<xs.size
   ·have h3:off+q<=off+q/\off+q<off+q+(l.length+1)/\off+q<xs.size:=⟨by lia,by lia,h2⟩;simp[h2,h3]
   ·have h3:¬(off+q<=off+q/\off+q<off+q+(l.length+1)/\off+q<xs.size):=fun z=>h2 z.2.2;rw[qak h3];simp[h2]
  ·by_cases h2:off+(q+1)<=i/\i<off+(q+1)+l.length/\i<xs.size
   ·rw[qaf h2,qaf (by lia)];obtain⟨d,hd⟩:∃d,i - (off+q)=d+1:=⟨i - (off+q) - 1,by lia⟩;have hd2:i - (off+(q+1))=d:=by lia
    rw[hd,hd2,qbC]
   ·rw[qak h2,qbW,qak h1];by_cases h3:off+q<=i/\i<off+q+(l.length+1)/\i<xs.size
    ·exfalso;lia
    ·rw[qak h3]
def zL{xs ou:Array Keyed}{off:Nat}(h:off+ou.size<=xs.size) :
  (ou.toList.zipIdx.foldl (fun a (p:Keyed × Nat)=>a.setIfInBounds (off+p.2) p.1) xs).toList=xs.toList.take off++(ou.toList++xs.toList.drop (off+ou.size)):=by
 apply qbu;intro i;rw[qaw,lay_get];have hl:(xs.toList.take off).length=off:=by simp;lia
 by_cases h1:i<off
 ·rw[qak (by lia),qam (by lia),qby h1,qaw]
 ·rw[qaA (by lia),hl];by_cases h2:i<off+ou.size
  ·rw[qaf ⟨by lia,by simpa using h2,by lia⟩,qam (by simp;lia)];congr 1
  ·rw[qak (by simp;lia),qaA (by simp;lia),qbX,qaw];congr 1;simp;lia
section
variable {prog:Program} {w:World} {A:Around} {E:Value→Shared→Prop} {s:Shared} {kd:SortKind} {O:KeyOrd} {C:Cmp prog w A E s kd O} {a₀:Array Keyed} {st:SortSt}
def gE{xs:Array Keyed}{lo hi i j:Nat}(h:Srt C xs lo hi)(hi':lo<=i)(hij:i<=j)(hj:j<hi){p q:Keyed}(hp:xs[i]?=some p)(hq:xs[j]?=some q):O.kle (C.key p) (C.key q):=by
 have:=h i j hi' hij hj
 rw[aV hp,aV hq] at this;exact this
def v3{xs:Array Keyed}{lo hi:Nat}{p:Keyed}(hhi:hi<=xs.size)(h:p∈(xs.extract lo hi).toList):∃i,lo<=i/\i<hi/\xs[i]?=some p:=by
 obtain⟨q,hq⟩:=qaB.mp h;rw[qaw,qbG] at hq
 split at hq
 ·rename_i h1
  exact⟨lo+q,by lia,by lia,hq⟩
 ·cases hq
def split3{xs:Array Keyed}{i j k:Nat}(h1:i<=j)(h2:j<=k)(h3:k<=xs.size):xs.toList=xs.toList.take i++((xs.extract i j).toList++(xs.extract j k).toList++xs.toList.drop k):=by
 have e1:(xs.extract i j).toList=(xs.toList.drop i).take (j - i):=by simp[qaR]
 have e2:(xs.extract j k).toList=(xs.toList.drop j).take (k - j):=by simp[qaR]
 rw[e1,e2];have a1:(xs.toList.drop j).take (k - j)++xs.toList.drop k=xs.toList.drop j:=by
  have:=qbq (k - j) (xs.toList.drop j)
  rw[List.drop_drop] at this;have e:j+(k - j)=k:=by lia
  rw[e] at this;exact this
 have a2:(xs.toList.drop i).take (j - i)++xs.toList.drop j=xs.toList.drop i:=by
  have:=qbq (j - i) (xs.toList.drop i)
  rw[List.drop_drop] at this;have e:i+(j - i)=j:=by lia
  rw[e] at this;exact this
 rw[qaV,a1,a2,qbq]
def uA{n1 pw:Nat}{Q:Bool->SortSt->Prop}(h0:cK C a₀)(hB:SB kd a₀ st)(h1:1<=n1)(h2:n1<a₀.size)(hp:pendingOf st=#[(0,n1,pw),(n1,a₀.size - n1,0)])
  (hs1:Srt C (arrOf st) 0 n1) (hs2:Srt C (arrOf st) n1 a₀.size)
  (h:∀st',SB kd a₀ st'->(pendingOf st').size=1->Srt C (arrOf st') 0 a₀.size->Q true st'):wpS (model prog w) A E s (mergeAt' 0) Q st:=by
 have hsz:=hB.size;have hg:=hB.good h0;rw[uC];refine wpS_bind (wpS_get ?_);rw[hp];have e0:(#[(0,n1,pw),(n1,a₀.size - n1,0)]:Array (Nat × Nat × Nat))[0]?=some (0,n1,pw):=rfl;have e1:(#[(0,n1,pw),(n1,a₀.size - n1,0)]:Array (Nat × Nat × Nat))[0+1]?=some (n1,a₀.size - n1,0):=rfl;rw[e0,e1];dsimp only;refine wpS_bind ?_;have hset:∀(c:SortSt) (Q':PUnit->SortSt->Prop),Q' ⟨⟩ c->wpS (model prog w) A E s (set c:StateT SortSt Sem PUnit) Q' st:=fun c Q' hq=>by
  unfold wpS;rw[StateT.run_set];exact qah ⟨rfl,hq⟩
 refine hset _ _ ?_;obtain⟨st1,hst1⟩:∃c,c=setPending st (((#[(0,n1,pw),(n1,a₀.size - n1,0)]:Array (Nat × Nat × Nat)).setIfInBounds 0 (0,n1+(a₀.size - n1),pw)).eraseIdxIfInBounds (0+1)):=⟨_,rfl⟩;rw[<-hst1];have hB1:SB kd a₀ st1:=by rw[hst1];exact⟨hB.perm,hB.kind,hB.failed⟩
 have hp1:(pendingOf st1).size=1:=by rw[hst1];simp[pendingOf]
 have ha1:arrOf st1=arrOf st:=by rw[hst1]
 clear hst1;have whole:Srt C (arrOf st) 0 n1->Srt C (arrOf st) n1 a₀.size->(∀i j,i<n1->n1<=j->j<a₀.size->O.kle (kk C (arrOf st) i) (kk C (arrOf st) j))->Srt C (arrOf st1) 0 a₀.size:=by
  intro g1 g2 g3 i j _ hij hj;rw[ha1];by_cases c1:j<n1
  ·exact g1 i j (qaP _) hij c1
  ·by_cases c2:i<n1
   ·exact g3 i j c2 (by lia) hj
   ·exact g2 i j (by lia) hij hj
 refine wpS_bind (aX (by lia) fun b0 hb0=>?_);refine wpS_bind (dO (C:=C) hB1.kind hg (bJ hg hb0) (by lia) (by lia) (by rw[qaU];exact hs1) fun k hk hlo hhi=>?_);have hlo':∀r p,r<k->(arrOf st)[r]?=some p->O.kle (C.key p) (C.key b0):=fun r p hr hp'=>by
  have:=hlo r hr
  unfold ahead at this;rw[qaU,aV hp'] at this;simp only[qac,if_false,qbO] at this;exact this
 have hhi':∀r p,k<=r->r<n1->(arrOf st)[r]?=some p->O.kle (C.key b0) (C.key p):=fun r p hr1 hr2 hp'=>by
  have:=hhi r hr1 hr2
  unfold ahead at this;rw[qaU,aV hp'] at this;simp only[qac,if_false,qcC] at this;exact KeyOrd.kle_of_klt this
 dsimp only;rw[qaU];have getP:∀i,i<a₀.size->∃p,(arrOf st)[i]?=some p:=fun i hi=>⟨_,getElem?_pos _ i (by lia)⟩;by_cases z1:n1 - k=0
 ·rw[qaf (by simpa using z1)];refine wpS_pure (h st1 hB1 hp1 (whole hs1 hs2 fun i j hi hj1 hj2=>?_));obtain⟨p,hp'⟩:=getP i (by lia);obtain⟨q,hq'⟩:=getP j hj2;rw[aV hp',aV hq'];exact KeyOrd.kle_trans (hlo' i p (by lia) hp') (gE hs2 (qag _) hj1 hj2 hb0 hq')
 ·rw[qak (by simpa using z1)];have ez:k+(n1 - k) - 1=n1 - 1:=by lia
  rw[ez];refine wpS_bind (aX (by lia) fun al hal=>?_);refine wpS_bind (dO (C:=C) hB1.kind hg (bJ hg hal) (by lia) (by lia) (by have e:n1+(a₀.size - n1)=a₀.size:=(by lia);rw[e];exact hs2) fun m hm hlo2 hhi2=>?_);have hlo2':∀r p,n1<=r->r<n1+m->(arrOf st)[r]?=some p->O.kle (C.key p) (C.key al):=fun r p hr1 hr2 hp'=>by
   have:=hlo2 (r - n1) (by lia)
   have e:n1+(r - n1)=r:=by lia
   unfold ahead at this;rw[e,aV hp'] at this;exact KeyOrd.kle_of_klt this
  have hhi2':∀r p,n1+m<=r->r<a₀.size->(arrOf st)[r]?=some p->O.kle (C.key al) (C.key p):=fun r p hr1 hr2 hp'=>by
   have:=hhi2 (r - n1) (by lia) (by lia)
   have e:n1+(r - n1)=r:=by lia
   unfold ahead at this;rw[e,aV hp'] at this;exact this
  dsimp only;by_cases z2:m=0
  ·rw[qaf (by simpa using z2)];refine wpS_pure (h st1 hB1 hp1 (whole hs1 hs2 fun i j hi hj1 hj2=>?_));obtain⟨p,hp'⟩:=getP i (by lia);obtain⟨q,hq'⟩:=getP j hj2;rw[aV hp',aV hq'];exact KeyOrd.kle_trans (gE hs1 (qaP _) (by lia) (by lia) hp' hal) (hhi2' j q (by lia) hj2 hq')
  ·rw[qak (by simpa using z2)];have sx:((arrOf st).extract k n1).size=n1 - k:=by simp;lia
   have sy:((arrOf st).extract n1 (n1+m)).size=m:=by simp;lia
   have gx:∀r,r<n1 - k->((arrOf st).extract k n1)[r]?=(arrOf st)[k+r]?:=fun r hr=>by rw[qbG,qaf (by lia)]
   have gy:∀r,r<m->((arrOf st).extract n1 (n1+m))[r]?=(arrOf st)[n1+r]?:=fun r hr=>by rw[qbG,qaf (by lia)]
   have memx:∀p,p∈((arrOf st).extract k n1).toList->∃i,k<=i/\i<n1/\(arrOf st)[i]?=some p:=fun p hp'=>v3 (by lia) hp';have memy:∀p,p∈((arrOf st).extract n1 (n1+m)).toList->∃i,n1<=i/\i<n1+m/\(arrOf st)[i]?=some p:=fun p hp'=>v3 (by lia) hp';have T:Two C ((arrOf st).extract k n1) ((arrOf st).extract n1 (n1+m)):=by
    refine⟨fun p hp'=>?_,fun p hp'=>?_,nW (by lia) fun i j a b c=>hs1 i j (qaP _) b c,nW (by lia) fun i j a b c=>hs2 i j a b (by lia),by lia,by lia,?_,?_⟩
    ·obtain⟨i,_,_,hi⟩:=memx p hp';exact bJ hg hi
    ·obtain⟨i,_,_,hi⟩:=memy p hp';exact bJ hg hi
    ·intro p q hp' hq';rw[gy 0 (by lia)] at hp';rw[gx 0 (by lia)] at hq';have e:(arrOf st)[n1+0]?=some b0:=hb0;rw[e] at hp';cases hp';exact hhi' (k+0) q (by lia) (by lia) hq'
    ·intro x q hx hq';obtain⟨i,i1,i2,hi⟩:=memy x hx;rw[sx,gx _ (by lia)] at hq';have e:k+(n1 - k - 1)=n1 - 1:=by lia
     rw[e,hal] at hq';cases hq';exact hlo2' i x i1 i2 hi
   have fin:∀ou st2,Eqv st1 st2->MR C ((arrOf st).extract k n1) ((arrOf st).extract n1 (n1+m)) ou ->
     wpS (model prog w) A E s (do
      modify fun c=>setArr c (ou.toList.zipIdx.foldl (fun a (p:Keyed × Nat)=>a.setIfInBounds (k+p.2) p.1) (arrOf c))
      return (failedOf (<-get)).isNone) Q st2:=by
    intro ou st2 ev mr;refine wpS_bind (wpS_modify ?_);refine wpS_bind (wpS_get (wpS_pure ?_));have ea:arrOf st2=arrOf st:=ev.arr.trans ha1;have so:ou.size=n1 - k+m:=by
     have:=mr.1.length_eq
     rw[qaz,qay,qaz,qaz,sx,sy] at this;exact this
    have hl:=zL (xs:=arrOf st2) (ou:=ou) (off:=k) (by rw[ea];lia);have eo:k+ou.size=n1+m:=by lia
    rw[eo,ea] at hl;have hsp:=split3 (xs:=arrOf st) (i:=k) (j:=n1) (k:=n1+m) (by lia) (by lia) (by lia);have hfn:(failedOf (setArr st2 (ou.toList.zipIdx.foldl (fun a (p:Keyed × Nat)=>a.setIfInBounds (k+p.2) p.1) (arrOf st2)))).isNone=true:=by
     show (failedOf st2).isNone=true;rw[ev.failed,hB1.failed];rfl
    rw[hfn];have hls:LS C (ou.toList.zipIdx.foldl (fun a (p:Keyed × Nat)=>a.setIfInBounds (k+p.2) p.1) (arrOf st2)).toList:=by
     rw[ea,hl];have mo:∀p,p∈ou.toList->(∃i,k<=i/\i<n1/\(arrOf st)[i]?=some p)\/(∃i,n1<=i/\i<n1+m/\(arrOf st)[i]?=some p):=fun p hp' =>
      (qau.mp (mr.1.mem_iff.mp hp')).imp (memx p) (memy p)
     have mt:∀p,p∈(arrOf st).toList.take k->∃i,i<k/\(arrOf st)[i]?=some p:=fun p hp'=>by
      obtain⟨i,hi⟩:=qaB.mp hp';by_cases c:i<k
      ·rw[qby c,qaw] at hi;exact⟨i,c,hi⟩
      ·rw[qaN (by simp;lia)] at hi;cases hi
     have md:∀p,p∈(arrOf st).toList.drop (n1+m)->∃i,n1+m<=i/\i<a₀.size/\(arrOf st)[i]?=some p:=fun p hp'=>by
      obtain⟨i,hi⟩:=qaB.mp hp';rw[qbX,qaw] at hi
      have:=(qbi.mp hi).1
      exact⟨n1+m+i,by lia,by lia,hi⟩
     refine cv ?_ (cv mr.2 ?_ ?_) ?_
     ·have:=nW (C:=C) (xs:=arrOf st) (lo:=0) (hi:=k) (by lia) fun i j a b c=>hs1 i j a b (by lia)
      rw[gn] at this;exact this
     ·have:=nW (C:=C) (xs:=arrOf st) (lo:=n1+m) (hi:=(arrOf st).size) (qag _) fun i j a b c=>hs2 i j (by lia) b (by lia)
      rw[gw] at this;exact this
     ·intro x hx y hy;obtain⟨j,j1,j2,hj⟩:=md y hy;rcases mo x hx with ⟨i,i1,i2,hi⟩|⟨i,i1,i2,hi⟩
      ·exact KeyOrd.kle_trans (gE hs1 (qaP _) (by lia) (by lia) hi hal) (hhi2' j y j1 j2 hj)
      ·exact gE hs2 i1 (by lia) j2 hi hj
     ·intro x hx y hy;obtain⟨i,i1,hi⟩:=mt x hx;rcases qau.mp hy with hy|hy
      ·rcases mo y hy with ⟨j,j1,j2,hj⟩|⟨j,j1,j2,hj⟩
       ·exact gE hs1 (qaP _) (by lia) j2 hi hj
       ·exact KeyOrd.kle_trans (hlo' i x i1 hi) (gE hs2 (qag _) j1 (by lia) hb0 hj)
      ·obtain⟨j,j1,j2,hj⟩:=md y hy;exact KeyOrd.kle_trans (hlo' i x i1 hi) (gE hs2 (qag _) (by lia) j2 hb0 hj)
    have hpm:(ou.toList.zipIdx.foldl (fun a (p:Keyed × Nat)=>a.setIfInBounds (k+p.2) p.1) (arrOf st2)).Perm (arrOf st):=by
     rw[qcc,ea,hl];refine List.Perm.trans ?_ (List.Perm.of_eq hsp.symm);exact List.Perm.append_left _ (List.Perm.append_right _ mr.1)
    refine h _ ⟨hpm.trans hB.perm,ev.kind.trans hB1.kind,ev.failed.trans hB1.failed⟩ ?_ ?_
    ·show (pendingOf st2).size=1;rw[ev.pend];exact hp1
    ·have:=kB hls
     have e2:(ou.toList.zipIdx.foldl (fun a (p:Keyed × Nat)=>a.setIfInBounds (k+p.2) p.1) (arrOf st2)).size=a₀.size:=(hpm.trans hB.perm).size_eq;rw[e2] at this;exact this
   by_cases hle:n1 - k<=m
   ·rw[qaf hle];refine wpS_bind (wps_lo T hB1.kind fun ou st2 ev mr=>?_);exact fin ou st2 ev mr
   ·rw[qak hle];refine wpS_bind (wps_hi T hB1.kind fun ou st2 ev mr=>?_);exact fin ou st2 ev mr
end
def tL(h2:2<=n)(h:n<64):minRun' n n 0=n:=by
 obtain⟨f,hf⟩:∃f,n=f+1:=⟨n - 1,by lia⟩
 have:minRun' (f+1) n 0=n+0:=by rw[minRun'_succ,qaf h]
 rw[<-hf] at this;exact this
def ym(h2:2<=n)(h:n<=66):1<=minRun' n n 0/\minRun' n n 0<=n/\n<=2 * minRun' n n 0:=by
 by_cases c:n<64
 ·rw[tL h2 c];lia
 ·have:n=64\/n=65\/n=66:=by lia
  rcases this with e|e | e <;> subst e
  ·have:minRun' 64 64 0=32:=by decide
   rw[this];lia
  ·have:minRun' 65 65 0=33:=by decide
   rw[this];lia
  ·have:minRun' 66 66 0=33:=by decide
   rw[this];lia
section
variable {prog:Program} {w:World} {A:Around} {E:Value→Shared→Prop} {s:Shared} {kd:SortKind} {O:KeyOrd} {C:Cmp prog w A E s kd O} {a₀:Array Keyed} {st:SortSt}
def One(C:Cmp prog w A E s kd O)(a₀:Array Keyed)(mr n1:Nat)(st:SortSt):Prop:=SB kd a₀ st/\pendingOf st=#[(0,n1,0)]/\mr<=n1/\n1<=a₀.size/\Srt C (arrOf st) 0 n1
def Both(C:Cmp prog w A E s kd O)(a₀:Array Keyed)(n1:Nat)(st:SortSt):Prop :=
 SB kd a₀ st/\1<=n1/\n1<a₀.size/\(∃pw,pendingOf st=#[(0,n1,pw),(n1,a₀.size - n1,0)])/\Srt C (arrOf st) 0 n1/\Srt C (arrOf st) n1 a₀.size
def tU{xs ys:Array Keyed}{p lo hi:Nat}(h:cR p xs ys)(hhi:hi<=p)(g:Srt C xs lo hi):Srt C ys lo hi:=by
 intro i j hi' hij hj;rw[eA (h i (by lia)),eA (h j (by lia))];exact g i j hi' hij hj
def Ap(h0:cK C a₀)(hB:SB kd a₀ st)(hpd:pendingOf st=#[])(h2:2<=a₀.size)(h66:a₀.size<=66)
  (h:∀st',(arrOf st').Perm a₀->failedOf st'=none->Srt C (arrOf st') 0 a₀.size->Q () st'):wpS (model prog w) A E s sortRuns' Q st:=by
 obtain⟨m1,m2,m3⟩:=ym h2 h66;rw[sortRuns'_eq];refine wpS_bind (wpS_get ?_);dsimp only;rw[hB.size];generalize minRun' a₀.size a₀.size 0=mr at m1 m2 m3 ⊢
 refine wpS_bind (wpS_mono (wpS_forRange
  (I:=fun x c st'=>(x=0/\c=(none,0)/\SB kd a₀ st'/\pendingOf st'=#[])\/(x=1/\∃n1,c=(none,n1)/\One C a₀ mr n1 st')\/(2<=x/\c=(none,a₀.size)/\∃n1,Both C a₀ n1 st'))
  (Q:=fun c st'=>c=(none,a₀.size)/\(One C a₀ mr a₀.size st'\/∃n1,Both C a₀ n1 st')) ?_ ?_ (.inl ⟨rfl,rfl,hB,hpd⟩)) ?_)
 ·rintro x c st' _ hx (⟨rfl,rfl,hB',hp'⟩|⟨rfl,n1,rfl,hB',hp',hr1,hr2,hs'⟩|⟨hx2,rfl,n1,hb⟩)
  ·dsimp only;rw[qak (by lia)];simp only[Nat.sub_zero,qaU];refine wpS_bind (vB (p:=0) h0 (by lia) (by lia) hB' fun m st2 hB2 _ hpe hm1 hm2 hs2=>?_);rw[qaU] at hs2;dsimp only;by_cases hlt:m<mr
   ·rw[qaf hlt];refine wpS_bind (wpS_lift (wpAny_rule ⟨rfl,?_⟩));refine wpS_bind (vX (p:=0) h0 (by lia) (by lia) hB2 (by rw[qaU];exact hs2) fun st3 hB3 _ hpe3 hs3=>?_);simp only[qaS,qac,if_false];refine wpS_bind (wpS_get ?_);have hb:(pendingOf st3).back?=none:=by rw[hpe3,hpe,hp'];rfl
    rw[hb];dsimp only;refine wpS_bind (wpS_modify (wpS_pure (.inr (.inl ⟨trivial,_,rfl,⟨hB3.perm,hB3.kind,hB3.failed⟩,?_,by lia,by lia,?_⟩))))
    ·show (pendingOf st3).push _=_;rw[hpe3,hpe,hp'];rfl
    ·rw[qaU] at hs3;exact hs3
   ·rw[qak hlt];refine wpS_bind (wpS_get ?_);have hb:(pendingOf st2).back?=none:=by rw[hpe,hp'];rfl
    rw[hb];dsimp only;refine wpS_bind (wpS_modify (wpS_pure (.inr (.inl ⟨trivial,_,rfl,⟨hB2.perm,hB2.kind,hB2.failed⟩,?_,by lia,by lia,hs2⟩))));show (pendingOf st2).push _=_;rw[hpe,hp'];rfl
  ·dsimp only;by_cases hend:n1>=a₀.size
   ·rw[qaf hend];have e:n1=a₀.size:=by lia
    subst e;exact wpS_pure ⟨rfl,.inl ⟨hB',hp',hr1,hr2,hs'⟩⟩
   ·rw[qak hend];have hrest:a₀.size - n1<=mr:=by lia
    refine wpS_bind (vB (p:=n1) h0 (by lia) (by lia) hB' fun m st2 hB2 hsm hpe hm1 hm2 hs2=>?_);dsimp only;by_cases hlt:m<mr
    ·rw[qaf hlt];refine wpS_bind (wpS_lift (wpAny_rule ⟨rfl,?_⟩));have em:min (a₀.size - n1) mr=a₀.size - n1:=by lia
     rw[em];refine wpS_bind (vX (p:=n1) h0 (by lia) (by lia) hB2 hs2 fun st3 hB3 hsm3 hpe3 hs3=>?_);simp only[qaS,qac,if_false];refine wpS_bind (wpS_get ?_);have hp3:pendingOf st3=#[(0,n1,0)]:=by rw[hpe3,hpe,hp']
     have hb:(pendingOf st3).back?=some (0,n1,0):=by rw[hp3];rfl
     rw[hb];dsimp only;refine wpS_bind (wpS_mono (wpS_forRange (I:=fun _ c st4=>c=(none,())/\st4=st3) (Q:=fun c st4=>c=(none,())/\st4=st3) ?_ (fun _ _ hh=>hh) ⟨rfl,rfl⟩) ?_)
     ·rintro y c st4 _ _ ⟨rfl,rfl⟩;refine wpS_bind (wpS_get ?_);rw[hp3];exact wpS_pure ⟨rfl,rfl⟩
     ·rintro c st4 ⟨rfl,rfl⟩;dsimp only;refine wpS_bind (wpS_modify (wpS_bind (wpS_modify (wpS_pure (.inr (.inr ⟨by lia,?_,n1,⟨hB3.perm,hB3.kind,hB3.failed⟩,by lia,by lia,⟨power' a₀.size (2 * 0+n1) (2 * 0+n1+n1+(a₀.size - n1)) a₀.size,?_⟩,(tU (hsm.trans hsm3) (qag _) hs'),(by have e:n1+(a₀.size - n1)=a₀.size:=(by lia);rw[e] at hs3;exact hs3)⟩))))))
      ·have e:n1+(a₀.size - n1)=a₀.size:=by lia
       rw[e]
      ·show ((pendingOf st4).modify _ _).push _=_;rw[hp3];simp
    ·rw[qak hlt];have em:m=a₀.size - n1:=by lia
     subst em;refine wpS_bind (wpS_get ?_);have hp2:pendingOf st2=#[(0,n1,0)]:=by rw[hpe,hp']
     have hb:(pendingOf st2).back?=some (0,n1,0):=by rw[hp2];rfl
     rw[hb];dsimp only;refine wpS_bind (wpS_mono (wpS_forRange (I:=fun _ c st4=>c=(none,())/\st4=st2) (Q:=fun c st4=>c=(none,())/\st4=st2) ?_ (fun _ _ hh=>hh) ⟨rfl,rfl⟩) ?_)
     ·rintro y c st4 _ _ ⟨rfl,rfl⟩;refine wpS_bind (wpS_get ?_);rw[hp2];exact wpS_pure ⟨rfl,rfl⟩
     ·rintro c st4 ⟨rfl,rfl⟩;dsimp only;refine wpS_bind (wpS_modify (wpS_bind (wpS_modify (wpS_pure (.inr (.inr ⟨by lia,?_,n1,⟨hB2.perm,hB2.kind,hB2.failed⟩,by lia,by lia,⟨power' a₀.size (2 * 0+n1) (2 * 0+n1+n1+(a₀.size - n1)) a₀.size,?_⟩,(tU hsm (qag _) hs'),(by have e:n1+(a₀.size - n1)=a₀.size:=(by lia);rw[e] at hs2;exact hs2)⟩))))))
      ·have e:n1+(a₀.size - n1)=a₀.size:=by lia
       rw[e]
      ·show ((pendingOf st4).modify _ _).push _=_;rw[hp2];simp
  ·dsimp only;rw[qaf (qag _)];exact wpS_pure ⟨rfl,.inr ⟨n1,hb⟩⟩
 ·rintro c st' (⟨hx,_⟩|⟨hx,_⟩|⟨_,hc,hb⟩)
  ·lia
  ·lia
  ·exact⟨hc,.inr hb⟩
 ·rintro c st' ⟨rfl,hc⟩;dsimp only;rcases hc with ⟨hB',hp',_,_,hs'⟩|⟨n1,hB',n11,n12,⟨pw,hp'⟩,hsA,hsB⟩
  ·refine wpS_bind (wpS_mono (wpS_forRange (I:=fun _ c st''=>st''=st'/\c=(none,())) (Q:=fun c st''=>st''=st'/\c=(none,())) ?_ (fun _ _ hh=>hh) ⟨rfl,rfl⟩) ?_)
   ·rintro x c st'' _ _ ⟨rfl,rfl⟩;refine wpS_bind (wpS_get ?_);rw[qaf (by rw[hp'];exact qag 1)];exact wpS_pure ⟨rfl,rfl⟩
   ·rintro c st'' ⟨rfl,rfl⟩;exact wpS_pure (h _ hB'.perm hB'.failed hs')
  ·refine wpS_bind (wpS_mono (wpS_forRange (I:=fun x c st''=>c=(none,())/\((x=0/\st''=st')\/(1<=x/\SB kd a₀ st''/\(pendingOf st'').size=1/\Srt C (arrOf st'') 0 a₀.size)))
    (Q:=fun c st''=>c=(none,())/\SB kd a₀ st''/\Srt C (arrOf st'') 0 a₀.size) ?_ ?_ ⟨rfl,.inl ⟨rfl,rfl⟩⟩) ?_)
   ·rintro x c st'' _ _ ⟨rfl,hcase⟩;rcases hcase with ⟨rfl,rfl⟩|⟨hx1,b1,b2,b3⟩
    ·refine wpS_bind (wpS_get ?_);rw[qak (by rw[hp'];simp)];rw[hp'];refine wpS_bind (uA (n1:=n1) (pw:=pw) h0 hB' n11 n12 hp' hsA hsB fun st3 c1 c2 c3=>?_);simp only[qaS,qac,if_false];exact wpS_pure ⟨rfl,.inr ⟨by lia,c1,c2,c3⟩⟩
    ·refine wpS_bind (wpS_get ?_);rw[qaf (by rw[b2];exact qag 1)];exact wpS_pure ⟨rfl,b1,b3⟩
   ·rintro c st'' ⟨rfl,⟨hx,_⟩|⟨_,b1,_,b3⟩⟩
    ·lia
    ·exact⟨rfl,b1,b3⟩
   ·rintro c st'' ⟨rfl,b1,b3⟩;exact wpS_pure (h _ b1.perm b1.failed b3)
end
end SortT
namespace SortT
open PySem PyProof.Rows SetT PySem.W
def bY:List Int->List Int->Bool
 | [],[]=>false
 | [],_::_=>true
 | _::_,[]=>false
 | a::x,b::y=>if a=b then bY x y else decide (a<b)
def lJ:∀x,bY x x=false
 | []=>rfl
 | a::x=>by unfold bY;rw[qaf rfl];exact lJ x
def nE:∀x y z,bY x y=true->bY y z=true->bY x z=true
 | [],[],z,h,_=>by cases h
 | [],_::_,[],_,h=>by cases h
 | [],_::_,_::_,_,_=>rfl
 | _::_,[],_,h,_=>by cases h
 | _::_,_::_,[],_,h=>by cases h
 | a::x,b::y,c::z,h1,h2=>by
  unfold bY at h1 h2 ⊢;by_cases e1:a=b
  ·rw[qaf e1] at h1;by_cases e2:b=c
   ·rw[qaf e2] at h2;rw[qaf (e1.trans e2)];exact nE x y z h1 h2
   ·rw[qak e2] at h2;rw[qak (fun q=>e2 (e1.symm.trans q)),e1];exact h2
  ·rw[qak e1] at h1;by_cases e2:b=c
   ·rw[qak (fun q=>e1 (q.trans e2.symm)),<-e2];exact h1
   ·rw[qak e2] at h2;simp only[decide_eq_true_eq] at h1 h2;rw[qak (by lia)];simp only[decide_eq_true_eq];lia
def t9:∀x y z,bY x z=true->bY x y=true\/bY y z=true
 | [],[],[],h=>by cases h
 | [],[],_::_,_=>.inr rfl
 | [],_::_,_,_=>.inl rfl
 | _::_,_,[],h=>by cases h
 | _::_,[],_::_,_=>.inr rfl
 | a::x,b::y,c::z,h=>by
  unfold bY at h ⊢;by_cases e1:a=b
  ·rw[qaf e1];by_cases e2:b=c
   ·rw[qaf e2];rw[qaf (e1.trans e2)] at h;exact t9 x y z h
   ·rw[qak (fun q=>e2 (e1.symm.trans q)),e1] at h;rw[qak e2];exact .inr h
  ·rw[qak e1];by_cases e2:b=c
   ·rw[qaf e2];rw[qak (fun q=>e1 (q.trans e2.symm)),<-e2] at h;exact .inl h
   ·rw[qak e2];by_cases e3:a=c
    ·simp only[decide_eq_true_eq];lia
    ·rw[qak e3] at h;simp only[decide_eq_true_eq] at h ⊢;lia
def ji:∀x y,bY x y=false->bY y x=false->x=y
 | [],[],_,_=>rfl
 | [],_::_,h,_=>by cases h
 | _::_,[],_,h=>by cases h
 | a::x,b::y,h1,h2=>by
  unfold bY at h1 h2;by_cases e:a=b
  ·rw[qaf e] at h1;rw[qaf e.symm] at h2;rw[e,ji x y h1 h2]
  ·rw[qak e] at h1;rw[qak (fun q=>e q.symm)] at h2;simp only[decide_eq_false_iff_not] at h1 h2;lia
def lexO:KeyOrd:=⟨List Int,bY,lJ,nE,t9,ji⟩
def Ris(l:List (List Int)):Prop:=l.Pairwise fun x y=>bY y x=false
section
variable {prog:Program} {w:World} {A:Around} {E:Value→Shared→Prop} {s:Shared}
def tkey(prog:Program)(w:World)(h:Heap)(v:Value):List Int:=Classical.epsilon fun k=>∃a,v=.ref a/\TK prog w h k a
def f7(t:TK prog w h k a):tkey prog w h (.ref a)=k:=by
 have:=Classical.epsilon_spec (p:=fun k=>∃b,Value.ref a=.ref b/\TK prog w h k b) ⟨k,a,rfl,t⟩
 obtain⟨b,e,hb⟩:=this;cases e;exact IsTupleKey.inj hb t
def lex_ok:∀(xs ys:List Value) (kx ky:List Int) (i:Nat),ItemsAre (intKind prog w) kx xs->ItemsAre (intKind prog w) ky ys->fin=decide (xs.length<ys.length)->Q (bY kx ky) s ->
  KatLex prog w A b fin Q (xs.zip ys) i s:=by
 intro xs
 induction xs with
 | nil =>
  intro ys kx ky i hx hy hf hq;cases hx
  cases hy with
  | nil=>rw[hf];exact hq
  | cons h1 h2=>rw[hf];exact hq
 | cons x xs ih =>
  intro ys kx ky i hx hy hf hq
  cases hx with
  | @cons k1 _ kx' _ h1 hx' =>
   cases hy with
   | nil=>rw[hf];exact hq
   | @cons k2 y ky' ys' h2 hy' =>
    obtain⟨t1,rfl⟩:=Value.isInt_shape (k:=k1) (v:=x) h1;obtain⟨t2,rfl⟩:=Value.isInt_shape (k:=k2) (v:=y) h2;rw[List.zip_cons_cons];refine kat_cons (wpAny_eqBool_int ?_);unfold bY at hq;by_cases e:k1=k2
    ·rw[qaf e] at hq
     have:(k1 == k2)=true:=by simpa using e
     rw[this];exact kat_yes (ih ys' kx' ky' (i+1) hx' hy' (by rw[hf];simp) hq)
    ·rw[qak e] at hq
     have:(k1 == k2)=false:=by simpa using e
     rw[this];refine kat_no ?_
     cases hb:(b && i == 0) with
     | true=>exact oneLt_int hq
     | false=>exact kat_one _ _ (wpAny_lt_int hq)
def tcmp(prog:Program)(w:World)(A:Around)(E:Value->Shared->Prop)(s:Shared)(b:Bool):Cmp prog w A E s (tuples' b) lexO where
 key:=fun p=>tkey prog w s.heap p.1
 dflt:=([]:List Int)
 good:=fun p=>∃a k,p.1=.ref a/\TK prog w s.heap k a
 ask:=fun x y st Q gx gy hk hq=>by
  obtain⟨x1,x2⟩:=x;obtain⟨y1,y2⟩:=y;obtain⟨ax,kx,ex,tx⟩:=gx;obtain⟨ay,ky,ey,ty⟩:=gy;simp only at ex ey;subst ex;subst ey;have q':Q (some (bY kx ky)) st:=by
   have h1:=f7 tx;have h2:=f7 ty;have e:lexO.blt (tkey prog w s.heap (.ref ax)) (tkey prog w s.heap (.ref ay))=bY kx ky:=by rw[h1,h2];rfl
   rw[<-e];exact hq
  obtain⟨ox,ix,nx,hox,_,hdx,hix⟩:=tx;obtain⟨oy,iy,ny,hoy,_,hdy,hiy⟩:=ty;rw[lt'_eq];refine wpS_bind (wpS_get ?_);rw[hk];refine wpS_bind (wpS_lift (wpAny_attempt (kat_lt hox hdx hoy hdy (lex_ok _ _ _ _ _ hix hiy (by simp) ⟨rfl,?_⟩))));exact wpS_pure q'
def sW{vs:List Value}{ks:List (List Int)}{Q:SortKind->Shared->Prop}(hk:Lie prog w s.heap vs.toArray ks)(hne:∀k∈ks,k≠[])(h1:0<vs.length)(h:Q (tuples' true) s) :
  wpAny (model prog w) A (keyKind' vs.toArray) Q E s:=by
 have hlen:vs.length=ks.length:=by have:=hk.1;simpa using this
 have key:∀(us:List Value) (ls:List (List Int)),us.length=ls.length->(∀(i:Nat) (v:Value) (k:List Int),us[i]?=some v->ls[i]?=some k->∃a,v=.ref a/\TK prog w s.heap k a)->(∀k∈ls,k≠[]) ->
   ∃fs:List Value,fs.length=us.length/\KatTups s.heap us fs/\∀v∈fs,∃i t,v=.int i t:=by
  intro us
  induction us with
  | nil=>intro ls _ _ _;exact⟨[],rfl,KatTups.nil,fun v hv=>by cases hv⟩
  | cons u us ih =>
   intro ls hl hall hn
   cases ls with
   | nil=>simp at hl
   | cons k ls =>
    obtain⟨a,rfl,o,items,n,ho,hc,hd,hi⟩:=hall 0 u k rfl rfl;obtain⟨fs,f1,f2,f3⟩:=ih ls (by simpa using hl) (fun i v k' hv hk'=>hall (i+1) v k' (by simpa using hv) (by simpa using hk')) (fun k' hk'=>hn k' (qai _ hk'))
    cases k with
    | nil=>exact absurd rfl (hn [] qaL)
    | cons k0 kr =>
     have hi':=hi;generalize hit:items.toList=l at hi'
     cases hi' with
     | @cons _ v0 _ vr h0 hr =>
      obtain⟨t0,rfl⟩:=Value.isInt_shape (k:=k0) (v:=v0) h0;have hg:items[0]?=some (.int k0 t0):=by rw[<-qaw,hit];rfl
      refine⟨.int k0 t0::fs,by simp[f1],KatTups.cons ho hc hd hg f2,fun v hv=>?_⟩;rcases qar.mp hv with rfl|hv
      ·exact⟨_,_,rfl⟩
      ·exact f3 v hv
 obtain⟨fs,f1,f2,f3⟩:=key vs ks hlen (fun i v k hv hk'=>hk.2 i v k (by simpa using hv) hk') hne;refine kat_kind (T:=.type "int") f2 (by lia) (fun v hv=>?_) (by decide) ?_
 ·obtain⟨i,t,rfl⟩:=f3 v hv;exact .now
 ·exact h
def yQ(ho:s.heap.get? a=some (seqObj "list" vs.toArray n))(hk:Lie prog w s.heap vs.toArray ks)
  (hne:∀k∈ks,k≠[]) (h66:vs.length<=66)
  (h:∀(out:List Value) (ks':List (List Int)),Lie prog w s.heap out.toArray ks'->out.Perm vs->ks'.Perm ks->Ris ks'->P (.done (.ret .none)) { s with heap:=sortedHeap s.heap a vs out.toArray}) :
  wpAny (model prog w) A (Builtin.«list.sort» ⟨[.ref a],[]⟩) P E s:=by
 rw[list_sort_plain];have ha:a<s.heap.objs.size:=qaq ho;have hfits:vs.length<=sizeLine:=by rw[sizeLine_eq];lia
 refine qaa (listItems_at ho rfl ?_);refine qaa (listUpdate_at ho rfl ?_ (by rw[qaj];exact hfits) (qaP _));obtain⟨e1,ho1⟩:∃e1,(s.heap.update a (Obj.mapSeq fun _=>(#[]:Array Value))).get? a=some (seqObj "list" #[] e1):=⟨_,get?_update_seq ho fun _=>#[]⟩;refine qaa (seqEpoch_at ho1 rfl ?_);refine qaa (wpAny_newTuple ?_ (by show vs.length<=_;exact hfits));refine qaa (wpAny_newList ?_ (qaP _));refine wpAny_holding ?_;have ho6:(((s.heap.update a (Obj.mapSeq fun _=>(#[]:Array Value))).push (seqObj "tuple" vs.toArray 0)).push (seqObj "list" #[] 0)).get? a=some (seqObj "list" #[] e1) :=
  qab _ (qab _ ho1)
 have tk6:∀k b,TK prog w s.heap k b->TK prog w (((s.heap.update a (Obj.mapSeq fun _=>(#[]:Array Value))).push (seqObj "tuple" vs.toArray 0)).push (seqObj "list" #[] 0)) k b:=by
  rintro k b ⟨o,items,m,hb,hc,r⟩;have hne':b≠a:=by
   rintro rfl;rw[ho] at hb;cases hb;have hc':Value.type "list"=Value.type "tuple":=hc;exact absurd hc' (by decide)
  exact⟨o,items,m,qab _ (qab _ ((qbQ _ _ _ _ hne').trans hb)),hc,r⟩
 show wpAny (model prog w) A _ P E { s with heap:=((s.heap.update a (Obj.mapSeq fun _=>(#[]:Array Value))).push (seqObj "tuple" vs.toArray 0)).push (seqObj "list" #[] 0)};have hk6:Lie prog w (((s.heap.update a (Obj.mapSeq fun _=>(#[]:Array Value))).push (seqObj "tuple" vs.toArray 0)).push (seqObj "list" #[] 0)) vs.toArray ks :=
  ⟨hk.1,fun i v k hv hk'=>let ⟨b,e,t⟩:=hk.2 i v k hv hk';⟨b,e,tk6 k b t⟩⟩
 have hsz:vs.toArray.size=vs.length:=by simp
 dsimp only;by_cases h2:vs.toArray.size<2
 ·rw[qaf h2,qaf h2];refine qaa (qah ?_);rw[StateT.run_pure];refine qaa (qah ?_);dsimp only;refine qaa (seqEpoch_at ho6 rfl ?_);have hz:((vs.toArray.zip vs.toArray).map (·.2))=vs.toArray:=by
   apply qbo.mp;simp only[Array.toList_map,Array.toList_zip,List.toList_toArray];exact List.map_snd_zip (qag _)
  refine qaa (listUpdate_at ho6 rfl ?_ (qaP _) (by show ((vs.toArray.zip vs.toArray).map (·.2)).size<=_;rw[hz,hsz];lia));simp only[bne_self_eq_false,qac,if_false];refine qah ?_
  have:=h vs ks hk (List.Perm.refl _) (List.Perm.refl _) (by
   have hl:ks.length<2:=by have:=hk.1;lia
   unfold Ris
   match ks,hl with
   | [],_=>simp
   | [x],_=>simp)
  have e:(arrOf (SortSt.mk' general' (vs.toArray.zip vs.toArray) #[] 7 none)).map (·.2)=vs.toArray:=hz;rw[e];exact this
 ·rw[qak h2,qak h2];refine qaa (sW (s:={ s with heap:=_}) hk6 hne (by lia) ?_);have hps:(pairsOf vs).size=vs.length:=pairsOf_size vs
  refine qaa (wpAny_mono (Ap (C:=tcmp prog w A E { s with heap:=((s.heap.update a (Obj.mapSeq fun _=>(#[]:Array Value))).push (seqObj "tuple" vs.toArray 0)).push (seqObj "list" #[] 0)} true)
   (a₀:=pairsOf vs) (st:=SortSt.mk' (tuples' true) (vs.toArray.zip vs.toArray) #[] 7 none)
   (Q:=fun _ st'=>(arrOf st').Perm (pairsOf vs)/\failedOf st'=none/\Srt (tcmp prog w A E { s with heap:=((s.heap.update a (Obj.mapSeq fun _=>(#[]:Array Value))).push (seqObj "tuple" vs.toArray 0)).push (seqObj "list" #[] 0)} true) (arrOf st') 0 (pairsOf vs).size)
   ?_ ⟨Array.Perm.refl _,rfl,rfl⟩ rfl (by lia) (by lia) fun st' a1 a2 a3=>⟨a1,a2,a3⟩) ?_ fun _ _ e=>e)
  ·intro p hp;rw[pairsOf_toList] at hp;obtain⟨q1,q2⟩:=mem_zip_self hp;obtain⟨i,hi⟩:=qaB.mp q2
   obtain⟨k,hk'⟩:∃k,ks[i]?=some k:=⟨_,qas (by
    have h3:=(qae.mp hi).1
    have:=hk.1;lia)⟩
   obtain⟨b,e,t⟩:=hk6.2 i p.1 k (by simpa using hi) hk';exact⟨b,k,e,t⟩
  ·rintro⟨⟨⟩,st'⟩ s' ⟨rfl,hp,hf,hs⟩;dsimp only;refine qaa (seqEpoch_at ho6 rfl ?_);have hz:((arrOf st').map (·.2)).size=vs.length:=by rw[Array.size_map,hp.size_eq,hps]
   refine qaa (listUpdate_at ho6 rfl ?_ (qaP _) (by show ((arrOf st').map (·.2)).size<=_;rw[hz];lia));rw[hf];simp only[bne_self_eq_false,qac,if_false];refine qah ?_;have hl:(arrOf st').toList.Perm (vs.zip vs):=by rw[<-pairsOf_toList];exact qcc.mp hp
   have hmem:∀p,p∈(arrOf st').toList->p.1=p.2/\p.1∈vs:=fun p hp'=>mem_zip_self (hl.mem_iff.mp hp');have hv:∀v,v∈vs->∃k b,v=.ref b/\TK prog w s.heap k b/\k∈ks:=fun v hv=>by
    obtain⟨i,hi⟩:=qaB.mp hv
    obtain⟨k,hk'⟩:∃k,ks[i]?=some k:=⟨_,qas (by
     have h3:=(qae.mp hi).1
     have:=hk.1;lia)⟩
    obtain⟨b,e,t⟩:=hk.2 i v k (by simpa using hi) hk';exact⟨k,b,e,t,qaB.mpr ⟨i,hk'⟩⟩
   have hmap:vs.map (tkey prog w s.heap)=ks:=by
    apply qbu;intro i;rw[qao]
    cases hi:vs[i]? with
    | none =>
     have:=List.getElem?_eq_none_iff.mp hi
     rw[qaN (by have:=hk.1;lia)];rfl
    | some v =>
     obtain⟨k,hk'⟩:∃k,ks[i]?=some k:=⟨_,qas (by
      have h3:=(qae.mp hi).1
      have:=hk.1;lia)⟩
     obtain⟨b,e,t⟩:=hk.2 i v k (by simpa using hi) hk';subst e;rw[hk'];show some (tkey prog w s.heap (.ref b))=some k;rw[f7 t]
   have h6eq:∀v,v∈vs->tkey prog w (((s.heap.update a (Obj.mapSeq fun _=>(#[]:Array Value))).push (seqObj "tuple" vs.toArray 0)).push (seqObj "list" #[] 0)) v=tkey prog w s.heap v:=fun v hv'=>by
    obtain⟨k,b,rfl,t,_⟩:=hv v hv';rw[f7 t,f7 (tk6 k b t)]
   have hout:=h ((arrOf st').toList.map (·.2)) ((arrOf st').toList.map fun p=>tkey prog w s.heap p.1) ?_ ?_ ?_ ?_
   ·have e:((arrOf st').toList.map (·.2)).toArray=(arrOf st').map (·.2):=by apply qbo.mp;simp
    rw[e] at hout;exact hout
   ·refine⟨by simp,fun i v k hv' hk'=>?_⟩;rw[qbp,qao] at hv';rw[qao] at hk'
    cases hi:(arrOf st').toList[i]? with
    | none=>rw[hi] at hv';cases hv'
    | some p =>
     rw[hi] at hv' hk';cases hv';cases hk';obtain⟨q1,q2⟩:=hmem p (qaI hi);obtain⟨k,b,e,t,_⟩:=hv p.1 q2;refine⟨b,by show p.2=_;rw[<-q1];exact e,?_⟩;show TK prog w s.heap (tkey prog w s.heap p.1) b;rw[e,f7 t];exact t
   ·have q:=hl.map (·.2);rw[List.map_snd_zip (qag _)] at q;exact q
   ·have q:=hl.map fun p=>tkey prog w s.heap p.1;have e2:(vs.zip vs).map (fun p=>tkey prog w s.heap p.1)=ks:=by
     rw[<-hmap]
     have:(vs.zip vs).map (fun p=>tkey prog w s.heap p.1)=((vs.zip vs).map Prod.fst).map (tkey prog w s.heap):=by rw[qbj];rfl
     rw[this,List.map_fst_zip (qag _)]
    rw[e2] at q;exact q
   ·unfold Ris;rw[qca,qbv];intro i j hi hj hij;have hi':i<(arrOf st').size:=by simpa using hi
    have hj':j<(arrOf st').size:=by simpa using hj
    have q:=hs i j (qaP _) (qcj hij) (by rw[<-hp.size_eq];exact hj');rw[aV (getElem?_pos _ i hi'),aV (getElem?_pos _ j hj')] at q;have m1:=(hmem (arrOf st')[i] (by simp)).2;have m2:=(hmem (arrOf st')[j] (by simp)).2;have q':bY (tkey prog w (((s.heap.update a (Obj.mapSeq fun _=>(#[]:Array Value))).push (seqObj "tuple" vs.toArray 0)).push (seqObj "list" #[] 0)) (arrOf st')[j].1)
     (tkey prog w (((s.heap.update a (Obj.mapSeq fun _=>(#[]:Array Value))).push (seqObj "tuple" vs.toArray 0)).push (seqObj "list" #[] 0)) (arrOf st')[i].1)=false:=q
    rw[h6eq _ m1,h6eq _ m2] at q';simpa using q'
def hX(ho:h.get? a=some (seqObj "list" vs.toArray n))(out:Array Value):∃c,(sortedHeap h a vs out).get? a=some (seqObj "list" out c):=by
 unfold sortedHeap;obtain⟨e1,ho1⟩:∃e1,(h.update a (Obj.mapSeq fun _=>(#[]:Array Value))).get? a=some (seqObj "list" #[] e1):=⟨_,get?_update_seq ho fun _=>#[]⟩;exact⟨_,get?_update_seq (qab _ (qab _ ho1)) fun _=>out⟩
def gO(hb:b≠a)(ho:h.get? b=some o)(out:Array Value):(sortedHeap h a vs out).get? b=some o:=by
 unfold sortedHeap;rw[qbQ _ _ _ _ hb];exact qab _ (qab _ ((qbQ _ _ _ _ hb).trans ho))
structure Told (prog:Program) (w:World) (R:Value->Prop) (H0 h h':Heap) (l:Addr) (ks:List (List Int)) (out:List Value) (ks':List (List Int)):Prop where
 ext:Ext h h'
 fresh:h.get? l=none
 size:h.objs.size<=l
 at':∃c,h'.get? l=some (seqObj "list" out.toArray c)
 lie:Lie prog w H0 out.toArray ks'
 perm:ks'.Perm ks
 ris:Ris ks'
 mem:∀v∈out,R v
def qi(hx:Ext H0 s.heap)(hne:∀k∈ks,k≠[])(h66:ks.length<=66)
  (hc:wpAny (model prog w) A.in1 (collect v) (fun vs s1=>∃h' tk ks1,s1={ s with heap:=h',toks:=tk}/\Ext s.heap h'/\s.heap.objs.size<h'.objs.size/\s.toks<=tk/\Lie prog w H0 (List.toArray vs) ks1/\ks1.Perm ks/\∀v∈vs,R v) E s)
  (h:∀h' tk l out ks',Told prog w R H0 s.heap h' l ks out ks'->s.toks<=tk->Q (.ref l) { s with heap:=h',toks:=tk}) :
  wpAny (model prog w) A (call (.builtin "sorted") [v]) Q E s:=by
 refine Calls.call_function_entry kind_sorted plain_sorted entry_sorted (args_sorted1 _) ?_;unfold Builtin.«sorted»;refine qaa (m:=checkCount "sorted" 1 1 _) (qah ?_);refine qaa (wpAny_mono hc (fun vs s1 hq=>?_) fun _ _ e=>e);obtain⟨h1,tk,ks1,rfl,x1,hsz1,htk,lie1,p1,hR⟩:=hq;have hlen:vs.length=ks1.length:=by have:=lie1.1;simpa using this
 have hl66:vs.length<=66:=by rw[hlen,p1.length_eq];exact h66
 refine qaa (wpAny_newList ?_ (by rw[sizeLine_eq];ext));have hoL:(h1.push (seqObj "list" vs.toArray 0)).get? h1.objs.size=some (seqObj "list" vs.toArray 0):=qap _ rfl;have up:∀b o,h1.get? b=some o->(h1.push (seqObj "list" vs.toArray 0)).get? b=some o:=fun b o e=>qab _ e;have lieL:Lie prog w (h1.push (seqObj "list" vs.toArray 0)) vs.toArray ks1:=⟨lie1.1,fun i u k hu hk=>let ⟨b,e,t⟩:=lie1.2 i u k hu hk;⟨b,e,ko (fun c o ho=>up c o (x1 c o (hx c o ho))) t⟩⟩
 refine qaa (wpAny_holding (wpAny_call_entry slot_list_sort ⟨_,hoL,rfl⟩ entry_list_sort
  (yQ (s:={ s with heap:=h1.push (seqObj "list" vs.toArray 0),toks:=tk}) hoL lieL (fun k hk=>hne k (p1.mem_iff.mp hk)) hl66 fun out ks' l2 pv p2 r2=>⟨_,rfl,?_⟩) (args_list_sort _)))
 refine qah ⟨_,rfl,?_⟩;have hfresh:s.heap.get? h1.objs.size=none:=by
  cases e:s.heap.get? h1.objs.size with
  | none=>rfl
  | some o=>exact absurd (qaq (x1 _ _ e)) (qbe _)
 refine h _ tk h1.objs.size out ks' ⟨fun b o e=>?_,hfresh,qcj hsz1,hX hoL _,⟨l2.1,fun i u k hu hk=>?_⟩,p2.trans p1,r2,fun v hv=>hR v (pv.mem_iff.mp hv)⟩ htk
 ·have hb:b≠h1.objs.size:=qaK (qaq (x1 b o e));exact gO hb (up b o (x1 b o e)) _
 ·
  obtain⟨b,e,t⟩:=l2.2 i u k hu hk;have hu':out[i]?=some u:=by simpa using hu
  have hmem:u∈vs:=pv.mem_iff.mp (qaI hu');obtain⟨q,hq⟩:=qaB.mp hmem;obtain⟨k1,hk1⟩:∃k1,ks1[q]?=some k1:=⟨_,qas (by have:=(qae.mp hq).1;ext)⟩;obtain⟨b1,e1,t1⟩:=lie1.2 q u k1 (by simpa using hq) hk1;rw[e] at e1;cases e1;have t2:=ko (fun c o ho=>up c o (x1 c o (hx c o ho))) t1
  have:k=k1:=IsTupleKey.inj t t2
  subst this;exact⟨b,e,t1⟩
def wn(hh:A.handled=none)(T:dk prog w (PB H0 R) s.heap S (bV w) ks)(hx:Ext H0 s.heap)(hne:∀k∈ks,k≠[])(h66:ks.length<=66)
  (h:∀h' tk l out ks',Told prog w (fun v=>∃a,v=.ref a/\R a) H0 s.heap h' l ks out ks'->s.toks<=tk->Q (.ref l) { s with heap:=h',toks:=tk}) :
  wpAny (model prog w) A (call (.builtin "sorted") [.ref S]) Q E s :=
 qi hx hne h66 (uD (by simpa using hh) T hx fun h' tk vs ks' a z b c e d=>⟨h',tk,ks',rfl,a,z,b,c,d,e⟩) h
def uE{l:Addr}{vs:List Value}{ks:List (List Int)}{Q:Value->Shared->Prop}(hl:s.heap.IsList l vs.toArray)(hk:Lie prog w s.heap vs.toArray ks)(hne:∀k∈ks,k≠[])(h66:ks.length<=66)
  (h:∀h' tk l out ks',Told prog w (·∈vs) s.heap s.heap h' l ks out ks'->s.toks<=tk->Q (.ref l) { s with heap:=h',toks:=tk}) :
  wpAny (model prog w) A (call (.builtin "sorted") [.ref l]) Q E s:=by
 have hlen:vs.length=ks.length:=by have:=hk.1;simpa using this
 refine qi (R:=(·∈vs)) (H0:=s.heap) (fun b o e=>e) hne h66 (collect_list hl ⟨_,s.toks,ks,rfl,fun b o e=>?_,by rw[Heap.size_update,size_push'];exact qce _,qag _,hk,List.Perm.refl _,fun v hv=>hv⟩ (by rw[sizeLine_eq];ext)) h;have hlt:b<s.heap.objs.size:=qaq e;rw[qbQ _ _ _ _ (qaK hlt)];exact qab _ e
end
end SortT
namespace MM
open PySem PySem.Spec PyProof.Rows L2 SetT SortT
def g6:List PV->Option (List Int)
 | []=>some []
 | .int i::r=>(g6 r).map (i::·)
 | _=>none
def kOf:PV->Option (List Int)
 | .tup xs=>g6 xs
 | _=>none
def gD:List PV->Option (List (List Int))
 | []=>some []
 | x::r=>(match kOf x,gD r with
  | some k,some ks=>some (k::ks)
  | _,_=>none)
def kP(k:List Int):PV:=.tup (k.map .int)
def cD(l:List (List Int)):List (List Int):=l.mergeSort fun x y=>!bY y x
def dy(l:List (List Int)):(cD l).Perm l:=List.mergeSort_perm _ _
def jT(l:List (List Int)):Ris (cD l):=by
 have:=qcJ (le:=fun x y=>!bY y x) (l:=l) (fun a b c h1 h2=>by
   simp only[qbO] at h1 h2 ⊢
   exact KeyOrd.kle_trans (O:=lexO) h1 h2) (fun a b=>by
   cases h:bY b a with
   | false=>simp
   | true =>
    have:bY a b=false:=KeyOrd.klt_asymm (O:=lexO) h
    simp[this])
 unfold Ris cD;exact this.imp fun {a b} h=>by simpa using h
def nB(h1:Ris l)(h2:Ris m)(p:l.Perm m):l=m :=
 List.Perm.eq_of_pairwise (fun a b _ _ x y=>ji a b y x) h1 h2 p
def sD:∀{xs:List PV} {k:List Int},g6 xs=some k->xs=k.map .int
 | [],k,h=>by cases h;rfl
 | x::r,k,h=>by
  cases x with
  | int i =>
   unfold g6 at h
   cases hr:g6 r with
   | none=>rw[hr] at h;cases h
   | some kr =>
    rw[hr] at h;cases h;rw[sD hr];rfl
  | _=>cases h
def kOf_eq(h:kOf x=some k):x=kP k:=by
 cases x with
 | tup xs=>unfold kP;rw[sD (show g6 xs=some k from h)]
 | _=>cases h
def oC:∀{xs:List PV} {ks:List (List Int)},gD xs=some ks->xs=ks.map kP
 | [],ks,h=>by cases h;rfl
 | x::r,ks,h=>by
  unfold gD at h
  cases hx:kOf x with
  | none=>rw[hx] at h;cases h
  | some k =>
   cases hr:gD r with
   | none=>rw[hx,hr] at h;cases h
   | some kr =>
    rw[hx,hr] at h;cases h;rw[kOf_eq hx,oC hr];rfl
def TKs(K:qad)(H:Hp)(ys:List V)(ks:List (List Int)):Prop :=
 ys.length=ks.length/\∀(i:Nat) (y:V) (k:List Int),ys[i]?=some y->ks[i]?=some k->∃a,y=.ref a/\SqT K H a (k.map V.int)
def vints{K:qad}{ρ:List Addr}{H:Hp}:∀{k:List Int} {ys:List V},RPs K ρ H (k.map PV.int) ys->ys=k.map V.int
 | [],ys,h=>by cases h;rfl
 | i::k,ys,h=>by
  cases h with
  | cons r t =>
   cases r;rw[vints t];rfl
def oN{K:qad}{ρ:List Addr}{H:Hp}:∀{ks:List (List Int)} {ys:List V},RPs K ρ H (ks.map kP) ys->TKs K H ys ks
 | [],ys,h=>by cases h;exact⟨rfl,fun i y k e=>by simp at e⟩
 | k::ks,ys,h=>by
  cases h with
  | cons r t =>
   obtain⟨l,g⟩:=oN t;refine⟨by simp[l],fun i y k' e1 e2=>?_⟩
   cases i with
   | zero =>
    simp at e1 e2;subst e1;subst e2
    cases r with
    | tup s1 r1 =>
     rw[vints r1] at s1;exact⟨_,rfl,s1⟩
   | succ i=>exact g i y k' (by simpa using e1) (by simpa using e2)
def oH{K:qad}{ρ:List Addr}{H:Hp}:∀{ks:List (List Int)} {ys:List V},TKs K H ys ks->RPs K ρ H (ks.map kP) ys
 | [],ys,h=>by
  have:ys=[]:=qbD.mp (by have:=h.1;simpa using this)
  subst this;exact .nil
 | k::ks,ys,h=>by
  cases ys with
  | nil=>have:=h.1;simp at this
  | cons y ys =>
   obtain⟨a,rfl,s1⟩:=h.2 0 y k rfl rfl;refine .cons (.tup s1 (RPs.ints k)) (oH ⟨by have:=h.1;simpa using this,fun i y' k' e1 e2=>h.2 (i+1) y' k' (by simpa using e1) (by simpa using e2)⟩)
def nu:∀{k:List Int} {its:List Value},az (k.map V.int) its->ItemsAre (intKind prog w) k its
 | [],_,h=>by cases h;exact .nil
 | i::k,_,h=>by
  cases h with
  | cons r t =>
   obtain⟨tk,rfl⟩:=r;exact .cons (intKind_is _ _ _ _) (nu t)
section
variable {X:Cx} {HV:List (Addr × Obj)} {σ:L2.St} {H:Hp} {s:Shared}
def nQ(I:Inv X HV σ H s)(h:SqT X.K H a (k.map V.int)):TK X.prog X.w s.heap k a:=by
 obtain⟨its,rv,⟨o,ho,hc,n,hd⟩,_⟩:=I.tuple h;exact⟨o,its.toArray,n,ho,hc,hd,by simpa using nu rv⟩
def vi(I:Inv X HV σ H s)(h:TKs X.K H ys ks)(rv:az ys its):Lie X.prog X.w s.heap its.toArray ks:=by
 refine⟨by simp[<-rv.length,h.1],fun i v k hv hk=>?_⟩;have hi:i<ys.length:=by rw[h.1];exact (qae.mp hk).1
 obtain⟨a,e,s1⟩:=h.2 i ys[i] k (by simp[hi]) hk;obtain⟨u,eu,ru⟩:=rv.get (show ys[i]?=some ys[i] by simp[hi])
 have:v=u:=by
  have h1:its[i]?=some v:=by simpa using hv
  rw[h1] at eu;exact Option.some.inj eu
 subst this;rw[e] at ru;exact⟨a,ru,nQ I s1⟩
end
def SPh(prog:Program)(w:World)(S:Addr)(al:List (List Int × Addr))(h:Heap):Prop :=
 ∃o es ep t,h.get? S=some o/\o.ExactSet/\o.data=.set es ep t/\t.dummies=#[]/\(t.mask=7\/t.mask=31\/t.mask=127)/\t.plain=true/\t.led=bV w /\
  WF t.mask t.place (es.map (·.1))/\jy t es.size/\es.toList=al.map fun p=>(TH prog w p.1,Value.ref p.2)
def sph_of(T:dk prog w P h S (bV w) ks) :
  ∃al,SPh prog w S al h/\(al.map (·.1)).Perm ks/\∀p∈al,TK prog w h p.1 p.2/\P p.2:=by
 obtain⟨o,es,ep,t,ks',T,hr,hpm,hnd⟩:=T;have key:∀(l:List (Int × Value)) (ls:List (List Int)),l.length=ls.length->(∀(i:Nat) (e:Int × Value) (k:List Int),l[i]?=some e->ls[i]?=some k->∃a,e.2=.ref a/\TK prog w h k a/\e.1=TH prog w k/\P a) ->
   ∃al:List (List Int × Addr),l=al.map (fun p=>(TH prog w p.1,Value.ref p.2))/\al.map (·.1)=ls/\∀p∈al,TK prog w h p.1 p.2/\P p.2:=by
  intro l
  induction l with
  | nil =>
   intro ls hl _
   have:ls=[]:=qbD.mp (by simpa using hl.symm)
   subst this;exact⟨[],rfl,rfl,fun p hp=>by cases hp⟩
  | cons e l ih =>
   intro ls hl g
   cases ls with
   | nil=>simp at hl
   | cons k ls =>
    obtain⟨a,e1,e2,e3,e4⟩:=g 0 e k rfl rfl;obtain⟨al,a1,a2,a3⟩:=ih ls (by simpa using hl) fun i e' k' h1 h2=>g (i+1) e' k' (by simpa using h1) (by simpa using h2);refine⟨(k,a)::al,?_,by simp[a2],fun p hp=>?_⟩
    ·rw[a1,qaG];congr 1;obtain⟨x1,x2⟩:=e;simp only at e1 e3;rw[e1,e3]
    ·rcases qar.mp hp with rfl|hp
     ·exact⟨e2,e4⟩
     ·exact a3 p hp
 obtain⟨al,a1,a2,a3⟩:=key es.toList ks' (by rw[qaz];exact T.ents.1) fun i e k h1 h2=>T.ents.2 i e k (by rw[<-qaw];exact h1) h2;exact⟨al,⟨o,es,ep,t,T.get,T.ex,T.data,T.dm,T.mask,T.plain,T.led',T.wf,hr,a1⟩,by rw[a2];exact hpm,a3⟩
def tset_of(p:SPh prog w S al h)(hk:∀q∈al,TK prog w h q.1 q.2)(hnd:(al.map (·.1)).Nodup) :
  dk prog w (PB h fun a=>∃k,(k,a)∈al) h S (bV w) (al.map (·.1)):=by
 obtain⟨o,es,ep,t,p1,p2,p3,p4,p5,p6,p7,p8,p9,p10⟩:=p;refine⟨o,es,ep,t,al.map (·.1),⟨p1,p2,p3,p4,p5,p6,p7,p8,?_,fun i e k h1 h2=>?_⟩,p9,List.Perm.refl _,hnd⟩
 ·rw[<-qaz,p10];simp
 ·rw[<-qaw,p10,qao] at h1;rw[qao] at h2
  cases hi:al[i]? with
  | none=>rw[hi] at h1;cases h1
  | some q =>
   rw[hi] at h1 h2;cases h1;cases h2;have hm:=qaI hi;have t1:=hk q hm;exact⟨q.2,rfl,t1,rfl,let ⟨o',_,_,ho',_⟩:=t1;⟨o',ho'⟩,q.1,hm⟩
def wP(p:SPh prog w S al h1)(k:∀o,h1.get? S=some o->h2.get? S=some o):SPh prog w S al h2:=by
 obtain⟨o,es,ep,t,p1,r⟩:=p;exact⟨o,es,ep,t,k o p1,r⟩
section
variable {X:Cx} {N W G:List Str} {k:Nat}
def yk(hh:X.calm=true)(hr:Room k X.A):cu X (.type "set") (fun xs H Q=>∃l ys ks,xs=[.ref l]/\SqL X.K H l ys/\TKs X.K H ys ks/\(ded ks).length<=66 /\
  ∀S al,H S=none->(al.map (·.1)).Perm (ded ks)->(∀p∈al,SqT X.K H p.2 (p.1.map V.int))->Q (.ref S) (upd H S (.ext (SPh X.prog X.w S al)))):=by
 intro HV s σ H xs us Q I r ⟨l,ys,ks,e,hq,ht,h66,q⟩;subst e;obtain⟨u,rfl,rx⟩:=dM r;cases rx;obtain⟨its,rv,pl,hz⟩:=I.list hq;have lie:=vi I ht rv;refine qP (I.ok.hd hh) (by have:=hr.units;ext) pl.isList lie h66 fun h' tk T x htk=>?_;obtain⟨al,sp,pm,al2⟩:=sph_of T;have hfr:=I.hok.fresh (qag s.heap.objs.size);obtain⟨o,es,ep,t,ho,rest⟩:=id sp;refine⟨.ref s.heap.objs.size,_,I.laid (o:=.ext (SPh X.prog X.w s.heap.objs.size al)) x (qag _) ⟨sp,⟨o,ho⟩,fun h1 h2 a b=>wP a b⟩,rfl,q _ al hfr pm fun p hp=>?_⟩;obtain⟨t1,⟨_,hm⟩⟩:=al2 p hp;obtain⟨i,hi⟩:=qaB.mp hm;rw[qaw] at hi;have hi':its[i]?=some (.ref p.2):=by simpa using hi
 have hlt:i<its.length:=(qae.mp hi').1;have hlt2:i<ys.length:=by rw[rv.length];exact hlt
 have hlt3:i<ks.length:=by rw[<-ht.1];exact hlt2
 obtain⟨a,e,s1⟩:=ht.2 i ys[i] ks[i] (by simp[hlt2]) (by simp[hlt3]);obtain⟨u,eu,ru⟩:=rv.get (show ys[i]?=some ys[i] by simp[hlt2]);rw[hi'] at eu;cases eu;rw[e] at ru;have ea:p.2=a:=by cases ru;rfl
 have t2:=ko x (nQ I s1);rw[<-ea] at t2
 have:p.1=ks[i]:=IsTupleKey.inj t1 t2
 rw[this,ea];exact s1
def vT{HV:List (Addr × Obj)}{s:Shared}{σ:L2.St}{H:Hp}{Q:VK}{R:Value->Prop}{h':Heap}{tk:Nat}{l:Addr}{ks ks':List (List Int)}{out:List Value}(I:Inv X HV σ H s)(T:Told X.prog X.w R s.heap s.heap h' l ks out ks')
  (hR:∀v,R v->∃(a:Addr) (k:List Int),v=.ref a/\SqT X.K H a (k.map V.int)) (hz:ks.length<=66)
  (q:∀l ys,H l=none->TKs X.K H ys (cD ks)->Q (.ref l) (upd H l (.lst ys))):EP X HV σ Q (.ref l) { s with heap:=h',toks:=tk}:=by
 have hlt:=T.size;have hks:ks'=cD ks:=nB T.ris (jT ks) (T.perm.trans (dy ks).symm);obtain⟨c,hc⟩:=T.at';have hlen:out.length=ks'.length:=by have:=T.lie.1;simpa using this
 have hout:∀v∈out,∃a,v=.ref a:=fun v hv=>let ⟨a,_,e,_⟩:=hR v (T.mem v hv);⟨a,e⟩;obtain⟨ys,rv,hy⟩:∃ys:List V,az ys out/\∀y∈ys,∃a,y=.ref a/\Value.ref a∈out:=by
  clear hlen T hR hks hc
  induction out with
  | nil=>exact⟨[],.nil,fun y hy=>by cases hy⟩
  | cons v out ih =>
   obtain⟨a,rfl⟩:=hout v qaL;obtain⟨ys,r,g⟩:=ih (fun u hu=>hout u (qai _ hu));refine⟨.ref a::ys,.cons rfl r,fun y hy=>?_⟩;rcases qar.mp hy with rfl|hy
   ·exact⟨a,rfl,qaL⟩
   ·obtain⟨b,e,m⟩:=g y hy;exact⟨b,e,qai _ m⟩
 have hks2:TKs X.K H ys ks':=by
  refine⟨by rw[rv.length,hlen],fun i y k hy' hk=>?_⟩;obtain⟨u,eu,ru⟩:=rv.get hy';obtain⟨a,e,m⟩:=hy y (qaI hy');subst e;cases ru;obtain⟨b,k2,e2,s1⟩:=hR _ (T.mem _ m);cases e2;obtain⟨b2,e3,t⟩:=T.lie.2 i (.ref a) k (by simpa using eu) hk;cases e3
  have:k=k2:=IsTupleKey.inj t (nQ I s1)
  subst this;exact⟨a,rfl,s1⟩
 have hfr:=I.hok.fresh hlt;refine⟨.ref l,_,I.laid (o:=.lst ys) T.ext hlt (show ObjOk X.prog X.w _ h' l (.lst ys) from⟨?_,out,c,rv,hc⟩),rfl,q l ys hfr (by rw[<-hks];exact hks2)⟩;rw[rv.length,hlen,T.perm.length_eq,sizeLine_eq];ext
def rG(hh:X.calm=true):cu X (.builtin "sorted") (fun xs H Q=>∃S al,xs=[.ref S]/\H S=some (.ext (SPh X.prog X.w S al))/\(∀p∈al,SqT X.K H p.2 (p.1.map V.int))/\(al.map (·.1)).Nodup/\(∀p∈al,p.1≠[])/\al.length<=66 /\
  ∀l ys,H l=none->TKs X.K H ys (cD (al.map (·.1)))->Q (.ref l) (upd H l (.lst ys))):=by
 intro HV s σ H xs us Q I r ⟨S,al,e,hS,hal,hnd,hne,hz,q⟩;subst e;obtain⟨u,rfl,rx⟩:=dM r;cases rx;obtain⟨sp,_,_⟩:SPh X.prog X.w S al s.heap/\_:=(show ObjOk X.prog X.w H s.heap S (.ext (SPh X.prog X.w S al)) from I.hok S _ hS);have T:=tset_of sp (fun p hp=>nQ I (hal p hp)) hnd;refine wn (I.ok.hd hh) T (fun b o e=>e) (fun k hk=>?_) (by simpa using hz) fun h' tk l out ks' td htk=>?_
 ·obtain⟨p,hp,rfl⟩:=qax.mp hk;exact hne p hp
 ·refine vT I td (fun v ⟨a,e,k,hm⟩=>⟨a,k,e,hal (k,a) hm⟩) (by simpa using hz) q
def sX:cu X (.builtin "sorted") (fun xs H Q=>∃l ys ks,xs=[.ref l]/\SqL X.K H l ys/\TKs X.K H ys ks/\(∀k∈ks,k≠[])/\ks.length<=66 /\
  ∀l' ys',H l'=none->TKs X.K H ys' (cD ks)->Q (.ref l') (upd H l' (.lst ys'))):=by
 intro HV s σ H xs us Q I r ⟨l,ys,ks,e,hq,ht,hne,hz,q⟩;subst e;obtain⟨u,rfl,rx⟩:=dM r;cases rx;obtain⟨its,rv,pl,hz2⟩:=I.list hq;refine uE pl.isList (vi I ht rv) hne hz fun h' tk l' out ks' td htk=>?_;refine vT I td (fun v hv=>?_) hz q;obtain⟨i,hi⟩:=qaB.mp hv;have hlt:i<its.length:=(qae.mp hi).1;have hlt2:i<ys.length:=by rw[rv.length];exact hlt
 have hlt3:i<ks.length:=by rw[<-ht.1];exact hlt2
 obtain⟨a,e,s1⟩:=ht.2 i ys[i] ks[i] (by simp[hlt2]) (by simp[hlt3]);obtain⟨u,eu,ru⟩:=rv.get (show ys[i]?=some ys[i] by simp[hlt2]);rw[hi] at eu;cases eu;rw[e] at ru;exact⟨a,_,ru,s1⟩
def cM(h:MH):PV->Option (List PV)
 | .frl xs=>some xs
 | .loc n=>(match h[n]? with
  | some (.lst xs)=>some xs
  | _=>none)
 | _=>none
def pz{ρ:List Addr}{H:Hp}{h:MH}{x:PV}{y:V}{xs:List PV}{K:qad}{mg:MGl}(rh:RH K mg ρ H h)(r:RP K ρ H x y)(e:cM h x=some xs):∃a zs,y=.ref a/\SqL K H a zs/\RPs K ρ H xs zs:=by
 cases r with
 | frl s r=>cases e;exact⟨_,_,rfl,s.sq,r⟩
 | @loc n a en =>
  obtain⟨o,eo,ro⟩:=rh.obj en;unfold cM at e;dsimp only at e;rw[eo] at e
  cases o with
  | lst zs =>
   cases e;obtain⟨ys,ey,ry⟩:=ro;exact⟨a,ys,rfl,SqL.of ey,ry⟩
  | _=>cases e
 | _=>cases e
def mSS(m:Mx (List PV)):Mx PV:=fun σ h=>(m σ h).bind fun vs h1=>match vs with
 | [x]=>(match (cM h1 x).bind gD with
  | some ks=>if (∀k∈ks,k≠[])/\(ded ks).length<=66 then .ok (.loc h1.length) (h1++[.lst ((cD (ded ks)).map kP)]) else .bad
  | none=>.bad)
 | _=>.bad
def km(l:List (List Int)):(ded l).Nodup:=by
 have key:∀(m:List (List Int)) (acc:List (List Int)),acc.Nodup->(m.foldl SetT.dQ acc).Nodup:=by
  intro m
  induction m with
  | nil=>intro acc h;exact h
  | cons k m ih =>
   intro acc h;refine ih _ ?_;unfold SetT.dQ;split
   ·exact h
   ·rename_i hk
    rw[qbY];refine⟨h,by simp,fun x hx y hy=>?_⟩
    have:y=k:=by simpa using hy
    subst this;rintro rfl;exact hk hx
 exact key l [] qdd
def wo(p:l.Perm m):cD l=cD m:=nB (jT l) (jT m) ((dy l).trans (p.trans (dy m).symm))
def kj(g:Good X N W G k){a:Expr}{m:Mx (List PV)}{i j:Nat}{p p' pos pos':Pos}(hi:G[i]?=some "sorted")(hm:X.mg "sorted"=none)(hj:G[j]?=some "set")(hm':X.mg "set"=none)(ha:MA X [a] m)
  (hs:starEach [a] X.env=[(false,eval a X.env)]:=by rfl) (he:starEach [.Call (.Name "set" p') [a] [] pos'] X.env=[(false,eval (.Call (.Name "set" p') [a] [] pos') X.env)]:=by rfl) :
  ME X (.Call (.Name "sorted" p) [.Call (.Name "set" p') [a] [] pos'] [] pos) (mSS m):=by
 have d:=g.dbg _ (qal _ (aS hi));have d':=g.dbg _ (qal _ (aS hj));refine PE.imp (jo (rG g.calm) (g.gl _ (aS hi)) hm PyProof.Rows.Boot.«sorted» (gh (iu (yk g.calm g.room) (g.gl _ (aS hj)) hm' PyProof.Rows.Boot.«set» ha d'.2.2 d'.1 hs rfl) kM he) d.2.2 d.1 he rfl) fun σ H Q ⟨ρ,σp,h,rs,rh,q⟩=>?_;refine⟨ρ,σp,h,rs,rh,Ful.bind q fun ρ1 H1 x x' h1 ex l1 rh1 rx q1=>?_⟩;clear ex
 cases rx with
 | nil=>exact q1.elim
 | @cons y y' _ _ r1 t1 =>
  cases t1 with
  | cons _ _=>exact q1.elim
  | nil =>
   dsimp only at q1
   cases hl:cM h1 y with
   | none=>rw[hl] at q1;exact q1.elim
   | some xs =>
    rw[hl] at q1
    cases hk:gD xs with
    | none=>simp only[qaT,hk] at q1;exact q1.elim
    | some ks =>
     simp only[qaT,hk] at q1;by_cases z:(∀k∈ks,k≠[])/\(ded ks).length<=66
     ·rw[qaf z] at q1;obtain⟨la,zs,rfl,hsq,rzs⟩:=pz rh1 r1 hl;rw[oC hk] at rzs;refine⟨la,zs,ks,rfl,hsq,oN rzs,z.2,fun S al hS pm hal=>?_⟩;obtain⟨rh2,l2⟩:=rh1.loose hS (.ext (SPh X.prog X.w S al));refine⟨S,al,rfl,bZ,fun p hp=>l2.sqt (hal p hp),pm.nodup_iff.mpr (km ks),fun p hp=>?_,?_,fun l ys hl2 tk=>?_⟩
      ·have:p.1∈ded ks:=pm.mem_iff.mp (qax.mpr ⟨p,hp,rfl⟩)
       exact z.1 p.1 ((iO _ _).mp this)
      ·have:=pm.length_eq
       rw[qat] at this;rw[this];exact z.2
      ·rw[wo pm] at tk;obtain⟨rh3,l3⟩:=rh2.new hl2 (o:=.lst ((cD (ded ks)).map kP)) (ho:=.lst ys) ⟨_,rfl,oH tk⟩;exact q1 _ _ _ (l2.trans l3) rh3 (.loc (by rw[<-rh1.len];simp))
     ·rw[qak z] at q1;exact q1.elim
end
end MM
namespace SeqT
open PySem
abbrev itN(tp:Bool):String:=if tp then "tuple_iterator" else "list_iterator"
abbrev sqN(tp:Bool):String:=if tp then "tuple" else "list"
def SqI(tp:Bool)(h:Heap)(it a:Addr)(i:Nat):Prop:=∃o,h.get? it=some o/\o.cls=.type (itN tp)/\o.data=.fields #[.ref a,.int i 0]
def SqO(tp:Bool)(h:Heap)(a:Addr)(xs:Array Value):Prop:=∃o,h.get? a=some o/\o.cls=.type (sqN tp)/\∃n,o.data=.seq xs n
def SqI.at'(x:SqI tp h it a i)(k:∀o,h.get? it=some o->h'.get? it=some o):SqI tp h' it a i:=let ⟨o,e,r⟩:=x;⟨o,k o e,r⟩
def SqO.at'(x:SqO tp h a xs)(k:∀o,h.get? a=some o->h'.get? a=some o):SqO tp h' a xs:=let ⟨o,e,r⟩:=x;⟨o,k o e,r⟩
def SqI.lt(x:SqI tp h it a i):it<h.objs.size:=let ⟨_,e,_⟩:=x;qaq e
section
variable {prog:Program} {w:World} {A:Around} {E:Value→Shared→Prop} {s:Shared}
def hZ(hi:SqI tp s.heap it a i)(ho:SqO tp s.heap a xs)(hx:xs[i]?=some x)
  (hQ:∀h',SqI tp h' it a (i+1)->Heap.SameBut it s.heap h'->Q x { s with heap:=h'}):wpAny (model prog w) A (Builtin.SmallTypes.nextOf (.ref it)) Q E s:=by
 cases tp with
 | false=>exact wpAny_nextOf_list_item (show s.heap.IsListIter it a i from hi) (show s.heap.IsList a xs from ho) hx hQ
 | true =>
  obtain⟨o,e,hc,hd⟩:=id hi;obtain⟨ol,hol,_,nl,hdl⟩:=ho;have hT:s.TypeIs (.ref it) "tuple_iterator":=⟨o,e,hc⟩;unfold Builtin.SmallTypes.nextOf;refine qaa (wpAny_callSpecial?_slot (name:=Str.ofString "__next__") hT F.slot_tuple_iterator_next (wpAny_call_entry F.slot_tuple_iterator_next hT F.entry_tuple_iterator_next ?_ (F.args_tuple_iterator_next_1 _)));show wpAny _ _ (field (.ref it) 0 >>= _) _ _ s;refine qaa (wpAny_field e hd (x:=.ref a) rfl ?_);show wpAny _ _ (if (Value.ref a == Value.none)=true then _ else _) _ _ s;rw[qak (show ¬((Value.ref a == Value.none)=true) from qaX)];show wpAny _ _ (field (.ref it) 1 >>= _) _ _ s;refine qaa (wpAny_field e hd (x:=.int i 0) rfl ?_);show wpAny _ _ (seqItems? (.ref a) >>= _) _ _ s;refine qaa (wpAny_seqItems hol hdl ?_);simp only[qaQ,hx];refine qaa (wpAny_setField e hd (by simp) (qah ⟨x,rfl,qah (hQ _ ?_ (Heap.SameBut.update ..))⟩));exact⟨_,qbJ _ e (Obj.isFreed_of_fields (Obj.data_mapFields hd _)),(Obj.cls_mapFields ..).trans hc,by rw[Obj.data_mapFields hd];simp[rawInt]⟩
def jI(hh:A.handled=none)(hi:SqI tp s.heap it a i)(ho:SqO tp s.heap a xs)(hx:xs[i]?=none)
  (hE:∀h' e,Heap.ExtBut it s.heap h'->(∃o,h'.get? e=some o/\o.cls=.type "StopIteration")->E (.ref e) { s with heap:=h'}):wpAny (model prog w) A (Builtin.SmallTypes.nextOf (.ref it)) Q E s:=by
 cases tp with
 | false=>exact wpAny_nextOf_list_end hh (show s.heap.IsListIter it a i from hi) (show s.heap.IsList a xs from ho) hx hE
 | true =>
  obtain⟨o,e,hc,hd⟩:=id hi;obtain⟨ol,hol,_,nl,hdl⟩:=ho;have hT:s.TypeIs (.ref it) "tuple_iterator":=⟨o,e,hc⟩;unfold Builtin.SmallTypes.nextOf;refine qaa (wpAny_callSpecial?_slot (name:=Str.ofString "__next__") hT F.slot_tuple_iterator_next (wpAny_call_entry F.slot_tuple_iterator_next hT F.entry_tuple_iterator_next ?_ (F.args_tuple_iterator_next_1 _)));show wpAny _ _ (field (.ref it) 0 >>= _) _ _ s;refine qaa (wpAny_field e hd (x:=.ref a) rfl ?_);show wpAny _ _ (if (Value.ref a == Value.none)=true then _ else _) _ _ s;rw[qak (show ¬((Value.ref a == Value.none)=true) from qaX)];show wpAny _ _ (field (.ref it) 1 >>= _) _ _ s;refine qaa (wpAny_field e hd (x:=.int i 0) rfl ?_);show wpAny _ _ (seqItems? (.ref a) >>= _) _ _ s;refine qaa (wpAny_seqItems hol hdl ?_);simp only[qaQ,hx];refine qaa (wpAny_rule (qaa (wpAny_setField e hd (by simp) ?_)));show wpAny _ _ (newExc (.type "StopIteration") [] >>= _) _ _ _;refine qaa ?_;simp only[newExc,newTuple];refine qaa (wpAny_newObj_type ?_ (by size_fits));refine qaa (m:=firstArgMember _ _) (wpAny_of_eq (a:=Value.none) (by first | rfl | (simp only[firstArgMember];rfl)) ?_);refine wpAny_newObj_type ?_ (by size_fits);simp only[raiseNew];refine qaa (wpAny_handled ?_);rw[show A.in1.handled=none from hh];refine qaa (qah (wpAny_throw ?_));exact hE _ _ (((Heap.SameBut.update ..).extBut.push _).push _) ⟨_,qap _ rfl,rfl⟩
def iR(ho:SqO tp s.heap a xs)
  (hQ:Q (.ref s.heap.objs.size) { s with heap:=s.heap.push { cls:=.type (itN tp),data:=.fields #[.ref a,.int 0 0]}}):wpAny (model prog w) A (pyIter (.ref a)) Q E s:=by
 cases tp with
 | false=>exact wpAny_pyIter_list (show s.heap.IsList a xs from ho) hQ
 | true=>exact wpAny_pyIter_tuple (show s.heap.IsTuple a xs from ho) hQ
end
def draws(hh:A.handled=none)(tp:Bool)(it a:Addr)(hne:a≠it)(xs:Array Value) :
  Draws prog w A it [it,a] xs.size (fun i v=>xs[i]?=some v) (fun i h=>SqI tp h it a i/\SqO tp h a xs) where
 live:=fun _ _ st=>let ⟨o,ho,_⟩:=st.1;⟨o,ho⟩
 frame:=fun _ _ _ st hk=>⟨st.1.at' fun o e=>hk it (by simp) o e,st.2.at' fun o e=>hk a (by simp) o e⟩
 item:=fun i s Q E hi st hQ=>by
  refine hZ st.1 st.2 (x:=xs[i]) (by simp[hi]) fun h' hit' hs'=>?_;exact hQ _ h' s.toks (by simp[hi]) ⟨hit',st.2.at' fun o e=>(hs'.2 a hne).trans e⟩ hs'
 done:=fun s Q E st hE=>jI hh st.1 st.2 (by simp) hE
def AI(tp:Bool)(a:Addr)(xs:Array Value)(n:Nat)(dct:Option Addr)(sl:Array (Option Value)) :
  Meets (Builtin.«enumerate.__new__» ⟨[.type "enumerate",.ref a],[]⟩) (fun _ R s=>s.heap.get? a=some { cls:=.type (sqN tp),dict:=dct,data:=.seq xs n,slots:=sl} /\
   R (.ok (.ret (.ref (s.heap.push { cls:=.type (itN tp),data:=.fields #[.ref a,.int 0 0]}).objs.size)))
    { s with heap:=(s.heap.push { cls:=.type (itN tp),data:=.fields #[.ref a,.int 0 0]}).push { cls:=.type "enumerate",data:=.fields #[.none,.bool false,.ref s.heap.objs.size,rawInt 0,.none,.none]}}) :=
 .of_wp fun prog w A R s h=>by
  obtain⟨hp,g,d,tk,os⟩:=s;obtain⟨hl,h⟩:=h;have hsub:=sub_enumerate;have hL:SqO tp (Shared.heap ⟨hp,g,d,tk,os⟩) a xs:=⟨_,hl,rfl,n,rfl⟩
  wp_walk using AutoSeq1.wpAny_loadPart' hl
  refine wpAny_stack_any fun st=>qah ?_;split
  ·rename_i c _ _ _ _ _
   cases (c == Value.type "enumerate")
   ·wp_walk using AutoSeq1.wpAny_loadPart' hl,iR hL
    exact⟨_,rfl,h⟩
   ·wp_walk using AutoSeq1.wpAny_loadPart' hl,iR hL
    exact⟨_,rfl,h⟩
  ·wp_walk using AutoSeq1.wpAny_loadPart' hl,iR hL
   exact⟨_,rfl,h⟩
section
variable {prog:Program} {w:World} {A:Around} {E:Value→Shared→Prop} {s:Shared}
def yA(hL:SqO tp s.heap a xs)
  (h:∀h',IsEnum h' (s.heap.objs.size+1) s.heap.objs.size 0 .none->SqI tp h' s.heap.objs.size a 0->h'.objs.size=s.heap.objs.size+2 ->
   (∀b o,s.heap.get? b=some o->h'.get? b=some o)->Q (.ref (s.heap.objs.size+1)) { s with heap:=h'}) :
  wpAny (model prog w) A (call (.type "enumerate") [.ref a]) Q E s:=by
 obtain⟨⟨c,dct,dt,sl⟩,hl,hc,n,hd⟩:=hL;replace hc:c=.type (sqN tp):=hc;replace hd:dt=.seq xs n:=hd;subst hc hd;refine callType_new F.called_enumerate (by decide) (F.typeCall_enumerate_1 _) (F.newCall_enumerate_1 _) (fun obj=>F.args_object_init_2 obj _) F.entry_enumerate_new (AI tp a xs n dct sl) ⟨hl,?_⟩;have hz:(s.heap.push { cls:=.type (itN tp),data:=.fields #[.ref a,.int 0 0]}).objs.size=s.heap.objs.size+1:=qbc ..;show _/\_;rw[hz]
 have he:IsEnum ((s.heap.push { cls:=.type (itN tp),data:=.fields #[.ref a,.int 0 0]}).push
   { cls:=.type "enumerate",data:=.fields #[.none,.bool false,.ref s.heap.objs.size,rawInt 0,.none,.none]}) (s.heap.objs.size+1) s.heap.objs.size 0 .none:=by
  have:=qap (s.heap.push { cls:=.type (itN tp),data:=.fields #[.ref a,.int 0 0]})
   (o:={ cls:=.type "enumerate",data:=.fields #[.none,.bool false,.ref s.heap.objs.size,rawInt 0,.none,.none]}) rfl
  rw[hz] at this;exact this
 exact⟨⟨_,he,rfl⟩,h _ he ⟨_,qab _ (qap _ rfl),rfl,rfl⟩ (by rw[qbc,hz]) fun b o x=>qab _ (qab _ x)⟩
end
section
variable {prog:Program} {w:World} {A:Around} {E:Value→Shared→Prop} {s:Shared} {z TI TO i1 i2 l1 l2:Addr} {t1 t2:Bool} {k1 k2:Nat} {xs ys:Array Value}
def yf{x y a b:Value}{Q:Value->Shared->Prop}(D:ZipApart z TI TO i1 i2 l1 l2)
  (hz:IsZip s.heap z TI TO .none) (hTI:IsPair s.heap TI (.ref i1) (.ref i2)) (hTO:IsPair s.heap TO a b)
  (h1:SqI t1 s.heap i1 l1 k1) (h2:SqI t2 s.heap i2 l2 k2) (hl1:SqO t1 s.heap l1 xs) (hl2:SqO t2 s.heap l2 ys) (hx:xs[k1]?=some x) (hy:ys[k2]?=some y)
  (hQ:∀h',IsZip h' z TI TO (rawInt s.heap.objs.size)->IsPair h' TO x y->SqI t1 h' i1 l1 (k1+1)->SqI t2 h' i2 l2 (k2+1)->IsPair h' s.heap.objs.size x y->h'.objs.size=s.heap.objs.size+1 ->
   (∀c o,c≠z->c≠TO->c≠i1->c≠i2->s.heap.get? c=some o->h'.get? c=some o)->Q (.ref s.heap.objs.size) { s with heap:=h'}) :
  wpAny (model prog w) A (Builtin.«zip.__next__» ⟨[.ref z],[]⟩) (fun fin s'=>∃v,fin=.done (.ret v)/\Q v s') E s:=by
 show wpAny _ _ (field (.ref z) 2 >>= _) _ _ _;refine qaa (wpAny_field hz rfl (x:=.bool false) rfl ?_);show wpAny _ _ (field (.ref z) 3 >>= _) _ _ _;refine qaa (wpAny_field hz rfl (x:=.ref TI) rfl ?_);refine qaa (wpAny_seqItems hTI rfl ?_);show wpAny _ _ (Builtin.SmallTypes.ownedTupleIsFree (.ref z) >>= _) _ _ _;refine qaa ?_;unfold Builtin.SmallTypes.ownedTupleIsFree;refine qaa (wpAny_field hz rfl (x:=.none) rfl (qah ?_));simp only[if_true];refine qaa (wpAny_rule ?_);refine qaa (wpAny_field hz rfl (x:=.ref TO) rfl ?_);refine qaa (wpAny_setField_rec hz (by simp) fun ha hza sa=>?_);replace hza:IsZip ha z TI TO .ellipsis:=hza;replace sa:Heap.SameBut z s.heap ha:=sa;refine qaa ?_;simp only[qcM,List.zipIdx_nil,qcT,qde];refine qaa (qaa (wpAny_onRaise ?_));show wpAny _ _ (Builtin.SmallTypes.nextOf (.ref i1) >>= _) _ _ _;refine qaa (hZ (s:={ s with heap:=ha}) (h1.at' fun o e=>(sa.2 _ D.i1z).trans e) (hl1.at' fun o e=>(sa.2 _ D.l1z).trans e) hx fun hb h1b sb=>qah ?_);replace sb:Heap.SameBut i1 ha hb:=sb;have TOb:IsPair hb TO a b:=(sb.2 _ D.TOi1).trans ((sa.2 _ D.TOz).trans hTO);refine qaa (wpAny_seqItems TOb rfl ?_);refine qaa (wpAny_updateSeq_pair TOb fun hc TOc sc=>?_);replace TOc:IsPair hc TO x b:=TOc;replace sc:Heap.SameBut TO hb hc:=sc;refine qaa (wpAny_letGo (qah ?_));refine qaa (qaa (wpAny_onRaise ?_));show wpAny _ _ (Builtin.SmallTypes.nextOf (.ref i2) >>= _) _ _ _
 refine qaa (hZ (s:={ s with heap:=hc}) (h2.at' fun o e=>(sc.2 _ D.TOi2.symm).trans ((sb.2 _ D.i12.symm).trans ((sa.2 _ D.i2z).trans e)))
  (hl2.at' fun o e=>(sc.2 _ D.l2TO).trans ((sb.2 _ D.l2i1).trans ((sa.2 _ D.l2z).trans e))) hy fun hd h2d sd=>qah ?_)
 replace sd:Heap.SameBut i2 hc hd:=sd;have TOd:IsPair hd TO x b:=(sd.2 _ D.TOi2).trans TOc;refine qaa (wpAny_seqItems TOd rfl ?_);refine qaa (wpAny_updateSeq_pair TOd fun he TOe se=>?_);replace TOe:IsPair he TO x y:=TOe;replace se:Heap.SameBut TO hd he:=se;refine qaa (wpAny_letGo (qah (qah ?_)));refine qaa (wpAny_seqItems TOe rfl ?_);refine qaa (wpAny_newTuple ?_);have hsz:he.objs.size=s.heap.objs.size:=by rw[se.1,sd.1,sc.1,sb.1,sa.1]
 have hze:IsZip he z TI TO .ellipsis:=(se.2 _ D.TOz.symm).trans ((sd.2 _ D.i2z.symm).trans ((sc.2 _ D.TOz.symm).trans ((sb.2 _ D.i1z.symm).trans hza)));have hke:∀c o,c≠z->c≠TO->c≠i1->c≠i2->s.heap.get? c=some o->he.get? c=some o:=fun c o c1 c2 c3 c4 e =>
  (se.2 _ c2).trans ((sd.2 _ c4).trans ((sc.2 _ c2).trans ((sb.2 _ c3).trans ((sa.2 _ c1).trans e))))
 have h1e:SqI t1 he i1 l1 (k1+1):=h1b.at' fun o e=>(se.2 _ D.TOi1.symm).trans ((sd.2 _ D.i12).trans ((sc.2 _ D.TOi1.symm).trans e));have h2e:SqI t2 he i2 l2 (k2+1):=h2d.at' fun o e=>(se.2 _ D.TOi2.symm).trans e;have hzlt:z<he.objs.size:=qaq hze;show wpAny _ _ (Builtin.SmallTypes.ownedTupleHandOut (.ref z) (.ref he.objs.size) >>= _) _ _ _;refine qaa ?_;unfold Builtin.SmallTypes.ownedTupleHandOut;have hzf:IsZip (he.push { cls:=.type "tuple",data:=.seq #[x,y]}) z TI TO .ellipsis:=qab _ hze;refine qaa (wpAny_setField_rec hzf (by simp) fun hg hzg sg=>?_);replace hzg:IsZip hg z TI TO (rawInt he.objs.size):=hzg;refine wpAny_setField_rec hzg (by simp) fun hh hzh sh=>?_;replace hzh:IsZip hh z TI TO (rawInt he.objs.size):=hzh;have up:∀c o,c≠z->he.get? c=some o->hh.get? c=some o:=fun c o c1 e=>(sh.2 _ c1).trans ((sg.2 _ c1).trans (qab _ e));have hTh:IsPair hh he.objs.size x y:=(sh.2 _ (qbd hzlt)).trans ((sg.2 _ (qbd hzlt)).trans (qap _ rfl));have hzs:hh.objs.size=he.objs.size+1:=by rw[sh.1,sg.1,qbc]
 rw[hsz] at hzh hTh hzs;refine qah ⟨_,rfl,?_⟩;show Q (.ref he.objs.size) _;rw[hsz];exact hQ hh hzh (up _ _ D.TOz TOe) (h1e.at' fun o e=>up _ o D.i1z e) (h2e.at' fun o e=>up _ o D.i2z e) hTh hzs fun c o c1 c2 c3 c4 e=>up c o c1 (hke c o c1 c2 c3 c4 e)
def AE(hh:A.handled=none)(D:ZipApart z TI TO i1 i2 l1 l2)
  (hz:IsZip s.heap z TI TO .none) (hTI:IsPair s.heap TI (.ref i1) (.ref i2)) (hTO:IsPair s.heap TO a b)
  (h1:SqI t1 s.heap i1 l1 k1) (h2:SqI t2 s.heap i2 l2 k2) (hl1:SqO t1 s.heap l1 xs) (hl2:SqO t2 s.heap l2 ys) (hend:xs[k1]?=none\/ys[k2]?=none)
  (hE:∀h' e,(∀c o,c≠z->c≠TO->c≠i1->c≠i2->s.heap.get? c=some o->h'.get? c=some o)->(∃o,h'.get? e=some o/\o.cls=.type "StopIteration")->E (.ref e) { s with heap:=h'}) :
  wpAny (model prog w) A (Builtin.«zip.__next__» ⟨[.ref z],[]⟩) Q E s:=by
 show wpAny _ _ (field (.ref z) 2 >>= _) _ _ _;refine qaa (wpAny_field hz rfl (x:=.bool false) rfl ?_);show wpAny _ _ (field (.ref z) 3 >>= _) _ _ _;refine qaa (wpAny_field hz rfl (x:=.ref TI) rfl ?_);refine qaa (wpAny_seqItems hTI rfl ?_);show wpAny _ _ (Builtin.SmallTypes.ownedTupleIsFree (.ref z) >>= _) _ _ _;refine qaa ?_;unfold Builtin.SmallTypes.ownedTupleIsFree;refine qaa (wpAny_field hz rfl (x:=.none) rfl (qah ?_));simp only[if_true];refine qaa (wpAny_rule ?_);refine qaa (wpAny_field hz rfl (x:=.ref TO) rfl ?_);refine qaa (wpAny_setField_rec hz (by simp) fun ha hza sa=>?_);replace hza:IsZip ha z TI TO .ellipsis:=hza;replace sa:Heap.SameBut z s.heap ha:=sa;refine qaa ?_;simp only[qcM,List.zipIdx_nil,qcT,qde];refine qaa (qaa (wpAny_onRaise ?_));show wpAny _ _ (Builtin.SmallTypes.nextOf (.ref i1) >>= _) _ _ _
 cases hx:xs[k1]? with
 | none =>
  refine qaa (jI (s:={ s with heap:=ha}) hh (h1.at' fun o e=>(sa.2 _ D.i1z).trans e) (hl1.at' fun o e=>(sa.2 _ D.l1z).trans e) hx fun hb e sb he=>?_);obtain⟨oe,hoe,hce⟩:=he;have hzb:IsZip hb z TI TO .ellipsis:=sb _ _ D.i1z.symm hza;have hez:e≠z:=fun q=>by subst q;rw[hzb] at hoe;cases hoe;simp at hce
  exact wpAny_setField_rec hzb (by simp) fun hc _ sc=>hE hc e (fun c o c1 _ c3 _ q=>(sc.2 _ c1).trans (sb _ _ c3 ((sa.2 _ c1).trans q))) ⟨oe,(sc.2 _ hez).trans hoe,hce⟩
 | some x =>
  have hy:ys[k2]?=none:=by
   rcases hend with q|q
   ·rw[hx] at q;cases q
   ·exact q
  refine qaa (hZ (s:={ s with heap:=ha}) (h1.at' fun o e=>(sa.2 _ D.i1z).trans e) (hl1.at' fun o e=>(sa.2 _ D.l1z).trans e) hx fun hb h1b sb=>qah ?_);replace sb:Heap.SameBut i1 ha hb:=sb;have TOb:IsPair hb TO a b:=(sb.2 _ D.TOi1).trans ((sa.2 _ D.TOz).trans hTO);refine qaa (wpAny_seqItems TOb rfl ?_);refine qaa (wpAny_updateSeq_pair TOb fun hc TOc sc=>?_);replace sc:Heap.SameBut TO hb hc:=sc;refine qaa (wpAny_letGo (qah ?_));refine qaa (qaa (wpAny_onRaise ?_));show wpAny _ _ (Builtin.SmallTypes.nextOf (.ref i2) >>= _) _ _ _
  refine qaa (jI (s:={ s with heap:=hc}) hh (h2.at' fun o e=>(sc.2 _ D.TOi2.symm).trans ((sb.2 _ D.i12.symm).trans ((sa.2 _ D.i2z).trans e)))
   (hl2.at' fun o e=>(sc.2 _ D.l2TO).trans ((sb.2 _ D.l2i1).trans ((sa.2 _ D.l2z).trans e))) hy fun hd e sd he=>?_)
  obtain⟨oe,hoe,hce⟩:=he;have hzd:IsZip hd z TI TO .ellipsis:=sd _ _ D.i2z.symm ((sc.2 _ D.TOz.symm).trans ((sb.2 _ D.i1z.symm).trans hza));have hez:e≠z:=fun q=>by subst q;rw[hzd] at hoe;cases hoe;simp at hce
  exact wpAny_setField_rec hzd (by simp) fun hf _ sf=>hE hf e (fun c o c1 c2 c3 c4 q=>(sf.2 _ c1).trans (sd _ _ c4 ((sc.2 _ c2).trans ((sb.2 _ c3).trans ((sa.2 _ c1).trans q))))) ⟨oe,(sf.2 _ hez).trans hoe,hce⟩
def zZ(D:ZipApart z TI TO i1 i2 l1 l2)
  (hz:IsZip s.heap z TI TO .none) (hTI:IsPair s.heap TI (.ref i1) (.ref i2)) (hTO:IsPair s.heap TO a b)
  (h1:SqI t1 s.heap i1 l1 k1) (h2:SqI t2 s.heap i2 l2 k2) (hl1:SqO t1 s.heap l1 xs) (hl2:SqO t2 s.heap l2 ys) (hx:xs[k1]?=some x) (hy:ys[k2]?=some y)
  (hQ:∀h',IsZip h' z TI TO (rawInt s.heap.objs.size)->IsPair h' TO x y->SqI t1 h' i1 l1 (k1+1)->SqI t2 h' i2 l2 (k2+1)->IsPair h' s.heap.objs.size x y->h'.objs.size=s.heap.objs.size+1 ->
   (∀c o,c≠z->c≠TO->c≠i1->c≠i2->s.heap.get? c=some o->h'.get? c=some o)->Q (some (.ref s.heap.objs.size)) { s with heap:=h'}) :
  wpAny (model prog w) A (pyNext (.ref z)) Q E s:=by
 have hT:s.TypeIs (.ref z) "zip":=⟨_,hz,rfl⟩;unfold pyNext
 exact qaa (wpAny_attempt (wpAny_callSpecial?_slot (name:=Str.ofString "__next__") hT F.slot_zip_next
  (wpAny_call_entry F.slot_zip_next hT F.entry_zip_next (yf D hz hTI hTO h1 h2 hl1 hl2 hx hy fun h' q1 q2 q3 q4 q5 q6 q7=>qah (hQ h' q1 q2 q3 q4 q5 q6 q7)) (F.args_zip_next_1 _))))
def zip_end(hh:A.handled=none)(D:ZipApart z TI TO i1 i2 l1 l2)
  (hz:IsZip s.heap z TI TO .none) (hTI:IsPair s.heap TI (.ref i1) (.ref i2)) (hTO:IsPair s.heap TO a b)
  (h1:SqI t1 s.heap i1 l1 k1) (h2:SqI t2 s.heap i2 l2 k2) (hl1:SqO t1 s.heap l1 xs) (hl2:SqO t2 s.heap l2 ys) (hend:xs[k1]?=none\/ys[k2]?=none)
  (hQ:∀h',(∀c o,c≠z->c≠TO->c≠i1->c≠i2->s.heap.get? c=some o->h'.get? c=some o)->Q none { s with heap:=h'}):wpAny (model prog w) A (pyNext (.ref z)) Q E s:=by
 have hT:s.TypeIs (.ref z) "zip":=⟨_,hz,rfl⟩;unfold pyNext
 refine qaa (wpAny_attempt (wpAny_callSpecial?_slot (name:=Str.ofString "__next__") hT F.slot_zip_next
  (wpAny_call_entry F.slot_zip_next hT F.entry_zip_next (AE hh D hz hTI hTO h1 h2 hl1 hl2 hend fun h' e hk he=>?_) (F.args_zip_next_1 _))))
 obtain⟨o,ho,hc⟩:=he;refine qaa (wpAny_isInstance (T:="StopIteration") (b:=true) ⟨o,ho,hc⟩ isSubtype_stop ?_);exact qah (hQ _ hk)
end
abbrev zA(t1:Bool)(h:Heap)(l1:Addr):Heap:=h.push { cls:=.type (itN t1),data:=.fields #[.ref l1,.int 0 0]}
abbrev zB(t1 t2:Bool)(h:Heap)(l1 l2:Addr):Heap:=(zA t1 h l1).push { cls:=.type (itN t2),data:=.fields #[.ref l2,.int 0 0]}
abbrev zC(t1 t2:Bool)(h:Heap)(l1 l2:Addr):Heap:=(zB t1 t2 h l1 l2).push { cls:=.type "tuple",data:=.seq #[.ref h.objs.size,.ref (zA t1 h l1).objs.size]}
abbrev zD(t1 t2:Bool)(h:Heap)(l1 l2:Addr):Heap:=(zC t1 t2 h l1 l2).push { cls:=.type "tuple",data:=.seq #[.none,.none]}
abbrev zE(t1 t2:Bool)(h:Heap)(l1 l2:Addr):Heap:=(zD t1 t2 h l1 l2).push { cls:=.type "zip",data:=.fields #[.none,.bool false,.bool false,.ref (zB t1 t2 h l1 l2).objs.size,.ref (zC t1 t2 h l1 l2).objs.size]}
def zip_new(t1 t2:Bool)(l1 l2:Addr)(xs ys:Array Value) :
  Meets (Builtin.«zip.__new__» ⟨[.type "zip",.ref l1,.ref l2],[]⟩) (fun _ R s=>SqO t1 s.heap l1 xs/\SqO t2 s.heap l2 ys/\R (.ok (.ret (.ref (zD t1 t2 s.heap l1 l2).objs.size))) { s with heap:=zE t1 t2 s.heap l1 l2}) :=
 .of_wp fun prog w A R s h=>by
  obtain⟨hp,g,d,tk,os⟩:=s;obtain⟨hl1,hl2,h⟩:=h;have hsub:=sub_zip;have hL1:SqO t1 (Shared.heap ⟨hp,g,d,tk,os⟩) l1 xs:=hl1;have hL2:SqO t2 (Shared.heap ⟨hp.push { cls:=.type (itN t1),data:=.fields #[.ref l1,.int 0 0]},g,d,tk,os⟩) l2 ys:=hl2.at' fun o e=>qab _ e
  wp_walk using iR hL1,iR hL2
  exact⟨_,rfl,h⟩
section
variable {prog:Program} {w:World} {A:Around} {E:Value→Shared→Prop} {s:Shared}
def zv(hl1:SqO t1 s.heap l1 xs)(hl2:SqO t2 s.heap l2 ys)
  (h:∀h',IsZip h' (s.heap.objs.size+4) (s.heap.objs.size+2) (s.heap.objs.size+3) .none->IsPair h' (s.heap.objs.size+2) (.ref s.heap.objs.size) (.ref (s.heap.objs.size+1)) ->
   IsPair h' (s.heap.objs.size+3) .none .none->SqI t1 h' s.heap.objs.size l1 0->SqI t2 h' (s.heap.objs.size+1) l2 0->h'.objs.size=s.heap.objs.size+5 ->
   (∀c o,s.heap.get? c=some o->h'.get? c=some o)->Q (.ref (s.heap.objs.size+4)) { s with heap:=h'}) :
  wpAny (model prog w) A (call (.type "zip") [.ref l1,.ref l2]) Q E s:=by
 refine callType_new F.called_zip (by decide) (F.typeCall_zip_2 _ _) (F.newCall_zip_2 _ _) (fun obj=>F.args_object_init_3 obj _ _) F.entry_zip_new (zip_new t1 t2 l1 l2 xs ys) ⟨hl1,hl2,?_⟩;have z1:(zA t1 s.heap l1).objs.size=s.heap.objs.size+1:=qbc ..;have z2:(zB t1 t2 s.heap l1 l2).objs.size=s.heap.objs.size+2:=by rw[qbc,z1]
 have z3:(zC t1 t2 s.heap l1 l2).objs.size=s.heap.objs.size+3:=by rw[qbc,z2]
 have z4:(zD t1 t2 s.heap l1 l2).objs.size=s.heap.objs.size+4:=by rw[qbc,z3]
 have z5:(zE t1 t2 s.heap l1 l2).objs.size=s.heap.objs.size+5:=by rw[qbc,z4]
 have g5:(zE t1 t2 s.heap l1 l2).get? (zD t1 t2 s.heap l1 l2).objs.size=some _:=qap _ rfl;have g4:(zE t1 t2 s.heap l1 l2).get? (zC t1 t2 s.heap l1 l2).objs.size=some _:=qab _ (qap _ rfl);have g3:(zE t1 t2 s.heap l1 l2).get? (zB t1 t2 s.heap l1 l2).objs.size=some _:=qab _ (qab _ (qap _ rfl));have g2:(zE t1 t2 s.heap l1 l2).get? (zA t1 s.heap l1).objs.size=some _:=qab _ (qab _ (qab _ (qap _ rfl)));have g1:(zE t1 t2 s.heap l1 l2).get? s.heap.objs.size=some _:=qab _ (qab _ (qab _ (qab _ (qap _ rfl))));show _/\_;rw[z2,z3,z4] at g5;rw[z1,z2] at g3;rw[z3] at g4;rw[z1] at g2;rw[z4]
 exact⟨⟨_,g5,rfl⟩,h _ g5 g3 g4 ⟨_,g1,rfl,rfl⟩ ⟨_,g2,rfl,rfl⟩ z5 fun c o x =>
  qab _ (qab _ (qab _ (qab _ (qab _ x))))⟩
end
end SeqT
namespace MM
open PySem PySem.Spec PyProof.Rows L2 SeqT
def SqB(tp:Bool)(K:qad)(H:Hp)(a:Addr)(ys:List V):Prop:=match tp with
 | true=>SqT K H a ys
 | false=>SqL K H a ys
section
variable {X:Cx} {HV:List (Addr × Obj)} {σ:L2.St} {H:Hp} {s:Shared}
def eP(I:Inv X HV σ H s)(h:SqB tp X.K H a ys):∃its:List Value,az ys its/\SqO tp s.heap a its.toArray/\ys.length<=sizeLine:=by
 cases tp with
 | true =>
  obtain⟨its,rv,pl,hz⟩:=I.tuple h;exact⟨its,rv,pl,hz⟩
 | false =>
  obtain⟨its,rv,pl,hz⟩:=I.list h;exact⟨its,rv,pl.isList,hz⟩
def oM(I:Inv X HV σ H s)(h:SqB tp X.K H a xs)(h':SqB tp X.K H a ys):xs=ys:=by
 cases tp with
 | true=>exact I.tuple_inj h h'
 | false=>exact I.list_inj h h'
def jw(I:Inv X HV σ H s){h':Heap}{t':Nat}{ch:List Addr}(hf:∀b∈ch,gz X HV H b)(k:∀b o,b∉ch->s.heap.get? b=some o->h'.get? b=some o) :
  Inv X HV σ H { s with heap:=h',toks:=t'}:=by
 have nit:∀b u,H b=some u->b∉ch:=fun b u e z=>by rw[(hf b z).1] at e;cases e
 refine I.step (g':=s.gens) (d':=s.drawn) (ch:=ch) (fun b hb=>?_) (fun b o _ _ hc e _=>k b o hc e) (fun b o _ _ hc e _=>⟨o.slots,k b o hc e⟩) (fun _ _ _ _ n=>n)
  (fun b o hc e=>⟨o,k b o hc e⟩) (fun _ _ e=>e) (fun _ _ _ e=>e) (fun b ps e=>⟨#[],by rw[e];simp⟩) (fun m hm=>?_) (fun b u e=>?_) I.bare
 ·obtain⟨f0,f1,f2,f3,f4,f5⟩:=hf b hb;exact⟨f3,f1,f4,f5⟩
 ·obtain⟨o,es,ep,ho,r⟩:=hm;exact⟨o,es,ep,k _ o (fun z=>(hf _ z).2.1 rfl) ho,r⟩
 ·refine (I.hok b u e).stay (fun c v hc q=>k c v ?_ q) (fun _ q=>q) fun _ _ q=>q;rcases hc with z|z
  ·rw[z];exact nit b u e
  ·exact nit c _ z
def vC(I:Inv X HV σ H s){h':Heap}{t':Nat}{ch:List Addr}{ys:List V}{its:List Value}(hf:∀b∈ch,gz X HV H b)(rv:az ys its)(hz:ys.length<=sizeLine)(hch:s.heap.objs.size∉ch)
  (ht:h'.get? s.heap.objs.size=some { cls:=.type "tuple",data:=.seq its.toArray}) (k:∀b o,b∉ch->s.heap.get? b=some o->h'.get? b=some o) :
  Inv X HV σ (upd H s.heap.objs.size (.tup ys)) { s with heap:=h',toks:=t'}/\(∀b∈ch,(upd H s.heap.objs.size (.tup ys)) b=none)/\H s.heap.objs.size=none:=by
 have hfr:=I.hok.fresh (qag s.heap.objs.size);have hne:∀b∈ch,b≠s.heap.objs.size:=fun b hb z=>hch (by rw[<-z];exact hb);have I1:Inv X HV σ (upd H s.heap.objs.size (.tup ys)) { s with heap:=s.heap.push { cls:=.type "tuple",data:=.seq its.toArray},toks:=s.toks} :=
  I.laid (o:=.tup ys) (fun b u q=>qab _ q) (qag _) ⟨hz,its,rv,_,qap _ rfl,rfl,⟨_,rfl⟩,rfl⟩
 have hup:∀b∈ch,(upd H s.heap.objs.size (.tup ys)) b=none:=fun b hb=>by rw[br (hne b hb)];exact (hf b hb).1
 refine⟨?_,hup,hfr⟩;refine jw (t':=t') I1 (ch:=ch) (fun b hb=>⟨hup b hb,(hf b hb).2⟩) fun b o hb e=>?_;by_cases z:b=s.heap.objs.size
 ·subst z;have e':(s.heap.push { cls:=.type "tuple",data:=.seq its.toArray}).get? s.heap.objs.size=some { cls:=.type "tuple",data:=.seq its.toArray}:=qap _ rfl;rw[show ({ s with heap:=s.heap.push { cls:=.type "tuple",data:=.seq its.toArray},toks:=s.toks}:Shared).heap=s.heap.push { cls:=.type "tuple",data:=.seq its.toArray} from rfl,e'] at e;cases e;exact ht
 ·have e':(s.heap.push { cls:=.type "tuple",data:=.seq its.toArray}).get? b=some o:=e;rw[Heap.get?_push_ne _ _ _ z] at e';exact k b o hb e'
end
def Ite(K:qad)(tp:Bool)(a:Addr):It :=
 ⟨fun i H=>∃ys y,SqB tp K H a ys/\ys[i]?=some y,fun i H x H'=>∃p y,H p=none/\x=.ref p/\H'=upd H p (.tup [.int i,y])/\∀ys,SqB tp K H a ys->ys[i]?=some y,fun i H=>∃ys,SqB tp K H a ys/\ys.length<=i⟩
def yI{P:Program}{w:World}{K:qad}{elts:List Expr}{x1:Nat}{pos:Pos}(tp:Bool)(a e it:Addr)(hei:e≠it)(hae:a≠e)(hai:a≠it) :
  Turn P w K (.Tuple elts x1 pos) (Ite K tp a) [e,it] e (fun i h=>(∃old,IsEnum h e it i old)/\SqI tp h it a i) where
 mem:=by simp
 obj:=fun i h st b hb=>by
  obtain⟨⟨old,he⟩,hi⟩:=st
  have:b=e\/b=it:=by simpa using hb
  rcases this with rfl|rfl
  ·exact⟨_,he,fun v z=>nomatch z⟩
  ·obtain⟨o,ho,hc,hd⟩:=hi;exact⟨o,ho,fun v z=>by rw[hd] at z;cases z⟩
 keep:=fun i h h' st k=>let ⟨⟨old,he⟩,hi⟩:=st;⟨⟨old,k e (by simp) _ he⟩,hi.at' fun o q=>k it (by simp) o q⟩
 item:=by
  intro X hP hw hK hc i HV s σ H E I hf st hg;subst hP hw hK;obtain⟨⟨old,he⟩,hi⟩:=st;obtain⟨ys,y,hq,hy⟩:=hg;obtain⟨its,rv,so,hz⟩:=eP I hq;obtain⟨u,hu,ru⟩:=rv.get hy;have hlt:i<its.toArray.size:=by
   have:=(qae.mp hu).1
   simpa using this
  have hin:(X.A.in1).handled=none:=by have:=I.ok.hd hc;simpa using this
  refine wpAny_pyNext_enum_itemD (draws hin tp it a hai its.toArray) he ⟨hi,so⟩ hlt hei (by simp[hei,Ne.symm hae]) fun x h1 tk hx ho1 st1 ht1 hz1 hk1=>⟨_,rfl,?_⟩;have hxu:x=u:=by
   have:its.toArray[i]?=some u:=by simpa using hu
   rw[this] at hx;exact (Option.some.inj hx).symm
  subst hxu;refine wpAny_letOwnedTupleGo_enum (s:={ s with heap:=h1,toks:=tk+1}) ho1 fun h2 he2 sb2=>?_;replace sb2:Heap.SameBut e h1 h2:=sb2;have hlte:e<s.heap.objs.size:=qaq he;have hlti:it<s.heap.objs.size:=hi.lt;obtain⟨I2,hup,hfr⟩:=vC (t':=tk+1) (h':=h2) I (ch:=[e,it]) (ys:=[.int i,y]) (its:=[.int i tk,x]) hf (.cons ⟨tk,rfl⟩ (.cons ru .nil)) (by rw[sizeLine_eq];show 2<=_;decide)
   (by simp only[qar,qbn,or_false,not_or];exact⟨qbd hlte,qbd hlti⟩)
   ((sb2.2 _ (qbd hlte)).trans ht1)
   (fun b o hb q=>by
    have h1':b≠e:=fun z=>hb (by simp[z]);have h2':b≠it:=fun z=>hb (by simp[z])
    exact (sb2.2 b h1').trans (hk1 b o h1' h2' q))
  refine⟨.ref s.heap.objs.size,_,I2,rfl,⟨_,y,hfr,rfl,rfl,fun zs hzs=>by rw[oM I hzs hq];exact hy⟩,⟨⟨x,by simpa using he2⟩,?_⟩,hup⟩;exact st1.1.at' fun o q=>(sb2.2 it (Ne.symm hei)).trans q
 done:=by
  intro X hP hw hK hc i HV s σ H E I hf st hg;subst hP hw hK;obtain⟨⟨old,he⟩,hi⟩:=st;obtain⟨ys,hq,hy⟩:=hg;obtain⟨its,rv,so,hz⟩:=eP I hq;have hin:(X.A.in1).handled=none:=by have:=I.ok.hd hc;simpa using this
  have hlen:=rv.length;have hT:s.TypeIs (.ref e) "enumerate":=⟨_,he,rfl⟩;unfold pyNext;refine qaa (wpAny_attempt (wpAny_callSpecial?_slot (name:=Str.ofString "__next__") hT PySem.F.slot_enumerate_next (wpAny_call_entry PySem.F.slot_enumerate_next hT PySem.F.entry_enumerate_next ?_ (PySem.F.args_enumerate_next_1 _))));show wpAny _ _ (field (.ref e) 2 >>= _) _ _ _;refine qaa (wpAny_field he rfl (x:=.ref it) rfl ?_);refine qaa (jI hin hi so (by simp;ext) fun h1 x he' hx'=>?_);obtain⟨o,ho,hcx⟩:=hx';refine qaa (wpAny_isInstance (T:="StopIteration") (b:=true) ⟨o,ho,hcx⟩ isSubtype_stop ?_);refine qah ⟨rfl,jw (t':=s.toks) I hf fun b o hb q=>he' b o (fun z=>hb (by simp[z])) q⟩
 self:=fun A i s Q E st h=>let ⟨⟨old,he⟩,_⟩:=st;wpAny_pyIter_enum he h
def Itz(K:qad)(t1 t2:Bool)(a b:Addr):It :=
 ⟨fun i H=>∃xs ys x y,SqB t1 K H a xs/\SqB t2 K H b ys/\xs[i]?=some x/\ys[i]?=some y,
   fun i H v H'=>∃p x y,H p=none/\v=.ref p/\H'=upd H p (.tup [x,y])/\(∀xs,SqB t1 K H a xs->xs[i]?=some x)/\∀ys,SqB t2 K H b ys->ys[i]?=some y,
   fun i H=>∃xs ys,SqB t1 K H a xs/\SqB t2 K H b ys/\(xs.length<=i\/ys.length<=i)⟩
def Ay{P:Program}{w:World}{K:qad}{elts:List Expr}{x1:Nat}{pos:Pos}(t1 t2:Bool)(a b z TI TO i1 i2:Addr)(D:ZipApart z TI TO i1 i2 a b) :
  Turn P w K (.Tuple elts x1 pos) (Itz K t1 t2 a b) [z,TI,TO,i1,i2] z (fun i h=>IsZip h z TI TO .none/\IsPair h TI (.ref i1) (.ref i2)/\(∃u v,IsPair h TO u v)/\SqI t1 h i1 a i/\SqI t2 h i2 b i) where
 mem:=by simp
 obj:=fun i h st c hc=>by
  obtain⟨hz,hTI,⟨u,v,hTO⟩,⟨o1,e1,_,d1⟩,⟨o2,e2,_,d2⟩⟩:=st
  have:c=z\/c=TI\/c=TO\/c=i1\/c=i2:=by simpa using hc
  rcases this with rfl|rfl|rfl|rfl|rfl
  ·exact⟨_,hz,fun v z=>nomatch z⟩
  ·exact⟨_,hTI,fun v z=>nomatch z⟩
  ·exact⟨_,hTO,fun v z=>nomatch z⟩
  ·exact⟨o1,e1,fun v z=>by rw[d1] at z;cases z⟩
  ·exact⟨o2,e2,fun v z=>by rw[d2] at z;cases z⟩
 keep:=fun i h h' st k=>let ⟨hz,hTI,⟨u,v,hTO⟩,h1,h2⟩:=st
  ⟨k z (by simp) _ hz,k TI (by simp) _ hTI,⟨u,v,k TO (by simp) _ hTO⟩,h1.at' fun o q=>k i1 (by simp) o q,h2.at' fun o q=>k i2 (by simp) o q⟩
 item:=by
  intro X hP hw hK hc i HV s σ H E I hf st hg;subst hP hw hK;obtain⟨hz,hTI,⟨u,v,hTO⟩,h1,h2⟩:=st;obtain⟨xs,ys,x,y,hq1,hq2,hx,hy⟩:=hg;obtain⟨its1,rv1,so1,hz1⟩:=eP I hq1;obtain⟨its2,rv2,so2,hz2⟩:=eP I hq2;obtain⟨u1,hu1,ru1⟩:=rv1.get hx;obtain⟨u2,hu2,ru2⟩:=rv2.get hy;refine zZ D hz hTI hTO h1 h2 so1 so2 (x:=u1) (y:=u2) (by simpa using hu1) (by simpa using hu2) fun ha hza hTOa h1a h2a hTa hsa hka=>⟨_,rfl,?_⟩;refine wpAny_letOwnedTupleGo_zip (s:={ s with heap:=ha}) hza fun hb hzb sb=>?_;replace sb:Heap.SameBut z ha hb:=sb;have l1:z<s.heap.objs.size:=qaq hz;have l2:TI<s.heap.objs.size:=qaq hTI;have l3:TO<s.heap.objs.size:=qaq hTO;have l4:i1<s.heap.objs.size:=h1.lt;have l5:i2<s.heap.objs.size:=h2.lt;have up:∀c o,c≠z->ha.get? c=some o->hb.get? c=some o:=fun c o hc q=>(sb.2 c hc).trans q;obtain⟨I2,hup,hfr⟩:=vC (t':=s.toks) (h':=hb) I (ch:=[z,TI,TO,i1,i2]) (ys:=[x,y]) (its:=[u1,u2]) hf (.cons ru1 (.cons ru2 .nil)) (by rw[sizeLine_eq];show 2<=_;decide)
   (by simp only[qar,qbn,or_false,not_or];exact⟨qbd l1,qbd l2,qbd l3,qbd l4,qbd l5⟩)
   (up _ _ (qbd l1) hTa)
   (fun c o hc q=>up c o (fun e=>hc (by simp[e])) (hka c o (fun e=>hc (by simp[e])) (fun e=>hc (by simp[e])) (fun e=>hc (by simp[e])) (fun e=>hc (by simp[e])) q))
  refine⟨.ref s.heap.objs.size,_,I2,rfl,⟨_,x,y,hfr,rfl,rfl,fun zs hzs=>by rw[oM I hzs hq1];exact hx,fun zs hzs=>by rw[oM I hzs hq2];exact hy⟩,⟨hzb,?_,⟨_,_,up _ _ D.TOz hTOa⟩,h1a.at' fun o q=>up _ o D.i1z q,h2a.at' fun o q=>up _ o D.i2z q⟩,hup⟩;exact up _ _ D.TIz (hka _ _ D.TIz D.TITO D.TIi1 D.TIi2 hTI)
 done:=by
  intro X hP hw hK hc i HV s σ H E I hf st hg;subst hP hw hK;obtain⟨hz,hTI,⟨u,v,hTO⟩,h1,h2⟩:=st;obtain⟨xs,ys,hq1,hq2,hend⟩:=hg;obtain⟨its1,rv1,so1,hz1⟩:=eP I hq1;obtain⟨its2,rv2,so2,hz2⟩:=eP I hq2;have e1:=rv1.length;have e2:=rv2.length;have hT:s.TypeIs (.ref z) "zip":=⟨_,hz,rfl⟩;have hin:(X.A.in1).handled=none:=by have:=I.ok.hd hc;simpa using this
  refine zip_end (I.ok.hd hc) D hz hTI hTO h1 h2 so1 so2 ?_ fun h' hk=>⟨rfl,jw (t':=s.toks) I hf fun c o hc q=>hk c o (fun e=>hc (by simp[e])) (fun e=>hc (by simp[e])) (fun e=>hc (by simp[e])) (fun e=>hc (by simp[e])) q⟩;rcases hend with q|q
  ·exact .inl (by simp;ext)
  ·exact .inr (by simp;ext)
 self:=fun A i s Q E st h=>wpAny_pyIter_zip st.1 h
def cg(v:PV)(h:MH):Option (Bool × List PV × List (Nat × List PV)):=match v with
 | .loc n=>(match h[n]? with
  | some (.lst xs)=>some (false,xs,[(n,xs)])
  | _=>none)
 | .frl xs=>some (false,xs,[])
 | .tup xs=>some (true,xs,[])
 | _=>none
def rq{X:Cx}{ρ:List Addr}{H:Hp}{h:MH}{x:PV}{y:V}{tp:Bool}{xs:List PV}{gd:List (Nat × List PV)}(rh:RH X.K X.mg ρ H h)(r:RP X.K ρ H x y)(e:cg x h=some (tp,xs,gd)) :
  ∃a,y=.ref a/\(∃ys,SqB tp X.K H a ys)/\∀ρ' H' h',Le ρ H ρ' H'->RH X.K X.mg ρ' H' h'->(∀p∈gd,h'[p.1]?=some (.lst p.2))->∃ys,SqB tp X.K H' a ys/\RPs X.K ρ' H' xs ys:=by
 cases r with
 | frl s r=>cases e;exact⟨_,rfl,⟨_,s.sq⟩,fun ρ' H' h' l _ _=>⟨_,(l.sqf s).sq,r.le l⟩⟩
 | tup s r=>cases e;exact⟨_,rfl,⟨_,s⟩,fun ρ' H' h' l _ _=>⟨_,l.sqt s,r.le l⟩⟩
 | @loc n a en =>
  obtain⟨o,eo,ro⟩:=rh.obj en;unfold cg at e;dsimp only at e;rw[eo] at e
  cases o with
  | lst zs =>
   cases e;obtain⟨ys,ey,ry⟩:=ro;refine⟨a,rfl,⟨ys,SqL.of ey⟩,fun ρ' H' h' l rh' ok=>?_⟩;obtain⟨ys',ey',ry'⟩:=rh'.at' n a _ (l.get en) (ok (n,xs) (by simp));exact⟨ys',SqL.of ey',ry'⟩
  | _=>cases e
 | _=>cases e
def gT(xs:List PV):List PV:=xs.zipIdx.map fun p=>.tup [.int (p.2:Int),p.1]
def gB(xs ys:List PV):List PV:=(xs.zip ys).map fun p=>.tup [p.1,p.2]
def yc{xs:List PV}{i:Nat}{x:PV}(h:xs[i]?=some x):(gT xs)[i]?=some (.tup [.int (i:Int),x]):=by
 unfold gT;rw[qao,qcv,h];simp
def pI(xs:List PV):(gT xs).length=xs.length:=by simp[gT]
def tF(xs ys:List PV):(gB xs ys).length=min xs.length ys.length:=by simp[gB]
def Aq{xs ys:List PV}{i:Nat}{x y:PV}(h1:xs[i]?=some x)(h2:ys[i]?=some y):(gB xs ys)[i]?=some (.tup [x,y]):=by
 unfold gB;rw[qao]
 have:(xs.zip ys)[i]?=some (x,y):=by rw[qcF];exact⟨h1,h2⟩
 rw[this];rfl
def sj(m:Mx (List PV)):Mx MIt:=fun σ h=>(m σ h).bind fun vs h1=>match vs with
 | [x]=>(match cg x h1 with
  | some (_,xs,gd)=>.ok ⟨gT xs,gd⟩ h1
  | none=>.bad)
 | _=>.bad
def mItZ(m:Mx (List PV)):Mx MIt:=fun σ h=>(m σ h).bind fun vs h1=>match vs with
 | [x,y]=>(match cg x h1,cg y h1 with
  | some (_,xs,g1),some (_,ys,g2)=>.ok ⟨gB xs ys,g1++g2⟩ h1
  | _,_=>.bad)
 | _=>.bad
section
variable {X:Cx} {N W G:List Str} {k:Nat}
def mi_enum(g:Good X N W G k){elts:List Expr}{x1:Nat}{tp:Pos}{a:Expr}{m:Mx (List PV)}{p pos:Pos}{j:Nat}(hj:G[j]?=some "enumerate")(hm:X.mg "enumerate"=none)(ha:MA X [a] m)
  (hs:starEach [a] X.env=[(false,eval a X.env)]:=by rfl):MI X (.Tuple elts x1 tp) (.Call (.Name "enumerate" p) [a] [] pos) (sj m):=by
 have d:=g.dbg _ (qal _ (aS hj));intro HV s σ H R I ⟨ρ,σp,h,rs,rh,q⟩;refine wpAny_Call_Name_kw (ft I (g.gl _ (aS hj)) hm PyProof.Rows.Boot.«enumerate» ?_ d.2.2 d.1)
 refine PyProof.Rows.callWith_type1 (thn (ha pos HV s σ H (fun vs H1=>∃ρ1 h1 xs,Le ρ H ρ1 H1/\RH X.K X.mg ρ1 H1 h1/\RPs X.K ρ1 H1 xs vs/\Ful X (oS X) σp ρ1 H1 ((match xs with
   | [x]=>(match cg x h1 with | some (_,xs,gd)=>.ok ⟨gT xs,gd⟩ h1 | none=>.bad)
   | _=>.bad:Out MIt)) R) I ⟨ρ,σp,h,rs,rh,Ful.bind q fun ρ1 H1 v v' h1 _ l1 rh1 rv q1=>⟨ρ1,h1,v,l1,rh1,rv,q1⟩⟩) fun us s1 ⟨vs,H1,I1,r1,ρ1,h1,xs,l1,rh1,rv,q1⟩=>?_) hs rfl
 cases rv with
 | nil=>exact q1.elim
 | @cons y y' ys ys' ry t1 =>
  cases t1 with
  | cons _ _=>exact q1.elim
  | nil =>
   dsimp only at q1
   cases hsq:cg y h1 with
   | none=>rw[hsq] at q1;exact q1.elim
   | some z =>
    obtain⟨b,zs,gd⟩:=z;rw[hsq] at q1;obtain⟨ad,rfl,⟨ws,hws⟩,rel⟩:=rq rh1 ry hsq;obtain⟨u,rfl,rx⟩:=dM r1;cases rx;obtain⟨its,rvv,so,hz⟩:=eP I1 hws;refine yA so fun h' he hi hsz hk=>?_;have hT:Shared.TypeIs { s1 with heap:=h'} (.ref (s1.heap.objs.size+1)) "enumerate":=⟨_,he,rfl⟩;refine wpAny_pyIter_enum he ?_;have I2:Inv X HV σ H1 { s1 with heap:=h',toks:=s1.toks}:=I1.kept hk;obtain⟨oa,hoa,hca,_⟩:=id so;have hlt:ad<s1.heap.objs.size:=qaq hoa;have hfr0:=I1.hok.fresh (qag s1.heap.objs.size);have hfr1:=I1.hok.fresh (qcI s1.heap.objs.size);refine⟨s1.heap.objs.size+1,_,_,_,H1,rfl,I2,yI b ad _ s1.heap.objs.size (qbd (qce _)) (qaK (qbN hlt)) (qaK hlt),⟨⟨_,he⟩,hi⟩,fun c hc=>?_,?_⟩
    ·have:c=s1.heap.objs.size+1\/c=s1.heap.objs.size:=by simpa using hc
     rcases this with rfl|rfl
     ·have F:=Inv.fpOk I1 (H':=H1) (b:=s1.heap.objs.size+1) (qcI _) hfr1;exact F
     ·exact Inv.fpOk I1 (H':=H1) (qag _) hfr0
    ·refine q1 ρ1 H1 _ (Le.refl _ _) rh1 ?_;intro ρ' H' h2 i l rh' ok;obtain⟨ws',hws',rws⟩:=rel ρ' H' h2 l rh' ok;refine⟨fun hi'=>?_,fun hi'=>⟨ws',hws',by rw[<-rws.length];rw[pI] at hi';exact hi'⟩⟩;rw[pI] at hi';have hx:zs[i]?=some (zs[i]'hi'):=qas hi';obtain⟨w',ew,rw'⟩:=rws.get hx;refine⟨⟨ws',w',hws',ew⟩,fun x' H3 ⟨pp,y2,hp,e1,e2,hall⟩=>?_⟩;subst e1;subst e2;have ey:y2=w':=by
      have:=hall ws' hws'
      rw[ew] at this;exact (Option.some.inj this).symm
     subst ey;obtain⟨rh3,l3⟩:=rh'.tup hp [.int i,y2];exact⟨ρ',_,l3,rh3,yc hx,.tup (SqT.of bZ) (.cons (.int _) (.cons (rw'.le l3) .nil))⟩
def mi_zip(g:Good X N W G k){elts:List Expr}{x1:Nat}{tp:Pos}{a b:Expr}{m:Mx (List PV)}{p pos:Pos}{j:Nat}(hj:G[j]?=some "zip")(hm:X.mg "zip"=none)(ha:MA X [a,b] m)
  (hs:starEach [a,b] X.env=(false,eval a X.env)::starEach [b] X.env:=by rfl) (hpl:(backTo pos (starEach [b] X.env)).any (·.1)=false:=by rfl):MI X (.Tuple elts x1 tp) (.Call (.Name "zip" p) [a,b] [] pos) (mItZ m):=by
 have d:=g.dbg _ (qal _ (aS hj));intro HV s σ H R I ⟨ρ,σp,h,rs,rh,q⟩;refine wpAny_Call_Name_kw (ft I (g.gl _ (aS hj)) hm PyProof.Rows.Boot.«zip» ?_ d.2.2 d.1)
 refine PyProof.Rows.callWith_type1 (thn (ha pos HV s σ H (fun vs H1=>∃ρ1 h1 xs,Le ρ H ρ1 H1/\RH X.K X.mg ρ1 H1 h1/\RPs X.K ρ1 H1 xs vs/\Ful X (oS X) σp ρ1 H1 ((match xs with
   | [x,y]=>(match cg x h1,cg y h1 with | some (_,xs,g1),some (_,ys,g2)=>.ok ⟨gB xs ys,g1++g2⟩ h1 | _,_=>.bad)
   | _=>.bad:Out MIt)) R) I ⟨ρ,σp,h,rs,rh,Ful.bind q fun ρ1 H1 v v' h1 _ l1 rh1 rv q1=>⟨ρ1,h1,v,l1,rh1,rv,q1⟩⟩) fun us s1 ⟨vs,H1,I1,r1,ρ1,h1,xs,l1,rh1,rv,q1⟩=>?_) hs hpl
 cases rv with
 | nil=>exact q1.elim
 | @cons y y' ys ys' ry t1 =>
  cases t1 with
  | nil=>exact q1.elim
  | @cons v v' vs2 vs2' rv t2 =>
   cases t2 with
   | cons _ _=>exact q1.elim
   | nil =>
    dsimp only at q1
    cases hsq:cg y h1 with
    | none=>rw[hsq] at q1;exact q1.elim
    | some z =>
     obtain⟨b1,zs1,gd1⟩:=z
     cases hsq2:cg v h1 with
     | none=>rw[hsq,hsq2] at q1;exact q1.elim
     | some z2 =>
      obtain⟨b2,zs2,gd2⟩:=z2;rw[hsq,hsq2] at q1;obtain⟨ad1,rfl,⟨ws1,hws1⟩,rel1⟩:=rq rh1 ry hsq;obtain⟨ad2,rfl,⟨ws2,hws2⟩,rel2⟩:=rq rh1 rv hsq2
      cases r1 with
      | @cons _ u1 _ us1 ru1 tu1 =>
       cases tu1 with
       | @cons _ u2 _ us2 ru2 tu2 =>
        cases tu2;cases ru1;cases ru2;obtain⟨its1,rvv1,so1,hz1⟩:=eP I1 hws1;obtain⟨its2,rvv2,so2,hz2⟩:=eP I1 hws2;refine zv so1 so2 fun h' hz hTI hTO hi1 hi2 hsz hk=>?_;refine wpAny_pyIter_zip hz ?_;have I2:Inv X HV σ H1 { s1 with heap:=h',toks:=s1.toks}:=I1.kept hk;obtain⟨oa1,hoa1,_,_⟩:=id so1;obtain⟨oa2,hoa2,_,_⟩:=id so2;have lt1:ad1<s1.heap.objs.size:=qaq hoa1;have lt2:ad2<s1.heap.objs.size:=qaq hoa2;have sN:∀(n:Nat),s1.heap.objs.size<=s1.heap.objs.size+n:=fun n=>qcL _ _;have ap:∀(c:Addr) (n:Nat),c<s1.heap.objs.size->c≠s1.heap.objs.size+n:=fun c n hc=>qaK (qaC hc (sN n));have ne':∀(m n:Nat),m≠n->s1.heap.objs.size+m≠s1.heap.objs.size+n:=fun m n hmn e=>hmn (Nat.add_left_cancel e);have D:ZipApart (s1.heap.objs.size+4) (s1.heap.objs.size+2) (s1.heap.objs.size+3) s1.heap.objs.size (s1.heap.objs.size+1) ad1 ad2 :=
         ⟨ne' 2 4 (by decide),ne' 3 4 (by decide),ne' 0 4 (by decide),ne' 1 4 (by decide),ne' 2 3 (by decide),ne' 2 0 (by decide),ne' 2 1 (by decide),ne' 3 0 (by decide),ne' 3 1 (by decide),ne' 0 1 (by decide),
          ap ad1 4 lt1,ap ad1 3 lt1,ap ad1 0 lt1,ap ad1 1 lt1,ap ad2 4 lt2,ap ad2 3 lt2,ap ad2 0 lt2,ap ad2 1 lt2⟩
        refine⟨s1.heap.objs.size+4,_,_,_,H1,rfl,I2,Ay b1 b2 ad1 ad2 _ _ _ _ _ D,⟨hz,hTI,⟨_,_,hTO⟩,hi1,hi2⟩,fun c hc=>?_,?_⟩
        ·have F:∀n:Nat,gz X HV H1 (s1.heap.objs.size+n):=fun n=>Inv.fpOk I1 (H':=H1) (sN n) (I1.hok.fresh (sN n))
         have:c=s1.heap.objs.size+4\/c=s1.heap.objs.size+2\/c=s1.heap.objs.size+3\/c=s1.heap.objs.size\/c=s1.heap.objs.size+1:=by simpa using hc
         rcases this with rfl|rfl|rfl|rfl|rfl
         ·exact F 4
         ·exact F 2
         ·exact F 3
         ·exact F 0
         ·exact F 1
        ·refine q1 ρ1 H1 _ (Le.refl _ _) rh1 ?_;intro ρ' H' h2 i l rh' ok;obtain⟨ws1',hws1',rws1⟩:=rel1 ρ' H' h2 l rh' (fun p hp=>ok p (qaH _ hp));obtain⟨ws2',hws2',rws2⟩:=rel2 ρ' H' h2 l rh' (fun p hp=>ok p (qal _ hp));refine⟨fun hi'=>?_,fun hi'=>⟨ws1',ws2',hws1',hws2',?_⟩⟩
         ·rw[tF] at hi';have hx1:zs1[i]?=some (zs1[i]'(by ext)):=qas (by ext);have hx2:zs2[i]?=some (zs2[i]'(by ext)):=qas (by ext);obtain⟨w1,ew1,rw1⟩:=rws1.get hx1;obtain⟨w2,ew2,rw2⟩:=rws2.get hx2;refine⟨⟨ws1',ws2',w1,w2,hws1',hws2',ew1,ew2⟩,fun x' H3 ⟨pp,y1,y2,hp,e1,e2,hall1,hall2⟩=>?_⟩;subst e1;subst e2;have ey1:y1=w1:=by
           have:=hall1 ws1' hws1'
           rw[ew1] at this;exact (Option.some.inj this).symm
          have ey2:y2=w2:=by
           have:=hall2 ws2' hws2'
           rw[ew2] at this;exact (Option.some.inj this).symm
          subst ey1;subst ey2;obtain⟨rh3,l3⟩:=rh'.tup hp [y1,y2];exact⟨ρ',_,l3,rh3,Aq hx1 hx2,.tup (SqT.of bZ) (.cons (rw1.le l3) (.cons (rw2.le l3) .nil))⟩
         ·rw[tF] at hi';have a1:=rws1.length;have a2:=rws2.length;ext
end
end MM
namespace MM
open PySem PySem.Spec PyProof.Rows L2 SetT SortT
def dr:List PV->Option (List Int)
 | []=>some []
 | .int i::r=>(dr r).map (i::·)
 | _=>none
def eN(l:List Int):List Int:=l.mergeSort fun a b=>decide (a<=b)
def gQ(l:List Int):(eN l).Perm l:=List.mergeSort_perm _ _
def tz(l:List Int):(eN l).Pairwise (·<=·):=by
 have:=qcJ (le:=fun a b:Int=>decide (a<=b)) (l:=l) (fun a b c h1 h2=>by
   simp only[decide_eq_true_eq] at h1 h2 ⊢;ext) (fun a b=>by
   simp only[Bool.or_eq_true,decide_eq_true_eq];ext)
 unfold eN;exact this.imp fun {a b} h=>by simpa using h
def lU{l m:List Int}(h1:l.Pairwise (·<=·))(h2:m.Pairwise (·<=·))(p:l.Perm m):l=m :=
 List.Perm.eq_of_pairwise (fun a b _ _ x y=>by ext) h1 h2 p
def oV:∀{xs:List PV} {k:List Int},dr xs=some k->xs=k.map .int
 | [],k,h=>by cases h;rfl
 | x::r,k,h=>by
  cases x with
  | int i =>
   unfold dr at h
   cases hr:dr r with
   | none=>rw[hr] at h;cases h
   | some kr =>
    rw[hr] at h;cases h;rw[oV hr];rfl
  | _=>cases h
def ua:∀(k:List Int),dr (k.map .int)=some k
 | []=>rfl
 | i::k=>by show (dr (k.map .int)).map (i::·)=_;rw[ua k];rfl
def fSorted(xs:List PV)(h:MH):Out PV:=match xs with
 | [x]=>(match cM h x with
  | some ys=>(match dr ys with
   | some ns=>if ns.length<64 then .ok (.loc h.length) (h++[.lst ((eN ns).map .int)]) else .bad
   | none=>(match gD ys with
    | some ks=>if (∀k∈ks,k≠[])/\ks.length<=66 then .ok (.loc h.length) (h++[.lst ((cD ks).map kP)]) else .bad
    | none=>.bad))
  | none=>.bad)
 | _=>.bad
def sF:∀{ns:List Int} {its:List Value},az (ns.map V.int) its->IntsAre its ns
 | [],_,h=>by cases h;exact .nil
 | i::k,_,h=>by
  cases h with
  | cons r t =>
   obtain⟨tk,rfl⟩:=r;exact .cons i tk (sF t)
def mD:∀{ns:List Int} {its:List Value},IntsAre its ns->az (ns.map V.int) its
 | _,_,.nil=>.nil
 | _,_,.cons n t h=>.cons ⟨t,rfl⟩ (mD h)
section
variable {X:Cx} {N W G:List Str} {k:Nat}
def sP:cu X (.builtin "sorted") (fun xs H Q=>∃l ns,xs=[.ref l]/\SqL X.K H l (ns.map V.int)/\ns.length<64/\∀l',H l'=none->Q (.ref l') (upd H l' (.lst ((eN ns).map V.int)))):=by
 intro HV s σ H xs us Q I r ⟨l,ns,e,hq,hz,q⟩;subst e;obtain⟨u,rfl,rx⟩:=dM r;cases rx;obtain⟨its,rv,pl,hz2⟩:=I.list hq;have hlen:=rv.length;rw[qat] at hlen;refine sorted_ints pl.isList (sF rv) (by ext) fun out ns' h1 h2 h3=>?_;have e:ns'=eN ns:=lU h3 (tz ns) (h2.trans (gQ ns).symm);subst e;have hsz:((s.heap.push (seqObj "list" #[] 0)).update s.heap.objs.size (Obj.mapSeq (·++its.toArray))).objs.size=s.heap.objs.size+1:=by rw[Heap.size_update,size_push']
 have hoL:(((s.heap.push (seqObj "list" #[] 0)).update s.heap.objs.size (Obj.mapSeq (·++its.toArray))).push (seqObj "list" its.toArray 0)).get? (s.heap.objs.size+1)=some (seqObj "list" its.toArray 0):=by
  rw[<-hsz];exact qap _ rfl
 obtain⟨c,hc⟩:=hX (vs:=its) hoL out;have hlo:out.toList.length=ns.length:=by
  have a1:=(mD h1).length;rw[qat,(gQ ns).length_eq] at a1;exact a1.symm
 refine⟨.ref (s.heap.objs.size+1),_,I.laid (o:=.lst ((eN ns).map V.int)) (t':=s.toks) (fun b o hb=>?_) (qcI _) (show ObjOk X.prog X.w _ _ _ (.lst _) from⟨?_,out.toList,c,mD h1,?_⟩),rfl,q _ (I.hok.fresh (qcI _))⟩
 ·have hlt:b<s.heap.objs.size:=qaq hb;unfold sortedAll;refine gO (qaK (qbN hlt)) ?_ _;refine qab _ ?_;rw[qbQ _ _ _ _ (qaK hlt)];exact qab _ hb
 ·rw[qat,(gQ ns).length_eq,sizeLine_eq];ext
 ·unfold sortedAll;rw[hc]
def yx:cH X (.builtin "sorted") fSorted:=by
 intro HV s σ H xs us Q I r ⟨ρ,h,ps,rh,rp,q⟩
 cases rp with
 | nil=>exact q.elim
 | @cons x y _ _ r1 t1 =>
  cases t1 with
  | cons _ _=>exact q.elim
  | nil =>
   unfold fSorted at q;dsimp only at q
   cases hl:cM h x with
   | none=>rw[hl] at q;exact q.elim
   | some zs =>
    rw[hl] at q;dsimp only at q;obtain⟨la,ys,rfl,hsq,rzs⟩:=pz rh r1 hl
    cases hi:dr zs with
    | some ns =>
     rw[hi] at q;dsimp only at q;by_cases z:ns.length<64
     ·rw[qaf z] at q;rw[oV hi] at rzs;rw[vints rzs] at hsq;refine sP HV s σ H _ us Q I r ⟨la,ns,rfl,hsq,z,fun l hl2=>?_⟩;obtain⟨rh3,l3⟩:=rh.new hl2 (o:=.lst ((eN ns).map .int)) (ho:=.lst ((eN ns).map V.int)) ⟨_,rfl,RPs.ints _⟩;exact q _ _ _ l3 rh3 (.loc (by rw[<-rh.len];simp))
     ·rw[qak z] at q;exact q.elim
    | none =>
     rw[hi] at q;dsimp only at q
     cases hk:gD zs with
     | none=>rw[hk] at q;exact q.elim
     | some ks =>
      rw[hk] at q;dsimp only at q;by_cases z:(∀k∈ks,k≠[])/\ks.length<=66
      ·rw[qaf z] at q;rw[oC hk] at rzs;refine sX HV s σ H _ us Q I r ⟨la,ys,ks,rfl,hsq,oN rzs,z.1,z.2,fun l ys' hl2 tk=>?_⟩;obtain⟨rh3,l3⟩:=rh.new hl2 (o:=.lst ((cD ks).map kP)) (ho:=.lst ys') ⟨_,rfl,oH tk⟩;exact q _ _ _ l3 rh3 (.loc (by rw[<-rh.len];simp))
      ·rw[qak z] at q;exact q.elim
end
end MM
namespace MM
open PySem PySem.Spec PyProof.Rows L2
local instance (priority:=1) cdec26 (p:Prop):Decidable p:=Classical.propDecidable p
def pr(I:Nat->PSt->MH->Prop):∀(xs:List PV) (j:Nat) (σ:PSt) (h:MH),I j σ h->(∀j σ h,I j σ h->it.ok h) ->
  (∀m σ h x,I (j+m) σ h->xs[m]?=some x->∃σ1 h1 σ' h',g x σ h=.nx σ1 h1/\b σ1 h1=.nx σ' h'/\I (j+m+1) σ' h') ->
  ∃σ' h',mGo it g b xs σ h=.nx σ' h'/\I (j+xs.length) σ' h'
 | [],j,σ,h,hI,hok,_=>⟨σ,h,mGo_nil (hok _ _ _ hI),hI⟩
 | x::r,j,σ,h,hI,hok,st=>by
  obtain⟨σ1,h1,σ2,h2,e1,e2,I1⟩:=st 0 σ h x hI rfl;obtain⟨σ3,h3,e3,I3⟩:=pr I r (j+1) σ2 h2 I1 hok fun m σ' h' y q z=>by
   have:=st (m+1) σ' h' y (by rw[show j+(m+1)=j+1+m by ext];exact q) (by simpa using z)
   rw[show j+(m+1)+1=j+1+m+1 by ext] at this;exact this
  refine⟨σ3,h3,?_,by rw[qaE,show j+(r.length+1)=j+1+r.length by ext];exact I3⟩;rw[Am (hok _ _ _ hI) e1,e2];exact e3
end MM
namespace MM
open PySem PySem.Spec PyProof.Rows L2 SetT SortT
section
variable {h:MH} {i:Int} {xs:List PV} {n:Nat}
def yR(e:h[n]?=some (.lst xs)):cM h (.loc n)=some xs:=by simp[cM,e]
def x5(e:h[n]?=some (.lst (ns.map .int)))(hl:ns.length<64):fSorted [.loc n] h=.ok (.loc h.length) (h++[.lst ((eN ns).map .int)]):=by
 simp[fSorted,yR e,ua,hl]
def wD(e:h[n]?=some (.lst xs))(hl:xs.length<1000):cw n [v] h=.ok .non (h.set n (.lst (xs++[v]))):=by
 have z:1000<=sizeLine:=by decide
 simp only[cw,e];rw[qaf (by ext)]
def uX(em:m σ h=.ok (.loc n) h1)(e:h1[n]?=some (.lst xs)):mMt f m ma σ h=(ma σ h1).bind fun vs h2=>(f n vs h2).ne:=by
 rw[mMt_ap,em];simp[e]
end
def itR1'(em:m σ h=.ok [.int j] h1)(z:-(2 ^ 62)<=j/\j<2 ^ 62):d4 m σ h=.ok ⟨bF 0 j.toNat,[]⟩ h1:=by
 rw[Ad,em];simp only[Out.bind_ok];rw[qaf z]
def itR1(em:m σ h=.ok [.int (n:Int)] h1)(hn:n<=100000):d4 m σ h=.ok ⟨bF 0 n,[]⟩ h1:=by
 have z1:-(2 ^ 62)<=(n:Int):=Int.le_trans (by decide) (Int.natCast_nonneg n);have z2:(n:Int)<2 ^ 62:=Int.lt_of_le_of_lt (Int.ofNat_le.mpr hn) (by decide)
 have:=itR1' em ⟨z1,z2⟩
 rwa [qaQ] at this
def d9:∀(k:List Int),PyData.canLayAll0 (k.map .int)=true/\PyData.depthAll (k.map .int)<=1
 | []=>⟨rfl,by simp[PyData.depthAll]⟩
 | i::k=>by
  obtain⟨a,b⟩:=d9 k;constructor
  ·simp[PyData.canLayAll0,PyData.canLay0,a]
  ·simp only[qaG,PyData.depthAll,PyData.depth];ext
def ss:∀(ks:List (List Int)),PyData.canLayAll0 (ks.map fun k=>.tuple (k.map .int))=true/\PyData.depthAll (ks.map fun k=>.tuple (k.map .int))<=2
 | []=>⟨rfl,by simp[PyData.depthAll]⟩
 | k::ks=>by
  obtain⟨a,b⟩:=ss ks;obtain⟨c,d⟩:=d9 k;constructor
  ·simp[PyData.canLayAll0,PyData.canLay0,a,c]
  ·simp only[qaG,PyData.depthAll,PyData.depth];ext
end MM
namespace MM
open PySem PySem.Spec PyProof.Rows L2
local instance (priority:=1) cdec28 (p:Prop):Decidable p:=Classical.propDecidable p
def m4(h:MH):PV->Option Bool
 | .non=>some false
 | .bl b=>some b
 | .int i=>some (i != 0)
 | .str _=>none
 | .tup xs=>some (!xs.isEmpty)
 | .frl xs=>some (!xs.isEmpty)
 | .loc n=>match h[n]? with
  | some (.lst xs)=>some (!xs.isEmpty)
  | _=>none
section
variable {X:Cx} {N W G:List Str} {k:Nat}
def kC{K:qad}{ρ:List Addr}{H:Hp}{xs:List PV}{ys:List V}(r:RPs K ρ H xs ys):(!xs.isEmpty)=!ys.isEmpty:=by
 cases r <;> rfl
end
end MM
namespace MM
open PySem PySem.Spec PyProof.Rows L2 PySem.W
local instance (priority:=1) cdec29 (p:Prop):Decidable p:=Classical.propDecidable p
def jv(k:Int):List Int->Option Nat
 | []=>none
 | x::r=>if x=k then some 0 else (jv k r).map (·+1)
def xX:isInt k (.int a t)=decide (a=k):=by
 simp[isInt,qbw]
def kf_of:∀{ns:List Int} {its:List Value},az (ns.map V.int) its->kf_ints its=true/\kf_at k its=jv k ns
 | [],_,r=>by cases r;exact⟨rfl,rfl⟩
 | n::ns,_,r=>by
  cases r with
  | cons r1 r2 =>
   obtain⟨t,rfl⟩:=r1;obtain⟨a,b⟩:=kf_of (k:=k) r2;refine⟨a,?_⟩;unfold kf_at jv;rw[xX,b];by_cases z:n=k
   ·simp[z]
   ·simp only[z,decide_false,cond_false,if_false];cases jv k ns <;> rfl
def kG(n:Nat)(vs:List PV)(h:MH):Out PV:=match vs with
 | [.int k]=>(match h[n]? with
  | some (.lst xs)=>(match dr xs with
   | some ns=>(match jv k ns with
    | some j=>.ok (.int j) h
    | none=>.bad)
   | none=>.bad)
  | _=>.bad)
 | _=>.bad
def t8:∀{xs:List PV} {ns:List Int},dr xs=some ns->xs=ns.map .int
 | [],ns,e=>by cases e;rfl
 | x::xs,ns,e=>by
  cases x with
  | int i =>
   rw[dr,qav] at e;obtain⟨ms,e1,rfl⟩:=e;rw[t8 e1];rfl
  | _=>cases e
def lV{K:qad}{ρ:List Addr}{H:Hp}:∀{ns:List Int} {ys:List V},RPs K ρ H (ns.map .int) ys->ys=ns.map V.int
 | [],_,r=>by cases r;rfl
 | n::ns,_,r=>by cases r with | cons r1 r2=>cases r1;rw[lV r2];rfl
section
variable {X:Cx}
def zf:MtR X "list.index" (mtJ X kG):=by
 intro HV s σ H x vs v us Q I rx rv ⟨ρ,h,n,a,ps,e,en,rh,rp,q⟩;subst e;obtain⟨o,eo,ro⟩:=rh.obj en;unfold kG at q
 cases rp with
 | nil=>exact q.elim
 | cons r1 t1 =>
  cases t1 with
  | cons _ _=>cases r1 <;> exact q.elim
  | nil =>
   cases r1 with
   | int k =>
    dsimp only at q;rw[eo] at q
    cases o with
    | lst xs =>
     dsimp only at q
     cases ei:dr xs with
     | none=>rw[ei] at q;exact q.elim
     | some ns =>
      rw[ei] at q;dsimp only at q
      cases ej:jv k ns with
      | none=>rw[ej] at q;exact q.elim
      | some j =>
       rw[ej] at q;obtain⟨ys,ey,ry⟩:=ro;rw[t8 ei] at ry
       have:=lV ry
       subst this;cases rx
       cases rv with
       | cons rv1 tv1 =>
        cases tv1;obtain⟨t,rfl⟩:=rv1;obtain⟨z,its,nn,r,hlen,e⟩:=I.lstM ey;obtain⟨k1,k2⟩:=kf_of (k:=k) r;rw[ej] at k2;obtain⟨hj,hit,hno⟩:=kf_at_spec k2;have hs:=sizeLine_eq;refine call_meets PySem.F.slot_list_index ⟨_,e,rfl⟩ PySem.F.entry_list_index (PySem.F.args_list_index_2 _ _)
         (MeetsSeq.list_index a its.toArray nn (.int k t) (isInt k) (fun y hy=>kf_eq k1 y (by simpa using hy)) j (by simpa using hj) (by ext) (by simpa using hit) (fun i hi hlt=>by simpa using hno i (by simpa using hi) hlt)) ⟨e,?_⟩
        exact⟨.int j,H,I.tok _,⟨_,rfl⟩,q ρ H _ (Le.refl _ _) rh (.int _)⟩
    | _=>exact q.elim
   | _=>exact q.elim
end
end MM
namespace MM
open PySem PySem.Spec PyProof.Rows L2
section
variable {X:Cx} {o e:Expr} {es:List Expr} {name:Str} {apos cpos:Pos} {id:String} {f:Str→List PV→MH→Out PV} {m:Mx PV} {ma:Mx (List PV)}
end
end MM
namespace L2
open PySem PySem.Spec PyProof.Rows
def cr{α:Type}(xs:List α)(hi:Option Int):List α:=match hi with
 | none=>xs.reverse
 | some k=>(xs.drop (k.toNat+1)).reverse
def dJ{α:Type}(m:List α):∀c,(List.range c).filterMap (fun k=>m[k]?)=m.take c
 | 0=>by simp
 | c+1=>by
  rw[qcm,List.filterMap_append,dJ m c,qbU];congr 1
def ur{α β:Type}{f g:α->Option β}:∀{l:List α},(∀x∈l,f x=g x)->l.filterMap f=l.filterMap g
 | [],_=>rfl
 | x::l,h=>by rw[qbE,qbE,h x (by simp),ur fun y hy=>h y (qai _ hy)]
def m9{α:Type}(l:List α){c:Nat}(hc:c<=l.length):((List.range c).map fun (k:Nat)=>(((l.length:Int) - 1)+(-1) * (k:Int)).toNat).filterMap (fun i=>l[i]?)=(l.drop (l.length - c)).reverse:=by
 rw[List.filterMap_map]
 have:(List.range c).filterMap ((fun i=>l[i]?)∘fun (k:Nat)=>(((l.length:Int) - 1)+(-1) * (k:Int)).toNat)=(List.range c).filterMap (fun k=>l.reverse[k]?):=by
  refine ur fun k hk=>?_;rw[qaY] at hk;rw[List.getElem?_reverse (by ext)];show l[(((l.length:Int) - 1)+(-1) * (k:Int)).toNat]?=_;congr 1;ext
 rw[this,dJ,List.take_reverse]
def qV(its:List Value){hi:Option Int}(h:∀k,hi=some k->0<=k):slicePick its.toArray none hi (some (-1))=(cr its hi).toArray:=by
 unfold slicePick sliceBounds sliceRange;simp only[Option.getD_some,qaj,show ¬((-1:Int)>0) by decide,if_false,qbp];congr 1
 cases hi with
 | none =>
  dsimp only;have e:(if (its.length:Int) - 1 > -1 then ((its.length:Int) - 1 - -1 - -1 - 1) / (- -1) else 0)=(its.length:Int):=by
   split
   ·rw[show -(-1:Int)=1 by decide,qdf];ext
   ·ext
  rw[e,qaQ,m9 its (qag _)];simp[cr]
 | some k =>
  have hk:=h k rfl;dsimp only;simp only[show ¬k<0 by ext,if_false];have e:(if (its.length:Int) - 1>max (-1) (min k ((its.length:Int) - 1)) then ((its.length:Int) - 1 - max (-1) (min k ((its.length:Int) - 1)) - -1 - 1) / (- -1) else 0).toNat=its.length - (k.toNat+1):=by
   rw[show -(-1:Int)=1 by decide];split
   ·rw[qdf];ext
   ·ext
  rw[e,m9 its (by ext)];show _=(its.drop (k.toNat+1)).reverse;by_cases z:k.toNat+1<=its.length
  ·rw[show its.length - (its.length - (k.toNat+1))=k.toNat+1 by ext]
  ·rw[qaZ (by ext),qaZ (by ext)]
def az.reverse':∀{xs:List V} {us:List Value},az xs us->az xs.reverse us.reverse:=by
 have app:∀{xs:List V} {us:List Value} {y:V} {v:Value},az xs us->bh y v->az (xs++[y]) (us++[v]):=by
  intro xs
  induction xs with
  | nil=>intro us y v r ry;cases r;exact .cons ry .nil
  | cons x xs ih=>intro us y v r ry;cases r with | cons r1 r2=>exact .cons r1 (ih r2 ry)
 intro xs
 induction xs with
 | nil=>intro us r;cases r;exact .nil
 | cons x xs ih=>intro us r;cases r with | cons r1 r2=>rw[qbP,qbP];exact app (ih r2) r1
def xu{xs:List V}{us:List Value}(r:az xs us)(hi:Option Int):az (cr xs hi) (cr us hi):=by
 cases hi with
 | none=>exact r.reverse'
 | some k=>exact (r.drop _).reverse'
def uB{α:Type}(xs:List α)(hi:Option Int):(cr xs hi).length<=xs.length:=by
 cases hi <;> simp[cr]
section
variable {X:Cx} {e st:Expr} {te:TE} {hi:Option Expr} {th ts:TO} {pos p2:Pos}
def rRv(K:qad)(x:V)(u w:Option Int)(H:Hp)(Q:VK):Prop:=∃a xs,x=.ref a/\SqL K H a xs/\(∀k,u=some k->0<=k)/\w=some (-1)/\∀p,H p=none->Q (.ref p) (upd H p (.lst (cr xs u)))
def pe_rev(he:PE X e te)(hu:PO X hi th)(hs:PO X (some st) ts):PE X (.Subscript e (.Slice none hi (some st) p2) pos) (fun σ H Q=>te σ H fun x H1=>th σ H1 fun u H2=>ts σ H2 fun w H3=>rRv X.K x u w H3 Q):=by
 intro HV s σ H Q I h;refine Subscript_ (thn (he HV s σ H _ I h) fun v s1 ⟨x,H1,I1,r1,q1⟩=>?_);refine wpAny_Slice ?_;rw[evalPart_none];refine qah ?_;refine thn (hu HV s1 σ H1 _ I1 q1) fun vu s2 ⟨u,H2,I2,pu,q2⟩=>thn (hs HV s2 σ H2 _ I2 q2) fun vs s3 ⟨w,H3,I3,pw,q3⟩=>?_;obtain⟨a,xs,rfl,hx,hk,rfl,q⟩:=q3;cases r1;have I4:Inv X HV σ H3 { s3 with heap:=s3.heap.push { cls:=.type "slice",data:=.fields #[.none,vu,vs]}}:=I3.kept (t':=s3.toks) fun b ob q=>qab _ q;obtain⟨its,r,ht,hz⟩:=I4.list hx;have hlen:=r.length;show wpAny (model X.prog X.w) X.A (subscriptTail e (.Slice none hi (some st) p2) (.ref a) (.ref s3.heap.objs.size)) (EP X HV σ Q) X.xe { s3 with heap:=s3.heap.push { cls:=.type "slice",data:=.fields #[.none,vu,vs]}};refine tail_any (ops:=[.ref a,.ref s3.heap.objs.size]) ht.isList.typeIs slot_list_getitem.lookup ?_ (by with_unfolding_all rfl);refine wpAny_getItem_list_slice ht.isList (Heap.IsSliceOf.new ..) .none pu pw (by decide) ?_ (by rw[qaj] <;> ext);rw[qV its hk];refine⟨.ref _,_,I4.laid (t':=s3.toks) (o:=.lst (cr xs u)) (fun b ob q=>qab _ q) (qag _) ?_,rfl,q _ (I4.hok.fresh (qag _))⟩;exact⟨qaD (uB xs u) hz,_,0,xu r u,qap _ rfl⟩
end
end L2
namespace MM
open PySem PySem.Spec PyProof.Rows L2
local instance (priority:=1) cdec32 (p:Prop):Decidable p:=Classical.propDecidable p
def fRv(x:PV)(hi st:Option Int)(h:MH):Out PV:=match x with
 | .frl xs=>if (∀k,hi=some k->0<=k)/\st=some (-1) then .ok (.loc h.length) (h++[.lst (cr xs hi)]) else .bad
 | .loc n=>(match h[n]? with
  | some (.lst xs)=>if (∀k,hi=some k->0<=k)/\st=some (-1) then .ok (.loc h.length) (h++[.lst (cr xs hi)]) else .bad
  | _=>.bad)
 | _=>.bad
def mRv(m:Mx PV)(mh ms:Mx (Option Int)):Mx PV:=fun σ h=>(m σ h).bind fun x h1=>(mh σ h1).bind fun hi h2=>(ms σ h2).bind fun st h3=>(fRv x hi st h3).ne
def RPs.rev'{K:qad}{ρ:List Addr}{H:Hp}:∀{xs:List PV} {zs:List V},RPs K ρ H xs zs->RPs K ρ H xs.reverse zs.reverse:=by
 have app:∀{xs:List PV} {zs:List V} {y:PV} {v:V},RPs K ρ H xs zs->RP K ρ H y v->RPs K ρ H (xs++[y]) (zs++[v]):=by
  intro xs
  induction xs with
  | nil=>intro us y v r ry;cases r;exact .cons ry .nil
  | cons x xs ih=>intro us y v r ry;cases r with | cons r1 r2=>exact .cons r1 (ih r2 ry)
 intro xs
 induction xs with
 | nil=>intro us r;cases r;exact .nil
 | cons x xs ih=>intro us r;cases r with | cons r1 r2=>rw[qbP,qbP];exact app (ih r2) r1
def uV{K:qad}{ρ:List Addr}{H:Hp}{xs:List PV}{zs:List V}(r:RPs K ρ H xs zs)(hi:Option Int):RPs K ρ H (cr xs hi) (cr zs hi):=by
 cases hi with
 | none=>exact r.rev'
 | some k=>exact (r.drop _).rev'
section
variable {X:Cx} {pos p2:Pos}
def me_rev{e st:Expr}{hi:Option Expr}{m:Mx PV}{mh ms:Mx (Option Int)}(he:ME X e m)(hu:MO' X hi mh)(hs:MO' X (some st) ms):ME X (.Subscript e (.Slice none hi (some st) p2) pos) (mRv m mh ms) :=
 PE.imp (pe_rev he hu hs) fun σ H Q ⟨ρ,σp,h,rs,rh,q⟩=>⟨ρ,σp,h,rs,rh,Ful.bind q fun ρ1 H1 x x' h1 _ l1 rh1 rx q1=>⟨ρ1,σp,h1,rs.le l1,rh1,Ful.bind q1 fun ρ2 H2 hi hi' h2 _ l2 rh2 eh q2=>by
  subst eh;refine⟨ρ2,σp,h2,rs.le (l1.trans l2),rh2,Ful.bind q2 fun ρ3 H3 w w' h3 _ l3 rh3 ew q3=>?_⟩;subst ew;have q4:=q3.zero;have rx3:=(rx.le l2).le l3;unfold fRv at q4
  cases rx3 with
  | @frl xs a ys s1 r1 =>
   dsimp only at q4;by_cases z:(∀k,hi=some k->0<=k)/\w=some (-1)
   ·rw[qaf z] at q4;refine⟨a,ys,rfl,s1.sq,z.1,z.2,fun p hp=>?_⟩;obtain⟨r',l'⟩:=rh3.new hp (o:=.lst (cr xs hi)) (ho:=.lst (cr ys hi)) ⟨_,rfl,uV r1 hi⟩;exact q4 _ _ _ l' r' (.loc (by rw[<-rh3.len];simp))
   ·rw[qak z] at q4;exact q4.elim
  | @loc n a en =>
   obtain⟨o,eo,ro⟩:=rh3.obj en;dsimp only at q4;rw[eo] at q4
   cases o with
   | lst xs =>
    obtain⟨ys,ey,ry⟩:=ro;dsimp only at q4;by_cases z:(∀k,hi=some k->0<=k)/\w=some (-1)
    ·rw[qaf z] at q4;refine⟨a,ys,rfl,SqL.of ey,z.1,z.2,fun p hp=>?_⟩;obtain⟨r',l'⟩:=rh3.new hp (o:=.lst (cr xs hi)) (ho:=.lst (cr ys hi)) ⟨_,rfl,uV ry hi⟩;exact q4 _ _ _ l' r' (.loc (by rw[<-rh3.len];simp))
    ·rw[qak z] at q4;exact q4.elim
   | _=>exact q4.elim
  | _=>exact q4.elim⟩⟩
end
def lsO(h:MH):PV->Option (List PV)
 | .frl xs=>some xs
 | .loc n=>(match h[n]? with
  | some (.lst xs)=>some xs
  | _=>none)
 | _=>none
def opEqL(x y:PV)(h:MH):Out PV:=match lsO h x,lsO h y with
 | some xs,some ys=>if xs.length≠ys.length then .ok (.bl false) h else opEq x y h
 | _,_=>opEq x y h
section
variable {X:Cx} {k:Nat}
def lsR{ρ:List Addr}{H:Hp}{h:MH}{x:PV}{x':V}{xs:List PV}(rh:RH X.K X.mg ρ H h)(rx:RP X.K ρ H x x')(e:lsO h x=some xs):∃a ys,x'=.ref a/\SqL X.K H a ys/\RPs X.K ρ H xs ys:=by
 cases rx with
 | frl s r=>cases e;exact⟨_,_,rfl,s.sq,r⟩
 | @loc n a en =>
  obtain⟨o,eo,ro⟩:=rh.obj en;simp only[lsO,eo] at e
  cases o with
  | lst ys =>
   cases e;obtain⟨zs,ez,rz⟩:=ro;exact⟨a,zs,rfl,SqL.of ez,rz⟩
  | _=>cases e
 | _=>cases e
def yO(hr:Room k X.A):OpJ X (compareOp .Eq) opEqL:=by
 intro HV s σ H x' y' u v Q I rx' ry' ⟨ρ,h,x,y,rh,rx,ry,q⟩;unfold opEqL at q
 split at q
 ·rename_i xs ys ex ey
  by_cases z:xs.length≠ys.length
  ·rw[qaf z] at q;obtain⟨a,zs,rfl,hl,rz⟩:=lsR rh rx ex;obtain⟨b,ws,rfl,hb,rw'⟩:=lsR rh ry ey;cases rx';cases ry';obtain⟨its,r1,p1,_⟩:=I.list hl;obtain⟨its2,r2,p2,_⟩:=I.list hb;refine SeqAt.eq_list_lengthsAt p1.isList p2.isList ?_ (by have:=hr.units;ext) ⟨.bl _,H,I,rfl,q ρ H _ (Le.refl _ _) rh (.bl _)⟩;rw[qaj,qaj,<-r1.length,<-r2.length,<-rz.length,<-rw'.length];simpa using z
  ·rw[qak z] at q;exact fb hr HV s σ H x' y' u v Q I rx' ry' ⟨ρ,h,x,y,rh,rx,ry,q⟩
 ·exact fb hr HV s σ H x' y' u v Q I rx' ry' ⟨ρ,h,x,y,rh,rx,ry,q⟩
end
end MM
namespace MM
open PySem PySem.Spec PyProof.Rows L2 SetT SortT
local instance (priority:=1) cdec34 (p:Prop):Decidable p:=Classical.propDecidable p
def many(ns:List Int):Nat:=(firstMet (fun i=>ns.getD i 0) ns.length).length
def many_le(ns:List Int):many ns<=ns.length:=firstMet_length_le _ _
def IPh(prog:Program)(w:World)(S:Addr)(n:Nat)(h:Heap):Prop:=∃f,h.SetOf (intKind prog w) S f n
def wg{prog:Program}{w:World}{S:Addr}{n:Nat}{h1 h2:Heap}(p:IPh prog w S n h1)(k:∀o,h1.get? S=some o->h2.get? S=some o):IPh prog w S n h2:=by
 obtain⟨f,o,es,ep,t,p1,r⟩:=p;exact⟨f,o,es,ep,t,k o p1,r⟩
section
variable {X:Cx} {N W G:List Str} {k:Nat}
def xK(hh:X.calm=true):cu X (.type "set") (fun xs H Q=>∃l ns,xs=[.ref l]/\SqL X.K H l (ns.map V.int)/\ns.length<=1000/\∀S,H S=none->Q (.ref S) (upd H S (.ext (IPh X.prog X.w S (many ns))))):=by
 intro HV s σ H xs us Q I r ⟨l,ns,e,hq,hl,q⟩;subst e;obtain⟨u,rfl,rx⟩:=dM r;cases rx;obtain⟨its,rv,pl,hz⟩:=I.list hq;have hlen:its.length=ns.length:=by have:=rv.length;rw[qat] at this;exact this.symm
 have ia:IntsAre its.toArray.toList ns:=xf rv;have hfr:=I.hok.fresh (qag s.heap.objs.size);refine call_set_list (I.ok.hd hh) pl.isList ia (by rw[qaj,hlen];unfold scanBound;ext) fun h' tk T x=>?_;have es':its.toArray.size=ns.length:=by rw[qaj,hlen]
 rw[es'] at T;have sp:IPh X.prog X.w s.heap.objs.size (many ns) h':=⟨_,T⟩;obtain⟨f,o,es,ep,t,ho,rest⟩:=id sp;exact⟨.ref s.heap.objs.size,_,I.laid (o:=.ext (IPh X.prog X.w s.heap.objs.size (many ns))) (fun b o e=>x b o (qaq e) e) (qag _) ⟨sp,⟨o,ho⟩,fun h1 h2 a b=>wg a b⟩,rfl,q _ hfr⟩
def yT:cu X (.builtin "len") (fun xs H Q=>∃S n,xs=[.ref S]/\H S=some (.ext (IPh X.prog X.w S n))/\n<=1000/\Q (.int n) H):=by
 intro HV s σ H xs us Q I r ⟨S,n,e,hS,hn,q⟩;subst e;obtain⟨u,rfl,rx⟩:=dM r;cases rx;obtain⟨sp,_,_⟩:IPh X.prog X.w S n s.heap/\_:=(show ObjOk X.prog X.w H s.heap S (.ext (IPh X.prog X.w S n)) from I.hok S _ hS);obtain⟨f,o,es,ep,t,p1,p2,p3,p4,p5,p6,p7,p8⟩:=sp;refine call_len_set p1 p2 p3 p7 (by rw[p8];ext) ?_;rw[p8];exact⟨.int n,H,I.kept fun b ob q=>q,⟨_,rfl⟩,q⟩
def mLS(m:Mx (List PV)):Mx PV:=fun σ h=>(m σ h).bind fun xs h1=>match xs with
 | [x]=>(match (cM h1 x).bind dr with
  | some ns=>if ns.length<=1000 then .ok (.int (many ns)) h1 else .bad
  | none=>.bad)
 | _=>.bad
def xO(g:Good X N W G k){a:Expr}{m:Mx (List PV)}{p p' pos pos':Pos}(i j:Nat)(hm:X.mg "len"=none)(hm':X.mg "set"=none)(ha:MA X [a] m)(hi:G[i]?=some "len":=by rfl)(hj:G[j]?=some "set":=by rfl)
  (hs:starEach [a] X.env=[(false,eval a X.env)]:=by rfl) (he:starEach [.Call (.Name "set" p') [a] [] pos'] X.env=[(false,eval (.Call (.Name "set" p') [a] [] pos') X.env)]:=by rfl) :
  ME X (.Call (.Name "len" p) [.Call (.Name "set" p') [a] [] pos'] [] pos) (mLS m):=by
 have d:=g.dbg _ (qal _ (aS hi));have d':=g.dbg _ (qal _ (aS hj));refine PE.imp (jo yT (g.gl _ (aS hi)) hm PyProof.Rows.Boot.«len» (gh (iu (xK g.calm) (g.gl _ (aS hj)) hm' PyProof.Rows.Boot.«set» ha d'.2.2 d'.1 hs rfl) kM he) d.2.2 d.1 he rfl) fun σ H Q ⟨ρ,σp,h,rs,rh,q⟩=>?_;refine⟨ρ,σp,h,rs,rh,Ful.bind q fun ρ1 H1 x x' h1 ex l1 rh1 rx q1=>?_⟩;clear ex
 cases rx with
 | nil=>exact q1.elim
 | @cons y y' _ _ r1 t1 =>
  cases t1 with
  | cons _ _=>exact q1.elim
  | nil =>
   dsimp only at q1
   cases hl:cM h1 y with
   | none=>rw[hl] at q1;exact q1.elim
   | some xs =>
    rw[hl] at q1
    cases hk:dr xs with
    | none=>simp only[qaT,hk] at q1;exact q1.elim
    | some ns =>
     simp only[qaT,hk] at q1;by_cases z:ns.length<=1000
     ·rw[qaf z] at q1;obtain⟨la,zs,rfl,hsq,rzs⟩:=pz rh1 r1 hl;rw[oV hk] at rzs;rw[vints rzs] at hsq;refine⟨la,ns,rfl,hsq,z,fun S hS=>?_⟩;obtain⟨rh2,l2⟩:=rh1.loose hS (.ext (IPh X.prog X.w S (many ns)));exact⟨S,many ns,rfl,bZ,qaD (many_le ns) z,q1 ρ1 _ _ l2 rh2 (.int _)⟩
     ·rw[qak z] at q1;exact q1.elim
end
end MM
namespace L2
open PySem PySem.Spec PyProof.Rows
section
variable {X:Cx} {a:Expr} {ta:TE} {pos:Pos}
def pe_notT(ha:PE X a ta):PE X (.UnaryOp .Not a pos) (fun σ H Q=>ta σ H fun x H'=>∃k,TruV X.K x H' k/\Q (.bl (!k)) H'):=by
 intro HV s σ H Q I h;refine UnaryOp_ (thn (ha HV s σ H _ I h) fun v s1 ⟨x,H1,I1,r1,q1⟩=>?_);exact not_of (thn (tq HV s1 σ H1 x v (fun c H2=>Q (.bl (!c)) H2) I1 r1 q1) fun c s2 ⟨H2,I2,q⟩=>⟨.bl (!c),H2,I2,rfl,q⟩)
end
end L2
namespace MM
open PySem PySem.Spec PyProof.Rows L2
def w9(m:Mx PV):Mx PV:=fun σ h=>(m σ h).bind fun v h1=>match m4 h1 v with
 | some b=>.ok (.bl (!b)) h1
 | none=>.bad
section
variable {X:Cx} {pos:Pos}
def me_notT{e:Expr}{m:Mx PV}(h:ME X e m):ME X (.UnaryOp .Not e pos) (w9 m):=by
 refine PE.imp (pe_notT h) fun σ H Q ⟨ρ,σp,h,rs,rh,q⟩=>⟨ρ,σp,h,rs,rh,Ful.bind q fun ρ1 H1 x x' h1 _ l1 rh1 rx q1=>?_⟩
 cases rx with
 | non=>exact⟨false,rfl,q1 ρ1 H1 _ (Le.refl _ _) rh1 (.bl _)⟩
 | bl b=>exact⟨b,rfl,q1 ρ1 H1 _ (Le.refl _ _) rh1 (.bl _)⟩
 | int i=>exact⟨_,rfl,q1 ρ1 H1 _ (Le.refl _ _) rh1 (.bl _)⟩
 | str i=>exact q1.elim
 | @tup xs a ys s r=>exact⟨_,.inr (.inl ⟨ys,s,rfl⟩),by rw[<-kC r];exact q1 ρ1 H1 _ (Le.refl _ _) rh1 (.bl _)⟩
 | @frl xs a ys s r=>exact⟨_,.inl ⟨ys,s.sq,rfl⟩,by rw[<-kC r];exact q1 ρ1 H1 _ (Le.refl _ _) rh1 (.bl _)⟩
 | @loc n a e =>
  obtain⟨o,eo,ro⟩:=rh1.obj e
  cases o with
  | lst xs =>
   obtain⟨ys,ey,ry⟩:=ro;simp only[m4,eo] at q1;exact⟨_,.inl ⟨ys,.inl (.inl ey),rfl⟩,by rw[<-kC ry];exact q1 ρ1 H1 _ (Le.refl _ _) rh1 (.bl _)⟩
  | dic kvs=>simp only[m4,eo] at q1;exact q1.elim
  | exc z=>simp only[m4,eo] at q1;exact q1.elim
end
section
variable {X:Cx}
end
abbrev zO:=@PySem.F.slot_list_count
abbrev Aa:=@PySem.F.type_list_count
section
variable {X:Cx}
end
end MM
namespace MM
open PySem PySem.Spec PyProof.Rows L2
local instance (priority:=1) cdec38 (p:Prop):Decidable p:=Classical.propDecidable p
def iU(n:Nat)(vs:List PV)(h:MH):Out PV:=match vs with
 | [x]=>(match h[n]? with
  | some (.lst ys)=>(match rd 60 h x,b8 (rd 60 h) ys with
   | some d,some ds=>if d.canLay0=true/\PyData.canLayAll0 ds=true then .ok (.int (ds.countP (fun e=>PyData.eqv e d):Nat)) h else .bad
   | _,_=>.bad)
  | _=>.bad)
 | _=>.bad
def l0{hp:Heap}{dx:PyData}{f:Value->Bool}(hf:∀u d as,Reads hp u d as->f u=PyData.eqv d dx):∀{us:List Value} {ds:List PyData} {as:List Addr},ReadsAll hp us ds as->us.countP f=ds.countP fun e=>PyData.eqv e dx
 | _,_,_,.nil=>rfl
 | _,_,_,.cons r t=>by rw[qcN,qcN,hf _ _ _ r,l0 hf t]
section
variable {X:Cx} {k:Nat}
def yL(hr:Room k X.A):MtR X "list.count" (mtJ X iU):=by
 intro HV s σ H x vs v us Q I rx rv ⟨ρ,h,n,a,ps,e,en,rh,rp,q⟩;subst e;obtain⟨o,eo,ro⟩:=rh.obj en;unfold iU at q
 cases rp with
 | nil=>exact q.elim
 | @cons y y' _ _ r1 t1 =>
  cases t1 with
  | cons _ _=>exact q.elim
  | nil =>
   dsimp only at q;rw[eo] at q
   cases o with
   | lst xs =>
    dsimp only at q
    cases ex:rd 60 h y with
    | none=>rw[ex] at q;exact q.elim
    | some dx =>
     rw[ex] at q
     cases ed:b8 (rd 60 h) xs with
     | none=>rw[ed] at q;exact q.elim
     | some ds =>
      rw[ed] at q;dsimp only at q;by_cases hl:dx.canLay0=true/\PyData.canLayAll0 ds=true
      ·rw[qaf hl] at q;obtain⟨ys,ey,ry⟩:=ro;cases rx
       cases rv with
       | @cons _ u _ _ rv1 tv1 =>
        cases tv1;obtain⟨_,rX⟩:=cY I rh 60 y y' u dx r1 rv1 ex;have hdp:=(jU 60 y dx ex).1;obtain⟨z,its,nn,r,hlen,e⟩:=I.lstM ey;obtain⟨as,RA⟩:=dP (fun v v' u d r1 r2 e=>cY I rh 60 v v' u d r1 r2 e) ry r ed;refine call_meets PySem.F.slot_list_count ⟨_,e,rfl⟩ PySem.F.entry_list_count (PySem.F.args_list_count_2 _ _) (SeqAt.list_countAt a its.toArray nn _ _ u (MM.fq s.heap dx)) ⟨e,fun w hw=>?_,?_⟩
        ·obtain⟨d,as',hd,hrd⟩:=kn RA w (by simpa using hw);rw[rj hrd];refine SeqAt.eqAt_reads d dx _ s w u _ _ hrd rX (jP hl.2 d hd) hl.1 ?_
         have:=hr.un
         show X.A.units+1+_<_;ext
        ·rw[show its.toArray.toList=its from rfl,l0 (fun u d as r=>rj r) RA];exact⟨.int _,H,I.tok _,⟨_,rfl⟩,q ρ H _ (Le.refl _ _) rh (.int _)⟩
      ·rw[qak hl] at q;exact q.elim
   | _=>exact q.elim
def fReprA(xs:List PV)(h:MH):Out PV:=match xs with
 | [.non]=>.ok (.str "None") h
 | [.bl b]=>.ok (.str (if b then "True" else "False")) h
 | [.int i]=>if i.natAbs.log2<1920 then .ok (.str (toString i)) h else .bad
 | [.str x]=>if (reprText x).length<=sizeLine then .ok (.str (reprText x)) h else .bad
 | [.loc n]=>(match h[n]? with
  | some (.dic [])=>.ok (.str "{}") h
  | _=>fRepr [.loc n] h)
 | xs=>fRepr xs h
def uy{N W G:List Str}(g:Good X N W G k):cH X (.builtin "repr") fReprA:=by
 intro HV s σ H xs us Q I r ⟨ρ,h,ps,rh,rp,q⟩
 cases rp with
 | nil=>exact q.elim
 | @cons x y _ _ r1 t1 =>
  cases t1 with
  | cons a b=>exact iT g HV s σ H _ us Q I r ⟨ρ,h,_,rh,.cons r1 (.cons a b),by cases r1 <;> exact q⟩
  | nil =>
   cases r with
   | cons ru tu =>
    cases tu
    cases r1 with
    | non=>cases ru;exact P.repr_of_none ⟨.str "None",H,I.tok _,⟨_,rfl⟩,q ρ H _ (Le.refl _ _) rh (.str _)⟩
    | bl b=>cases ru;exact P.repr_of_bool ⟨.str _,H,I.tok _,⟨_,rfl⟩,q ρ H _ (Le.refl _ _) rh (.str _)⟩
    | int i =>
     obtain⟨t,rfl⟩:=ru;unfold fReprA at q;dsimp only at q;by_cases z:i.natAbs.log2<1920
     ·rw[qaf z] at q;exact P.repr_of_int z ⟨.str _,H,I.tok _,⟨_,rfl⟩,q ρ H _ (Le.refl _ _) rh (.str _)⟩
     ·rw[qak z] at q;exact q.elim
    | str x =>
     obtain⟨t,rfl⟩:=ru;unfold fReprA at q;dsimp only at q;by_cases z:(reprText x).length<=sizeLine
     ·rw[qaf z] at q;exact P.repr_of_str ⟨.str _,H,I.tok _,⟨_,rfl⟩,q ρ H _ (Le.refl _ _) rh (.str _)⟩ z
     ·rw[qak z] at q;exact q.elim
    | tup s1 rr=>exact iT g HV s σ H _ _ Q I (.cons ru .nil) ⟨ρ,h,_,rh,.cons (.tup s1 rr) .nil,q⟩
    | frl s1 rr=>exact iT g HV s σ H _ _ Q I (.cons ru .nil) ⟨ρ,h,_,rh,.cons (.frl s1 rr) .nil,q⟩
    | @loc n a en =>
     obtain⟨o,eo,ro⟩:=rh.obj en;unfold fReprA at q;dsimp only at q;rw[eo] at q
     cases o with
     | lst zs=>exact iT g HV s σ H _ _ Q I (.cons ru .nil) ⟨ρ,h,_,rh,.cons (.loc en) .nil,q⟩
     | exc zs=>exact iT g HV s σ H _ _ Q I (.cons ru .nil) ⟨ρ,h,_,rh,.cons (.loc en) .nil,q⟩
     | dic kvs =>
      obtain⟨e1,e2⟩:=ro;subst e1;cases ru;obtain⟨_,sm,vs,kv,dd⟩:ObjOk X.prog X.w H s.heap a (.dK []):=I.hok a _ e2;cases kv;obtain⟨ob,es,ep,h1,h2,h3,_,h4,_⟩:=dd;have e0:es.toList=[]:=by
       cases h5:es.toList with
       | nil=>rfl
       | cons a b=>rw[h5] at h4;cases h4
      have rd1:Reads s.heap (.ref a) (.dict []) (a::[]++[]):=.dict h1 h2.1 h3 (by rw[e0];exact .nil) (by rw[e0];exact .nil);refine repr_of_reads' rd1 rfl (fun _=>by simpa using fun z=>by rw[z] at sm;simp at sm) g.room.gd (by have:=g.room.un;simp[PyData.depth,PyData.depthKv];ext) (fun _ _ e=>e) (fun h' u tk hk=>⟨.str "{}",H,I.kept hk,⟨u,rfl⟩,q ρ H _ (Le.refl _ _) rh (.str _)⟩) (by rw[sizeLine_eq];decide)
def opNeS(x y:PV)(h:MH):Out PV:=match x,y with
 | .str a,.str b=>.ok (.bl (a.cps.toList != b.cps.toList)) h
 | _,_=>opNe x y h
def oj_neS(hr:Room k X.A):OpJ X (compareOp .NotEq) opNeS:=by
 intro HV s σ H x' y' u v Q I rx' ry' ⟨ρ,h,x,y,rh,rx,ry,q⟩;by_cases z:∃a b,x=.str a/\y=.str b
 ·obtain⟨a,b,rfl,rfl⟩:=z;cases rx;cases ry;obtain⟨t,rfl⟩:=rx';obtain⟨t',rfl⟩:=ry';exact P.ne_str ⟨.bl _,H,I,rfl,q ρ H _ (Le.refl _ _) rh (.bl _)⟩
 ·refine rk hr HV s σ H x' y' u v Q I rx' ry' ⟨ρ,h,x,y,rh,rx,ry,?_⟩
  have:opNeS x y h=opNe x y h:=by
   unfold opNeS;split
   ·exact absurd ⟨_,_,rfl,rfl⟩ z
   ·rfl
  rwa [this] at q
end
end MM
namespace PU
open PySem MM
def ys{α:Type}{a b:α}(h:a=b):a=b:=h
inductive D where
 | non | bl (b:Bool) | int (i:Int) | str (x:Str) | tup (xs:List D) | lst (xs:List D) | dic | exc (c:Str) | pen
abbrev Pen:=Int × Int × Int
abbrev aC:=List (Option D)
def cG(h:MH)(p:Nat)(s:Pen):Prop:=h[p]?=some (.lst [.int s.1,.int s.2.1,.int s.2.2])
inductive RcT (P:List PV->Prop) (v:PV):Prop
 | mk (xs:List PV) (e:v=.tup xs) (r:P xs):RcT P v
inductive RcL (h:MH) (O:List Nat) (P:List PV->Prop) (v:PV):Prop
 | mk (n:Nat) (xs:List PV) (e:v=.loc n) (no:n∉O) (g:h[n]?=some (.lst xs)) (r:P xs):RcL h O P v
inductive RcO (h:MH) (O:List Nat) (o:MO) (v:PV):Prop
 | mk (n:Nat) (e:v=.loc n) (no:n∉O) (g:h[n]?=some o):RcO h O o v
inductive RcC (P:PV->Prop) (Q:List PV->Prop) (vs:List PV):Prop
 | mk (x:PV) (r:List PV) (e:vs=x::r) (a:P x) (b:Q r):RcC P Q vs
mutual
def Rp(p:Nat)(h:MH)(O:List Nat):D->PV->Prop
 | .non,v=>v=.non
 | .bl b,v=>v=.bl b
 | .int i,v=>v=.int i
 | .str x,v=>v=.str x
 | .tup ds,v=>RcT (Rps p h O ds) v
 | .lst ds,v=>RcL h O (Rps p h O ds) v
 | .dic,v=>RcO h O (.dic []) v
 | .exc c,v=>RcO h O (.exc ⟨c,[]⟩) v
 | .pen,v=>v=.loc p
def Rps(p:Nat)(h:MH)(O:List Nat):List D->List PV->Prop
 | [],vs=>vs=[]
 | d::ds,vs=>RcC (Rp p h O d) (Rps p h O ds) vs
end
def bz{h:MH}{n:Nat}{o:MO}(e:h[n]?=some o):n<h.length:=(qae.mp e).1
structure Mv (O:List Nat) (h:MH) (O':List Nat) (h':MH):Prop where
 keep:∀n:Nat,n<h.length->n∉O->h'[n]?=h[n]?
 new:∀o∈O',o∈O\/h.length<=o
def Mv.get{O O':List Nat}{h h':MH}(s:Mv O h O' h'){n:Nat}{o:MO}(e:h[n]?=some o)(no:n∉O):n∉O'/\h'[n]?=some o:=by
 have hl:=bz e;refine⟨fun z=>?_,(s.keep n hl no).trans e⟩;rcases s.new n z with q|q
 ·exact no q
 ·ext
section
variable {p:Nat} {O O':List Nat} {h h':MH}
def Rp.mv(s:Mv O h O' h')(r:Rp p h O d v):Rp p h' O' d v:=by
 refine D.rec (motive_1:=fun d=>∀v,Rp p h O d v->Rp p h' O' d v) (motive_2:=fun ds=>∀vs,Rps p h O ds vs->Rps p h' O' ds vs)
  (fun _ r=>r) (fun _ _ r=>r) (fun _ _ r=>r) (fun _ _ r=>r) (fun ds i _ r=>?_) (fun ds i _ r=>?_) (fun _ r=>?_) (fun _ _ r=>?_) (fun _ r=>r) (fun _ r=>r) (fun _ _ i j _ r=>?_) d v r
 ·obtain⟨xs,e,r⟩:=r;exact⟨xs,e,i _ r⟩
 ·obtain⟨n,xs,e,no,g,r⟩:=r;exact⟨n,xs,e,(s.get g no).1,(s.get g no).2,i _ r⟩
 ·obtain⟨n,e,no,g⟩:=r;exact⟨n,e,(s.get g no).1,(s.get g no).2⟩
 ·obtain⟨n,e,no,g⟩:=r;exact⟨n,e,(s.get g no).1,(s.get g no).2⟩
 ·obtain⟨x,t,e,a,b⟩:=r;exact⟨x,t,e,i _ a,j _ b⟩
def Rps.mv(s:Mv O h O' h')(r:Rps p h O ds vs):Rps p h' O' ds vs:=by
 induction ds generalizing vs with
 | nil=>exact r
 | cons d ds ih=>obtain⟨x,t,e,a,b⟩:=r;exact⟨x,t,e,a.mv s,ih b⟩
def Rps.length(r:Rps p h O ds vs):vs.length=ds.length:=by
 induction ds generalizing vs with
 | nil=>rw[show vs=[] from r];rfl
 | cons d ds ih=>obtain⟨x,t,e,a,b⟩:=r;rw[e,qaE,qaE,ih b]
def Rps.get{ds:List D}{vs:List PV}{i:Nat}{d:D}(r:Rps p h O ds vs)(g:ds[i]?=some d):∃v,vs[i]?=some v/\Rp p h O d v:=by
 induction ds generalizing vs i with
 | nil=>cases g
 | cons d ds ih =>
  obtain⟨x,t,e,a,b⟩:=r;subst e
  cases i with
  | zero=>cases g;exact⟨x,rfl,a⟩
  | succ i=>have z:=@ih t i b g;exact z
def Rps.app(r:Rps p h O ds vs)(s:Rps p h O es ws):Rps p h O (ds++es) (vs++ws):=by
 induction ds generalizing vs with
 | nil=>rw[show vs=[] from r];exact s
 | cons d ds ih=>obtain⟨x,t,e,a,b⟩:=r;subst e;exact⟨x,t++_,rfl,a,ih b⟩
def Rps.take(n:Nat)(r:Rps p h O ds vs):Rps p h O (ds.take n) (vs.take n):=by
 induction ds generalizing vs n with
 | nil=>rw[show vs=[] from r];cases n <;> rfl
 | cons d ds ih =>
  obtain⟨x,t,e,a,b⟩:=r;subst e
  cases n with
  | zero=>rfl
  | succ n=>exact⟨x,t.take n,rfl,a,ih n b⟩
def Rps.drop(n:Nat)(r:Rps p h O ds vs):Rps p h O (ds.drop n) (vs.drop n):=by
 induction ds generalizing vs n with
 | nil=>rw[show vs=[] from r];cases n <;> rfl
 | cons d ds ih =>
  cases n with
  | zero=>exact r
  | succ n=>obtain⟨x,t,e,a,b⟩:=r;subst e;exact ih n b
end
inductive VwO (p:Nat) (h:MH) (L:Nat) (O:List Nat) (d:D) (v:PV):Prop
 | mk (n:Nat) (xs:List PV) (ds:List D) (e:d=.lst ds) (e':v=.loc n) (o:n∈O) (l:L<=n) (g:h[n]?=some (.lst xs)) (r:Rps p h O ds xs):VwO p h L O d v
def Vw(p:Nat)(h:MH)(L:Nat)(O:List Nat)(d:D)(v:PV):Prop:=Rp p h O d v\/VwO p h L O d v
def Vws(p:Nat)(h:MH)(L:Nat)(O:List Nat):List D->List PV->Prop
 | [],vs=>vs=[]
 | d::ds,vs=>RcC (Vw p h L O d) (Vws p h L O ds) vs
inductive FrsI (p:Nat) (L:Nat) (O:List Nat) (h:MH) (ds:List D) (v:PV):Prop
 | mk (n:Nat) (xs:List PV) (e:v=.loc n) (l:L<=n) (g:h[n]?=some (.lst xs)) (r:Rps p h (n::O) ds xs):FrsI p L O h ds v
def Frs(p:Nat)(L:Nat)(O:List Nat)(h:MH)(d:D)(v:PV):Prop:=∀ds,d=.lst ds->FrsI p L O h ds v
structure KB (p:Nat) (h h':MH):Prop where
 len:h.length<=h'.length
 keep:∀n:Nat,n<h.length->n≠p->h'[n]?=h[n]?
def KB.refl(p:Nat)(h:MH):KB p h h:=⟨qag _,fun _ _ _=>rfl⟩
def KB.trans(a:KB p h h1)(b:KB p h1 h2):KB p h h2 :=
 ⟨qaD a.len b.len,fun n hn hp=>(b.keep n (qaC hn a.len) hp).trans (a.keep n hn hp)⟩
def KB.app(p:Nat)(h g:MH):KB p h (h++g):=⟨by simp,fun n hn _=>qam hn⟩
def KB.mv(k:KB p h h')(hp:p∈O):Mv O h O h' :=
 ⟨fun n hn no=>k.keep n hn fun z=>no (z▸hp),fun o ho=>.inl ho⟩
def cG.app{p:Nat}{h g:MH}{s:Pen}(e:cG h p s):cG (h++g) p s:=by
 unfold cG at *;rw[qam (bz e)];exact e
def Vw.kb{p L:Nat}{h h':MH}{O:List Nat}{d:D}{v:PV}(k:KB p h h')(hp:p∈O)(hL:p<L)(w:Vw p h L O d v):Vw p h' L O d v:=by
 rcases w with r|⟨n,xs,ds,e1,e2,ho,hn,g,r⟩
 ·exact .inl (r.mv (k.mv hp))
 ·exact .inr ⟨n,xs,ds,e1,e2,ho,hn,(k.keep n (bz g) (by ext)).trans g,r.mv (k.mv hp)⟩
inductive PR (α:Type) where
 | ok (a:α) (s:Pen)
 | exc (c:Str) (s:Pen)
 | bad
def PR.bind{α β:Type}(r:PR α)(f:α->Pen->PR β):PR β:=match r with
 | .ok a s=>f a s
 | .exc c s=>.exc c s
 | .bad=>.bad
@[simp] theorem Pb(a:α)(s:Pen)(f:α->Pen->PR β):(PR.ok a s).bind f=f a s:=rfl
@[simp] theorem Pe(c:Str)(s:Pen)(f:α->Pen->PR β):(PR.exc c s).bind f=.exc c s:=rfl
@[simp] theorem Pd(f:α->Pen->PR β):(PR.bad:PR α).bind f=.bad:=rfl
def PR.of{α:Type}(o:Option α)(s:Pen):PR α:=match o with
 | some a=>.ok a s
 | none=>.bad
@[simp] theorem Pf(a:α)(s:Pen):PR.of (some a) s=.ok a s:=rfl
@[simp] theorem Pn(s:Pen):PR.of (none:Option α) s=.bad:=rfl
inductive OkE {α β:Type} (p:Nat) (h:MH) (o:Out β) (a:α) (s:Pen) (R:MH->α->β->Prop):Prop
 | mk (b:β) (h':MH) (e:o=.ok b h') (k:KB p h h') (n:cG h' p s) (r:R h' a b):OkE p h o a s R
inductive OkX {β:Type} (p:Nat) (h:MH) (o:Out β) (c:Str) (s:Pen):Prop
 | mk (h':MH) (e:o=.exc ⟨c,[]⟩ h') (k:KB p h h') (n:cG h' p s):OkX p h o c s
def Ok{α β:Type}(p:Nat)(h:MH)(o:Out β)(r:PR α)(R:MH->α->β->Prop):Prop:=match r with
 | .ok a s=>OkE p h o a s R
 | .exc c s=>OkX p h o c s
 | .bad=>True
def Ok.bind{α β γ δ:Type}{p:Nat}{h:MH}{o:Out β}{r:PR α}{R:MH->α->β->Prop}{f:β->MH->Out δ}{g:α->Pen->PR γ}{S:MH->γ->δ->Prop}(q:Ok p h o r R)
  (k:∀a b h1 s,KB p h h1->cG h1 p s->R h1 a b->Ok p h1 (f b h1) (g a s) S):Ok p h (o.bind f) (r.bind g) S:=by
 cases r with
 | ok a s =>
  obtain⟨b,h1,rfl,kb,pn,rr⟩:=q
  have:=k a b h1 s kb pn rr
  rw[Out.bind_ok,Pb]
  cases e:g a s with
  | ok c s2 =>
   rw[e] at this;obtain⟨d,h2,e2,kb2,pn2,r2⟩:=this;exact⟨d,h2,e2,kb.trans kb2,pn2,r2⟩
  | exc c s2 =>
   rw[e] at this;obtain⟨h2,e2,kb2,pn2⟩:=this;exact⟨h2,e2,kb.trans kb2,pn2⟩
  | bad=>trivial
 | exc c s =>
  obtain⟨h1,rfl,kb,pn⟩:=q;exact⟨h1,rfl,kb,pn⟩
 | bad=>trivial
def Ok.imp{α β:Type}{p:Nat}{h:MH}{o:Out β}{r:PR α}{R S:MH->α->β->Prop}(q:Ok p h o r R)(k:∀h' a b,KB p h h'->R h' a b->S h' a b):Ok p h o r S:=by
 cases r with
 | ok a s=>obtain⟨b,h1,e,kb,pn,rr⟩:=q;exact⟨b,h1,e,kb,pn,k _ _ _ kb rr⟩
 | exc c s=>exact q
 | bad=>trivial
structure SR (p:Nat) (h:MH) (L:Nat) (O:List Nat) (ws:List Nat) (σ:PSt) (env:aC):Prop where
 len:σ.length=env.length
 fz:∀i d,env[i]?=some (some d)->i∉ws->∃v,σ[i]?=some (some v)/\Rp p h O d v
 ow:∀i d,env[i]?=some (some d)->i∈ws->∃n xs ds,d=.lst ds/\σ[i]?=some (some (.loc n))/\n∈O/\L<=n/\h[n]?=some (.lst xs)/\Rps p h O ds xs
structure Cx (p:Nat) (h:MH) (L:Nat) (B O:List Nat) (ws:List Nat) (σ:PSt) (env:aC) (s:Pen):Prop where
 bd:∀o∈O,o<h.length
 sub:∀o∈B,o∈O
 bb:∀o∈B,o<L
 pb:p∈B
 hL:L<=h.length
 pen:cG h p s
 sr:SR p h L O ws σ env
section
variable {p L:Nat} {h h':MH} {B O ws:List Nat} {σ:PSt} {env:aC} {s s':Pen}
def Cx.pO(c:Cx p h L B O ws σ env s):p∈O:=c.sub p c.pb
def Cx.pL(c:Cx p h L B O ws σ env s):p<L:=c.bb p c.pb
def SR.mv{O':List Nat}(m:Mv O h O' h')(hs:∀o∈O,o∈O')(ho:∀n:Nat,n<h.length->L<=n->n∈O->h'[n]?=h[n]?)(r:SR p h L O ws σ env):SR p h' L O' ws σ env :=
 ⟨r.len,fun i d e hi=>let ⟨v,e1,q⟩:=r.fz i d e hi;⟨v,e1,q.mv m⟩,fun i d e hi=>let ⟨n,xs,ds,e1,e2,a,b,g,q⟩:=r.ow i d e hi;⟨n,xs,ds,e1,e2,hs n a,b,(ho n (bz g) b a).trans g,q.mv m⟩⟩
def Cx.kb(c:Cx p h L B O ws σ env s)(k:KB p h h')(pn:cG h' p s'):Cx p h' L B O ws σ env s' :=
 ⟨fun o ho=>qaC (c.bd o ho) k.len,c.sub,c.bb,c.pb,qaD c.hL k.len,pn,c.sr.mv (k.mv c.pO) (fun _ h=>h) fun n hn hl _=>k.keep n hn (by have:=c.pL;ext)⟩
def Vw.base(w:Vw p h L O d v)(sub:∀o∈B,o∈O)(bb:∀o∈B,o<L):Rp p h B d v:=by
 have m:Mv O h B h:=⟨fun _ _ _=>rfl,fun o ho=>.inl (sub o ho)⟩;rcases w with r|⟨n,xs,ds,rfl,rfl,_,hn,g,r⟩
 ·exact r.mv m
 ·exact⟨n,xs,rfl,fun z=>by have:=bb n z;ext,g,r.mv m⟩
def Frs.rp(f:Frs p L' O h d v)(bd:∀o∈O,o<L')(e:d=.lst ds):Rp p h O d v:=by
 obtain⟨n,xs,e1,hn,g,r⟩:=f ds e;subst e;exact⟨n,xs,e1,fun z=>by have:=bd n z;ext,g,r.mv ⟨fun _ _ _=>rfl,fun o ho=>.inl (qai _ ho)⟩⟩
def Frs.le(f:Frs p L2 O h d v)(hl:L1<=L2):Frs p L1 O h d v:=fun ds e =>
 let ⟨n,xs,e1,hn,g,r⟩:=f ds e;⟨n,xs,e1,qaD hl hn,g,r⟩
end
abbrev Bd(h:MH)(O:List Nat):Prop:=∀o∈O,o<h.length
inductive Gv (p:Nat) (h:MH) (O:List Nat) (fr:Bool) (o:Out PV) (d:D):Prop
 | mk (v:PV) (g:MH) (e:o=.ok v (h++g)) (r:Rp p (h++g) O d v) (f:fr=true->Frs p h.length O (h++g) d v):Gv p h O fr o d
structure Op1 where
 m:PV->MH->Out PV
 p:D->Option D
 fr:Bool
 ok:∀{q h L O a x d},Bd h O->Vw q h L O a x->p a=some d->Gv q h O fr (m x h) d
structure Op2 where
 m:PV->PV->MH->Out PV
 p:D->D->Option D
 fr:Bool
 ok:∀{q h L O a x b y d},Bd h O->Vw q h L O a x->Vw q h L O b y->p a b=some d->Gv q h O fr (m x y h) d
structure OpN where
 k:List PV->MH->Out PV
 p:List D->Option D
 fr:Bool
 ok:∀{q h L O as xs d},Bd h O->Vws q h L O as xs->p as=some d->Gv q h O fr (k xs h) d
structure Fn where
 m:List PV->MH->Out PV
 p:List D->Pen->PR D
 fr:Bool
 ok:∀{q h O vs ds s},Bd h O->q∈O->cG h q s->Rps q h O ds vs->Ok q h (m vs h) (p ds s) (fun h' d v=>Rp q h' O d v/\(fr=true->Frs q h.length O h' d v))
section
variable {p:Nat} {h h':MH} {O O':List Nat}
end
structure Xe (ws:List Nat) where
 m:Mx PV
 p:aC->Pen->PR D
 fz:Bool
 fr:Bool
 ok:∀{q h L B O σ env s},Cx q h L B O ws σ env s->Ok q h (m σ h) (p env s) (fun h' d v=>Vw q h' L O d v/\(fz=true->Rp q h' O d v)/\(fr=true->Frs q h.length O h' d v))
structure Xs (ws:List Nat) where
 m:Mx (List PV)
 p:aC->Pen->PR (List D)
 fz:Bool
 ok:∀{q h L B O σ env s},Cx q h L B O ws σ env s->Ok q h (m σ h) (p env s) (fun h' ds vs=>Vws q h' L O ds vs/\(fz=true->Rps q h' O ds vs))
structure Xt (ws:List Nat) where
 m:Mx Bool
 p:aC->Pen->PR Bool
 ok:∀{q h L B O σ env s},Cx q h L B O ws σ env s->Ok q h (m σ h) (p env s) (fun _ a b=>a=b)
noncomputable section
variable {ws:List Nat}
def give{q L:Nat}{h h2:MH}{O:List Nat}{o:Out PV}{d:D}{s:Pen}{fr:Bool}(le:h.length<=h2.length)(pn:cG h2 q s)(g:Gv q h2 O fr o d) :
  Ok q h2 o (.ok d s) (fun h' d v=>Vw q h' L O d v/\(true=true->Rp q h' O d v)/\(fr=true->Frs q h.length O h' d v)):=by
 obtain⟨v,g,e,r,f⟩:=g;exact⟨v,h2++g,e,KB.app _ _ _,pn.app,.inl r,fun _=>r,fun z=>(f z).le le⟩
def ac(i:Nat):Xe ws where
 m:=ae i
 p:=fun env s=>match env[i]? with
  | some (some d)=>.ok d s
  | _=>.bad
 fz:=!ws.contains i
 fr:=false
 ok {q h L B O σ env s} c:=by
  show Ok q h _ (match env[i]? with | some (some d)=>PR.ok d s | _=>.bad) _
  cases e:env[i]? with
  | none=>trivial
  | some o =>
   cases o with
   | none=>trivial
   | some d =>
    by_cases z:i∈ws
    ·obtain⟨n,xs,ds,e1,e2,a,b,g,r⟩:=c.sr.ow i d e z;exact⟨.loc n,h,by simp[ae,e2],KB.refl _ _,c.pen,.inr ⟨n,xs,ds,e1,rfl,a,b,g,r⟩,fun f=>by simp[z] at f,fun f=>by simp at f⟩
    ·obtain⟨v,e1,r⟩:=c.sr.fz i d e z;exact⟨v,h,by simp[ae,e1],KB.refl _ _,c.pen,.inl r,fun _=>r,fun f=>by simp at f⟩
inductive Cn where
 | non | bl (b:Bool) | int (i:Int) | str (x:Str)
def Cn.v:Cn->PV
 | .non=>.non
 | .bl b=>.bl b
 | .int i=>.int i
 | .str x=>.str x
def Cn.d:Cn->D
 | .non=>.non
 | .bl b=>.bl b
 | .int i=>.int i
 | .str x=>.str x
def Cn.rp(c:Cn){q:Nat}{h:MH}{O:List Nat}:Rp q h O c.d c.v:=by cases c <;> rfl
def xC(k:Cn):Xe ws where
 m:=mC k.v
 p:=fun _ s=>.ok k.d s
 fz:=true
 fr:=true
 ok {q h L B O σ env s} c:=⟨k.v,h,rfl,KB.refl _ _,c.pen,.inl k.rp,fun _=>k.rp,fun _ ds e=>by cases k <;> cases e⟩
def aj(o:Op2)(a b:Xe ws):Xe ws where
 m:=ah o.m a.m b.m
 p:=fun env s=>(a.p env s).bind fun x s1=>(b.p env s1).bind fun y s2=>.of (o.p x y) s2
 fz:=true
 fr:=o.fr
 ok {q h L B O σ env s} c:=by
  refine (a.ok c).bind fun x v h1 s1 k1 p1 ⟨w1,_,_⟩=>?_;refine (b.ok (c.kb k1 p1)).bind fun y w h2 s2 k2 p2 ⟨w2,_,_⟩=>?_
  cases e:o.p x y with
  | none=>trivial
  | some d =>
   have c2:=(c.kb k1 p1).kb k2 p2;obtain⟨u,g,e1,r,f⟩:=o.ok c2.bd (w1.kb k2 c.pO c.pL) w2 e;exact give (qaD k1.len k2.len) p2 ⟨u,g,by rw[e1];rfl,r,f⟩
def xUn(o:Op1)(a:Xe ws):Xe ws where
 m:=mUn o.m a.m
 p:=fun env s=>(a.p env s).bind fun x s1=>.of (o.p x) s1
 fz:=true
 fr:=o.fr
 ok {q h L B O σ env s} c:=by
  refine (a.ok c).bind fun x v h1 s1 k1 p1 ⟨w1,_,_⟩=>?_
  cases e:o.p x with
  | none=>trivial
  | some d =>
   obtain⟨u,g,e1,r,f⟩:=o.ok (c.kb k1 p1).bd w1 e;exact give k1.len p1 ⟨u,g,by rw[e1];rfl,r,f⟩
def xNil:Xs ws where
 m:=mNil
 p:=fun _ s=>.ok [] s
 fz:=true
 ok {q h L B O σ env s} c:=⟨[],h,rfl,KB.refl _ _,c.pen,rfl,fun _=>rfl⟩
def ab(a:Xe ws)(r:Xs ws):Xs ws where
 m:=af a.m r.m
 p:=fun env s=>(a.p env s).bind fun x s1=>(r.p env s1).bind fun y s2=>.ok (x::y) s2
 fz:=a.fz && r.fz
 ok {q h L B O σ env s} c:=by
  refine (a.ok c).bind fun x v h1 s1 k1 p1 ⟨w1,z1,_⟩=>?_;refine (r.ok (c.kb k1 p1)).bind fun y w h2 s2 k2 p2 ⟨w2,z2⟩=>?_;refine⟨v::w,h2,rfl,KB.refl _ _,p2,⟨v,w,rfl,w1.kb k2 c.pO c.pL,w2⟩,fun f=>?_⟩;rw[qbS] at f;exact⟨v,w,rfl,(z1 f.1).mv (k2.mv c.pO),z2 f.2⟩
def xCb(o:OpN)(a:Xs ws):Xe ws where
 m:=fun σ h=>(a.m σ h).bind o.k
 p:=fun env s=>(a.p env s).bind fun x s1=>.of (o.p x) s1
 fz:=true
 fr:=o.fr
 ok {q h L B O σ env s} c:=by
  refine (a.ok c).bind fun x v h1 s1 k1 p1 ⟨w1,_⟩=>?_
  cases e:o.p x with
  | none=>trivial
  | some d=>exact give k1.len p1 (o.ok (c.kb k1 p1).bd w1 e)
def aF(f:Fn)(a:Xs ws)(hz:a.fz=true:=by exact ys rfl):Xe ws where
 m:=aK f.m a.m
 p:=fun env s=>(a.p env s).bind f.p
 fz:=true
 fr:=f.fr
 ok {q h L B O σ env s} c:=by
  refine (a.ok c).bind fun x v h1 s1 k1 p1 ⟨_,z⟩=>?_;have c1:=c.kb k1 p1;refine (f.ok c1.bd c1.pO p1 (z hz)).imp fun h' d v kb ⟨r,fr⟩=>⟨.inl r,fun _=>r,fun z=>(fr z).le k1.len⟩
def eE:100000<=sizeLine:=by decide
def lq(bd:Bd h O)(r:Rps q h O ds xs)(hl:ds.length<=100000):Gv q h O true (newL xs h) (.lst ds):=by
 have hx:=r.length;have m:Mv O h O (h++[MO.lst xs]):=⟨fun n hn _=>qam hn,fun o ho=>.inl ho⟩
 have m2:Mv O h (h.length::O) (h++[MO.lst xs]):=⟨fun n hn _=>qam hn,fun o ho=>by
  rcases qar.mp ho with z|z
  ·exact .inr (by ext)
  ·exact .inl z⟩
 have g:(h++[MO.lst xs])[h.length]?=some (.lst xs):=by simp
 refine⟨.loc h.length,[.lst xs],?_,⟨_,_,rfl,fun z=>by have:=bd _ z;ext,g,r.mv m⟩,fun _ ds' e=>?_⟩
 ·unfold newL;rw[qaf];have:=eE;ext
 ·cases e;exact⟨_,_,rfl,qag _,g,r.mv m2⟩
def u3(r:Rps q h O ds xs)(hl:ds.length<=100000):Gv q h O true (newT xs h) (.tup ds):=by
 have hx:=r.length;refine⟨.tup xs,[],?_,?_,fun _ ds' e=>by cases e⟩
 ·unfold newT;rw[qaf (by have:=eE;ext)];simp
 ·simpa using ⟨xs,rfl,r⟩
def bI(a:Xs ws)(hz:a.fz=true:=by exact ys rfl):Xe ws where
 m:=bw a.m
 p:=fun env s=>(a.p env s).bind fun x s1=>if x.length<=100000 then .ok (.lst x) s1 else .bad
 fz:=true
 fr:=true
 ok {q h L B O σ env s} c:=by
  refine (a.ok c).bind fun x v h1 s1 k1 p1 ⟨_,z⟩=>?_;by_cases hl:x.length<=100000
  ·rw[qaf hl];exact give k1.len p1 (lq (c.kb k1 p1).bd (z hz) hl)
  ·rw[qak hl];trivial
def bQ(a:Xs ws)(hz:a.fz=true:=by exact ys rfl):Xe ws where
 m:=dE a.m
 p:=fun env s=>(a.p env s).bind fun x s1=>if x.length<=100000 then .ok (.tup x) s1 else .bad
 fz:=true
 fr:=true
 ok {q h L B O σ env s} c:=by
  refine (a.ok c).bind fun x v h1 s1 k1 p1 ⟨_,z⟩=>?_;by_cases hl:x.length<=100000
  ·rw[qaf hl];exact give k1.len p1 (u3 (z hz) hl)
  ·rw[qak hl];trivial
def xDic:Xe ws where
 m:=mDic
 p:=fun _ s=>.ok .dic s
 fz:=true
 fr:=true
 ok {q h L B O σ env s} c:=by
  have r:Rp q (h++[MO.dic []]) O .dic (.loc h.length):=⟨_,rfl,fun z=>by have:=c.bd _ z;ext,by simp⟩;exact⟨.loc h.length,h++[.dic []],rfl,KB.app _ _ _,c.pen.app,.inl r,fun _=>r,fun _ ds e=>by cases e⟩
def Vw.bl(w:Vw q h L O (.bl b) v):v=.bl b:=by
 rcases w with r|⟨n,xs,ds,e,_⟩
 ·exact r
 ·cases e
def PR.bl(r:PR D):PR Bool:=r.bind fun d s=>match d with
 | .bl b=>.ok b s
 | _=>.bad
@[simp] theorem PR.bl_ok:(PR.ok (D.bl b) s).bl=.ok b s:=rfl
def xB(a:Xe ws):Xt ws where
 m:=mB a.m
 p:=fun env s=>(a.p env s).bl
 ok {q h L B O σ env s} c:=by
  refine (a.ok c).bind fun x v h1 s1 k1 p1 ⟨w,_,_⟩=>?_
  cases x with
  | bl b=>rw[w.bl];exact⟨b,h1,rfl,KB.refl _ _,p1,rfl⟩
  | _=>trivial
def jD(a:Xt ws):Xt ws where
 m:=fC a.m
 p:=fun env s=>(a.p env s).bind fun b s=>.ok (!b) s
 ok {q h L B O σ env s} c:=(a.ok c).bind fun x v h1 s1 k1 p1 e=>⟨!v,h1,rfl,KB.refl _ _,p1,by rw[e]⟩
def xAnd(a b:Xt ws):Xt ws where
 m:=mAnd a.m b.m
 p:=fun env s=>(a.p env s).bind fun x s=>if x=true then b.p env s else .ok false s
 ok {q h L B O σ env s} c:=(a.ok c).bind fun x v h1 s1 k1 p1 e=>by
  subst e
  cases x with
  | true=>simpa using b.ok (c.kb k1 p1)
  | false=>exact⟨false,h1,rfl,KB.refl _ _,p1,rfl⟩
def xOr(a b:Xt ws):Xt ws where
 m:=mOr a.m b.m
 p:=fun env s=>(a.p env s).bind fun x s=>if x=true then .ok true s else b.p env s
 ok {q h L B O σ env s} c:=(a.ok c).bind fun x v h1 s1 k1 p1 e=>by
  subst e
  cases x with
  | false=>simpa using b.ok (c.kb k1 p1)
  | true=>exact⟨true,h1,rfl,KB.refl _ _,p1,rfl⟩
def xTrue:Xt ws where
 m:=mTrue
 p:=fun _ s=>.ok true s
 ok {q h L B O σ env s} c:=⟨true,h,rfl,KB.refl _ _,c.pen,rfl⟩
def Ok.after{α β:Type}{p:Nat}{h h1:MH}{o:Out β}{r:PR α}{R:MH->α->β->Prop}(k:KB p h h1)(q:Ok p h1 o r R):Ok p h o r R:=by
 cases r with
 | bad=>trivial
 | exc c2 s2=>obtain⟨h2,a1,a2,a3⟩:=q;exact⟨h2,a1,k.trans a2,a3⟩
 | ok d2 s2=>obtain⟨v2,h2,a1,a2,a3,a4⟩:=q;exact⟨v2,h2,a1,k.trans a2,a3,a4⟩
def giveB(pn:cG h q s):Ok q h (.ok (.bl b) h) (.ok (.bl b) s) (fun h' d v=>Vw q h' L O d v/\(true=true->Rp q h' O d v)/\(true=true->Frs q l O h' d v)) :=
 ⟨.bl b,h,rfl,KB.refl _ _,pn,.inl rfl,fun _=>rfl,fun _ ds e=>by cases e⟩
def blOnly(k:Ok q h o r (fun h' d v=>Vw q h' L O d v/\(fz=true->Rp q h' O d v)/\(fr=true->Frs q l' O h' d v))) :
  Ok q h o (r.bl.bind fun b s=>.ok (.bl b) s) (fun h' d v=>Vw q h' L O d v/\(true=true->Rp q h' O d v)/\(true=true->Frs q l O h' d v)):=by
 cases r with
 | bad=>trivial
 | exc c s=>exact k
 | ok d s =>
  obtain⟨v,h',e,kb,pn,w,_,_⟩:=k
  cases d with
  | bl b=>exact⟨v,h',e,kb,pn,w,fun _=>by rw[w.bl];rfl,fun _ ds e=>by cases e⟩
  | _=>trivial
def nP(a b:Xe ws):Xe ws where
 m:=jE a.m b.m
 p:=fun env s=>(a.p env s).bl.bind fun x s=>if x=true then (b.p env s).bl.bind fun y s=>.ok (.bl y) s else .ok (.bl false) s
 fz:=true
 fr:=true
 ok {q h L B O σ env s} c:=by
  have k:=a.ok c;show Ok q h ((a.m σ h).bind _) _ _
  cases e:a.p env s with
  | bad=>trivial
  | exc x s1 =>
   rw[e] at k;obtain⟨h1,e1,k1,p1⟩:=k;rw[e1];exact⟨h1,rfl,k1,p1⟩
  | ok d s1 =>
   rw[e] at k;obtain⟨v,h1,e1,k1,p1,w,_,_⟩:=k
   cases d with
   | bl x =>
    rw[w.bl] at e1;rw[e1]
    cases x with
    | true =>
     exact Ok.after k1 (blOnly (l:=h.length) (b.ok (c.kb k1 p1)))
    | false =>
     obtain⟨v2,h2,a1,a2,a3,a4⟩:=giveB (L:=L) (l:=h.length) (O:=O) (b:=false) p1;exact⟨v2,h2,a1,k1.trans a2,a3,a4⟩
   | _=>trivial
def xNotV(a:Xe ws):Xe ws where
 m:=rl a.m
 p:=fun env s=>(a.p env s).bl.bind fun x s=>.ok (.bl (!x)) s
 fz:=true
 fr:=true
 ok {q h L B O σ env s} c:=by
  have k:=a.ok c;show Ok q h ((a.m σ h).bind _) _ _
  cases e:a.p env s with
  | bad=>trivial
  | exc x s1 =>
   rw[e] at k;obtain⟨h1,e1,k1,p1⟩:=k;rw[e1];exact⟨h1,rfl,k1,p1⟩
  | ok d s1 =>
   rw[e] at k;obtain⟨v,h1,e1,k1,p1,w,_,_⟩:=k
   cases d with
   | bl x =>
    rw[w.bl] at e1;rw[e1];obtain⟨v2,h2,a1,a2,a3,a4⟩:=giveB (L:=L) (l:=h.length) (O:=O) (b:=!x) p1;exact⟨v2,h2,a1,k1.trans a2,a3,a4⟩
   | _=>trivial
def rR(f g:Op2)(a b e:Xe ws):Xe ws where
 m:=gJ f.m g.m a.m b.m e.m
 p:=fun env s=>(a.p env s).bind fun x s1=>(b.p env s1).bind fun y s2=>match f.p x y with
  | some (.bl t)=>if t=true then (e.p env s2).bind fun z s3=>.of (g.p y z) s3 else .ok (.bl false) s2
  | _=>.bad
 fz:=true
 fr:=false
 ok {q h L B O σ env s} c:=by
  refine (a.ok c).bind fun x v h1 s1 k1 p1 ⟨w1,_,_⟩=>?_;refine (b.ok (c.kb k1 p1)).bind fun y w h2 s2 k2 p2 ⟨w2,_,_⟩=>?_;have c2:=(c.kb k1 p1).kb k2 p2
  cases e1:f.p x y with
  | none=>trivial
  | some d =>
   cases d with
   | bl t =>
    obtain⟨u,gg,e2,r,_⟩:=f.ok c2.bd (w1.kb k2 c.pO c.pL) w2 e1;have hu:u=.bl t:=r;subst hu;rw[e2];have k3:=KB.app q h2 gg;have c3:=c2.kb k3 p2.app
    cases t with
    | true =>
     refine Ok.after k3 ?_;show Ok q (h2++gg) ((e.m σ (h2++gg)).bind _) _ _;refine (e.ok c3).bind fun z u h3 s3 k4 p4 ⟨w3,_,_⟩=>?_
     cases e4:g.p y z with
     | none=>trivial
     | some d =>
      obtain⟨u2,g2,e5,r2,_⟩:=g.ok (c3.kb k4 p4).bd ((w2.kb k3 c.pO c.pL).kb k4 c.pO c.pL) w3 e4;refine⟨u2,h3++g2,by rw[e5];rfl,KB.app _ _ _,p4.app,.inl r2,fun _=>r2,fun f=>by simp at f⟩
    | false=>exact⟨.bl false,h2++gg,rfl,k3,p2.app,.inl rfl,fun _=>rfl,fun f=>by simp at f⟩
   | _=>trivial
end
structure Xi (ws:List Nat) where
 m:Mx MIt
 p:aC->Pen->PR (List D)
 fz:Bool
 ok:∀{q h L B O σ env s},Cx q h L B O ws σ env s->Ok q h (m σ h) (p env s) (fun h' ds it=>Rps q h' O ds it.xs/\(∀g∈it.gd,h'[g.1]?=some (.lst g.2)/\g.1≠q)/\(fz=true->∀g∈it.gd,g.1∉O))
inductive GI (q:Nat) (h:MH) (O:List Nat) (ds as:List D) (xs:List PV) (o:Out MIt):Prop
 | mk (it:MIt) (e:o=.ok it h) (r:Rps q h O ds it.xs) (g:∀g∈it.gd,h[g.1]?=some (.lst g.2)/\g.1≠q) (z:Rps q h O as xs->∀g∈it.gd,g.1∉O):GI q h O ds as xs o
structure OpI where
 k:List PV->MH->Out MIt
 p:List D->Option (List D)
 ok:∀{q h L O as xs ds},q<L->q∈O->Bd h O->Vws q h L O as xs->p as=some ds->GI q h O ds as xs (k xs h)
def D.items:D->Option (List D)
 | .lst ds=>some ds
 | .tup ds=>some ds
 | _=>none
@[simp] theorem kL:(D.lst ds).items=some ds:=rfl
@[simp] theorem items_tup:(D.tup ds).items=some ds:=rfl
noncomputable section
variable {ws:List Nat}
def cX(o:OpI)(a:Xs ws):Xi ws where
 m:=fun σ h=>(a.m σ h).bind o.k
 p:=fun env s=>(a.p env s).bind fun x s1=>.of (o.p x) s1
 fz:=a.fz
 ok {q h L B O σ env s} c:=by
  refine (a.ok c).bind fun x v h1 s1 k1 p1 ⟨w,z⟩=>?_
  cases e:o.p x with
  | none=>trivial
  | some ds =>
   obtain⟨it,e1,r,g1,g2⟩:=o.ok c.pL c.pO (c.kb k1 p1).bd w e;exact⟨it,h1,e1,KB.refl _ _,p1,r,g1,fun f=>g2 (z f)⟩
def Vw.seq(hq:q<L)(hO:q∈O)(w:Vw q h L O d v)(e:d.items=some ds):∃xs gd,itAny v h=.ok ⟨xs,gd⟩ h/\Rps q h O ds xs/\(∀g∈gd,h[g.1]?=some (.lst g.2)/\g.1≠q)/\(Rp q h O d v->∀g∈gd,g.1∉O):=by
 have one:∀n xs,h[n]?=some (MO.lst xs)->n≠q->(∀g∈[(n,xs)],h[g.1]?=some (MO.lst g.2)/\g.1≠q):=fun n xs g hn y hy=>by
  have:y=(n,xs):=by simpa using hy
  subst this;exact⟨g,hn⟩
 cases d with
 | lst es =>
  have:es=ds:=by simpa [D.items] using e
  subst this;rcases w with ⟨n,xs,e1,no,g,r⟩|⟨n,xs,es',e0,e1,_,hn,g,r⟩
  ·subst e1;refine⟨xs,[(n,xs)],by simp only[itAny,g],r,one n xs g (fun z=>no (z▸hO)),fun _ y hy=>?_⟩
   have:y=(n,xs):=by simpa using hy
   subst this;exact no
  ·cases e0;subst e1;refine⟨xs,[(n,xs)],by simp only[itAny,g],r,one n xs g (by ext),fun ⟨n',xs',e1,no,_,_⟩ y hy=>?_⟩
   have:y=(n,xs):=by simpa using hy
   subst this;cases e1;exact no
 | tup es =>
  have:es=ds:=by simpa [D.items] using e
  subst this;rcases w with ⟨xs,e1,r⟩|⟨n,xs,es',e0,_⟩
  ·subst e1;exact⟨xs,[],rfl,r,(fun _ hy=>nomatch hy),fun _ _ hy=>nomatch hy⟩
  ·cases e0
 | _=>simp[D.items] at e
def bK(a:Xe ws):Xi ws where
 m:=cm a.m
 p:=fun env s=>(a.p env s).bind fun x s1=>.of x.items s1
 fz:=a.fz
 ok {q h L B O σ env s} c:=by
  refine (a.ok c).bind fun x v h1 s1 k1 p1 ⟨w,z,_⟩=>?_
  cases e:x.items with
  | none=>trivial
  | some ds =>
   obtain⟨xs,gd,e1,r,g1,g2⟩:=w.seq c.pL c.pO e;exact⟨⟨xs,gd⟩,h1,e1,KB.refl _ _,p1,r,g1,fun f=>g2 (z f)⟩
structure Xg (ws:List Nat) where
 m:Mg
 p:D->aC->Option aC
 ok:∀{q h L O σ env d v env'},SR q h L O ws σ env->Rp q h O d v->p d env=some env'->∃σ',m v σ h=.nx σ' h/\SR q h L O ws σ' env'/\∀i∈ws,σ'[i]?=σ[i]?/\env'[i]?=env[i]?
structure Xgs (ws:List Nat) where
 m:Mgs
 p:List D->aC->Option aC
 ok:∀{q h L O σ env ds vs env'},SR q h L O ws σ env->Rps q h O ds vs->p ds env=some env'->∃σ',m vs σ h=.nx σ' h/\SR q h L O ws σ' env'/\∀i∈ws,σ'[i]?=σ[i]?/\env'[i]?=env[i]?
def SR.set(r:SR q h L O ws σ env)(hi:i∉ws)(w:Rp q h O d v):SR q h L O ws (σ.set i (some v)) (env.set i (some d))/\∀j∈ws,(σ.set i (some v))[j]?=σ[j]?/\(env.set i (some d))[j]?=env[j]?:=by
 have ne:∀j∈ws,i≠j:=fun j hj z=>hi (z▸hj);refine⟨⟨by simp[r.len],fun j e hj hw=>?_,fun j e hj hw=>?_⟩,fun j hj=>⟨qan (ne j hj),qan (ne j hj)⟩⟩
 ·by_cases z:i=j
  ·subst z;have hl:i<env.length:=by
    have:=(qae.mp hj).1;simpa using this
   rw[qaF hl] at hj;cases hj;exact⟨v,qaF (by rw[r.len];exact hl),w⟩
  ·rw[qan z] at hj;obtain⟨u,e1,q1⟩:=r.fz j e hj hw;exact⟨u,by rw[qan z];exact e1,q1⟩
 ·rw[qan (ne j hw)] at hj;obtain⟨n,xs,ds,e1,e2,rest⟩:=r.ow j e hj hw;exact⟨n,xs,ds,e1,by rw[qan (ne j hw)];exact e2,rest⟩
def xNm(i:Nat)(hi:ws.contains i=false:=by exact ys rfl):Xg ws where
 m:=gNm i
 p:=fun d env=>some (env.set i (some d))
 ok {q h L O σ env d v env'} r w e:=by
  cases e;have hi':i∉ws:=fun z=>by simp[z] at hi
  obtain⟨a,b⟩:=r.set hi' w;exact⟨_,rfl,a,b⟩
def xGl:Xgs ws where
 m:=gNl
 p:=fun ds env=>match ds with
  | []=>some env
  | _=>none
 ok {q h L O σ env ds vs env'} r w e:=by
  cases ds with
  | nil =>
   cases e
   have:vs=[]:=w
   subst this;exact⟨σ,rfl,r,fun _ _=>⟨rfl,rfl⟩⟩
  | cons _ _=>cases e
def xGc(a:Xg ws)(t:Xgs ws):Xgs ws where
 m:=gCn a.m t.m
 p:=fun ds env=>match ds with
  | d::ds=>(a.p d env).bind fun env1=>t.p ds env1
  | []=>none
 ok {q h L O σ env ds vs env'} r w e:=by
  cases ds with
  | nil=>cases e
  | cons d ds =>
   obtain⟨x,y,rfl,r1,r2⟩:=w;dsimp only at e
   cases e1:a.p d env with
   | none=>rw[e1] at e;cases e
   | some env1 =>
    rw[e1] at e;obtain⟨σ1,f1,s1,k1⟩:=a.ok r r1 e1;obtain⟨σ2,f2,s2,k2⟩:=t.ok s1 r2 e;exact⟨σ2,by show (a.m x σ h).then (t.m y)=_;rw[f1];exact f2,s2,fun i hi=>⟨(k2 i hi).1.trans (k1 i hi).1,(k2 i hi).2.trans (k1 i hi).2⟩⟩
def xGp(t:Xgs ws)(n:Nat):Xg ws where
 m:=gTp t.m n
 p:=fun d env=>match d with
  | .tup ds=>if ds.length=n then t.p ds env else none
  | _=>none
 ok {q h L O σ env d v env'} r w e:=by
  cases d with
  | tup ds =>
   obtain⟨xs,rfl,w⟩:=w;dsimp only at e;by_cases z:ds.length=n
   ·rw[qaf z] at e;obtain⟨σ',a,b⟩:=t.ok r w e;exact⟨σ',by show (if xs.length=n then t.m xs σ h else .bad)=_;rw[qaf (by rw[w.length];exact z)];exact a,b⟩
   ·rw[qak z] at e;cases e
  | _=>cases e
def cws(nv:Nat)(fm ws:List Nat):List Nat:=((List.range fm.length).filter fun j=>ws.contains (fm.getD j 0)).map (nv+·)
def cenv(nv:Nat)(fm:List Nat)(env:aC):aC:=List.replicate nv none++fm.map fun i=>(env[i]?).getD none
def PR.ne{α:Type}(r:PR α):PR α:=match r with
 | .exc _ _=>.bad
 | r=>r
@[simp] theorem PR.ne_ok(a:α)(s:Pen):(PR.ok a s).ne=.ok a s:=rfl
def dZ(g:D->aC->Option aC)(t:aC->Pen->PR Bool)(e:aC->Pen->PR D):List D->aC->Pen->PR (List D)
 | [],_,s=>.ok [] s
 | d::ds,env,s=>match g d env with
  | none=>.bad
  | some env1=>(t env1 s).bind fun b s1=>if b=true then (e env1 s1).bind fun x s2=>(dZ g t e ds env1 s2).bind fun r s3=>.ok (x::r) s3 else dZ g t e ds env1 s1
def cget{nv:Nat}{fm:List Nat}{α:Type}{env:List (Option α)}{i:Nat}{d:α}(e:(List.replicate nv none++fm.map fun i=>(env[i]?).getD none)[i]?=some (some d)):∃j k,i=nv+j/\fm[j]?=some k/\env[k]?=some (some d):=by
 by_cases z:i<nv
 ·rw[qam (by simpa using z)] at e;simp[z] at e
 ·rw[qaA (by simp;ext)] at e;simp only[qbI,qao] at e
  cases ek:fm[i - nv]? with
  | none=>rw[ek] at e;cases e
  | some k =>
   rw[ek] at e;simp only[qbM,Option.some.injEq] at e;refine⟨i - nv,k,by ext,ek,?_⟩
   cases z2:env[k]? with
   | none=>rw[z2] at e;cases e
   | some o=>rw[z2] at e;simp at e;rw[e]
def cput{nv:Nat}{fm:List Nat}{α:Type}{σ:List (Option α)}{j k:Nat}{v:α}(e1:fm[j]?=some k)(e2:σ[k]?=some (some v)):(List.replicate nv none++fm.map fun i=>(σ[i]?).getD none)[nv+j]?=some (some v):=by
 rw[qaA (by simp)];simp[e1,e2]
def vR(e:fm[j]?=some k):nv+j∈cws nv fm ws↔k∈ws:=by
 have hj:=(qae.mp e).1;have hk:fm.getD j 0=k:=by simp[List.getD,e]
 unfold cws;rw[qax];constructor
 ·rintro⟨a,ha,hb⟩
  have:a=j:=by ext
  subst this;rw[qbl] at ha
  have:=ha.2
  rw[hk] at this;simpa using this
 ·intro hw;exact⟨j,qbl.mpr ⟨qaY.mpr hj,by rw[hk];simpa using hw⟩,rfl⟩
def SR.comp{q:Nat}{h:MH}{L:Nat}{O:List Nat}{σ:PSt}{env:aC}(nv:Nat)(fm:List Nat)(r:SR q h L O ws σ env):SR q h L O (cws nv fm ws) (cSt nv fm σ) (cenv nv fm env):=by
 refine⟨by simp[cSt,cenv],fun i d e hi=>?_,fun i d e hi=>?_⟩
 ·obtain⟨j,k,rfl,e1,e2⟩:=cget e;obtain⟨v,e3,w⟩:=r.fz k d e2 fun z=>hi ((vR e1).mpr z);exact⟨v,cput e1 e3,w⟩
 ·obtain⟨j,k,rfl,e1,e2⟩:=cget e;obtain⟨n,xs,ds,e0,e3,w⟩:=r.ow k d e2 ((vR e1).mp hi);exact⟨n,xs,ds,e0,cput e1 e3,w⟩
def cGo_ok(gt:Xg ws')(t:Xt ws')(e:Xe ws')(hz:e.fz=true)(hq:q<h1.length)(gd:∀g∈it.gd,h1[g.1]?=some (.lst g.2)/\g.1≠q) :
  ∀(ds:List D) (xs:List PV) (env:aC) (σ:PSt) (h:MH) (accD:List D) (acc:List PV) (s:Pen) (r:List D) (s':Pen),(∀i∈ws',∀d,env[i]?=some (some d)->∀n,σ[i]?=some (some (.loc n))->n<h1.length)->KB q h1 h->Cx q h L B (h1.length::O) ws' σ env s->Rps q h (h1.length::O) ds xs->h[h1.length]?=some (.lst acc)->Rps q h (h1.length::O) accD acc->accD.length+ds.length<=100000 ->
  dZ gt.p t.p e.p ds env s=.ok r s'->∃h' zs,cGo it h1.length gt.m t.m e.m xs σ h=.ok () h'/\KB q h1 h'/\cG h' q s'/\h'[h1.length]?=some (.lst zs)/\Rps q h' (h1.length::O) (accD++r) zs:=by
 intro ds
 induction ds with
 | nil =>
  intro xs env σ h accD acc s r s' on kb c rx ga ra hl ep
  have:xs=[]:=rx
  subst this;cases ep;have ok:it.ok h:=fun g hg=>(kb.keep _ (bz (gd g hg).1) (gd g hg).2).trans (gd g hg).1;exact⟨h,acc,by rw[cGo,qaf ok],kb,c.pen,ga,by simpa using ra⟩
 | cons d ds ih =>
  intro xs env σ h accD acc s r s' on kb c rx ga ra hl ep;obtain⟨x,xr,rfl,r1,r2⟩:=rx;have ok:it.ok h:=fun g hg=>(kb.keep _ (bz (gd g hg).1) (gd g hg).2).trans (gd g hg).1;rw[dZ] at ep
  cases eg:gt.p d env with
  | none=>rw[eg] at ep;cases ep
  | some env1 =>
   rw[eg] at ep;dsimp only at ep;obtain⟨σ1,f1,sr1,k1⟩:=gt.ok c.sr r1 eg;have on1:∀i∈ws',∀d,env1[i]?=some (some d)->∀n,σ1[i]?=some (some (.loc n))->n<h1.length:=fun i hi d e n z=>on i hi d ((k1 i hi).2▸e) n ((k1 i hi).1▸z);have c1:Cx q h L B (h1.length::O) ws' σ1 env1 s:=⟨c.bd,c.sub,c.bb,c.pb,c.hL,c.pen,sr1⟩;have kt:=t.ok c1
   cases et:t.p env1 s with
   | bad=>rw[et] at ep;cases ep
   | exc _ _=>rw[et] at ep;cases ep
   | ok b s1 =>
    rw[et] at ep kt;obtain⟨b',h2,f2,k2,p2,eb⟩:=kt;subst eb;have c2:=c1.kb k2 p2;have mv2:Mv (h1.length::O) h (h1.length::O) h2:=k2.mv c.pO;have hn:h1.length<h.length:=bz ga;have ga2:h2[h1.length]?=some (.lst acc):=(k2.keep _ hn (by ext)).trans ga;rw[Pb] at ep
    cases b with
    | false =>
     rw[qak (by simp)] at ep;obtain⟨h',zs,a1,a2⟩:=ih xr env1 σ1 h2 accD acc s1 r s' on1 (kb.trans k2) c2 (r2.mv mv2) ga2 (ra.mv mv2) (by simp at hl;ext) ep;refine⟨h',zs,?_,a2⟩;rw[cGo,qaf ok,f1];simp only[f2,Out.ne_ok,Out.bind_ok,qac,if_false];exact a1
    | true =>
     rw[qaf rfl] at ep;have ke:=e.ok c2
     cases ee:e.p env1 s1 with
     | bad=>rw[ee] at ep;cases ep
     | exc _ _=>rw[ee] at ep;cases ep
     | ok y s2 =>
      rw[ee] at ep ke;obtain⟨v,h3,f3,k3,p3,_,rv,_⟩:=ke;have rv:=rv hz;have c3:=c2.kb k3 p3;have mv3:Mv (h1.length::O) h2 (h1.length::O) h3:=k3.mv c.pO;have ga3:h3[h1.length]?=some (.lst acc):=(k3.keep _ (bz ga2) (by ext)).trans ga2;have mv4:Mv (h1.length::O) h3 (h1.length::O) (h3.set h1.length (.lst (acc++[v]))) :=
       ⟨fun n hn no=>qan (fun z=>no (by simp[z])),fun o ho=>.inl ho⟩
      have ra3:Rps q h3 (h1.length::O) (accD++[y]) (acc++[v]):=((ra.mv mv2).mv mv3).app ⟨v,[],rfl,rv,rfl⟩;rw[Pb] at ep
      cases er:dZ gt.p t.p e.p ds env1 s2 with
      | bad=>rw[er] at ep;cases ep
      | exc _ _=>rw[er] at ep;cases ep
      | ok r' s3 =>
       rw[er] at ep;cases ep;have k03:KB q h1 h3:=(kb.trans k2).trans k3;have c4:Cx q (h3.set h1.length (.lst (acc++[v]))) L B (h1.length::O) ws' σ1 env1 s2:=by
        refine⟨fun o ho=>by simpa using c3.bd o ho,c3.sub,c3.bb,c3.pb,by simpa using c3.hL,?_,?_⟩
        ·unfold cG;rw[qan (by ext)];exact p3
        ·refine⟨c3.sr.len,fun i d e hi=>let ⟨v,e1,q1⟩:=c3.sr.fz i d e hi;⟨v,e1,q1.mv mv4⟩,fun i d e hi=>?_⟩;obtain⟨n,ys,es,b1,b2,b3,b4,b5,b6⟩:=c3.sr.ow i d e hi;have z:=on1 i hi d e n b2;exact⟨n,ys,es,b1,b2,b3,b4,by rw[qan (by ext)];exact b5,b6.mv mv4⟩
       obtain⟨h',zs,a1,a2,a3,a4,a5⟩:=ih xr env1 σ1 (h3.set h1.length (.lst (acc++[v]))) (accD++[y]) (acc++[v]) s2 r' _ on1 ⟨by simpa using k03.len,fun n hn hp=>by rw[qan (by ext)];exact k03.keep n hn hp⟩ c4 (((r2.mv mv2).mv mv3).mv mv4) (qaF (bz ga3)) (ra3.mv mv4) (by simp at hl ⊢;ext) er;refine⟨h',zs,?_,a2,a3,a4,by simpa using a5⟩;rw[cGo,qaf ok,f1];simp only[f2,Out.ne_ok,Out.bind_ok,if_true,f3,ga3];rw[qaf (by have:=eE;have:=ra.length;simp at hl;ext)];exact a1
def bC(nv:Nat)(fm:List Nat)(i:Xi ws){ws':List Nat}(g:Xg ws')(t:Xt ws')(e:Xe ws')(hw:cws nv fm ws=ws':=by exact ys rfl)(hz:e.fz=true:=by exact ys rfl):Xe ws where
 m:=bB nv fm i.m g.m t.m e.m
 p:=fun env s=>(i.p env s).bind fun ds s1=>if ds.length<=100000 then (match dZ g.p t.p e.p ds (cenv nv fm env) s1 with
  | .ok r s2=>.ok (.lst r) s2
  | _=>.bad) else .bad
 fz:=true
 fr:=true
 ok {q h L B O σ env s} c:=by
  subst hw;refine (i.ok c).bind fun ds it h1 s1 k1 p1 ⟨rx,gd,_⟩=>?_;have c1:=c.kb k1 p1;by_cases hl:ds.length<=100000
  ·rw[qaf hl]
   cases er:dZ g.p t.p e.p ds (cenv nv fm env) s1 with
   | bad=>trivial
   | exc _ _=>trivial
   | ok r s2 =>
    have mv:Mv O h1 (h1.length::O) (h1++[MO.lst []]):=⟨fun n hn _=>qam hn,fun o ho=>by
     rcases qar.mp ho with z|z
     ·exact .inr (by ext)
     ·exact .inl z⟩
    have sr:=(c1.sr.comp nv fm).mv mv (fun o ho=>qai _ ho) fun n hn _ _=>qam hn;have c2:Cx q (h1++[MO.lst []]) L B (h1.length::O) (cws nv fm ws) (cSt nv fm σ) (cenv nv fm env) s1:=by
     refine⟨fun o ho=>?_,fun o ho=>qai _ (c.sub o ho),c.bb,c.pb,by have:=c1.hL;simp;ext,p1.app,sr⟩;rcases qar.mp ho with z|z
     ·subst z;simp
     ·have:=c1.bd o z;simp;ext
    have hq:q<h1.length:=bz p1
    obtain⟨h',zs,a1,a2,a3,a4,a5⟩:=cGo_ok g t e hz (L:=L) (B:=B) (O:=O) hq gd ds it.xs (cenv nv fm env) (cSt nv fm σ) (h1++[MO.lst []]) [] [] s1 r s2 (fun i hi d ed n en=>by
     obtain⟨n',_,_,_,b2,_,_,b5,_⟩:=(c1.sr.comp nv fm).ow i d ed hi;rw[b2] at en;cases en
     exact bz b5) (KB.app _ _ _) c2 (rx.mv mv) (by simp) rfl (by simpa using hl) er
    have f:Frs q h.length O h' (.lst r) (.loc h1.length):=fun ds e=>by
     cases e;exact⟨_,zs,rfl,k1.len,a4,by simpa using a5⟩
    have rr:=f.rp c.bd rfl;exact⟨.loc h1.length,h',by show (cGo _ _ _ _ _ _ _ _).bind _=_;rw[a1];rfl,a2,a3,.inl rr,fun _=>rr,fun _=>f⟩
  ·rw[qak hl];trivial
end
end PU
namespace PU
open PySem MM
local instance (priority:=1) cdecN4 (p:Prop):Decidable p:=Classical.propDecidable p
inductive PS where
 | nx (e:aC) (s:Pen)
 | rt (d:D) (s:Pen)
 | bk (e:aC) (s:Pen)
 | ct (e:aC) (s:Pen)
 | exc (c:Str) (e:aC) (s:Pen)
 | rse (c:Str) (e:aC) (s:Pen)
 | bad
structure Stp (q L:Nat) (h:MH) (O:List Nat) (h':MH) (O':List Nat):Prop where
 len:h.length<=h'.length
 mv:Mv O h O' h'
 sub:∀o∈O,o∈O'
 base:∀n:Nat,n<L->n≠q->h'[n]?=h[n]?
def Stp.refl(q L:Nat)(h:MH)(O:List Nat):Stp q L h O h O:=⟨qag _,⟨fun _ _ _=>rfl,fun _ h=>.inl h⟩,fun _ h=>h,fun _ _ _=>rfl⟩
def Stp.trans(a:Stp q L h O h1 O1)(b:Stp q L h1 O1 h2 O2):Stp q L h O h2 O2:=by
 refine⟨qaD a.len b.len,⟨fun n hn no=>?_,fun o ho=>?_⟩,fun o ho=>b.sub o (a.sub o ho),fun n hn hq=>(b.base n hn hq).trans (a.base n hn hq)⟩
 ·have n1:n∉O1:=fun z=>by
   rcases a.mv.new n z with q|q
   ·exact no q
   ·ext
  exact (b.mv.keep n (qaC hn a.len) n1).trans (a.mv.keep n hn no)
 ·rcases b.mv.new o ho with z|z
  ·exact a.mv.new o z
  ·exact .inr (qaD a.len z)
def Dis(ws:List Nat)(σ:PSt)(env:aC):Prop:=∀i j,i∈ws->j∈ws->i≠j->∀d d' n,env[i]?=some (some d)->env[j]?=some (some d')->σ[i]?=some (some (.loc n))->σ[j]?≠some (some (.loc n))
inductive Nxt (q L:Nat) (h:MH) (B O ws:List Nat) (σ':PSt) (h':MH) (env:aC) (s:Pen):Prop
 | mk (O':List Nat) (a:Stp q L h O h' O') (c:Cx q h' L B O' ws σ' env s) (d:Dis ws σ' env):Nxt q L h B O ws σ' h' env s
inductive SNx (q L:Nat) (h:MH) (B O ws:List Nat) (f:PSt->MH->SOut) (o:SOut) (env:aC) (s:Pen):Prop
 | mk (σ':PSt) (h':MH) (e:o=f σ' h') (n:Nxt q L h B O ws σ' h' env s):SNx q L h B O ws f o env s
inductive SRt (q L:Nat) (h:MH) (B:List Nat) (fr:Bool) (o:SOut) (d:D) (s:Pen):Prop
 | mk (v:PV) (h':MH) (e:o=.rt v h') (l:h.length<=h'.length) (b:∀n:Nat,n<L->n≠q->h'[n]?=h[n]?) (p:cG h' q s) (r:Rp q h' B d v) (f:fr=true->Frs q L B h' d v):SRt q L h B fr o d s
def SOk(q L:Nat)(h:MH)(B O ws:List Nat)(fr:Bool)(o:SOut)(r:PS):Prop:=match r with
 | .nx env s=>SNx q L h B O ws .nx o env s
 | .bk env s=>SNx q L h B O ws .bk o env s
 | .ct env s=>SNx q L h B O ws .ct o env s
 | .exc c env s=>SNx q L h B O ws (.exc ⟨c,[]⟩) o env s
 | .rse c env s=>SNx q L h B O ws (.rse ⟨c,[]⟩) o env s
 | .rt d s=>SRt q L h B fr o d s
 | .bad=>True
structure Xd (ws:List Nat) where
 m:Mst
 p:aC->Pen->PS
 fr:Bool
 ok:∀{q h L B O σ env s},Cx q h L B O ws σ env s->Dis ws σ env->SOk q L h B O ws fr (m σ h) (p env s)
def Nxt.after(a:Stp q L h O h1 O1)(n:Nxt q L h1 B O1 ws σ' h' env s):Nxt q L h B O ws σ' h' env s :=
 let ⟨O',b,c,d⟩:=n;⟨O',a.trans b,c,d⟩
def SOk.after(a:Stp q L h O h1 O1)(k:SOk q L h1 B O1 ws fr o r):SOk q L h B O ws fr o r:=by
 cases r with
 | nx env s=>obtain⟨σ',h',e,n⟩:=k;exact⟨σ',h',e,n.after a⟩
 | bk env s=>obtain⟨σ',h',e,n⟩:=k;exact⟨σ',h',e,n.after a⟩
 | ct env s=>obtain⟨σ',h',e,n⟩:=k;exact⟨σ',h',e,n.after a⟩
 | exc c env s=>obtain⟨σ',h',e,n⟩:=k;exact⟨σ',h',e,n.after a⟩
 | rse c env s=>obtain⟨σ',h',e,n⟩:=k;exact⟨σ',h',e,n.after a⟩
 | rt d s=>obtain⟨v,h',e,l,b,r1,r2,r3⟩:=k;exact⟨v,h',e,qaD a.len l,fun n hn hq=>(b n hn hq).trans (a.base n hn hq),r1,r2,r3⟩
 | bad=>trivial
def SOk.fr(hf:f'=true->f=true)(k:SOk q L h B O ws f o r):SOk q L h B O ws f' o r:=by
 cases r with
 | rt d s=>obtain⟨v,h',e,l,b,p,r,z⟩:=k;exact⟨v,h',e,l,b,p,r,fun y=>z (hf y)⟩
 | nx env s=>exact k
 | bk env s=>exact k
 | ct env s=>exact k
 | exc c env s=>exact k
 | rse c env s=>exact k
 | bad=>trivial
def KB.stp(c:Cx q h L B O ws σ env s)(k:KB q h h'):Stp q L h O h' O :=
 ⟨k.len,k.mv c.pO,fun _ h=>h,fun n hn hq=>k.keep n (qaC hn c.hL) hq⟩
def PR.go{α:Type}(r:PR α)(env:aC)(k:α->aC->Pen->PS):PS:=match r with
 | .ok a s=>k a env s
 | .exc c s=>.exc c env s
 | .bad=>.bad
@[simp] theorem Pg(a:α)(s:Pen)(env:aC)(k:α->aC->Pen->PS):(PR.ok a s).go env k=k a env s:=rfl
@[simp] theorem PR.go_exc(c:Str)(s:Pen)(env:aC)(k:α->aC->Pen->PS):(PR.exc c s:PR α).go env k=.exc c env s:=rfl
@[simp] theorem PR.go_bad(env:aC)(k:α->aC->Pen->PS):(PR.bad:PR α).go env k=.bad:=rfl
theorem SOk.ex{α β:Type}{q L:Nat}{h:MH}{B O ws:List Nat}{fr:Bool}{σ:PSt}{env:aC}{s:Pen}{o:Out β}{r:PR α}{R:MH->α->β->Prop}{f:β->Mst}{g:α->aC->Pen->PS}(c:Cx q h L B O ws σ env s)(d:Dis ws σ env)(k:Ok q h o r R)
  (n:∀a b h1 s1,KB q h h1->Cx q h1 L B O ws σ env s1->R h1 a b->SOk q L h1 B O ws fr (f b σ h1) (g a env s1)) :
  SOk q L h B O ws fr (o.go σ f) (r.go env g):=by
 cases r with
 | ok a s1 =>
  obtain⟨b,h1,rfl,kb,pn,rr⟩:=k;exact (n a b h1 s1 kb (c.kb kb pn) rr).after (kb.stp c)
 | exc x s1 =>
  obtain⟨h1,rfl,kb,pn⟩:=k;exact⟨σ,h1,rfl,O,kb.stp c,c.kb kb pn,d⟩
 | bad=>trivial
noncomputable section
variable {ws:List Nat}
def PS.then(r:PS)(k:aC->Pen->PS):PS:=match r with
 | .nx env s=>k env s
 | r=>r
@[simp] theorem au:(PS.nx env s).then k=k env s:=rfl
@[simp] theorem dh:(PS.rt d s).then k=.rt d s:=rfl
@[simp] theorem then_bk:(PS.bk env s).then k=.bk env s:=rfl
@[simp] theorem then_ct:(PS.ct env s).then k=.ct env s:=rfl
@[simp] theorem zj:(PS.exc c env s).then k=.exc c env s:=rfl
@[simp] theorem zT:(PS.rse c env s).then k=.rse c env s:=rfl
@[simp] theorem zR:PS.bad.then k=.bad:=rfl
def aW(a b:Xd ws):Xd ws where
 m:=aI a.m b.m
 p:=fun env s=>(a.p env s).then b.p
 fr:=a.fr && b.fr
 ok {q h L B O σ env s} c d:=by
  have k:=a.ok c d;show SOk q L h B O ws _ ((a.m σ h).then b.m) _
  cases e:a.p env s with
  | nx env1 s1 =>
   rw[e] at k;obtain⟨σ1,h1,e1,O1,st,c1,d1⟩:=k;rw[e1];exact ((b.ok c1 d1).fr (by simp)).after st
  | rt x s1=>rw[e] at k;obtain⟨v,h',e1,r1,r2,r3,r4,r5⟩:=k;rw[e1];exact SOk.fr (f:=a.fr) (by simp;exact fun h _=>h) (show SOk q L h B O ws a.fr (.rt v h') (.rt x s1) from⟨v,h',rfl,r1,r2,r3,r4,r5⟩)
  | bk env1 s1=>rw[e] at k;obtain⟨σ',h',e1,r⟩:=k;rw[e1];exact⟨σ',h',rfl,r⟩
  | ct env1 s1=>rw[e] at k;obtain⟨σ',h',e1,r⟩:=k;rw[e1];exact⟨σ',h',rfl,r⟩
  | exc x env1 s1=>rw[e] at k;obtain⟨σ',h',e1,r⟩:=k;rw[e1];exact⟨σ',h',rfl,r⟩
  | rse x env1 s1=>rw[e] at k;obtain⟨σ',h',e1,r⟩:=k;rw[e1];exact⟨σ',h',rfl,r⟩
  | bad=>trivial
def xSkip:Xd ws where
 m:=mSkip
 p:=.nx
 fr:=true
 ok {q h L B O σ env s} c d:=⟨σ,h,rfl,O,Stp.refl _ _ _ _,c,d⟩
def ret_go{m:Mx PV}{σ:PSt}{h:MH}:aR m σ h=(m σ h).go σ fun v _ h'=>.rt v h':=by unfold aR;cases m σ h <;> rfl
def bO(e:Xe ws):Xd ws where
 m:=aR e.m
 p:=fun env s=>(e.p env s).go env fun d _ s=>.rt d s
 fr:=e.fr
 ok {q h L B O σ env s} c d:=by
  rw[ret_go];refine SOk.ex (f:=fun v _ h'=>.rt v h') (g:=fun d _ s=>.rt d s) c d (e.ok c) fun x v h1 s1 kb c1 ⟨w,z,f⟩=>?_;refine⟨v,h1,rfl,qag _,fun _ _ _=>rfl,c1.pen,w.base c1.sub c1.bb,fun y=>?_⟩;intro ds ed;obtain⟨n,xs,a1,a2,a3,a4⟩:=f y ds ed
  have:=c.hL
  exact⟨n,xs,a1,by ext,a3,a4.mv ⟨fun _ _ _=>rfl,fun o ho=>.inl (by
   rcases qar.mp ho with z|z
   ·subst z;simp
   ·exact qai _ (c.sub o z))⟩⟩
def js(i:Nat)(hi:ws.contains i=true:=by exact ys rfl):Xd ws where
 m:=aR (ae i)
 p:=fun env s=>match env[i]? with
  | some (some d)=>.rt d s
  | _=>.bad
 fr:=true
 ok {q h L B O σ env s} c d:=by
  show SOk q L h B O ws _ _ (match env[i]? with | some (some d)=>PS.rt d s | _=>.bad)
  cases e:env[i]? with
  | none=>trivial
  | some o =>
   cases o with
   | none=>trivial
   | some x =>
    obtain⟨n,xs,ds,e1,e2,a,b,g,r⟩:=c.sr.ow i x e (by simpa using hi);subst e1
    have m1:Mv O h (n::B) h:=⟨fun _ _ _=>rfl,fun o ho=>.inl (by
     rcases qar.mp ho with z|z
     ·subst z;exact a
     ·exact c.sub o z)⟩
    have f:Frs q L B h (.lst ds) (.loc n):=fun ds' e=>by cases e;exact⟨n,xs,rfl,b,g,r.mv m1⟩
    refine⟨.loc n,h,by simp[aR,ae,e2],qag _,fun _ _ _=>rfl,c.pen,f.rp c.bb rfl,fun _=>f⟩
def xIf(t:Xt ws)(a b:Xd ws):Xd ws where
 m:=mIf t.m a.m b.m
 p:=fun env s=>(t.p env s).go env fun x env s=>if x=true then a.p env s else b.p env s
 fr:=a.fr && b.fr
 ok {q h L B O σ env s} c d:=SOk.ex (f:=fun x=>if x=true then a.m else b.m) (g:=fun x env s=>if x=true then a.p env s else b.p env s) c d (t.ok c) fun x v h1 s1 kb c1 e=>by
  subst e
  cases x with
  | true=>exact (a.ok c1 d).fr (by simp;exact fun h _=>h)
  | false=>exact (b.ok c1 d).fr (by simp)
def Dis.keep(d:Dis ws σ env)(k:∀i∈ws,σ'[i]?=σ[i]?/\env'[i]?=env[i]?):Dis ws σ' env':=fun i j hi hj ne x y n a b e=>by
 rw[(k i hi).1] at e;rw[(k i hi).2] at a;rw[(k j hj).2] at b;rw[(k j hj).1];exact d i j hi hj ne x y n a b e
def b9(i:Nat)(e:Xe ws)(hi:ws.contains i=false:=by exact ys rfl)(hz:e.fz=true:=by exact ys rfl):Xd ws where
 m:=bn i e.m
 p:=fun env s=>(e.p env s).go env fun d env s=>.nx (env.set i (some d)) s
 fr:=true
 ok {q h L B O σ env s} c d:=by
  refine SOk.ex (f:=fun v σ h=>.nx (σ.set i (some v)) h) (g:=fun d env s=>.nx (env.set i (some d)) s) c d (e.ok c) fun x v h1 s1 kb c1 ⟨_,z,_⟩=>?_;obtain⟨a,b⟩:=c1.sr.set (i:=i) (fun z=>by simp[z] at hi) (z hz);exact⟨_,h1,rfl,O,Stp.refl _ _ _ _,⟨c1.bd,c1.sub,c1.bb,c1.pb,c1.hL,c1.pen,a⟩,d.keep b⟩
def jA(i:Nat)(e:Xe ws)(hi:ws.contains i=true:=by exact ys rfl)(hz:e.fr=true:=by exact ys rfl):Xd ws where
 m:=bn i e.m
 p:=fun env s=>(e.p env s).go env fun d env s=>match d with
  | .lst ds=>.nx (env.set i (some (.lst ds))) s
  | _=>.bad
 fr:=true
 ok {q h L B O σ env s} c d:=by
  show SOk q L h B O ws _ _ _;have k:=e.ok c;show SOk q L h B O ws _ ((e.m σ h).go σ fun v σ h=>.nx (σ.set i (some v)) h) _
  cases ee:e.p env s with
  | bad=>trivial
  | exc x s1 =>
   rw[ee] at k;obtain⟨h1,e1,kb,pn⟩:=k;rw[e1];exact⟨σ,h1,rfl,O,kb.stp c,c.kb kb pn,d⟩
  | ok x s1 =>
   rw[ee] at k;obtain⟨v,h1,e1,kb,pn,_,_,f⟩:=k;rw[e1]
   cases x with
   | lst ds =>
    obtain⟨n,xs,rfl,hn,g,r⟩:=f hz ds rfl;have c1:=c.kb kb pn;have hi':i∈ws:=by simpa using hi
    have mv:Mv O h (n::O) h1:=⟨fun m hm no=>kb.keep m hm fun z=>no (z▸c.pO),fun o ho=>by
     rcases qar.mp ho with z|z
     ·exact .inr (by ext)
     ·exact .inl z⟩
    have hnO:n∉O:=fun z=>by have:=c.bd n z;ext
    refine⟨σ.set i (some (.loc n)),h1,rfl,n::O,⟨kb.len,mv,fun o ho=>qai _ ho,fun m hm hq=>kb.keep m (qaC hm c.hL) hq⟩,⟨fun o ho=>?_,fun o ho=>qai _ (c.sub o ho),c.bb,c.pb,c1.hL,pn,?_⟩,?_⟩
    ·rcases qar.mp ho with z|z
     ·subst z;exact bz g
     ·exact c1.bd o z
    ·have sr:=c.sr.mv mv (fun o ho=>qai _ ho) fun m hm hl _=>kb.keep m hm (by have:=c.pL;ext);refine⟨by simp[sr.len],fun j x ej hj=>?_,fun j x ej hj=>?_⟩
     ·have ne:i≠j:=fun z=>hj (z▸hi');rw[qan ne] at ej;rw[qan ne];exact sr.fz j x ej hj
     ·by_cases z:i=j
      ·subst z;have hl:i<env.length:=by have:=(qae.mp ej).1;simpa using this
       rw[qaF hl] at ej;cases ej;exact⟨n,xs,ds,rfl,qaF (by rw[sr.len];exact hl),by simp,by have:=c.hL;ext,g,r⟩
      ·rw[qan z] at ej;rw[qan z];exact sr.ow j x ej hj
    ·have old:∀j d,j∈ws->i≠j->(env.set i (some (.lst ds)))[j]?=some (some d)->(σ.set i (some (.loc n)))[j]?≠some (some (.loc n)):=fun j d hj ne ej z=>by
      rw[qan ne] at ej z;obtain⟨n',_,_,_,b2,b3,_⟩:=c.sr.ow j d ej hj;rw[z] at b2;cases b2;exact hnO b3
     intro a b ha hb ne x y m ea eb es;by_cases z1:i=a
     ·subst z1;have hl:i<σ.length:=by have:=(qae.mp es).1;simpa using this
      rw[qaF hl] at es;cases es;exact old b y hb ne eb
     ·by_cases z2:i=b
      ·subst z2;intro z;have hl:i<σ.length:=by have:=(qae.mp z).1;simpa using this
       rw[qaF hl] at z;cases z;exact old a x ha z1 ea es
      ·rw[qan z1] at ea es;rw[qan z2] at eb ⊢;exact d a b ha hb ne x y m ea eb es
   | _=>trivial
end
end PU
namespace PU
open PySem MM
open L2 (ixN)
local instance (priority:=1) cdecN5 (p:Prop):Decidable p:=Classical.propDecidable p
noncomputable section
variable {ws:List Nat}
def PS.turn(r:PS)(k:aC->Pen->PS):PS:=match r with
 | .nx e s=>k e s
 | .ct e s=>k e s
 | .bk e s=>.nx e s
 | r=>r
@[simp] theorem turn_nx:(PS.nx e s).turn k=k e s:=rfl
@[simp] theorem turn_ct:(PS.ct e s).turn k=k e s:=rfl
@[simp] theorem turn_bk:(PS.bk e s).turn k=.nx e s:=rfl
@[simp] theorem turn_rt:(PS.rt d s).turn k=.rt d s:=rfl
@[simp] theorem zg:(PS.exc c e s).turn k=.exc c e s:=rfl
@[simp] theorem Az:(PS.rse c e s).turn k=.rse c e s:=rfl
@[simp] theorem turn_bad:PS.bad.turn k=.bad:=rfl
def pGo(g:D->aC->Option aC)(b:aC->Pen->PS):List D->aC->Pen->PS
 | [],env,s=>.nx env s
 | d::ds,env,s=>match g d env with
  | none=>.bad
  | some env1=>(b env1 s).turn (pGo g b ds)
def mGo_ok(g:Xg ws)(b:Xd ws):∀(ds:List D) (xs:List PV) (env:aC) (σ:PSt) (h:MH) (O:List Nat) (s:Pen),Cx q h L B O ws σ env s->Dis ws σ env->Rps q h O ds xs->(∀y∈it.gd,h[y.1]?=some (.lst y.2)/\y.1∉O) ->
  SOk q L h B O ws b.fr (mGo it g.m b.m xs σ h) (pGo g.p b.p ds env s):=by
 intro ds
 induction ds with
 | nil =>
  intro xs env σ h O s c d r gd
  have:xs=[]:=r
  subst this;have ok:it.ok h:=fun y hy=>(gd y hy).1;refine⟨σ,h,by rw[mGo];dsimp only;rw[qaf ok],O,Stp.refl _ _ _ _,c,d⟩
 | cons x ds ih =>
  intro xs env σ h O s c d r gd;obtain⟨v,xr,rfl,r1,r2⟩:=r;have ok:it.ok h:=fun y hy=>(gd y hy).1;rw[pGo]
  cases eg:g.p x env with
  | none=>trivial
  | some env1 =>
   obtain⟨σ1,f1,sr,k⟩:=g.ok c.sr r1 eg;have c1:Cx q h L B O ws σ1 env1 s:=⟨c.bd,c.sub,c.bb,c.pb,c.hL,c.pen,sr⟩;have kb:=b.ok c1 (d.keep k)
   have em:mGo it g.m b.m (v::xr) σ h=(match b.m σ1 h with
    | .nx σ2 h2=>mGo it g.m b.m xr σ2 h2
    | .ct σ2 h2=>mGo it g.m b.m xr σ2 h2
    | .bk σ2 h2=>.nx σ2 h2
    | .rt v h2=>.rt v h2
    | .exc e σ2 h2=>.exc e σ2 h2
    | .rse e σ2 h2=>.rse e σ2 h2
    | .bad=>.bad):=by rw[mGo];dsimp only;(rw[qaf ok,f1]) <;> rfl
   rw[em];have gd':∀{h2:MH} {O2:List Nat},Stp q L h O h2 O2->∀y∈it.gd,h2[y.1]?=some (.lst y.2)/\y.1∉O2:=fun st y hy=>by
    obtain⟨a,b⟩:=st.mv.get (gd y hy).1 (gd y hy).2;exact⟨b,a⟩
   dsimp only
   cases eb:b.p env1 s with
   | bad=>trivial
   | nx e2 s2 =>
    rw[eb] at kb;obtain⟨σ2,h2,e1,O2,st,c2,d2⟩:=kb;rw[e1];exact (ih xr e2 σ2 h2 O2 s2 c2 d2 (r2.mv st.mv) (gd' st)).after st
   | ct e2 s2 =>
    rw[eb] at kb;obtain⟨σ2,h2,e1,O2,st,c2,d2⟩:=kb;rw[e1];exact (ih xr e2 σ2 h2 O2 s2 c2 d2 (r2.mv st.mv) (gd' st)).after st
   | bk e2 s2=>rw[eb] at kb;obtain⟨σ2,h2,e1,r⟩:=kb;rw[e1];exact⟨σ2,h2,rfl,r⟩
   | exc x e2 s2=>rw[eb] at kb;obtain⟨σ2,h2,e1,r⟩:=kb;rw[e1];exact⟨σ2,h2,rfl,r⟩
   | rse x e2 s2=>rw[eb] at kb;obtain⟨σ2,h2,e1,r⟩:=kb;rw[e1];exact⟨σ2,h2,rfl,r⟩
   | rt x s2=>rw[eb] at kb;obtain⟨v,h2,e1,r1,r2,r3,r4,r5⟩:=kb;rw[e1];exact⟨v,h2,rfl,r1,r2,r3,r4,r5⟩
def kw(i:Xi ws)(g:Xg ws)(b:Xd ws)(hz:i.fz=true:=by exact ys rfl):Xd ws where
 m:=fH i.m g.m b.m
 p:=fun env s=>(i.p env s).go env fun ds env s=>pGo g.p b.p ds env s
 fr:=b.fr
 ok {q h L B O σ env s} c d:=SOk.ex (f:=fun it=>mGo it g.m b.m it.xs) (g:=fun ds env s=>pGo g.p b.p ds env s) c d (i.ok c) fun ds it h1 s1 kb c1 r =>
  mGo_ok g b ds it.xs env σ h1 O s1 c1 d r.1 fun y hy=>⟨(r.2.1 y hy).1,r.2.2 hz y hy⟩
structure OpM where
 m:Nat->List PV->MH->Out PV
 p:List D->List D->Option (D × List D)
 ok:∀{q:Nat} {h:MH} {O:List Nat} {n:Nat} {xs:List PV} {ds as:List D} {vs:List PV} {d:D} {ds':List D},h[n]?=some (.lst xs)->Rps q h O ds xs->Rps q h O as vs->p ds as=some (d,ds')->∃v xs',m n vs h=.ok v (h.set n (.lst xs'))/\Rps q h O ds' xs'/\Rp q h O d v
def own_set{q h L B O σ env s n xs' ds' i ds}(c:Cx q h L B O ws σ env s)(d:Dis ws σ env)(hi:i∈ws)(e:env[i]?=some (some (D.lst ds)))(es:σ[i]?=some (some (.loc n)))(r:Rps q h O ds' xs') :
  Nxt q L h B O ws σ (h.set n (.lst xs')) (env.set i (some (.lst ds'))) s:=by
 obtain⟨n',xs,ds0,e0,e2,a,b,g,r0⟩:=c.sr.ow i _ e hi;rw[es] at e2;cases e2;have mv:Mv O h O (h.set n (.lst xs')):=⟨fun m hm no=>qan (fun (z:n=m)=>no (z▸a)),fun o ho=>.inl ho⟩;have hp:=c.pL;have il:i<env.length:=(qae.mp e).1;refine⟨O,⟨by simp,mv,fun _ h=>h,fun m hm _=>qan (by ext)⟩,⟨fun o ho=>by simpa using c.bd o ho,c.sub,c.bb,c.pb,by simpa using c.hL,?_,⟨by simp[c.sr.len],fun j x ej hj=>?_,fun j x ej hj=>?_⟩⟩,?_⟩
 ·unfold cG;rw[qan (by ext)];exact c.pen
 ·have ne:i≠j:=fun z=>hj (z▸hi);rw[qan ne] at ej;obtain⟨v,e1,w⟩:=c.sr.fz j x ej hj;exact⟨v,e1,w.mv mv⟩
 ·by_cases z:i=j
  ·subst z;rw[qaF il] at ej;cases ej;exact⟨n,xs',ds',rfl,es,a,b,qaF (bz g),r.mv mv⟩
  ·rw[qan z] at ej;obtain⟨m,ys,es',e1,e3,b3,b4,b5,b6⟩:=c.sr.ow j x ej hj
   have:n≠m:=fun y=>d i j hi hj z _ _ n e ej es (y▸e3)
   exact⟨m,ys,es',e1,e3,b3,b4,by rw[qan this];exact b5,b6.mv mv⟩
 ·intro j k hj hk ne x y m ej ek e1;have up:∀j x,(env.set i (some (D.lst ds')))[j]?=some (some x)->∃x',env[j]?=some (some x'):=fun j x ej=>by
   by_cases z:i=j
   ·subst z;exact⟨_,e⟩
   ·rw[qan z] at ej;exact⟨x,ej⟩
  obtain⟨x',ej'⟩:=up j x ej;obtain⟨y',ek'⟩:=up k y ek;exact d j k hj hk ne x' y' m ej' ek' e1
def mt_ok(o:OpM)(i:Nat)(a:Xs ws)(hi:i∈ws)(hz:a.fz=true){q h L B O σ env s}(c:Cx q h L B O ws σ env s)(d:Dis ws σ env)
  (ea:a.p env s=.ok as s1) (ei:env[i]?=some (some (.lst ds))) (eo:o.p ds as=some (r,ds')):∃v h1 n xs',KB q h h1/\Cx q h1 L B O ws σ env s1/\σ[i]?=some (some (.loc n))/\mMt o.m (ae i) a.m σ h=.ok v (h1.set n (.lst xs'))/\Rps q h1 O ds' xs'/\Rp q h1 O r v:=by
 obtain⟨n,xs,ds0,e0,e2,b1,b2,g,r0⟩:=c.sr.ow i _ ei hi;cases e0;have ka:=a.ok c;rw[ea] at ka;obtain⟨vs,h1,e3,kb,pn,_,rv⟩:=ka;have c1:=c.kb kb pn;have g1:h1[n]?=some (.lst xs):=(kb.keep n (bz g) (by have:=c.pL;ext)).trans g;obtain⟨v,xs',e4,r1,r2⟩:=o.ok g1 (r0.mv (kb.mv c.pO)) (rv hz) eo;refine⟨v,h1,n,xs',kb,c1,e2,?_,r1,r2⟩;have em:ae i σ h=.ok (.loc n) h:=by simp[ae,e2]
 show (ae i σ h).bind _=_;rw[em];simp only[Out.bind_ok,g,e3,e4,Out.ne_ok]
def pMt(o:OpM)(i:Nat)(a:aC->Pen->PR (List D))(env:aC)(s:Pen)(k:D->aC->Pen->PS):PS:=match a env s with
 | .ok as s1=>(match env[i]? with
  | some (some (.lst ds))=>(match o.p ds as with
   | some (r,ds')=>k r (env.set i (some (.lst ds'))) s1
   | none=>.bad)
  | _=>.bad)
 | _=>.bad
def xZ(e1:a env s=.ok as s1)(e2:env[i]?=some (some (.lst ds)))(e3:o.p ds as=some (r,ds')):pMt o i a env s k=k r (env.set i (some (.lst ds'))) s1:=by
 simp only[pMt,e1,e2,e3]
def pMt_inv:pMt o i a env s k=.bad\/∃as s1 ds r ds',a env s=.ok as s1/\env[i]?=some (some (.lst ds))/\o.p ds as=some (r,ds')/\pMt o i a env s k=k r (env.set i (some (.lst ds'))) s1:=by
 cases e1:a env s with
 | bad=>left;simp only[pMt,e1]
 | exc _ _=>left;simp only[pMt,e1]
 | ok as s1 =>
  cases e2:env[i]? with
  | none=>left;simp only[pMt,e1,e2]
  | some x =>
   cases x with
   | none=>left;simp only[pMt,e1,e2]
   | some d =>
    cases d with
    | lst ds =>
     cases e3:o.p ds as with
     | none=>left;simp only[pMt,e1,e2,e3]
     | some y=>exact .inr ⟨as,s1,ds,y.1,y.2,rfl,rfl,e3,xZ e1 e2 e3⟩
    | _=>left;simp only[pMt,e1,e2]
def xMt(o:OpM)(i:Nat)(a:Xs ws)(hi:ws.contains i=true:=by exact ys rfl)(hz:a.fz=true:=by exact ys rfl):Xd ws where
 m:=dN (mMt o.m (ae i) a.m)
 p:=fun env s=>pMt o i a.p env s fun _=>.nx
 fr:=true
 ok {q h L B O σ env s} c d:=by
  rcases pMt_inv (o:=o) (i:=i) (a:=a.p) (env:=env) (s:=s) (k:=fun _=>.nx) with z|⟨as,s1,ds,r,ds',e1,e2,e3,z⟩
  ·rw[z];trivial
  ·rw[z];have hi':i∈ws:=by simpa using hi
   obtain⟨v,h1,n,xs',kb,c1,es,em,r1,r2⟩:=mt_ok o i a hi' hz c d e1 e2 e3;refine⟨σ,h1.set n (.lst xs'),?_,(own_set c1 d hi' e2 es r1).after (kb.stp c)⟩;unfold dN mEx;rw[em];rfl
def Vw.int(w:Vw q h L O (.int b) v):v=.int b:=by
 rcases w with r|⟨n,xs,ds,e,_⟩
 ·exact r
 ·cases e
def PS.fin(r:PS):PR D:=match r with
 | .nx _ s=>.ok .non s
 | .rt d s=>.ok d s
 | .exc c _ s=>.exc c s
 | .rse c _ s=>.exc c s
 | _=>.bad
@[simp] theorem fin_nx:(PS.nx e s).fin=.ok .non s:=rfl
@[simp] theorem bM:(PS.rt d s).fin=.ok d s:=rfl
@[simp] theorem fin_exc:(PS.exc c e s).fin=.exc c s:=rfl
@[simp] theorem fin_rse:(PS.rse c e s).fin=.exc c s:=rfl
@[simp] theorem fin_bad:PS.bad.fin=.bad:=rfl
def dSt(n:Nat)(ds:List D):aC:=ds.map some++List.replicate (n - ds.length) none
def cV(n np:Nat)(b:Xd ws)(hw:ws.all (fun i=>decide (np<=i))=true:=by exact ys rfl):Fn where
 m:=bE n np b.m
 p:=fun ds s=>if ds.length=np then (b.p (dSt n ds) s).fin else .bad
 fr:=b.fr
 ok {q h O vs ds s} bd hq pn r:=by
  by_cases hl:ds.length=np
  ·rw[qaf hl];have hv:vs.length=np:=by rw[r.length];exact hl
   have low:∀i d,(dSt n ds)[i]?=some (some d)->i<np/\ds[i]?=some d:=fun i d e=>by
    by_cases z:i<ds.length
    ·refine⟨by ext,?_⟩;unfold dSt at e;rw[qam (by simpa using z)] at e;simp at e;simpa using e
    ·unfold dSt at e;rw[qaA (by simpa using z)] at e;by_cases y:i - (ds.map some).length<n - ds.length
     ·simp[qbs,y] at e
     ·simp at y e;exact absurd e (by simp[qbs])
   have nw:∀i d,(dSt n ds)[i]?=some (some d)->i∉ws:=fun i d e hi=>by
    have:=(low i d e).1
    rw[qbH] at hw
    have:=hw i hi
    simp at this;ext
   have c:Cx q h h.length O O ws (bS n vs) (dSt n ds) s:=by
    refine⟨bd,fun _ h=>h,bd,hq,qag _,pn,⟨by simp[bS,dSt,r.length],fun i d e _=>?_,fun i d e hi=>absurd hi (nw i d e)⟩⟩;obtain⟨v,ev,rv⟩:=r.get (low i d e).2;refine⟨v,?_,rv⟩;unfold bS;rw[qam (by simpa using (qae.mp ev).1)];simp[ev]
   have k:=b.ok c fun i j hi _ _ d _ _ e=>absurd hi (nw i d e)
   have em:bE n np b.m vs h=(match b.m (bS n vs) h with
    | .nx _ h'=>.ok .non h'
    | .rt v h'=>.ok v h'
    | .exc x _ h'=>.exc x h'
    | .rse x _ h'=>.exc x h'
    | _=>.bad):=by unfold bE;(rw[qaf hv]) <;> (cases b.m (bS n vs) h <;> rfl)
   rw[em];have kb:∀{h' O'},Stp q h.length h O h' O'->KB q h h':=fun st=>⟨st.len,fun m hm hq=>st.base m hm hq⟩
   cases e:b.p (dSt n ds) s with
   | nx e1 s1=>rw[e] at k;obtain⟨σ',h',f,O',st,c',_⟩:=k;rw[f];exact⟨.non,h',rfl,kb st,c'.pen,rfl,fun _ ds e=>by cases e⟩
   | exc x e1 s1=>rw[e] at k;obtain⟨σ',h',f,O',st,c',_⟩:=k;rw[f];exact⟨h',rfl,kb st,c'.pen⟩
   | rse x e1 s1=>rw[e] at k;obtain⟨σ',h',f,O',st,c',_⟩:=k;rw[f];exact⟨h',rfl,kb st,c'.pen⟩
   | rt x s1=>rw[e] at k;obtain⟨v,h',f,l,b,p,rr,rs⟩:=k;rw[f];exact⟨v,h',rfl,⟨l,b⟩,p,rr,rs⟩
   | bk e1 s1=>trivial
   | ct e1 s1=>trivial
   | bad=>trivial
  ·rw[qak hl];trivial
end
end PU
namespace PU
open PySem MM SetT SortT
open L2 (ixN atI gG)
local instance (priority:=1) cdecN6 (p:Prop):Decidable p:=Classical.propDecidable p
noncomputable section
section
variable {q:Nat} {h:MH} {L:Nat} {O:List Nat} {v:PV}
def Vw.non(w:Vw q h L O .non v):v=.non:=by
 rcases w with r|⟨n,xs,ds,e,_⟩
 ·exact r
 ·cases e
def Vw.str(w:Vw q h L O (.str x) v):v=.str x:=by
 rcases w with r|⟨n,xs,ds,e,_⟩
 ·exact r
 ·cases e
inductive VwL (h:MH) (P:List PV->Prop) (v:PV):Prop
 | mk (n:Nat) (xs:List PV) (e:v=.loc n) (g:h[n]?=some (.lst xs)) (r:P xs):VwL h P v
def Vw.lst(w:Vw q h L O (.lst ds) v):VwL h (Rps q h O ds) v:=by
 rcases w with ⟨n,xs,e,_,g,r⟩|⟨n,xs,ds',e,e1,_,_,g,r⟩
 ·exact⟨n,xs,e,g,r⟩
 ·cases e;exact⟨n,xs,e1,g,r⟩
def Vw.tup(w:Vw q h L O (.tup ds) v):RcT (Rps q h O ds) v:=by
 rcases w with r|⟨n,xs,ds',e,_⟩
 ·exact r
 ·cases e
def gv0(r:Rp q h O d v)(hf:fr=true->∀ds,d≠.lst ds):Gv q h O fr (.ok v h) d :=
 ⟨v,[],by simp,by simpa using r,fun z ds e=>absurd e (hf z ds)⟩
def gvI:Gv q h O fr (.ok (.int i) h) (.int i):=gv0 rfl fun _ _ e=>by cases e
def gvB:Gv q h O fr (.ok (.bl i) h) (.bl i):=gv0 rfl fun _ _ e=>by cases e
def dn(w:Vws q h L O [d] vs):∃x,vs=[x]/\Vw q h L O d x:=by
 obtain⟨x,r,e,a,b⟩:=w
 have:r=[]:=b
 subst this;exact⟨x,e,a⟩
def vws2(w:Vws q h L O [d,d'] vs):∃x y,vs=[x,y]/\Vw q h L O d x/\Vw q h L O d' y:=by
 obtain⟨x,r,e,a,b⟩:=w;obtain⟨y,rfl,c⟩:=dn b;exact⟨x,y,e,a,c⟩
end
def sJ(m:PV->PV->MH->Out PV)(f:Int->Int->D)(g:Int->Int->PV)(hm:∀i j h,m (.int i) (.int j) h=.ok (g i j) h)(hg:∀i j q h O fr,Gv q h O fr (.ok (g i j) h) (f i j)):Op2 where
 m:=m
 p:=fun a b=>match a,b with
  | .int i,.int j=>some (f i j)
  | _,_=>none
 fr:=true
 ok {q h L O a x b y d} bd wa wb e:=by
  cases a with
  | int i =>
   cases b with
   | int j=>cases e;rw[wa.int,wb.int,hm];exact hg i j q h O true
   | _=>cases e
  | _=>cases e
def eS:Op2:=sJ opSub (fun i j=>.int (i - j)) (fun i j=>.int (i - j)) (fun _ _ _=>rfl) fun _ _ _ _ _ _=>gvI
def oLt:Op2:=sJ opLt (fun i j=>.bl (decide (i<j))) (fun i j=>.bl (decide (i<j))) (fun _ _ _=>rfl) fun _ _ _ _ _ _=>gvB
def oLe:Op2:=sJ opLe (fun i j=>.bl (decide (i<=j))) (fun i j=>.bl (decide (i<=j))) (fun _ _ _=>rfl) fun _ _ _ _ _ _=>gvB
def oGt:Op2:=sJ opGt (fun i j=>.bl (decide (j<i))) (fun i j=>.bl (decide (j<i))) (fun _ _ _=>rfl) fun _ _ _ _ _ _=>gvB
def oGe:Op2:=sJ opGe (fun i j=>.bl (decide (j<=i))) (fun i j=>.bl (decide (j<=i))) (fun _ _ _=>rfl) fun _ _ _ _ _ _=>gvB
def bq:Op2 where
 m:=opAdd
 p:=fun a b=>match a,b with
  | .int i,.int j=>some (.int (i+j))
  | .lst x,.lst y=>if x.length+y.length<=100000 then some (.lst (x++y)) else none
  | .tup (a::x),.tup y=>if x.length+1+y.length<=100000 then some (.tup (a::x++y)) else none
  | _,_=>none
 fr:=true
 ok {q h L O a x b y d} bd wa wb e:=by
  cases a with
  | int i =>
   cases b with
   | int j=>cases e;rw[wa.int,wb.int];exact gvI
   | _=>cases e
  | lst x =>
   cases b with
   | lst y =>
    dsimp only at e;by_cases z:x.length+y.length<=100000
    ·rw[qaf z] at e;cases e;obtain⟨n,xs,rfl,g,r⟩:=wa.lst;obtain⟨n',ys,rfl,g',r'⟩:=wb.lst;show Gv q h O true (match h[n]?,h[n']? with | some (.lst xs),some (.lst ys)=>newL (xs++ys) h | _,_=>.bad) _;rw[g,g'];exact lq bd (r.app r') (by simpa using z)
    ·rw[qak z] at e;cases e
   | _=>cases e
  | tup x =>
   cases x with
   | nil=>cases b <;> cases e
   | cons a x =>
    cases b with
    | tup y =>
     dsimp only at e;by_cases z:x.length+1+y.length<=100000
     ·rw[qaf z] at e;cases e;obtain⟨xs,rfl,r⟩:=wa.tup;obtain⟨ys,rfl,r'⟩:=wb.tup;have ne:xs≠[]:=fun z=>by have:=r.length;simp[z] at this
      show Gv q h O true (if xs≠[] then newT (xs++ys) h else .bad) _;rw[qaf ne];exact u3 (r.app r') (by simp;ext)
     ·rw[qak z] at e;cases e
    | _=>cases e
  | _=>cases e
def Rps.rep(r:Rps q h O ds xs):∀n,Rps q h O (List.replicate n ds).flatten (List.replicate n xs).flatten
 | 0=>rfl
 | n+1=>by
  rw[qbf,qbf,qbt,qbt];exact r.app (Rps.rep r n)
def oMul:Op2 where
 m:=opMul
 p:=fun a b=>match a,b with
  | .int i,.int j=>if IntMulOk i j then some (.int (i * j)) else none
  | .lst x,.int j=>if (0<=j/\j<=1000)/\((List.replicate j.toNat x).flatten).length<=100000 then some (.lst (List.replicate j.toNat x).flatten) else none
  | _,_=>none
 fr:=true
 ok {q h L O a x b y d} bd wa wb e:=by
  cases a with
  | int i =>
   cases b with
   | int j =>
    dsimp only at e;by_cases z:IntMulOk i j
    ·rw[qaf z] at e;cases e;rw[wa.int,wb.int];show Gv q h O true (if IntMulOk i j then .ok (.int (i * j)) h else .bad) _;rw[qaf z];exact gvI
    ·rw[qak z] at e;cases e
   | _=>cases e
  | lst x =>
   cases b with
   | int j =>
    dsimp only at e;by_cases z:(0<=j/\j<=1000)/\((List.replicate j.toNat x).flatten).length<=100000
    ·rw[qaf z] at e;cases e;obtain⟨n,xs,rfl,g,r⟩:=wa.lst;rw[wb.int];show Gv q h O true (match h[n]? with | some (.lst xs)=>if -(2 ^ 63)<=j/\j<2 ^ 63 then newL (List.flatten (List.replicate j.toNat xs)) h else .bad | _=>.bad) _;rw[g];dsimp only;rw[qaf (by ext)];exact lq bd (r.rep _) z.2
    ·rw[qak z] at e;cases e
   | _=>cases e
  | _=>cases e
def oMod:Op2 where
 m:=opMod
 p:=fun a b=>match a,b with
  | .int i,.int j=>if j≠0 then some (.int (i.fmod j)) else none
  | _,_=>none
 fr:=true
 ok {q h L O a x b y d} bd wa wb e:=by
  cases a with
  | int i =>
   cases b with
   | int j =>
    dsimp only at e;by_cases z:j≠0
    ·rw[qaf z] at e;cases e;rw[wa.int,wb.int];show Gv q h O true (if j≠0 then .ok (.int (i.fmod j)) h else .bad) _;rw[qaf z];exact gvI
    ·rw[qak z] at e;cases e
   | _=>cases e
  | _=>cases e
def oIx:Op2 where
 m:=aQ
 p:=fun a b=>match a,b with
  | .lst x,.int j=>atI x j
  | .tup x,.int j=>atI x j
  | _,_=>none
 fr:=false
 ok {q h L O a x b y d} bd wa wb e:=by
  have at':∀{ds:List D} {xs:List PV} {j:Int},Rps q h O ds xs->atI ds j=some d->∃v,atI xs j=some v/\Rp q h O d v:=fun {ds xs j} r e=>by
   unfold atI at e ⊢;rw[r.length]
   cases e1:ixN ds.length j with
   | none=>rw[e1] at e;cases e
   | some k=>rw[e1] at e;exact r.get e
  cases b with
  | int j =>
   rw[wb.int]
   cases a with
   | lst ds =>
    obtain⟨n,xs,rfl,g,r⟩:=wa.lst;obtain⟨v,e1,rv⟩:=at' r e;show Gv q h O false (match h[n]? with | some (.lst xs)=>(match atI xs j with | some v=>.ok v h | none=>.bad) | _=>.bad) _;rw[g];dsimp only;rw[e1];exact gv0 rv fun z=>by cases z
   | tup ds =>
    obtain⟨xs,rfl,r⟩:=wa.tup;obtain⟨v,e1,rv⟩:=at' r e;show Gv q h O false (match atI xs j with | some v=>.ok v h | none=>.bad) _;rw[e1];exact gv0 rv fun z=>by cases z
   | _=>cases e
  | _=>cases a <;> cases e
mutual
def py:D->Option PyData
 | .non=>some .none
 | .bl b=>some (.bool b)
 | .int i=>some (.int i)
 | .str x=>some (.str x)
 | .tup ds=>(pys ds).map .tuple
 | .lst ds=>(pys ds).map .list
 | _=>none
def pys:List D->Option (List PyData)
 | []=>some []
 | d::ds=>match py d,pys ds with
  | some x,some xs=>some (x::xs)
  | _,_=>none
end
mutual
def dep:D->Nat
 | .tup ds=>1+deps ds
 | .lst ds=>1+deps ds
 | _=>0
def deps:List D->Nat
 | []=>0
 | d::ds=>max (dep d) (deps ds)
end
def vO(d:D):(∀(v:PV) (e:PyData) (n:Nat),Rp q h O d v->py d=some e->dep d<=n->rd n h v=some e):=by
 refine D.rec (motive_1:=fun d=>∀(v:PV) (e:PyData) (n:Nat),Rp q h O d v->py d=some e->dep d<=n->rd n h v=some e)
  (motive_2:=fun ds=>∀(vs:List PV) (es:List PyData) (n:Nat),Rps q h O ds vs->pys ds=some es->deps ds<=n->b8 (rd n h) vs=some es)
  (fun v _ n r e _=>?_) (fun b v _ n r e _=>?_) (fun b v _ n r e _=>?_) (fun b v _ n r e _=>?_) (fun ds ih v e n r ep hd=>?_) (fun ds ih v e n r ep hd=>?_) (fun _ _ _ _ e _=>?_) (fun _ _ _ _ _ e _=>?_) (fun _ _ _ _ e _=>?_)
  (fun vs es n r e _=>?_) (fun d ds i1 i2 vs es n r e hd=>?_) d
 ·rw[show v=PV.non from r];cases e;cases n <;> rfl
 ·rw[show v=PV.bl b from r];cases e;cases n <;> rfl
 ·rw[show v=PV.int b from r];cases e;cases n <;> rfl
 ·rw[show v=PV.str b from r];cases e;cases n <;> rfl
 ·obtain⟨xs,ex,r⟩:=r;subst ex;rw[py,qav] at ep;obtain⟨es,e1,rfl⟩:=ep;rw[dep] at hd
  cases n with
  | zero=>ext
  | succ n=>simp only[rd];rw[ih _ _ n r e1 (by ext)];rfl
 ·obtain⟨m,xs,ex,_,g,r⟩:=r;subst ex;rw[py,qav] at ep;obtain⟨es,e1,rfl⟩:=ep;rw[dep] at hd
  cases n with
  | zero=>ext
  | succ n=>simp only[rd,g];rw[ih _ _ n r e1 (by ext)];rfl
 ·simp[py] at e
 ·simp[py] at e
 ·simp[py] at e
 ·rw[show vs=[] from r];rw[pys] at e;cases e;rfl
 ·obtain⟨x,t,ex,a,b⟩:=r;subst ex;rw[deps] at hd;rw[pys] at e
  cases e1:py d with
  | none=>rw[e1] at e;cases e
  | some y =>
   cases e2:pys ds with
   | none=>rw[e1,e2] at e;cases e
   | some ys =>
    rw[e1,e2] at e;cases e;have a1:=i1 _ _ n a e1 (by ext);have b1:=i2 _ _ n b e2 (by ext);simp only[b8,a1,b1]
def rd_ok(r:Rp q h O d v)(ep:py d=some e)(hd:dep d<=n):rd n h v=some e:=vO d v e n r ep hd
def rZ(r:Rps q h O ds vs)(ep:pys ds=some es)(hd:deps ds<=n):b8 (rd n h) vs=some es:=by
 have:=vO (.tup ds) (.tup vs) (.tuple es) (n+1) (show Rp q h O (.tup ds) (.tup vs) from⟨vs,rfl,r⟩) (by rw[py,ep];rfl) (by rw[dep];ext)
 simp only[rd] at this
 cases z:b8 (rd n h) vs with
 | none=>rw[z] at this;cases this
 | some y=>rw[z] at this;cases this;rfl
def gR(w:Vw q h L O d v)(ep:py d=some e)(hd:dep d<=60):rd 60 h v=some e:=by
 rcases w with r|⟨n,xs,ds,rfl,rfl,_,_,g,r⟩
 ·exact rd_ok r ep hd
 ·rw[py,qav] at ep;obtain⟨es,e1,rfl⟩:=ep;rw[dep] at hd;have a1:=rZ (n:=59) r e1 (by ext);show (match h[n]? with | some (.lst xs)=>(b8 (rd 59 h) xs).map PyData.list | _=>none)=_;rw[g];dsimp only;rw[a1];rfl
def eqD(neg:Bool)(a b:D):Option D:=match py a,py b with
 | some x,some y=>if (dep a<=60/\dep b<=60)/\SeqAt.shaped x=true/\SeqAt.shaped y=true then some (.bl (if neg then !PyData.eqv x y else PyData.eqv x y)) else none
 | _,_=>none
def iP(e:eqD neg a b=some d):∃x y,py a=some x/\py b=some y/\(dep a<=60/\dep b<=60)/\(SeqAt.shaped x=true/\SeqAt.shaped y=true)/\d=.bl (if neg then !PyData.eqv x y else PyData.eqv x y):=by
 unfold eqD at e
 cases e1:py a with
 | none=>rw[e1] at e;cases e
 | some x =>
  cases e2:py b with
  | none=>rw[e1,e2] at e;cases e
  | some y =>
   rw[e1,e2] at e;dsimp only at e;by_cases z:(dep a<=60/\dep b<=60)/\SeqAt.shaped x=true/\SeqAt.shaped y=true
   ·rw[qaf z] at e;cases e;exact⟨x,y,rfl,rfl,z.1,z.2,rfl⟩
   ·rw[qak z] at e;cases e
def oEq:Op2 where
 m:=opEq
 p:=eqD false
 fr:=true
 ok {q h L O a x b y d} bd wa wb e:=by
  obtain⟨u,w,e1,e2,hd,hs,rfl⟩:=iP e;unfold opEq;rw[gR wa e1 hd.1,gR wb e2 hd.2];dsimp only;rw[qaf hs];exact gvB
def oNe:Op2 where
 m:=opNe
 p:=eqD true
 fr:=true
 ok {q h L O a x b y d} bd wa wb e:=by
  obtain⟨u,w,e1,e2,hd,hs,rfl⟩:=iP e;unfold opNe;rw[gR wa e1 hd.1,gR wb e2 hd.2];dsimp only;rw[qaf hs];exact gvB
def Vw.seqOf(w:Vw q h L O d v)(e:d.items=some ds):∃xs,MM.bR h v=some xs/\Rps q h O ds xs:=by
 cases d with
 | lst es=>cases e;obtain⟨n,xs,rfl,g,r⟩:=w.lst;exact⟨xs,by simp[MM.bR,g],r⟩
 | tup es=>cases e;obtain⟨xs,rfl,r⟩:=w.tup;exact⟨xs,rfl,r⟩
 | _=>cases e
def inD(neg:Bool)(a b:D):Option D:=match b.items with
 | some ds=>(match py a,pys ds with
  | some x,some ys=>if (dep a<=60/\deps ds<=60)/\x.canLay0=true/\PyData.canLayAll0 ys=true then some (.bl (if neg then !ys.any (fun e=>PyData.eqv e x) else ys.any (fun e=>PyData.eqv e x))) else none
  | _,_=>none)
 | none=>none
def oIn(neg:Bool):Op2 where
 m:=fG neg
 p:=inD neg
 fr:=true
 ok {q h L O a x b y d} bd wa wb e:=by
  unfold inD at e
  cases e0:b.items with
  | none=>rw[e0] at e;cases e
  | some ds =>
   rw[e0] at e;dsimp only at e
   cases e1:py a with
   | none=>rw[e1] at e;cases e
   | some u =>
    cases e2:pys ds with
    | none=>rw[e1,e2] at e;cases e
    | some us =>
     rw[e1,e2] at e;dsimp only at e;by_cases z:(dep a<=60/\deps ds<=60)/\u.canLay0=true/\PyData.canLayAll0 us=true
     ·rw[qaf z] at e;cases e;obtain⟨xs,es,r⟩:=wb.seqOf e0;unfold fG;rw[es,gR wa e1 z.1.1];dsimp only;rw[rZ r e2 z.1.2];dsimp only;rw[qaf z.2];exact gvB
     ·rw[qak z] at e;cases e
end
noncomputable section
def gN:Op1 where
 m:=opNeg
 p:=fun a=>match a with
  | .int i=>some (.int (-i))
  | _=>none
 fr:=true
 ok {q h L O a x d} bd w e:=by
  cases a with
  | int i=>cases e;rw[w.int];exact gvI
  | _=>cases e
def tyD:D->Option String
 | .non=>some "NoneType"
 | .bl _=>some "bool"
 | .int _=>some "int"
 | .str _=>some "str"
 | .tup _=>some "tuple"
 | .lst _=>some "list"
 | .dic=>some "dict"
 | _=>none
def ty_ok(w:Vw q h L O d v)(e:tyD d=some t):tyP h v=some t:=by
 cases d with
 | non=>cases e;rw[w.non];rfl
 | bl b=>cases e;rw[w.bl];rfl
 | int b=>cases e;rw[w.int];rfl
 | str b=>cases e;rw[w.str];rfl
 | tup b=>cases e;obtain⟨xs,rfl,_⟩:=w.tup;rfl
 | lst b=>cases e;obtain⟨n,xs,rfl,g,_⟩:=w.lst;simp[tyP,g]
 | dic =>
  cases e;rcases w with ⟨n,rfl,_,g⟩|⟨n,xs,ds,e,_⟩
  ·simp[tyP,g]
  ·cases e
 | _=>cases e
def eV(Ts:List String):Op1 where
 m:=fI Ts
 p:=fun a=>(tyD a).map fun t=>.bl (Ts.any (cj t))
 fr:=true
 ok {q h L O a x d} bd w e:=by
  rw[qav] at e;obtain⟨t,e1,rfl⟩:=e;unfold fI;rw[ty_ok w e1];exact gvB
def cII(f:List PV->MH->Out PV)(g:Int->Int->Int)(hf:∀i j h,f [.int i,.int j] h=.ok (.int (g i j)) h):OpN where
 k:=fun xs h=>(f xs h).ne
 p:=fun as=>match as with
  | [.int i,.int j]=>some (.int (g i j))
  | _=>none
 fr:=true
 ok {q h L O as xs d} bd w e:=by
  match as,e with
  | [.int i,.int j],e =>
   cases e;obtain⟨x,y,rfl,a,b⟩:=vws2 w;rw[a.int,b.int,hf];exact gvI
def oX:OpN:=cII fMin (fun i j=>if j<i then j else i) fun _ _ _=>rfl
def oZ:OpN:=cII fMax (fun i j=>if j>i then j else i) fun _ _ _=>rfl
def kO:OpN where
 k:=fun xs h=>(fInt xs h).ne
 p:=fun as=>match as with
  | [.int i]=>some (.int i)
  | [.bl b]=>some (.int (if b then 1 else 0))
  | _=>none
 fr:=true
 ok {q h L O as xs d} bd w e:=by
  match as,e with
  | [.int i],e=>cases e;obtain⟨x,rfl,a⟩:=dn w;rw[a.int];exact gvI
  | [.bl i],e=>cases e;obtain⟨x,rfl,a⟩:=dn w;rw[a.bl];exact gvI
def fL:OpN where
 k:=fun xs h=>(fLen xs h).ne
 p:=fun as=>match as with
  | [.lst ds]=>some (.int ds.length)
  | [.tup ds]=>some (.int ds.length)
  | [.str x]=>if x.length<=sizeLine then some (.int x.length) else none
  | _=>none
 fr:=true
 ok {q h L O as xs d} bd w e:=by
  match as,e with
  | [.lst ds],e =>
   cases e;obtain⟨x,rfl,a⟩:=dn w;obtain⟨n,ys,rfl,g,r⟩:=a.lst;simp only[fLen,g];rw[r.length];exact gvI
  | [.tup ds],e =>
   cases e;obtain⟨x,rfl,a⟩:=dn w;obtain⟨ys,rfl,r⟩:=a.tup;simp only[fLen];rw[r.length];exact gvI
  | [.str x],e =>
   dsimp only at e;by_cases z:x.length<=sizeLine
   ·rw[qaf z] at e;cases e;obtain⟨x,rfl,a⟩:=dn w;rw[a.str];simp only[fLen];rw[qaf z];exact gvI
   ·rw[qak z] at e;cases e
def xj:OpN where
 k:=fun xs h=>(fList xs h).ne
 p:=fun as=>match as with
  | [d]=>d.items.bind fun ds=>if ds.length<=100000 then some (.lst ds) else none
  | _=>none
 fr:=true
 ok {q h L O as xs d} bd w e:=by
  match as,e with
  | [a],e =>
   obtain⟨x,rfl,wx⟩:=dn w;rw[qaO] at e;obtain⟨ds,e1,e2⟩:=e;obtain⟨xs,e3,r⟩:=wx.seqOf e1;by_cases z:ds.length<=100000
   ·rw[qaf z] at e2;cases e2;obtain⟨v,g,e4,r4,r5⟩:=lq bd r z;exact⟨v,g,by simp only[fList,e3];rw[e4];rfl,r4,r5⟩
   ·rw[qak z] at e2;cases e2
def k6:OpN where
 k:=fun xs h=>(fTuple xs h).ne
 p:=fun as=>match as with
  | [d]=>d.items.map .tup
  | _=>none
 fr:=true
 ok {q h L O as xs d} bd w e:=by
  match as,e with
  | [a],e =>
   obtain⟨x,rfl,wx⟩:=dn w;rw[qav] at e;obtain⟨ds,e1,rfl⟩:=e;obtain⟨xs,e3,r⟩:=wx.seqOf e1;simp only[fTuple,e3];exact gv0 ⟨xs,rfl,r⟩ fun _ _ e=>by cases e
def kY:List D->Option (List Bool)
 | []=>some []
 | .bl b::r=>(kY r).map (b::·)
 | _=>none
def y0:∀{ds:List D} {xs:List PV} {bs:List Bool},Rps q h O ds xs->kY ds=some bs->mR xs=some bs
 | [],_,_,r,e=>by rw[show _=[] from r];cases e;rfl
 | d::ds,_,bs,⟨x,t,ex,a,b⟩,e=>by
  subst ex
  cases d with
  | bl c =>
   rw[show x=PV.bl c from a];rw[kY,qav] at e;obtain⟨cs,e1,rfl⟩:=e;rw[mR,y0 b e1];rfl
  | _=>cases e
def oJ:OpN where
 k:=fun xs h=>(fAll xs h).ne
 p:=fun as=>match as with
  | [d]=>(d.items.bind kY).map fun bs=>.bl (bs.all id)
  | _=>none
 fr:=true
 ok {q h L O as xs d} bd w e:=by
  match as,e with
  | [a],e =>
   obtain⟨x,rfl,wx⟩:=dn w;rw[qav] at e;obtain⟨bs,e1,rfl⟩:=e;rw[qaO] at e1;obtain⟨ds,e1,e2⟩:=e1;obtain⟨xs,e3,r⟩:=wx.seqOf e1;simp only[fAll,e3,qaT,y0 r e2];exact gvB
def cF:List D->Option (List Int)
 | []=>some []
 | .int b::r=>(cF r).map (b::·)
 | _=>none
def gq:∀{ds:List D} {xs:List PV} {bs:List Int},Rps q h O ds xs->cF ds=some bs->xs=bs.map .int
 | [],_,_,r,e=>by rw[show _=[] from r];cases e;rfl
 | d::ds,_,bs,⟨x,t,ex,a,b⟩,e=>by
  subst ex
  cases d with
  | int c =>
   rw[show x=PV.int c from a];rw[cF,qav] at e;obtain⟨cs,e1,rfl⟩:=e;rw[gq b e1];rfl
  | _=>cases e
def qH:∀(bs:List Int),fj (bs.map .int)=some bs
 | []=>rfl
 | b::bs=>by rw[qaG,fj,qH bs];rfl
def qJ:∀(bs:List Int),g6 (bs.map .int)=some bs
 | []=>rfl
 | b::bs=>by rw[qaG,g6,qJ bs];rfl
def kU:∀(bs:List Int),dr (bs.map .int)=some bs
 | []=>rfl
 | b::bs=>by rw[qaG,dr,kU bs];rfl
def rg(f:List PV->MH->Out PV)(c:List Int->Nat->Nat->Bool)(g:Int->Int->Int)(hf:∀is x h,(bR h x).bind fj=some is->0<is.length->f [x] h=.ok (.int (ln (c is) is)) h)(hg:∀i j h,f [.int i,.int j] h=.ok (.int (g i j)) h):OpN where
 k:=fun xs h=>(f xs h).ne
 p:=fun as=>match as with
  | [d]=>(d.items.bind cF).bind fun is=>if 0<is.length then some (.int (ln (c is) is)) else none
  | [.int i,.int j]=>some (.int (g i j))
  | _=>none
 fr:=true
 ok {q h L O as xs d} bd w e:=by
  match as,e with
  | [a],e =>
   obtain⟨x,rfl,wx⟩:=dn w;rw[qaO] at e;obtain⟨is,e1,e2⟩:=e;rw[qaO] at e1;obtain⟨ds,e1,e3⟩:=e1;obtain⟨xs,e4,r⟩:=wx.seqOf e1;by_cases z:0<is.length
   ·rw[qaf z] at e2;cases e2;show Gv q h O true (f [x] h).ne _;rw[hf is x h (by rw[e4,qaT,gq r e3];exact qH is) z];exact gvI
   ·rw[qak z] at e2;cases e2
  | [.int i,.int j],e =>
   cases e;obtain⟨x,y,rfl,a,b⟩:=vws2 w;rw[a.int,b.int,hg];exact gvI
def rn:OpN:=rg fMaxS (fun is i j=>decide (is.getD i 0>is.getD j 0)) (fun i j=>if j>i then j else i) (fun is x h e z=>by simp only[fMaxS,e];rw[qaf z]) fun i j h=>rfl
def rf:OpN:=rg fMinS (fun is i j=>decide (is.getD i 0<is.getD j 0)) (fun i j=>if j<i then j else i) (fun is x h e z=>by simp only[fMinS,e];rw[qaf z]) fun i j h=>rfl
def kD(k:List Int):D:=.tup (k.map .int)
def eD:D->Option (List Int)
 | .tup ds=>cF ds
 | _=>none
def fO:List D->Option (List (List Int))
 | []=>some []
 | d::ds=>match eD d,fO ds with
  | some k,some ks=>some (k::ks)
  | _,_=>none
def kP_inv(r:Rp q h O d v)(e:eD d=some k):v=kP k:=by
 cases d with
 | tup ds=>obtain⟨xs,rfl,r⟩:=r;rw[gq r e];rfl
 | _=>cases e
def sQ:∀{ds:List D} {xs:List PV} {ks:List (List Int)},Rps q h O ds xs->fO ds=some ks->xs=ks.map kP
 | [],_,_,r,e=>by rw[show _=[] from r];cases e;rfl
 | d::ds,_,ks,⟨x,t,ex,a,b⟩,e=>by
  subst ex;rw[fO] at e
  cases e1:eD d with
  | none=>rw[e1] at e;cases e
  | some k =>
   cases e2:fO ds with
   | none=>rw[e1,e2] at e;cases e
   | some ks' =>
    rw[e1,e2] at e;cases e;rw[kP_inv a e1,sQ b e2];rfl
def kOf_kP(k:List Int):kOf (kP k)=some k:=qJ k
def qI:∀(ks:List (List Int)),gD (ks.map kP)=some ks
 | []=>rfl
 | k::ks=>by rw[qaG,gD,kOf_kP,qI ks]
def jm:∀(bs:List Int),Rps q h O (bs.map .int) (bs.map .int)
 | []=>rfl
 | b::bs=>⟨_,_,rfl,rfl,jm bs⟩
def tQ:∀(ks:List (List Int)),Rps q h O (ks.map kD) (ks.map kP)
 | []=>rfl
 | b::bs=>⟨_,_,rfl,⟨_,rfl,jm b⟩,tQ bs⟩
def Vw.lstOf(w:Vw q h L O (.lst ds) v):∃xs,MM.cM h v=some xs/\Rps q h O ds xs:=by
 obtain⟨n,xs,rfl,g,r⟩:=w.lst;exact⟨xs,by simp[MM.cM,g],r⟩
def gvL(bd:Bd h O)(r:∀h O,Rps q h O ds xs):Gv q h O true (.ok (.loc h.length) (h++[.lst xs])) (.lst ds):=by
 have g:(h++[MO.lst xs])[h.length]?=some (.lst xs):=by simp
 exact⟨_,_,rfl,⟨_,_,rfl,fun z=>by have:=bd _ z;ext,g,r _ _⟩,fun _ ds' e=>by cases e;exact⟨_,_,rfl,qag _,g,r _ _⟩⟩
def cSS:OpN where
 k:=fun vs h1=>match vs with
  | [x]=>(match (cM h1 x).bind gD with
   | some ks=>if (∀k∈ks,k≠[])/\(ded ks).length<=66 then .ok (.loc h1.length) (h1++[.lst ((cD (ded ks)).map kP)]) else .bad
   | none=>.bad)
  | _=>.bad
 p:=fun as=>match as with
  | [.lst ds]=>(fO ds).bind fun ks=>if (∀k∈ks,k≠[])/\(ded ks).length<=66 then some (.lst ((cD (ded ks)).map kD)) else none
  | _=>none
 fr:=true
 ok {q h L O as xs d} bd w e:=by
  match as,e with
  | [.lst ds],e =>
   obtain⟨x,rfl,wx⟩:=dn w;obtain⟨ys,e0,r⟩:=wx.lstOf;rw[qaO] at e;obtain⟨ks,e1,e2⟩:=e;by_cases z:(∀k∈ks,k≠[])/\(ded ks).length<=66
   ·rw[qaf z] at e2;cases e2;simp only[e0,qaT,sQ r e1,qI];rw[qaf z];exact gvL bd fun _ _=>tQ _
   ·rw[qak z] at e2;cases e2
def cP(lo:Int)(n:Nat):List D:=(List.range n).map fun (i:Nat)=>D.int (lo+(i:Int))
def ph:Rps q h O (cP lo n) (bF lo n):=by
 have:=jm (q:=q) (h:=h) (O:=O) ((List.range n).map fun (i:Nat)=>lo+(i:Int))
 rw[qbj,qbj] at this;exact this
def cLR:OpN where
 k:=fun vs h1=>match vs with
  | [.int j]=>if -(2 ^ 62)<=j/\j<2 ^ 62/\j.toNat<=sizeLine then .ok (.loc h1.length) (h1++[.lst (bF 0 j.toNat)]) else .bad
  | _=>.bad
 p:=fun as=>match as with
  | [.int j]=>if -100000<=j/\j<=100000 then some (.lst (cP 0 j.toNat)) else none
  | _=>none
 fr:=true
 ok {q h L O as xs d} bd w e:=by
  match as,e with
  | [.int j],e =>
   obtain⟨x,rfl,wx⟩:=dn w;rw[wx.int];dsimp only at e;by_cases z:-100000<=j/\j<=100000
   ·rw[qaf z] at e;cases e;dsimp only
    have:=eE
    rw[qaf ⟨by ext,by ext,by ext⟩];exact gvL bd fun _ _=>ph
   ·rw[qak z] at e;cases e
def iR1:OpI where
 k:=fun vs h1=>match vs with
  | [.int j]=>if -(2 ^ 62)<=j/\j<2 ^ 62 then .ok ⟨bF 0 j.toNat,[]⟩ h1 else .bad
  | _=>.bad
 p:=fun as=>match as with
  | [.int j]=>if -100000<=j/\j<=100000 then some (cP 0 j.toNat) else none
  | _=>none
 ok {q h L O as xs d} hq hO bd w e:=by
  match as,e with
  | [.int j],e =>
   obtain⟨x,rfl,wx⟩:=dn w;rw[wx.int];dsimp only at e;by_cases z:-100000<=j/\j<=100000
   ·rw[qaf z] at e;cases e;dsimp only;rw[qaf ⟨by ext,by ext⟩];exact⟨_,rfl,ph,(fun _ hg=>nomatch hg),fun _ _ hg=>nomatch hg⟩
   ·rw[qak z] at e;cases e
def iR2:OpI where
 k:=fun vs h1=>match vs with
  | [.int i,.int j]=>if -(2 ^ 62)<=i/\i<2 ^ 62 /\ -(2 ^ 62)<=j/\j<2 ^ 62 then .ok ⟨bF i (j - i).toNat,[]⟩ h1 else .bad
  | _=>.bad
 p:=fun as=>match as with
  | [.int i,.int j]=>if (-100000<=i/\i<=100000) /\ -100000<=j/\j<=100000 then some (cP i (j - i).toNat) else none
  | _=>none
 ok {q h L O as xs d} hq hO bd w e:=by
  match as,e with
  | [.int i,.int j],e =>
   obtain⟨x,y,rfl,wx,wy⟩:=vws2 w;rw[wx.int,wy.int];dsimp only at e;by_cases z:(-100000<=i/\i<=100000) /\ -100000<=j/\j<=100000
   ·rw[qaf z] at e;cases e;dsimp only;rw[qaf ⟨by ext,by ext,by ext,by ext⟩];exact⟨_,rfl,ph,(fun _ hg=>nomatch hg),fun _ _ hg=>nomatch hg⟩
   ·rw[qak z] at e;cases e
def Vw.sqAny(hq:q<L)(hO:q∈O)(w:Vw q h L O d v)(e:d.items=some ds):∃t xs gd,MM.cg v h=some (t,xs,gd)/\Rps q h O ds xs/\(∀g∈gd,h[g.1]?=some (.lst g.2)/\g.1≠q)/\(Rp q h O d v->∀g∈gd,g.1∉O):=by
 obtain⟨xs,gd,e1,r,g1,g2⟩:=w.seq hq hO e
 cases d with
 | lst es =>
  cases e;obtain⟨n,ys,rfl,g,r'⟩:=w.lst;simp only[itAny,g] at e1;cases e1;exact⟨false,xs,[(n,xs)],by simp[MM.cg,g],r',g1,g2⟩
 | tup es =>
  cases e;obtain⟨ys,rfl,r'⟩:=w.tup;simp only[itAny] at e1;cases e1;exact⟨true,_,[],rfl,r',g1,g2⟩
 | _=>cases e
def eR(ds:List D):List D:=ds.zipIdx.map fun p=>.tup [.int (p.2:Int),p.1]
def kN(xs ys:List D):List D:=(xs.zip ys).map fun p=>.tup [p.1,p.2]
def sH:∀{ds:List D} {xs:List PV} (n:Nat),Rps q h O ds xs->Rps q h O ((ds.zipIdx n).map fun p=>.tup [.int (p.2:Int),p.1]) ((xs.zipIdx n).map fun p=>.tup [.int (p.2:Int),p.1])
 | [],_,_,r=>by rw[show _=[] from r];rfl
 | d::ds,_,n,⟨x,t,e,a,b⟩=>by
  subst e;exact⟨_,_,rfl,⟨_,rfl,⟨_,_,rfl,rfl,⟨_,_,rfl,a,rfl⟩⟩⟩,sH (n+1) b⟩
def vS:∀{ds es:List D} {xs ys:List PV},Rps q h O ds xs->Rps q h O es ys->Rps q h O (kN ds es) (gB xs ys)
 | [],_,_,_,r,_=>by rw[show _=[] from r];simp[kN,gB];rfl
 | _::_,[],_,_,r,r'=>by rw[show _=[] from r'];simp[kN,gB];rfl
 | d::ds,e::es,_,_,⟨x,t,e1,a,b⟩,⟨x',t',e1',a',b'⟩=>by
  subst e1 e1';exact⟨_,_,rfl,⟨_,rfl,⟨_,_,rfl,a,⟨_,_,rfl,a',rfl⟩⟩⟩,vS b b'⟩
def iE:OpI where
 k:=fun vs h1=>match vs with
  | [x]=>(match cg x h1 with
   | some (_,xs,gd)=>.ok ⟨gT xs,gd⟩ h1
   | none=>.bad)
  | _=>.bad
 p:=fun as=>match as with
  | [d]=>d.items.map eR
  | _=>none
 ok {q h L O as xs d} hq hO bd w e:=by
  match as,e with
  | [a],e =>
   obtain⟨x,rfl,wx⟩:=dn w;rw[qav] at e;obtain⟨ds,e1,rfl⟩:=e;obtain⟨t,ys,gd,e2,r,g1,g2⟩:=wx.sqAny hq hO e1;refine⟨⟨gT ys,gd⟩,by simp only[e2],sH 0 r,g1,fun z=>g2 ?_⟩;obtain⟨x',r',e3,a,_⟩:=z;cases e3;exact a
def iZ:OpI where
 k:=fun vs h1=>match vs with
  | [x,y]=>(match cg x h1,cg y h1 with
   | some (_,xs,g1),some (_,ys,g2)=>.ok ⟨gB xs ys,g1++g2⟩ h1
   | _,_=>.bad)
  | _=>.bad
 p:=fun as=>match as with
  | [d,e]=>d.items.bind fun xs=>e.items.map fun ys=>kN xs ys
  | _=>none
 ok {q h L O as xs d} hq hO bd w e:=by
  match as,e with
  | [a,b],e =>
   obtain⟨x,y,rfl,wx,wy⟩:=vws2 w;rw[qaO] at e;obtain⟨ds,e1,e⟩:=e;rw[qav] at e;obtain⟨es,e2,rfl⟩:=e;obtain⟨t,ys,gd,f2,r,g1,g2⟩:=wx.sqAny hq hO e1;obtain⟨t',ys',gd',f2',r',g1',g2'⟩:=wy.sqAny hq hO e2;refine⟨⟨gB ys ys',gd++gd'⟩,by simp only[f2,f2'],vS r r',fun g hg=>?_,fun z g hg=>?_⟩
   ·rcases qau.mp hg with z|z
    ·exact g1 g z
    ·exact g1' g z
   ·obtain⟨x',r',e3,a1,x2,r2,e4,a2,_⟩:=z;cases e3;cases e4;rcases qau.mp hg with z|z
    ·exact g2 a1 g z
    ·exact g2' a2 g z
def cQ(xs:List D)(lo hi:Option Int):List D:=(xs.drop (HT.sIx xs.length 0 lo)).take (HT.sIx xs.length xs.length hi - HT.sIx xs.length 0 lo)
def vA(lo hi:Option Int)(r:Rps q h O ds xs):Rps q h O (cQ ds lo hi) (eY xs lo hi):=by
 unfold cQ eY;rw[r.length];exact (r.drop _).take _
structure Xo (ws:List Nat) where
 m:Mx (Option Int)
 p:aC->Pen->PR (Option Int)
 ok:∀{q h L B O σ env s},Cx q h L B O ws σ env s->Ok q h (m σ h) (p env s) (fun _ a b=>a=b)
section
variable {ws:List Nat}
def xNo:Xo ws where
 m:=mNo
 p:=fun _ s=>.ok none s
 ok {q h L B O σ env s} c:=⟨none,h,rfl,KB.refl _ _,c.pen,rfl⟩
def xPt(e:Xe ws):Xo ws where
 m:=mPt e.m
 p:=fun env s=>(e.p env s).bind fun d s=>match d with
  | .int i=>.ok (some i) s
  | _=>.bad
 ok {q h L B O σ env s} c:=by
  refine (e.ok c).bind fun x v h1 s1 k1 p1 ⟨w,_,_⟩=>?_
  cases x with
  | int i=>rw[w.int];exact⟨some i,h1,rfl,KB.refl _ _,p1,rfl⟩
  | _=>trivial
def slD(d:D)(lo hi:Option Int):Option D:=match d with
 | .lst ds=>some (.lst (cQ ds lo hi))
 | .tup ds=>if HT.sIx ds.length 0 lo=0/\HT.sIx ds.length ds.length hi=ds.length then none else some (.tup (cQ ds lo hi))
 | _=>none
def sl_ok(bd:Bd h O)(w:Vw q h L O a x)(e:slD a lo hi=some d):Gv q h O true (fSl x lo hi h) d:=by
 cases a with
 | lst ds =>
  cases e;obtain⟨n,xs,rfl,g,r⟩:=w.lst;simp only[fSl,g];have r:=vA lo hi r;have m:Mv O h O (h++[MO.lst (eY xs lo hi)]):=⟨fun n hn _=>qam hn,fun o ho=>.inl ho⟩
  have m2:Mv O h (h.length::O) (h++[MO.lst (eY xs lo hi)]):=⟨fun n hn _=>qam hn,fun o ho=>by
   rcases qar.mp ho with z|z
   ·exact .inr (by ext)
   ·exact .inl z⟩
  have g:(h++[MO.lst (eY xs lo hi)])[h.length]?=some (.lst (eY xs lo hi)):=by simp
  exact⟨_,_,rfl,⟨_,_,rfl,fun z=>by have:=bd _ z;ext,g,r.mv m⟩,fun _ ds' e=>by cases e;exact⟨_,_,rfl,qag _,g,r.mv m2⟩⟩
 | tup ds =>
  unfold slD at e;dsimp only at e;by_cases z:HT.sIx ds.length 0 lo=0/\HT.sIx ds.length ds.length hi=ds.length
  ·rw[qaf z] at e;cases e
  ·rw[qak z] at e;cases e;obtain⟨xs,rfl,r⟩:=w.tup;simp only[fSl];rw[r.length,qak z];exact gv0 ⟨_,rfl,vA lo hi r⟩ fun _ _ e=>by cases e
 | _=>cases e
def xSl(a:Xe ws)(lo hi:Xo ws):Xe ws where
 m:=mSl a.m lo.m hi.m
 p:=fun env s=>(a.p env s).bind fun x s=>(lo.p env s).bind fun l s=>(hi.p env s).bind fun u s=>.of (slD x l u) s
 fz:=true
 fr:=true
 ok {q h L B O σ env s} c:=by
  refine (a.ok c).bind fun x v h1 s1 k1 p1 ⟨w,_,_⟩=>?_;have c1:=c.kb k1 p1;refine (lo.ok c1).bind fun l l' h2 s2 k2 p2 e=>?_;subst e;have c2:=c1.kb k2 p2;refine (hi.ok c2).bind fun u u' h3 s3 k3 p3 e=>?_;subst e;have c3:=c2.kb k3 p3
  cases e:slD x l u with
  | none=>trivial
  | some d =>
   obtain⟨y,g,e1,r,r'⟩:=sl_ok c3.bd ((w.kb k2 c.pO c.pL).kb k3 c.pO c.pL) e;exact give (qaD (qaD k1.len k2.len) k3.len) p3 ⟨y,g,by rw[e1];rfl,r,r'⟩
end
def lE:OpM where
 m:=cw
 p:=fun ds as=>match as with
  | [a]=>if ds.length<100000 then some (.non,ds++[a]) else none
  | _=>none
 ok {q h O n xs ds as vs d ds'} g r ra e:=by
  match as,e with
  | [a],e =>
   obtain⟨x,t,rfl,a,b⟩:=ra
   have:t=[]:=b
   subst this;dsimp only at e;by_cases z:ds.length<100000
   ·rw[qaf z] at e;cases e;refine⟨.non,xs++[x],?_,r.app ⟨x,[],rfl,a,rfl⟩,rfl⟩;simp only[cw,g];rw[qaf (by have:=eE;rw[r.length];ext)]
   ·rw[qak z] at e;cases e
def lp:OpM where
 m:=e7
 p:=fun ds as=>match as with
  | [a]=>a.items.bind fun es=>if ds.length+es.length<=100000 then some (.non,ds++es) else none
  | _=>none
 ok {q h O n xs ds as vs d ds'} g r ra e:=by
  match as,e with
  | [a],e =>
   obtain⟨x,t,rfl,w,b⟩:=ra
   have:t=[]:=b
   subst this;rw[qaO] at e;obtain⟨es,e1,e2⟩:=e;by_cases z:ds.length+es.length<=100000
   ·rw[qaf z] at e2;cases e2;have hb:=eE
    cases a with
    | lst es' =>
     cases e1;obtain⟨m,ys,rfl,_,g',r'⟩:=w;refine⟨.non,xs++ys,?_,r.app r',rfl⟩;simp only[e7,g,g'];rw[qaf (by rw[r.length,r'.length];ext)]
    | tup es' =>
     cases e1;obtain⟨ys,rfl,r'⟩:=w;refine⟨.non,xs++ys,?_,r.app r',rfl⟩;simp only[e7,g];rw[qaf (by rw[r.length,r'.length];ext)]
    | _=>cases e1
   ·rw[qak z] at e2;cases e2
def o9:OpM where
 m:=iQ
 p:=fun ds as=>match as with
  | [.int i,a]=>if (0<=i/\i<=100000)/\ds.length<100000 then some (.non,ds.take (min i.toNat ds.length)++a::ds.drop (min i.toNat ds.length)) else none
  | _=>none
 ok {q h O n xs ds as vs d ds'} g r ra e:=by
  match as,e with
  | [.int i,a],e =>
   obtain⟨x,t,rfl,hx,y,t',rfl,w,b⟩:=ra
   have:t'=[]:=b
   subst this;rw[show x=PV.int i from hx];dsimp only at e;by_cases z:(0<=i/\i<=100000)/\ds.length<100000
   ·rw[qaf z] at e;cases e;refine⟨.non,kQ xs i y,?_,?_,rfl⟩
    ·simp only[iQ,g];rw[qaf ⟨by ext,by have:=eE;rw[r.length];ext⟩]
    ·unfold kQ;rw[qak (by ext),r.length];exact (r.take _).app ⟨y,_,rfl,w,r.drop _⟩
   ·rw[qak z] at e;cases e
end
section
variable {ws:List Nat} {env:aC} {s:Pen}
@[simp] theorem aA{d:D}{r:aC}:(ac 0:Xe ws).p (some d::r) s=.ok d s:=rfl
@[simp] theorem aE{i:Nat}{o:Option D}{r:aC}:(ac (i+1):Xe ws).p (o::r) s=(ac i:Xe ws).p r s:=by simp[ac]
theorem lu(e:env[i]?=some (some d)):(ac i:Xe ws).p env s=.ok d s:=by
 show (match env[i]? with | some (some d)=>PR.ok d s | _=>.bad)=_;rw[e]
@[simp] theorem bN:(xC k:Xe ws).p env s=.ok k.d s:=rfl
@[simp] theorem cn_non:Cn.non.d=.non:=rfl
@[simp] theorem je:(Cn.bl b).d=.bl b:=rfl
@[simp] theorem bu:(Cn.int b).d=.int b:=rfl
@[simp] theorem cn_str:(Cn.str b).d=.str b:=rfl
@[simp] theorem aL:(aj o a b).p env s=(a.p env s).bind fun x s1=>(b.p env s1).bind fun y s2=>.of (o.p x y) s2:=rfl
@[simp] theorem fc:(xUn o a).p env s=(a.p env s).bind fun x s1=>.of (o.p x) s1:=rfl
@[simp] theorem ar:(xNil:Xs ws).p env s=.ok [] s:=rfl
@[simp] theorem ao:(ab a r).p env s=(a.p env s).bind fun x s1=>(r.p env s1).bind fun y s2=>.ok (x::y) s2:=rfl
@[simp] theorem bG:(xCb o a).p env s=(a.p env s).bind fun x s1=>.of (o.p x) s1:=rfl
@[simp] theorem bg:(aF f a h).p env s=(a.p env s).bind f.p:=rfl
@[simp] theorem cE:(bI a h).p env s=(a.p env s).bind fun x s1=>if x.length<=100000 then .ok (.lst x) s1 else .bad:=rfl
@[simp] theorem rC:(bQ a h).p env s=(a.p env s).bind fun x s1=>if x.length<=100000 then .ok (.tup x) s1 else .bad:=rfl
@[simp] theorem xDic_p:(xDic:Xe ws).p env s=.ok .dic s:=rfl
@[simp] theorem cq:(xB a).p env s=(a.p env s).bl:=rfl
@[simp] theorem de:(jD a).p env s=(a.p env s).bind fun b s=>.ok (!b) s:=rfl
@[simp] theorem xAnd_p:(xAnd a b).p env s=(a.p env s).bind fun x s=>if x=true then b.p env s else .ok false s:=rfl
@[simp] theorem eM:(xOr a b).p env s=(a.p env s).bind fun x s=>if x=true then .ok true s else b.p env s:=rfl
@[simp] theorem xTrue_p:(xTrue:Xt ws).p env s=.ok true s:=rfl
@[simp] theorem v8:(nP a b).p env s=(a.p env s).bl.bind fun x s=>if x=true then (b.p env s).bl.bind fun y s=>.ok (.bl y) s else .ok (.bl false) s:=rfl
@[simp] theorem xNotV_p:(xNotV a).p env s=(a.p env s).bl.bind fun x s=>.ok (.bl (!x)) s:=rfl
@[simp] theorem xChain_p:(rR f g a b e).p env s=(a.p env s).bind fun x s1=>(b.p env s1).bind fun y s2=>match f.p x y with
  | some (.bl t)=>if t=true then (e.p env s2).bind fun z s3=>.of (g.p y z) s3 else .ok (.bl false) s2
  | _=>.bad:=rfl
@[simp] theorem gK:(cX o a).p env s=(a.p env s).bind fun x s1=>.of (o.p x) s1:=rfl
@[simp] theorem eL:(bK a).p env s=(a.p env s).bind fun x s1=>.of x.items s1:=rfl
@[simp] theorem xNm_p{i:Nat}{h:ws.contains i=false}{d:D}:(xNm i h).p d env=some (env.set i (some d)):=rfl
@[simp] theorem xGl_p:(xGl:Xgs ws).p [] env=some env:=rfl
@[simp] theorem xGc_p:(xGc a t).p (d::ds) env=(a.p d env).bind fun env1=>t.p ds env1:=rfl
@[simp] theorem xGp_p:(xGp t n).p (.tup ds) env=if ds.length=n then t.p ds env else none:=rfl
@[simp] theorem vz{nv:Nat}{fm:List Nat}{i:Xi ws}{ws':List Nat}{g:Xg ws'}{t:Xt ws'}{e:Xe ws'}{hw:cws nv fm ws=ws'}{hz:e.fz=true}:(bC nv fm i g t e hw hz).p env s=(i.p env s).bind fun ds s1=>if ds.length<=100000 then (match dZ g.p t.p e.p ds (cenv nv fm env) s1 with
  | .ok r s2=>.ok (.lst r) s2
  | _=>.bad) else .bad:=rfl
@[simp] theorem ie:(xNo:Xo ws).p env s=.ok none s:=rfl
@[simp] theorem gZ:(xPt e).p env s=(e.p env s).bind fun d s=>match d with
  | .int i=>.ok (some i) s
  | _=>.bad:=rfl
@[simp] theorem iA:(xSl a lo hi).p env s=(a.p env s).bind fun x s=>(lo.p env s).bind fun l s=>(hi.p env s).bind fun u s=>.of (slD x l u) s:=rfl
@[simp] theorem aB:(aW a b).p env s=(a.p env s).then b.p:=rfl
@[simp] theorem bL:(xSkip:Xd ws).p env s=.nx env s:=rfl
@[simp] theorem bx:(bO e).p env s=(e.p env s).go env fun d _ s=>.rt d s:=rfl
theorem k9{i:Nat}{h:ws.contains i=true}{d:D}(e:env[i]?=some (some d)):(js i h).p env s=.rt d s:=by
 show (match env[i]? with | some (some d)=>PS.rt d s | _=>.bad)=_;rw[e]
@[simp] theorem bH:(xIf t a b).p env s=(t.p env s).go env fun x env s=>if x=true then a.p env s else b.p env s:=rfl
@[simp] theorem cc:(b9 i e hi hz).p env s=(e.p env s).go env fun d env s=>.nx (env.set i (some d)) s:=rfl
@[simp] theorem pc:(jA i e hi hz).p env s=(e.p env s).go env fun d env s=>match d with
  | .lst ds=>.nx (env.set i (some (.lst ds))) s
  | _=>.bad:=rfl
@[simp] theorem jd:(kw i g b hz).p env s=(i.p env s).go env fun ds env s=>pGo g.p b.p ds env s:=rfl
@[simp] theorem xMt_p:(xMt o i a hi hz).p env s=pMt o i a.p env s fun _=>.nx:=rfl
theorem bW{hw}(hl:ds.length=np):(cV n np b hw).p ds s=(b.p (dSt n ds) s).fin:=by
 show (if ds.length=np then _ else _)=_;rw[qaf hl]
variable {i j:Int} {b:Bool} {x y:List D}
@[simp] theorem gi:bq.p (.int i) (.int j)=some (.int (i+j)):=rfl
theorem cy(h:x.length+y.length<=100000):bq.p (.lst x) (.lst y)=some (.lst (x++y)):=by
 show (if x.length+y.length<=100000 then _ else _)=_;rw[qaf h]
@[simp] theorem oSub_ii:eS.p (.int i) (.int j)=some (.int (i - j)):=rfl
@[simp] theorem gL:oLt.p (.int i) (.int j)=some (.bl (decide (i<j))):=rfl
@[simp] theorem oLe_ii:oLe.p (.int i) (.int j)=some (.bl (decide (i<=j))):=rfl
@[simp] theorem oGt_ii:oGt.p (.int i) (.int j)=some (.bl (decide (j<i))):=rfl
@[simp] theorem oGe_ii:oGe.p (.int i) (.int j)=some (.bl (decide (j<=i))):=rfl
@[simp] theorem xh:oIx.p (.lst x) (.int j)=atI x j:=rfl
@[simp] theorem oIx_t:oIx.p (.tup x) (.int j)=atI x j:=rfl
theorem oMod_ii(h:j≠0):oMod.p (.int i) (.int j)=some (.int (i.fmod j)):=by
 show (if j≠0 then _ else _)=_;rw[qaf h]
@[simp] theorem oIsi_p:(eV Ts).p d=(tyD d).map fun t=>.bl (Ts.any (cj t)):=rfl
@[simp] theorem ty_non:tyD .non=some "NoneType":=rfl
@[simp] theorem ty_bl:tyD (.bl b)=some "bool":=rfl
@[simp] theorem ty_int:tyD (.int i)=some "int":=rfl
@[simp] theorem ty_str:tyD (.str z)=some "str":=rfl
@[simp] theorem ty_tup:tyD (.tup x)=some "tuple":=rfl
@[simp] theorem ty_lst:tyD (.lst x)=some "list":=rfl
@[simp] theorem ty_dic:tyD .dic=some "dict":=rfl
@[simp] theorem cMin_ii:oX.p [.int i,.int j]=some (.int (if j<i then j else i)):=rfl
@[simp] theorem cMax_ii:oZ.p [.int i,.int j]=some (.int (if j>i then j else i)):=rfl
@[simp] theorem cInt_b:kO.p [.bl b]=some (.int (if b then 1 else 0)):=rfl
@[simp] theorem cInt_i:kO.p [.int i]=some (.int i):=rfl
@[simp] theorem cA:fL.p [.lst x]=some (.int x.length):=rfl
@[simp] theorem cLen_t:fL.p [.tup x]=some (.int x.length):=rfl
theorem cList_l(h:x.length<=100000):xj.p [.lst x]=some (.lst x):=by
 show (if x.length<=100000 then _ else _)=_;rw[qaf h]
@[simp] theorem uw:k6.p [.lst x]=some (.tup x):=rfl
@[simp] theorem cTuple_t:k6.p [.tup x]=some (.tup x):=rfl
theorem cLR_i(h:-100000<=i/\i<=100000):cLR.p [.int i]=some (.lst (cP 0 i.toNat)):=by
 show (if _ then _ else _)=_;rw[qaf h]
def wU(h:-100000<=i/\i<=100000):iR1.p [.int i]=some (cP 0 i.toNat):=by
 show (if _ then _ else _)=_;rw[qaf h]
def iR2_i(h:(-100000<=i/\i<=100000) /\ -100000<=j/\j<=100000):iR2.p [.int i,.int j]=some (cP i (j - i).toNat):=by
 show (if _ then _ else _)=_;rw[qaf h]
@[simp] theorem iE_l:iE.p [.lst x]=some (eR x):=rfl
@[simp] theorem iZ_ll:iZ.p [.lst x,.lst y]=some (kN x y):=rfl
@[simp] theorem iZ_tt:iZ.p [.tup x,.tup y]=some (kN x y):=rfl
@[simp] theorem gX:slD (.lst x) lo hi=some (.lst (cQ x lo hi)):=rfl
theorem pZ(h:x.length<100000):lE.p x [a]=some (.non,x++[a]):=by
 show (if _ then _ else _)=_;rw[qaf h]
def xF(h:x.length+y.length<=100000):lp.p x [.lst y]=some (.non,x++y):=by
 show (if _ then _ else _)=_;rw[qaf h]
def xw{a:D}{i:Nat}(h:i<=x.length)(hl:x.length<100000):o9.p x [.int i,a]=some (.non,x.take i++a::x.drop i):=by
 show (if _ then _ else _)=_;rw[qaf ⟨by ext,hl⟩,qaQ,qcY h]
end
section
variable {i j:Int} {b c:Bool}
def qu(h1:x.canLay0=true)(h2:x.depth<=64):SeqAt.shaped x=true:=by simp[SeqAt.shaped,h1,h2]
@[simp] theorem iX:eqD neg (.int i) (.int j)=some (.bl (if neg then !decide (i=j) else decide (i=j))):=by
 simp[eqD,py,dep,SeqAt.shaped,PyData.canLay0,PyData.depth,PyData.eqv,qbw]
@[simp] theorem eqD_bb:eqD neg (.bl b) (.bl c)=some (.bl (if neg then !(b == c) else b == c)):=by
 simp[eqD,py,dep,SeqAt.shaped,PyData.canLay0,PyData.depth,PyData.eqv]
@[simp] theorem v9:oEq.p a d=eqD false a d:=rfl
@[simp] theorem nY:oNe.p a d=eqD true a d:=rfl
@[simp] theorem wk:(oIn neg).p a d=inD neg a d:=rfl
theorem cW:∀(k:List Int),pys (k.map .int)=some (k.map .int)/\deps (k.map .int)=0
 | []=>⟨rfl,rfl⟩
 | i::k=>by
  obtain⟨a,b⟩:=cW k;simp[pys,py,a,deps,dep,b]
def tR:∀(ks:List (List Int)),pys (ks.map kD)=some (ks.map fun k=>.tuple (k.map .int))/\deps (ks.map kD)<=1
 | []=>⟨rfl,by simp[deps]⟩
 | k::ks=>by
  obtain⟨a,b⟩:=tR ks;obtain⟨c,d⟩:=cW k;constructor
  ·simp[pys,kD,py,a,c]
  ·simp only[qaG,deps,kD,dep,d];ext
def qq:∀(xs:List Int),(xs.map PyData.int).any (fun e=>PyData.eqv e (.int x))=decide (x∈xs)
 | []=>by simp
 | y::ys=>by
  rw[qaG,qcH,qq ys]
  have:PyData.eqv (.int y) (.int x)=decide (x=y):=by
   simp[PyData.eqv,qbw,eq_comm]
  rw[this];by_cases z:x=y <;> simp[z]
def iJ:∀(k k':List Int),PyData.eqvAll (k.map .int) (k'.map .int)=decide (k=k')
 | [],[]=>by simp[PyData.eqvAll]
 | [],_::_=>by simp[PyData.eqvAll]
 | _::_,[]=>by simp[PyData.eqvAll]
 | a::k,b::k'=>by
  simp only[qaG,PyData.eqvAll,PyData.eqv,iJ k k',qbw];by_cases z:a=b <;> simp[z]
def qL:∀(ks:List (List Int)),(ks.map fun k=>PyData.tuple (k.map .int)).any (fun e=>PyData.eqv e (.tuple (k.map .int)))=decide (k∈ks)
 | []=>by simp
 | y::ys=>by
  rw[qaG,qcH,qL ys]
  have:PyData.eqv (.tuple (y.map .int)) (.tuple (k.map .int))=decide (y=k):=by
   simp only[PyData.eqv,iJ]
  rw[this];by_cases z:y=k
  ·simp[z]
  ·simp[z,show ¬k=y from fun q=>z q.symm]
def om{neg:Bool}{x:Int}{d:D}{xs:List Int}(e:d.items=some (xs.map .int)):inD neg (.int x) d=some (.bl (if neg then !decide (x∈xs) else decide (x∈xs))):=by
 obtain⟨a,b⟩:=cW xs;simp only[inD,e,py,a];rw[qaf ⟨⟨by simp[dep],by ext⟩,rfl,(d9 xs).1⟩,qq]
def i8{neg:Bool}{k:List Int}{d:D}{ks:List (List Int)}(e:d.items=some (ks.map kD)):inD neg (kD k) d=some (.bl (if neg then !decide (k∈ks) else decide (k∈ks))):=by
 obtain⟨a,b⟩:=tR ks;obtain⟨c,f⟩:=cW k;have pk:py (kD k)=some (.tuple (k.map .int)):=by simp[kD,py,c]
 have hc:(dep (kD k)<=60/\deps (ks.map kD)<=60)/\(PyData.tuple (k.map .int)).canLay0=true/\PyData.canLayAll0 (ks.map fun k=>.tuple (k.map .int))=true:=⟨⟨by simp[kD,dep,f],by ext⟩,by simpa [PyData.canLay0] using (d9 k).1,(ss ks).1⟩;unfold inD;rw[e];dsimp only;rw[pk,a];dsimp only;rw[qaf hc,qL]
def mO{neg:Bool}{xs ys:List Int}:eqD neg (.lst (xs.map .int)) (.lst (ys.map .int))=some (.bl (if neg then !decide (xs=ys) else decide (xs=ys))):=by
 obtain⟨a,b⟩:=cW xs;obtain⟨c,d⟩:=cW ys;obtain⟨l1,l2⟩:=d9 xs;obtain⟨l3,l4⟩:=d9 ys;simp only[eqD,py,a,c,qbM];rw[qaf ⟨⟨by simp[dep,b],by simp[dep,d]⟩,qu (by simpa [PyData.canLay0] using l1) (by simp only[PyData.depth];ext),qu (by simpa [PyData.canLay0] using l3) (by simp only[PyData.depth];ext)⟩];simp only[PyData.eqv,iJ]
end
@[simp] theorem pGo_nil:pGo g b [] env s=.nx env s:=rfl
theorem jq(e:g d env=some env1):pGo g b (d::ds) env s=(b env1 s).turn (pGo g b ds):=by
 rw[pGo,e]
def gm(I:Nat->aC->Pen->Prop):∀(ds:List D) (j:Nat) (env:aC) (s:Pen),I j env s ->
  (∀m env s d,I (j+m) env s->ds[m]?=some d->∃env1 env' s',g d env=some env1/\b env1 s=.nx env' s'/\I (j+m+1) env' s')->∃env' s',pGo g b ds env s=.nx env' s'/\I (j+ds.length) env' s'
 | [],j,env,s,hI,_=>⟨env,s,rfl,hI⟩
 | d::ds,j,env,s,hI,st=>by
  obtain⟨env1,env2,s2,e1,e2,I2⟩:=st 0 env s d hI rfl;obtain⟨env3,s3,e3,I3⟩:=gm I ds (j+1) env2 s2 I2 fun m env' s' x q z=>by
   have:=st (m+1) env' s' x (by rw[show j+(m+1)=j+1+m by ext];exact q) (by simpa using z)
   rw[show j+(m+1)+1=j+1+m+1 by ext] at this;exact this
  refine⟨env3,s3,?_,by rw[qaE,show j+(ds.length+1)=j+1+ds.length by ext];exact I3⟩;rw[jq e1,e2];exact e3
def nc(p:D->Bool)(f:D->D):∀(ds:List D) (vs:aC),vs.length=nv ->
  (∀x∈ds,∀vs:aC,vs.length=nv->∃vs':aC,vs'.length=nv/\g x (vs++fr)=some (vs'++fr)/\t (vs'++fr) s=.ok (p x) s/\(p x=true->e (vs'++fr) s=.ok (f x) s))->dZ g t e ds (vs++fr) s=.ok ((ds.filter p).map f) s
 | [],vs,hv,body=>rfl
 | x::ds,vs,hv,body=>by
  obtain⟨vs',hv',e1,e2,e3⟩:=body x (by simp) vs hv;have ih:=nc p f ds vs' hv' fun y hy=>body y (qai _ hy);rw[dZ,e1];dsimp only;rw[e2]
  cases hp:p x with
  | true=>simp only[Pb,if_true,e3 hp,ih,List.filter_cons_of_pos hp,qaG]
  | false=>simp only[Pb,qac,if_false,ih,List.filter_cons_of_neg (show ¬p x=true by simp[hp])]
def nJ{ws ws':List Nat}{env:aC}{s:Pen}{nv:Nat}{fm:List Nat}{i:Xi ws}{g:Xg ws'}{t:Xt ws'}{e:Xe ws'}{hw:cws nv fm ws=ws'}{hz:e.fz=true}{ds:List D}(p:D->Bool)(f:D->D)(ei:i.p env s=.ok ds s)(hl:ds.length<=100000)
  (body:∀x∈ds,∀vs:aC,vs.length=nv->∃vs':aC,vs'.length=nv/\g.p x (vs++fm.map fun i=>(env[i]?).getD none)=some (vs'++fm.map fun i=>(env[i]?).getD none)/\t.p (vs'++fm.map fun i=>(env[i]?).getD none) s=.ok (p x) s/\(p x=true->e.p (vs'++fm.map fun i=>(env[i]?).getD none) s=.ok (f x) s)) :
  (bC nv fm i g t e hw hz).p env s=.ok (.lst ((ds.filter p).map f)) s:=by
 rw[vz,ei,Pb,qaf hl];unfold cenv;rw[nc p f ds _ (by simp) body]
def dI{ws ws':List Nat}{env:aC}{s:Pen}{fm:List Nat}{i:Xi ws}{t:Xt ws'}{e:Xe ws'}{ds:List D}(p:D->Bool)(f:D->D)(ei:i.p env s=.ok ds s)(hl:ds.length<=100000)
  (body:∀x∈ds,t.p (some x::fm.map fun i=>(env[i]?).getD none) s=.ok (p x) s/\(p x=true->e.p (some x::fm.map fun i=>(env[i]?).getD none) s=.ok (f x) s)) (h0:ws'.contains 0=false:=by exact ys rfl) (hw:cws 1 fm ws=ws':=by exact ys rfl) (hz:e.fz=true:=by exact ys rfl) :
  (bC 1 fm i (xNm 0 h0) t e hw hz).p env s=.ok (.lst ((ds.filter p).map f)) s :=
 nJ p f ei hl fun x hx vs hv=>match vs,hv with
  | [_],_=>⟨[some x],rfl,rfl,body x hx⟩
def comp2{ws ws':List Nat}{env:aC}{s:Pen}{fm:List Nat}{i:Xi ws}{t:Xt ws'}{e:Xe ws'}{ds:List D}(p:D->Bool)(f:D->D)(ei:i.p env s=.ok ds s)(hl:ds.length<=100000)
  (body:∀x∈ds,∃a b,x=.tup [a,b]/\t.p (some a::some b::fm.map fun i=>(env[i]?).getD none) s=.ok (p x) s/\(p x=true->e.p (some a::some b::fm.map fun i=>(env[i]?).getD none) s=.ok (f x) s)) (h0:ws'.contains 0=false:=by exact ys rfl) (h1:ws'.contains 1=false:=by exact ys rfl) (hw:cws 2 fm ws=ws':=by exact ys rfl) (hz:e.fz=true:=by exact ys rfl) :
  (bC 2 fm i (xGp (xGc (xNm 0 h0) (xGc (xNm 1 h1) xGl)) 2) t e hw hz).p env s=.ok (.lst ((ds.filter p).map f)) s :=
 nJ p f ei hl fun x hx vs hv=>match vs,hv with
  | [_,_],_=>let ⟨a,b,e,q⟩:=body x hx;⟨[some a,some b],rfl,by subst e;rfl,q⟩
end PU
namespace PU
open PySem MM SetT SortT
open L2 (ixN atI gG)
def cI{α:Type}(l:List α):(l.filter fun _=>true)=l:=List.filter_eq_self.mpr (by simp)
def IsT(n:Int)(k:List Int):Prop:=∃a b:Int,k=[a,b]/\0<=a/\a<n/\0<=b/\b<n/\a≠b
def mmK:List Int->List Int
 | [a,b]=>[if b<a then b else a,if b>a then b else a]
 | k=>k
structure WebT (n:Int) (ks:List (List Int)):Prop where
 n0:0<=n
 n12:n<=12
 tie:∀k∈ks,∃a b:Int,k=[a,b]/\0<=a/\a<b/\b<n
 ris:SortT.Ris ks
 nd:ks.Nodup
def allT:List (List Int):=(List.range 12).flatMap fun b=>(List.range b).map fun (a:Nat)=>[(a:Int),(b:Int)]
def Ai:allT.length=66:=by decide
def zH(hn:n<=12)(h0:0<=a)(h1:a<b)(h2:b<n):[a,b]∈allT:=by
 unfold allT;rw[qcf];refine⟨b.toNat,by simp;ext,?_⟩;rw[qax];refine⟨a.toNat,by simp;ext,?_⟩;congr 1
 ·ext
 ·congr 1;ext
def jz{n:Int}{ks:List (List Int)}(hn:n<=12)(hk:∀k∈ks,∃a b:Int,k=[a,b]/\0<=a/\a<b/\b<n)(nd:ks.Nodup):ks.length<=66:=by
 rw[<-Ai];refine List.Nodup.length_le_of_subset nd fun k hk'=>?_;obtain⟨a,b,rfl,h1,h2,h3⟩:=hk k hk';exact zH hn h1 h2 h3
def iL(h:a<b):mmK [a,b]=[a,b]:=by simp[mmK,show ¬b<a by ext,show b>a from h]
def i4(h:b<a):mmK [a,b]=[b,a]:=by simp[mmK,h,show ¬b>a by ext]
def below(v:Int)(ks:List (List Int)):List Int:=ks.filterMap fun k=>match k with | [a,b]=>if b=v then some a else none | _=>none
def above(v:Int)(ks:List (List Int)):List Int:=ks.filterMap fun k=>match k with | [a,b]=>if a=v then some b else none | _=>none
def upto(n:Nat):List Int:=(List.range n).map fun (i:Nat)=>(i:Int)
def jR:i∈upto n↔0<=i/\i<n:=by
 unfold upto;rw[qax];constructor
 ·rintro⟨k,hk,rfl⟩;rw[qaY] at hk;ext
 ·intro ⟨a,b⟩;exact⟨i.toNat,by rw[qaY];ext,by ext⟩
def nd_upto(n:Nat):(upto n).Nodup:=by
 unfold upto;exact List.Pairwise.map (R:=fun a b:Nat=>a≠b) _ (fun a b h=>by intro z;ext) qcK
def dw(h:0<=i):∃n:Nat,i=(n:Int):=⟨i.toNat,by ext⟩
def lex2(h:SortT.bY [c,d] [a,b]=false):a<c\/(a=c/\b<=d):=by
 simp only[SortT.bY] at h;by_cases z:c=a
 ·rw[qaf z] at h;by_cases y:d=b
  ·exact .inr ⟨z.symm,by ext⟩
  ·rw[qak y] at h;simp at h;exact .inr ⟨z.symm,by ext⟩
 ·rw[qak z] at h;simp at h;ext
def nbs_ris(w:WebT n ks):(below v ks++above v ks).Pairwise (·<=·):=by
 have tie:=w.tie;have ris:=w.ris;clear w;rw[qcs];have mb:∀(ks:List (List Int)) (x:Int),x∈below v ks->(∀k∈ks,∃a b:Int,k=[a,b]/\0<=a/\a<b/\b<n)->[x,v]∈ks/\x<v:=fun ks x hx tie=>by
  unfold below at hx;obtain⟨k,hk,e⟩:=qbr.mp hx;obtain⟨a,b,rfl,_,lt,_⟩:=tie k hk;by_cases z:b=v
  ·simp[z] at e;subst e;subst z;exact⟨hk,lt⟩
  ·simp[z] at e
 have ma:∀(ks:List (List Int)) (x:Int),x∈above v ks->(∀k∈ks,∃a b:Int,k=[a,b]/\0<=a/\a<b/\b<n)->[v,x]∈ks/\v<x:=fun ks x hx tie=>by
  unfold above at hx;obtain⟨k,hk,e⟩:=qbr.mp hx;obtain⟨a,b,rfl,_,lt,_⟩:=tie k hk;by_cases z:a=v
  ·simp[z] at e;subst e;subst z;exact⟨hk,lt⟩
  ·simp[z] at e
 refine⟨?_,?_,fun x hx y hy=>?_⟩
 ·induction ks with
  | nil=>exact .nil
  | cons k ks ih =>
   obtain⟨a,b,rfl,_⟩:=tie k (by simp);have tie':=fun k hk=>tie k (qai _ hk);have ris':=(qbz.mp ris);have rest:=ih tie' ris'.2;have e1:below v ([a,b]::ks)=(if b=v then [a] else [])++below v ks:=by
    unfold below;by_cases z:b=v <;> simp[z]
   rw[e1];by_cases z:b=v
   ·rw[qaf z];refine qbz.mpr ⟨fun x hx=>?_,rest⟩
    have:=lex2 (ris'.1 _ (mb ks x hx tie').1)
    ext
   ·rw[qak z];exact rest
 ·induction ks with
  | nil=>exact .nil
  | cons k ks ih =>
   obtain⟨a,b,rfl,_⟩:=tie k (by simp);have tie':=fun k hk=>tie k (qai _ hk);have ris':=(qbz.mp ris);have rest:=ih tie' ris'.2;have e1:above v ([a,b]::ks)=(if a=v then [b] else [])++above v ks:=by
    unfold above;by_cases z:a=v <;> simp[z]
   rw[e1];by_cases z:a=v
   ·rw[qaf z];refine qbz.mpr ⟨fun x hx=>?_,rest⟩
    have:=lex2 (ris'.1 _ (ma ks x hx tie').1)
    ext
   ·rw[qak z];exact rest
 ·have:=(mb ks x hx tie).2
  have:=(ma ks y hy tie).2
  ext
def r6(w:WebT n ks):(below v ks++above v ks).Nodup/\∀x∈below v ks++above v ks,0<=x/\x<n:=by
 have mb:∀x,x∈below v ks->0<=x/\x<v/\x<n:=fun x hx=>by
  unfold below at hx;obtain⟨k,hk,e⟩:=qbr.mp hx;obtain⟨a,b,rfl,_,lt,_⟩:=w.tie k hk;by_cases z:b=v
  ·simp[z] at e;subst e;ext
  ·simp[z] at e
 have ma:∀x,x∈above v ks->0<=x/\v<x/\x<n:=fun x hx=>by
  unfold above at hx;obtain⟨k,hk,e⟩:=qbr.mp hx;obtain⟨a,b,rfl,_,lt,_⟩:=w.tie k hk;by_cases z:a=v
  ·simp[z] at e;subst e;ext
  ·simp[z] at e
 refine⟨?_,fun x hx=>?_⟩
 ·rw[qbY];refine⟨?_,?_,fun x hx y hy=>?_⟩
  ·unfold below List.Nodup;rw[qcl];refine List.Pairwise.imp_of_mem (fun {k k'} hk hk' hne x hx y hy=>?_) w.nd;obtain⟨a,b,rfl,_⟩:=w.tie k hk;obtain⟨c,d,rfl,_⟩:=w.tie k' hk';by_cases z1:b=v
   ·by_cases z2:d=v
    ·simp[z1] at hx;simp[z2] at hy;subst hx hy;rintro rfl;exact hne (by rw[z1,z2])
    ·simp[z2] at hy
   ·simp[z1] at hx
  ·unfold above List.Nodup;rw[qcl];refine List.Pairwise.imp_of_mem (fun {k k'} hk hk' hne x hx y hy=>?_) w.nd;obtain⟨a,b,rfl,_⟩:=w.tie k hk;obtain⟨c,d,rfl,_⟩:=w.tie k' hk';by_cases z1:a=v
   ·by_cases z2:c=v
    ·simp[z1] at hx;simp[z2] at hy;subst hx hy;rintro rfl;exact hne (by rw[z1,z2])
    ·simp[z2] at hy
   ·simp[z1] at hx
  ·have:=mb x hx
   have:=ma y hy
   ext
 ·rcases qau.mp hx with q|q
  ·have:=mb x q;ext
  ·have:=ma x q;ext
def bt(ns:List Int)(j:Nat):List (List Int):=(List.range j).flatMap fun i=>(ns.drop (i+1)).map fun b=>[ns.getD i 0,b]
def sL:bt ns (j+1)=bt ns j++(ns.drop (j+1)).map fun b=>[ns.getD j 0,b]:=by
 simp[bt,qcm,List.flatMap_append]
def fY(hn:ns.length<=12):∀(j:Nat),(bt ns j).length<=12 * j
 | 0=>by simp[bt]
 | j+1=>by
  have:=fY hn j
  rw[sL,qay,qat,qbg];ext
def wR(hs:ns.Pairwise (·<·))(hb:∀x∈ns,0<=x/\x<n):∀k∈bt ns ns.length,∃a b:Int,k=[a,b]/\0<=a/\a<b/\b<n:=fun k hk=>by
 unfold bt at hk;obtain⟨i,hi,hk⟩:=qcf.mp hk;rw[qaY] at hi;obtain⟨b,hb',rfl⟩:=qax.mp hk;obtain⟨j,hj,ej⟩:=qci hb';rw[qbg] at hj;rw[qcG] at ej;have e1:ns.getD i 0=ns[i]:=by simp[List.getD,hi]
 rw[e1];have lt:=qbv.mp hs i (i+1+j) hi (by ext) (by ext);rw[ej] at lt;exact⟨_,_,rfl,(hb _ (qcg hi)).1,lt,(hb _ (qbB hb')).2⟩
end PU
namespace PU
open PySem MM SetT SortT
open L2 (ixN atI gG)
local instance (priority:=1) cdecN10 (p:Prop):Decidable p:=Classical.propDecidable p
noncomputable section
def rW:D->Option Bool
 | .non=>some false
 | .bl b=>some b
 | .int i=>some (i != 0)
 | .tup xs=>some (!xs.isEmpty)
 | .lst xs=>some (!xs.isEmpty)
 | _=>none
def Rps.empty(r:Rps p h O ds vs):vs.isEmpty=ds.isEmpty:=by
 cases ds with
 | nil=>rw[show vs=[] from r];rfl
 | cons d ds=>obtain⟨x,t,e,_⟩:=r;rw[e];rfl
def tq(w:Vw q h L O d v)(e:rW d=some b):m4 h v=some b:=by
 cases d with
 | non=>cases e;rw[w.non];rfl
 | bl c=>cases e;rw[w.bl];rfl
 | int c=>cases e;rw[w.int];rfl
 | tup c=>cases e;obtain⟨xs,rfl,r⟩:=w.tup;rw[m4,r.empty]
 | lst c=>cases e;obtain⟨n,xs,rfl,g,r⟩:=w.lst;simp only[m4,g];rw[r.empty]
 | _=>cases e
section
variable {ws:List Nat}
structure OpR where
 m:Nat->List PV->MH->Out PV
 p:List D->List D->Option D
 ok:∀{q:Nat} {h:MH} {L:Nat} {O:List Nat} {n:Nat} {xs:List PV} {ds as:List D} {vs:List PV} {d:D},h[n]?=some (.lst xs)->Rps q h O ds xs->Vws q h L O as vs->p ds as=some d->∃v,m n vs h=.ok v h/\Rp q h O d v/\∀es,d≠.lst es
def xMr(o:OpR)(a:Xe ws)(as:Xs ws):Xe ws where
 m:=mMt o.m a.m as.m
 p:=fun env s=>(a.p env s).bind fun x s1=>match x with
  | .lst ds=>(as.p env s1).bind fun y s2=>.of (o.p ds y) s2
  | _=>.bad
 fz:=true
 fr:=true
 ok {q h L B O σ env s} c:=by
  refine (a.ok c).bind fun x v h1 s1 k1 p1 ⟨w,_,_⟩=>?_
  cases x with
  | lst ds =>
   have c1:=c.kb k1 p1;obtain⟨n,xs,rfl,g,r⟩:=w.lst;dsimp only;rw[g];refine (as.ok c1).bind fun y vs h2 s2 k2 p2 ⟨w2,_⟩=>?_;have nq:n≠q:=by
    rcases w with ⟨n',xs',e,no,_⟩|⟨n',xs',ds',_,e,_,hn,_⟩
    ·cases e;exact fun z=>no (z▸c.pO)
    ·cases e;have:=c.pL;ext
   have g2:h2[n]?=some (.lst xs):=(k2.keep n (bz g) nq).trans g
   cases e:o.p ds y with
   | none=>trivial
   | some d =>
    obtain⟨u,e1,ru,nl⟩:=o.ok g2 (r.mv (k2.mv c.pO)) w2 e;exact⟨u,h2,by rw[e1];rfl,KB.refl _ _,p2,.inl ru,fun _=>ru,fun _ es ee=>absurd ee (nl es)⟩
  | _=>trivial
end
def yq:OpR where
 m:=kG
 p:=fun ds as=>match as with
  | [.int k]=>(cF ds).bind fun ns=>(jv k ns).map fun (j:Nat)=>.int (j:Int)
  | _=>none
 ok {q h L O n xs ds as vs d} g r w e:=by
  match as,e with
  | [.int k],e =>
   obtain⟨x,rfl,wx⟩:=dn w;rw[wx.int];rw[qaO] at e;obtain⟨ns,e1,e2⟩:=e;rw[qav] at e2;obtain⟨j,e3,rfl⟩:=e2;refine⟨.int j,?_,rfl,fun _ z=>by cases z⟩;simp only[kG,g,gq r e1,kU,e3]
section
variable {ws:List Nat} {env:aC} {s:Pen}
@[simp] theorem xMr_p:(xMr o a as).p env s=(a.p env s).bind fun x s1=>match x with
  | .lst ds=>(as.p env s1).bind fun y s2=>.of (o.p ds y) s2
  | _=>.bad:=rfl
end
end
noncomputable section
section
variable {ws:List Nat} {env:aC} {s:Pen}
end
end
noncomputable section
variable {ws:List Nat}
end
end PU
namespace MM
open PySem PySem.Spec PyProof.Rows L2
end MM
namespace PU
open PySem MM
end PU
namespace MM
open PySem PySem.Spec PyProof.Rows L2
abbrev CPm(scope sc:Scope)(vars frees:List Str):Prop:=(∀y∈scope.names,y.2=.cell->scope.names.lookup y.1=some .cell)/\(∀y∈scope.names,y.2=.local->scope.names.lookup y.1=some .local)/\(∀x∈vars,scope.names.lookup x=some .local\/scope.names.lookup x=some .cell)/\(∀x∈frees,scope.names.lookup x=some .free)/\(∀y∈scope.names,y.2=.free->y.1∈frees)/\(∀x∈frees,sc.names.lookup x=some .cell)
def vU{X:Cx}{N:List Str}{scope sc:Scope}{vars frees:List Str}{fm:List Nat}(hsc:X.env.scope=sc)(h1:scope.kind=.function)(h7:fm.map (fun i=>N[i]?)=frees.map some)(h:CPm scope sc vars frees):CompOk X N scope vars frees fm :=
 compOk hsc h1 h.1 h.2.1 h.2.2.1 h.2.2.2.1 h.2.2.2.2.1 h7 h.2.2.2.2.2
def ar1{Q:List Value->Prop}(h:∀a0,Q [a0]):∀us,us.length=1->Q us
 | [_],_=>h _
def ar2{Q:List Value->Prop}(h:∀a0 a1,Q [a0,a1]):∀us,us.length=2->Q us
 | [_,_],_=>h _ _
def ar3{Q:List Value->Prop}(h:∀a0 a1 a2,Q [a0,a1,a2]):∀us,us.length=3->Q us
 | [_,_,_],_=>h _ _ _
abbrev Zn(K:qad)(x:Str):Prop:=PySem.W.nsIn K mainGlobals x=some none
abbrev Nn(X:Cx)(x:Str):Prop:=X.mg x=none
abbrev Sc(X:Cx)(s:Stmt):Prop:=X.env.scope=aO s
abbrev Gd(X:Cx)(N G:List Str)(k:Nat):Prop:=Good X N N G k
structure Ba (P:Program) (w:World) (K:qad) (mg:Str->Option Value) (base:Heap):Prop where
 kin:K.In base
 ns:base.Ns mainGlobals mg
structure EE (X:Cx) (P:Program) (w:World) (K:qad) (mg:Str->Option Value) (base:Heap):Prop where
 e1:X.prog=P
 e2:X.w=w
 e3:X.K=K
 e4:X.mg=mg
 e5:X.base=base
 b:Ba P w K mg base
section
variable {P:Program} {w:World} {K:qad} {mg:Str→Option Value} {base:Heap} {X:Cx}
def EE.n(e:EE X P w K mg base){x:Str}(z:Zn K x):Nn X x:=by
 show X.mg x=none;rw[e.e4];exact PySem.W.mg_none_of e.b.kin e.b.ns z
def FnAt.c{x:Str}{ps:List Str}{F:List PV->MH->Out PV}{i j:Nat}(a:FnAt P w K mg base x ps F i)(e:EE X P w K mg base)(h:i<=j:=by decide):Cal X x ps F j :=
 (a.mono h).cal e.e1 e.e2 e.e3 e.e4 e.e5
def fnN{x:Str}{st:Stmt}{N G ps:List Str}{m:Mst}{k:Nat}(b:Ba P w K mg base)(D:DefAt K x st)(hb:∀X:Cx,EE X P w K mg base->Sc X st->Gd X N G k->DefCx X->MSs X (aP st) m)
  (B:k8 x st ps:=by first | exact fun _ _ _ _ _ _=>ar1 fun _=>rfl | exact fun _ _ _ _ _ _=>ar2 fun _ _=>rfl | exact fun _ _ _ _ _ _=>ar3 fun _ _ _=>rfl | exact fun _ _ _ _ _ _=>ar4 fun _ _ _ _=>rfl | exact fun _ _ _ _ _ _=>ar5 fun _ _ _ _ _=>rfl)
  (S:FnScope N ps (aO st):=by exact⟨rfl,rfl,rfl,by decide +kernel,rfl,by decide +kernel,by decide +kernel⟩)
  (hl:∀y∈N,(aO st).names.lookup y=some .local\/(aO st).names.lookup y=some .cell:=by decide +kernel) (hgl:∀y∈G,(aO st).names.lookup y=some .globalImplicit:=by decide +kernel)
  (dbg:∀x∈N++G,(x == ("__debug__":Str))=false/\(x == ("__classdict__":Str))=false/\x≠"__name__":=by decide +kernel) :
  FnAt P w K mg base x ps (bE N.length ps.length m) (k+1) :=
 fnAt_M b.kin b.ns D S B hl hgl dbg fun X e1 e2 e3 e4 e5 e6 g dc=>hb X ⟨e1,e2,e3,e4,e5,b⟩ e6 g dc
end
structure YE (Y X:Cx):Prop where
 e1:Y.prog=X.prog
 e2:Y.w=X.w
 e3:Y.K=X.K
 e4:Y.mg=X.mg
 e5:Y.base=X.base
section
variable {X Y:Cx} {N W G:List Str} {k:Nat} {x:Str} {p pos:Pos} {e:Expr} {es:List Expr} {m:Mx (List PV)} {f:List PV→MH→Out PV}
def YE.n(y:YE Y X)(h:X.mg x=none):Y.mg x=none:=y.e4.symm▸h
def YE.c(y:YE Y X){ps:List Str}{F:List PV->MH->Out PV}{i:Nat}(c:Cal X x ps F i):Cal Y x ps F i:=c.at y.e1 y.e2 y.e3 y.e4 y.e5
def kV(g:Good X N W G k)(i:Nat)(hi:N[i]?=some x:=by rfl):ME X (.Name x pos) (ae i):=me_var g i hi
def kNm(g:Good X N W G k)(i:Nat)(hi:N[i]?=some x:=by rfl)(hw:W[i]?=some x:=by rfl):MG X (.Name x pos) (gNm i):=mg_name g i hi hw
def kSt(g:Good X N W G k)(i:Nat){e:Expr}{m:Mx PV}{pos':Pos}(he:ME X e m)(hi:N[i]?=some x:=by rfl)(hw:W[i]?=some x:=by rfl)(hs:swapsWith e (some (.Name x pos')) pos.line X.env=pure false:=by rfl) :
  MS X (.Assign [.Name x pos'] e pos) (bn i m):=ms_set g i hi hw he hs
def kIx{a b:Expr}{ma mb:Mx PV}(ha:ME X a ma)(hb:ME X b mb)(hs:oD b:=by exact fun _ _=>rfl):ME X (.Subscript a b pos) (ah aQ ma mb):=me_ix ha hb hs
def kCm{op:CmpOp}{f:PV->PV->MH->Out PV}{a b:Expr}{ma mb:Mx PV}(ho:OpJ X (compareOp op) f)(ha:ME X a ma)(hb:ME X b mb)(hm:behindInMarks op b=false:=by first | exact nomark _ | rfl):ME X (.Compare a [op] [b] pos) (ah f ma mb):=me_cmp ho ha hb hm
def kTc{op:CmpOp}{f:PV->PV->MH->Out PV}{a b:Expr}{ma mb:Mx PV}(ho:OpJ X (compareOp op) f)(ha:ME X a ma)(hb:ME X b mb)(hm:behindInMarks op b=false:=by first | exact nomark _ | rfl):MT X (.Compare a [op] [b] pos) (mB (ah f ma mb)):=mt_cmp ho ha hb hm
def kCa(g:Good X N W G k)(j:Nat){ps:List Str}{F:List PV->MH->Out PV}(C:Cal X x ps F k)(ha:MA X (e::es) m)(hj:G[j]?=some x:=by rfl)
  (he:starEach (e::es) X.env=(false,eval e X.env)::starEach es X.env:=by rfl) (hpl:(backTo pos (starEach es X.env)).any (·.1)=false:=by rfl):ME X (.Call (.Name x p) (e::es) [] pos) (aK F m):=me_call g hj C ha he hpl
def kCb{id:String}(g:Good X N W G k)(j:Nat)(hc:cH X (.builtin id) f)(hm:X.mg x=none)(hv:bootBuiltins x=some (.builtin id))(ha:MA X (e::es) m)(hj:G[j]?=some x:=by rfl)
  (he:starEach (e::es) X.env=(false,eval e X.env)::starEach es X.env:=by rfl) (hpl:(backTo pos (starEach es X.env)).any (·.1)=false:=by rfl):ME X (.Call (.Name x p) (e::es) [] pos) (mCB f m):=Ac g j hj hc hm hv ha he hpl
def kCt{T:String}(g:Good X N W G k)(j:Nat)(hc:cH X (.type T) f)(hm:X.mg x=none)(hv:bootBuiltins x=some (.type T))(ha:MA X (e::es) m)(hj:G[j]?=some x:=by rfl)
  (he:starEach (e::es) X.env=(false,eval e X.env)::starEach es X.env:=by rfl) (hpl:(backTo pos (starEach es X.env)).any (·.1)=false:=by rfl):ME X (.Call (.Name x p) (e::es) [] pos) (mCB f m):=xL g j hj hc hm hv ha he hpl
def kR1{tg a:Expr}(g:Good X N W G k)(j:Nat)(hm:X.mg "range"=none)(ha:MA X [a] m)(hj:G[j]?=some "range":=by rfl)(hs:starEach [a] X.env=[(false,eval a X.env)]:=by rfl):MI X tg (.Call (.Name "range" p) [a] [] pos) (d4 m):=xR (g.gl _ (aS hj)) hm ha hs
def kR2{tg a b:Expr}(g:Good X N W G k)(j:Nat)(hm:X.mg "range"=none)(ha:MA X [a,b] m)(hj:G[j]?=some "range":=by rfl)(hs:starEach [a,b] X.env=[(false,eval a X.env),(false,eval b X.env)]:=by rfl)(hs2:starEach [b] X.env=[(false,eval b X.env)]:=by rfl):MI X tg (.Call (.Name "range" p) [a,b] [] pos) (jQ m):=yN (g.gl _ (aS hj)) hm ha hs hs2
def kEn{elts:List Expr}{x1:Nat}{tp:Pos}{a:Expr}(g:Good X N W G k)(j:Nat)(hm:X.mg "enumerate"=none)(ha:MA X [a] m)(hj:G[j]?=some (("enumerate":String):Str):=by rfl)(hs:starEach [a] X.env=[(false,eval a X.env)]:=by rfl):MI X (.Tuple elts x1 tp) (.Call (.Name "enumerate" p) [a] [] pos) (sj m):=mi_enum g hj hm ha hs
section
variable {tg iter elt:Expr} {ifs:List Expr} {scope sc:Scope} {mi:Mx MIt} {gt:Mg} {mt:Mx Bool} {me:Mx PV}
def kCp(g:Good X N W G k)(hsc:X.env.scope=sc)(vars frees G':List Str)(fm:List Nat)(hi:MI X tg iter mi)(hY:∀Y:Cx,YE Y X->Good Y (vars++frees) vars G' k->MG Y tg gt/\MTs Y ifs mt/\ME Y elt me)
  (h1:scope.kind=.function:=by rfl) (h7:fm.map (fun i=>N[i]?)=frees.map some:=by rfl) (h:CPm scope sc vars frees:=by decide +kernel)
  (nd:(vars++frees).Nodup:=by decide +kernel) (hgl:∀x∈G',scope.names.lookup x=some .globalImplicit:=by decide +kernel) (dbg:∀x∈(vars++frees)++G',(x == ("__debug__":Str))=false/\(x == ("__classdict__":Str))=false/\x≠"__name__":=by decide +kernel)
  (hs:∀x,foldedSetIterable iter X.env x=pure x:=by exact fun _=>rfl):ME X (.ListComp elt [⟨tg,iter,ifs,0⟩] scope pos) (bB vars.length fm mi gt mt me) :=
 me_comp g (vU hsc h1 h7 h) nd hgl dbg hi (fun Y y1 y2 y3 y4 y5 _ g=>hY Y ⟨y1,y2,y3,y4,y5⟩ g) hs
def kSc{spos py:Pos}{y:Str}(g:Good X N W G k)(hsc:X.env.scope=sc)(i:Nat)(vars frees G':List Str)(fm:List Nat)(hi:MI X tg iter mi)(hY:∀Y:Cx,YE Y X->Good Y (vars++frees) vars G' k->MG Y tg gt/\MTs Y ifs mt/\ME Y elt me)
  (hsw:∀env:Env,env.scope=sc->swapsWith (.ListComp elt [⟨tg,iter,ifs,0⟩] scope pos) (some (.Name y py)) spos.line env=pure true:=by (intro env h;cases env;cases h;rfl))
  (hyi:N[i]?=some y:=by rfl) (hw:W[i]?=some y:=by rfl)
  (h1:scope.kind=.function:=by rfl) (h7:fm.map (fun i=>N[i]?)=frees.map some:=by rfl) (h:CPm scope sc vars frees:=by decide +kernel)
  (nd:(vars++frees).Nodup:=by decide +kernel) (hgl:∀x∈G',scope.names.lookup x=some .globalImplicit:=by decide +kernel) (dbg:∀x∈(vars++frees)++G',(x == ("__debug__":Str))=false/\(x == ("__classdict__":Str))=false/\x≠"__name__":=by decide +kernel)
  (hs:∀x,foldedSetIterable iter X.env x=pure x:=by exact fun _=>rfl):MS X (.Assign [.Name y py] (.ListComp elt [⟨tg,iter,ifs,0⟩] scope pos) spos) (bn i (bB vars.length fm mi gt mt me)) :=
 ms_setC g i hyi hw (hsw X.env hsc) (vU hsc h1 h7 h) nd hgl dbg hi (fun Y y1 y2 y3 y4 y5 _ g=>hY Y ⟨y1,y2,y3,y4,y5⟩ g) hs
end
end
abbrev yE:=@PyProof.Rows.Boot.«abs»
abbrev iS:=@PyProof.Rows.Boot.«min»
abbrev m6:=@PyProof.Rows.Boot.«max»
abbrev nt:=@PyProof.Rows.Boot.«int»
abbrev cO:=@PyProof.Rows.Boot.«len»
abbrev oP:=@PyProof.Rows.Boot.«list»
abbrev mG:=@PyProof.Rows.Boot.«tuple»
abbrev uT:=@PyProof.Rows.Boot.«repr»
abbrev xV:=@PyProof.Rows.Boot.«all»
abbrev yM:=@PyProof.Rows.Boot.«sorted»
abbrev pg:=@PyProof.Rows.Boot.«bool»
abbrev ic:=@PySem.F.slot_list_append
abbrev g8:=@PySem.F.type_list_append
abbrev qy:=@PySem.F.slot_list_extend
abbrev qD:=@PySem.F.type_list_extend
abbrev yg:=@PySem.F.slot_list_insert
abbrev xM:=@PySem.F.type_list_insert
abbrev AK:=@PySem.F.slot_list_index
abbrev zP:=@PySem.F.type_list_index
end MM
namespace PU
open PySem MM
open L2 (ixN atI gG)
local instance (priority:=1) cdecN15 (p:Prop):Decidable p:=Classical.propDecidable p
noncomputable section
def Rps.rev{p:Nat}{h:MH}{O:List Nat}{ds:List D}{vs:List PV}(r:Rps p h O ds vs):Rps p h O ds.reverse vs.reverse:=by
 induction ds generalizing vs with
 | nil=>rw[show vs=[] from r];rfl
 | cons d ds ih =>
  obtain⟨x,t,e,a,b⟩:=r;subst e;rw[qbP,qbP];exact (ih b).app ⟨x,[],rfl,a,rfl⟩
def zM{q:Nat}{h:MH}{O:List Nat}{ds:List D}{xs:List PV}(hi:Option Int)(r:Rps q h O ds xs):Rps q h O (L2.cr ds hi) (L2.cr xs hi):=by
 cases hi with
 | none=>exact r.rev
 | some k=>exact (r.drop _).rev
def rvD(d:D)(hi st:Option Int):Option D:=match d with
 | .lst ds=>if (∀k,hi=some k->0<=k)/\st=some (-1) then some (.lst (L2.cr ds hi)) else none
 | _=>none
def rv_ok{q:Nat}{h:MH}{L:Nat}{O:List Nat}{a d:D}{x:PV}{hi st:Option Int}(bd:Bd h O)(w:Vw q h L O a x)(e:rvD a hi st=some d):Gv q h O true (fRv x hi st h) d:=by
 cases a with
 | lst ds =>
  unfold rvD at e;dsimp only at e;by_cases z:(∀k,hi=some k->0<=k)/\st=some (-1)
  ·rw[qaf z] at e;cases e;obtain⟨n,xs,rfl,g,r⟩:=w.lst;simp only[fRv,g];rw[qaf z];have r:=zM hi r;have m:Mv O h O (h++[MO.lst (L2.cr xs hi)]):=⟨fun n hn _=>qam hn,fun o ho=>.inl ho⟩
   have m2:Mv O h (h.length::O) (h++[MO.lst (L2.cr xs hi)]):=⟨fun n hn _=>qam hn,fun o ho=>by
    rcases qar.mp ho with z|z
    ·exact .inr (by ext)
    ·exact .inl z⟩
   have g:(h++[MO.lst (L2.cr xs hi)])[h.length]?=some (.lst (L2.cr xs hi)):=by simp
   exact⟨_,_,rfl,⟨_,_,rfl,fun z=>by have:=bd _ z;ext,g,r.mv m⟩,fun _ ds' e=>by cases e;exact⟨_,_,rfl,qag _,g,r.mv m2⟩⟩
  ·rw[qak z] at e;cases e
 | _=>cases e
section
variable {ws:List Nat}
def xRv(a:Xe ws)(hi st:Xo ws):Xe ws where
 m:=mRv a.m hi.m st.m
 p:=fun env s=>(a.p env s).bind fun x s=>(hi.p env s).bind fun l s=>(st.p env s).bind fun u s=>.of (rvD x l u) s
 fz:=true
 fr:=true
 ok {q h L B O σ env s} c:=by
  refine (a.ok c).bind fun x v h1 s1 k1 p1 ⟨w,_,_⟩=>?_;have c1:=c.kb k1 p1;refine (hi.ok c1).bind fun l l' h2 s2 k2 p2 e=>?_;subst e;have c2:=c1.kb k2 p2;refine (st.ok c2).bind fun u u' h3 s3 k3 p3 e=>?_;subst e;have c3:=c2.kb k3 p3
  cases e:rvD x l u with
  | none=>trivial
  | some d =>
   obtain⟨y,g,e1,r,r'⟩:=rv_ok c3.bd ((w.kb k2 c.pO c.pL).kb k3 c.pO c.pL) e;exact give (qaD (qaD k1.len k2.len) k3.len) p3 ⟨y,g,by rw[e1];rfl,r,r'⟩
@[simp] theorem xRv_p{a:Xe ws}{hi st:Xo ws}{env:aC}{s:Pen}:(xRv a hi st).p env s=(a.p env s).bind fun x s=>(hi.p env s).bind fun l s=>(st.p env s).bind fun u s=>.of (rvD x l u) s:=rfl
end
def rvD_l{ds:List D}{hi:Option Int}(h:∀k,hi=some k->0<=k):rvD (.lst ds) hi (some (-1))=some (.lst (L2.cr ds hi)):=qaf ⟨h,rfl⟩
end
noncomputable section
def eqL(a b:D):Option D:=match a,b with
 | .lst xs,.lst ys=>if xs.length≠ys.length then some (.bl false) else eqD false a b
 | _,_=>eqD false a b
def opEqL_1{x y:PV}{h:MH}(e:lsO h x=none):opEqL x y h=opEq x y h:=by simp only[opEqL,e]
def opEqL_2{x y:PV}{h:MH}(e:lsO h y=none):opEqL x y h=opEq x y h:=by
 simp only[opEqL,e];cases lsO h x <;> rfl
def xG{q:Nat}{h:MH}{L:Nat}{O:List Nat}{d:D}{v:PV}{u:PyData}(w:Vw q h L O d v)(e:py d=some u)(nl:∀ds,d≠.lst ds):lsO h v=none:=by
 cases d with
 | non=>rw[w.non];rfl
 | bl b=>rw[w.bl];rfl
 | int b=>rw[w.int];rfl
 | str b=>rw[w.str];rfl
 | tup b=>obtain⟨xs,rfl,_⟩:=w.tup;rfl
 | lst ds=>exact absurd rfl (nl ds)
 | _=>cases e
def k5:Op2 where
 m:=opEqL
 p:=eqL
 fr:=true
 ok {q h L O a x b y d} bd wa wb e:=by
  have other:eqD false a b=some d->opEqL x y h=opEq x y h->Gv q h O true (opEqL x y h) d:=fun e1 e2=>by
   rw[e2];exact oEq.ok bd wa wb e1
  by_cases la:∃xs,a=.lst xs
  ·obtain⟨xs,rfl⟩:=la;by_cases lb:∃zs,b=.lst zs
   ·obtain⟨zs,rfl⟩:=lb;obtain⟨n,us,rfl,g,r⟩:=wa.lst;obtain⟨m,vs,rfl,g',r'⟩:=wb.lst;have l1:=r.length;have l2:=r'.length;have e0:opEqL (.loc n) (.loc m) h=if us.length≠vs.length then .ok (.bl false) h else opEq (.loc n) (.loc m) h:=by simp only[opEqL,lsO,g,g']
    unfold eqL at e;dsimp only at e;by_cases z:xs.length≠zs.length
    ·rw[qaf z] at e;cases e;rw[e0,qaf (by ext)];exact gvB
    ·rw[qak z] at e;exact other e (by rw[e0,qak (by ext)])
   ·have e1:eqD false (.lst xs) b=some d:=by
     cases b with
     | lst zs=>exact absurd ⟨zs,rfl⟩ lb
     | _=>exact e
    obtain⟨_,_,_,e3,_⟩:=iP e1;exact other e1 (opEqL_2 (xG wb e3 fun zs z=>lb ⟨zs,z⟩))
  ·have e1:eqD false a b=some d:=by
    cases a with
    | lst xs=>exact absurd ⟨xs,rfl⟩ la
    | _=>exact e
   obtain⟨_,_,e3,_⟩:=iP e1;exact other e1 (opEqL_1 (xG wa e3 fun zs z=>la ⟨zs,z⟩))
def y9{xs zs:List D}(h:xs.length≠zs.length):k5.p (.lst xs) (.lst zs)=some (.bl false):=by
 show eqL (.lst xs) (.lst zs)=_;unfold eqL;dsimp only;rw[qaf h]
def xW{xs zs:List D}(h:xs.length=zs.length):k5.p (.lst xs) (.lst zs)=eqD false (.lst xs) (.lst zs):=by
 show eqL (.lst xs) (.lst zs)=_;unfold eqL;dsimp only;rw[qak (by simpa using h)]
end
noncomputable section
def cLS:OpN where
 k:=fun vs h1=>match vs with
  | [x]=>(match (cM h1 x).bind dr with
   | some ns=>if ns.length<=1000 then .ok (.int (many ns)) h1 else .bad
   | none=>.bad)
  | _=>.bad
 p:=fun as=>match as with
  | [.lst ds]=>(cF ds).bind fun ns=>if ns.length<=1000 then some (.int (many ns)) else none
  | _=>none
 fr:=true
 ok {q h L O as xs d} bd w e:=by
  match as,e with
  | [.lst ds],e =>
   obtain⟨x,rfl,wx⟩:=dn w;obtain⟨zs,e0,r⟩:=wx.lstOf;rw[qaO] at e;obtain⟨ns,e1,e2⟩:=e;by_cases z:ns.length<=1000
   ·rw[qaf z] at e2;cases e2;simp only[e0,qaT,gq r e1,kU];rw[qaf z];exact gvI
   ·rw[qak z] at e2;cases e2
def cLS_i{ns:List Int}(h:ns.length<=1000):cLS.p [.lst (ns.map .int)]=some (.int (many ns)):=by
 have e:∀ns:List Int,cF (ns.map .int)=some ns:=fun ns=>by
  induction ns with
  | nil=>rfl
  | cons i k ih=>rw[qaG,cF,ih];rfl
 show (cF (ns.map .int)).bind _=_;rw[e,qaT,qaf h]
end
def oA{ns:List Int}:many ns=ns.length↔ns.Nodup:=by
 have key:∀j,j<=ns.length->(∀k,k∈PyProof.Rows.firstMet (fun i=>ns.getD i 0) j↔k∈ns.take j)/\((PyProof.Rows.firstMet (fun i=>ns.getD i 0) j).length=j↔(ns.take j).Nodup):=by
  intro j
  induction j with
  | zero=>intro _;simp[PyProof.Rows.firstMet_zero]
  | succ j ih =>
   intro hj;obtain⟨a,b⟩:=ih (by ext);have hj':j<ns.length:=by ext
   have et:ns.take (j+1)=ns.take j++[ns[j]]:=by rw[qbU];simp[hj']
   have eg:ns.getD j 0=ns[j]:=by simp[List.getD,hj']
   have ea:(PyProof.Rows.firstMet (fun i=>ns.getD i 0) j).any (· == ns.getD j 0)=decide (ns[j]∈ns.take j):=by
    rw[qcZ,qcO,decide_eq_true_iff,<-a,eg];exact⟨fun ⟨x,hx,e⟩=>by rw[<-eq_of_beq e];exact hx,fun h=>⟨_,h,by simp⟩⟩
   have hle:=PyProof.Rows.firstMet_length_le (fun i=>ns.getD i 0) j;rw[PyProof.Rows.firstMet_succ,et];constructor
   ·intro k
    have:=PyProof.Rows.step_any (PyProof.Rows.firstMet (fun i=>ns.getD i 0) j) (ns.getD j 0) k
    rw[qcZ,qcO,Bool.or_eq_true,qcO,decide_eq_true_iff,eg] at this;rw[qau,List.mem_singleton,<-a];constructor
    ·intro h;rw[eg] at h;rcases this.mp ⟨k,h,by simp⟩ with ⟨x,hx,e⟩|e
     ·rw[<-eq_of_beq e];exact .inl hx
     ·exact .inr e
    ·intro h;obtain⟨x,hx,e⟩:=this.mpr (h.imp (fun h=>⟨k,h,by simp⟩) id);rw[eg,<-eq_of_beq e];exact hx
   ·rw[PyProof.Rows.step_length,ea,qbY];by_cases z:ns[j]∈ns.take j
    ·simp only[z,decide_true,if_true];exact⟨fun h=>by ext,fun h=>absurd rfl (h.2.2 _ z _ (by simp))⟩
    ·simp only[z,decide_false,qac,if_false];constructor
     ·intro h
      exact⟨b.mp (by ext),by simp,fun x hx y hy e=>z (by
       have:y=ns[j]:=by simpa using hy
       rw[<-this,<-e];exact hx)⟩
     ·intro h
      have:=b.mpr h.1
      ext
 have:=(key ns.length (qag _)).2
 rw[qcr] at this;exact this
end PU
namespace PU
open PySem MM
open L2 (ixN atI gG)
section
variable {ws:List Nat}
def xNotT(a:Xe ws):Xe ws where
 m:=w9 a.m
 p:=fun env s=>(a.p env s).bind fun d s=>.of ((rW d).map fun b=>.bl (!b)) s
 fz:=true
 fr:=true
 ok {q h L B O σ env s} c:=by
  refine (a.ok c).bind fun x v h1 s1 k1 p1 ⟨w,_,_⟩=>?_
  cases e:rW x with
  | none=>trivial
  | some b=>rw[tq w e];exact⟨_,h1,rfl,KB.refl _ _,p1,.inl rfl,fun _=>rfl,fun _ es ee=>by cases ee⟩
@[simp] theorem xNotT_p{a:Xe ws}{env:aC}{s:Pen}:(xNotT a).p env s=(a.p env s).bind fun d s=>.of ((rW d).map fun b=>.bl (!b)) s:=rfl
end
end PU
namespace PU
open PySem MM L2
end PU
namespace PU
open PySem MM L2
local instance (priority:=1) cdecN22 (p:Prop):Decidable p:=Classical.propDecidable p
noncomputable section
def vP:OpR where
 m:=iU
 p:=fun ds as=>match as with
  | [x]=>(match py x,pys ds with
   | some u,some us=>if (dep x<=60/\deps ds<=60)/\u.canLay0=true/\PyData.canLayAll0 us=true then some (.int (us.countP (fun e=>PyData.eqv e u):Nat)) else none
   | _,_=>none)
  | _=>none
 ok {q h L O n xs ds as vs d} g r w e:=by
  match as,e with
  | [x],e =>
   obtain⟨v,rfl,wx⟩:=dn w;dsimp only at e
   cases e1:py x with
   | none=>rw[e1] at e;cases e
   | some u =>
    cases e2:pys ds with
    | none=>rw[e1,e2] at e;cases e
    | some us =>
     rw[e1,e2] at e;dsimp only at e;by_cases z:(dep x<=60/\deps ds<=60)/\u.canLay0=true/\PyData.canLayAll0 us=true
     ·rw[qaf z] at e;cases e;refine⟨.int (us.countP (fun e=>PyData.eqv e u):Nat),?_,rfl,fun _ z=>by cases z⟩;unfold iU;dsimp only;rw[g];dsimp only;rw[gR wx e1 z.1.1,rZ r e2 z.1.2];dsimp only;rw[qaf z.2]
     ·rw[qak z] at e;cases e
def gvS{q:Nat}{h:MH}{O:List Nat}{fr:Bool}{x:Str}:Gv q h O fr (.ok (.str x) h) (.str x):=gv0 rfl fun _ _ e=>by cases e
def jV(d:D):Option Str:=match d with
 | .non=>some "None"
 | .bl b=>some (if b then "True" else "False")
 | .int i=>if i.natAbs.log2<1920 then some (toString i) else none
 | .str x=>if (reprText x).length<=sizeLine then some (reprText x) else none
 | .dic=>some "{}"
 | .tup ds=>(match py (.tup ds) with
  | some e=>if dep (.tup ds)<=60/\e.showable=true/\e.shown.length<=sizeLine then some e.shown else none
  | none=>none)
 | .lst ds=>(match py (.lst ds) with
  | some e=>if dep (.lst ds)<=60/\e.showable=true/\e.shown.length<=sizeLine then some e.shown else none
  | none=>none)
 | _=>none
def wB:OpN where
 k:=fun xs h=>(fReprA xs h).ne
 p:=fun as=>match as with
  | [d]=>(jV d).map .str
  | _=>none
 fr:=true
 ok {q h L O as xs d} bd w e:=by
  match as,e with
  | [a],e =>
   obtain⟨x,rfl,wx⟩:=dn w;rw[qav] at e;obtain⟨u,e1,rfl⟩:=e
   cases a with
   | non=>cases e1;rw[wx.non];exact gvS
   | bl b=>cases e1;rw[wx.bl];exact gvS
   | int i =>
    rw[wx.int];unfold jV at e1;by_cases z:i.natAbs.log2<1920
    ·dsimp only at e1;rw[qaf z] at e1;cases e1;show Gv q h O true (fReprA [.int i] h).ne _;simp only[fReprA];rw[qaf z];exact gvS
    ·dsimp only at e1;rw[qak z] at e1;cases e1
   | str y =>
    rw[wx.str];unfold jV at e1;by_cases z:(reprText y).length<=sizeLine
    ·dsimp only at e1;rw[qaf z] at e1;cases e1;show Gv q h O true (fReprA [.str y] h).ne _;simp only[fReprA];rw[qaf z];exact gvS
    ·dsimp only at e1;rw[qak z] at e1;cases e1
   | dic =>
    cases e1;rcases wx with ⟨n,e,no,g⟩|⟨n,xs,ds,e,_⟩
    ·subst e;show Gv q h O true (fReprA [.loc n] h).ne _;simp only[fReprA,g];exact gvS
    ·cases e
   | tup ds =>
    unfold jV at e1;dsimp only at e1
    cases ep:py (.tup ds) with
    | none=>rw[ep] at e1;cases e1
    | some t =>
     rw[ep] at e1;dsimp only at e1;by_cases z:dep (.tup ds)<=60/\t.showable=true/\t.shown.length<=sizeLine
     ·rw[qaf z] at e1;cases e1;have rd1:=gR wx ep z.1;obtain⟨zs,rfl,_⟩:=wx.tup;show Gv q h O true (fReprA [.tup zs] h).ne _;simp only[fReprA,fRepr,rd1];rw[qaf z.2];exact gvS
     ·rw[qak z] at e1;cases e1
   | lst ds =>
    unfold jV at e1;dsimp only at e1
    cases ep:py (.lst ds) with
    | none=>rw[ep] at e1;cases e1
    | some t =>
     rw[ep] at e1;dsimp only at e1;by_cases z:dep (.lst ds)<=60/\t.showable=true/\t.shown.length<=sizeLine
     ·rw[qaf z] at e1;cases e1;have rd1:=gR wx ep z.1;obtain⟨n,zs,rfl,g,_⟩:=wx.lst;show Gv q h O true (fReprA [.loc n] h).ne _;simp only[fReprA,g,fRepr,rd1];rw[qaf z.2];exact gvS
     ·rw[qak z] at e1;cases e1
   | _=>cases e1
def oNeS:Op2 where
 m:=opNeS
 p:=fun a b=>match a,b with
  | .str x,.str y=>some (.bl (x.cps.toList != y.cps.toList))
  | a,b=>eqD true a b
 fr:=true
 ok {q h L O a x b y d} bd wa wb e:=by
  by_cases z:∃u v,a=.str u/\b=.str v
  ·obtain⟨u,v,rfl,rfl⟩:=z;cases e;rw[wa.str,wb.str];exact gvB
  ·have e1:eqD true a b=some d:=by
    revert e;split
    ·exact absurd ⟨_,_,rfl,rfl⟩ z
    ·exact id
   have k:=oNe.ok bd wa wb e1
   have:opNeS x y h=opNe x y h:=by
    unfold opNeS;split
    ·exfalso;obtain⟨p1,p2,h1,h2,_⟩:=iP e1;have sv:∀{a:D} {s:Str} {p:PyData},Vw q h L O a (.str s)->py a=some p->∃u,a=.str u:=fun {a s p} w ep=>by
      cases a with
      | str u=>exact⟨u,rfl⟩
      | non=>cases w.non
      | bl b=>cases w.bl
      | int b=>cases w.int
      | tup b=>obtain⟨xs,e,_⟩:=w.tup;cases e
      | lst b=>obtain⟨n,xs,e,_⟩:=w.lst;cases e
      | _=>cases ep
     obtain⟨u,hu⟩:=sv wa h1;obtain⟨v,hv⟩:=sv wb h2;exact z ⟨u,v,hu,hv⟩
    ·rfl
   rw[this];exact k
def x4{x:Str}:oNeS.p (.str x) (.str x)=some (.bl false):=by
 show some (D.bl (x.cps.toList != x.cps.toList))=_;simp
end
end PU
namespace Law
open PySem PySem.Spec PyProof.Rows L2 MM
set_option maxHeartbeats 4000000
noncomputable section
def m_is_whole:Mst:=(aR (jE (mUn (fI ["int"]) (ae 0)) (rl (mUn (fI ["bool"]) (ae 0)))))
def nZ:List PV->MH->Out PV:=bE 1 1 m_is_whole
def m_is_place:Mst:=(aR (jE (aK nZ (af (ae 1) mNil)) (gJ opLe opLt (mC (.int 0)) (ae 1) (ae 0))))
def nG:List PV->MH->Out PV:=bE 2 2 m_is_place
def m_rising_once:Mst:=(aR (mCB fTuple (af (mSS (af (bB 1 [] (cm (ae 0)) (gNm 0) mTrue (dE (af (mCB fMinS (af (ae 0) mNil)) (af (mCB fMaxS (af (ae 0) mNil)) mNil)))) mNil)) mNil)))
def dW:List PV->MH->Out PV:=bE 1 1 m_rising_once
def m_pairs_among:Mst:=(aI (bn 1 (bw mNil))
 (aI (fH (sj (af (ae 0) mNil)) (gTp (gCn (gNm 2) (gCn (gNm 3) gNl)) 2) (dN (mMt e7 (ae 1) (af (bB 1 [3] (cm (mSl (ae 0) (mPt (ah opAdd (ae 2) (mC (.int 1)))) mNo)) (gNm 0) mTrue (dE (af (ae 1) (af (ae 0) mNil)))) mNil))))
 (aR (ae 1))))
def j6:List PV->MH->Out PV:=bE 4 1 m_pairs_among
def m_sides:Mst:=(aR (aK dW (af (bB 2 [0] (sj (af (ae 0) mNil)) (gTp (gCn (gNm 0) (gCn (gNm 1) gNl)) 2) mTrue (dE (af (ah aQ (ae 2) (ah opSub (ae 0) (mC (.int 1)))) (af (ae 1) mNil)))) mNil)))
def ll:List PV->MH->Out PV:=bE 1 1 m_sides
def m_is_ring:Mst:=(aI (mIf (mOr (fC (mB (mUn (fI ["list"]) (ae 1)))) (mB (ah opLt (mCB fLen (af (ae 1) mNil)) (mC (.int 3))))) (aR (mC (.bl false))) mSkip)
 (aI (mIf (fC (mB (mCB fAll (af (bB 1 [0] (cm (ae 1)) (gNm 0) mTrue (aK nG (af (ah aQ (ae 1) (mC (.int 0))) (af (ae 0) mNil)))) mNil)))) (aR (mC (.bl false))) mSkip)
 (aI (mIf (mB (ah opNe (mLS (af (ae 1) mNil)) (mCB fLen (af (ae 1) mNil)))) (aR (mC (.bl false))) mSkip)
 (aR (mCB fAll (af (bB 1 [0] (cm (aK ll (af (ae 1) mNil))) (gNm 0) mTrue (ah (fG false) (ae 0) (ah aQ (ae 1) (mC (.int 1))))) mNil))))))
def gU:List PV->MH->Out PV:=bE 2 2 m_is_ring
def m_pairs_apart:Mst:=(aI (bn 1 (aK ll (af (ae 0) mNil)))
 (aR (bB 1 [1] (cm (aK dW (af (aK j6 (af (ae 0) mNil)) mNil))) (gNm 0) (mB (ah (fG true) (ae 0) (ae 1))) (ae 0))))
def kf:List PV->MH->Out PV:=bE 2 1 m_pairs_apart
def m_chords_of:Mst:=(aR (bB 1 [0] (cm (aK kf (af (ae 1) mNil))) (gNm 0) (mB (ah (fG false) (ae 0) (ah aQ (ae 1) (mC (.int 1))))) (ae 0)))
def lL:List PV->MH->Out PV:=bE 2 2 m_chords_of
def m_is_bare:Mst:=(aR (jE (aK gU (af (ae 0) (af (ae 1) mNil))) (jE (ah opGe (mCB fLen (af (ae 1) mNil)) (mC (.int 4))) (w9 (aK lL (af (ae 0) (af (ae 1) mNil)))))))
def pE:List PV->MH->Out PV:=bE 2 2 m_is_bare
def m_l_pen:Mst:=(aI (bn 2 (ah opAdd (ah opMul (mC (.int 7919)) (ae 1)) (mC (.int 11))))
 (aI (mIf (mB (ah opLt (ae 1) (mCB fMin (af (mCB fLen (af (ae 0) mNil)) (af (mC (.int 63)) mNil))))) (bn 2 (ah aQ (ae 0) (ae 1))) (mIf (mB (ah opGt (mCB fLen (af (ae 0) mNil)) (mC (.int 0)))) (bn 2 (ah opAdd (ah opMod (ah aQ (ae 0) (ah opMod (ae 1) (mCB fMin (af (mCB fLen (af (ae 0) mNil)) (af (mC (.int 63)) mNil))))) (ah opPow (mC (.int 10)) (mC (.int 15)))) (ah opMul (mC (.int 48271)) (ae 1)))) mSkip))
 (aI (mIf (mB (ah opGe (mCB fAbs (af (ae 2) mNil)) (ah opPow (mC (.int 10)) (mC (.int 18))))) (aR (bw (af (mC (.int 1)) (af (mCB fAbs (af (ae 2) mNil)) (af (mC (.int 0)) mNil))))) mSkip)
 (aR (bw (af (mC (.int 0)) (af (ah opAdd (ah opMod (ae 2) (mC (.int 2147483587))) (ah opMul (mC (.int 40009)) (ae 1))) (af (mC (.int 0)) mNil))))))))
def jb:List PV->MH->Out PV:=bE 3 2 m_l_pen
def m_l_draw:Mst:=(aI (mAsg (ah opAdd (ah aQ (ae 0) (mC (.int 2))) (mC (.int 1))) (gSb (ae 0) (mC (.int 2))))
 (aI (mIf (mB (ah opEq (ah aQ (ae 0) (mC (.int 0))) (mC (.int 1)))) (aI (bn 3 (ah opMod (ah aQ (ae 0) (mC (.int 1))) (ae 1)))
 (aI (mAsg (ah opFd (ah aQ (ae 0) (mC (.int 1))) (ae 1)) (gSb (ae 0) (mC (.int 1))))
 (aR (ae 3)))) mSkip)
 (aI (bn 2 (ah opMod (ah opMul (ah opAdd (ah opAdd (ah aQ (ae 0) (mC (.int 1))) (ah opMul (mC (.int 40503)) (ah aQ (ae 0) (mC (.int 2))))) (mC (.int 1))) (mC (.int 48271))) (mC (.int 2147483647))))
 (aI (bn 2 (ah opMod (ah opMul (ae 2) (ah opAdd (ah opAdd (ah opMod (ae 2) (mC (.int 65521))) (ah aQ (ae 0) (mC (.int 2)))) (mC (.int 3)))) (mC (.int 2147483629))))
 (aR (ah opMod (ah opFd (ah opMod (ah opMul (ae 2) (ah opAdd (ah opMod (ae 2) (mC (.int 8191))) (mC (.int 7)))) (mC (.int 2147483563))) (mC (.int 64))) (ae 1)))))))
def aU:List PV->MH->Out PV:=bE 4 2 m_l_draw
def m_l_rounds:Mst:=(aR (mCB fMax (af (mC (.int 4)) (af (mCB fMin (af (mCB fLen (af (ae 0) mNil)) (af (ae 1) mNil))) mNil))))
def eK:List PV->MH->Out PV:=bE 2 2 m_l_rounds
def m_l_order:Mst:=(aI (bn 2 (bw mNil))
 (aI (fH (d4 (af (ae 1) mNil)) (gNm 3) (dN (mMt iQ (ae 2) (af (aK aU (af (ae 0) (af (ah opAdd (ae 3) (mC (.int 1))) mNil))) (af (ae 3) mNil)))))
 (aR (ae 2))))
def g7:List PV->MH->Out PV:=bE 4 2 m_l_order
def m_l_pairs:Mst:=(aI (bn 1 (bw mNil))
 (aI (fH (sj (af (ae 0) mNil)) (gTp (gCn (gNm 2) (gCn (gNm 3) gNl)) 2) (dN (mMt e7 (ae 1) (af (bB 1 [3] (cm (mSl (ae 0) (mPt (ah opAdd (ae 2) (mC (.int 1)))) mNo)) (gNm 0) mTrue (dE (af (ae 1) (af (ae 0) mNil)))) mNil))))
 (aR (ae 1))))
def pV:List PV->MH->Out PV:=bE 4 1 m_l_pairs
def m_l_shape:Mst:=(aI (bn 2 (aK aU (af (ae 0) (af (mC (.int 8)) mNil))))
 (aI (mIf (mB (ah opLt (ae 2) (mC (.int 4)))) (aR (bB 1 [0,2] (cm (aK pV (af (mLR (af (ae 1) mNil)) mNil))) (gNm 0) (mB (ah opEq (aK aU (af (ae 1) (af (ah aQ (bw (af (mC (.int 2)) (af (mC (.int 3)) (af (mC (.int 4)) (af (mC (.int 6)) mNil))))) (ae 2)) mNil))) (mC (.int 0)))) (ae 0))) mSkip)
 (aI (mIf (mB (ah opEq (ae 2) (mC (.int 4)))) (aR (bB 1 [0] (jQ (af (mC (.int 1)) (af (ae 1) mNil))) (gNm 0) mTrue (dE (af (aK aU (af (ae 1) (af (ae 0) mNil))) (af (ae 0) mNil))))) mSkip)
 (aI (mIf (mB (ah opEq (ae 2) (mC (.int 5)))) (aR (ah opAdd (bB 1 [] (jQ (af (mC (.int 1)) (af (ae 1) mNil))) (gNm 0) (mB (ah opGt (ah opMod (ae 0) (mC (.int 3))) (mC (.int 0)))) (dE (af (ah opSub (ae 0) (mC (.int 1))) (af (ae 0) mNil)))) (bB 1 [] (jQ (af (mC (.int 3)) (af (ae 1) mNil))) (gNm 0) mTrue (dE (af (ah opSub (ae 0) (mC (.int 3))) (af (ae 0) mNil)))))) mSkip)
 (aI (bn 3 (ah opAdd (bB 1 [] (jQ (af (mC (.int 1)) (af (ae 1) mNil))) (gNm 0) mTrue (dE (af (ah opSub (ae 0) (mC (.int 1))) (af (ae 0) mNil)))) (ah opMul (bw (af (dE (af (mC (.int 0)) (af (ah opSub (ae 1) (mC (.int 1))) mNil))) mNil)) (mCB fInt (af (ah opGt (ae 1) (mC (.int 2))) mNil)))))
 (aI (mIf (mOr (mB (ah opEq (ae 2) (mC (.int 6)))) (mB (ah opLt (ae 1) (mC (.int 4))))) (aR (ae 3)) mSkip)
 (aR (ah opAdd (ae 3) (bw (af (dE (af (aK aU (af (ae 0) (af (mC (.int 2)) mNil))) (af (ah opAdd (mC (.int 2)) (aK aU (af (ae 0) (af (ah opSub (ae 1) (mC (.int 2))) mNil)))) mNil))) mNil))))))))))
def pN:List PV->MH->Out PV:=bE 4 2 m_l_shape
def m_l_web:Mst:=(aI (bn 2 (aK aU (af (ae 0) (af (ah opAdd (ae 1) (mC (.int 1))) mNil))))
 (aI (mIf (mB (ah opEq (aK aU (af (ae 0) (af (mC (.int 4)) mNil))) (mC (.int 3)))) (bn 2 (ae 1)) mSkip)
 (aI (bn 3 (aK g7 (af (ae 0) (af (ae 2) mNil))))
 (aI (bn 4 (bw mNil))
 (aI (fH (cm (aK pN (af (ae 0) (af (ae 2) mNil)))) (gTp (gCn (gNm 5) (gCn (gNm 6) gNl)) 2) (dN (mMt cw (ae 4) (af (dE (af (mCB fMin (af (ah aQ (ae 3) (ae 5)) (af (ah aQ (ae 3) (ae 6)) mNil))) (af (mCB fMax (af (ah aQ (ae 3) (ae 5)) (af (ah aQ (ae 3) (ae 6)) mNil))) mNil))) mNil))))
 (aR (dE (af (ae 2) (af (mCB fTuple (af (mSS (af (ae 4) mNil)) mNil)) mNil)))))))))
def v6:List PV->MH->Out PV:=bE 7 2 m_l_web
def m_l_near:Mst:=(aI (bn 1 (bB 1 [] (d4 (af (ah aQ (ae 0) (mC (.int 0))) mNil)) (gNm 0) mTrue (bw mNil)))
 (aI (fH (cm (ah aQ (ae 0) (mC (.int 1)))) (gTp (gCn (gNm 2) (gCn (gNm 3) gNl)) 2) (aI (dN (mMt cw (ah aQ (ae 1) (ae 2)) (af (ae 3) mNil)))
 (dN (mMt cw (ah aQ (ae 1) (ae 3)) (af (ae 2) mNil)))))
 (aR (bB 1 [] (cm (ae 1)) (gNm 0) mTrue (mCB fSorted (af (ae 0) mNil))))))
def gF:List PV->MH->Out PV:=bE 4 1 m_l_near
def m_l_walk:Mst:=(aI (bn 3 (bw (af (ae 2) mNil)))
 (aI (fH (d4 (af (mC (.int 13)) mNil)) (gNm 4) (aI (bn 5 (bB 1 [3] (cm (ah aQ (ae 1) (ah aQ (ae 3) (mUn opNeg (mC (.int 1)))))) (gNm 0) (mB (ah (fG true) (ae 0) (mSl (ae 1) (mPt (mUn opNeg (mC (.int 2)))) mNo))) (ae 0)))
 (aI (mIf (mB (ah opEqL (ae 5) (bw mNil))) (aR (ae 3)) mSkip)
 (aI (bn 6 (ah aQ (ae 5) (aK aU (af (ae 0) (af (mCB fLen (af (ae 5) mNil)) mNil)))))
 (aI (mIf (mB (ah (fG false) (ae 6) (ae 3))) (aR (mSl (ae 3) (mPt (mMt kG (ae 3) (af (ae 6) mNil))) mNo)) mSkip)
 (dN (mMt cw (ae 3) (af (ae 6) mNil))))))))
 (aR (ae 3))))
def uc:List PV->MH->Out PV:=bE 7 3 m_l_walk
def m_l_some:Mst:=(aI (mIf (mB (ah opEq (ah aQ (ae 1) (mC (.int 0))) (mC (.int 0)))) (aR (bw mNil)) mSkip)
 (aI (bn 2 (aK aU (af (ae 0) (af (mC (.int 4)) mNil))))
 (aI (mIf (mB (ah opGt (ae 2) (mC (.int 0)))) (aR (aK uc (af (ae 0) (af (aK gF (af (ae 1) mNil)) (af (aK aU (af (ae 0) (af (ah aQ (ae 1) (mC (.int 0))) mNil))) mNil))))) mSkip)
 (aR (mSl (aK g7 (af (ae 0) (af (ah aQ (ae 1) (mC (.int 0))) mNil))) mNo (mPt (ah opAdd (mC (.int 3)) (aK aU (af (ae 0) (af (mC (.int 5)) mNil))))))))))
def tH:List PV->MH->Out PV:=bE 3 2 m_l_some
def m_l_bent:Mst:=(aI (bn 3 (aK aU (af (ae 0) (af (ah opAdd (mCB fLen (af (ae 2) mNil)) (mC (.int 1))) mNil))))
 (aI (bn 4 (aK aU (af (ae 0) (af (ah opAdd (ae 1) (mC (.int 1))) mNil))))
 (aI (bn 5 (bw (af (ae 2) (af (ah opAdd (mSl (ae 2) (mPt (ae 3)) mNo) (mSl (ae 2) mNo (mPt (ae 3)))) (af (mRv (ae 2) mNo (mPt (mUn opNeg (mC (.int 1))))) (af (mCB fTuple (af (ae 2) mNil)) (af (ah opAdd (ae 2) (mSl (ae 2) mNo (mPt (mC (.int 1))))) (af (ah opAdd (ah opAdd (mSl (ae 2) mNo (mPt (ae 3))) (bw (af (ae 4) mNil))) (mSl (ae 2) (mPt (ae 3)) mNo)) mNil))))))))
 (aI (bn 5 (ah opAdd (ae 5) (bw (af (ah opAdd (mSl (ae 2) mNo (mPt (ae 3))) (mSl (ae 2) (mPt (ah opAdd (ae 3) (mC (.int 1)))) mNo)) (af (ah opAdd (ah opAdd (mSl (ae 2) mNo (mPt (ae 3))) (bw (af (ae 4) mNil))) (mSl (ae 2) (mPt (ah opAdd (ae 3) (mC (.int 1)))) mNo)) (af (ah opAdd (ah opAdd (mSl (ae 2) mNo (mPt (ae 3))) (bw (af (mUn opNeg (mC (.int 1))) mNil))) (mSl (ae 2) (mPt (ah opAdd (ae 3) (mC (.int 1)))) mNo)) mNil))))))
 (aI (bn 5 (ah opAdd (ae 5) (bw (af (bB 1 [] (cm (ae 2)) (gNm 0) mTrue (ah aQ (bw (af (ae 0) (af (ah opGt (ae 0) (mC (.int 0))) mNil))) (mCB fInt (af (ah opLt (ae 0) (mC (.int 2))) mNil)))) (af (ah opAdd (ah opAdd (mSl (ae 2) mNo (mPt (ae 3))) (bw (af (mC (.str "0")) mNil))) (mSl (ae 2) (mPt (ah opAdd (ae 3) (mC (.int 1)))) mNo)) (af (bw (af (ae 2) mNil)) (af (mC .non) (af (mC (.str "012")) mNil))))))))
 (aI (bn 5 (ah opAdd (ae 5) (bw (af mDic (af (ae 1) (af (mSl (ae 2) mNo (mPt (mC (.int 2)))) (af (bw mNil) (af (dE mNil) (af (ah opAdd (mSl (ae 2) mNo (mPt (ae 3))) (bw (af (bw mNil) mNil))) (af (mC (.bl true)) (af (mCB fList (af (ae 2) mNil)) (af (mSl (ae 2) mNo (mPt (mC (.int 3)))) (af (mSl (ae 2) mNo (mPt (mC (.int 4)))) mNil)))))))))))))
 (aR (ah aQ (ae 5) (aK aU (af (ae 0) (af (mCB fLen (af (ae 5) mNil)) mNil)))))))))))
def uk:List PV->MH->Out PV:=bE 6 3 m_l_bent
def m_l_is_ring:Mst:=(aI (mIf (mOr (fC (mB (mUn (fI ["list"]) (ae 1)))) (mB (ah opLt (mCB fLen (af (ae 1) mNil)) (mC (.int 3))))) (aR (mC (.bl false))) mSkip)
 (aI (fH (cm (ae 1)) (gNm 2) (mIf (mOr (fC (mB (mUn (fI ["int"]) (ae 2)))) (mOr (mB (mUn (fI ["bool"]) (ae 2))) (mOr (fC (mB (gJ opLe opLt (mC (.int 0)) (ae 2) (ah aQ (ae 0) (mC (.int 0)))))) (mB (ah opGt (mMt iU (ae 1) (af (ae 2) mNil)) (mC (.int 1))))))) (aR (mC (.bl false))) mSkip))
 (aI (bn 3 (bB 2 [] (mItZ (af (ae 1) (af (ah opAdd (mSl (ae 1) (mPt (mC (.int 1))) mNo) (mSl (ae 1) mNo (mPt (mC (.int 1))))) mNil))) (gTp (gCn (gNm 0) (gCn (gNm 1) gNl)) 2) mTrue (dE (af (mCB fMin (af (ae 0) (af (ae 1) mNil))) (af (mCB fMax (af (ae 0) (af (ae 1) mNil))) mNil)))))
 (aR (ah opEqL (bB 1 [0] (cm (ae 3)) (gNm 0) (mB (ah (fG true) (ae 0) (ah aQ (ae 1) (mC (.int 1))))) (ae 0)) (bw mNil))))))
def e9:List PV->MH->Out PV:=bE 4 2 m_l_is_ring
def m_l_is_bare:Mst:=(aI (mIf (mOr (fC (mB (aK e9 (af (ae 0) (af (ae 1) mNil))))) (mB (ah opLt (mCB fLen (af (ae 1) mNil)) (mC (.int 4))))) (aR (mC (.bl false))) mSkip)
 (aR (ah opEq (mCB fLen (af (bB 1 [1] (cm (ah aQ (ae 0) (mC (.int 1)))) (gNm 0) (mAnd (mB (ah (fG false) (ah aQ (ae 0) (mC (.int 0))) (ae 1))) (mB (ah (fG false) (ah aQ (ae 0) (mC (.int 1))) (ae 1)))) (ae 0)) mNil)) (mCB fLen (af (ae 1) mNil)))))
def lR:List PV->MH->Out PV:=bE 2 2 m_l_is_bare
def m_l_right:Mst:=(aI (bn 1 (aK v6 (af (ae 0) (af (mC (.int 12)) mNil))))
 (aI (fH (d4 (af (mC (.int 5)) mNil)) (gNm 2) (aI (bn 3 (aK uk (af (ae 0) (af (ah aQ (ae 1) (mC (.int 0))) (af (aK tH (af (ae 0) (af (ae 1) mNil))) mNil)))))
 (aI (bn 4 (mCB fReprA (af (ae 3) mNil)))
 (aI (bn 5 (bw (af (aK gU (af (ae 1) (af (ae 3) mNil))) (af (aK pE (af (ae 1) (af (ae 3) mNil))) mNil))))
 (aI (mIf (mOr (mB (ah opNe (bB 1 [] (cm (ae 5)) (gNm 0) (fC (mB (mUn (fI ["bool"]) (ae 0)))) (mC (.int 1))) (bw mNil))) (mB (ah opNeS (mCB fReprA (af (ae 3) mNil)) (ae 4)))) (aR (mC (.bl false))) mSkip)
 (mIf (mB (ah opNe (ae 5) (bw (af (aK e9 (af (ae 1) (af (ae 3) mNil))) (af (aK lR (af (ae 1) (af (ae 3) mNil))) mNil))))) (aR (mC (.bl false))) mSkip))))))
 (aR (mC (.bl true)))))
def fu:List PV->MH->Out PV:=bE 6 1 m_l_right
def m_law:Mst:=(aI (fH (d4 (af (aK eK (af (ae 0) (af (mC (.int 30)) mNil))) mNil)) (gNm 1) (mIf (fC (mB (aK fu (af (aK jb (af (ae 0) (af (ae 1) mNil))) mNil)))) (aR (mC (.bl false))) mSkip))
 (aR (mC (.bl true))))
def f_law:List PV->MH->Out PV:=bE 2 1 m_law
end
end Law
namespace Law
open PySem MM PU SetT SortT
open L2 (ixN atI gG)
set_option maxHeartbeats 4000000
noncomputable section
def fR:Xd []:=(bO (nP (xUn (eV ["int"]) (ac 0)) (xNotV (xUn (eV ["bool"]) (ac 0)))))
def fP:Fn:=cV 1 1 fR
def lT{ds:List D}{s:Pen}(h:ds.length=1):fP.p ds s=(fR.p (dSt 1 ds) s).fin:=bW h
def fQ:Xd []:=(bO (nP (aF fP (ab (ac 1) xNil)) (rR oLe oLt (xC (.int 0)) (ac 1) (ac 0))))
def dL:Fn:=cV 2 2 fQ
def mf{ds:List D}{s:Pen}(h:ds.length=2):dL.p ds s=(fQ.p (dSt 2 ds) s).fin:=bW h
def fB:Xd []:=(bO (xCb k6 (ab (xCb cSS (ab (bC 1 [] (bK (ac 0)) (ws':=[]) (xNm 0) xTrue (bQ (ab (xCb rf (ab (ac 0) xNil)) (ab (xCb rn (ab (ac 0) xNil)) xNil)))) xNil)) xNil)))
def cZ:Fn:=cV 1 1 fB
def oz{ds:List D}{s:Pen}(h:ds.length=1):cZ.p ds s=(fB.p (dSt 1 ds) s).fin:=bW h
def qS:Xd [1]:=(aW (jA 1 (bI xNil))
 (aW (kw (cX iE (ab (ac 0) xNil)) (xGp (xGc (xNm 2) (xGc (xNm 3) xGl)) 2) (xMt lp 1 (ab (bC 1 [3] (bK (xSl (ac 0) (xPt (aj bq (ac 2) (xC (.int 1)))) xNo)) (ws':=[]) (xNm 0) xTrue (bQ (ab (ac 1) (ab (ac 0) xNil)))) xNil)))
 (js 1)))
def fK:Fn:=cV 4 1 qS
def pd:Xd []:=(bO (aF cZ (ab (bC 2 [0] (cX iE (ab (ac 0) xNil)) (ws':=[]) (xGp (xGc (xNm 0) (xGc (xNm 1) xGl)) 2) xTrue (bQ (ab (aj oIx (ac 2) (aj eS (ac 0) (xC (.int 1)))) (ab (ac 1) xNil)))) xNil)))
def f8:Fn:=cV 1 1 pd
def Au{ds:List D}{s:Pen}(h:ds.length=1):f8.p ds s=(pd.p (dSt 1 ds) s).fin:=bW h
def fo:Xd []:=(aW (xIf (xOr (jD (xB (xUn (eV ["list"]) (ac 1)))) (xB (aj oLt (xCb fL (ab (ac 1) xNil)) (xC (.int 3))))) (bO (xC (.bl false))) xSkip)
 (aW (xIf (jD (xB (xCb oJ (ab (bC 1 [0] (bK (ac 1)) (ws':=[]) (xNm 0) xTrue (aF dL (ab (aj oIx (ac 1) (xC (.int 0))) (ab (ac 0) xNil)))) xNil)))) (bO (xC (.bl false))) xSkip)
 (aW (xIf (xB (aj oNe (xCb cLS (ab (ac 1) xNil)) (xCb fL (ab (ac 1) xNil)))) (bO (xC (.bl false))) xSkip)
 (bO (xCb oJ (ab (bC 1 [0] (bK (aF f8 (ab (ac 1) xNil))) (ws':=[]) (xNm 0) xTrue (aj (oIn false) (ac 0) (aj oIx (ac 1) (xC (.int 1))))) xNil))))))
def fw:Fn:=cV 2 2 fo
def jf{ds:List D}{s:Pen}(h:ds.length=2):fw.p ds s=(fo.p (dSt 2 ds) s).fin:=bW h
def fM:Xd []:=(aW (b9 1 (aF f8 (ab (ac 0) xNil)))
 (bO (bC 1 [1] (bK (aF cZ (ab (aF fK (ab (ac 0) xNil)) xNil))) (ws':=[]) (xNm 0) (xB (aj (oIn true) (ac 0) (ac 1))) (ac 0))))
def dR:Fn:=cV 2 1 fM
def o7{ds:List D}{s:Pen}(h:ds.length=1):dR.p ds s=(fM.p (dSt 2 ds) s).fin:=bW h
def iI:Xd []:=(bO (bC 1 [0] (bK (aF dR (ab (ac 1) xNil))) (ws':=[]) (xNm 0) (xB (aj (oIn false) (ac 0) (aj oIx (ac 1) (xC (.int 1))))) (ac 0)))
def iC:Fn:=cV 2 2 iI
def tf{ds:List D}{s:Pen}(h:ds.length=2):iC.p ds s=(iI.p (dSt 2 ds) s).fin:=bW h
def hG:Xd []:=(bO (nP (aF fw (ab (ac 0) (ab (ac 1) xNil))) (nP (aj oGe (xCb fL (ab (ac 1) xNil)) (xC (.int 4))) (xNotT (aF iC (ab (ac 0) (ab (ac 1) xNil)))))))
def g9:Fn:=cV 2 2 hG
def nA{ds:List D}{s:Pen}(h:ds.length=2):g9.p ds s=(hG.p (dSt 2 ds) s).fin:=bW h
def pi{h:MH}{p:Nat}{o:MO}(hp:p<h.length):(h.set p o)[p]?=some o:=qaF hp
def ix2:ixN 3 2=some 2:=u7 (n:=3) (m:=2) (by decide)
def ix1:ixN 3 1=some 1:=u7 (n:=3) (m:=1) (by decide)
def iV(s:Pen)(size:Int)(hs:0<size)(hl:size.natAbs.log2<9000):∃x:Int × Int,(0<=x.1/\x.1<size)/\∀(h:MH) (p:Nat),cG h p s->aU [.loc p,.int size] h=.ok (.int x.1) (h.set p (.lst [.int s.1,.int x.2,.int (s.2.2+1)])):=by
 obtain⟨m,c,t⟩:=s;have hs0:size≠0:=by ext
 have st:∀n:Int,0<=n.fmod size/\n.fmod size<size:=fun n=>by
  rw[qcd n (by ext)];exact⟨qcW n hs0,qcB n hs⟩
 by_cases hm:m=1
 ·subst hm;refine⟨(c.fmod size,c.fdiv size),st c,fun h p e=>?_⟩;have e:h[p]?=some (.lst [.int 1,.int c,.int t]):=e;have hp:p<h.length:=(qae.mp e).1;have e2:(h.set p (.lst [.int 1,.int c,.int (t+1)]))[p]?=some (.lst [.int 1,.int c,.int (t+1)]):=pi hp;unfold aU;refine (gf (by rfl)).trans ?_;unfold m_l_draw;simp[bS,List.replicate,gM e,mJ e,ix2,gM e2,e8 hs0,vK hs0 hl,mJ e2,ix1]
 ·have big:∀n k:Int,0<k->0<=n.fmod k/\n.fmod k<k:=fun n k hk=>by
   rw[qcd n (by ext)];exact⟨qcW n (by ext),qcB n hk⟩
  generalize ea:((c+40503 * (t+1)+1) * 48271).fmod 2147483647=A;have b1:=big ((c+40503 * (t+1)+1) * 48271) 2147483647 (by decide);rw[ea] at b1;generalize eb:(A * (A.fmod 65521+(t+1)+3)).fmod 2147483629=C;have b2:=big (A * (A.fmod 65521+(t+1)+3)) 2147483629 (by decide);rw[eb] at b2;refine⟨((((C * (C.fmod 8191+7)).fmod 2147483563).fdiv 64).fmod size,c),st _,fun h p e=>?_⟩;have e:h[p]?=some (.lst [.int m,.int c,.int t]):=e;have hp:p<h.length:=(qae.mp e).1;have e2:(h.set p (.lst [.int m,.int c,.int (t+1)]))[p]?=some (.lst [.int m,.int c,.int (t+1)]):=pi hp;have c1:-(2 ^ 64)<A/\A<2 ^ 64:=by ext
  have c2:-(2 ^ 64)<C/\C<2 ^ 64:=by ext
  have k1:∀{i:Int} {h:MH},opMul (.int 40503) (.int i) h=.ok (.int (40503 * i)) h:=gk (by decide);have k2:∀{i:Int} {h:MH},opMul (.int i) (.int 48271) h=.ok (.int (i * 48271)) h:=opMul_r (by decide);unfold aU;refine (gf (by rfl)).trans ?_;unfold m_l_draw;simp[bS,List.replicate,gM e,mJ e,ix2,gM e2,hm,k1,k2,e8,ea,gk c1,eb,gk c2,vK (show (64:Int)≠0 by decide) (show (64:Int).natAbs.log2<9000 by decide +kernel),e8 hs0]
open Classical in
def lB(s:Pen)(size:Int):Int × Int:=if z:0<size/\size.natAbs.log2<9000 then (iV s size z.1 z.2).choose else (0,0)
def nK(ds:List D):Option Int:=match ds with
 | [.pen,.int i]=>some i
 | _=>none
def w8{ds:List D}{i:Int}(e:nK ds=some i):ds=[.pen,.int i]:=by
 unfold nK at e
 split at e
 ·cases e;rfl
 ·cases e
open Classical in
def aZ:Fn where
 m:=aU
 p:=fun ds s=>match nK ds with
  | some size=>if 0<size/\size.natAbs.log2<9000 then .ok (.int (lB s size).1) (s.1,(lB s size).2,s.2.2+1) else .bad
  | none=>.bad
 fr:=true
 ok {q h O vs ds s} bd hq pn r:=by
  cases e:nK ds with
  | none=>trivial
  | some size =>
   have:=w8 e
   subst this;dsimp only;by_cases z:0<size/\size.natAbs.log2<9000
   ·rw[qaf z];obtain⟨x,t,rfl,hx,y,t',rfl,hy,ht⟩:=r;rw[show x=PV.loc q from hx,show y=PV.int size from hy,show t'=[] from ht];have k:=(iV s size z.1 z.2).choose_spec.2 h q pn;have ed:lB s size=(iV s size z.1 z.2).choose:=by unfold lB;rw[dif_pos z]
    rw[<-ed] at k;refine⟨_,_,k,⟨by simp,fun n hn hp=>qan (Ne.symm hp)⟩,pi (bz pn),rfl,fun _ ds e=>by cases e⟩
   ·rw[qak z];trivial
open Classical in
theorem cC{s:Pen}{size:Int}(hs:0<size)(hl:size<=2000000000):∃d s',0<=d/\d<size/\aZ.p [.pen,.int size] s=.ok (.int d) s':=by
 have hlog:size.natAbs.log2<9000:=by
  have h1:size.natAbs<=2000000000:=by ext
  have h2:size.natAbs.log2<31:=(Nat.log2_lt (by ext)).mpr (by ext);ext
 have z:0<size/\size.natAbs.log2<9000:=⟨hs,hlog⟩;have ed:lB s size=(iV s size z.1 z.2).choose:=by unfold lB;rw[dif_pos z]
 have k:=(iV s size z.1 z.2).choose_spec.1;rw[<-ed] at k;exact⟨_,_,k.1,k.2,by show (if 0<size/\size.natAbs.log2<9000 then _ else _)=_;rw[qaf z]⟩
def ku:Xd [2]:=(aW (jA 2 (bI xNil))
 (aW (kw (cX iR1 (ab (ac 1) xNil)) (xNm 3) (xMt o9 2 (ab (aF aZ (ab (ac 0) (ab (aj bq (ac 3) (xC (.int 1))) xNil))) (ab (ac 3) xNil))))
 (js 2)))
def im:Fn:=cV 4 2 ku
def w4{ds:List D}{s:Pen}(h:ds.length=2):im.p ds s=(ku.p (dSt 4 ds) s).fin:=bW h
def kF:Xd [1]:=(aW (jA 1 (bI xNil))
 (aW (kw (cX iE (ab (ac 0) xNil)) (xGp (xGc (xNm 2) (xGc (xNm 3) xGl)) 2) (xMt lp 1 (ab (bC 1 [3] (bK (xSl (ac 0) (xPt (aj bq (ac 2) (xC (.int 1)))) xNo)) (ws':=[]) (xNm 0) xTrue (bQ (ab (ac 1) (ab (ac 0) xNil)))) xNil)))
 (js 1)))
def gS:Fn:=cV 4 1 kF
def wL{ds:List D}{s:Pen}(h:ds.length=1):gS.p ds s=(kF.p (dSt 4 ds) s).fin:=bW h
def kJ:Xd []:=(aW (b9 2 (aF aZ (ab (ac 0) (ab (xC (.int 8)) xNil))))
 (aW (xIf (xB (aj oLt (ac 2) (xC (.int 4)))) (bO (bC 1 [0,2] (bK (aF gS (ab (xCb cLR (ab (ac 1) xNil)) xNil))) (ws':=[]) (xNm 0) (xB (aj oEq (aF aZ (ab (ac 1) (ab (aj oIx (bI (ab (xC (.int 2)) (ab (xC (.int 3)) (ab (xC (.int 4)) (ab (xC (.int 6)) xNil))))) (ac 2)) xNil))) (xC (.int 0)))) (ac 0))) xSkip)
 (aW (xIf (xB (aj oEq (ac 2) (xC (.int 4)))) (bO (bC 1 [0] (cX iR2 (ab (xC (.int 1)) (ab (ac 1) xNil))) (ws':=[]) (xNm 0) xTrue (bQ (ab (aF aZ (ab (ac 1) (ab (ac 0) xNil))) (ab (ac 0) xNil))))) xSkip)
 (aW (xIf (xB (aj oEq (ac 2) (xC (.int 5)))) (bO (aj bq (bC 1 [] (cX iR2 (ab (xC (.int 1)) (ab (ac 1) xNil))) (ws':=[]) (xNm 0) (xB (aj oGt (aj oMod (ac 0) (xC (.int 3))) (xC (.int 0)))) (bQ (ab (aj eS (ac 0) (xC (.int 1))) (ab (ac 0) xNil)))) (bC 1 [] (cX iR2 (ab (xC (.int 3)) (ab (ac 1) xNil))) (ws':=[]) (xNm 0) xTrue (bQ (ab (aj eS (ac 0) (xC (.int 3))) (ab (ac 0) xNil)))))) xSkip)
 (aW (b9 3 (aj bq (bC 1 [] (cX iR2 (ab (xC (.int 1)) (ab (ac 1) xNil))) (ws':=[]) (xNm 0) xTrue (bQ (ab (aj eS (ac 0) (xC (.int 1))) (ab (ac 0) xNil)))) (aj oMul (bI (ab (bQ (ab (xC (.int 0)) (ab (aj eS (ac 1) (xC (.int 1))) xNil))) xNil)) (xCb kO (ab (aj oGt (ac 1) (xC (.int 2))) xNil)))))
 (aW (xIf (xOr (xB (aj oEq (ac 2) (xC (.int 6)))) (xB (aj oLt (ac 1) (xC (.int 4))))) (bO (ac 3)) xSkip)
 (bO (aj bq (ac 3) (bI (ab (bQ (ab (aF aZ (ab (ac 0) (ab (xC (.int 2)) xNil))) (ab (aj bq (xC (.int 2)) (aF aZ (ab (ac 0) (ab (aj eS (ac 1) (xC (.int 2))) xNil)))) xNil))) xNil))))))))))
def kH:Fn:=cV 4 2 kJ
def wE{ds:List D}{s:Pen}(h:ds.length=2):kH.p ds s=(kJ.p (dSt 4 ds) s).fin:=bW h
def pq:Xd [4]:=(aW (b9 2 (aF aZ (ab (ac 0) (ab (aj bq (ac 1) (xC (.int 1))) xNil))))
 (aW (xIf (xB (aj oEq (aF aZ (ab (ac 0) (ab (xC (.int 4)) xNil))) (xC (.int 3)))) (b9 2 (ac 1)) xSkip)
 (aW (b9 3 (aF im (ab (ac 0) (ab (ac 2) xNil))))
 (aW (jA 4 (bI xNil))
 (aW (kw (bK (aF kH (ab (ac 0) (ab (ac 2) xNil)))) (xGp (xGc (xNm 5) (xGc (xNm 6) xGl)) 2) (xMt lE 4 (ab (bQ (ab (xCb oX (ab (aj oIx (ac 3) (ac 5)) (ab (aj oIx (ac 3) (ac 6)) xNil))) (ab (xCb oZ (ab (aj oIx (ac 3) (ac 5)) (ab (aj oIx (ac 3) (ac 6)) xNil))) xNil))) xNil)))
 (bO (bQ (ab (ac 2) (ab (xCb k6 (ab (xCb cSS (ab (ac 4) xNil)) xNil)) xNil)))))))))
def lz:Fn:=cV 7 2 pq
def AF{ds:List D}{s:Pen}(h:ds.length=2):lz.p ds s=(pq.p (dSt 7 ds) s).fin:=bW h
def aN(b n:Nat):List PV:=(List.range n).map fun i=>PV.loc (b+1+i)
def vc{b n:Nat}:aN b (n+1)=aN b n++[.loc (b+1+n)]:=by simp[aN,qcm]
def ii{b n:Nat}:(aN b n).length=n:=by simp[aN]
def sG{b n i:Nat}(h:i<n):(aN b n)[i]?=some (.loc (b+1+i)):=by simp[aN,h]
def oK{it:MIt}{h:MH}{gt:Mg}{me:Mx PV}{fr:PSt}(ok:∀g,it.ok (h++g))(f:Nat->MO):∀(xs:List PV) (j:Nat) (v:Option PV) (pre:List MO),pre.length=j->j+xs.length<=500 ->
  (∀(i:Nat) (x:PV) (v:Option PV) (g:MH),xs[i]?=some x->∃v',gt x (v::fr) (h++g)=.nx (v'::fr) (h++g)/\me (v'::fr) (h++g)=.ok (.loc (h++g).length) (h++g++[f (j+i)])) ->
  cGo it h.length gt mTrue me xs (v::fr) (h++.lst (aN h.length j)::pre)=.ok () (h++.lst (aN h.length (j+xs.length))::(pre++(List.range xs.length).map fun i=>f (j+i)))
 | [],j,v,pre,hp,hl,body=>by rw[cGo_nil (ok _)];simp
 | x::r,j,v,pre,hp,hl,body=>by
  obtain⟨v',e1,e2⟩:=body 0 x v (.lst (aN h.length j)::pre) rfl;have el:(h++MO.lst (aN h.length j)::pre++[f (j+0)])[h.length]?=some (.lst (aN h.length j)):=by rw[qaV];exact nN
  rw[cGo_yes (ok _) e1 rfl e2 el (by rw[ii];simp at hl;ext)];have es:(h++MO.lst (aN h.length j)::pre++[f (j+0)]).set h.length (.lst (aN h.length j++[.loc (h++MO.lst (aN h.length j)::pre).length]))=h++.lst (aN h.length (j+1))::(pre++[f (j+0)]):=by
   rw[qaV,qcU _ _ (qag _),vc];simp[hp];ext
  rw[es,oK ok f r (j+1) v' (pre++[f (j+0)]) (by simp[hp]) (by simp at hl;ext) (fun i y v g hy=>by
   have:=body (i+1) y v g (by simpa using hy)
   rwa [show j+(i+1)=j+1+i by ext] at this)]
  have e3:(List.range (r.length+1)).map (fun i=>f (j+i))=f (j+0)::(List.range r.length).map (fun i=>f (j+1+i)):=by
   rw[qcn,qaG,qbj];congr 1;refine qcx fun i _=>?_;simp only[Function.comp_apply];congr 1;ext
  rw[qaE,e3,show j+(r.length+1)=j+1+r.length by ext];simp
def bA(v:Int):List (List Int)->List Int
 | []=>[]
 | [a,b]::ks=>(if a=v then [b] else [])++(if b=v then [a] else [])++bA v ks
 | _::ks=>bA v ks
def gI{v:Int}:∀(xs ys:List (List Int)),bA v (xs++ys)=bA v xs++bA v ys
 | [],ys=>rfl
 | [a,b]::ks,ys=>by show _++_++bA v (ks++ys)=_;rw[gI ks ys];simp[bA]
 | []::ks,ys=>gI ks ys
 | [a]::ks,ys=>gI ks ys
 | (a::b::c::r)::ks,ys=>gI ks ys
def gA{v:Int}:∀(ks:List (List Int)),(bA v ks).length<=2 * ks.length
 | []=>by simp[bA]
 | [a,b]::ks=>by
  have:=gA (v:=v) ks
  simp only[bA,qay,qaE]
  split <;> split <;> simp <;> ext
 | []::ks=>by have:=gA (v:=v) ks;simp only[bA,qaE];ext
 | [a]::ks=>by have:=gA (v:=v) ks;simp only[bA,qaE];ext
 | (a::b::c::r)::ks=>by have:=gA (v:=v) ks;simp only[bA,qaE];ext
def eI{v:Int}:∀(ks:List (List Int)),(bA v ks).Perm (below v ks++above v ks)
 | []=>.nil
 | [a,b]::ks=>by
  have ih:=eI (v:=v) ks;rw[List.perm_iff_count] at ih ⊢;intro x
  have:=ih x
  have e1:below v ([a,b]::ks)=(if b=v then [a] else [])++below v ks:=by
   unfold below;by_cases z:b=v <;> simp[z]
  have e2:above v ([a,b]::ks)=(if a=v then [b] else [])++above v ks:=by
   unfold above;by_cases z:a=v <;> simp[z]
  rw[e1,e2];simp only[bA,List.count_append] at this ⊢;ext
 | []::ks=>eI ks
 | [a]::ks=>eI ks
 | (a::b::c::r)::ks=>eI ks
def col_srt{n v:Int}{ks:List (List Int)}(w:WebT n ks):eN (bA v ks)=below v ks++above v ks :=
 lU (tz _) (nbs_ris w) ((gQ _).trans (eI ks))
def v4{n v:Int}{ks:List (List Int)}(w:WebT n ks):(below v ks++above v ks).length<=12:=by
 have:=List.Nodup.length_le_of_subset (l₂:=upto 12) (r6 (v:=v) w).1 fun x hx=>by
  rw[jR]
  have:=(r6 (v:=v) w).2 x hx
  have:=w.n12
  ext
 simpa [upto] using this
def bX(n:Nat)(c:Nat->List Int):List MO:=(List.range n).map fun v=>MO.lst ((c v).map .int)
def jt{n:Nat}{c:Nat->List Int}{i:Nat}(h:i<n):(bX n c)[i]?=some (.lst ((c i).map .int)):=by simp[bX,h]
def Al{n:Nat}{c:Nat->List Int}{i:Nat}{x:Int}(h:i<n):(bX n c).set i (.lst ((c i).map .int++[.int x]))=bX n fun v=>if v=i then c v++[x] else c v:=by
 apply qbu;intro j;by_cases hj:j<n
 ·rw[jt hj];by_cases z:i=j
  ·subst z;rw[qaF (by simpa [bX] using h)];simp
  ·rw[qan z,jt hj,qak (fun q=>z q.symm)]
 ·rw[qaN (by simp[bX];ext),qaN (by simp[bX];ext)]
def yK{h:MH}{n:Nat}{ks:List (List Int)}(w:WebT n ks):∃g:MH,gF [.tup [.int n,.tup (ks.map kP)]] h=.ok (.loc (h.length+n+1)) (h++g)/\(h++g)[h.length+n+1]?=some (.lst (aN (h.length+n+1) n)) /\
  ∀v<n,(h++g)[h.length+n+1+1+v]?=some (.lst ((below v ks++above v ks).map .int)):=by
 unfold gF;rw[gf (by rfl)];unfold m_l_near;have n12:=w.n12;have kl:=jz w.n12 w.tie w.nd;generalize hT:PV.tup (ks.map kP)=T;have sA:bn 1 (bB 1 [] (d4 (af (ah aQ (ae 0) (mC (.int 0))) mNil)) (gNm 0) mTrue (bw mNil)) (bS 4 [.tup [.int n,T]]) h=.nx [some (.tup [.int n,T]),some (.loc h.length),none,none] (h++.lst (aN h.length n)::bX n fun _=>[]):=by
  have er:=itR1 (m:=af (ah aQ (ae 0) (mC (.int 0))) mNil) (σ:=[some (.tup [.int n,T]),none,none,none]) (h:=h) (h1:=h) (n:=n) (by simp) (by ext)
  have ec:=oK (it:=⟨bF 0 n,[]⟩) (h:=h) (gt:=gNm 0) (me:=bw mNil) (fr:=[]) (fun g=>px.mpr trivial) (fun _=>.lst []) (bF 0 n) 0 none [] rfl (by rw[jH];ext) (fun i x v g hx=>⟨some x,rfl,by
   rw[mLst_ap,o8];exact nX (by simp)⟩)
  rw[jH] at ec;have e1:bB 1 [] (d4 (af (ah aQ (ae 0) (mC (.int 0))) mNil)) (gNm 0) mTrue (bw mNil) [some (.tup [.int n,T]),none,none,none] h=.ok (.loc h.length) (h++.lst (aN h.length n)::bX n fun _=>[]):=by
   rw[sK,er];simp -implicitDefEqProofs only[Out.bind_ok];have e2:cSt 1 [] [some (PV.tup [.int n,T]),none,none,none]=[none]:=rfl;rw[e2];have e3:h++[MO.lst []]=h++MO.lst (aN h.length 0)::[]:=rfl;rw[e3,ec];simp[bX]
  have e0:bS 4 [PV.tup [.int n,T]]=[some (.tup [.int n,T]),none,none,none]:=rfl;rw[mSet_ap,e0,e1,aw];rfl
 obtain⟨σ',h',e,a2,a3,hσ,hh'⟩:=pr (it:=⟨ks.map kP,[]⟩) (g:=gTp (gCn (gNm 2) (gCn (gNm 3) gNl)) 2) (b:=aI (dN (mMt cw (ah aQ (ae 1) (ae 2)) (af (ae 3) mNil)))
   (dN (mMt cw (ah aQ (ae 1) (ae 3)) (af (ae 2) mNil))))
  (fun j σ a=>∃a2 a3,σ=[some (.tup [.int n,T]),some (.loc h.length),a2,a3]/\a=h++.lst (aN h.length n)::bX n fun v=>bA v (ks.take j))
  (ks.map kP) 0 [some (.tup [.int n,T]),some (.loc h.length),none,none] (h++.lst (aN h.length n)::bX n fun _=>[]) ⟨none,none,rfl,by simp[bA]⟩ (fun _ _ _ _=>px.mpr trivial)
  (fun j σ a x ⟨a2,a3,eσ,ea⟩ hx=>by
   rw[qaU] at ea ⊢;subst eσ ea;rw[qao,qav] at hx;obtain⟨k,hk,rfl⟩:=hx;have hkm:=qaI hk;obtain⟨va,vb,rfl,b0,b1,b2⟩:=w.tie k hkm;obtain⟨x,rfl⟩:=dw b0;obtain⟨y,rfl⟩:=dw (show 0<=vb by ext);have hxn:x<n:=by ext
   have hyn:y<n:=by ext
   have hcl:∀v:Int,(bA v (ks.take j)).length<=132:=fun v=>by
    have:=gA (v:=v) (ks.take j)
    simp at this;ext
   have ix:∀(i:Nat) (g:List MO) (c:List MO),i<n->aQ (.loc h.length) (.int (i:Int)) (h++.lst (aN h.length n)::c)=.ok (.loc (h.length+1+i)) (h++.lst (aN h.length n)::c):=fun i g c hi=>by
    rw[gM nN,L2.dj (sG hi)];rfl
   have gt:∀(i:Nat) (c:Nat->List Int),i<n->(h++MO.lst (aN h.length n)::bX n c)[h.length+1+i]?=some (.lst ((c i).map .int)):=fun i c hi=>by
    rw[show h.length+1+i=h.length+(i+1) by ext,wl,qbC];exact jt hi
   have st:∀(i:Nat) (c:Nat->List Int) (z:Int),i<n->List.set (h++MO.lst (aN h.length n)::bX n c) (h.length+1+i) (.lst ((c i).map .int++[.int z]))=h++MO.lst (aN h.length n)::bX n (fun v=>if v=i then c v++[z] else c v):=fun i c z hi=>by
    rw[show h.length+1+i=h.length+(i+1) by ext,set_app,qaJ,Al hi]
   have ap:∀(i:Nat) (c:Nat->List Int) (z:Int),i<n->(c i).length<900->cw (h.length+1+i) [.int z] (h++MO.lst (aN h.length n)::bX n c)=.ok .non (h++MO.lst (aN h.length n)::bX n (fun v=>if v=i then c v++[z] else c v)):=fun i c z hi hl=>by
    rw[wD (gt i c hi) (by simp;ext),st i c z hi]
   refine⟨[some (.tup [.int n,T]),some (.loc h.length),some (.int (x:Int)),some (.int (y:Int))],_,[some (.tup [.int n,T]),some (.loc h.length),some (.int (x:Int)),some (.int (y:Int))],h++.lst (aN h.length n)::bX n (fun v=>bA v (ks.take (j+1))),by simp[kP];rfl,?_,some (.int (x:Int)),some (.int (y:Int)),rfl,rfl⟩;have o1:ah aQ (ae 1) (ae 2) [some (.tup [.int n,T]),some (.loc h.length),some (.int (x:Int)),some (.int (y:Int))] (h++.lst (aN h.length n)::bX n fun v=>bA v (ks.take j))=.ok (.loc (h.length+1+x)) (h++.lst (aN h.length n)::bX n fun v=>bA v (ks.take j)):=by
    simp[ix x [] _ hxn]
   have o2:∀c:Nat->List Int,ah aQ (ae 1) (ae 3) [some (.tup [.int n,T]),some (.loc h.length),some (.int (x:Int)),some (.int (y:Int))] (h++.lst (aN h.length n)::bX n c)=.ok (.loc (h.length+1+y)) (h++.lst (aN h.length n)::bX n c):=fun c=>by
    simp[ix y [] _ hyn]
   have p1:=ap x (fun v=>bA v (ks.take j)) y hxn (by have:=hcl x;ext);have p2:=ap y (fun v=>if v=x then bA v (ks.take j)++[(y:Int)] else bA v (ks.take j)) x hyn (by have:=hcl y;split <;> simp <;> ext);rw[f6,sS,uX o1 (gt x _ hxn)];simp only[sM,o8,sn,tJ,Out.bind_ok,p1,Out.ne_ok,aw,sU,MM.au];rw[sS,uX (o2 _) (gt y _ hyn)];simp only[sM,o8,sn,tJ,Out.bind_ok,p2,Out.ne_ok,aw,sU];have key:(fun v:Nat=>if v=y then (if v=x then bA v (ks.take j)++[(y:Int)] else bA v (ks.take j))++[(x:Int)] else if v=x then bA v (ks.take j)++[(y:Int)] else bA v (ks.take j))=fun v:Nat=>bA v (ks.take (j+1)):=?_;rw[key];funext v;have et:ks.take (j+1)=ks.take j++[[(x:Int),(y:Int)]]:=by rw[qbU,hk];rfl
   rw[et,gI];have hne:x≠y:=by ext
   by_cases z1:v=x
   ·subst z1;simp[bA,hne,show ¬((y:Int)=(v:Int)) by ext]
   ·by_cases z2:v=y
    ·subst z2;simp[bA,z1,show ¬((x:Int)=(v:Int)) by ext]
    ·simp[bA,z1,z2,show ¬((x:Int)=(v:Int)) by ext,show ¬((y:Int)=(v:Int)) by ext])
 rw[qat,qaU,qcr] at hh';subst hσ hh';generalize hH:h++MO.lst (aN h.length n)::bX n (fun v=>bA v ks)=H at e;have HL:H.length=h.length+n+1:=by rw[<-hH];simp[bX];ext
 have eF:H[h.length]?=some (.lst (aN h.length n)):=by rw[<-hH];exact nN
 have eC:∀i<n,H[h.length+1+i]?=some (.lst ((bA i ks).map .int)):=fun i hi=>by
  rw[<-hH,show h.length+1+i=h.length+(i+1) by ext,wl,qbC];exact jt hi
 have ec:=oK (it:=⟨aN h.length n,[(h.length,aN h.length n)]⟩) (h:=H) (gt:=gNm 0) (me:=mCB fSorted (af (ae 0) mNil)) (fr:=[]) (fun g=>ok_some.mpr (app_l eF)) (fun v=>.lst ((eN (bA v ks)).map .int)) (aN h.length n) 0 none [] rfl (by rw[ii];ext) (fun i x v g hx=>by
   have hi:i<n:=by have:=(qae.mp hx).1;rwa [ii] at this
   rw[sG hi] at hx;cases hx;refine⟨some (.loc (h.length+1+i)),rfl,?_⟩
   have:=x5 (h:=H++g) (app_l (eC i hi)) (by
    rw[(eI ks).length_eq];have:=v4 (v:=(i:Int)) w;ext)
   simp[this])
 rw[ii] at ec;refine⟨MO.lst (aN h.length n)::bX n (fun v=>bA v ks)++MO.lst (aN H.length n)::(List.range n).map (fun (v:Nat)=>MO.lst ((eN (bA v ks)).map .int)),?_,?_,fun v hv=>?_⟩
 ·have s2:cm (ah aQ (ae 0) (mC (.int 1))) [some (.tup [.int n,T]),some (.loc h.length),none,none] (h++.lst (aN h.length n)::bX n fun _=>[])=.ok ⟨ks.map kP,[]⟩ (h++.lst (aN h.length n)::bX n fun _=>[]):=by
   simp[<-hT]
  have s3:bB 1 [] (cm (ae 1)) (gNm 0) mTrue (mCB fSorted (af (ae 0) mNil)) [some (.tup [.int n,T]),some (.loc h.length),a2,a3] H=.ok (.loc H.length) (H++MO.lst (aN H.length n)::(List.range n).map (fun (v:Nat)=>MO.lst ((eN (bA v ks)).map .int))):=by
   have ei:cm (ae 1) [some (.tup [.int n,T]),some (.loc h.length),a2,a3] H=.ok ⟨aN h.length n,[(h.length,aN h.length n)]⟩ H:=by
    rw[mItS_ap];simp -implicitDefEqProofs only[sn,tJ,Out.bind_ok];exact yv eF
   rw[sK,ei];simp -implicitDefEqProofs only[Out.bind_ok];have e2:cSt 1 [] [some (PV.tup [.int n,T]),some (.loc h.length),a2,a3]=[none]:=rfl;rw[e2];have e3:H++[MO.lst []]=H++MO.lst (aN H.length 0)::[]:=rfl;rw[e3,ec];simp
  rw[f6,sA,MM.au,f6,uU,s2,aw,e,MM.au,mRet_ap,s3,rt_ok,MM.bM,HL,<-hH];simp
 ·rw[<-qaV,hH,<-HL];exact nN
 ·rw[<-qaV,hH,<-HL,show H.length+1+v=H.length+(v+1) by ext,wl,qbC,qao,qch hv];simp[col_srt w]
def kD_inj:∀{xs zs:List (List Int)},xs.map kD=zs.map kD->xs=zs:=by
 have one:∀{a b:List Int},a.map D.int=b.map D.int->a=b:=by
  intro a
  induction a with
  | nil=>intro b e;cases b with | nil=>rfl | cons _ _=>cases e
  | cons x a ih =>
   intro b e
   cases b with
   | nil=>cases e
   | cons y b =>
    injection e with e1 e2
    injection e1 with e1
    rw[e1,ih e2]
 intro xs
 induction xs with
 | nil=>intro zs e;cases zs with | nil=>rfl | cons _ _=>cases e
 | cons x xs ih =>
  intro zs e
  cases zs with
  | nil=>cases e
  | cons z zs =>
   injection e with e1 e2
   injection e1 with e1
   rw[one e1,ih e2]
def fZ(n:Nat)(ks:List (List Int)):D:=.lst ((List.range n).map fun (v:Nat)=>.lst ((below (v:Int) ks++above (v:Int) ks).map .int))
def sY{q:Nat}{h:MH}{O:List Nat}{b:Nat}{c:Nat->List Int}:∀(n:Nat),(∀v<n,b+1+v∉O/\h[b+1+v]?=some (.lst ((c v).map .int)))->Rps q h O ((List.range n).map fun v=>.lst ((c v).map .int)) (aN b n)
 | 0,_=>rfl
 | n+1,hc=>by
  rw[qcm,qcy,vc];refine (sY n fun v hv=>hc v (by ext)).app ⟨.loc (b+1+n),[],rfl,⟨_,_,rfl,(hc n (by ext)).1,(hc n (by ext)).2,jm _⟩,rfl⟩
def vd{q:Nat}{h:MH}{O:List Nat}:∀(k:List Int) (u:List PV),Rps q h O (k.map .int) u->u=k.map .int
 | [],_,r=>r
 | i::k,_,⟨y,t,e,ry,rt⟩=>by rw[e,show y=PV.int i from ry,vd k t rt];rfl
def sk{q:Nat}{h:MH}{O:List Nat}:∀(ks:List (List Int)) (u:List PV),Rps q h O (ks.map kD) u->u=ks.map kP
 | [],_,r=>r
 | k::ks,_,⟨y,t,e,⟨u,ey,ru⟩,rt⟩=>by rw[e,ey,vd k u ru,sk ks t rt];rfl
open Classical in
def mF:Fn where
 m:=gF
 p:=fun ds s=>if h:∃x:Nat × List (List Int),WebT x.1 x.2/\ds=[.tup [.int x.1,.tup (x.2.map kD)]] then .ok (fZ h.choose.1 h.choose.2) s else .bad
 fr:=false
 ok {q h O vs ds s} bd hq pn r:=by
  by_cases z:∃x:Nat × List (List Int),WebT x.1 x.2/\ds=[.tup [.int x.1,.tup (x.2.map kD)]]
  ·rw[dif_pos z];obtain⟨w,e⟩:=z.choose_spec;generalize z.choose=x at w e ⊢;obtain⟨n,ks⟩:=x;have ev:vs=[.tup [.int n,.tup (ks.map kP)]]:=by
    rw[e] at r;obtain⟨v,t,rfl,⟨us,rfl,a,us1,rfl,ra,b,us2,rfl,⟨us3,rfl,rb⟩,rfl⟩,rfl⟩:=r;rw[show a=PV.int (n:Int) from ra]
    have:us3=ks.map kP:=sk ks us3 rb
    rw[this]
   rw[ev];obtain⟨g,e1,e2,e3⟩:=yK (h:=h) w;refine⟨_,_,e1,KB.app _ _ _,pn.app,⟨_,_,rfl,fun y=>by have:=bd _ y;ext,e2,?_⟩,fun y=>by cases y⟩;exact sY n fun v hv=>⟨fun y=>by have:=bd _ y;ext,e3 v hv⟩
  ·rw[dif_neg z];trivial
open Classical in
theorem near_p{n:Nat}{ks:List (List Int)}{s:Pen}(w:WebT n ks):mF.p [.tup [.int (n:Int),.tup (ks.map kD)]] s=.ok (fZ n ks) s:=by
 have z:∃x:Nat × List (List Int),WebT x.1 x.2/\[D.tup [.int (n:Int),.tup (ks.map kD)]]=[.tup [.int x.1,.tup (x.2.map kD)]]:=⟨(n,ks),w,rfl⟩;show (if h:_ then _ else _)=_;rw[dif_pos z];obtain⟨_,e⟩:=z.choose_spec;generalize z.choose=x at e ⊢;obtain⟨n',ks'⟩:=x;injection e with e _
 injection e with e
 injection e with e1 e
 injection e1 with e1
 injection e with e _
 injection e with e
 have e2:=kD_inj e;have e1:n=n':=by exact Int.ofNat_inj.mp e1
 rw[<-e1,<-e2]
abbrev wkB:Xd [3]:=(aW (b9 5 (bC 1 [3] (bK (aj oIx (ac 1) (aj oIx (ac 3) (xUn gN (xC (.int 1)))))) (ws':=[1]) (xNm 0) (xB (aj (oIn true) (ac 0) (xSl (ac 1) (xPt (xUn gN (xC (.int 2)))) xNo))) (ac 0)))
 (aW (xIf (xB (aj k5 (ac 5) (bI xNil))) (js 3) xSkip)
 (aW (b9 6 (aj oIx (ac 5) (aF aZ (ab (ac 0) (ab (xCb fL (ab (ac 5) xNil)) xNil)))))
 (aW (xIf (xB (aj (oIn false) (ac 6) (ac 3))) (bO (xSl (ac 3) (xPt (xMr yq (ac 3) (ab (ac 6) xNil))) xNo)) xSkip)
 (xMt lE 3 (ab (ac 6) xNil))))))
def mS:Xd [3]:=(aW (jA 3 (bI (ab (ac 2) xNil)))
 (aW (kw (cX iR1 (ab (xC (.int 13)) xNil)) (xNm 4) wkB)
 (js 3)))
def jK:Fn:=cV 7 3 mS
def yS{ds:List D}{s:Pen}(h:ds.length=3):jK.p ds s=(mS.p (dSt 7 ds) s).fin:=bW h
def mq:Xd []:=(aW (xIf (xB (aj oEq (aj oIx (ac 1) (xC (.int 0))) (xC (.int 0)))) (bO (bI xNil)) xSkip)
 (aW (b9 2 (aF aZ (ab (ac 0) (ab (xC (.int 4)) xNil))))
 (aW (xIf (xB (aj oGt (ac 2) (xC (.int 0)))) (bO (aF jK (ab (ac 0) (ab (aF mF (ab (ac 1) xNil)) (ab (aF aZ (ab (ac 0) (ab (aj oIx (ac 1) (xC (.int 0))) xNil))) xNil))))) xSkip)
 (bO (xSl (aF im (ab (ac 0) (ab (aj oIx (ac 1) (xC (.int 0))) xNil))) xNo (xPt (aj bq (xC (.int 3)) (aF aZ (ab (ac 0) (ab (xC (.int 5)) xNil))))))))))
def mN:Fn:=cV 3 2 mq
def yU{ds:List D}{s:Pen}(h:ds.length=2):mN.p ds s=(mq.p (dSt 3 ds) s).fin:=bW h
def mP:Xd []:=(aW (b9 3 (aF aZ (ab (ac 0) (ab (aj bq (xCb fL (ab (ac 2) xNil)) (xC (.int 1))) xNil))))
 (aW (b9 4 (aF aZ (ab (ac 0) (ab (aj bq (ac 1) (xC (.int 1))) xNil))))
 (aW (b9 5 (bI (ab (ac 2) (ab (aj bq (xSl (ac 2) (xPt (ac 3)) xNo) (xSl (ac 2) xNo (xPt (ac 3)))) (ab (xRv (ac 2) xNo (xPt (xUn gN (xC (.int 1))))) (ab (xCb k6 (ab (ac 2) xNil)) (ab (aj bq (ac 2) (xSl (ac 2) xNo (xPt (xC (.int 1))))) (ab (aj bq (aj bq (xSl (ac 2) xNo (xPt (ac 3))) (bI (ab (ac 4) xNil))) (xSl (ac 2) (xPt (ac 3)) xNo)) xNil))))))))
 (aW (b9 5 (aj bq (ac 5) (bI (ab (aj bq (xSl (ac 2) xNo (xPt (ac 3))) (xSl (ac 2) (xPt (aj bq (ac 3) (xC (.int 1)))) xNo)) (ab (aj bq (aj bq (xSl (ac 2) xNo (xPt (ac 3))) (bI (ab (ac 4) xNil))) (xSl (ac 2) (xPt (aj bq (ac 3) (xC (.int 1)))) xNo)) (ab (aj bq (aj bq (xSl (ac 2) xNo (xPt (ac 3))) (bI (ab (xUn gN (xC (.int 1))) xNil))) (xSl (ac 2) (xPt (aj bq (ac 3) (xC (.int 1)))) xNo)) xNil))))))
 (aW (b9 5 (aj bq (ac 5) (bI (ab (bC 1 [] (bK (ac 2)) (ws':=[]) (xNm 0) xTrue (aj oIx (bI (ab (ac 0) (ab (aj oGt (ac 0) (xC (.int 0))) xNil))) (xCb kO (ab (aj oLt (ac 0) (xC (.int 2))) xNil)))) (ab (aj bq (aj bq (xSl (ac 2) xNo (xPt (ac 3))) (bI (ab (xC (.str "0")) xNil))) (xSl (ac 2) (xPt (aj bq (ac 3) (xC (.int 1)))) xNo)) (ab (bI (ab (ac 2) xNil)) (ab (xC .non) (ab (xC (.str "012")) xNil))))))))
 (aW (b9 5 (aj bq (ac 5) (bI (ab xDic (ab (ac 1) (ab (xSl (ac 2) xNo (xPt (xC (.int 2)))) (ab (bI xNil) (ab (bQ xNil) (ab (aj bq (xSl (ac 2) xNo (xPt (ac 3))) (bI (ab (bI xNil) xNil))) (ab (xC (.bl true)) (ab (xCb xj (ab (ac 2) xNil)) (ab (xSl (ac 2) xNo (xPt (xC (.int 3)))) (ab (xSl (ac 2) xNo (xPt (xC (.int 4)))) xNil)))))))))))))
 (bO (aj oIx (ac 5) (aF aZ (ab (ac 0) (ab (xCb fL (ab (ac 5) xNil)) xNil)))))))))))
def mQ:Fn:=cV 6 3 mP
def xx{ds:List D}{s:Pen}(h:ds.length=3):mQ.p ds s=(mP.p (dSt 6 ds) s).fin:=bW h
abbrev lrB:Xd []:=(xIf (xOr (jD (xB (xUn (eV ["int"]) (ac 2)))) (xOr (xB (xUn (eV ["bool"]) (ac 2))) (xOr (jD (xB (rR oLe oLt (xC (.int 0)) (ac 2) (aj oIx (ac 0) (xC (.int 0)))))) (xB (aj oGt (xMr vP (ac 1) (ab (ac 2) xNil)) (xC (.int 1))))))) (bO (xC (.bl false))) xSkip)
def iB:Xd []:=(aW (xIf (xOr (jD (xB (xUn (eV ["list"]) (ac 1)))) (xB (aj oLt (xCb fL (ab (ac 1) xNil)) (xC (.int 3))))) (bO (xC (.bl false))) xSkip)
 (aW (kw (bK (ac 1)) (xNm 2) lrB)
 (aW (b9 3 (bC 2 [] (cX iZ (ab (ac 1) (ab (aj bq (xSl (ac 1) (xPt (xC (.int 1))) xNo) (xSl (ac 1) xNo (xPt (xC (.int 1))))) xNil))) (ws':=[]) (xGp (xGc (xNm 0) (xGc (xNm 1) xGl)) 2) xTrue (bQ (ab (xCb oX (ab (ac 0) (ab (ac 1) xNil))) (ab (xCb oZ (ab (ac 0) (ab (ac 1) xNil))) xNil)))))
 (bO (aj k5 (bC 1 [0] (bK (ac 3)) (ws':=[]) (xNm 0) (xB (aj (oIn true) (ac 0) (aj oIx (ac 1) (xC (.int 1))))) (ac 0)) (bI xNil))))))
def fe:Fn:=cV 4 2 iB
def tN{ds:List D}{s:Pen}(h:ds.length=2):fe.p ds s=(iB.p (dSt 4 ds) s).fin:=bW h
def iD:Xd []:=(aW (xIf (xOr (jD (xB (aF fe (ab (ac 0) (ab (ac 1) xNil))))) (xB (aj oLt (xCb fL (ab (ac 1) xNil)) (xC (.int 4))))) (bO (xC (.bl false))) xSkip)
 (bO (aj oEq (xCb fL (ab (bC 1 [1] (bK (aj oIx (ac 0) (xC (.int 1)))) (ws':=[]) (xNm 0) (xAnd (xB (aj (oIn false) (aj oIx (ac 0) (xC (.int 0))) (ac 1))) (xB (aj (oIn false) (aj oIx (ac 0) (xC (.int 1))) (ac 1)))) (ac 0)) xNil)) (xCb fL (ab (ac 1) xNil)))))
def iG:Fn:=cV 2 2 iD
def uu{ds:List D}{s:Pen}(h:ds.length=2):iG.p ds s=(iD.p (dSt 2 ds) s).fin:=bW h
abbrev rtB:Xd []:=(aW (b9 3 (aF mQ (ab (ac 0) (ab (aj oIx (ac 1) (xC (.int 0))) (ab (aF mN (ab (ac 0) (ab (ac 1) xNil))) xNil)))))
 (aW (b9 4 (xCb wB (ab (ac 3) xNil)))
 (aW (b9 5 (bI (ab (aF fw (ab (ac 1) (ab (ac 3) xNil))) (ab (aF g9 (ab (ac 1) (ab (ac 3) xNil))) xNil))))
 (aW (xIf (xOr (xB (aj oNe (bC 1 [] (bK (ac 5)) (ws':=[]) (xNm 0) (jD (xB (xUn (eV ["bool"]) (ac 0)))) (xC (.int 1))) (bI xNil))) (xB (aj oNeS (xCb wB (ab (ac 3) xNil)) (ac 4)))) (bO (xC (.bl false))) xSkip)
 (xIf (xB (aj oNe (ac 5) (bI (ab (aF fe (ab (ac 1) (ab (ac 3) xNil))) (ab (aF iG (ab (ac 1) (ab (ac 3) xNil))) xNil))))) (bO (xC (.bl false))) xSkip)))))
def ir:Xd []:=(aW (b9 1 (aF lz (ab (ac 0) (ab (xC (.int 12)) xNil))))
 (aW (kw (cX iR1 (ab (xC (.int 5)) xNil)) (xNm 2) rtB)
 (bO (xC (.bl true)))))
def hJ:Fn:=cV 6 1 ir
def xc{ds:List D}{s:Pen}(h:ds.length=1):hJ.p ds s=(ir.p (dSt 6 ds) s).fin:=bW h
def uK:hJ.m=fu:=congrArg (bE 6 1) (rfl:ir.m=m_l_right)
end
def whole_p:fP.p [.int i] s=.ok (.bl true) s:=by
 rw[lT (by rfl)];unfold fR;simp[dSt,cj]
def vy:dL.p [.int n,.int i] s=.ok (.bl (decide (0<=i) && decide (i<n))) s:=by
 rw[mf (by rfl)];unfold fQ;by_cases z:0<=i <;> simp[dSt,whole_p,z]
abbrev KsOf(d:D)(ks:List (List Int)):Prop:=d.items=some (ks.map kD)
def kq:∀(ks:List (List Int)),fO (ks.map kD)=some ks
 | []=>rfl
 | k::ks=>by
  have:eD (kD k)=some k:=by
   show cF (k.map .int)=some k
   induction k with
   | nil=>rfl
   | cons i k ih=>rw[qaG,cF,ih];rfl
  rw[qaG,fO,this,kq ks]
open Classical in
theorem cSS_k(h:(∀k∈ks,k≠[])/\(SetT.ded ks).length<=66):cSS.p [.lst (ks.map kD)]=some (.lst ((cD (SetT.ded ks)).map kD)):=by
 show (fO (ks.map kD)).bind _=_;rw[kq,qaT,qaf h]
def minS_2:rf.p [.tup [.int a,.int b]]=some (.int (if b<a then b else a)):=by
 simp[rf,rg,D.items,cF,ln,argBest]
 split <;> simp
def maxS_2:rn.p [.tup [.int a,.int b]]=some (.int (if b>a then b else a)):=by
 simp[rn,rg,D.items,cF,ln,argBest]
 split <;> simp
def ut(e:KsOf d ks)(hk:∀k∈ks,IsT n k)(hl:ks.length<=100000)(hd:(SetT.ded (ks.map mmK)).length<=66) :
  cZ.p [d] s=.ok (.tup ((cD (SetT.ded (ks.map mmK))).map kD)) s:=by
 rw[oz (by rfl)];unfold fB
 have q:=dI (ws:=[]) (ws':=[]) (env:=dSt 1 [d]) (s:=s) (fm:=[]) (i:=bK (ac 0)) (t:=xTrue) (e:=(bQ (ab (xCb rf (ab (ac 0) xNil)) (ab (xCb rn (ab (ac 0) xNil)) xNil)))) (ds:=ks.map kD) (fun _=>true) (fun x=>match eD x with | some k=>kD (mmK k) | none=>.non) (by simp[dSt,e]) (by simpa using hl) (fun x hx=>by
   obtain⟨k,hk',rfl⟩:=qax.mp hx;obtain⟨a,b,rfl,_⟩:=hk k hk';refine⟨rfl,fun _=>?_⟩
   simp[kD,minS_2,maxS_2,eD,cF,mmK])
 have e2:(((ks.map kD).filter fun _=>true).map fun x=>match eD x with | some k=>kD (mmK k) | none=>.non)=(ks.map mmK).map kD:=by
  rw[cI,qbj,qbj];refine qcx fun k hk'=>?_;obtain⟨a,b,rfl,_⟩:=hk k hk';rfl
 rw[e2] at q
 have q2:=cSS_k (ks:=ks.map mmK) ⟨fun k hk'=>by
  obtain⟨k',hk'',rfl⟩:=qax.mp hk';obtain⟨a,b,rfl,_⟩:=hk k' hk''
  simp[mmK],hd⟩
 rw[bx,bG,ao,bG,ao,q];simp only[Pb,ar,q2,Pf,uw,Pg,PU.bM]
def aH(n:Int)(ks:List (List Int)):D:=.tup [.int n,.tup (ks.map kD)]
def xQ(n:Nat):cP 0 n=(upto n).map .int:=by simp[cP,upto]
def jB{ns:List Int}{j:Nat}(hj:j<=ns.length):cQ (ns.map D.int) (some (j:Int)) none=(ns.drop j).map .int:=by
 unfold cQ;rw[HT.mL,qat,HT.pe,qcY hj,List.map_drop];exact qbk (by simp)
def kK:(eR ds).length=ds.length:=by simp[eR]
def qx{ds:List D}{j:Nat}{d:D}(e:(eR ds)[j]?=some d):∃x,ds[j]?=some x/\d=.tup [.int (j:Int),x]:=by
 unfold eR at e;rw[qao,qcv] at e
 cases e1:ds[j]? with
 | none=>rw[e1] at e;cases e
 | some x=>rw[e1] at e;simp at e;exact⟨x,rfl,e.symm⟩
def lD(e1:a.p env s=.ok as s1)(e2:env[i]?=some (some (.lst ds)))(e3:o.p ds as=some (r,ds')):(xMt o i a hi hz).p env s=.nx (env.set i (some (.lst ds'))) s1:=by
 rw[xMt_p,xZ e1 e2 e3]
def uh{ns:List Int}{j:Nat}{x:D}(e:(ns.map D.int)[j]?=some x):x=.int (ns.getD j 0)/\j<ns.length:=by
 rw[qao,qav] at e;obtain⟨i,e1,rfl⟩:=e;obtain⟨h1,h2⟩:=qae.mp e1;exact⟨by simp[List.getD,e1],h1⟩
def vw{ns:List Int}{s:Pen}(hn:ns.length<=12):gS.p [.lst (ns.map .int)] s=.ok (.lst ((bt ns ns.length).map kD)) s:=by
 rw[wL (by rfl)];unfold kF;have e0:dSt 4 [D.lst (ns.map .int)]=[some (.lst (ns.map .int)),none,none,none]:=rfl;obtain⟨env',s',e,z1,z2,rfl,hs⟩:=gm (g:=(xGp (xGc (xNm 2) (xGc (xNm 3) xGl)) 2:Xg [1]).p) (b:=(xMt lp 1 (ab (bC 1 [3] (bK (xSl (ac 0) (xPt (aj bq (ac 2) (xC (.int 1)))) xNo)) (ws':=[]) (xNm 0) xTrue (bQ (ab (ac 1) (ab (ac 0) xNil)))) xNil):Xd [1]).p)
  (fun j env s'=>∃z1 z2,env=[some (.lst (ns.map .int)),some (.lst ((bt ns j).map kD)),z1,z2]/\s'=s) (eR (ns.map .int)) 0 [some (.lst (ns.map .int)),some (.lst []),none,none] s ⟨none,none,rfl,rfl⟩ (fun j env s' d ⟨z1,z2,hE,hS⟩ hd=>by
   rw[qaU] at hE ⊢;subst hE hS;obtain⟨x,hx,rfl⟩:=qx hd;obtain⟨rfl,hj⟩:=uh hx;have hpl:=fY hn j
   have q:=dI (ws:=[1]) (ws':=[]) (env:=[some (.lst (ns.map .int)),some (.lst ((bt ns j).map kD)),some (.int (j:Int)),some (.int (ns.getD j 0))]) (s:=s') (fm:=[3]) (i:=(bK (xSl (ac 0) (xPt (aj bq (ac 2) (xC (.int 1)))) xNo))) (t:=xTrue) (e:=(bQ (ab (ac 1) (ab (ac 0) xNil)))) (ds:=(ns.drop (j+1)).map .int) (fun _=>true) (fun x=>.tup [.int (ns.getD j 0),x]) (by
     have:=jB (ns:=ns) (j:=j+1) (by ext)
     push_cast at this
     simp[this]) (by simp;ext) (fun x hx=>⟨rfl,fun _=>by simp⟩)
   have e2:((((ns.drop (j+1)).map D.int).filter fun _=>true).map fun x=>D.tup [.int (ns.getD j 0),x])=((ns.drop (j+1)).map fun b=>[ns.getD j 0,b]).map kD:=by
    rw[cI,qbj,qbj];rfl
   rw[e2] at q;refine⟨[some (.lst (ns.map .int)),some (.lst ((bt ns j).map kD)),some (.int (j:Int)),some (.int (ns.getD j 0))],_,s',by simp,lD (s1:=s') (as:=[.lst (((ns.drop (j+1)).map fun b=>[ns.getD j 0,b]).map kD)]) (ds:=(bt ns j).map kD) (ds':=(bt ns (j+1)).map kD) (r:=.non) (by rw[ao,q];simp only[Pb,ar]) rfl ?_,_,_,rfl,rfl⟩
   rw[xF (by simp;ext),sL,qcy])
 rw[kK,qat,qaU,hs] at e;have s1:(jA 1 (bI xNil):Xd [1]).p [some (.lst (ns.map .int)),none,none,none] s=.nx [some (.lst (ns.map .int)),some (.lst []),none,none] s:=by simp
 rw[e0,aB,s1,PU.au,aB,jd,gK,ao];simp only[aA,Pb,ar,iE_l,Pf,Pg];rw[e,PU.au,k9 (d:=.lst ((bt ns ns.length).map kD)) rfl,PU.bM]
def among_p(hn:ns.length<=12):fK.p [.lst (ns.map .int)] s=.ok (.lst ((bt ns ns.length).map kD)) s:=vw hn
def di(k:List Int):eD (kD k)=some k:=by
 have:=kq [k]
 simp only[qaG,qcA,fO] at this;revert this
 cases eD (kD k) with
 | none=>intro h;cases h
 | some y=>intro h;simp at h;rw[h]
def oQ(h0:0<=n)(h12:n<=12)(ht:∀k∈ks,∃a b:Int,k=[a,b]/\0<=a/\a<b/\b<n):WebT n (cD (SetT.ded ks)) :=
 ⟨h0,h12,fun k hk=>ht k ((SetT.iO k ks).mp ((dy _).mem_iff.mp hk)),jT _,(dy _).symm.nodup (km ks)⟩
def rN(h12:n<=12)(ht:∀k∈ks,∃a b:Int,k=[a,b]/\0<=a/\a<b/\b<n):(SetT.ded ks).length<=66 :=
 jz h12 (fun k hk=>ht k ((SetT.iO k ks).mp hk)) (km ks)
structure Ord (n:Nat) (qs:List Int):Prop where
 n12:n<=12
 pm:qs.Perm (upto n)
def Ord.len(o:Ord n qs):qs.length=n:=by have:=o.pm.length_eq;simpa [upto] using this
def Ord.bd(o:Ord n qs):∀q∈qs,0<=q/\q<(n:Int):=fun q hq=>jR.mp (o.pm.mem_iff.mp hq)
def jC(S:aC->Prop)(P:D->Prop):∀(ds:List D) (env:aC) (s:Pen),S env ->
  (∀x∈ds,∀env s,S env->∃env1,g x env=some env1/\S env1/\∃b s1,t env1 s=.ok b s1/\(b=true->∃y s2,e env1 s1=.ok y s2/\P y))->∃r s',dZ g t e ds env s=.ok r s'/\r.length<=ds.length/\∀y∈r,P y
 | [],env,s,hS,body=>⟨[],s,rfl,by simp,by simp⟩
 | x::ds,env,s,hS,body=>by
  obtain⟨env1,e1,hS1,b,s1,e2,e3⟩:=body x (by simp) env s hS;have rest:=fun y hy=>body y (qai x hy);rw[dZ,e1];dsimp only;rw[e2,Pb]
  cases b with
  | true =>
   obtain⟨y,s2,e4,py⟩:=e3 rfl;obtain⟨r,s3,e5,hl,hr⟩:=jC S P ds env1 s2 hS1 rest;refine⟨y::r,s3,by simp only[if_true,e4,Pb,e5],by simp;lia,fun z hz=>?_⟩;rcases qar.mp hz with rfl|hz
   ·exact py
   ·exact hr z hz
  | false =>
   obtain⟨r,s3,e5,hl,hr⟩:=jC S P ds env1 s1 hS1 rest;exact⟨r,s3,by simp only[qac,if_false,e5],by simp;lia,hr⟩
def jX{ws ws':List Nat}{env:aC}{s s0:Pen}{fm:List Nat}{i:Xi ws}{t:Xt ws'}{e:Xe ws'}{ds:List D}(P:D->Prop)(ei:i.p env s=.ok ds s0)(hl:ds.length<=100000)
  (body:∀x∈ds,∀s,∃b s1,t.p (some x::fm.map fun i=>(env[i]?).getD none) s=.ok b s1/\(b=true->∃y s2,e.p (some x::fm.map fun i=>(env[i]?).getD none) s1=.ok y s2/\P y)) (h0:ws'.contains 0=false:=by exact ys rfl) (hw:cws 1 fm ws=ws':=by exact ys rfl) (hz:e.fz=true:=by exact ys rfl) :
  ∃r s',(bC 1 fm i (xNm 0 h0) t e hw hz).p env s=.ok (.lst r) s'/\r.length<=ds.length/\∀y∈r,P y:=by
 obtain⟨r,s',e1,h1,h2⟩:=jC (g:=(xNm 0 h0:Xg ws').p) (t:=t.p) (e:=e.p) (fun v=>∃z,v=z::fm.map fun i=>(env[i]?).getD none) P ds (cenv 1 fm env) s0 ⟨none,rfl⟩ fun x hx env' s ⟨z,hz⟩=>by
  subst hz;obtain⟨b,s1,e2,e3⟩:=body x hx s;exact⟨_,rfl,⟨some x,rfl⟩,b,s1,e2,e3⟩
 refine⟨r,s',?_,h1,h2⟩;rw[vz,ei,Pb,qaf hl,e1]
def eB:(cP lo c).length=c:=by simp[cP]
def tI(h:x∈cP lo c):∃i:Int,x=.int i/\lo<=i/\i<lo+c:=by
 unfold cP at h;obtain⟨k,hk,rfl⟩:=qax.mp h;rw[qaY] at hk;exact⟨_,rfl,by lia,by lia⟩
def AG(h:(cP 0 c)[i]?=some x):x=.int (i:Int)/\i<c:=by
 unfold cP at h;rw[qao,qav] at h;obtain⟨k,hk,rfl⟩:=h;obtain⟨a,b⟩:=qae.mp hk;simp at a b;subst b;exact⟨by simp,a⟩
local macro_rules | `(tactic| simp! [$a,*]) => `(tactic| simp only [$a,*, Pb, aA, aE, ao, ar])
def v5{n:Nat}{s:Pen}(hn:n<=12):∃qs s',im.p [.pen,.int n] s=.ok (.lst (qs.map .int)) s'/\Ord n qs:=by
 rw[w4 (by rfl)];unfold ku;have e0:dSt 4 [D.pen,.int n]=[some .pen,some (.int n),none,none]:=rfl;obtain⟨env',s',e,z,qs,rfl,pm⟩:=gm (g:=(xNm 3:Xg [2]).p) (b:=(xMt o9 2 (ab (aF aZ (ab (ac 0) (ab (aj bq (ac 3) (xC (.int 1))) xNil))) (ab (ac 3) xNil)):Xd [2]).p)
  (fun j env s'=>∃z qs,env=[some .pen,some (.int n),some (.lst ((qs:List Int).map .int)),z]/\qs.Perm (upto j)) (cP 0 n) 0 [some .pen,some (.int n),some (.lst []),none] s ⟨none,[],rfl,by simp[upto]⟩ (fun j env s' d ⟨z,qs,hE,pm⟩ hd=>by
   rw[qaU] at pm ⊢;subst hE;obtain⟨rfl,hj⟩:=AG hd;have hlq:qs.length=j:=by have:=pm.length_eq;simpa [upto] using this
   obtain⟨d,s1,d0,d1,qd⟩:=cC (s:=s') (size:=(j:Int)+1) (by lia) (by lia);obtain⟨k,rfl⟩:=dw d0;refine⟨[some .pen,some (.int n),some (.lst (qs.map .int)),some (.int (j:Int))],[some .pen,some (.int n),some (.lst ((qs.take k++(j:Int)::qs.drop k).map .int)),some (.int (j:Int))],s1,rfl,?_,_,qs.take k++(j:Int)::qs.drop k,rfl,?_⟩
   ·rw[lD (s1:=s1) (as:=[.int (k:Int),.int (j:Int)]) (ds:=qs.map .int) (ds':=(qs.take k++(j:Int)::qs.drop k).map .int) (r:=.non) (by simp[qd]) rfl (by
     rw[xw (by simp;lia) (by simp;lia)];simp)]
    rfl
   ·have:(qs.take k++((j:Int))::qs.drop k).Perm (((j:Int))::qs):=by
     have:=qbT (a:=(j:Int)) (l₁:=qs.take k) (l₂:=qs.drop k)
     rwa [qbq] at this
    refine this.trans ((pm.cons _).trans ?_);have e1:upto (j+1)=upto j++[(j:Int)]:=by simp[upto,qcm]
    rw[e1]
    exact (qcz _ _).symm)
 rw[eB,qaU] at pm;refine⟨qs,s',?_,hn,pm⟩;rw[e0,aB,pc];simp![cE,qba,qaP,if_true,Pg,qaJ,qaM,PU.au,aB,jd,gK];rw[wU (by lia),qaQ,Pf,Pg,e,PU.au,k9 (d:=.lst (qs.map .int)) rfl,PU.bM]
def iH(n:Nat)(y:D):Prop:=∃a b:Int,y=kD [a,b]/\0<=a/\a<b/\b<n
def u4:∀{ys:List D},(∀y∈ys,iH n y)->∃ps:List (List Int),ys=ps.map kD/\∀k∈ps,∃a b:Int,k=[a,b]/\0<=a/\a<b/\b<n
 | [],_=>⟨[],rfl,(fun _ h=>nomatch h)⟩
 | y::ys,h=>by
  obtain⟨ps,e,hp⟩:=u4 (ys:=ys) fun y hy=>h y (qai _ hy);obtain⟨a,b,rfl,h1⟩:=h y (by simp);refine⟨[a,b]::ps,by rw[e];rfl,fun k hk=>?_⟩;rcases qar.mp hk with rfl|hk
  ·exact⟨a,b,rfl,h1⟩
  ·exact hp k hk
def upto_lt(n:Nat):(upto n).Pairwise (·<·):=by
 unfold upto;exact List.Pairwise.map (R:=fun a b:Nat=>a<b) _ (fun a b h=>by lia) qco
def oT{env:aC}{s:Pen}{lo:Int}{n:Nat}{t:Xt []}{e:Xe []}{n':Nat}(P:D->Prop)(ev:env[1]?=some (some (.int (n:Int))))(h0:0<=lo)(h1:lo<=3)(hn:n<=12)
  (body:∀i:Int,lo<=i->i<n->∀s,∃b s1,t.p [some (.int i)] s=.ok b s1/\(b=true->∃y s2,e.p [some (.int i)] s1=.ok y s2/\P y)) (hz:e.fz=true:=by exact ys rfl) :
  ∃r s',(bC 1 [] (cX iR2 (ab (xC (.int lo)) (ab (ac 1) xNil))) (ws':=[]) (xNm 0) t e (hz:=hz):Xe []).p env s=.ok (.lst r) s'/\r.length<=12/\∀y∈r,P y:=by
 obtain⟨r,s',q,hl,hr⟩:=jX (ws:=[]) (ws':=[]) (env:=env) (s:=s) (s0:=s) (fm:=[]) (i:=cX iR2 (ab (xC (.int lo)) (ab (ac 1) xNil))) (t:=t) (e:=e) (ds:=cP lo ((n:Int) - lo).toNat) P (by
  simp only[gK,ao,bN,bu,lu ev,Pb,ar]
  rw[iR2_i ⟨by lia,by lia⟩];rfl) (by rw[eB];lia) (fun x hx s=>by
   obtain⟨i,rfl,a,b⟩:=tI hx
   exact body i a (by lia) s) (hz:=hz)
 refine⟨r,s',q,?_,hr⟩;rw[eB] at hl;lia
def shape_p{n:Nat}{s:Pen}(hn:n<=12):∃ys s',kH.p [.pen,.int n] s=.ok (.lst ys) s'/\ys.length<=400/\∀y∈ys,iH n y:=by
 rw[wE (by rfl)];unfold kJ;have e0:dSt 4 [D.pen,.int n]=[some .pen,some (.int n),none,none]:=rfl;obtain⟨way,s1,w0,w1,qw⟩:=cC (s:=s) (size:=8) (by decide) (by decide);have st1:(b9 2 (aF aZ (ab (ac 0) (ab (xC (.int 8)) xNil))):Xd []).p [some .pen,some (.int n),none,none] s=.nx [some .pen,some (.int n),some (.int way),none] s1:=by
  simp[qw]
 rw[e0,aB,st1,PU.au];by_cases c1:way<4
 ·
  have pl:=fY (ns:=upto n) (by simp[upto];exact hn) n;have ul:(upto n).length=n:=by simp[upto]
  obtain⟨sz,es,sz0,sz1⟩:∃sz:Int,atI [D.int 2,.int 3,.int 4,.int 6] way=some (.int sz)/\0<sz/\sz<=1000:=by
   have:way=0\/way=1\/way=2\/way=3:=by lia
   rcases this with rfl|rfl|rfl|rfl
   ·exact⟨2,by simp,by decide,by decide⟩
   ·exact⟨3,by simp,by decide,by decide⟩
   ·exact⟨4,by simp,by decide,by decide⟩
   ·exact⟨6,by simp,by decide,by decide⟩
  obtain⟨r,s',q,hl,hr⟩:=jX (ws:=[]) (ws':=[]) (env:=[some .pen,some (.int n),some (.int way),none]) (s:=s1) (s0:=s1) (fm:=[0,2]) (i:=bK (aF gS (ab (xCb cLR (ab (ac 1) xNil)) xNil))) (t:=(xB (aj oEq (aF aZ (ab (ac 1) (ab (aj oIx (bI (ab (xC (.int 2)) (ab (xC (.int 3)) (ab (xC (.int 4)) (ab (xC (.int 6)) xNil))))) (ac 2)) xNil))) (xC (.int 0))))) (e:=ac 0) (ds:=(bt (upto n) n).map kD) (iH n) (by
    have:=vw (ns:=upto n) (s:=s1) (by lia)
    rw[ul] at this;simp![eL,bg,bG];rw[cLR_i (by lia),qaQ,xQ]
    simp[this]) (by simp;lia) (fun x hx s=>by
    obtain⟨d,s2,_,_,qd⟩:=cC (s:=s) (size:=sz) sz0 (by lia);refine⟨decide (d=0),s2,by simp[es,qd],fun _=>⟨x,s2,by simp,?_⟩⟩;obtain⟨k,hk,rfl⟩:=qax.mp hx;have hk':k∈bt (upto n) (upto n).length:=by rw[ul];exact hk
    obtain⟨a,b,rfl,h1⟩:=wR (n:=n) (upto_lt n) (fun x hx=>jR.mp hx) k hk'
    exact⟨a,b,rfl,h1⟩)
  refine⟨r,s',?_,by simp at hl;lia,hr⟩;have t1:(xB (aj oLt (ac 2) (xC (.int 4))):Xt []).p [some .pen,some (.int n),some (.int way),none] s1=.ok true s1:=by simp[c1]
  rw[aB,bH,t1,Pg,qaf rfl,bx,q];rfl
 have t1:(xB (aj oLt (ac 2) (xC (.int 4))):Xt []).p [some .pen,some (.int n),some (.int way),none] s1=.ok false s1:=by simp[c1]
 rw[aB,bH,t1,Pg,qak (by simp),bL,PU.au];by_cases c2:way=4
 ·
  obtain⟨r,s',q,hl,hr⟩:=jX (ws:=[]) (ws':=[]) (env:=[some .pen,some (.int n),some (.int way),none]) (s:=s1) (s0:=s1) (fm:=[0]) (i:=cX iR2 (ab (xC (.int 1)) (ab (ac 1) xNil))) (t:=xTrue) (e:=(bQ (ab (aF aZ (ab (ac 1) (ab (ac 0) xNil))) (ab (ac 0) xNil)))) (ds:=cP 1 ((n:Int) - 1).toNat) (iH n) (by
    simp![gK,bN,bu]
    rw[iR2_i ⟨by lia,by lia⟩];rfl) (by rw[eB];lia) (fun x hx s=>by
    obtain⟨i,rfl,a,b⟩:=tI hx;obtain⟨d,s2,d0,d1,qd⟩:=cC (s:=s) (size:=i) (by lia) (by lia)
    exact⟨true,s,rfl,fun _=>⟨kD [d,i],s2,by simp[qd,kD],d,i,rfl,d0,d1,by lia⟩⟩)
  refine⟨r,s',?_,by rw[eB] at hl;lia,hr⟩;have t2:(xB (aj oEq (ac 2) (xC (.int 4))):Xt []).p [some .pen,some (.int n),some (.int way),none] s1=.ok true s1:=by simp[c2]
  rw[aB,bH,t2,Pg,qaf rfl,bx,q];rfl
 have t2:(xB (aj oEq (ac 2) (xC (.int 4))):Xt []).p [some .pen,some (.int n),some (.int way),none] s1=.ok false s1:=by simp[c2]
 rw[aB,bH,t2,Pg,qak (by simp),bL,PU.au];by_cases c3:way=5
 ·
  obtain⟨r,s2,q,hl,hr⟩:=oT (env:=[some .pen,some (.int n),some (.int way),none]) (s:=s1) (lo:=1) (n:=n) (n':=n) (t:=xB (aj oGt (aj oMod (ac 0) (xC (.int 3))) (xC (.int 0)))) (e:=bQ (ab (aj eS (ac 0) (xC (.int 1))) (ab (ac 0) xNil))) (iH n) rfl (by decide) (by decide) hn (fun i a b s=>⟨_,s,by simp[oMod_ii];rfl,fun _=>⟨kD [i - 1,i],s,by simp[kD],_,_,rfl,by lia,by lia,by lia⟩⟩);obtain⟨r',s3,q',hl',hr'⟩:=oT (env:=[some .pen,some (.int n),some (.int way),none]) (s:=s2) (lo:=3) (n:=n) (n':=n) (t:=xTrue) (e:=bQ (ab (aj eS (ac 0) (xC (.int 3))) (ab (ac 0) xNil))) (iH n) rfl (by decide) (by decide) hn (fun i a b s=>⟨true,s,rfl,fun _=>⟨kD [i - 3,i],s,by simp[kD],_,_,rfl,by lia,by lia,by lia⟩⟩);refine⟨r++r',s3,?_,by simp;lia,fun y hy=>?_⟩
  ·have t3:(xB (aj oEq (ac 2) (xC (.int 5))):Xt []).p [some .pen,some (.int n),some (.int way),none] s1=.ok true s1:=by simp[c3]
   rw[aB,bH,t3,Pg,qaf rfl,bx,aL,q,Pb,q',Pb,cy (by lia)];rfl
  ·rcases qau.mp hy with z|z
   ·exact hr y z
   ·exact hr' y z
 have t3:(xB (aj oEq (ac 2) (xC (.int 5))):Xt []).p [some .pen,some (.int n),some (.int way),none] s1=.ok false s1:=by simp[c3]
 rw[aB,bH,t3,Pg,qak (by simp),bL,PU.au];obtain⟨r,s2,q,hl,hr⟩:=oT (env:=[some .pen,some (.int n),some (.int way),none]) (s:=s1) (lo:=1) (n:=n) (n':=n) (t:=xTrue) (e:=bQ (ab (aj eS (ac 0) (xC (.int 1))) (ab (ac 0) xNil))) (iH n) rfl (by decide) (by decide) hn (fun i a b s=>⟨true,s,rfl,fun _=>⟨kD [i - 1,i],s,by simp[kD],_,_,rfl,by lia,by lia,by lia⟩⟩);obtain⟨zs,q2,zl,zt⟩:∃zs:List D,(aj oMul (bI (ab (bQ (ab (xC (.int 0)) (ab (aj eS (ac 1) (xC (.int 1))) xNil))) xNil)) (xCb kO (ab (aj oGt (ac 1) (xC (.int 2))) xNil)):Xe []).p [some .pen,some (.int n),some (.int way),none] s2=.ok (.lst zs) s2/\zs.length<=1/\∀y∈zs,iH n y:=by
  have mu:∀(x:List D) (j:Int),(0<=j/\j<=1000)->((List.replicate j.toNat x).flatten).length<=100000->oMul.p (.lst x) (.int j)=some (.lst (List.replicate j.toNat x).flatten):=fun x j h1 h2=>by
   show (if _ then _ else _)=_;rw[qaf ⟨h1,h2⟩]
  by_cases z:(2:Int)<(n:Int)
  ·refine⟨[.tup [.int 0,.int ((n:Int) - 1)]],?_,by simp,fun y hy=>?_⟩
   ·simp[z,mu]
   ·have:y=.tup [.int 0,.int ((n:Int) - 1)]:=by simpa using hy
    exact⟨0,(n:Int) - 1,this,by lia,by lia,by lia⟩
  ·refine⟨[],?_,by simp,fun y hy=>by cases hy⟩;simp[z,mu]
 have st3:(b9 3 (aj bq (bC 1 [] (cX iR2 (ab (xC (.int 1)) (ab (ac 1) xNil))) (ws':=[]) (xNm 0) xTrue (bQ (ab (aj eS (ac 0) (xC (.int 1))) (ab (ac 0) xNil)))) (aj oMul (bI (ab (bQ (ab (xC (.int 0)) (ab (aj eS (ac 1) (xC (.int 1))) xNil))) xNil)) (xCb kO (ab (aj oGt (ac 1) (xC (.int 2))) xNil)))):Xd []).p [some .pen,some (.int n),some (.int way),none] s1=.nx [some .pen,some (.int n),some (.int way),some (.lst (r++zs))] s2:=by
  rw[cc,aL,q,Pb,q2,Pb,cy (by lia)];rfl
 have rt:∀y∈r++zs,iH n y:=fun y hy=>by
  rcases qau.mp hy with z|z
  ·exact hr y z
  ·exact zt y z
 rw[aB,st3,PU.au];by_cases c4:way=6\/(n:Int)<4
 ·refine⟨r++zs,s2,?_,by simp;lia,rt⟩;have t4:(xOr (xB (aj oEq (ac 2) (xC (.int 6)))) (xB (aj oLt (ac 1) (xC (.int 4)))):Xt []).p [some .pen,some (.int n),some (.int way),some (.lst (r++zs))] s2=.ok true s2:=by
   by_cases z:way=6
   ·simp[z]
   ·have:(n:Int)<4:=c4.resolve_left z
    simp[z,this]
  rw[aB,bH,t4,Pg,qaf rfl];simp
 ·have c5:way≠6:=fun z=>c4 (.inl z);have c6:¬(n:Int)<4:=fun z=>c4 (.inr z);have t4:(xOr (xB (aj oEq (ac 2) (xC (.int 6)))) (xB (aj oLt (ac 1) (xC (.int 4)))):Xt []).p [some .pen,some (.int n),some (.int way),some (.lst (r++zs))] s2=.ok false s2:=by
   simp[c5,c6]
  obtain⟨d,s3,d0,d1,qd⟩:=cC (s:=s2) (size:=2) (by decide) (by decide);obtain⟨f,s4,f0,f1,qf⟩:=cC (s:=s3) (size:=(n:Int) - 2) (by lia) (by lia);refine⟨r++zs++[kD [d,2+f]],s4,?_,by simp;lia,fun y hy=>?_⟩
  ·rw[aB,bH,t4,Pg,qak (by simp),bL,PU.au,bx,aL];simp![cE,rC,bg,bN,bu,qd,aL,oSub_ii,Pf,qf,gi,qaE,qba];rw[qaf (by lia),Pb,Pb,qaf (by simp),Pb,cy (by simp;lia)];rfl
  ·rcases qau.mp hy with z|z
   ·exact rt y z
   ·have:y=kD [d,2+f]:=by simpa using z
    exact⟨d,2+f,this,d0,by lia,by lia⟩
def atN{xs:List Int}{i:Int}(h0:0<=i)(h1:i<(xs.length:Int)):∃x:Int,x∈xs/\xs[i.toNat]?=some x/\atI (xs.map D.int) i=some (.int x):=by
 obtain⟨k,rfl⟩:=dw h0;have hk:k<xs.length:=by lia
 refine⟨xs[k],qcg hk,by simp[hk],?_⟩;exact L2.dj (by simp[hk])
def web_p{most:Nat}{s:Pen}(hm:most<=12):∃(n:Nat) (ks:List (List Int)) (s':Pen),lz.p [.pen,.int most] s=.ok (aH n ks) s'/\n<=most/\WebT n ks:=by
 rw[AF (by rfl)];unfold pq;have e0:dSt 7 [D.pen,.int most]=[some .pen,some (.int most),none,none,none,none,none]:=rfl;obtain⟨d,s1,d0,d1,qd⟩:=cC (s:=s) (size:=(most:Int)+1) (by lia) (by lia);obtain⟨f,s2,f0,f1,qf⟩:=cC (s:=s1) (size:=4) (by decide) (by decide);obtain⟨n,hn,st⟩:∃n:Nat,n<=most/\((b9 2 (aF aZ (ab (ac 0) (ab (aj bq (ac 1) (xC (.int 1))) xNil))):Xd [4]).p [some .pen,some (.int most),none,none,none,none,none] s).then (xIf (xB (aj oEq (aF aZ (ab (ac 0) (ab (xC (.int 4)) xNil))) (xC (.int 3)))) (b9 2 (ac 1)) xSkip:Xd [4]).p=.nx [some .pen,some (.int most),some (.int n),none,none,none,none] s2:=by
  obtain⟨k,rfl⟩:=dw d0;by_cases z:f=3
  ·exact⟨most,qag _,by simp[qd,qf,z]⟩
  ·exact⟨k,by lia,by simp[qd,qf,z]⟩
 have assoc:∀(x:PS) (a b:aC->Pen->PS),x.then (fun e s=>(a e s).then b)=(x.then a).then b:=fun x a b=>by cases x <;> rfl
 obtain⟨qs,s3,q3,o⟩:=v5 (n:=n) (s:=s2) (by lia);obtain⟨ys',s4,q4,yl,yt⟩:=shape_p (n:=n) (s:=s3) (by lia);have ql:=o.len;have qn:qs.Nodup:=o.pm.symm.nodup (nd_upto n);obtain⟨env',s',e,z5,z6,zs,rfl,hs,zl,zt⟩:=gm (g:=(xGp (xGc (xNm 5) (xGc (xNm 6) xGl)) 2:Xg [4]).p) (b:=(xMt lE 4 (ab (bQ (ab (xCb oX (ab (aj oIx (ac 3) (ac 5)) (ab (aj oIx (ac 3) (ac 6)) xNil))) (ab (xCb oZ (ab (aj oIx (ac 3) (ac 5)) (ab (aj oIx (ac 3) (ac 6)) xNil))) xNil))) xNil):Xd [4]).p)
  (fun j env s'=>∃z5 z6 zs,env=[some .pen,some (.int most),some (.int n),some (.lst (qs.map .int)),some (.lst zs),z5,z6]/\s'=s4/\zs.length<=j/\∀z∈zs,iH n z) ys' 0 [some .pen,some (.int most),some (.int n),some (.lst (qs.map .int)),some (.lst []),none,none] s4 ⟨none,none,[],rfl,rfl,by simp,by simp⟩ (fun m env s' x ⟨z5,z6,zs,hE,hS,zl,zt⟩ hx=>by
   subst hE hS;have hm':m<ys'.length:=(qae.mp hx).1;obtain⟨i,j,rfl,i0,ij,jn⟩:=yt x (qaI hx);obtain⟨a1,m1,g1,t1⟩:=atN (xs:=qs) (i:=i) i0 (by lia);obtain⟨b1,m2,g2,t2⟩:=atN (xs:=qs) (i:=j) (by lia) (by lia);have ne:a1≠b1:=fun z=>by
    subst z
    have:=(qcp (l:=qs) (i:=i.toNat) (j:=j.toNat) (by lia) qn).mp (g1.trans g2.symm)
    lia
   have ba:=o.bd a1 m1;have bb:=o.bd b1 m2;refine⟨[some .pen,some (.int most),some (.int n),some (.lst (qs.map .int)),some (.lst zs),some (.int i),some (.int j)],[some .pen,some (.int most),some (.int n),some (.lst (qs.map .int)),some (.lst (zs++[kD [if b1<a1 then b1 else a1,if b1>a1 then b1 else a1]])),some (.int i),some (.int j)],s',by simp[kD],?_,_,_,_,rfl,rfl,by simp;lia,fun z hz=>?_⟩
   ·rw[lD (s1:=s') (as:=[kD [if b1<a1 then b1 else a1,if b1>a1 then b1 else a1]]) (ds:=zs) (ds':=zs++[kD [if b1<a1 then b1 else a1,if b1>a1 then b1 else a1]]) (r:=.non) (by simp[t1,t2,kD]) rfl (pZ (by lia))];rfl
   ·rcases qau.mp hz with q|q
    ·exact zt z q
    ·have:z=kD [if b1<a1 then b1 else a1,if b1>a1 then b1 else a1]:=by simpa using q
     refine⟨_,_,this,?_,?_,?_⟩ <;> (repeat' split) <;> lia)
 obtain⟨ps,rfl,pt⟩:=u4 zt;have hn12:(n:Int)<=12:=by lia
 rw[hs] at e;refine⟨n,cD (SetT.ded ps),s4,?_,hn,oQ (by lia) hn12 pt⟩;rw[e0,aB];show (PS.then _ fun e s=>((xIf _ _ _:Xd [4]).p e s).then _).fin=_;rw[assoc,st,PU.au,aB,cc];simp![bg,q3,Pg,qaJ,qaM,PU.au,aB,pc,cE,qba,qaP,if_true,jd,eL,q4,kL,Pf];rw[e];simp![PU.au,bx,rC,bG];rw[cSS_k ⟨fun k hk=>by obtain⟨a,b,rfl,_⟩:=pt k hk;simp,rN hn12 pt⟩];simp[aH]
def nxt(m k:Nat):Nat:=if k+1=m then 0 else k+1
def Adj(rs:List Int)(a b:Int):Prop:=∃k,k<rs.length/\rs[k]?=some a/\rs[nxt rs.length k]?=some b
def SAdj(rs:List Int)(a b:Int):Prop:=Adj rs a b\/Adj rs b a
structure Rg (n:Nat) (rs:List Int):Prop where
 nd:rs.Nodup
 bd:∀x∈rs,0<=x/\x<(n:Int)
 n12:n<=12
 l3:3<=rs.length
def Rg.len(g:Rg n rs):rs.length<=12:=by
 have:=List.Nodup.length_le_of_subset (l₂:=upto 12) g.nd fun x hx=>by
  rw[jR];have:=g.bd x hx;have:=g.n12;lia
 simpa [upto] using this
def Rg.ne(g:Rg n rs)(h:Adj rs a b):a≠b/\a∈rs/\b∈rs:=by
 obtain⟨k,hk,ea,eb⟩:=h;have l3:=g.l3;refine⟨fun z=>?_,qaI ea,qaI eb⟩;subst z;have hn:nxt rs.length k<rs.length:=by unfold nxt;split <;> lia
 have:=(qcp (i:=k) (j:=nxt rs.length k) hk g.nd).mp (ea.trans eb.symm)
 unfold nxt at this
 split at this <;> lia
def eQ(rs:List Int):List (List Int):=(List.range rs.length).map fun k=>[rs.getD (if k=0 then rs.length - 1 else k - 1) 0,rs.getD k 0]
def mV:[a,b]∈eQ rs↔Adj rs a b:=by
 unfold eQ Adj;rw[qax];constructor
 ·rintro⟨k,hk,e⟩;rw[qaY] at hk;injection e with e1 e
  injection e with e2 _
  have hk':(if k=0 then rs.length - 1 else k - 1)<rs.length:=by split <;> lia
  refine⟨if k=0 then rs.length - 1 else k - 1,hk',?_,?_⟩
  ·rw[<-e1];simp[List.getD,hk']
  ·have en:nxt rs.length (if k=0 then rs.length - 1 else k - 1)=k:=by unfold nxt;(repeat' split) <;> lia
   rw[en,<-e2];simp[List.getD,hk]
 ·rintro⟨k,hk,ea,eb⟩;have hn:nxt rs.length k<rs.length:=by unfold nxt;split <;> lia
  refine⟨nxt rs.length k,qaY.mpr hn,?_⟩;have en:(if nxt rs.length k=0 then rs.length - 1 else nxt rs.length k - 1)=k:=by unfold nxt;(repeat' split) <;> lia
  rw[en];simp[List.getD,ea,eb]
def As(g:Rg n rs):∀k∈eQ rs,∃a b,k=[a,b]/\Adj rs a b:=fun k hk=>by
 have hk':=hk;unfold eQ at hk;obtain⟨i,_,rfl⟩:=qax.mp hk;exact⟨_,_,rfl,mV.mp hk'⟩
def jl(g:Rg n rs):∀k∈eQ rs,IsT n k:=fun k hk=>by
 obtain⟨a,b,rfl,h⟩:=As g k hk;obtain⟨ne,ma,mb⟩:=g.ne h;have ba:=g.bd a ma;have bb:=g.bd b mb;exact⟨a,b,rfl,ba.1,ba.2,bb.1,bb.2,ne⟩
def nj{n:Int}{ks:List (List Int)}(h:∀k∈ks,IsT n k):∀k∈ks.map mmK,∃a b:Int,k=[a,b]/\0<=a/\a<b/\b<n:=fun k hk=>by
 obtain⟨k',hk',rfl⟩:=qax.mp hk;obtain⟨a,b,rfl,h1,h2,h3,h4,ne⟩:=h k' hk';rcases qcD ne with z|z
 ·rw[iL z];exact⟨a,b,rfl,h1,z,h4⟩
 ·rw[i4 z];exact⟨b,a,rfl,h3,z,h2⟩
def xt{ks:List (List Int)}{n:Int}(h:∀k∈ks,IsT n k){a b:Int}(lt:a<b):[a,b]∈ks.map mmK↔[a,b]∈ks\/[b,a]∈ks:=by
 rw[qax];constructor
 ·rintro⟨k,hk,e⟩;obtain⟨c,d,rfl,_,_,_,_,ne⟩:=h k hk;rcases qcD ne with z|z
  ·rw[iL z] at e;rw[<-e];exact .inl hk
  ·rw[i4 z] at e;injection e with e1 e
   injection e with e2 _
   subst e1 e2;exact .inr hk
 ·rintro (h|h)
  ·exact⟨_,h,iL lt⟩
  ·exact⟨_,h,i4 lt⟩
def cS(rs:List Int):List (List Int):=cD (SetT.ded ((eQ rs).map mmK))
def eT{n:Nat}{rs:List Int}(g:Rg n rs){a b:Int}(lt:a<b):[a,b]∈cS rs↔SAdj rs a b:=by
 unfold cS SAdj;rw[(dy _).mem_iff,SetT.iO,xt (jl g) lt,mV,mV]
def jS{n:Nat}{rs:List Int}(g:Rg n rs):WebT n (cS rs):=oQ (by lia) (by have:=g.n12;lia) (nj (jl g))
def oB{n:Nat}{rs:List Int}{s:Pen}(g:Rg n rs):f8.p [.lst (rs.map .int)] s=.ok (.tup ((cS rs).map kD)) s:=by
 have hl:=g.len;have l3:=g.l3
 have q:=comp2 (ws:=[]) (ws':=[]) (env:=[some (.lst (rs.map .int))]) (s:=s) (fm:=[0]) (i:=cX iE (ab (ac 0) xNil)) (t:=xTrue) (e:=bQ (ab (aj oIx (ac 2) (aj eS (ac 0) (xC (.int 1)))) (ab (ac 1) xNil))) (ds:=eR (rs.map .int)) (fun _=>true) (fun x=>match x with | .tup [.int k,.int v]=>kD [rs.getD (if k=0 then rs.length - 1 else (k - 1).toNat) 0,v] | _=>.non) (by simp) (by rw[kK];simp;lia) (fun x hx=>by
  obtain⟨j,hj⟩:=qaB.mp hx;obtain⟨y,hy,rfl⟩:=qx hj;obtain⟨rfl,hjl⟩:=uh hy;refine⟨_,_,rfl,rfl,fun _=>?_⟩;have ei:atI (rs.map D.int) ((j:Int) - 1)=some (.int (rs.getD (if (j:Int)=0 then rs.length - 1 else ((j:Int) - 1).toNat) 0)):=by
   unfold atI ixN;rw[qat];by_cases z:j=0
   ·subst z;rw[qak (by decide),qaf (by lia),qaf (show ((0:Nat):Int)=0 from rfl)];have e1:(((0:Nat):Int) - 1+(rs.length:Int)).toNat=rs.length - 1:=by lia
    rw[qaT,e1,qao,qas (by lia)];simp[List.getD,show rs.length - 1<rs.length by lia]
   ·rw[qaf (by lia),qaf (by lia),qak (by lia),qaT,qao,qas (by lia)];simp[List.getD,show j - 1<rs.length by lia]
  show (bQ _:Xe []).p [some (.int (j:Int)),some (.int (rs.getD j 0)),some (.lst (rs.map .int))] s=_
  simp[ei,kD])
 have ee:((eR (rs.map D.int)).filter fun _=>true).map (fun x=>match x with | .tup [.int k,.int v]=>kD [rs.getD (if k=0 then rs.length - 1 else (k - 1).toNat) 0,v] | _=>.non)=(eQ rs).map kD:=by
  rw[cI];apply qbu;intro j;unfold eQ;rw[qao,qbj,qao];by_cases hj:j<rs.length
  ·have e1:(eR (rs.map D.int))[j]?=some (.tup [.int (j:Int),.int (rs.getD j 0)]):=by
    unfold eR;rw[qao,qcv,qao,qas hj];simp[List.getD,hj]
   rw[e1,qch hj];simp only[qbM,Function.comp_apply];congr 3;by_cases z:j=0
   ·subst z;rfl
   ·rw[qak (by lia),qak z];congr 1;lia
  ·rw[qaN (by rw[kK];simp;lia),qaN (by simp;lia)];rfl
 rw[ee] at q;have dl:(SetT.ded ((eQ rs).map mmK)).length<=66:=rN (n:=n) (by have:=g.n12;lia) (nj (jl g));have r:=ut (n:=n) (d:=.lst ((eQ rs).map kD)) (s:=s) rfl (jl g) (by unfold eQ;simp;lia) dl;rw[Au (by rfl)];unfold pd;rw[show dSt 1 [D.lst (rs.map .int)]=[some (.lst (rs.map .int))] from rfl,bx,bg,ao,q];simp only[Pb,ar,r,Pg,PU.bM];rfl
def ik(g:Rg n rs):∀k∈bt rs rs.length,IsT n k:=fun k hk=>by
 unfold bt at hk;obtain⟨i,hi,hk⟩:=qcf.mp hk;rw[qaY] at hi;obtain⟨b,hb,rfl⟩:=qax.mp hk;obtain⟨j,hj,ej⟩:=qci hb;rw[qbg] at hj;rw[qcG] at ej;have e1:rs.getD i 0=rs[i]:=by simp[List.getD,hi]
 have ba:=g.bd _ (qcg hi);have bb:=g.bd b (qbB hb);refine⟨_,_,rfl,by rw[e1];exact ba.1,by rw[e1];exact ba.2,bb.1,bb.2,fun z=>?_⟩;rw[e1,<-ej] at z
 have:=(qcp (i:=i) (j:=i+1+j) hi g.nd).mp (by rw[qas hi,qas (by lia),z])
 lia
def ya{n:Nat}{rs:List Int}(g:Rg n rs){a b:Int}(lt:a<b):[a,b]∈(bt rs rs.length).map mmK↔a∈rs/\b∈rs:=by
 rw[xt (ik g) lt];have fwd:∀{a b:Int},[a,b]∈bt rs rs.length->a∈rs/\b∈rs:=fun {a b} h=>by
  unfold bt at h;obtain⟨i,hi,h⟩:=qcf.mp h;rw[qaY] at hi;obtain⟨c,hc,e⟩:=qax.mp h;injection e with e1 e
  injection e with e2 _
  subst e1 e2;exact⟨by simp[List.getD,hi],qbB hc⟩
 constructor
 ·rintro (h|h)
  ·exact fwd h
  ·exact (fwd h).symm
 ·rintro⟨ha,hb⟩;obtain⟨i,hi,rfl⟩:=qci ha;obtain⟨j,hj,rfl⟩:=qci hb;have mk:∀i j (hi:i<rs.length) (hj:j<rs.length),i<j->[rs[i],rs[j]]∈bt rs rs.length:=fun i j hi hj ij=>by
   unfold bt;rw[qcf];refine⟨i,qaY.mpr hi,qax.mpr ⟨rs[j],?_,by simp[List.getD,hi]⟩⟩;rw[List.mem_iff_getElem];exact⟨j - (i+1),by rw[qbg];lia,by rw[qcG];congr 1;lia⟩
  rcases Nat.lt_trichotomy i j with z|z | z
  ·exact .inl (mk i j hi hj z)
  ·subst z;lia
  ·exact .inr (mk j i hj hi z)
def oq(rs:List Int):List (List Int):=(cD (SetT.ded ((bt rs rs.length).map mmK))).filter fun k=>!decide (k∈cS rs)
def chK(ws:List (List Int))(rs:List Int):List (List Int):=(oq rs).filter fun k=>decide (k∈ws)
def vk{n:Nat}{rs:List Int}(g:Rg n rs):WebT n (cD (SetT.ded ((bt rs rs.length).map mmK))):=oQ (by lia) (by have:=g.n12;lia) (nj (ik g))
def mem_apr(g:Rg n rs)(lt:a<b):[a,b]∈oq rs↔a∈rs/\b∈rs/\¬SAdj rs a b:=by
 unfold oq;rw[qbl,(dy _).mem_iff,SetT.iO,ya g lt];simp only[qbO,decide_eq_false_iff_not,eT g lt,and_assoc]
def mZ(ks:List (List Int))(x:D):Bool:=match eD x with
 | some k=>!decide (k∈ks)
 | none=>false
def jL(ks:List (List Int))(x:D):Bool:=match eD x with
 | some k=>decide (k∈ks)
 | none=>false
def my:∀(ls:List (List Int)),(((ls.map kD).filter (mZ ks)).map fun x=>x)=(ls.filter fun k=>!decide (k∈ks)).map kD
 | []=>rfl
 | k::ls=>by
  have ih:=my (ks:=ks) ls;have e:mZ ks (kD k)=!decide (k∈ks):=by simp[mZ,di]
  rw[qaG,qbA,qbA,e];by_cases z:k∈ks <;> simp[z] at ih ⊢ <;> exact ih
def sT:∀(ls:List (List Int)),(((ls.map kD).filter (jL ks)).map fun x=>x)=(ls.filter fun k=>decide (k∈ks)).map kD
 | []=>rfl
 | k::ls=>by
  have ih:=sT (ks:=ks) ls;have e:jL ks (kD k)=decide (k∈ks):=by simp[jL,di]
  rw[qaG,qbA,qbA,e];by_cases z:k∈ks <;> simp[z] at ih ⊢ <;> exact ih
def apart_p{n:Nat}{rs:List Int}{s:Pen}(g:Rg n rs):dR.p [.lst (rs.map .int)] s=.ok (.lst ((oq rs).map kD)) s:=by
 have hl:=g.len;have wa:=vk g;have al:=jz wa.n12 wa.tie wa.nd;have pl:=fY hl rs.length;have r:=ut (n:=n) (d:=.lst ((bt rs rs.length).map kD)) (s:=s) rfl (ik g) (by lia) (rN (n:=n) (by have:=g.n12;lia) (nj (ik g)));rw[o7 (by rfl)];unfold fM;rw[show dSt 2 [D.lst (rs.map .int)]=[some (.lst (rs.map .int)),none] from rfl,aB,cc];simp![bg,oB g,Pg,qaJ,qaM,PU.au]
 have q:=dI (ws:=[]) (ws':=[]) (env:=[some (.lst (rs.map .int)),some (.tup ((cS rs).map kD))]) (s:=s) (fm:=[1]) (i:=bK (aF cZ (ab (aF fK (ab (ac 0) xNil)) xNil))) (t:=xB (aj (oIn true) (ac 0) (ac 1))) (e:=ac 0) (ds:=(cD (SetT.ded ((bt rs rs.length).map mmK))).map kD) (mZ (cS rs)) (fun x=>x) (by
   simp only[eL,bg,ao,aA,Pb,ar,among_p hl,r];rfl) (by simp;lia) (fun x hx=>by
   obtain⟨k,hk,rfl⟩:=qax.mp hx
   exact⟨by simp[mZ,di,i8 (d:=.tup ((cS rs).map kD)) rfl],fun _=>by simp⟩)
 rw[my] at q;rw[bx,q];rfl
def apr_len(g:Rg n rs):(oq rs).length<=66:=by
 have wa:=vk g;exact qaD (qda _ _) (jz wa.n12 wa.tie wa.nd)
def zG(g:Rg n rs):iC.p [aH m ks,.lst (rs.map .int)] s=.ok (.lst ((chK ks rs).map kD)) s:=by
 have al:=apr_len g;rw[tf (by rfl)];unfold iI;rw[show dSt 2 [aH m ks,.lst (rs.map .int)]=[some (aH m ks),some (.lst (rs.map .int))] from rfl]
 have q:=dI (ws:=[]) (ws':=[]) (env:=[some (aH m ks),some (.lst (rs.map .int))]) (s:=s) (fm:=[0]) (i:=bK (aF dR (ab (ac 1) xNil))) (t:=xB (aj (oIn false) (ac 0) (aj oIx (ac 1) (xC (.int 1))))) (e:=ac 0) (ds:=(oq rs).map kD) (jL ks) (fun x=>x) (by
   simp![eL,bg,apart_p g];rfl) (by simp;lia) (fun x hx=>by
   obtain⟨k,hk,rfl⟩:=qax.mp hx
   exact⟨by simp[aH,jL,di,i8 (d:=.tup (ks.map kD)) rfl],fun _=>by simp⟩)
 rw[sT] at q;rw[bx,q];rfl
def oU:∀(bs:List Bool),kY (bs.map .bl)=some bs
 | []=>rfl
 | b::bs=>by rw[qaG,kY,oU bs];rfl
def all_t{ds:List D}{f:D->Bool}(h:∀x∈ds,f x=true):oJ.p [.lst (ds.map fun x=>.bl (f x))]=some (.bl true):=by
 show ((some (ds.map fun x=>D.bl (f x))).bind kY).map _=_
 have:(ds.map fun x=>D.bl (f x))=(ds.map f).map .bl:=by rw[qbj];rfl
 have ea:(ds.map f).all id=true:=by rw[qcV];exact qbH.mpr fun x hx=>h x hx
 rw[this,qaT,oU,qbM,<-ea]
def yb{n:Nat}{ks:List (List Int)}{rs:List Int}{s:Pen}(g:Rg n rs)(hs:∀k∈cS rs,k∈ks):fw.p [aH n ks,.lst (rs.map .int)] s=.ok (.bl true) s:=by
 have hl:=g.len;have l3:=g.l3;have sw:=jS g;have sl:=jz sw.n12 sw.tie sw.nd;rw[jf (by rfl)];unfold fo;rw[show dSt 2 [aH n ks,.lst (rs.map .int)]=[some (aH n ks),some (.lst (rs.map .int))] from rfl]
 have q1:=dI (ws:=[]) (ws':=[]) (env:=[some (aH n ks),some (.lst (rs.map .int))]) (s:=s) (fm:=[0]) (i:=bK (ac 1)) (t:=xTrue) (e:=(aF dL (ab (aj oIx (ac 1) (xC (.int 0))) (ab (ac 0) xNil)))) (ds:=rs.map .int) (fun _=>true) (fun _=>.bl true) (by simp) (by simp;lia) (fun x hx=>by
   obtain⟨i,hi,rfl⟩:=qax.mp hx
   have:=g.bd i hi
   exact⟨rfl,fun _=>by simp[aH,vy,this.1,this.2]⟩)
 rw[cI] at q1
 have q2:=dI (ws:=[]) (ws':=[]) (env:=[some (aH n ks),some (.lst (rs.map .int))]) (s:=s) (fm:=[0]) (i:=bK (aF f8 (ab (ac 1) xNil))) (t:=xTrue) (e:=aj (oIn false) (ac 0) (aj oIx (ac 1) (xC (.int 1)))) (ds:=(cS rs).map kD) (fun _=>true) (fun _=>.bl true) (by
   simp![eL,bg,oB g];rfl) (by simp;lia) (fun x hx=>by
   obtain⟨k,hk,rfl⟩:=qax.mp hx
   exact⟨rfl,fun _=>by simp[aH,i8 (d:=.tup (ks.map kD)) rfl,hs k hk]⟩)
 rw[cI] at q2;have a1:oJ.p [.lst ((rs.map D.int).map fun _=>.bl true)]=some (.bl true):=all_t (f:=fun _=>true) fun _ _=>rfl;have a2:oJ.p [.lst (((cS rs).map kD).map fun _=>.bl true)]=some (.bl true):=all_t (f:=fun _=>true) fun _ _=>rfl;have nl:(eV ["list"]).p (.lst (rs.map .int))=some (.bl true):=by simp[cj]
 have mn:many rs=rs.length:=oA.mpr g.nd;have ls:=cLS_i (ns:=rs) (by lia);rw[mn] at ls;rw[aB,bH];simp![eM,de,cq,fc,nl,Pf,PR.bl_ok,qaS,qac,if_false,aL,bG,cA,qat,bN,bu,gL,show ¬(rs.length:Int)<3 by lia,decide_false,Pg,bL,PU.au];rw[aB,bH,de,cq,bG,ao,q1];simp only[Pb,ar,a1,Pf,PR.bl_ok,qaS,Pg,qac,if_false,bL,PU.au];rw[aB,bH];simp![cq,aL,bG,ls,cA,qat,Pf,nY,iX,if_true,decide_true,qaS,PR.bl_ok,Pg,qac,if_false,bL,PU.au];rw[bx,bG,ao,q2];simp only[Pb,ar,a2,Pf,Pg,PU.bM]
def bare_p(g:Rg n rs)(hs:∀k∈cS rs,k∈ks):g9.p [aH n ks,.lst (rs.map .int)] s=.ok (.bl (decide (4<=(rs.length:Int)) && (chK ks rs).isEmpty)) s:=by
 rw[nA (by rfl)];unfold hG;rw[show dSt 2 [aH n ks,.lst (rs.map .int)]=[some (aH n ks),some (.lst (rs.map .int))] from rfl];simp![bx,v8,bg,yb g hs,PR.bl_ok,if_true,aL,bG,cA,qat,Pf,bN,bu,oGe_ii,xNotT_p,zG g];by_cases z:4<=(rs.length:Int)
 ·simp[z,rW]
 ·simp[z]
def Kd(d:D):Prop:=∃t,tyD d=some t
def isI:D->Bool
 | .int _=>true
 | _=>false
def plB(n:Int):D->Bool
 | .int i=>decide (0<=i) && decide (i<n)
 | _=>false
def whole_k(h:Kd d):fP.p [d] s=.ok (.bl (isI d)) s:=by
 rw[lT (by rfl)];unfold fR;obtain⟨t,ht⟩:=h;cases d <;> first | (cases ht;done) | (simp[dSt,cj,isI,tyD];done) | (simp[dSt,cj,isI,tyD] at ht ⊢)
def place_k(h:Kd d):dL.p [.int n,d] s=.ok (.bl (plB n d)) s:=by
 cases d with
 | int i=>exact vy
 | _ =>
  rw[mf (by rfl)];unfold fQ;simp[dSt,whole_k h,isI,plB]
def mK:∀{ds:List D},(∀d∈ds,isI d=true)->∃qs:List Int,ds=qs.map .int
 | [],_=>⟨[],rfl⟩
 | d::ds,h=>by
  obtain⟨qs,rfl⟩:=mK (ds:=ds) fun d hd=>h d (qai _ hd)
  have:=h d (by simp)
  cases d with
  | int i=>exact⟨i::qs,rfl⟩
  | _=>cases this
def lG:∀{a b:List Int},a.map D.int=b.map D.int->a=b
 | [],[],_=>rfl
 | [],_::_,e=>by cases e
 | _::_,[],e=>by cases e
 | x::a,y::b,e=>by
  injection e with e1 e2
  injection e1 with e1
  rw[e1,lG e2]
def isl_k{d:D}{env:aC}{s:Pen}{i:Nat}(h:Kd d)(e:env[i]?=some (some d)):(xB (xUn (eV ["list"]) (ac i)):Xt []).p env s=.ok (match d with | .lst _=>true | _=>false) s:=by
 obtain⟨t,ht⟩:=h;simp only[cq,fc,lu e,Pb,oIsi_p,ht,qbM,Pf,PR.bl_ok];cases d <;> first | (cases ht;done) | (injection ht with ht;subst ht;simp[cj];done) | skip
def gp{ns:List Int}{k:Int}(h0:0<=k):cQ (ns.map D.int) none (some k)=(ns.take k.toNat).map .int:=by
 obtain⟨j,rfl⟩:=dw h0;unfold cQ;rw[HT.mL,qat,HT.pe,qaQ,List.drop_zero,Nat.sub_zero,List.map_take];by_cases z:j<=ns.length
 ·rw[qcY z]
 ·rw[Nat.min_eq_right (by ext),qbk (by simp),qbk (by simp;ext)]
def xJ(x y:Int):mmK [x,y]=[x,y]\/mmK [x,y]=[y,x]:=by
 rcases Int.lt_trichotomy x y with h|h | h
 ·exact .inl (iL h)
 ·subst h;left;simp[mmK]
 ·exact .inr (i4 h)
def cU(rs:List Int):List (List Int):=(List.range rs.length).map fun k=>mmK [rs.getD k 0,rs.getD (nxt rs.length k) 0]
def eU(rs:List Int):List Int->Bool
 | [a,b]=>decide (a∈rs) && decide (b∈rs)
 | _=>false
def lF(rs:List Int)(x:D):Bool:=match eD x with
 | some k=>eU rs k
 | none=>false
def vm:∀(ls:List (List Int)),(((ls.map kD).filter (lF rs)).map fun x=>x)=(ls.filter (eU rs)).map kD
 | []=>rfl
 | k::ls=>by
  have ih:=vm (rs:=rs) ls;have e:lF rs (kD k)=eU rs k:=by simp[lF,di]
  rw[qaG,qbA,qbA,e];by_cases z:eU rs k=true <;> simp[z] at ih ⊢ <;> exact ih
def rM:∀(ns:List Int),cF (ns.map .int)=some ns
 | []=>rfl
 | i::ns=>by rw[qaG,cF,rM ns];rfl
def mH(I:Nat->aC->Pen->Prop)(R:D->Pen->Prop):∀(ds:List D) (j:Nat) (env:aC) (s:Pen),I j env s ->
  (∀m env s d,I (j+m) env s->ds[m]?=some d->∃env1,g d env=some env1/\((∃env' s',b env1 s=.nx env' s'/\I (j+m+1) env' s')\/∃r s',b env1 s=.rt r s'/\R r s')) ->
  (∃env' s',pGo g b ds env s=.nx env' s'/\I (j+ds.length) env' s')\/∃r s',pGo g b ds env s=.rt r s'/\R r s'
 | [],j,env,s,hI,_=>.inl ⟨env,s,rfl,hI⟩
 | d::ds,j,env,s,hI,st=>by
  obtain⟨env1,e1,h⟩:=st 0 env s d hI rfl;rcases h with ⟨env2,s2,e2,I2⟩|⟨r,s2,e2,hr⟩
  ·rcases mH I R ds (j+1) env2 s2 I2 (fun m env' s' x q z=>by
    have:=st (m+1) env' s' x (by rw[show j+(m+1)=j+1+m by ext];exact q) (by simpa using z)
    rw[show j+(m+1)+1=j+1+m+1 by ext] at this
    exact this) with ⟨env3,s3,e3,I3⟩|⟨r,s3,e3,hr⟩
   ·refine .inl ⟨env3,s3,?_,by rw[qaE,show j+(ds.length+1)=j+1+ds.length by ext];exact I3⟩;rw[jq e1,e2];exact e3
   ·refine .inr ⟨r,s3,?_,hr⟩;rw[jq e1,e2];exact e3
  ·refine .inr ⟨r,s2,?_,hr⟩;rw[jq e1,e2];rfl
def AA{ds:List D}{d:D}:atI (ds++[d]) (-1)=some d:=by
 unfold atI ixN;rw[qak (by decide),qaf (by simp;ext),qaT]
 have:((-1:Int)+((ds++[d]).length:Int)).toNat=ds.length:=by simp;ext
 rw[this];simp
def nbs(v:Int)(ks:List (List Int)):List Int:=below v ks++above v ks
def near_at{n:Nat}{ks:List (List Int)}{x:Int}(h0:0<=x)(h1:x<n):atI ((List.range n).map fun (v:Nat)=>D.lst ((below (v:Int) ks++above (v:Int) ks).map .int)) x=some (.lst ((nbs x ks).map .int)):=by
 obtain⟨k,rfl⟩:=dw h0;exact L2.dj (by simp[nbs,show k<n by ext])
def at_mem{ds:List D}{i:Int}(h0:0<=i)(h1:i<(ds.length:Int)):∃d,atI ds i=some d/\d∈ds:=by
 obtain⟨k,rfl⟩:=dw h0;have hk:k<ds.length:=by ext
 exact⟨ds[k],L2.dj (by simp[hk]),qcg hk⟩
def yZ{ns:List Int}{k:Int}(h0:0<=k):cQ (ns.map D.int) (some k) none=(ns.drop k.toNat).map .int:=by
 obtain⟨j,rfl⟩:=dw h0;by_cases z:j<=ns.length
 ·exact jB z
 ·unfold cQ;rw[HT.mL,qat,HT.pe,Nat.min_eq_right (by ext),qaZ (by simp),qaQ,qaZ (by ext)];simp
structure At (x:D):Prop where
 kd:Kd x
 ex:∃u,py x=some u/\u.canLay0=true/\dep x<=5/\Sh 30000 u
structure Tg (d:D):Prop where
 kd:Kd d
 li:∀ds,d=.lst ds->ds.length<=30/\∀x∈ds,At x
 rp:∃t,jV d=some t
def kE{i:Int}(h:i.natAbs<1900):i.natAbs.log2<1920:=by
 have:=Nat.log2_le_self i.natAbs
 lia
def nD(h:i.natAbs<1900):At (.int i):=⟨⟨_,rfl⟩,_,rfl,rfl,by simp[dep],(yF (kE h)).mono (by decide)⟩
def at_bl:At (.bl b):=⟨⟨_,rfl⟩,_,rfl,rfl,by simp[dep],by cases b <;> exact⟨rfl,by decide +kernel,by decide +kernel⟩⟩
def nS:∀{ds:List D},(∀x∈ds,At x)->∃us,pys ds=some us/\PyData.canLayAll0 us=true/\deps ds<=5/\(∀u∈us,Sh 30000 u)/\us.length=ds.length
 | [],_=>⟨[],rfl,rfl,by simp[deps],(fun _ h=>nomatch h),rfl⟩
 | x::ds,h=>by
  obtain⟨us,e,l,dp,sh,hl⟩:=nS (ds:=ds) fun x hx=>h x (qai _ hx);obtain⟨u,e1,l1,d1,s1⟩:=(h x (by simp)).ex;refine⟨u::us,by simp[pys,e1,e],by simp[PyData.canLayAll0,l1,l],by simp only[deps];lia,fun v hv=>?_,by simp[hl]⟩;rcases qar.mp hv with rfl|hv
  ·exact s1
  ·exact sh v hv
def big:1000000<=sizeLine:=by decide
def du(hl:ds.length<=30)(h:∀x∈ds,At x):Tg (.lst ds):=by
 obtain⟨us,e,l,dp,sh,ul⟩:=nS h;refine⟨⟨_,rfl⟩,fun _ q=>(by cases q;exact⟨hl,h⟩),(PyData.list us).shown,?_⟩
 ·have s:=vx sh
  have:(30000+2) * us.length+2<=1000000:=by lia
  have b:=big;unfold jV;have ep:py (.lst ds)=some (.list us):=by simp[py,e]
  dsimp only;rw[ep];dsimp only;rw[qaf ⟨by simp only[dep];lia,s.able,qaD s.len (by lia)⟩]
def tg_t(hl:ds.length<=30)(h:∀x∈ds,At x):Tg (.tup ds):=by
 obtain⟨us,e,l,dp,sh,ul⟩:=nS h;refine⟨⟨_,rfl⟩,fun _ q=>(by cases q),(PyData.tuple us).shown,?_⟩
 ·have s:=Ar sh
  have:(30000+2) * us.length+3<=1000000:=by lia
  have b:=big;unfold jV;have ep:py (.tup ds)=some (.tuple us):=by simp[py,e]
  dsimp only;rw[ep];dsimp only;rw[qaf ⟨by simp only[dep];lia,s.able,qaD s.len (by lia)⟩]
def yC{gs:List Int}(hl:gs.length<=14)(h:∀x∈gs,x.natAbs<1900):At (.lst (gs.map .int)):=by
 obtain⟨a,b⟩:=cW gs;obtain⟨l1,l2⟩:=d9 gs;refine⟨⟨_,rfl⟩,.list (gs.map .int),by simp[py,a],by simpa [PyData.canLay0] using l1,by simp[dep,b],?_⟩;refine (vx (L:=2000) fun d hd=>?_).mono (by rw[qat];lia);obtain⟨i,hi,rfl⟩:=qax.mp hd;exact yF (kE (h i hi))
def at_str(h1:PyData.strOk x=true)(h2:PyData.strOk (reprText x)=true)(h3:(reprText x).length<=30000):At (.str x):=⟨⟨_,rfl⟩,.str x,rfl,h1,by simp[dep],⟨rfl,h2,h3⟩⟩
def RgP(n:Nat)(ks:List (List Int))(gs:List Int):Prop:=Rg n gs/\∀k∈cS gs,k∈ks
open Classical in
def rgB(n:Nat)(ks:List (List Int))(d:D):Bool:=decide (∃gs,d=.lst (gs.map .int)/\RgP n ks gs)
open Classical in
theorem wT:rgB n ks (.lst (gs.map .int))=true↔RgP n ks gs:=by
 unfold rgB;rw[decide_eq_true_eq];constructor
 ·rintro⟨hs,e,r⟩;injection e with e
  rw[lG e];exact r
 ·exact fun r=>⟨gs,rfl,r⟩
def iY(h:∀gs,d=.lst (gs.map .int)->¬RgP n ks gs):rgB n ks d=false:=by
 unfold rgB;exact @decide_eq_false _ (_) fun ⟨gs,e,r⟩=>h gs e r
def lr(g:Rg n rs):k∈cU rs↔k∈cS rs:=by
 have ge:∀i,i<rs.length->rs[i]?=some (rs.getD i 0):=fun i hi=>by simp[List.getD,hi]
 have nl:∀k,k<rs.length->nxt rs.length k<rs.length:=fun k hk=>by unfold nxt;split <;> lia
 constructor
 ·intro hk;unfold cU at hk;obtain⟨i,hi,rfl⟩:=qax.mp hk;rw[qaY] at hi;have ad:Adj rs (rs.getD i 0) (rs.getD (nxt rs.length i) 0):=⟨i,hi,ge i hi,ge _ (nl i hi)⟩;have ne:=(g.ne ad).1;rcases qcD ne with z|z
  ·rw[iL z];exact (eT g z).mpr (.inl ad)
  ·rw[i4 z];exact (eT g z).mpr (.inr ad)
 ·intro hk;obtain⟨a,b,rfl,_,lt,_⟩:=(jS g).tie k hk;unfold cU;rw[qax];rcases (eT g lt).mp hk with ⟨i,hl,e1,e2⟩|⟨i,hl,e1,e2⟩
  ·rw[ge i hl] at e1;rw[ge _ (nl i hl)] at e2;injection e1 with e1
   injection e2 with e2
   exact⟨i,qaY.mpr hl,by rw[e1,e2];exact iL lt⟩
  ·rw[ge i hl] at e1;rw[ge _ (nl i hl)] at e2;injection e1 with e1
   injection e2 with e2
   exact⟨i,qaY.mpr hl,by rw[e1,e2];exact i4 lt⟩
def all_b{ds:List D}{f:D->Bool}:oJ.p [.lst (ds.map fun x=>.bl (f x))]=some (.bl (ds.all f)):=by
 show ((some (ds.map fun x=>D.bl (f x))).bind kY).map _=_
 have:(ds.map fun x=>D.bl (f x))=(ds.map f).map .bl:=by rw[qbj];rfl
 rw[this,qaT,oU,qbM,qcV];rfl
open Classical in
theorem pD{n:Nat}{ks:List (List Int)}{d:D}{s:Pen}(hn:n<=12)(h:Tg d):fw.p [aH n ks,d] s=.ok (.bl (rgB n ks d)) s:=by
 by_cases zl:∃ds,d=.lst ds
 ·obtain⟨ds,rfl⟩:=zl;obtain⟨hl,ha⟩:=h.li ds rfl;by_cases r:∃gs,ds=gs.map .int/\RgP n ks gs
  ·obtain⟨gs,rfl,r⟩:=r;rw[wT.mpr r];exact yb r.1 r.2
  ·have rb:rgB n ks (.lst ds)=false:=iY fun gs e q=>r ⟨gs,by injection e,q⟩;rw[rb,jf (by rfl)];unfold fo;rw[show dSt 2 [aH n ks,.lst ds]=[some (aH n ks),some (.lst ds)] from rfl];have il:(eV ["list"]).p (.lst ds)=some (.bl true):=by simp[cj]
   rw[aB,bH];by_cases l3:(ds.length:Int)<3
   ·simp![eM,de,cq,fc,il,Pf,PR.bl_ok,qaS,qac,if_false,aL,bG,cA,bN,bu,gL,l3,decide_true,Pg,if_true,bx,je,PU.dh,PU.bM]
   ·simp![eM,de,cq,fc,il,Pf,PR.bl_ok,qaS,qac,if_false,aL,bG,cA,bN,bu,gL,l3,decide_false,Pg,bL,PU.au];have q:=dI (ws:=[]) (ws':=[]) (env:=[some (aH n ks),some (.lst ds)]) (s:=s) (fm:=[0]) (i:=bK (ac 1)) (t:=xTrue) (e:=(aF dL (ab (aj oIx (ac 1) (xC (.int 0))) (ab (ac 0) xNil)))) (ds:=ds) (fun _=>true) (fun x=>.bl (plB n x)) (by simp) (by lia) (fun x hx=>⟨rfl,fun _=>by simp[aH,place_k (ha x hx).kd]⟩);rw[cI] at q;rw[aB,bH,de,cq,bG,ao,q];simp only[Pb,ar,all_b,Pf,PR.bl_ok];by_cases za:ds.all (plB n)=true
    ·simp only[za,qaS,Pg,qac,if_false,bL,PU.au];have zp:=qbH.mp za;obtain⟨gs,rfl⟩:=mK (ds:=ds) fun x hx=>by
      have:=zp x hx
      cases x with
      | int i=>rfl
      | _=>cases this
     rw[qat] at hl l3;have bd:∀x∈gs,0<=x/\x<(n:Int):=fun x hx=>by
      have:=zp (.int x) (qax.mpr ⟨x,hx,rfl⟩)
      simpa [plB] using this
     have ls:=cLS_i (ns:=gs) (by lia);rw[aB,bH];by_cases nd:gs.Nodup
     ·have mn:many gs=gs.length:=oA.mpr nd;have g:Rg n gs:=⟨nd,bd,hn,by lia⟩;rw[mn] at ls;simp![cq,aL,bG,ls,cA,qat,Pf,nY,iX,if_true,decide_true,qaS,PR.bl_ok,Pg,qac,if_false,bL,PU.au];have sw:=jS g;have sl:=jz sw.n12 sw.tie sw.nd
      have q2:=dI (ws:=[]) (ws':=[]) (env:=[some (aH n ks),some (.lst (gs.map .int))]) (s:=s) (fm:=[0]) (i:=bK (aF f8 (ab (ac 1) xNil))) (t:=xTrue) (e:=aj (oIn false) (ac 0) (aj oIx (ac 1) (xC (.int 1)))) (ds:=(cS gs).map kD) (fun _=>true) (fun x=>.bl (jL ks x)) (by
       simp![eL,bg,oB g];rfl) (by simp;lia) (fun x hx=>by
       obtain⟨k,hk,rfl⟩:=qax.mp hx
       exact⟨rfl,fun _=>by simp[aH,i8 (d:=.tup (ks.map kD)) rfl,jL,di]⟩)
      rw[cI] at q2;have an:((cS gs).map kD).all (jL ks)=false:=by
       refine Bool.eq_false_iff.mpr fun q=>r ⟨gs,rfl,g,fun k hk=>?_⟩
       have:=qbH.mp q (kD k) (qax.mpr ⟨k,hk,rfl⟩)
       simpa [jL,di] using this
      rw[bx,bG,ao,q2];simp only[Pb,ar,all_b,an,Pf,Pg,PU.bM]
     ·have mn:¬((many gs:Nat):Int)=(gs.length:Int):=fun q=>nd (oA.mp (by lia));simp![cq,aL,bG,ls,cA,qat,Pf,nY,iX,if_true,mn,decide_false,qcq,PR.bl_ok,Pg,bx,bN,je,PU.dh,PU.bM]
    ·simp only[za,qcq,Pg,if_true,bx,bN,je,Pb,PU.dh,PU.bM]
 ·have rb:rgB n ks d=false:=iY fun gs e=>absurd ⟨_,e⟩ zl;rw[rb,jf (by rfl)];unfold fo;rw[show dSt 2 [aH n ks,d]=[some (aH n ks),some d] from rfl];have tl:=isl_k (env:=[some (aH n ks),some d]) (s:=s) (i:=1) h.kd rfl
  cases d with
  | lst ds=>exact absurd ⟨_,rfl⟩ zl
  | _ =>
   rw[aB,bH,eM,de,tl];simp
def rA:∀{l:List Int} {v:Int},l.Nodup->l.count v<=1
 | [],v,_=>by simp
 | x::l,v,h=>by
  obtain⟨h1,h2⟩:=qbL.mp h
  have:=rA (v:=v) h2
  rw[qdb];by_cases z:x=v
  ·subst z;simp[List.count_eq_zero.mpr h1]
  ·simp[z];exact this
def rD:∀{l:List Int},(∀v∈l,l.count v<=1)->l.Nodup
 | [],_=>by simp
 | x::l,h=>by
  rw[qbL];have h0:=h x (by simp);rw[List.count_cons_self] at h0;refine⟨fun m=>?_,rD fun v hv=>?_⟩
  ·have:=List.count_pos_iff.mpr m;lia
  ·have:=h v (qai _ hv)
   rw[qdb] at this;lia
def mU:∀(gs:List Int),(gs.map PyData.int).countP (fun e=>PyData.eqv e (.int v))=gs.count v
 | []=>rfl
 | x::gs=>by
  rw[qaG,qcN,qdb,mU gs];congr 1
def cyc_q(e1:env[1]?=some (some (.lst (rs.map .int))))(l1:1<=rs.length)(l2:rs.length<=30):(bC 2 [] (cX iZ (ab (ac 1) (ab (aj bq (xSl (ac 1) (xPt (xC (.int 1))) xNo) (xSl (ac 1) xNo (xPt (xC (.int 1))))) xNil))) (ws':=[]) (xGp (xGc (xNm 0) (xGc (xNm 1) xGl)) 2) xTrue (bQ (ab (xCb oX (ab (ac 0) (ab (ac 1) xNil))) (ab (xCb oZ (ab (ac 0) (ab (ac 1) xNil))) xNil))):Xe []).p env s=.ok (.lst ((cU rs).map kD)) s:=by
 have ge:∀i,i<rs.length->rs[i]?=some (rs.getD i 0):=fun i hi=>by simp[List.getD,hi]
 have nl:∀k,k<rs.length->nxt rs.length k<rs.length:=fun k hk=>by unfold nxt;split <;> lia
 have c1:cQ (rs.map D.int) (some 1) none=(rs.drop 1).map .int:=jB (ns:=rs) (j:=1) l1;have c2:=gp (ns:=rs) (k:=1) (by decide);have oa:=cy (x:=(rs.drop 1).map D.int) (y:=(rs.take (1:Int).toNat).map .int) (by simp;lia);have ez:kN (rs.map .int) ((rs.drop 1).map D.int++(rs.take (1:Int).toNat).map .int)=(List.range rs.length).map fun k=>.tup [.int (rs.getD k 0),.int (rs.getD (nxt rs.length k) 0)]:=by
  apply qbu;intro k;unfold kN;rw[qao,qao,<-qcy,List.zip_map,qao];by_cases hk:k<rs.length
  ·have e1:(rs.drop 1++rs.take (1:Int).toNat)[k]?=some (rs.getD (nxt rs.length k) 0):=by
    rw[<-ge _ (nl k hk)];unfold nxt;by_cases z:k+1=rs.length
    ·rw[qaf z,qaA (by simp;lia),qbg,show k - (rs.length - 1)=0 by lia,qby (by decide)]
    ·rw[qak z,qam (by simp;lia),qbX];congr 1;lia
   have e2:(rs.zip (rs.drop 1++rs.take (1:Int).toNat))[k]?=some (rs.getD k 0,rs.getD (nxt rs.length k) 0):=qcF.mpr ⟨ge k hk,e1⟩;rw[e2,qch hk];rfl
  ·have e2:(rs.zip (rs.drop 1++rs.take (1:Int).toNat))[k]?=none:=qaN (by rw[List.length_zip];lia);rw[e2,qaN (by simp;lia)];rfl
 have kk:∀k,eD (.tup [.int (rs.getD k 0),.int (rs.getD (nxt rs.length k) 0)])=some [rs.getD k 0,rs.getD (nxt rs.length k) 0]:=fun k=>di [rs.getD k 0,rs.getD (nxt rs.length k) 0]
 have q1:=comp2 (ws:=[]) (ws':=[]) (env:=env) (s:=s) (fm:=[]) (i:=(cX iZ (ab (ac 1) (ab (aj bq (xSl (ac 1) (xPt (xC (.int 1))) xNo) (xSl (ac 1) xNo (xPt (xC (.int 1))))) xNil)))) (t:=xTrue) (e:=(bQ (ab (xCb oX (ab (ac 0) (ab (ac 1) xNil))) (ab (xCb oZ (ab (ac 0) (ab (ac 1) xNil))) xNil)))) (ds:=(List.range rs.length).map fun k=>.tup [.int (rs.getD k 0),.int (rs.getD (nxt rs.length k) 0)]) (fun _=>true) (fun x=>match eD x with | some k=>kD (mmK k) | none=>.non) (by
   simp only[gK,ao,aL,iA,lu e1,Pb,gZ,bN,bu,ie,gX,c1,c2,Pf,oa,ar,iZ_ll,ez]) (by simp;lia) (fun x hx=>by
   obtain⟨k,hk,rfl⟩:=qax.mp hx;refine⟨_,_,rfl,rfl,fun _=>?_⟩;rw[kk]
   simp[mmK,kD])
 have e2:((((List.range rs.length).map fun k=>D.tup [.int (rs.getD k 0),.int (rs.getD (nxt rs.length k) 0)]).filter fun _=>true).map fun x=>match eD x with | some k=>kD (mmK k) | none=>.non)=(cU rs).map kD:=by
  unfold cU;rw[cI,qbj,qbj];refine qcx fun k _=>?_;simp only[Function.comp_apply,kk]
 rw[e2] at q1;exact q1
def lr_ok(e:pys ds=some us)(l:PyData.canLayAll0 us=true)(dp:deps ds<=5)(h0:0<=v)(h1:v<(n:Int)):lrB.p [some (aH n ks),some (.lst ds),some (.int v),none] s=if us.countP (fun e=>PyData.eqv e (.int v))<=1 then .nx [some (aH n ks),some (.lst ds),some (.int v),none] s else .rt (.bl false) s:=by
 have i0:oIx.p (aH n ks) (.int 0)=some (.int (n:Int)):=rfl;have rc:vP.p ds [.int v]=some (.int ((us.countP (fun e=>PyData.eqv e (.int v)):Nat):Int)):=by
  show (match py (.int v),pys ds with | some u,some us=>_ | _,_=>_)=_;rw[e];show (if _ then _ else _)=_;rw[qaf ⟨⟨by simp[dep],by ext⟩,rfl,l⟩]
 rw[bH];by_cases c:us.countP (fun e=>PyData.eqv e (.int v))<=1
 ·simp[cj,i0,h0,h1,rc,c,show ¬((us.countP (fun e=>PyData.eqv e (.int v)):Nat):Int)>1 by ext]
 ·simp[cj,i0,h0,h1,rc,c,show ((us.countP (fun e=>PyData.eqv e (.int v)):Nat):Int)>1 by ext]
def lr_turn(h:At x)(e:pys ds=some us)(l:PyData.canLayAll0 us=true)(dp:deps ds<=5) :
  (lrB.p [some (aH n ks),some (.lst ds),some x,none] s=.rt (.bl false) s)\/(lrB.p [some (aH n ks),some (.lst ds),some x,none] s=.nx [some (aH n ks),some (.lst ds),some x,none] s/\∃v,x=.int v/\0<=v/\v<(n:Int)/\us.countP (fun e=>PyData.eqv e (.int v))<=1):=by
 by_cases z:∃v,x=.int v/\0<=v/\v<(n:Int)
 ·obtain⟨v,rfl,h0,h1⟩:=z;have k:=lr_ok (n:=n) (ks:=ks) (s:=s) e l dp h0 h1;by_cases c:us.countP (fun e=>PyData.eqv e (.int v))<=1
  ·exact .inr ⟨by rw[k,qaf c],v,rfl,h0,h1,c⟩
  ·exact .inl (by rw[k,qak c])
 ·have i0:oIx.p (aH n ks) (.int 0)=some (.int (n:Int)):=rfl;left;obtain⟨t,ht⟩:=h.kd;rw[bH]
  cases x with
  | int v =>
   by_cases h0:0<=v
   ·have h1:¬v<(n:Int):=fun q=>z ⟨v,rfl,h0,q⟩;simp[cj,i0,h0,h1]
   ·simp[cj,i0,h0]
  | bl b=>simp[cj]
  | exc c=>cases ht
  | pen=>cases ht
  | _=>simp[cj]
def xY{n:Nat}{ks:List (List Int)}{d:D}{s:Pen}(hn:n<=12)(h:Tg d):fe.p [aH n ks,d] s=.ok (.bl (rgB n ks d)) s:=by
 rw[tN (by rfl)];unfold iB;rw[show dSt 4 [aH n ks,d]=[some (aH n ks),some d,none,none] from rfl];by_cases zl:∃ds,d=.lst ds
 ·obtain⟨ds,rfl⟩:=zl;obtain⟨hl,ha⟩:=h.li ds rfl;obtain⟨us,eu,lay,dp,_,_⟩:=nS ha;have il:(eV ["list"]).p (.lst ds)=some (.bl true):=by simp[cj]
  rw[aB,bH];by_cases l3:(ds.length:Int)<3
  ·have rb:rgB n ks (.lst ds)=false:=iY fun gs e q=>by
    injection e with e
    have:=q.1.l3
    rw[e,qat] at l3;lia
   rw[rb];simp![eM,de,cq,fc,il,Pf,PR.bl_ok,qaS,qac,if_false,aL,bG,cA,bN,bu,gL,l3,decide_true,Pg,if_true,bx,je,PU.dh,PU.bM]
  ·simp![eM,de,cq,fc,il,Pf,PR.bl_ok,qaS,qac,if_false,aL,bG,cA,bN,bu,gL,l3,decide_false,Pg,bL,PU.au];have r:=mH (g:=(xNm 2:Xg []).p) (b:=lrB.p)
    (fun j env s'=>∃z2,env=[some (aH n ks),some (.lst ds),z2,none]/\s'=s/\∀x∈ds.take j,∃v,x=.int v/\0<=v/\v<(n:Int)/\us.countP (fun e=>PyData.eqv e (.int v))<=1) (fun r s'=>r=.bl false/\s'=s) ds 0 [some (aH n ks),some (.lst ds),none,none] s ⟨none,rfl,rfl,by simp⟩ (fun j env s' x ⟨z2,hE,hS,hp⟩ hx=>by
     rw[qaU] at hp ⊢;subst hE hS;have et:ds.take (j+1)=ds.take j++[x]:=by rw[qbU,hx];rfl
     refine⟨[some (aH n ks),some (.lst ds),some x,none],rfl,?_⟩;rcases lr_turn (n:=n) (ks:=ks) (s:=s') (ha x (qaI hx)) eu lay dp with e|⟨e,v,hv⟩
     ·exact .inr ⟨_,_,e,rfl,rfl⟩
     ·refine .inl ⟨_,_,e,_,rfl,rfl,fun y hy=>?_⟩;rw[et] at hy;rcases qau.mp hy with q|q
      ·exact hp y q
      ·have:y=x:=by simpa using q
       rw[this];exact⟨v,hv⟩)
   rw[aB,jd];simp only[eL,aE,aA,Pb,kL,Pf,Pg];rcases r with ⟨env',s',e,z2,rfl,rfl,hp⟩|⟨r,s',e,rfl,rfl⟩
   ·rw[qaU,qcr] at hp;obtain⟨gs,rfl⟩:=mK (ds:=ds) fun x hx=>by
     obtain⟨v,rfl,_⟩:=hp x hx;rfl
    rw[qat] at hl l3;have bd:∀x∈gs,0<=x/\x<(n:Int):=fun x hx=>by
     obtain⟨v,ev,h0,h1,_⟩:=hp (.int x) (qax.mpr ⟨x,hx,rfl⟩);injection ev with ev
     subst ev;exact⟨h0,h1⟩
    have eu':us=gs.map .int:=by
     have:=(cW gs).1
     rw[eu] at this;injection this
    have nd:gs.Nodup:=rD fun v hv=>by
     obtain⟨v',ev,_,_,c⟩:=hp (.int v) (qax.mpr ⟨v,hv,rfl⟩);injection ev with ev
     subst ev;rw[eu',mU] at c;exact c
    have g:Rg n gs:=⟨nd,bd,hn,by lia⟩;have q1:=cyc_q (rs:=gs) (env:=[some (aH n ks),some (.lst (gs.map .int)),z2,none]) (s:=s') rfl (by lia) hl;have cl:(cU gs).length=gs.length:=by unfold cU;simp
    have q2:=dI (ws:=[]) (ws':=[]) (env:=[some (aH n ks),some (.lst (gs.map .int)),z2,some (.lst ((cU gs).map kD))]) (s:=s') (fm:=[0]) (i:=bK (ac 3)) (t:=xB (aj (oIn true) (ac 0) (aj oIx (ac 1) (xC (.int 1))))) (e:=ac 0) (ds:=(cU gs).map kD) (mZ ks) (fun x=>x) (by simp) (by simp;lia) (fun x hx=>by
     obtain⟨k,hk,rfl⟩:=qax.mp hx
     exact⟨by simp[aH,mZ,di,i8 (d:=.tup (ks.map kD)) rfl],fun _=>by simp⟩)
    rw[my] at q2;rw[e,PU.au,aB,cc,q1];simp only[Pg,qaJ,qaM,PU.au];rw[bx,aL,q2];simp only[Pb,cE,ar,qba,qaP,if_true];by_cases z:((cU gs).filter fun k=>!decide (k∈ks))=[]
    ·have rb:rgB n ks (.lst (gs.map .int))=true:=wT.mpr ⟨g,fun k hk=>by
      have:=qcQ.mp z k ((lr g).mpr hk)
      simpa using this⟩
     have ee:k5.p (.lst []) (.lst [])=some (.bl true):=(xW rfl).trans (mO (neg:=false) (xs:=[]) (ys:=[]));rw[rb,z,qcA,ee];rfl
    ·have rb:rgB n ks (.lst (gs.map .int))=false:=iY fun hs eh q=>z (by
      injection eh with eh
      rw[lG eh];rw[qcQ];intro k hk
      simp[q.2 k ((lr q.1).mp hk)])
     have ee:k5.p (.lst (((cU gs).filter fun k=>!decide (k∈ks)).map kD)) (.lst [])=some (.bl false):=y9 (by
      rw[qat];exact fun q=>z (qbD.mp q))
     rw[rb,ee];rfl
   ·have rb:rgB n ks (.lst ds)=false:=iY fun gs eg q=>by
     injection eg with eg
     subst eg;have eu':us=gs.map .int:=by
      have:=(cW gs).1
      rw[eu] at this;injection this
     obtain⟨env2,s2,e2,_⟩:=gm (g:=(xNm 2:Xg []).p) (b:=lrB.p) (fun j env s''=>∃z2,env=[some (aH n ks),some (.lst (gs.map .int)),z2,none]/\s''=s') (gs.map .int) 0 [some (aH n ks),some (.lst (gs.map .int)),none,none] s' ⟨none,rfl,rfl⟩ (fun j env s'' x ⟨z2,hE,hS⟩ hx=>by
      subst hE hS;obtain⟨v,hv,rfl⟩:=qax.mp (qaI hx);have bv:=q.1.bd v hv;have c:us.countP (fun e=>PyData.eqv e (.int v))<=1:=by rw[eu',mU];exact rA q.1.nd
      exact⟨_,_,s'',rfl,(lr_ok eu lay dp bv.1 bv.2).trans (qaf c),_,rfl,rfl⟩)
     rw[e2] at e;cases e
    rw[rb,e];rfl
 ·have rb:rgB n ks d=false:=iY fun gs e=>absurd ⟨_,e⟩ zl;rw[rb];have tl:=isl_k (env:=[some (aH n ks),some d,none,none]) (s:=s) (i:=1) h.kd rfl
  cases d with
  | lst ds=>exact absurd ⟨_,rfl⟩ zl
  | _ =>
   rw[aB,bH,eM,de,tl];simp
set_option maxHeartbeats 1000000
open Classical in
def brB(n:Nat)(ks:List (List Int))(d:D):Bool:=decide (∃gs,d=.lst (gs.map .int)/\RgP n ks gs/\4<=gs.length/\chK ks gs=[])
open Classical in
theorem w6:brB n ks (.lst (gs.map .int))=true↔RgP n ks gs/\4<=gs.length/\chK ks gs=[]:=by
 unfold brB;rw[decide_eq_true_eq];constructor
 ·rintro⟨hs,e,r⟩;injection e with e
  rw[lG e];exact r
 ·exact fun r=>⟨gs,rfl,r⟩
def x3(h:rgB n ks d=false):brB n ks d=false:=by
 unfold brB;refine @decide_eq_false _ (_) fun ⟨gs,e,r,_⟩=>?_;rw[e,wT.mpr r] at h;cases h
def yy(h:rgB n ks d=true):∃gs,d=.lst (gs.map .int)/\RgP n ks gs:=by
 unfold rgB at h;exact @of_decide_eq_true _ (_) h
def tY(h:b=true↔p)(h':c=true↔p):b=c:=by
 rw[qcZ,h,h']
def yX{n:Nat}{ks:List (List Int)}{d:D}{s:Pen}(hn:n<=12)(h:Tg d):g9.p [aH n ks,d] s=.ok (.bl (brB n ks d)) s:=by
 cases z:rgB n ks d with
 | true =>
  obtain⟨gs,rfl,r⟩:=yy z;rw[bare_p r.1 r.2];congr 2;refine tY (p:=RgP n ks gs/\4<=gs.length/\chK ks gs=[]) ?_ w6;rw[qbS,decide_eq_true_eq,List.isEmpty_iff];exact⟨fun ⟨a,b⟩=>⟨r,by lia,b⟩,fun ⟨_,a,b⟩=>⟨by lia,b⟩⟩
 | false =>
  have e:=pD (ks:=ks) (s:=s) hn h;rw[z] at e;rw[x3 z,nA (by rfl)];unfold hG;rw[show dSt 2 [aH n ks,d]=[some (aH n ks),some d] from rfl];simp![bx,v8,bg,e,PR.bl_ok,qac,if_false,Pg,PU.bM]
def cyc_nd(g:Rg n rs):(cU rs).Nodup:=by
 have ge:∀i,i<rs.length->rs[i]?=some (rs.getD i 0):=fun i hi=>by simp[List.getD,hi]
 have inj:∀i j,i<rs.length->j<rs.length->rs.getD i 0=rs.getD j 0->i=j:=fun i j hi hj e=>(qcp (i:=i) (j:=j) hi g.nd).mp (by rw[ge i hi,ge j hj,e]);have nl:∀k,k<rs.length->nxt rs.length k<rs.length:=fun k hk=>by unfold nxt;split <;> lia
 have l3:=g.l3;unfold cU;refine qca.mpr (List.Pairwise.imp_of_mem ?_ qco);intro i j hi hj lt e;rw[qaY] at hi hj;have bi:=nl i hi;have bj:=nl j hj;rcases xJ (rs.getD i 0) (rs.getD (nxt rs.length i) 0) with q|q <;> rcases xJ (rs.getD j 0) (rs.getD (nxt rs.length j) 0) with q'|q' <;> rw[q,q'] at e <;> injection e with e1 e <;> injection e with e2 _
 ·have:=inj _ _ hi hj e1;lia
 ·have a1:=inj _ _ hi bj e1;have a2:=inj _ _ bi hj e2;unfold nxt at a1 a2
  (repeat' split at a1) <;> (repeat' split at a2) <;> lia
 ·have a1:=inj _ _ bi hj e1;have a2:=inj _ _ hi bj e2;unfold nxt at a1 a2
  (repeat' split at a1) <;> (repeat' split at a2) <;> lia
 ·have:=inj _ _ hi hj e2;lia
def xv{n:Nat}{ks:List (List Int)}{gs:List Int}(w:WebT n ks)(r:RgP n ks gs):(ks.filter (eU gs)).length=gs.length↔chK ks gs=[]:=by
 have cl:(cU gs).length=gs.length:=by unfold cU;simp
 have cn:=cyc_nd r.1;have sw:=jS r.1;have sub:∀k∈cU gs,k∈ks.filter (eU gs):=fun k hk=>by
  have hk':=(lr r.1).mp hk;obtain⟨a,b,rfl,_,lt,_⟩:=sw.tie k hk';have sa:=(eT r.1 lt).mp hk';have mm:a∈gs/\b∈gs:=sa.elim (fun q=>(r.1.ne q).2) (fun q=>(r.1.ne q).2.symm);exact qbl.mpr ⟨r.2 _ hk',by simp[eU,mm.1,mm.2]⟩
 have ap:∀a b,a<b->([a,b]∈chK ks gs↔[a,b]∈ks.filter (eU gs)/\[a,b]∉cU gs):=fun a b lt=>by
  unfold chK;rw[qbl,mem_apr r.1 lt,qbl,lr r.1,eT r.1 lt];simp only[eU,qbS,decide_eq_true_eq];constructor
  ·rintro⟨⟨h1,h2,h3⟩,h4⟩;exact⟨⟨h4,h1,h2⟩,h3⟩
  ·rintro⟨⟨h4,h1,h2⟩,h3⟩;exact⟨⟨h1,h2,h3⟩,h4⟩
 constructor
 ·intro e;refine List.eq_nil_iff_forall_not_mem.mpr fun k hk=>?_;have kk:k∈ks:=by
   have:=(qbl.mp hk).2
   exact of_decide_eq_true this
  obtain⟨a,b,rfl,_,lt,_⟩:=w.tie k kk;obtain⟨h1,h2⟩:=(ap a b lt).mp hk
  have:=List.Nodup.length_le_of_subset (l₁:=[a,b]::cU gs) (l₂:=ks.filter (eU gs)) (qbL.mpr ⟨h2,cn⟩) fun k hk=>by
   rcases qar.mp hk with rfl|hk
   ·exact h1
   ·exact sub k hk
  rw[qaE] at this;lia
 ·intro e;have s2:∀k∈ks.filter (eU gs),k∈cU gs:=fun k hk=>Classical.byContradiction fun z=>by
   obtain⟨a,b,rfl,_,lt,_⟩:=w.tie k (qbl.mp hk).1
   have:=(ap a b lt).mpr ⟨hk,z⟩
   rw[e] at this;cases this
  have l1:=List.Nodup.length_le_of_subset cn fun k hk=>sub k hk;have l2:=List.Nodup.length_le_of_subset (w.nd.filter (eU gs)) fun k hk=>s2 k hk;lia
def bare_k{n:Nat}{ks:List (List Int)}{d:D}{s:Pen}(w:WebT n ks)(hn:n<=12)(h:Tg d):iG.p [aH n ks,d] s=.ok (.bl (brB n ks d)) s:=by
 have e:=xY (ks:=ks) (s:=s) hn h;rw[uu (by rfl)];unfold iD;rw[show dSt 2 [aH n ks,d]=[some (aH n ks),some d] from rfl]
 cases z:rgB n ks d with
 | false =>
  rw[z] at e;rw[x3 z];simp![aB,bH,eM,de,cq,bg,e,PR.bl_ok,qcq,if_true,Pg,bx,bN,je,PU.dh,PU.bM]
 | true =>
  rw[z] at e;obtain⟨gs,rfl,r⟩:=yy z;have kl:=jz w.n12 w.tie w.nd;by_cases l4:(gs.length:Int)<4
  ·have rb:brB n ks (.lst (gs.map .int))=false:=Bool.eq_false_iff.mpr fun q=>by
    have:=(w6.mp q).2.1
    lia
   rw[rb];simp![aB,bH,eM,de,cq,bg,e,PR.bl_ok,qaS,qac,if_false,aL,bG,cA,qat,Pf,bN,bu,gL,l4,decide_true,if_true,Pg,bx,je,PU.dh,PU.bM]
  ·have q2:=dI (ws:=[]) (ws':=[]) (env:=[some (aH n ks),some (.lst (gs.map .int))]) (s:=s) (fm:=[1]) (i:=bK (aj oIx (ac 0) (xC (.int 1)))) (t:=(xAnd (xB (aj (oIn false) (aj oIx (ac 0) (xC (.int 0))) (ac 1))) (xB (aj (oIn false) (aj oIx (ac 0) (xC (.int 1))) (ac 1))))) (e:=ac 0) (ds:=ks.map kD) (lF gs) (fun x=>x) (by simp[aH]) (by simp;lia) (fun x hx=>by
    obtain⟨k,hk,rfl⟩:=qax.mp hx;obtain⟨a,b,rfl,_⟩:=w.tie k hk;refine⟨?_,fun _=>by simp⟩;have ia:=om (neg:=false) (x:=a) (d:=.lst (gs.map .int)) (xs:=gs) rfl;have ib:=om (neg:=false) (x:=b) (d:=.lst (gs.map .int)) (xs:=gs) rfl;have t0:oIx.p (kD [a,b]) (.int 0)=some (.int a):=rfl;have t1:oIx.p (kD [a,b]) (.int 1)=some (.int b):=rfl;show (xAnd _ _:Xt []).p [some (kD [a,b]),some (.lst (gs.map .int))] s=_;have ei:lF gs (kD [a,b])=(decide (a∈gs) && decide (b∈gs)):=by simp[lF,di,eU]
    rw[ei]
    by_cases z:a∈gs <;> simp[t0,t1,ia,ib,z])
   rw[vm] at q2;simp![aB,bH,eM,de,cq,bg,e,PR.bl_ok,qaS,qac,if_false,aL,bG,cA,qat,Pf,bN,bu,gL,l4,decide_false,Pg,bL,PU.au];rw[bx,aL,bG,ao,q2];simp![cA,qat,Pf,bG,v9,iX,qac,if_false,Pg,PU.bM];congr 2;refine tY (p:=RgP n ks gs/\4<=gs.length/\chK ks gs=[]) ?_ w6;rw[decide_eq_true_eq];have we:=xv w r;exact⟨fun q=>⟨r,by lia,we.mp (by lia)⟩,fun q=>by have:=we.mpr q.2.2;lia⟩
def zc:∀{ls:List Int} {v:Int},v∈ls->∃j,jv v ls=some j/\ls[j]?=some v
 | [],v,h=>nomatch h
 | x::ls,v,h=>by
  unfold jv;by_cases z:x=v
  ·exact⟨0,by rw[qaf z],by simp[z]⟩
  ·obtain⟨j,e,hj⟩:=zc (ls:=ls) (v:=v) ((qar.mp h).elim (fun e=>absurd e.symm z) id);exact⟨j+1,by rw[qak z,e];rfl,by simpa using hj⟩
def cut_map{ns:List Int}{lo hi:Option Int}:∃ts:List Int,cQ (ns.map D.int) lo hi=ts.map .int :=
 ⟨(ns.drop (HT.sIx ns.length 0 lo)).take (HT.sIx ns.length ns.length hi - HT.sIx ns.length 0 lo),by unfold cQ;rw[qat,List.map_take,List.map_drop]⟩
def tP(ts:List Int)(x:D):Bool:=match x with
 | .int i=>!decide (i∈ts)
 | _=>false
def rL:∀(ls:List Int),(((ls.map D.int).filter (tP ts)).map fun x=>x)=(ls.filter fun i=>!decide (i∈ts)).map D.int
 | []=>rfl
 | i::ls=>by
  have ih:=rL (ts:=ts) ls;rw[qaG,qbA,qbA];by_cases z:(!decide (i∈ts))=true
  ·rw[qaf z,qaf (show tP ts (.int i)=true from z),qaG,ih,qaG]
  ·rw[qak z,qak (show ¬tP ts (.int i)=true from z),ih]
abbrev wkE(n:Nat)(ks:List (List Int))(fs:List Int)(z2 z4 z5 z6:Option D):aC:=[some .pen,some (fZ n ks),z2,some (.lst (fs.map .int)),z4,z5,z6]
def Pl(n:Nat)(gs:List Int):Prop:=gs.length<=14/\∀x∈gs,0<=x/\x<(n:Int)
def yz{n:Nat}{ks:List (List Int)}{fs:List Int}{e:Int}{z2 z4 z5 z6:Option D}{s:Pen}(w:WebT n ks)(hb:∀x∈fs++[e],0<=x/\x<(n:Int))(hl:fs.length<=12) :
  (∃gs s',wkB.p (wkE n ks (fs++[e]) z2 z4 z5 z6) s=.rt (.lst (gs.map .int)) s'/\Pl n gs)\/(∃y5 y6 o s',wkB.p (wkE n ks (fs++[e]) z2 z4 z5 z6) s=.nx (wkE n ks (fs++[e]++[o]) z2 z4 y5 y6) s'/\0<=o/\o<(n:Int)):=by
 have be:=hb e (by simp);have en:gN.p (.int 1)=some (.int (-1)):=rfl;have en2:gN.p (.int 2)=some (.int (-2)):=rfl;have ea:atI ((fs++[e]).map D.int) (-1)=some (.int e):=by rw[qcy];exact AA
 have ne:=near_at (ks:=ks) be.1 be.2;have nl:(nbs e ks).length<=12:=v4 (v:=e) w;obtain⟨ts,et⟩:=cut_map (ns:=fs++[e]) (lo:=some (-2)) (hi:=none)
 have q:=dI (ws:=[3]) (ws':=[1]) (env:=wkE n ks (fs++[e]) z2 z4 z5 z6) (s:=s) (fm:=[3]) (i:=bK (aj oIx (ac 1) (aj oIx (ac 3) (xUn gN (xC (.int 1)))))) (t:=xB (aj (oIn true) (ac 0) (xSl (ac 1) (xPt (xUn gN (xC (.int 2)))) xNo))) (e:=ac 0) (ds:=(nbs e ks).map .int) (tP ts) (fun x=>x) (by
   simp only[eL,aL,aE,aA,Pb,fc,bN,bu,en,Pf,xh,ea,fZ,ne,kL]) (by simp;lia) (fun x hx=>by
   obtain⟨i,hi,rfl⟩:=qax.mp hx;refine⟨?_,fun _=>rfl⟩;have ij:=om (neg:=true) (x:=i) (d:=.lst (ts.map .int)) (xs:=ts) rfl;show (xB _:Xt [1]).p [some (.int i),some (.lst ((fs++[e]).map .int))] s=_
   simp only[cq,aL,aE,aA,Pb,iA,gZ,fc,bN,bu,en2,Pf,ie,gX,et,wk,ij,if_true,PR.bl_ok,tP])
 rw[rL] at q;have bm:∀o∈(nbs e ks).filter (fun i=>!decide (i∈ts)),0<=o/\o<(n:Int):=fun o ho=>(r6 (v:=e) w).2 o (qbl.mp ho).1;have bl:((nbs e ks).filter fun i=>!decide (i∈ts)).length<=12:=qaD (qda _ _) nl;generalize ((nbs e ks).filter fun i=>!decide (i∈ts))=bs at q bm bl;have st1:(b9 5 (bC 1 [3] (bK (aj oIx (ac 1) (aj oIx (ac 3) (xUn gN (xC (.int 1)))))) (ws':=[1]) (xNm 0) (xB (aj (oIn true) (ac 0) (xSl (ac 1) (xPt (xUn gN (xC (.int 2)))) xNo))) (ac 0)):Xd [3]).p (wkE n ks (fs++[e]) z2 z4 z5 z6) s=.nx (wkE n ks (fs++[e]) z2 z4 (some (.lst (bs.map .int))) z6) s:=by
  rw[cc,q];rfl
 rw[aB,st1,PU.au,aB,bH];by_cases z:bs=[]
 ·left;subst z;have e':k5.p (.lst (([]:List Int).map .int)) (.lst [])=some (.bl true):=(xW rfl).trans (mO (neg:=false) (xs:=[]) (ys:=[]));refine⟨fs++[e],s,?_,by simp;lia,hb⟩;simp only[cq,aL,aE,aA,Pb,cE,ar,qba,qaP,if_true,e',Pf,PR.bl_ok,Pg];rw[k9 (d:=.lst ((fs++[e]).map .int)) rfl];rfl
 ·have bp:0<bs.length:=List.length_pos_iff.mpr z;have e':k5.p (.lst (bs.map .int)) (.lst [])=some (.bl false):=y9 (by rw[qat];simp;exact z);obtain⟨c,s1,c0,c1,qc⟩:=cC (s:=s) (size:=(bs.length:Int)) (by lia) (by lia);obtain⟨c,rfl⟩:=dw c0;have hc:c<bs.length:=by lia
  generalize ho:bs[c]=o;have mo:o∈bs:=by rw[<-ho];exact qcg hc
  have bo:=bm o mo;have eo:atI (bs.map D.int) (c:Int)=some (.int o):=L2.dj (by rw[qao,qas hc,ho];rfl);have io:=om (neg:=false) (x:=o) (d:=.lst ((fs++[e]).map .int)) (xs:=fs++[e]) rfl;simp only[cq,aL,aE,aA,Pb,cE,ar,qba,qaP,if_true,e',Pf,PR.bl_ok,Pg,qac,if_false,bL,PU.au];rw[aB,cc];simp![aL,bg,bG,cA,qat,Pf,qc,xh,eo,Pg,qaJ,qaM,PU.au];rw[aB,bH];by_cases zi:o∈fs++[e]
  ·left;obtain⟨j,ej,hj⟩:=zc zi;have hj':=(qae.mp hj).1;have ri:yq.p ((fs++[e]).map .int) [.int o]=some (.int (j:Int)):=by
    show (cF ((fs++[e]).map .int)).bind _=_;rw[rM,qaT,ej];rfl
   have cf:=jB (ns:=fs++[e]) (j:=j) (by lia);refine⟨(fs++[e]).drop j,s1,?_,by rw[qbg];simp;lia,fun x hx=>hb x (qbB hx)⟩;simp![cq,aL,wk,io,zi,decide_true,qac,if_false,Pf,PR.bl_ok,Pg,if_true,bx,iA,gZ,xMr_p,ri,ie,gX,cf,PU.dh]
  ·right;refine⟨some (.lst (bs.map .int)),some (.int o),o,s1,?_,bo.1,bo.2⟩;simp only[cq,aL,aE,aA,Pb,wk,io,zi,decide_false,qac,if_false,Pf,PR.bl_ok,Pg,bL,PU.au];rw[lD (s1:=s1) (as:=[.int o]) (ds:=(fs++[e]).map .int) (ds':=(fs++[e]++[o]).map .int) (r:=.non) (by simp) rfl (by rw[pZ (by simp;lia)];simp)];rfl
def walk_p{n:Nat}{ks:List (List Int)}{v:Int}{s:Pen}(w:WebT n ks)(h0:0<=v)(h1:v<(n:Int)):∃gs s',jK.p [.pen,fZ n ks,.int v] s=.ok (.lst (gs.map .int)) s'/\Pl n gs:=by
 have r:=mH (g:=(xNm 4:Xg [3]).p) (b:=wkB.p)
  (fun j env _=>∃z4 z5 z6 fs e,env=wkE n ks (fs++[e]) (some (.int v)) z4 z5 z6/\fs.length=j/\∀x∈fs++[e],0<=x/\x<(n:Int)) (fun r _=>∃gs:List Int,r=.lst (gs.map .int)/\Pl n gs)
  (cP 0 13) 0 (wkE n ks ([]++[v]) (some (.int v)) none none none) s ⟨none,none,none,[],v,rfl,rfl,fun x hx=>by
   have:x=v:=by simpa using hx
   subst this;exact⟨h0,h1⟩⟩ (fun j env s' d ⟨z4,z5,z6,fs,e,hE,hl,hb⟩ hd=>by
   rw[qaU] at hl ⊢;subst hE;have lj:=(qae.mp hd).1;rw[eB] at lj;refine⟨wkE n ks (fs++[e]) (some (.int v)) (some d) z5 z6,rfl,?_⟩;rcases yz (z2:=some (.int v)) (z4:=some d) (z5:=z5) (z6:=z6) (s:=s') w hb (by lia) with ⟨gs,s2,er,pl⟩|⟨y5,y6,o,s2,er,o0,o1⟩
   ·exact .inr ⟨_,s2,er,gs,rfl,pl⟩
   ·refine .inl ⟨_,s2,er,_,_,_,fs++[e],o,rfl,by simp[hl],fun x hx=>?_⟩;rcases qau.mp hx with q|q
    ·exact hb x q
    ·have:x=o:=by simpa using q
     subst this;exact⟨o0,o1⟩)
 have pre:jK.p [.pen,fZ n ks,.int v] s=((pGo (xNm 4:Xg [3]).p wkB.p (cP 0 13) (wkE n ks ([]++[v]) (some (.int v)) none none none) s).then (js 3:Xd [3]).p).fin:=by
  rw[yS (by rfl)];unfold mS;rw[show dSt 7 [D.pen,fZ n ks,.int v]=[some .pen,some (fZ n ks),some (.int v),none,none,none,none] from rfl];rw[aB,pc];simp![cE,qaE,qba,show (0+1:Nat)<=100000 by decide,if_true,Pg,qaJ,qaM,PU.au];rw[aB,jd,gK,ao];simp only[bN,bu,Pb,ar];rw[wU (by decide),Pf,Pg];rfl
 rw[pre];rcases r with ⟨env',s',er,z4,z5,z6,fs,e,rfl,hl,hb⟩|⟨r,s',er,gs,rfl,pl⟩
 ·rw[eB] at hl;refine⟨fs++[e],s',?_,by simp;lia,hb⟩;rw[er,PU.au,k9 (d:=.lst ((fs++[e]).map .int)) rfl,PU.bM]
 ·exact⟨gs,s',by rw[er];rfl,pl⟩
def some_p{n:Nat}{ks:List (List Int)}{s:Pen}(w:WebT n ks)(hn:n<=12):∃gs s',mN.p [.pen,aH n ks] s=.ok (.lst (gs.map .int)) s'/\Pl n gs:=by
 have i0:oIx.p (aH n ks) (.int 0)=some (.int (n:Int)):=rfl;rw[yU (by rfl)];unfold mq;rw[show dSt 3 [D.pen,aH n ks]=[some .pen,some (aH n ks),none] from rfl];by_cases z:(n:Int)=0
 ·have dz:=decide_eq_true z;refine⟨[],s,?_,by simp,by simp⟩;simp only[aB,bH,cq,aL,aE,aA,Pb,bN,bu,i0,Pf,v9,iX,dz,qac,if_false,PR.bl_ok,Pg,if_true,bx,cE,ar,qba,qaP,PU.dh,PU.bM,qcA]
 ·obtain⟨a,s1,a0,a1,qa⟩:=cC (s:=s) (size:=4) (by decide) (by decide);simp![aB,bH,cq,aL,bN,bu,i0,Pf,v9,iX,z,decide_false,qac,if_false,PR.bl_ok,Pg,bL,PU.au,cc,bg,qa,qaJ,qaM,oGt_ii];by_cases za:a>0
  ·obtain⟨b,s2,b0,b1,qb⟩:=cC (s:=s1) (size:=(n:Int)) (by lia) (by lia);obtain⟨gs,s3,qg,pl⟩:=walk_p (s:=s2) w b0 b1;have nr:mF.p [aH n ks] s1=.ok (fZ n ks) s1:=near_p w;refine⟨gs,s3,?_,pl⟩;simp![za,decide_true,if_true,bx,bg,nr,aL,bN,bu,i0,Pf,qb,qg,Pg,PU.dh,PU.bM]
  ·obtain⟨qs,s2,q2,o⟩:=v5 (n:=n) (s:=s1) hn;obtain⟨b,s3,b0,b1,qb⟩:=cC (s:=s2) (size:=5) (by decide) (by decide);have ct:=gp (ns:=qs) (k:=3+b) (by lia);have ql:=o.len;refine⟨qs.take (3+b).toNat,s3,?_,by rw[qbR];lia,fun x hx=>o.bd x (qcu hx)⟩;simp![za,decide_false,qac,if_false,bL,PU.au,bx,iA,bg,aL,bN,bu,i0,Pf,q2,ie,gZ,qb,gi,gX,ct,Pg,PU.bM]
def at_pl{n:Nat}{gs:List Int}(hn:n<=12)(h:∀x∈gs,0<=x/\x<(n:Int)):∀x∈gs.map D.int,At x:=fun x hx=>by
 obtain⟨i,hi,rfl⟩:=qax.mp hx
 have:=h i hi
 exact nD (by lia)
def dg{a b:List D}(ha:∀x∈a,At x)(hb:∀x∈b,At x):∀x∈a++b,At x:=fun x hx=>(qau.mp hx).elim (ha x) (hb x)
def iM(h:At d):∀x∈[d],At x:=fun x hx=>by
 have:x=d:=by simpa using hx
 subst this;exact h
def bent_p{n:Nat}{gs:List Int}{s:Pen}(hn:n<=12)(pl:Pl n gs):∃d s',mQ.p [.pen,.int (n:Int),.lst (gs.map .int)] s=.ok d s'/\Tg d:=by
 obtain⟨gl,gb⟩:=pl;obtain⟨a,s1,a0,a1,qa⟩:=cC (s:=s) (size:=(gs.length:Int)+1) (by lia) (by lia);obtain⟨v,s2,v0,v1,qv⟩:=cC (s:=s1) (size:=(n:Int)+1) (by lia) (by lia);have sub:∀{hs:List Int},(∀x∈hs,x∈gs)->∀x∈hs.map D.int,At x:=fun {hs} h=>at_pl hn fun x hx=>gb x (h x hx);have aG:∀x∈gs.map D.int,At x:=sub fun x h=>h;have aT:∀k,∀x∈(gs.take k).map D.int,At x:=fun k=>sub fun x h=>qcu h;have aD:∀k,∀x∈(gs.drop k).map D.int,At x:=fun k=>sub fun x h=>qbB h;have av:At (.int v):=nD (by lia);have en:gN.p (.int 1)=some (.int (-1)):=rfl;have lt:∀k,((gs.take k).map D.int).length<=14:=fun k=>by rw[qat,qbR];lia
 have ld:∀k,((gs.drop k).map D.int).length<=14:=fun k=>by rw[qat,qbg];lia
 have c1:cQ (gs.map D.int) (some a) none=(gs.drop a.toNat).map .int:=yZ a0;have c2:cQ (gs.map D.int) none (some a)=(gs.take a.toNat).map .int:=gp a0;have c3:cQ (gs.map D.int) (some (a+1)) none=(gs.drop (a+1).toNat).map .int:=yZ (by lia);have ta:=lt a.toNat;have tb:=ld a.toNat;have tc:=ld (a+1).toNat;have tA:=aT a.toNat;have dA:=aD a.toNat;have dB:=aD (a+1).toNat;generalize (gs.take a.toNat).map D.int=TA at c2 ta tA;generalize (gs.drop a.toNat).map D.int=DA at c1 tb dA;generalize (gs.drop (a+1).toNat).map D.int=DB at c3 tc dB;have c4:cQ (gs.map D.int) none (some 1)=(gs.take (1:Int).toNat).map .int:=gp (by decide);have c5:cQ (gs.map D.int) none (some 2)=(gs.take (2:Int).toNat).map .int:=gp (by decide);have c6:cQ (gs.map D.int) none (some 3)=(gs.take (3:Int).toNat).map .int:=gp (by decide);have c7:cQ (gs.map D.int) none (some 4)=(gs.take (4:Int).toNat).map .int:=gp (by decide);have er:rvD (.lst (gs.map .int)) none (some (-1))=some (.lst (gs.reverse.map .int)):=by
  rw[rvD_l (fun k hk=>by cases hk)];show some (D.lst (gs.map D.int).reverse)=_;rw[<-List.map_reverse]
 have lg:(gs.map D.int).length<=14:=by rw[qat];exact gl
 have o1:=cy (x:=DA) (y:=TA) (by lia);have o2:=cy (x:=gs.map D.int) (y:=(gs.take (1:Int).toNat).map D.int) (by have:=lt (1:Int).toNat;lia);have o3:∀y:D,bq.p (.lst TA) (.lst [y])=some (.lst (TA++[y])):=fun y=>cy (by simp;lia);have o4:∀y:D,bq.p (.lst (TA++[y])) (.lst DA)=some (.lst (TA++[y]++DA)):=fun y=>cy (by simp;lia);have o5:=cy (x:=TA) (y:=DB) (by lia);have o6:∀y:D,bq.p (.lst (TA++[y])) (.lst DB)=some (.lst (TA++[y]++DB)):=fun y=>cy (by simp;lia);have cl:xj.p [.lst (gs.map .int)]=some (.lst (gs.map .int)):=cList_l (by lia);have q1:∀(env:aC),env[2]?=some (some (.lst (gs.map .int)))->(bC 1 [] (bK (ac 2)) (ws':=[]) (xNm 0) xTrue (aj oIx (bI (ab (ac 0) (ab (aj oGt (ac 0) (xC (.int 0))) xNil))) (xCb kO (ab (aj oLt (ac 0) (xC (.int 2))) xNil))):Xe []).p env s2=.ok (.lst (gs.map fun v=>if v<2 then .bl (decide (0<v)) else .int v)) s2:=fun env e1=>by
  have q:=dI (ws:=[]) (ws':=[]) (env:=env) (s:=s2) (fm:=[]) (i:=bK (ac 2)) (t:=xTrue) (e:=aj oIx (bI (ab (ac 0) (ab (aj oGt (ac 0) (xC (.int 0))) xNil))) (xCb kO (ab (aj oLt (ac 0) (xC (.int 2))) xNil))) (ds:=gs.map .int) (fun _=>true) (fun y=>match y with | .int v=>(if v<2 then .bl (decide (0<v)) else .int v) | _=>.non) (by rw[eL,lu e1];rfl) (by lia) (fun y hy=>by
   obtain⟨v,_,rfl⟩:=qax.mp hy;refine⟨rfl,fun _=>?_⟩;by_cases z:v<2
   ·simp[z]
   ·simp[z])
  rw[cI,qbj] at q;exact q
 have u1:∀{x:D} {s:Pen},(if [x].length<=100000 then PR.ok (D.lst [x]) s else .bad)=.ok (.lst [x]) s:=fun {x s}=>qaf (by simp);have u0:∀{s:Pen},(if ([]:List D).length<=100000 then PR.ok (D.lst []) s else .bad)=.ok (.lst []) s:=fun {s}=>qaf (by decide);have t0:∀{s:Pen},(if ([]:List D).length<=100000 then PR.ok (D.tup []) s else .bad)=.ok (.tup []) s:=fun {s}=>qaf (by decide);generalize hL1:([.lst (gs.map .int),.lst (DA++TA),.lst (gs.reverse.map .int),.tup (gs.map .int),.lst (gs.map .int++(gs.take (1:Int).toNat).map .int),.lst (TA++[.int v]++DA)]:List D)=L1;generalize hL2:([.lst (TA++DB),.lst (TA++[.int v]++DB),.lst (TA++[.int (-1)]++DB)]:List D)=L2;generalize hL3:([.lst (gs.map fun v=>if v<2 then .bl (decide (0<v)) else .int v),.lst (TA++[.str "0"]++DB),.lst [.lst (gs.map .int)],.non,.str "012"]:List D)=L3;generalize hL4:([.dic,.int (n:Int),.lst ((gs.take (2:Int).toNat).map .int),.lst [],.tup [],.lst (TA++[.lst []]),.bl true,.lst (gs.map .int),.lst ((gs.take (3:Int).toNat).map .int),.lst ((gs.take (4:Int).toNat).map .int)]:List D)=L4;have l1:L1.length=6:=by rw[<-hL1];rfl
 have l2:L2.length=3:=by rw[<-hL2];rfl
 have l3:L3.length=5:=by rw[<-hL3];rfl
 have l4:L4.length=10:=by rw[<-hL4];rfl
 have z1:∀{s:Pen},(if L1.length<=100000 then PR.ok (D.lst L1) s else .bad)=.ok (.lst L1) s:=fun {s}=>qaf (by lia);have z2:∀{s:Pen},(if L2.length<=100000 then PR.ok (D.lst L2) s else .bad)=.ok (.lst L2) s:=fun {s}=>qaf (by lia);have z3:∀{s:Pen},(if L3.length<=100000 then PR.ok (D.lst L3) s else .bad)=.ok (.lst L3) s:=fun {s}=>qaf (by lia);have z4:∀{s:Pen},(if L4.length<=100000 then PR.ok (D.lst L4) s else .bad)=.ok (.lst L4) s:=fun {s}=>qaf (by lia);have d1:=cy (x:=L1) (y:=L2) (by lia);have d2:=cy (x:=L1++L2) (y:=L3) (by simp;lia);have d3:=cy (x:=L1++L2++L3) (y:=L4) (by simp;lia);have s0:At (.str "0"):=at_str (by decide +kernel) (by decide +kernel) (by decide +kernel);have t1:=lt (1:Int).toNat;have good:∀d∈L1++L2++L3++L4,Tg d:=fun d hd=>by
  rcases qau.mp hd with hd|hd
  ·rcases qau.mp hd with hd|hd
   ·rcases qau.mp hd with hd|hd
    ·rw[<-hL1] at hd;simp only[qar,qbn,or_false] at hd;rcases hd with rfl|rfl|rfl|rfl|rfl|rfl
     ·exact du (by lia) aG
     ·exact du (by rw[qay];lia) (dg dA tA)
     ·exact du (by simp;lia) (sub fun x h=>List.mem_reverse.mp h)
     ·exact tg_t (by lia) aG
     ·exact du (by rw[qay];lia) (dg aG (aT _))
     ·exact du (by rw[qay,qay,qaE,qba];lia) (dg (dg tA (iM av)) dA)
    ·rw[<-hL2] at hd;simp only[qar,qbn,or_false] at hd;rcases hd with rfl|rfl|rfl
     ·exact du (by rw[qay];lia) (dg tA dB)
     ·exact du (by rw[qay,qay,qaE,qba];lia) (dg (dg tA (iM av)) dB)
     ·exact du (by rw[qay,qay,qaE,qba];lia) (dg (dg tA (iM (nD (by decide)))) dB)
   ·rw[<-hL3] at hd;simp only[qar,qbn,or_false] at hd;rcases hd with rfl|rfl|rfl|rfl|rfl
    ·refine du (by rw[qat] at lg ⊢;lia) fun y hy=>?_;obtain⟨x,hx,rfl⟩:=qax.mp hy
     have:=gb x hx
     split
     ·exact at_bl
     ·exact nD (by lia)
    ·exact du (by rw[qay,qay,qaE,qba];lia) (dg (dg tA (iM s0)) dB)
    ·exact du (by simp) (iM (yC gl fun x hx=>by have:=gb x hx;lia))
    ·exact⟨⟨_,rfl⟩,fun _ q=>(by cases q),_,rfl⟩
    ·exact⟨⟨_,rfl⟩,fun _ q=>(by cases q),_,qaf (by decide +kernel)⟩
  ·rw[<-hL4] at hd;simp only[qar,qbn,or_false] at hd;rcases hd with rfl|rfl|rfl|rfl|rfl|rfl|rfl|rfl|rfl|rfl
   ·exact⟨⟨_,rfl⟩,fun _ q=>(by cases q),_,rfl⟩
   ·exact⟨⟨_,rfl⟩,fun _ q=>(by cases q),_,qaf (kE (by lia))⟩
   ·exact du (by have:=lt (2:Int).toNat;lia) (aT _)
   ·exact du (by simp) (by simp)
   ·exact tg_t (by simp) (by simp)
   ·exact du (by rw[qay,qaE,qba];lia) (dg tA (iM (yC (gs:=[]) (by simp) (by simp))))
   ·exact⟨⟨_,rfl⟩,fun _ q=>(by cases q),_,rfl⟩
   ·exact du (by lia) aG
   ·exact du (by have:=lt (3:Int).toNat;lia) (aT _)
   ·exact du (by have:=lt (4:Int).toNat;lia) (aT _)
 have LL:(L1++L2++L3++L4).length=24:=by simp[l1,l2,l3,l4]
 obtain⟨c,s3,c0,c9,qc⟩:=cC (s:=s2) (size:=((L1++L2++L3++L4).length:Int)) (by lia) (by lia);obtain⟨d,ed,md⟩:=at_mem (ds:=L1++L2++L3++L4) c0 c9;refine⟨d,s3,?_,good d md⟩;rw[xx (by rfl)];unfold mP;rw[show dSt 6 [D.pen,.int (n:Int),.lst (gs.map .int)]=[some .pen,some (.int (n:Int)),some (.lst (gs.map .int)),none,none,none] from rfl];rw[aB,cc];have el:((gs.map D.int).length:Int)=(gs.length:Int):=by rw[qat]
 simp![bg,aL,bG,cA,el,Pf,bN,bu,gi,qa,Pg,qaJ,qaM,PU.au];rw[aB,cc];simp![bg,aL,Pf,bN,bu,gi,qv,Pg,qaJ,qaM,PU.au];rw[aB,cc];simp![cE,aL,iA,gZ,ie,gX,Pf,c1,c2,o1,xRv_p,fc,bN,bu,en,er,bG,uw,c4,o2,u1,o3,o4,hL1,z1,Pg,qaJ,qaM,PU.au];rw[aB,cc];simp![cE,aL,iA,gZ,ie,gX,Pf,c2,c3,gi,o5,u1,o3,o6,fc,bN,bu,en,hL2,z2,d1,Pg,qaJ,qaM,PU.au];have e1:=q1 [some .pen,some (.int (n:Int)),some (.lst (gs.map .int)),some (.int a),some (.int v),some (.lst (L1++L2))] rfl;rw[aB,cc];simp![cE,aL,e1,iA,gZ,ie,gX,Pf,c2,c3,gi,u1,o3,o6,bN,bu,cn_str,cn_non,hL3,z3,d2,Pg,qaJ,qaM,PU.au];rw[aB,cc];simp![cE,aL,xDic_p,iA,gZ,ie,gX,Pf,c2,c5,c6,c7,u0,t0,rC,u1,o3,bN,bu,je,bG,cl,hL4,z4,d3,Pg,qaJ,qaM,PU.au];simp![bx,aL,bg,bG,cA,Pf,qc,xh,ed,Pg,PU.bM]
def eqD_2:eqD true (.lst [.bl a,.bl b]) (.lst [.bl a,.bl b])=some (.bl false):=by
 cases a <;> cases b <;> rfl
def rt_turn{n:Nat}{ks:List (List Int)}{z2 z3 z4 z5:Option D}{s:Pen}(w:WebT n ks)(hn:n<=12):∃y3 y4 y5 s',rtB.p [some .pen,some (aH n ks),z2,z3,z4,z5] s=.nx [some .pen,some (aH n ks),z2,y3,y4,y5] s':=by
 have i0:oIx.p (aH n ks) (.int 0)=some (.int (n:Int)):=rfl;obtain⟨gs,s1,q1,pl⟩:=some_p (s:=s) w hn;obtain⟨d,s2,q2,tg⟩:=bent_p (s:=s1) hn pl;obtain⟨t,et⟩:=tg.rp;have er:wB.p [d]=some (.str t):=by
  show (jV d).map _=_;rw[et];rfl
 have r1:=pD (ks:=ks) (s:=s2) hn tg;have r2:=yX (ks:=ks) (s:=s2) hn tg;have r3:=xY (ks:=ks) (s:=s2) hn tg;have r4:=bare_k (s:=s2) w hn tg;generalize rgB n ks d=A at r1 r3;generalize brB n ks d=B at r2 r4
 have q:=dI (ws:=[]) (ws':=[]) (env:=[some .pen,some (aH n ks),z2,some d,some (.str t),some (.lst [.bl A,.bl B])]) (s:=s2) (fm:=[]) (i:=bK (ac 5)) (t:=jD (xB (xUn (eV ["bool"]) (ac 0)))) (e:=xC (.int 1)) (ds:=[.bl A,.bl B]) (fun _=>false) (fun _=>.int 1) (by simp) (by simp) (fun x hx=>by
  have:x=.bl A\/x=.bl B:=by simpa using hx
  refine⟨?_,fun q=>by cases q⟩
  rcases this with rfl|rfl <;> simp[cj])
 have ef:(([D.bl A,.bl B].filter fun _=>false).map fun _=>D.int 1)=[]:=by simp
 rw[ef] at q;have en:eqD true (.lst []) (.lst [])=some (.bl false):=mO (neg:=true) (xs:=[]) (ys:=[]);have u2:∀{a b:D} {s:Pen},(if [a,b].length<=100000 then PR.ok (D.lst [a,b]) s else .bad)=.ok (.lst [a,b]) s:=fun {a b s}=>qaf (by simp);refine⟨some d,some (.str t),some (.lst [.bl A,.bl B]),s2,?_⟩;rw[aB,cc];simp![bg,aL,bN,bu,i0,Pf,q1,q2,Pg,qaJ,qaM,PU.au];rw[aB,cc];simp![bG,er,Pf,Pg,qaJ,qaM,PU.au];rw[aB,cc];simp![cE,bg,r1,r2,u2,Pg,qaJ,qaM,PU.au];rw[aB,bH,eM,cq,aL,q];simp![cE,qba,qaP,if_true,nY,en,Pf,PR.bl_ok,qac,if_false,cq,aL,bG,er,x4,Pg,bL,PU.au];rw[bH];simp![cq,aL,cE,bg,r3,r4,u2,nY,eqD_2,Pf,PR.bl_ok,Pg,qac,if_false,bL]
def right_p{s:Pen}:∃s',hJ.p [.pen] s=.ok (.bl true) s':=by
 obtain⟨n,ks,s1,q1,hn,w⟩:=web_p (most:=12) (s:=s) (by ext);have q1':lz.p [.pen,.int 12] s=.ok (aH n ks) s1:=q1;obtain⟨env',s',e,z2,z3,z4,z5,rfl⟩:=gm (g:=(xNm 2:Xg []).p) (b:=rtB.p)
  (fun _ env _=>∃z2 z3 z4 z5,env=[some .pen,some (aH n ks),z2,z3,z4,z5]) (cP 0 5) 0 [some .pen,some (aH n ks),none,none,none,none] s1 ⟨none,none,none,none,rfl⟩ (fun j env s' d ⟨z2,z3,z4,z5,hE⟩ _=>by
   subst hE;obtain⟨y3,y4,y5,s2,e⟩:=rt_turn (z2:=some d) (z3:=z3) (z4:=z4) (z5:=z5) (s:=s') w hn
   exact⟨_,_,s2,rfl,e,_,_,_,_,rfl⟩)
 refine⟨s',?_⟩;rw[xc (by rfl)];unfold ir;rw[show dSt 6 [D.pen]=[some .pen,none,none,none,none,none] from rfl];rw[aB,cc];simp![bg,bN,bu,q1',Pg,qaJ,qaM,PU.au];rw[aB,jd,gK,ao];simp only[bN,bu,Pb,ar];rw[wU (by decide),Pf,Pg];refine (congrArg (fun z:PS=>(z.then _).fin) e).trans ?_;rfl
def vN{ns:List Int}{k:Nat}(hk:k<ns.length):atI (ns.map PV.int) (k:Int)=some (.int ns[k]):=L2.dj (by simp[hk])
def rK:opPow (.int 10) (.int 18) h=.ok (.int (10 ^ 18)) h:=sC (by decide)
def zn:opPow (.int 10) (.int 15) h=.ok (.int (10 ^ 15)) h:=sC (by decide)
def zk{h:MH}{ns:List Int}{k:Nat}(hk:k<64):∃m c:Int,jb [.frl (ns.map .int),.int k] h=.ok (.loc h.length) (h++[.lst [.int m,.int c,.int 0]]):=by
 unfold jb;have k1:∀{i:Int} {h:MH},opMul (.int 7919) (.int i) h=.ok (.int (7919 * i)) h:=gk (by decide);have k2:∀{i:Int} {h:MH},opMul (.int 48271) (.int i) h=.ok (.int (48271 * i)) h:=gk (by decide);have k3:∀{i:Int} {h:MH},opMul (.int 40009) (.int i) h=.ok (.int (40009 * i)) h:=gk (by decide);have n3:∀{a b c:PV} {h:MH},newL [a,b,c] h=.ok (.loc h.length) (h++[.lst [a,b,c]]):=nX (by simp)
 have fin:∀cell:Int,∃m c:Int,(aI (mIf (mB (ah opGe (mCB fAbs (af (ae 2) mNil)) (ah opPow (mC (.int 10)) (mC (.int 18))))) (aR (bw (af (mC (.int 1)) (af (mCB fAbs (af (ae 2) mNil)) (af (mC (.int 0)) mNil))))) mSkip)
   (aR (bw (af (mC (.int 0)) (af (ah opAdd (ah opMod (ae 2) (mC (.int 2147483587))) (ah opMul (mC (.int 40009)) (ae 1))) (af (mC (.int 0)) mNil)))))) [some (.frl (ns.map .int)),some (.int k),some (.int cell)] h=.rt (.loc h.length) (h++[.lst [.int m,.int c,.int 0]]):=fun cell=>by
  by_cases z:(10:Int) ^ 18<=(if cell<0 then -cell else cell)
  ·exact⟨1,(if cell<0 then -cell else cell),by simp[rK,n3,z,-Int.reducePow]⟩
  ·exact⟨0,cell.fmod 2147483587+40009 * k,by simp[rK,n3,z,k3,e8,-Int.reducePow]⟩
 have fin':∀cell:Int,∃m c:Int,((aI (mIf (mB (ah opGe (mCB fAbs (af (ae 2) mNil)) (ah opPow (mC (.int 10)) (mC (.int 18))))) (aR (bw (af (mC (.int 1)) (af (mCB fAbs (af (ae 2) mNil)) (af (mC (.int 0)) mNil))))) mSkip)
   (aR (bw (af (mC (.int 0)) (af (ah opAdd (ah opMod (ae 2) (mC (.int 2147483587))) (ah opMul (mC (.int 40009)) (ae 1))) (af (mC (.int 0)) mNil)))))) [some (.frl (ns.map .int)),some (.int k),some (.int cell)] h).fin=.ok (.loc h.length) (h++[.lst [.int m,.int c,.int 0]]):=fun cell=>by
  obtain⟨m,c,q⟩:=fin cell;exact⟨m,c,by rw[q];rfl⟩
 have lift:∀cell:Int,(aI (bn 2 (ah opAdd (ah opMul (mC (.int 7919)) (ae 1)) (mC (.int 11))))
 (mIf (mB (ah opLt (ae 1) (mCB fMin (af (mCB fLen (af (ae 0) mNil)) (af (mC (.int 63)) mNil))))) (bn 2 (ah aQ (ae 0) (ae 1))) (mIf (mB (ah opGt (mCB fLen (af (ae 0) mNil)) (mC (.int 0)))) (bn 2 (ah opAdd (ah opMod (ah aQ (ae 0) (ah opMod (ae 1) (mCB fMin (af (mCB fLen (af (ae 0) mNil)) (af (mC (.int 63)) mNil))))) (ah opPow (mC (.int 10)) (mC (.int 15)))) (ah opMul (mC (.int 48271)) (ae 1)))) mSkip))) [some (.frl (ns.map .int)),some (.int k),none] h=.nx [some (.frl (ns.map .int)),some (.int k),some (.int cell)] h ->
   ∃m c:Int,bE 3 2 m_l_pen [.frl (ns.map .int),.int k] h=.ok (.loc h.length) (h++[.lst [.int m,.int c,.int 0]]):=fun cell q=>by
  obtain⟨m,c,q2⟩:=fin' cell;refine⟨m,c,(gf (by rfl)).trans ?_⟩;rw[<-q2];unfold m_l_pen;simp only[f6] at q ⊢;have e0:bS 3 [PV.frl (ns.map .int),PV.int k]=[some (.frl (ns.map .int)),some (.int k),none]:=rfl;rw[e0];generalize (bn 2 (ah opAdd (ah opMul (mC (.int 7919)) (ae 1)) (mC (.int 11)))) [some (.frl (ns.map .int)),some (.int k),none] h=o1 at q ⊢
  cases o1 with
  | nx σ1 h1 =>
   simp only[MM.au,f6] at q ⊢;rw[q];rfl
  | _=>cases q
 have hlim:∃lim:Nat,(if (63:Int)<(ns.length:Int) then (63:Int) else (ns.length:Int))=(lim:Int)/\lim<=ns.length/\(0<ns.length->0<lim):=by
  by_cases z:(63:Int)<(ns.length:Int)
  ·exact⟨63,by rw[qaf z];rfl,by lia,by lia⟩
  ·exact⟨ns.length,by rw[qak z],by lia,by lia⟩
 obtain⟨lim,el,hl1,hl2⟩:=hlim;by_cases h1:k<lim
 ·refine lift (ns[k]'(by lia)) ?_;simp[k1,el,h1,vN (show k<ns.length by lia)]
 ·by_cases h0:0<ns.length
  ·have hm0:(lim:Int)≠0:=by have:=hl2 h0;lia
   have hj:k % lim<ns.length:=qaC (Nat.mod_lt _ (hl2 h0)) hl1;have ej:(k:Int).fmod (lim:Int)=((k % lim:Nat):Int):=by rw[qcd _ (by lia)];rfl
   refine lift ((ns[k % lim]'hj).fmod (10 ^ 15)+48271 * k) ?_;have p0:((10:Int) ^ 15)≠0:=by decide
   have a1:=vN hj;rw[Int.natCast_emod] at a1;simp[k1,el,h1,h0,e8 hm0,ej,a1,zn,e8 p0,k2,-Int.reducePow]
  ·have h0':ns=[]:=qbD.mp (by lia);refine lift (7919 * k+11) ?_;have z:¬((k:Int)<(lim:Int)):=by lia
   simp[k1,el,z,h0]
def wQ(h:(bF lo c)[i]?=some x):x=.int (lo+i)/\i<c:=by
 unfold bF at h;rw[qao,qav] at h;obtain⟨k,hk,rfl⟩:=h
 have:=qae.mp hk
 obtain⟨a,b⟩:=this;simp at a b;subst b;exact⟨rfl,a⟩
def xa(h:(bF 0 c)[i]?=some x):x=.int (i:Int)/\i<c:=by
 have:=wQ h;simpa using this
def wm(pn:cG h p s):∃h',fu [.loc p] h=.ok (.bl true) h':=by
 obtain⟨s',q⟩:=right_p (s:=s)
 have k:=hJ.ok (q:=p) (h:=h) (O:=[p]) (vs:=[.loc p]) (ds:=[.pen]) (s:=s) (fun o ho=>by
  have:o=p:=by simpa using ho
  subst this;exact bz pn) (by simp) pn ⟨_,_,rfl,rfl,rfl⟩
 rw[q,uK] at k;obtain⟨v,h',e,_,_,r,_⟩:=k;exact⟨h',by rw[e];rw[show v=PV.bl true from r]⟩
def law_true(ns:List Int)(hn:ns.length<=63):∃h',f_law [.frl (ns.map .int)] []=.ok (.bl true) h':=by
 unfold f_law;rw[gf (by rfl)];unfold m_law;obtain⟨c,hc,ec⟩:∃c:Nat,c<=30/\(af (aK eK (af (ae 0) (af (mC (.int 30)) mNil))) mNil) [some (.frl (ns.map .int)),none] []=.ok [.int (c:Int)] []:=by
  have er:eK [.frl (ns.map .int),.int 30] []=.ok (.int (if (if (30:Int)<(ns.length:Int) then 30 else (ns.length:Int))>4 then (if (30:Int)<(ns.length:Int) then 30 else (ns.length:Int)) else 4)) []:=by
   unfold eK;rw[gf (by rfl)];unfold m_l_rounds;simp[bS,List.replicate]
  obtain⟨c,e⟩:=dw (i:=(if (if (30:Int)<(ns.length:Int) then 30 else (ns.length:Int))>4 then (if (30:Int)<(ns.length:Int) then 30 else (ns.length:Int)) else 4)) (by (repeat' split) <;> lia);refine⟨c,?_,?_⟩
  ·have:(c:Int)<=30:=by rw[<-e];(repeat' split) <;> lia
   lia
  ·rw[e] at er;simp -implicitDefEqProofs [er]
 have er:=itR1 ec (by lia);obtain⟨σ',h',e,z,hσ⟩:=pr (it:=⟨bF 0 c,[]⟩) (g:=gNm 1) (b:=mIf (fC (mB (aK fu (af (aK jb (af (ae 0) (af (ae 1) mNil))) mNil)))) (aR (mC (.bl false))) mSkip)
  (fun _ σ _=>∃z,σ=[some (.frl (ns.map .int)),z]) (bF 0 c) 0 [some (.frl (ns.map .int)),none] [] ⟨none,rfl⟩ (fun _ _ _ _=>px.mpr trivial) (fun m σ h x ⟨z,eσ⟩ hx=>by
   subst eσ;obtain⟨rfl,hm⟩:=xa hx;obtain⟨a,b,qp⟩:=zk (h:=h) (ns:=ns) (k:=m) (by lia);obtain⟨h2,qr⟩:=wm (h:=h++[.lst [.int a,.int b,.int 0]]) (p:=h.length) (s:=(a,b,0)) (by show (h++[MO.lst [.int a,.int b,.int 0]])[h.length]?=some (.lst [.int a,.int b,.int 0]);exact nN);refine⟨_,_,[some (.frl (ns.map .int)),some (.int (m:Int))],h2,rfl,?_,_,rfl⟩
   simp -implicitDefEqProofs [qp,qr])
 subst hσ;refine⟨h',?_⟩;have e0:bS 2 [PV.frl (ns.map .int)]=[some (.frl (ns.map .int)),none]:=rfl;rw[e0,f6,uU,er,aw,e,MM.au];simp
end Law
namespace Law
open PySem PySem.Spec PyProof.Rows L2 MM
set_option maxHeartbeats 4000000
def top(i:Nat):Stmt:=PySem.Challenge.pw_fewfills_k14_what_is_a_ring.main.body.getD i (.Pass ⟨0,0,0,0⟩)
abbrev fS:Stmt:=top 1
abbrev nL:List Str:=["thing"]
abbrev ng:List Str:=["isinstance","int","bool"]
abbrev nC:List Str:=["thing"]
def wd(hsc:Sc X fS)(g:Gd X nL ng k)(dc:DefCx X)(n5:Nn X "isinstance")(n2:Nn X "bool")(n4:Nn X "int"):MSs X (aP fS) m_is_whole :=
 (aq (aJ (nI (gC g (i:=0) (j:=1) rfl n5 rfl n4 nt ve (kV g 0)) (rP (me_not (gC g (i:=0) (j:=2) rfl n5 rfl n2 pg mE (kV g 0)))))))
abbrev fN:Stmt:=top 3
abbrev nM:List Str:=["n","thing"]
abbrev ni:List Str:=["is_whole"]
abbrev nH:List Str:=["n","thing"]
def xg(hsc:Sc X fN)(g:Gd X nM ni k)(dc:DefCx X)(c0:Cal X "is_whole" nC nZ k):MSs X (aP fN) m_is_place :=
 (aq (aJ (nI (kCa g 0 c0 (aa (kV g 1) ag)) (rP (zx oj_le fT ai (kV g 1) (kV g 0))))))
abbrev d5:Stmt:=top 4
abbrev kg:List Str:=["pairs"]
abbrev j4:List Str:=["tuple","sorted","set"]
abbrev fF:List Str:=["pairs"]
def re(hsc:Sc X d5)(g:Gd X kg j4 k)(dc:DefCx X)(n13:Nn X "sorted")(n12:Nn X "set")(n8:Nn X "max")(n9:Nn X "min")(n14:Nn X "tuple"):MSs X (aP d5) m_rising_once :=
 (aq (aJ (kCt g 0 mW n14 mG (aa (kj g (i:=1) (j:=2) rfl n13 rfl n12 (aa (kCp g hsc ["pair"] [] ["min","max"] [] (ce (kV g 0)) fun Y y g=>⟨(kNm g 0),cx,(cL (aa (kCb g 0 (cj_minS g) (y.n n9) iS (aa (kV g 0) ag)) (aa (kCb g 1 (cj_maxS g) (y.n n8) m6 (aa (kV g 0) ag)) ag)))⟩) ag)) ag))))
abbrev dU:Stmt:=top 6
abbrev kc:List Str:=["places","pairs","k","a"]
abbrev j8:List Str:=["enumerate"]
abbrev j0:List Str:=["places"]
def qY(hsc:Sc X dU)(g:Gd X kc j8 k)(dc:DefCx X)(n3:Nn X "enumerate"):MSs X (aP dU) m_pairs_among :=
 (ak (kSt g 1 (aY ag))
 (ak (eO g (kEn g 0 n3 (aa (kV g 0) ag)) (i6 g (ci (kNm g 2) (ci (kNm g 3) f9))) (aq (eX (fV qy qD pR (kV g 1) (aa (kCp g hsc ["b"] ["a"] [] [3] (ce (bP (kV g 0) (bf (am aM (kV g 2) ai)) bc)) fun Y y g=>⟨(kNm g 0),cx,(cL (aa (kV g 1) (aa (kV g 0) ag)))⟩) ag)))))
 (aq (aJ (kV g 1)))))
abbrev lm:Stmt:=top 8
abbrev uY:List Str:=["ring"]
abbrev vE:List Str:=["rising_once","enumerate"]
abbrev pj:List Str:=["ring"]
def b_sides(hsc:Sc X lm)(g:Gd X uY vE k)(dc:DefCx X)(c2:Cal X "rising_once" fF dW k)(n3:Nn X "enumerate"):MSs X (aP lm) m_sides :=
 (aq (aJ (kCa g 0 c2 (aa (kCp g hsc ["k","place"] ["ring"] [] [0] (kEn g 1 n3 (aa (kV g 0) ag)) fun Y y g=>⟨(i6 g (ci (kNm g 0) (ci (kNm g 1) f9))),cx,(cL (aa (kIx (kV g 2) (am iK (kV g 0) ai)) (aa (kV g 1) ag)))⟩) ag))))
abbrev iz:Stmt:=top 9
abbrev qt:List Str:=["web","thing"]
abbrev qk:List Str:=["isinstance","list","len","all","set","sides"]
abbrev kS:List Str:=["web","thing"]
def yd(hsc:Sc X iz)(g:Gd X qt qk k)(dc:DefCx X)(c4:Cal X "sides" pj ll k)(c1:Cal X "is_place" nH nG k)(n1:Nn X "all")(n6:Nn X "len")(n12:Nn X "set")(n5:Nn X "isinstance")(n7:Nn X "list"):MSs X (aP iz) m_is_ring :=
 (ak (bU (MW.mt (gP (fv (fx (gC g (i:=0) (j:=1) rfl n5 rfl n7 oP tt (kV g 1)))) (jc (kTc fT (kCb g 2 cN n6 cO (aa (kV g 1) ag)) ai)))) (aq (aJ dY)) bD)
 (ak (bU (fv (fx (kCb g 3 (xP g) n1 xV (aa (kCp g hsc ["place"] ["web"] ["is_place"] [0] (ce (kV g 1)) fun Y y g=>⟨(kNm g 0),cx,(kCa g 0 (y.c c1) (aa (kIx (kV g 1) ai) (aa (kV g 0) ag)))⟩) ag)))) (aq (aJ dY)) bD)
 (ak (bU (kTc (rk g.room) (xO g 2 4 n6 n12 (aa (kV g 1) ag)) (kCb g 2 cN n6 cO (aa (kV g 1) ag))) (aq (aJ dY)) bD)
 (aq (aJ (kCb g 3 (xP g) n1 xV (aa (kCp g hsc ["side"] ["web"] [] [0] (ce (kCa g 5 c4 (aa (kV g 1) ag))) fun Y y g=>⟨(kNm g 0),cx,(kCm (iw g.room false) (kV g 0) (kIx (kV g 1) ai))⟩) ag)))))))
abbrev dX:Stmt:=top 10
abbrev j9:List Str:=["ring","beside"]
abbrev j7:List Str:=["sides","rising_once","pairs_among"]
abbrev ki:List Str:=["ring"]
def qU(hsc:Sc X dX)(g:Gd X j9 j7 k)(dc:DefCx X)(c3:Cal X "pairs_among" j0 j6 k)(c2:Cal X "rising_once" fF dW k)(c4:Cal X "sides" pj ll k):MSs X (aP dX) m_pairs_apart :=
 (ak (kSt g 1 (kCa g 0 c4 (aa (kV g 0) ag)))
 (aq (aJ (kCp g hsc ["pair"] ["beside"] [] [1] (ce (kCa g 1 c2 (aa (kCa g 2 c3 (aa (kV g 0) ag)) ag))) fun Y y g=>⟨(kNm g 0),(eG (kTc (iw g.room true) (kV g 0) (kV g 1))),(kV g 0)⟩))))
abbrev fg:Stmt:=top 11
abbrev lQ:List Str:=["web","ring"]
abbrev lZ:List Str:=["pairs_apart"]
abbrev mj:List Str:=["web","ring"]
def uH(hsc:Sc X fg)(g:Gd X lQ lZ k)(dc:DefCx X)(c6:Cal X "pairs_apart" ki kf k):MSs X (aP fg) m_chords_of :=
 (aq (aJ (kCp g hsc ["pair"] ["web"] [] [0] (ce (kCa g 0 c6 (aa (kV g 1) ag))) fun Y y g=>⟨(kNm g 0),(eG (kTc (iw g.room false) (kV g 0) (kIx (kV g 1) ai))),(kV g 0)⟩)))
abbrev iq:Stmt:=top 12
abbrev qh:List Str:=["web","thing"]
abbrev pF:List Str:=["is_ring","len","chords_of"]
abbrev pP:List Str:=["web","thing"]
def yW(hsc:Sc X iq)(g:Gd X qh pF k)(dc:DefCx X)(c7:Cal X "chords_of" mj lL k)(c5:Cal X "is_ring" kS gU k)(n6:Nn X "len"):MSs X (aP iq) m_is_bare :=
 (aq (aJ (nI (kCa g 0 c5 (aa (kV g 0) (aa (kV g 1) ag))) (nI (kCm oj_ge (kCb g 1 cN n6 cO (aa (kV g 1) ag)) ai) (rP (me_notT (kCa g 2 c7 (aa (kV g 0) (aa (kV g 1) ag)))))))))
abbrev lH:Stmt:=top 14
abbrev vD:List Str:=["_law_script","_law_k","_law_cell"]
abbrev vM:List Str:=["min","len","abs"]
abbrev u8:List Str:=["_law_script","_law_k"]
def b_l_pen(hsc:Sc X lH)(g:Gd X vD vM k)(dc:DefCx X)(n0:Nn X "abs")(n6:Nn X "len")(n9:Nn X "min"):MSs X (aP lH) m_l_pen :=
 (ak (kSt g 2 (am aM (am fk ai (kV g 1)) ai))
 (ak (bU (kTc fT (kV g 1) (kCb g 0 (kI g) n9 iS (aa (kCb g 1 cN n6 cO (aa (kV g 0) ag)) (aa ai ag)))) (aq (kSt g 2 (kIx (kV g 0) (kV g 1)))) (aq (bU (kTc lh (kCb g 1 cN n6 cO (aa (kV g 0) ag)) ai) (aq (kSt g 2 (am aM (am dG (kIx (kV g 0) (am dG (kV g 1) (kCb g 0 (kI g) n9 iS (aa (kCb g 1 cN n6 cO (aa (kV g 0) ag)) (aa ai ag))))) (am xI ai ai)) (am fk ai (kV g 1))))) bD)))
 (ak (bU (kTc oj_ge (kCb g 2 yo n0 yE (aa (kV g 2) ag)) (am xI ai ai)) (aq (aJ (aY (aa ai (aa (kCb g 2 yo n0 yE (aa (kV g 2) ag)) (aa ai ag)))))) bD)
 (aq (aJ (aY (aa ai (aa (am aM (am dG (kV g 2) ai) (am fk ai (kV g 1))) (aa ai ag)))))))))
abbrev jp:Stmt:=top 15
abbrev tV:List Str:=["_law_pen_here","_law_size","_law_number","_law_drawn"]
abbrev ui:List Str:=[]
abbrev d8:List Str:=["_law_pen_here","_law_size"]
def Ah(hsc:Sc X jp)(g:Gd X tV ui k)(dc:DefCx X):MSs X (aP jp) m_l_draw :=
 (ak (y7 (am aM (kIx (kV g 0) ai) ai) (zd (kV g 0) ai))
 (ak (bU (kTc (fb g.room) (kIx (kV g 0) ai) ai) (ak (kSt g 3 (am dG (kIx (kV g 0) ai) (kV g 1)))
 (ak (y7 (am oj_fd (kIx (kV g 0) ai) (kV g 1)) (zd (kV g 0) ai))
 (aq (aJ (kV g 3))))) bD)
 (ak (kSt g 2 (am dG (am fk (am aM (am aM (kIx (kV g 0) ai) (am fk ai (kIx (kV g 0) ai))) ai) ai) ai))
 (ak (kSt g 2 (am dG (am fk (kV g 2) (am aM (am aM (am dG (kV g 2) ai) (kIx (kV g 0) ai)) ai)) ai))
 (aq (aJ (am dG (am oj_fd (am dG (am fk (kV g 2) (am aM (am dG (kV g 2) ai) ai)) ai) ai) (kV g 1))))))))
abbrev fU:Stmt:=top 16
abbrev nk:List Str:=["_law_script","_law_most"]
abbrev nV:List Str:=["max","min","len"]
abbrev nz:List Str:=["_law_script","_law_most"]
def xp(hsc:Sc X fU)(g:Gd X nk nV k)(dc:DefCx X)(n6:Nn X "len")(n9:Nn X "min")(n8:Nn X "max"):MSs X (aP fU) m_l_rounds :=
 (aq (aJ (kCb g 0 (uj g) n8 m6 (aa ai (aa (kCb g 1 (kI g) n9 iS (aa (kCb g 2 cN n6 cO (aa (kV g 0) ag)) (aa (kV g 1) ag))) ag)))))
abbrev hV:Stmt:=top 17
abbrev qC:List Str:=["_law_pen_here","_law_n","_law_found","_law_k"]
abbrev pC:List Str:=["range","_law_draw"]
abbrev kZ:List Str:=["_law_pen_here","_law_n"]
def xU(hsc:Sc X hV)(g:Gd X qC pC k)(dc:DefCx X)(c10:Cal X "_law_draw" d8 aU k)(n10:Nn X "range"):MSs X (aP hV) m_l_order :=
 (ak (kSt g 2 (aY ag))
 (ak (eO g (kR1 g 0 n10 (aa (kV g 1) ag)) (kNm g 3) (aq (eX (fV yg xM yV (kV g 2) (aa (kCa g 1 c10 (aa (kV g 0) (aa (am aM (kV g 3) ai) ag))) (aa (kV g 3) ag))))))
 (aq (aJ (kV g 2)))))
abbrev g0:Stmt:=top 18
abbrev qF:List Str:=["_law_some_here","_law_found","_law_at","_law_a"]
abbrev pT:List Str:=["enumerate"]
abbrev pU:List Str:=["_law_some_here"]
def yG(hsc:Sc X g0)(g:Gd X qF pT k)(dc:DefCx X)(n3:Nn X "enumerate"):MSs X (aP g0) m_l_pairs :=
 (ak (kSt g 1 (aY ag))
 (ak (eO g (kEn g 0 n3 (aa (kV g 0) ag)) (i6 g (ci (kNm g 2) (ci (kNm g 3) f9))) (aq (eX (fV qy qD pR (kV g 1) (aa (kCp g hsc ["_law_b"] ["_law_a"] [] [3] (ce (bP (kV g 0) (bf (am aM (kV g 2) ai)) bc)) fun Y y g=>⟨(kNm g 0),cx,(cL (aa (kV g 1) (aa (kV g 0) ag)))⟩) ag)))))
 (aq (aJ (kV g 1)))))
abbrev ip:Stmt:=top 19
abbrev qe:List Str:=["_law_pen_here","_law_n","_law_way","_law_ring"]
abbrev qj:List Str:=["_law_draw","_law_pairs","list","range","int"]
abbrev pB:List Str:=["_law_pen_here","_law_n"]
def xq(hsc:Sc X ip)(g:Gd X qe qj k)(dc:DefCx X)(c10:Cal X "_law_draw" d8 aU k)(c13:Cal X "_law_pairs" pU pV k)(n10:Nn X "range")(n4:Nn X "int")(n7:Nn X "list"):MSs X (aP ip) m_l_shape :=
 (ak (kSt g 2 (kCa g 0 c10 (aa (kV g 0) (aa ai ag))))
 (ak (bU (kTc fT (kV g 2) ai) (aq (aJ (kCp g hsc ["_law_pair"] ["_law_pen_here","_law_way"] ["_law_draw"] [0,2] (ce (kCa g 1 c13 (aa (AH g (i:=2) (j:=3) rfl n7 rfl n10 (aa (kV g 1) ag)) ag))) fun Y y g=>⟨(kNm g 0),(eG (kTc (fb g.room) (kCa g 0 (y.c c10) (aa (kV g 1) (aa (kIx (aY (aa ai (aa ai (aa ai (aa ai ag))))) (kV g 2)) ag))) ai)),(kV g 0)⟩))) bD)
 (ak (bU (kTc (fb g.room) (kV g 2) ai) (aq (aJ (kCp g hsc ["_law_k"] ["_law_pen_here"] ["_law_draw"] [0] (kR2 g 3 n10 (aa ai (aa (kV g 1) ag))) fun Y y g=>⟨(kNm g 0),cx,(cL (aa (kCa g 0 (y.c c10) (aa (kV g 1) (aa (kV g 0) ag))) (aa (kV g 0) ag)))⟩))) bD)
 (ak (bU (kTc (fb g.room) (kV g 2) ai) (aq (aJ (am aM (kCp g hsc ["_law_k"] [] [] [] (kR2 g 3 n10 (aa ai (aa (kV g 1) ag))) fun Y y g=>⟨(kNm g 0),(eG (kTc lh (am dG (kV g 0) ai) ai)),(cL (aa (am iK (kV g 0) ai) (aa (kV g 0) ag)))⟩) (kCp g hsc ["_law_k"] [] [] [] (kR2 g 3 n10 (aa ai (aa (kV g 1) ag))) fun Y y g=>⟨(kNm g 0),cx,(cL (aa (am iK (kV g 0) ai) (aa (kV g 0) ag)))⟩)))) bD)
 (ak (kSt g 3 (am aM (kCp g hsc ["_law_k"] [] [] [] (kR2 g 3 n10 (aa ai (aa (kV g 1) ag))) fun Y y g=>⟨(kNm g 0),cx,(cL (aa (am iK (kV g 0) ai) (aa (kV g 0) ag)))⟩) (am fk (aY (aa (cL (aa ai (aa (am iK (kV g 1) ai) ag))) ag)) (kCt g 4 yp n4 nt (aa (kCm lh (kV g 1) ai) ag)))))
 (ak (bU (MW.mt (gP (kTc (fb g.room) (kV g 2) ai) (jc (kTc fT (kV g 1) ai)))) (aq (aJ (kV g 3))) bD)
 (aq (aJ (am aM (kV g 3) (aY (aa (cL (aa (kCa g 0 c10 (aa (kV g 0) (aa ai ag))) (aa (am aM ai (kCa g 0 c10 (aa (kV g 0) (aa (am iK (kV g 1) ai) ag)))) ag))) ag)))))))))))
abbrev lc:Stmt:=top 20
abbrev vZ:List Str:=["_law_pen_here","_law_most","_law_n","_law_turned","_law_found","_law_a","_law_b"]
abbrev vf:List Str:=["_law_draw","_law_order","_law_shape","min","max","tuple","sorted","set"]
abbrev vj:List Str:=["_law_pen_here","_law_most"]
def b_l_web(hsc:Sc X lc)(g:Gd X vZ vf k)(dc:DefCx X)(c14:Cal X "_law_shape" pB pN k)(c12:Cal X "_law_order" kZ g7 k)(c10:Cal X "_law_draw" d8 aU k)(n13:Nn X "sorted")(n12:Nn X "set")(n14:Nn X "tuple")(n8:Nn X "max")(n9:Nn X "min"):MSs X (aP lc) m_l_web :=
 (ak (kSt g 2 (kCa g 0 c10 (aa (kV g 0) (aa (am aM (kV g 1) ai) ag))))
 (ak (bU (kTc (fb g.room) (kCa g 0 c10 (aa (kV g 0) (aa ai ag))) ai) (aq (kSt g 2 (kV g 1))) bD)
 (ak (kSt g 3 (kCa g 1 c12 (aa (kV g 0) (aa (kV g 2) ag))))
 (ak (kSt g 4 (aY ag))
 (ak (eO g (ce (kCa g 2 c14 (aa (kV g 0) (aa (kV g 2) ag)))) (i6 g (ci (kNm g 5) (ci (kNm g 6) f9))) (aq (eX (fV ic g8 hU (kV g 4) (aa (cL (aa (kCb g 3 (kI g) n9 iS (aa (kIx (kV g 3) (kV g 5)) (aa (kIx (kV g 3) (kV g 6)) ag))) (aa (kCb g 4 (uj g) n8 m6 (aa (kIx (kV g 3) (kV g 5)) (aa (kIx (kV g 3) (kV g 6)) ag))) ag))) ag)))))
 (aq (aJ (cL (aa (kV g 2) (aa (kCt g 5 mW n14 mG (aa (kj g (i:=6) (j:=7) rfl n13 rfl n12 (aa (kV g 4) ag)) ag)) ag))))))))))
abbrev jJ:Stmt:=top 21
abbrev tT:List Str:=["_law_web_here","_law_found","_law_a","_law_b"]
abbrev sV:List Str:=["range"]
abbrev uv:List Str:=["_law_web_here"]
def Af(hsc:Sc X jJ)(g:Gd X tT sV k)(dc:DefCx X)(n13:Nn X "sorted")(n10:Nn X "range"):MSs X (aP jJ) m_l_near :=
 (ak (kSc g hsc 1 ["_law_v"] [] [] [] (kR1 g 0 n10 (aa (kIx (kV g 0) ai) ag)) fun Y y g=>⟨(kNm g 0),cx,(aY ag)⟩)
 (ak (eO g (ce (kIx (kV g 0) ai)) (i6 g (ci (kNm g 2) (ci (kNm g 3) f9))) (ak (eX (fV ic g8 hU (kIx (kV g 1) (kV g 2)) (aa (kV g 3) ag)))
 (aq (eX (fV ic g8 hU (kIx (kV g 1) (kV g 3)) (aa (kV g 2) ag))))))
 (aq (aJ (kCp g hsc ["_law_some_here"] [] ["sorted"] [] (ce (kV g 1)) fun Y y g=>⟨(kNm g 0),cx,(kCb g 0 yx (y.n n13) yM (aa (kV g 0) ag))⟩)))))
abbrev jg:Stmt:=top 22
abbrev ug:List Str:=["_law_pen_here","_law_near_here","_law_v","_law_found","_law_k","_law_some_here","_law_other"]
abbrev ud:List Str:=["range","_law_draw","len"]
abbrev sO:List Str:=["_law_pen_here","_law_near_here","_law_v"]
def zV(hsc:Sc X jg)(g:Gd X ug ud k)(dc:DefCx X)(c10:Cal X "_law_draw" d8 aU k)(n10:Nn X "range")(n6:Nn X "len"):MSs X (aP jg) m_l_walk :=
 (ak (kSt g 3 (aY (aa (kV g 2) ag)))
 (ak (eO g (kR1 g 0 n10 (aa ai ag)) (kNm g 4) (ak (kSc g hsc 5 ["_law_other"] ["_law_found"] [] [3] (ce (kIx (kV g 1) (kIx (kV g 3) (rm nO ai)))) fun Y y g=>⟨(kNm g 0),(eG (kTc (iw g.room true) (kV g 0) (bP (kV g 1) (bf (rm nO ai)) bc))),(kV g 0)⟩)
 (ak (bU (kTc (yO g.room) (kV g 5) (aY ag)) (aq (aJ (kV g 3))) bD)
 (ak (kSt g 6 (kIx (kV g 5) (kCa g 1 c10 (aa (kV g 0) (aa (kCb g 2 cN n6 cO (aa (kV g 5) ag)) ag)))))
 (ak (bU (kTc (iw g.room false) (kV g 6) (kV g 3)) (aq (aJ (bP (kV g 3) (bf (fV AK zP zf (kV g 3) (aa (kV g 6) ag))) bc))) bD)
 (aq (eX (fV ic g8 hU (kV g 3) (aa (kV g 6) ag)))))))))
 (aq (aJ (kV g 3)))))
abbrev jO:Stmt:=top 23
abbrev tO:List Str:=["_law_pen_here","_law_web_here","_law_way"]
abbrev uf:List Str:=["_law_draw","_law_walk","_law_near","_law_order"]
abbrev ue:List Str:=["_law_pen_here","_law_web_here"]
def An(hsc:Sc X jO)(g:Gd X tO uf k)(dc:DefCx X)(c12:Cal X "_law_order" kZ g7 k)(c10:Cal X "_law_draw" d8 aU k)(c16:Cal X "_law_near" uv gF k)(c17:Cal X "_law_walk" sO uc k):MSs X (aP jO) m_l_some :=
 (ak (bU (kTc (fb g.room) (kIx (kV g 1) ai) ai) (aq (aJ (aY ag))) bD)
 (ak (kSt g 2 (kCa g 0 c10 (aa (kV g 0) (aa ai ag))))
 (ak (bU (kTc lh (kV g 2) ai) (aq (aJ (kCa g 1 c17 (aa (kV g 0) (aa (kCa g 2 c16 (aa (kV g 1) ag)) (aa (kCa g 0 c10 (aa (kV g 0) (aa (kIx (kV g 1) ai) ag))) ag)))))) bD)
 (aq (aJ (bP (kCa g 3 c12 (aa (kV g 0) (aa (kIx (kV g 1) ai) ag))) bc (bf (am aM ai (kCa g 0 c10 (aa (kV g 0) (aa ai ag)))))))))))
abbrev jM:Stmt:=top 24
abbrev su:List Str:=["_law_pen_here","_law_n","_law_one","_law_at","_law_v","_law_some_here"]
abbrev sR:List Str:=["_law_draw","len","tuple","list"]
abbrev tZ:List Str:=["_law_pen_here","_law_n","_law_one"]
def Ae(hsc:Sc X jM)(g:Gd X su sR k)(dc:DefCx X)(c10:Cal X "_law_draw" d8 aU k)(n6:Nn X "len")(n7:Nn X "list")(n4:Nn X "int")(n14:Nn X "tuple"):MSs X (aP jM) m_l_bent :=
 (ak (kSt g 3 (kCa g 0 c10 (aa (kV g 0) (aa (am aM (kCb g 1 cN n6 cO (aa (kV g 2) ag)) ai) ag))))
 (ak (kSt g 4 (kCa g 0 c10 (aa (kV g 0) (aa (am aM (kV g 1) ai) ag))))
 (ak (kSt g 5 (aY (aa (kV g 2) (aa (am aM (bP (kV g 2) (bf (kV g 3)) bc) (bP (kV g 2) bc (bf (kV g 3)))) (aa (me_rev (kV g 2) bc (bf (rm nO ai))) (aa (kCt g 2 mW n14 mG (aa (kV g 2) ag)) (aa (am aM (kV g 2) (bP (kV g 2) bc (bf ai))) (aa (am aM (am aM (bP (kV g 2) bc (bf (kV g 3))) (aY (aa (kV g 4) ag))) (bP (kV g 2) (bf (kV g 3)) bc)) ag))))))))
 (ak (kSt g 5 (am aM (kV g 5) (aY (aa (am aM (bP (kV g 2) bc (bf (kV g 3))) (bP (kV g 2) (bf (am aM (kV g 3) ai)) bc)) (aa (am aM (am aM (bP (kV g 2) bc (bf (kV g 3))) (aY (aa (kV g 4) ag))) (bP (kV g 2) (bf (am aM (kV g 3) ai)) bc)) (aa (am aM (am aM (bP (kV g 2) bc (bf (kV g 3))) (aY (aa (rm nO ai) ag))) (bP (kV g 2) (bf (am aM (kV g 3) ai)) bc)) ag))))))
 (ak (kSt g 5 (am aM (kV g 5) (aY (aa (kCp g hsc ["_law_w"] [] ["int"] [] (ce (kV g 2)) fun Y y g=>⟨(kNm g 0),cx,(kIx (aY (aa (kV g 0) (aa (kCm lh (kV g 0) ai) ag))) (kCt g 0 yp (y.n n4) nt (aa (kCm fT (kV g 0) ai) ag)))⟩) (aa (am aM (am aM (bP (kV g 2) bc (bf (kV g 3))) (aY (aa x9 ag))) (bP (kV g 2) (bf (am aM (kV g 3) ai)) bc)) (aa (aY (aa (kV g 2) ag)) (aa me_non (aa x9 ag))))))))
 (ak (kSt g 5 (am aM (kV g 5) (aY (aa me_dic0 (aa (kV g 1) (aa (bP (kV g 2) bc (bf ai)) (aa (aY ag) (aa (cL ag) (aa (am aM (bP (kV g 2) bc (bf (kV g 3))) (aY (aa (aY ag) ag))) (aa dY (aa (kCt g 3 cj_list n7 oP (aa (kV g 2) ag)) (aa (bP (kV g 2) bc (bf ai)) (aa (bP (kV g 2) bc (bf ai)) ag)))))))))))))
 (aq (aJ (kIx (kV g 5) (kCa g 0 c10 (aa (kV g 0) (aa (kCb g 1 cN n6 cO (aa (kV g 5) ag)) ag))))))))))))
abbrev fi:Stmt:=top 25
abbrev lP:List Str:=["_law_web_here","_law_thing","_law_v","_law_ties"]
abbrev lM:List Str:=["isinstance","list","len","int","bool","zip"]
abbrev iF:List Str:=["_law_web_here","_law_thing"]
def uR(hsc:Sc X fi)(g:Gd X lP lM k)(dc:DefCx X)(n15:Nn X "zip")(n8:Nn X "max")(n9:Nn X "min")(n5:Nn X "isinstance")(n2:Nn X "bool")(n4:Nn X "int")(n6:Nn X "len")(n7:Nn X "list"):MSs X (aP fi) m_l_is_ring :=
 (ak (bU (MW.mt (gP (fv (fx (gC g (i:=0) (j:=1) rfl n5 rfl n7 oP tt (kV g 1)))) (jc (kTc fT (kCb g 2 cN n6 cO (aa (kV g 1) ag)) ai)))) (aq (aJ dY)) bD)
 (ak (eO g (ce (kV g 1)) (kNm g 2) (aq (bU (MW.mt (gP (fv (fx (gC g (i:=0) (j:=3) rfl n5 rfl n4 nt ve (kV g 2)))) (gP (fx (gC g (i:=0) (j:=4) rfl n5 rfl n2 pg mE (kV g 2))) (gP (fv (zy oj_le fT ai (kV g 2) (kIx (kV g 0) ai))) (jc (kTc lh (fV zO Aa (yL g.room) (kV g 1) (aa (kV g 2) ag)) ai)))))) (aq (aJ dY)) bD)))
 (ak (kSc g hsc 3 ["_law_a","_law_b"] [] ["min","max"] [] (mi_zip g (j:=5) rfl n15 (aa (kV g 1) (aa (am aM (bP (kV g 1) (bf ai) bc) (bP (kV g 1) bc (bf ai))) ag))) fun Y y g=>⟨(i6 g (ci (kNm g 0) (ci (kNm g 1) f9))),cx,(cL (aa (kCb g 0 (kI g) (y.n n9) iS (aa (kV g 0) (aa (kV g 1) ag))) (aa (kCb g 1 (uj g) (y.n n8) m6 (aa (kV g 0) (aa (kV g 1) ag))) ag)))⟩)
 (aq (aJ (kCm (yO g.room) (kCp g hsc ["_law_tie"] ["_law_web_here"] [] [0] (ce (kV g 3)) fun Y y g=>⟨(kNm g 0),(eG (kTc (iw g.room true) (kV g 0) (kIx (kV g 1) ai))),(kV g 0)⟩) (aY ag)))))))
abbrev fh:Stmt:=top 26
abbrev lN:List Str:=["_law_web_here","_law_thing"]
abbrev lS:List Str:=["_law_is_ring","len"]
abbrev lY:List Str:=["_law_web_here","_law_thing"]
def uN(hsc:Sc X fh)(g:Gd X lN lS k)(dc:DefCx X)(c20:Cal X "_law_is_ring" iF e9 k)(n6:Nn X "len"):MSs X (aP fh) m_l_is_bare :=
 (ak (bU (MW.mt (gP (fv (fx (kCa g 0 c20 (aa (kV g 0) (aa (kV g 1) ag))))) (jc (kTc fT (kCb g 1 cN n6 cO (aa (kV g 1) ag)) ai)))) (aq (aJ dY)) bD)
 (aq (aJ (kCm (fb g.room) (kCb g 1 cN n6 cO (aa (kCp g hsc ["_law_tie"] ["_law_thing"] [] [1] (ce (kIx (kV g 0) ai)) fun Y y g=>⟨(kNm g 0),(eG (MW.mt (mw_and (kTc (iw g.room false) (kIx (kV g 0) ai) (kV g 1)) (mw_and1 (kTc (iw g.room false) (kIx (kV g 0) ai) (kV g 1)))))),(kV g 0)⟩) ag)) (kCb g 1 cN n6 cO (aa (kV g 1) ag))))))
abbrev gW:Stmt:=top 27
abbrev pA:List Str:=["_law_pen_here","_law_web_here","_law_turn","_law_thing","_law_kept","_law_found"]
abbrev qm:List Str:=["_law_web","range","_law_bent","_law_some","repr","is_ring","is_bare","_law_is_ring","_law_is_bare"]
abbrev qB:List Str:=["_law_pen_here"]
def ze(hsc:Sc X gW)(g:Gd X pA qm k)(dc:DefCx X)(c21:Cal X "_law_is_bare" lY lR k)(c20:Cal X "_law_is_ring" iF e9 k)(c8:Cal X "is_bare" pP pE k)(c5:Cal X "is_ring" kS gU k)(c18:Cal X "_law_some" ue tH k)(c19:Cal X "_law_bent" tZ uk k)(c15:Cal X "_law_web" vj v6 k)(n10:Nn X "range")(n11:Nn X "repr")(n5:Nn X "isinstance")(n2:Nn X "bool"):MSs X (aP gW) m_l_right :=
 (ak (kSt g 1 (kCa g 0 c15 (aa (kV g 0) (aa ai ag))))
 (ak (eO g (kR1 g 1 n10 (aa ai ag)) (kNm g 2) (ak (kSt g 3 (kCa g 2 c19 (aa (kV g 0) (aa (kIx (kV g 1) ai) (aa (kCa g 3 c18 (aa (kV g 0) (aa (kV g 1) ag))) ag)))))
 (ak (kSt g 4 (kCb g 4 (uy g) n11 uT (aa (kV g 3) ag)))
 (ak (kSt g 5 (aY (aa (kCa g 5 c5 (aa (kV g 1) (aa (kV g 3) ag))) (aa (kCa g 6 c8 (aa (kV g 1) (aa (kV g 3) ag))) ag))))
 (ak (bU (MW.mt (gP (kTc (rk g.room) (kCp g hsc ["_law_one"] [] ["isinstance","bool"] [] (ce (kV g 5)) fun Y y g=>⟨(kNm g 0),(eG (fv (fx (gC g (i:=0) (j:=1) rfl (y.n n5) rfl (y.n n2) pg mE (kV g 0))))),ai⟩) (aY ag)) (jc (kTc (oj_neS g.room) (kCb g 4 (uy g) n11 uT (aa (kV g 3) ag)) (kV g 4))))) (aq (aJ dY)) bD)
 (aq (bU (kTc (rk g.room) (kV g 5) (aY (aa (kCa g 7 c20 (aa (kV g 1) (aa (kV g 3) ag))) (aa (kCa g 8 c21 (aa (kV g 1) (aa (kV g 3) ag))) ag)))) (aq (aJ dY)) bD)))))))
 (aq (aJ dY))))
abbrev oo:Stmt:=top 28
abbrev N_law:List Str:=["_law_script","_law_k"]
abbrev G_law:List Str:=["range","_law_rounds","_law_right","_law_pen"]
abbrev P_law:List Str:=["_law_script"]
def b_law(hsc:Sc X oo)(g:Gd X N_law G_law k)(dc:DefCx X)(c11:Cal X "_law_rounds" nz eK k)(c9:Cal X "_law_pen" u8 jb k)(c22:Cal X "_law_right" qB fu k)(n10:Nn X "range"):MSs X (aP oo) m_law :=
 (ak (eO g (kR1 g 0 n10 (aa (kCa g 1 c11 (aa (kV g 0) (aa ai ag))) ag)) (kNm g 1) (aq (bU (fv (fx (kCa g 2 c22 (aa (kCa g 3 c9 (aa (kV g 0) (aa (kV g 1) ag))) ag)))) (aq (aJ dY)) bD)))
 (aq (aJ dY)))
def bi_law:k8 "law" oo P_law:=fun _ _ _ _ _ _=>ar1 fun _=>rfl
def all_fn{K:qad}(b:Ba P w K mg base)
  (D0:DefAt K "is_whole" fS)
  (D1:DefAt K "is_place" fN)
  (D2:DefAt K "rising_once" d5)
  (D3:DefAt K "pairs_among" dU)
  (D4:DefAt K "sides" lm)
  (D5:DefAt K "is_ring" iz)
  (D6:DefAt K "pairs_apart" dX)
  (D7:DefAt K "chords_of" fg)
  (D8:DefAt K "is_bare" iq)
  (D9:DefAt K "_law_pen" lH)
  (D10:DefAt K "_law_draw" jp)
  (D11:DefAt K "_law_rounds" fU)
  (D12:DefAt K "_law_order" hV)
  (D13:DefAt K "_law_pairs" g0)
  (D14:DefAt K "_law_shape" ip)
  (D15:DefAt K "_law_web" lc)
  (D16:DefAt K "_law_near" jJ)
  (D17:DefAt K "_law_walk" jg)
  (D18:DefAt K "_law_some" jO)
  (D19:DefAt K "_law_bent" jM)
  (D20:DefAt K "_law_is_ring" fi)
  (D21:DefAt K "_law_is_bare" fh)
  (D22:DefAt K "_law_right" gW)
  (D23:DefAt K "law" oo)
  (z0:Zn K "abs")
  (z1:Zn K "all")
  (z2:Zn K "bool")
  (z3:Zn K "enumerate")
  (z4:Zn K "int")
  (z5:Zn K "isinstance")
  (z6:Zn K "len")
  (z7:Zn K "list")
  (z8:Zn K "max")
  (z9:Zn K "min")
  (z10:Zn K "range")
  (z11:Zn K "repr")
  (z12:Zn K "set")
  (z13:Zn K "sorted")
  (z14:Zn K "tuple")
  (z15:Zn K "zip")
   :FnAt P w K mg base "law" P_law f_law 7:=by
 have a0:=fnN (k:=0) (N:=nL) (G:=ng) (ps:=nC) b D0 fun X e h g d=>wd h g d (e.n z5) (e.n z2) (e.n z4);have a1:=fnN (k:=1) (N:=nM) (G:=ni) (ps:=nH) b D1 fun X e h g d=>xg h g d (a0.c e);have a2:=fnN (k:=0) (N:=kg) (G:=j4) (ps:=fF) b D2 fun X e h g d=>re h g d (e.n z13) (e.n z12) (e.n z8) (e.n z9) (e.n z14);have a3:=fnN (k:=0) (N:=kc) (G:=j8) (ps:=j0) b D3 fun X e h g d=>qY h g d (e.n z3);have a4:=fnN (k:=1) (N:=uY) (G:=vE) (ps:=pj) b D4 fun X e h g d=>b_sides h g d (a2.c e) (e.n z3);have a5:=fnN (k:=2) (N:=qt) (G:=qk) (ps:=kS) b D5 fun X e h g d=>yd h g d (a4.c e) (a1.c e) (e.n z1) (e.n z6) (e.n z12) (e.n z5) (e.n z7);have a6:=fnN (k:=2) (N:=j9) (G:=j7) (ps:=ki) b D6 fun X e h g d=>qU h g d (a3.c e) (a2.c e) (a4.c e);have a7:=fnN (k:=3) (N:=lQ) (G:=lZ) (ps:=mj) b D7 fun X e h g d=>uH h g d (a6.c e);have a8:=fnN (k:=4) (N:=qh) (G:=pF) (ps:=pP) b D8 fun X e h g d=>yW h g d (a7.c e) (a5.c e) (e.n z6);have a9:=fnN (k:=0) (N:=vD) (G:=vM) (ps:=u8) b D9 fun X e h g d=>b_l_pen h g d (e.n z0) (e.n z6) (e.n z9);have a10:=fnN (k:=0) (N:=tV) (G:=ui) (ps:=d8) b D10 fun X e h g d=>Ah h g d;have a11:=fnN (k:=0) (N:=nk) (G:=nV) (ps:=nz) b D11 fun X e h g d=>xp h g d (e.n z6) (e.n z9) (e.n z8);have a12:=fnN (k:=1) (N:=qC) (G:=pC) (ps:=kZ) b D12 fun X e h g d=>xU h g d (a10.c e) (e.n z10);have a13:=fnN (k:=0) (N:=qF) (G:=pT) (ps:=pU) b D13 fun X e h g d=>yG h g d (e.n z3);have a14:=fnN (k:=1) (N:=qe) (G:=qj) (ps:=pB) b D14 fun X e h g d=>xq h g d (a10.c e) (a13.c e) (e.n z10) (e.n z4) (e.n z7);have a15:=fnN (k:=2) (N:=vZ) (G:=vf) (ps:=vj) b D15 fun X e h g d=>b_l_web h g d (a14.c e) (a12.c e) (a10.c e) (e.n z13) (e.n z12) (e.n z14) (e.n z8) (e.n z9);have a16:=fnN (k:=0) (N:=tT) (G:=sV) (ps:=uv) b D16 fun X e h g d=>Af h g d (e.n z13) (e.n z10);have a17:=fnN (k:=1) (N:=ug) (G:=ud) (ps:=sO) b D17 fun X e h g d=>zV h g d (a10.c e) (e.n z10) (e.n z6);have a18:=fnN (k:=2) (N:=tO) (G:=uf) (ps:=ue) b D18 fun X e h g d=>An h g d (a12.c e) (a10.c e) (a16.c e) (a17.c e);have a19:=fnN (k:=1) (N:=su) (G:=sR) (ps:=tZ) b D19 fun X e h g d=>Ae h g d (a10.c e) (e.n z6) (e.n z7) (e.n z4) (e.n z14);have a20:=fnN (k:=0) (N:=lP) (G:=lM) (ps:=iF) b D20 fun X e h g d=>uR h g d (e.n z15) (e.n z8) (e.n z9) (e.n z5) (e.n z2) (e.n z4) (e.n z6) (e.n z7);have a21:=fnN (k:=1) (N:=lN) (G:=lS) (ps:=lY) b D21 fun X e h g d=>uN h g d (a20.c e) (e.n z6);have a22:=fnN (k:=5) (N:=pA) (G:=qm) (ps:=qB) b D22 fun X e h g d=>ze h g d (a21.c e) (a20.c e) (a8.c e) (a5.c e) (a18.c e) (a19.c e) (a15.c e) (e.n z10) (e.n z11) (e.n z5) (e.n z2);have a23:=fnN (k:=6) (N:=N_law) (G:=G_law) (ps:=P_law) b D23 fun X e h g d=>b_law h g d (a11.c e) (a9.c e) (a22.c e) (e.n z10);exact a23
end Law
namespace PySem.W.Fast
def tw12025668694318640:=0
def tw10261237180037204034:=0
def tw3282268834068868447:=0
def tw76732199220085973:=0
def tw11178720436791041846:=0
def tw8176608221945786975:=0
def tw2096565377212384537:=0
def tw13204524968185115661:=0
def tw12539812739487095395:=0
def tw11190914386335705106:=0
def tw7839990990573365052:=0
def tw16821373689745823785:=0
def tw10020830553372564127:=0
def tw839895581490914850:=0
def tw9077368258140527985:=0
def tw5441921245239682228:=0
def tw17735328081971062675:=0
def tw17793028563765223579:=0
def tw10863344466360025564:=0
def tw12509520273193518136:=0
def tw2958811921066237406:=0
def tw17851946321507201816:=0
def tw10339027199357878397:=0
def tw9850798426971081635:=0
def tw3197036587260667959:=0
def tw18171732334177118893:=0
end PySem.W.Fast
open PySem PySem.W PyProof.Rows
local macro_rules | `(tactic| and_intros) => `(tactic| (dsimp only [L2.KOf]; first | k_is | (refine' MM.defAt_mk ?a ?l ?c ?k; (case a => k_is); (case l => k_is); (case c => k_is); (case k => k_is))))
set_option maxRecDepth 100000 in
set_option maxHeartbeats 0 in
theorem PySem.Challenge.cw_fewfills_k14_what_is_a_ring_holds : PySem.Challenge.rw_fewfills_k14_what_is_a_ring.Holds := by
  w_on; o_law; k_head; (case hw=>w_witness2)
  k_fill
  refine MM.walk_M (l:=PySem.Challenge.rw_fewfills_k14_what_is_a_ring) (k:=7) (x:="_law_script") (F:=Law.f_law) rfl rfl ⟨rfl,by decide,by decide,rfl⟩ (fun w h Y=>PySem.W.kIn_of Y) ?F Law.law_true
  case F=>
    intro w mg fa h KX G hmg
    have Dlaw:MM.DefAt (L2.KOf KX) "law" Law.oo:=by and_intros
    have D0:MM.DefAt (L2.KOf KX) "is_whole" Law.fS:=by and_intros
    have D1:MM.DefAt (L2.KOf KX) "is_place" Law.fN:=by and_intros
    have D2:MM.DefAt (L2.KOf KX) "rising_once" Law.d5:=by and_intros
    have D3:MM.DefAt (L2.KOf KX) "pairs_among" Law.dU:=by and_intros
    have D4:MM.DefAt (L2.KOf KX) "sides" Law.lm:=by and_intros
    have D5:MM.DefAt (L2.KOf KX) "is_ring" Law.iz:=by and_intros
    have D6:MM.DefAt (L2.KOf KX) "pairs_apart" Law.dX:=by and_intros
    have D7:MM.DefAt (L2.KOf KX) "chords_of" Law.fg:=by and_intros
    have D8:MM.DefAt (L2.KOf KX) "is_bare" Law.iq:=by and_intros
    have D9:MM.DefAt (L2.KOf KX) "_law_pen" Law.lH:=by and_intros
    have D10:MM.DefAt (L2.KOf KX) "_law_draw" Law.jp:=by and_intros
    have D11:MM.DefAt (L2.KOf KX) "_law_rounds" Law.fU:=by and_intros
    have D12:MM.DefAt (L2.KOf KX) "_law_order" Law.hV:=by and_intros
    have D13:MM.DefAt (L2.KOf KX) "_law_pairs" Law.g0:=by and_intros
    have D14:MM.DefAt (L2.KOf KX) "_law_shape" Law.ip:=by and_intros
    have D15:MM.DefAt (L2.KOf KX) "_law_web" Law.lc:=by and_intros
    have D16:MM.DefAt (L2.KOf KX) "_law_near" Law.jJ:=by and_intros
    have D17:MM.DefAt (L2.KOf KX) "_law_walk" Law.jg:=by and_intros
    have D18:MM.DefAt (L2.KOf KX) "_law_some" Law.jO:=by and_intros
    have D19:MM.DefAt (L2.KOf KX) "_law_bent" Law.jM:=by and_intros
    have D20:MM.DefAt (L2.KOf KX) "_law_is_ring" Law.fi:=by and_intros
    have D21:MM.DefAt (L2.KOf KX) "_law_is_bare" Law.fh:=by and_intros
    have D22:MM.DefAt (L2.KOf KX) "_law_right" Law.gW:=by and_intros
    have Z23:PySem.W.nsIn (L2.KOf KX) mainGlobals "abs" = some none:=by and_intros
    have Z24:PySem.W.nsIn (L2.KOf KX) mainGlobals "all" = some none:=by and_intros
    have Z25:PySem.W.nsIn (L2.KOf KX) mainGlobals "bool" = some none:=by and_intros
    have Z26:PySem.W.nsIn (L2.KOf KX) mainGlobals "enumerate" = some none:=by and_intros
    have Z27:PySem.W.nsIn (L2.KOf KX) mainGlobals "int" = some none:=by and_intros
    have Z28:PySem.W.nsIn (L2.KOf KX) mainGlobals "isinstance" = some none:=by and_intros
    have Z29:PySem.W.nsIn (L2.KOf KX) mainGlobals "len" = some none:=by and_intros
    have Z30:PySem.W.nsIn (L2.KOf KX) mainGlobals "list" = some none:=by and_intros
    have Z31:PySem.W.nsIn (L2.KOf KX) mainGlobals "max" = some none:=by and_intros
    have Z32:PySem.W.nsIn (L2.KOf KX) mainGlobals "min" = some none:=by and_intros
    have Z33:PySem.W.nsIn (L2.KOf KX) mainGlobals "range" = some none:=by and_intros
    have Z34:PySem.W.nsIn (L2.KOf KX) mainGlobals "repr" = some none:=by and_intros
    have Z35:PySem.W.nsIn (L2.KOf KX) mainGlobals "set" = some none:=by and_intros
    have Z36:PySem.W.nsIn (L2.KOf KX) mainGlobals "sorted" = some none:=by and_intros
    have Z37:PySem.W.nsIn (L2.KOf KX) mainGlobals "tuple" = some none:=by and_intros
    have Z38:PySem.W.nsIn (L2.KOf KX) mainGlobals "zip" = some none:=by and_intros
    exact MM.head_M Dlaw Law.bi_law hmg KX G fun base kb nb=>Law.all_fn ⟨kb,nb⟩ D0 D1 D2 D3 D4 D5 D6 D7 D8 D9 D10 D11 D12 D13 D14 D15 D16 D17 D18 D19 D20 D21 D22 Dlaw Z23 Z24 Z25 Z26 Z27 Z28 Z29 Z30 Z31 Z32 Z33 Z34 Z35 Z36 Z37 Z38
