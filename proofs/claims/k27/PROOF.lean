import PyProof.Rows.All
import Wide.All
import OpenK.AllK
import Wide.FinOn
import Lean
import PyProof.EqAt
import PyProof.EqKinds
import PyProof.TupleCall
import PyProof.ReprRoads
import PyProof.FitsInt
import PyProof.FitsBits
import PyProof.Rows.IntMath
import PyProof.ConsumeWalk
import PyProof.WalkInts
import PyProof.ListRange
import PySem.SetTable
import PyProof.SetKind
import PyProof.TupleKey
import PyProof.DictKinds
import PyProof.IsRules
import PyProof.Rows.SetFrom
import PyProof.CollectIter
import PyProof.ForAny
import PyProof.Rows.SortRuns
import PyProof.Rows.SortKey
import KE.KSortTup
import PyProof.ZipIter
import PyProof.Draws
import PyProof.EnumMake
import PyProof.TupleIter
import PyProof.P3Eq
import PyProof.StrCalls2
import PyProof.StrCalls3
import PyProof.FString
import PyProof.AttrMissHeap
import PyProof.DictUpdate
import PyProof.DictRoads
import KE.KDictOf
import PyProof.Walks
import PyProof.SetRoads
import PyProof.Rows.SeqMore
import PyProof.CallFns
import PyProof.StrOps
import PyProof.Rows.Chain
import PyProof.Rows.TupDisplay
import PyProof.ListMulRoad
import PyProof.FactsAll.tuple_2
import PySem.Challenge.RW_fewfills_k27_sheets_made
set_option Elab.async false
set_option bootstrap.genMatcherCode false
set_option compiler.extract_closed false
set_option linter.all false
set_option maxRecDepth 100000
open PySem
abbrev qaa:=@wpAny_bind
abbrev qab:=@Heap.get?_push_of_some
abbrev qac:=@PySem.W.Frag
abbrev qad:=@List.getElem?_eq_some_iff
abbrev qae:=@List.mem_cons_of_mem
abbrev qaf:=@Bool.false_eq_true
abbrev qag:=@wpAny_pure
abbrev qah:=@if_pos
abbrev qai:=@Nat.le_refl
abbrev qaj:=@List.mem_append_right
abbrev qak:=@List.mem_cons
abbrev qal:=@Heap.lt_size
abbrev qam:=@List.getElem?_set_ne
abbrev qan:=@if_neg
abbrev qao:=@List.getElem?_append_left
abbrev qap:=@Heap.get?_push_size
abbrev qaq:=@List.size_toArray
abbrev qar:=@Array.getElem?_toList
abbrev qas:=@List.getElem?_eq_getElem
abbrev qat:=@Option.map_eq_some_iff
abbrev qau:=@List.map_cons
abbrev qav:=@List.mem_map
abbrev qaw:=@List.getElem?_map
abbrev qax:=@List.mem_cons_self
abbrev qay:=@List.mem_append
abbrev qaz:=@Nat.lt_of_lt_of_le
abbrev qaA:=@List.mem_iff_getElem?
abbrev qaB:=@List.length_map
abbrev qaC:=@List.getElem?_append_right
abbrev qaD:=@Array.length_toList
abbrev qaE:=@List.getElem?_set_self
abbrev qaF:=@Nat.ne_of_lt
abbrev qaG:=@List.mem_append_left
abbrev qaH:=@Option.bind_eq_some_iff
abbrev qaI:=@List.extract_eq_take_drop
abbrev qaJ:=@Nat.le_trans
abbrev qaK:=@Nat.zero_le
abbrev qaL:=@Bool.false_ne_true
abbrev qaM:=@List.set_cons_succ
abbrev qaN:=@List.set_cons_zero
abbrev qaO:=@Bool.and_eq_true
abbrev qaP:=@List.lookup_cons
abbrev qaQ:=@List.length_append
abbrev qaR:=@List.getElem?_eq_none
abbrev qaS:=@List.replicate_succ
abbrev qaT:=@Nat.ne_of_gt
abbrev qaU:=@List.map_map
abbrev qaV:=@List.mem_of_getElem?
abbrev qaW:=@List.not_mem_nil
abbrev qaX:=@Option.bind_some
abbrev qaY:=@List.pairwise_map
abbrev qaZ:=@Array.toList_append
abbrev qba:=@Array.toList_inj
abbrev qbb:=@Heap.size_push
abbrev qbc:=@Nat.lt_irrefl
abbrev qbd:=@List.append_assoc
abbrev qbe:=@Array.toList_push
abbrev qbf:=@Bool.not_true
abbrev qbg:=@Int.toNat_natCast
abbrev qbh:=@Array.getElem?_eq_some_iff
abbrev qbi:=@Array.getElem?_eq_getElem
abbrev qbj:=@List.length_cons
abbrev qbk:=@List.take_append_drop
abbrev qbl:=@List.getElem?_replicate
abbrev qbm:=@List.all_eq_true
abbrev qbn:=@Int.fmod_eq_emod_of_nonneg
abbrev qbo:=@List.flatten_cons
abbrev qbp:=@Heap.get?_update_ne
abbrev qbq:=@List.pairwise_iff_getElem
abbrev qbr:=@Bool.beq_eq_decide_eq
abbrev qbs:=@List.getElem?_toArray
abbrev qbt:=@Array.size_push
abbrev qbu:=@Nat.zero_add
abbrev qbv:=@List.pairwise_cons
abbrev qbw:=@List.mem_filter
abbrev qbx:=@Array.getElem?_eq_none
abbrev qby:=@Array.getElem?_extract
abbrev qbz:=@List.drop_eq_nil_of_le
abbrev qbA:=@Array.perm_iff_toList_perm
abbrev qbB:=@List.length_replicate
abbrev qbC:=@Heap.get?_update_self
abbrev qbD:=@Int.emod_lt_of_pos
abbrev qbE:=@Array.toList_extract
abbrev qbF:=@List.getElem?_take_of_lt
abbrev qbG:=@Bool.not_eq_true'
abbrev qbH:=@Nat.lt_succ_of_lt
abbrev qbI:=@List.ext_getElem?
abbrev qbJ:=@Nat.le_of_lt
abbrev qbK:=@List.length_eq_zero_iff
abbrev qbL:=@Nat.lt_succ_self
abbrev qbM:=@List.perm_middle
abbrev qbN:=@List.getElem_mem
abbrev qbO:=@List.take_succ
abbrev qbP:=@Heap.get?_update_other
abbrev qbQ:=@List.take_of_length_le
abbrev qbR:=@Array.getElem?_setIfInBounds
abbrev qbS:=@List.nodup_cons
abbrev qbT:=@Int.emod_nonneg
abbrev qbU:=@List.nodup_append
abbrev qbV:=@Array.size_append
abbrev qbW:=@Array.getElem?_eq_none_iff
abbrev qbX:=@List.filterMap_cons
abbrev qbY:=@Nat.le_succ
abbrev qbZ:=@List.mem_filterMap
abbrev qca:=@List.append_nil
abbrev qcb:=@List.of_mem_zip
abbrev qcc:=@List.mem_singleton
abbrev qcd:=@Option.map_some
abbrev qce:=@List.getElem?_drop
abbrev qcf:=@List.perm_append_comm
abbrev qcg:=@List.length_filter_le
abbrev qch:=@List.length_take
abbrev qci:=@List.map_snd_zip
abbrev qcj:=@List.any_eq_true
abbrev qck:=@Array.toList_reverse
abbrev qcl:=@List.foldl_cons
abbrev qcm:=@List.find?_cons
abbrev qcn:=@List.map_congr_left
abbrev qco:=@List.map_append
abbrev qcp:=@List.perm_ext_iff_of_nodup
abbrev qcq:=@Nat.lt_trans
abbrev qcr:=@Bool.not_eq_false'
abbrev qcs:=@List.zip_cons_cons
abbrev qct:=@List.mem_range
abbrev qcu:=@List.drop_eq_getElem_cons
abbrev qcv:=@Bool.not_false
abbrev qcw:=@Nat.gcd_pos_of_pos_right
abbrev qcx:=@Bool.eq_false_iff
abbrev qcy:=@List.all_cons
abbrev qcz:=@List.getElem?_cons_succ
abbrev qcA:=@List.pairwise_mergeSort
abbrev qcB:=@Int.eq_ofNat_of_zero_le
abbrev qcC:=@Int.gcd_natCast_natCast
abbrev qcD:=@List.take_length
abbrev qcE:=@Nat.le_add_right
abbrev qcF:=@List.zipIdx_cons
abbrev qcG:=@Heap.size_update
abbrev qcH:=@List.range_succ_eq_map
abbrev qcI:=@List.getElem_cons_drop
abbrev qcJ:=@Int.le_ediv_iff_mul_le
abbrev qcK:=@List.forIn_cons
abbrev qcL:=@Nat.not_lt_zero
abbrev qcM:=@List.filter_map
abbrev qcN:=@Bool.and_false
abbrev qcO:=@List.nodup_nil
abbrev qcP:=@List.forIn_nil
abbrev qcQ:=@Array.size_map
abbrev qcR:=@List.any_cons
noncomputable section
local macro_rules | `(tactic| ext) => `(tactic| omega)
namespace L2
open PySem PySem.Spec PyProof.Rows
abbrev Key:=Sum Int Str
def keyIs:Key->Value->Bool
 | .inl k,v=>Value.isInt k v
 | .inr x,v=>Value.isStrOf x v
def keyH(w:World):Key->Int
 | .inl k=>hashInt k
 | .inr x=>hashStr w x
def bE:∀{k:Key} {v:Value},keyIs k v=true->(∃i t,k=Sum.inl i/\v=Value.int i t)\/(∃x t,k=Sum.inr x/\v=Value.str x t)
 | .inl i,v,h=>by
  obtain⟨t,e⟩:=Value.isInt_shape (k:=i) (v:=v) h;exact .inl ⟨i,t,rfl,e⟩
 | .inr x,v,h=>by
  obtain⟨t,e⟩:=Value.isStrOf_shape (x:=x) (v:=v) h;exact .inr ⟨x,t,rfl,e⟩
def key_ll(a b:Int):decide ((Sum.inl a:Key)=Sum.inl b)=(a == b):=by
 by_cases e:a=b
 ·subst e;simp
 ·have h:¬(Sum.inl a:Key)=Sum.inl b:=fun q=>e (Sum.inl.inj q);rw[decide_eq_false h];exact (beq_eq_false_iff_ne.mpr e).symm
def key_rr(a b:Str):decide ((Sum.inr a:Key)=Sum.inr b)=decide (a=b):=by
 by_cases e:a=b
 ·subst e;simp
 ·have h:¬(Sum.inr a:Key)=Sum.inr b:=fun q=>e (Sum.inr.inj q);rw[decide_eq_false h,decide_eq_false e]
def key_lr(a:Int)(b:Str):decide ((Sum.inl a:Key)=Sum.inr b)=false:=decide_eq_false (fun q=>nomatch q)
def key_rl(a:Str)(b:Int):decide ((Sum.inr a:Key)=Sum.inl b)=false:=decide_eq_false (fun q=>nomatch q)
def uD(prog:Program)(w:World):PySem.KeyKind prog w Key where
 is:=keyIs
 hash:=keyH w
 inj:=fun v a b ha hb=>by
  rcases bE ha with ⟨i,t,rfl,rfl⟩|⟨x,t,rfl,rfl⟩
  ·rcases bE hb with ⟨j,u,rfl,e⟩|⟨y,u,rfl,e⟩
   ·injection e with e1 _;rw[e1]
   ·exact nomatch e
  ·rcases bE hb with ⟨j,u,rfl,e⟩|⟨y,u,rfl,e⟩
   ·exact nomatch e
   ·injection e with e1 _;rw[e1]
 byValue:=fun k v h=>by
  rcases bE h with ⟨i,t,rfl,rfl⟩|⟨x,t,rfl,rfl⟩ <;> rfl
 pyHash:=fun hv h=>by
  rcases bE hv with ⟨i,t,rfl,rfl⟩|⟨x,t,rfl,rfl⟩
  ·exact wpAny_pyHash_int h
  ·exact wpAny_pyHash_str h
 eqBool:=fun hu hv h=>by
  rcases bE hu with ⟨i,t,rfl,rfl⟩|⟨x,t,rfl,rfl⟩
  ·rcases bE hv with ⟨j,u,rfl,rfl⟩|⟨y,u,rfl,rfl⟩
   ·rw[key_ll] at h;exact wpAny_eqBool_int h
   ·rw[key_lr] at h;exact SeqAt.EqAt.int_str i t y u _ _ _ _ h
  ·rcases bE hv with ⟨j,u,rfl,rfl⟩|⟨y,u,rfl,rfl⟩
   ·rw[key_rl] at h;exact SeqAt.EqAt.str_int x t j u _ _ _ _ h
   ·rw[key_rr] at h;exact wpAny_eqBool_str h
 «strs»:=fun k x t v h=>by
  rcases bE h with ⟨i,u,rfl,e⟩|⟨y,u,rfl,e⟩
  ·exact nomatch e
  ·injection e with e1 _
   subst e1;cases v <;> rfl
inductive V where
 | non | bl (b:Bool) | int (i:Int) | str (x:Str) | byt (b:Array UInt8) | flt (b:UInt64) | ref (a:Addr) | ty (n:String)
 deriving DecidableEq
def aF:V->Value->Prop
 | .non,u=>u=Value.none
 | .bl b,u=>u=Value.bool b
 | .int i,u=>∃t,u=Value.int i t
 | .str x,u=>∃t,u=Value.str x t
 | .byt b,u=>∃t,u=Value.bytes b t
 | .flt b,u=>∃t,u=Value.float b t
 | .ref a,u=>u=Value.ref a
 | .ty n,u=>u=Value.type n
abbrev ar:List V->List Value->Prop:=Paired aF
def ar.length(r:ar xs us):xs.length=us.length:=Paired.length r
def ar.get{xs:List V}{us:List Value}{i:Nat}{x:V}(r:ar xs us)(e:xs[i]?=some x):∃u,us[i]?=some u/\aF x u:=by
 induction r generalizing i with
 | nil=>cases e
 | cons r t ih =>
  cases i with
  | zero=>cases e;exact⟨_,rfl,r⟩
  | succ i=>have z:=@ih i e;exact z
def ar.set(r:aF x u)(i:Nat)(q:ar xs us):ar (xs.set i x) (us.set i u):=by
 induction q generalizing i with
 | nil=>exact .nil
 | cons a t ih =>
  cases i with
  | zero=>exact .cons r t
  | succ i=>exact .cons a (ih i)
def ar.append(r:ar xs us)(s:ar ys ws):ar (xs++ys) (us++ws):=by
 induction r with
 | nil=>exact s
 | cons r t ih=>exact .cons r ih
def ar.take(n:Nat)(r:ar xs us):ar (xs.take n) (us.take n):=by
 induction r generalizing n with
 | nil=>cases n <;> exact .nil
 | cons a t ih =>
  cases n with
  | zero=>exact .nil
  | succ n=>exact .cons a (ih n)
def ar.drop(n:Nat)(r:ar xs us):ar (xs.drop n) (us.drop n):=by
 induction r generalizing n with
 | nil=>cases n <;> exact .nil
 | cons a t ih =>
  cases n with
  | zero=>exact .cons a t
  | succ n=>exact ih n
def RelO:Option V->Option Value->Prop
 | some v,some u=>aF v u
 | none,none=>True
 | _,_=>False
def KV{κ:Type}:List (κ × V)->List (κ × Value)->Prop:=Paired fun (p:κ × V) (q:κ × Value)=>p.1=q.1/\aF p.2 q.2
def kV:Key->V
 | .inl i=>.int i
 | .inr x=>.str x
inductive HO where
 | lst (xs:List V)
 | tup (xs:List V)
 | dK (kvs:List (Key × V)) | dT (kvs:List (List Key × V))
 | set (S:Int->Bool) (n:Nat)
 | ins (C dx:Addr) (fs:List (Str × V))
 | own (x:Addr)
 | xd (fs:List (Str × V))
 | met (f x:Addr)
 | rng (lo hi:Int)
 | frz (o:Obj) (u:HO)
 | tbl (ps:Array Value)
 | ext (φ:Heap->Prop)
abbrev Hp:=Addr->Option HO
def upd(H:Hp)(a:Addr)(o:HO):Hp:=fun b=>if b=a then some o else H b
def bB:upd H a o a=some o:=by unfold upd;rw[qah rfl]
def aQ(h:b≠a):upd H a o b=H b:=by unfold upd;rw[qan h]
def bp{H:Hp}{a b:Addr}{o:HO}(h:H a=some o)(h':H b=none):a≠b:=by
 intro e;subst e;rw[h] at h';cases h'
def ij(h:Heap)(a:Addr)(its:Array Value):Prop:=∃o,h.get? a=some o/\o.cls=.type "tuple"/\(∃n,o.data=.seq its n)/\o.dict=none
def ij.tup(t:ij h a its):IsTup h a its:=let ⟨o,e,c,d,_⟩:=t;⟨o,e,c,d⟩
def ij.lt(t:ij h a its):a<h.objs.size:=t.tup.lt
def ij.new(h:Heap)(its:Array Value):ij (h.push { cls:=.type "tuple",data:=.seq its}) h.objs.size its:=⟨_,qap h rfl,rfl,⟨_,rfl⟩,rfl⟩
section
variable (P:Program) (w:World)
def ObjOk(H:Hp)(h:Heap)(a:Addr):HO->Prop
 | .lst xs=>xs.length<=sizeLine/\∃(its:List Value) (n:Nat),ar xs its/\h.get? a=some { cls:=.type "list",data:=.seq its.toArray n}
 | .tup xs=>xs.length<=sizeLine/\∃its:List Value,ar xs its/\ij h a its.toArray
 | .dK kvs=>kvs.length<=sizeLine/\(a == sysModules)=false/\∃vs,KV kvs vs/\h.DictOf (uD P w) a vs
 | .dT kvs=>kvs.length<=sizeLine/\(a == sysModules)=false/\∃xs:List (List Key × Addr × Value),
   Paired (fun (p:List Key × V) (q:List Key × Addr × Value)=>p.1=q.1/\H q.2.1=some (.tup (p.1.map kV))/\aF p.2 q.2.2) kvs xs /\
   ∃o es ep,h.get? a=some o/\o.ExactDict/\o.data=.dict es ep/\es.toList=xs.map (entryOfKey (tupleKind (uD P w)))/\(xs.map (·.1)).Nodup
 | .set S n=>h.SetOf (intKind P w) a S n
 | .ins C dx fs=>H dx=some (.own a)/\fs.length<=1000/\dx≠a/\h.get? a=some (PySem.W.instObj C dx) /\
   ∃mA,h.Ns1 dx mA/\(∀f,RelO (fs.lookup f) (mA f))/\PySem.Within mA (fs.map (·.1))
 | .own _=>∃o,h.get? a=some o
 | .xd fs=>∃mA,h.Ns1 a mA/\∀f,RelO (fs.lookup f) (mA f)
 | .rng lo hi=>∃t u v,h.get? a=some { cls:=.type "range",data:=.fields #[.int lo t,.int hi u,.int 1 v]}
 | .frz o u=>h.get? a=some o/\ObjOk H h a u
 | .tbl ps=>h.get? a=some { cls:=.none,data:=.fields ps}
 | .met f x=>h.get? a=some (PySem.W.methodObj (.ref f) (.ref x))
 | .ext φ=>φ h/\(∃o,h.get? a=some o)/\∀h1 h2:Heap,φ h1->(∀o,h1.get? a=some o->h2.get? a=some o)->φ h2
def HOk(H:Hp)(h:Heap):Prop:=∀a o,H a=some o->ObjOk P w H h a o
end
section
variable {P:Program} {w:World} {H H':Hp} {h h':Heap} {a:Addr} {o:HO}
def ObjOk.lt(x:ObjOk P w H h a o):a<h.objs.size:=by
 cases o with
 | lst xs=>obtain⟨_,_,_,_,e⟩:=x;exact qal e
 | tup xs=>obtain⟨_,_,_,p⟩:=x;exact p.lt
 | dK kvs=>obtain⟨_,_,_,_,o,_,_,e,_⟩:=x;exact qal e
 | dT kvs=>obtain⟨_,_,_,_,o,_,_,e,_⟩:=x;exact qal e
 | set S n=>obtain⟨o,_,_,_,e,_⟩:=x;exact qal e
 | ins C dx fs=>obtain⟨_,_,_,e,_⟩:=x;exact qal e
 | own y=>obtain⟨_,e⟩:=x;exact qal e
 | xd fs=>obtain⟨_,⟨_,_,_,e,_⟩,_⟩:=x;exact qal e
 | rng lo hi=>obtain⟨_,_,_,e⟩:=x;exact qal e
 | frz ob u=>obtain⟨e,_⟩:=x;exact qal e
 | tbl ps=>exact qal (show h.get? a=some _ from x)
 | met f y=>exact qal (show h.get? a=some _ from x)
 | ext φ=>obtain⟨_,⟨_,e⟩,_⟩:=x;exact qal e
def Paired.mapP{α β:Type}{F G:α->β->Prop}{l₁:List α}{l₂:List β}(r:Paired F l₁ l₂)(f:∀a b,F a b->G a b):Paired G l₁ l₂:=by
 induction r with
 | nil=>exact .nil
 | cons r t ih=>exact .cons (f _ _ r) ih
def ObjOk.stay(x:ObjOk P w H h a o)(k:∀b u,(b=a\/H b=some (.own a))->h.get? b=some u->h'.get? b=some u)
  (ho:∀b,H b=some (.own a)->H' b=some (.own a)) (ht:∀b xs,H b=some (.tup xs)->H' b=some (.tup xs)):ObjOk P w H' h' a o:=by
 induction o with
 | lst xs=>obtain⟨z,its,n,r,e⟩:=x;exact⟨z,its,n,r,k _ _ (.inl rfl) e⟩
 | tup xs=>obtain⟨z,its,r,ob,e,c⟩:=x;exact⟨z,its,r,ob,k _ _ (.inl rfl) e,c⟩
 | dK kvs=>obtain⟨z,y,vs,r,ob,es,ep,e,c⟩:=x;exact⟨z,y,vs,r,ob,es,ep,k _ _ (.inl rfl) e,c⟩
 | dT kvs =>
  obtain⟨z,y,xs,r,ob,es,ep,e,c⟩:=x;exact⟨z,y,xs,Paired.mapP r fun p q z=>⟨z.1,ht _ _ z.2.1,z.2.2⟩,ob,es,ep,k _ _ (.inl rfl) e,c⟩
 | set S n=>obtain⟨ob,es,ep,t,e,c⟩:=x;exact⟨ob,es,ep,t,k _ _ (.inl rfl) e,c⟩
 | ins C dx fs =>
  obtain⟨d,z,ne,e,mA,⟨od,es,ep,e2,c⟩,r⟩:=x;exact⟨ho _ d,z,ne,k _ _ (.inl rfl) e,mA,⟨od,es,ep,k _ _ (.inr d) e2,c⟩,r⟩
 | own y=>obtain⟨ob,e⟩:=x;exact⟨ob,k _ _ (.inl rfl) e⟩
 | xd fs=>obtain⟨mA,⟨od,es,ep,e,c⟩,r⟩:=x;exact⟨mA,⟨od,es,ep,k _ _ (.inl rfl) e,c⟩,r⟩
 | rng lo hi=>obtain⟨t,u,v,e⟩:=x;exact⟨t,u,v,k _ _ (.inl rfl) e⟩
 | frz ob u ih=>obtain⟨e,q⟩:=x;exact⟨k _ _ (.inl rfl) e,ih q⟩
 | tbl ps =>
  have e:h.get? a=some { cls:=.none,data:=.fields ps}:=x;show h'.get? a=some { cls:=.none,data:=.fields ps};exact k a _ (.inl rfl) e
 | met f y =>
  have e:h.get? a=some (PySem.W.methodObj (.ref f) (.ref y)):=x;show h'.get? a=some (PySem.W.methodObj (.ref f) (.ref y));exact k a _ (.inl rfl) e
 | ext φ=>obtain⟨p,⟨o,e⟩,st⟩:=x;exact⟨st _ _ p fun o q=>k _ _ (.inl rfl) q,⟨o,k _ _ (.inl rfl) e⟩,st⟩
def HOk.lt(x:HOk P w H h)(e:H a=some o):a<h.objs.size:=(x a o e).lt
def HOk.fresh(x:HOk P w H h)(e:h.objs.size<=a):H a=none:=by
 cases q:H a with
 | none=>rfl
 | some u=>exact absurd (qaz (x.lt q) e) (qbc _)
def HOk.kept(x:HOk P w H h)(k:∀b u,h.get? b=some u->h'.get? b=some u):HOk P w H h':=fun a o e =>
 (x a o e).stay (fun b u _ q=>k b u q) (fun _ q=>q) fun _ _ q=>q
def HOk.laid(x:HOk P w H h)(k:∀b u,h.get? b=some u->h'.get? b=some u)(hp:h.objs.size<=a)(new:ObjOk P w (upd H a o) h' a o):HOk P w (upd H a o) h':=fun b u e=>by
 have hn:=x.fresh hp;by_cases hb:b=a
 ·subst hb;rw[bB] at e;cases e;exact new
 ·rw[aQ hb] at e;exact (x b u e).stay (fun c v _ q=>k c v q) (fun c q=>by rw[aQ (bp q hn)];exact q) fun c xs q=>by rw[aQ (bp q hn)];exact q
end
def Rd(H:Hp)(a:Addr)(u:HO):Prop:=H a=some u\/∃o,H a=some (.frz o u)
def Rd.ok(r:Rd H a u)(x:HOk P w H h):ObjOk P w H h a u:=by
 rcases r with r|⟨o,r⟩
 ·exact x a u r
 ·obtain⟨_,q⟩:=x a _ r;exact q
def Mut:Option HO->Prop
 | some (.lst _)=>True
 | some (.dK _)=>True
 | some (.dT _)=>True
 | some (.set _ _)=>True
 | some (.ins _ _ _)=>True
 | some (.ext _)=>True
 | _=>False
section
variable {P:Program} {w:World} {H:Hp} {h h':Heap} {x e:Addr} {o':HO}
def HOk.write(ok:HOk P w H h)(mu:Mut (H x))(he:e=x\/H e=some (.own x))(k:∀b u,b≠e->h.get? b=some u->h'.get? b=some u)(heo:∃u,h'.get? e=some u)
  (new:ObjOk P w (upd H x o') h' x o'):HOk P w (upd H x o') h':=fun b u q=>by
 have nown:∀c y,H c=some (.own y)->c≠x:=fun c y r z=>by subst z;rw[r] at mu;exact mu
 have ntup:∀c xs,H c=some (.tup xs)->c≠x:=fun c xs r z=>by subst z;rw[r] at mu;exact mu
 by_cases hb:b=x
 ·subst hb;rw[bB] at q;cases q;exact new
 ·rw[aQ hb] at q;by_cases hbe:b=e
  ·have q':H b=some (.own x):=by
    rcases he with z|z
    ·exact absurd (hbe.trans z) hb
    ·rw[hbe];exact z
   rw[q] at q';cases q';obtain⟨v,hv⟩:=heo;exact⟨v,by rw[hbe];exact hv⟩
  ·refine (ok b u q).stay (fun c v hc r=>k c v ?_ r) (fun c r=>by rw[aQ (nown c b r)];exact r) fun c xs r=>by rw[aQ (ntup c xs r)];exact r
   rcases hc with rfl|hc
   ·exact hbe
   ·rintro rfl;rcases he with z|z
    ·exact nown c b hc z
    ·rw[hc] at z;cases z;exact hb rfl
end
structure Un (fs ex:List Addr) (H H':Hp) (h h':Heap):Prop where
 keep:∀b o,h.get? b=some o->H b=none->b∉fs->b∉ex->h'.get? b=some o
 slot:∀b o,h.get? b=some o->H b=none->b∈fs->b∉ex->∃sl,h'.get? b=some { o with slots:=sl}
 free:∀b o,h.get? b=some o->H b=none->b∉ex->H' b=none
 there:∀b o,h.get? b=some o->b∉ex->∃o',h'.get? b=some o'
 tups:∀b xs,H b=some (.tup xs)->H' b=some (.tup xs)
 frzs:∀b o u,H b=some (.frz o u)->H' b=some (.frz o u)
 tbls:∀b ps,H b=some (.tbl ps)->∃more,H' b=some (.tbl (ps++more))
section
variable {fs fs' ex ex':List Addr} {H H1 H2:Hp} {h h1 h2 h':Heap} {a x e:Addr} {o:HO}
def Un.any(u:Un fs ex H H1 h h1)(q:h.get? b=some ob)(n:H b=none)(hx:b∉ex):∃sl,h1.get? b=some { ob with slots:=sl}:=by
 by_cases hb:b∈fs
 ·exact u.slot b ob q n hb hx
 ·exact⟨ob.slots,u.keep b ob q n hb hx⟩
def Un.kept(k:∀b u,h.get? b=some u->h'.get? b=some u):Un fs ex H H h h' :=
 ⟨fun b ob q _ _ _=>k b ob q,fun b ob q _ _ _=>⟨ob.slots,k b ob q⟩,fun _ _ _ n _=>n,fun b ob q _=>⟨ob,k b ob q⟩,fun _ _ q=>q,fun _ _ _ q=>q,fun _ ps q=>⟨#[],by rw[q];simp⟩⟩
def Un.refl:Un fs ex H H h h:=Un.kept fun _ _ q=>q
def Un.laid(k:∀b u,h.get? b=some u->h'.get? b=some u)(hp:h.objs.size<=a)(hn:H a=none):Un fs ex H (upd H a o) h h' where
 keep:=fun b u q _ _ _=>k b u q
 slot:=fun b u q _ _ _=>⟨u.slots,k b u q⟩
 free:=fun b u q n _=>by rw[aQ (qaF (qaz (qal q) hp))];exact n
 there:=fun b u q _=>⟨u,k b u q⟩
 tups:=fun b xs q=>by rw[aQ (bp q hn)];exact q
 frzs:=fun b u xs q=>by rw[aQ (bp q hn)];exact q
 tbls:=fun b ps q=>⟨#[],by rw[aQ (bp q hn),q];simp⟩
def Un.write(mu:Mut (H x))(he:e=x\/H e=some (.own x))(k:∀b u,b≠e->h.get? b=some u->h'.get? b=some u)(heo:∃u,h'.get? e=some u):Un fs ex H (upd H x o) h h':=by
 have hx:∀b,H b=none->b≠x:=fun b n z=>by subst z;rw[n] at mu;exact mu
 have hb:∀b,H b=none->b≠e:=fun b n z=>by
  subst z;rcases he with r|r
  ·exact hx b n r
  ·rw[n] at r;cases r
 have hm:∀b u,H b=some u->¬Mut (some u)->b≠x:=fun b u q nm z=>by subst z;rw[q] at mu;exact nm mu
 refine⟨fun b u q n _ _=>k b u (hb b n) q,fun b u q n _ _=>⟨u.slots,k b u (hb b n) q⟩,fun b u q n _=>by rw[aQ (hx b n)];exact n,fun b u q _=>?_,
  fun b xs q=>by rw[aQ (hm b _ q fun z=>z)];exact q,fun b u xs q=>by rw[aQ (hm b _ q fun z=>z)];exact q,fun b ps q=>⟨#[],by rw[aQ (hm b _ q fun z=>z),q];simp⟩⟩
 by_cases hbe:b=e
 ·subst hbe;exact heo
 ·exact⟨u,k b u hbe q⟩
end
def trk(h:Heap)(H:Hp):List Addr:=(List.range h.objs.size).filter fun a=>(H a).isSome
def jf(h:Heap)(H:Hp):Heap:=PySem.W.hideAll h (trk h H)
def x5(h:Heap)(H:Hp):(jf h H).objs.size=h.objs.size:=PySem.W.hideAll_size _ _
def yE(e:h.get? b=some o)(n:H b=none):(jf h H).get? b=some o :=
 PySem.W.hideAll_get _ e fun hm=>by
  have q:(H b).isSome=true:=(qbw.mp hm).2;rw[n] at q;simp at q
def of_hidT(e:(jf h H).get? b=some o):h.get? b=some o/\H b=none:=by
 have e':h.get? b=some o:=PySem.W.of_hideAll (trk h H) e;refine⟨e',?_⟩
 cases q:H b with
 | none=>rfl
 | some x =>
  have hm:b∈trk h H:=qbw.mpr ⟨qct.mpr (qal e'),by simp[q]⟩;have z:(jf h H).get? b=none:=PySem.W.hideAll_none (trk h H) hm;rw[z] at e;cases e
structure Mod (K:qac) (mg:Str->Option Value) (base:Heap):Prop where
 kin:K.In base
 glob:base.Ns mainGlobals mg
 blt:∃mb,base.Ns builtinsNs mb/\∀x:Str,x≠"__name__"->mb x=bootBuiltins x
 nolimit:base.NoLimit
structure Cx where
 prog:Program
 w:World
 K:qac
 mg:Str->Option Value
 base:Heap
 A:Around
 N:List Str
 s₀:Shared
 H₀:Hp
 env:Env
 outer:List Env
 stack:List Env
 ex:List Addr
 fn:Str->Bool
 calm:Bool
 pn:List (Addr × Obj)
 xe:Value->Shared->Prop
def frs(l:List Env):List Addr:=l.filterMap (·.frame)
abbrev Cx.fs(X:Cx):List Addr:=frs X.outer
def Vis(sc:Scope)(x:Str):Prop:=sc.names.lookup x=some .local\/sc.names.lookup x=some .cell\/sc.names.lookup x=some .free
def Loc(sc:Scope)(x:Str):Prop:=sc.names.lookup x=some .local\/sc.names.lookup x=some .cell
def Look(env:Env)(h:Heap)(m:Str->Option Value)(x:Str)(u:Value):Prop :=
 (env.kindOf x=some .local/\m x=some u)\/((env.kindOf x=some .cell\/env.kindOf x=some .free)/\∃c,env.cells.lookup x=some c/\h.IsCell c (some u))
structure Cx.Ok (X:Cx):Prop where
 mod:Mod X.K X.mg X.base
 kind:X.env.scope.kind=.function
 glob:X.env.globals=mainGlobals
 blt:X.env.builtins=builtinsNs
 above:X.s₀.heap.objs.size<=X.env.locals
 inj:∀x y c,X.env.cells.lookup x=some c->X.env.cells.lookup y=some c->x=y
 has:∀x,(X.env.kindOf x=some .cell\/X.env.kindOf x=some .free)->∃c,X.env.cells.lookup x=some c
 cab:∀x c,X.fn x=true->X.env.cells.lookup x=some c->X.s₀.heap.objs.size<=c
 hd:X.calm=true->X.A.handled=none
 frames:X.A.frames=some X.stack
 stk:X.stack=X.outer\/(X.stack=X.env::X.outer/\X.env.frame=some X.env.locals)
 exf:∀b∈X.ex,b≠X.env.locals/\∀x c,X.env.cells.lookup x=some c->c≠b
 bs:∀b o,X.base.get? b=some o->X.s₀.heap.get? b=some o/\X.H₀ b=none
 bsz:X.base.objs.size<=X.s₀.heap.objs.size
 noex:∀b o,X.base.get? b=some o->b∉X.ex
 exfs:∀b∈X.ex,b∉X.fs
 funs:X.s₀.heap.FunFrames X.base X.outer
 frf:∀b∈X.fs,X.H₀ b=none
structure Inv (X:Cx) (HM:List (Addr × Obj)) (σ:List (Option V)) (H:Hp) (s:Shared):Prop where
 ok:X.Ok
 os:s.os=X.s₀.os
 bare:AllBare s.gens
 base:Un X.fs X.ex X.H₀ H X.s₀.heap s.heap
 loc:∃m,s.heap.Ns X.env.locals m/\∀(i:Nat) (x:Str) (v:V),X.N[i]?=some x->σ[i]?=some (some v)->Vis X.env.scope x->∃u,aF v u/\Look X.env s.heap m x u
 cell:∀x c,X.env.cells.lookup x=some c->∃v,s.heap.IsCell c v
 free:H X.env.locals=none
 freeC:∀x c,X.env.cells.lookup x=some c->H c=none
 pin:∀p∈X.pn++HM,s.heap.get? p.1=some p.2/\H p.1=none/\p.1≠X.env.locals/\p.1∉X.fs/\∀v,p.2.data≠.cell v
 hok:HOk X.prog X.w H s.heap
 len:σ.length=X.N.length
section
variable {X:Cx} {HM:List (Addr × Obj)} {σ:List (Option V)} {H H':Hp} {s:Shared} {h':Heap}
def Cx.Ok.nofr(ok:X.Ok)(e:X.base.get? b=some o):b∉X.fs:=fun hb=>by
 have:=(ok.funs.mem hb).1
 rw[e] at this;cases this
def Inv.bs(I:Inv X HM σ H s):∀b o,X.base.get? b=some o->s.heap.get? b=some o/\H b=none:=fun b o e =>
 ⟨I.base.keep b o (I.ok.bs b o e).1 (I.ok.bs b o e).2 (I.ok.nofr e) (I.ok.noex b o e),I.base.free b o (I.ok.bs b o e).1 (I.ok.bs b o e).2 (I.ok.noex b o e)⟩
def Inv.bk(I:Inv X HM σ H s):∀b o,X.base.get? b=some o->s.heap.get? b=some o:=fun b o e=>(I.bs b o e).1
def Inv.mod(I:Inv X HM σ H s):Mod X.K X.mg X.base:=I.ok.mod
def Inv.kIn(I:Inv X HM σ H s):X.K.In s.heap:=I.ok.mod.kin.keeps I.bk
def Inv.lt(I:Inv X HM σ H s):X.env.locals<s.heap.objs.size:=let ⟨_,hn,_⟩:=I.loc;hn.lt
def Inv.sz(I:Inv X HM σ H s):X.s₀.heap.objs.size<=s.heap.objs.size:=qaJ I.ok.above (qbJ I.lt)
def Inv.nofs(I:Inv X HM σ H s){a:Addr}(h:s.heap.objs.size<=a):a∉X.fs:=fun hb=>by
 obtain⟨_,o,ho,_⟩:=I.ok.funs.mem hb;exact absurd (qaz (qal ho) (qaJ I.sz h)) (qbc _)
def Inv.cne(I:Inv X HM σ H s):∀x c,X.env.cells.lookup x=some c->c≠X.env.locals:=fun x c e z=>by
 obtain⟨v,o,ho,hd⟩:=I.cell x c e;obtain⟨m,⟨o',es,ep,ho',hd',_⟩,_⟩:=I.loc;rw[z,ho'] at ho;cases ho;rw[hd'] at hd;cases hd
def Inv.funs(I:Inv X HM σ H s):s.heap.FunFrames X.base X.outer:=by
 have all:∀(l:List Env),(∀b∈frs l,b∈X.fs)->X.s₀.heap.FunFrames X.base l->s.heap.FunFrames X.base l:=by
  intro l
  induction l with
  | nil=>intro _ _;trivial
  | cons env r ih =>
   intro hs hl;obtain⟨hk,⟨L,o,hf,hn,ho,hd⟩,hr⟩:=hl;have hL:L∈X.fs:=hs L (by unfold frs;rw[qbX,hf];exact qax);obtain⟨sl,e⟩:=I.base.slot L o ho (I.ok.frf L hL) hL fun z=>I.ok.exfs L z hL;exact⟨hk,⟨L,_,hf,hn,e,hd⟩,ih (fun b hb=>hs b (by unfold frs;rw[qbX,hf];exact qae _ hb)) hr⟩
 exact all X.outer (fun _ hb=>hb) I.ok.funs
def Inv.stack(I:Inv X HM σ H s):s.heap.FunFrames X.base X.stack:=by
 rcases I.ok.stk with e|⟨e,hf⟩
 ·rw[e];exact I.funs
 ·rw[e];obtain⟨m,hn,_⟩:=I.loc;refine .cons (by rw[I.ok.kind];decide) hf hn ?_ I.funs;exact Heap.get?_none_of_le (qaJ I.ok.bsz I.ok.above)
def Inv.stkSub(I:Inv X HM σ H s):∀b∈frs X.stack,b∈X.env.locals::X.fs:=fun b hb=>by
 rcases I.ok.stk with e|⟨e,hf⟩
 ·rw[e] at hb;exact qae _ hb
 ·rw[e] at hb;unfold frs at hb;rw[qbX,hf] at hb;exact hb
def Inv.stkFree(I:Inv X HM σ H s):∀b∈frs X.stack,H b=none:=fun b hb=>by
 rcases qak.mp (I.stkSub b hb) with e|hb
 ·rw[e];exact I.free
 ·obtain⟨_,o,ho,_⟩:=I.ok.funs.mem hb;exact I.base.free b o ho (I.ok.frf b hb) fun z=>I.ok.exfs b z hb
def Inv.step{g':Array GenState}{t':Nat}{d':Drawn}{ch:List Addr}(I:Inv X HM σ H s)
  (hch:∀b∈ch,(b∈X.ex\/X.s₀.heap.objs.size<=b)/\b≠X.env.locals/\(∀x c,X.env.cells.lookup x=some c->c≠b)/\∀p∈X.pn++HM,p.1≠b)
  (keep:∀b o,b≠X.env.locals->b∉X.fs->b∉ch->s.heap.get? b=some o->H b=none->h'.get? b=some o)
  (slot:∀b o,b≠X.env.locals->b∈X.fs->b∉ch->s.heap.get? b=some o->H b=none->∃sl,h'.get? b=some { o with slots:=sl}) (free:∀b o,b∉ch->s.heap.get? b=some o->H b=none->H' b=none)
  (there:∀b o,b∉ch->s.heap.get? b=some o->∃o',h'.get? b=some o')
  (tups:∀b xs,H b=some (.tup xs)->H' b=some (.tup xs)) (frzs:∀b o u,H b=some (.frz o u)->H' b=some (.frz o u)) (tbls:∀b ps,H b=some (.tbl ps)->∃more,H' b=some (.tbl (ps++more)))
  (ns:∀m,s.heap.Ns X.env.locals m->h'.Ns X.env.locals m) (hok:HOk X.prog X.w H' h') (hg:AllBare g') :
  Inv X HM σ H' { s with heap:=h',gens:=g',drawn:=d',toks:=t'}:=by
 have neL:∀b o,X.s₀.heap.get? b=some o->b≠X.env.locals:=fun b o e=>qaF (qaz (qal e) I.ok.above);have neC:∀b o,X.s₀.heap.get? b=some o->b∉X.ex->b∉ch:=fun b o e hx hb=>by
  rcases (hch b hb).1 with z|z
  ·exact hx z
  ·exact absurd (qaz (qal e) z) (qbc _)
 have cellK:∀x c,X.env.cells.lookup x=some c->∀v,s.heap.IsCell c v->h'.IsCell c v:=fun x c e v ⟨o,ho,hd⟩=>by
  have nch:c∉ch:=fun z=>(hch c z).2.2.1 x c e rfl;by_cases hc:c∈X.fs
  ·obtain⟨sl,q⟩:=slot c o (I.cne x c e) hc nch ho (I.freeC x c e);exact⟨_,q,hd⟩
  ·exact⟨o,keep c o (I.cne x c e) hc nch ho (I.freeC x c e),hd⟩
 refine⟨I.ok,I.os,hg,⟨fun b o e n hb hx=>?_,fun b o e n hb hx=>?_,fun b o e n hx=>?_,fun b o e hx=>?_,fun b xs e=>tups b xs (I.base.tups b xs e),fun b o xs e=>frzs b o xs (I.base.frzs b o xs e),fun b ps e=>?_⟩,?_,fun x c e=>?_,?_,fun x c e=>?_,fun p hp=>?_,hok,I.len⟩
 ·exact keep b o (neL b o e) hb (neC b o e hx) (I.base.keep b o e n hb hx) (I.base.free b o e n hx)
 ·obtain⟨sl,e1⟩:=I.base.slot b o e n hb hx;obtain⟨sl',e2⟩:=slot b _ (neL b o e) hb (neC b o e hx) e1 (I.base.free b o e n hx);exact⟨sl',e2⟩
 ·obtain⟨o',e1⟩:=I.base.there b o e hx;exact free b o' (neC b o e hx) e1 (I.base.free b o e n hx)
 ·obtain⟨o',e1⟩:=I.base.there b o e hx;exact there b o' (neC b o e hx) e1
 ·obtain⟨m1,e1⟩:=I.base.tbls b ps e;obtain⟨m2,e2⟩:=tbls b _ e1;exact⟨m1++m2,by rw[e2,Array.append_assoc]⟩
 ·obtain⟨m,hn,hl⟩:=I.loc;refine⟨m,ns m hn,fun i x v e1 e2 e3=>?_⟩;obtain⟨u,r,l⟩:=hl i x v e1 e2 e3;refine⟨u,r,?_⟩;rcases l with l|⟨k,c,e,z⟩
  ·exact .inl l
  ·exact .inr ⟨k,c,e,cellK x c e _ z⟩
 ·obtain⟨v,z⟩:=I.cell x c e;exact⟨v,cellK x c e v z⟩
 ·obtain⟨m,⟨o,_,_,ho,_⟩,_⟩:=I.loc;exact free _ o (fun z=>(hch _ z).2.1 rfl) ho I.free
 ·obtain⟨v,o,ho,hd⟩:=I.cell x c e;exact free c o (fun z=>(hch c z).2.2.1 x c e rfl) ho (I.freeC x c e)
 ·obtain⟨e,n,ne,nf,d⟩:=I.pin p hp;have nch:p.1∉ch:=fun z=>(hch p.1 z).2.2.2 p hp rfl;exact⟨keep p.1 p.2 ne nf nch e n,free p.1 p.2 nch e n,ne,nf,d⟩
def Inv.un{t':Nat}(I:Inv X HM σ H s)(u:Un X.fs [] H H' s.heap h')(hok:HOk X.prog X.w H' h'):Inv X HM σ H' { s with heap:=h',toks:=t'}:=by
 obtain⟨m,⟨o,es,ep,ho,r⟩,_⟩:=id I.loc;obtain⟨sl,hL⟩:=u.any ho I.free (by simp)
 exact I.step (g':=s.gens) (d':=s.drawn) (ch:=[]) (fun _ z=>nomatch z) (fun b o _ hb _ e n=>u.keep b o e n hb (by simp)) (fun b o _ hb _ e n=>u.slot b o e n hb (by simp)) (fun b o _ e n=>u.free b o e n (by simp)) (fun b o _ e=>u.there b o e (by simp)) u.tups u.frzs u.tbls (fun m' hm=>by
  obtain⟨o',es',ep',ho',r'⟩:=hm;rw[ho] at ho';cases ho'
  exact⟨_,es',ep',hL,r'⟩) hok I.bare
def Inv.call{g':Array GenState}{t':Nat}{d':Drawn}{ch:List Addr}(I:Inv X HM σ H s)(u:Un (frs X.stack) ch H H' s.heap h')(hok:HOk X.prog X.w H' h')(hg:AllBare g')
  (hch:∀b∈ch,(b∈X.ex\/X.s₀.heap.objs.size<=b)/\b≠X.env.locals/\(∀x c,X.env.cells.lookup x=some c->c≠b)/\∀p∈X.pn++HM,p.1≠b) :
  Inv X HM σ H' { s with heap:=h',gens:=g',drawn:=d',toks:=t'}:=by
 obtain⟨m,⟨o,es,ep,ho,r⟩,_⟩:=id I.loc;obtain⟨sl,hL⟩:=u.any ho I.free fun z=>(hch _ z).2.1 rfl
 exact I.step (ch:=ch) hch (fun b o hL hb hc e n=>u.keep b o e n (fun z=>(qak.mp (I.stkSub b z)).elim hL hb) hc) (fun b o _ _ hc e n=>u.any e n hc) (fun b o hc e n=>u.free b o e n hc) (fun b o hc e=>u.there b o e hc) u.tups u.frzs u.tbls (fun m' hm=>by
  obtain⟨o',es',ep',ho',r'⟩:=hm;rw[ho] at ho';cases ho'
  exact⟨_,es',ep',hL,r'⟩) hok hg
def Inv.turned{t':Nat}{it:Addr}(I:Inv X HM σ H s)(k:∀b o,b≠it->s.heap.get? b=some o->h'.get? b=some o)(hn:H it=none)(hL:it≠X.env.locals)
  (h1:it∈X.ex\/X.s₀.heap.objs.size<=it) (h2:∀x c,X.env.cells.lookup x=some c->c≠it) (h3:∀p∈X.pn++HM,p.1≠it):Inv X HM σ H { s with heap:=h',toks:=t'}:=by
 have nit:∀b u,H b=some u->b≠it:=fun b u e z=>by rw[z,hn] at e;cases e
 refine I.step (g':=s.gens) (d':=s.drawn) (ch:=[it]) (fun b hb=>?_) (fun b o _ _ hc e _=>k b o (fun z=>hc (by simp[z])) e) (fun b o _ _ hc e _=>⟨o.slots,k b o (fun z=>hc (by simp[z])) e⟩) (fun _ _ _ _ n=>n)
  (fun b o hc e=>⟨o,k b o (fun z=>hc (by simp[z])) e⟩) (fun _ _ e=>e) (fun _ _ _ e=>e) (fun b ps e=>⟨#[],by rw[e];simp⟩) (fun m hm=>?_) (fun b u e=>?_) I.bare
 ·have e:b=it:=by simpa using hb
  subst e;exact⟨h1,hL,h2,h3⟩
 ·obtain⟨o,es,ep,ho,r⟩:=hm;exact⟨o,es,ep,k _ o (Ne.symm hL) ho,r⟩
 ·refine (I.hok b u e).stay (fun c v hc q=>k c v ?_ q) (fun _ q=>q) fun _ _ q=>q;rcases hc with z|z
  ·rw[z];exact nit b u e
  ·exact nit c _ z
def Inv.tok(I:Inv X HM σ H s)(t:Nat):Inv X HM σ H { s with toks:=t}:=I.un (h':=s.heap) (t':=t) Un.refl I.hok
def Inv.kept(I:Inv X HM σ H s)(k:∀b u,s.heap.get? b=some u->h'.get? b=some u):Inv X HM σ H { s with heap:=h',toks:=t'}:=I.un (Un.kept k) (I.hok.kept k)
def Inv.laid{a:Addr}{o:HO}{t':Nat}(I:Inv X HM σ H s)(k:∀b u,s.heap.get? b=some u->h'.get? b=some u)(hp:s.heap.objs.size<=a)(new:ObjOk X.prog X.w (upd H a o) h' a o) :
  Inv X HM σ (upd H a o) { s with heap:=h',toks:=t'}:=I.un (Un.laid k hp (I.hok.fresh hp)) (I.hok.laid k hp new)
def Inv.write(I:Inv X HM σ H s)(mu:Mut (H x))(he:e=x\/H e=some (.own x))(k:∀b u,b≠e->s.heap.get? b=some u->h'.get? b=some u)(heo:∃u,h'.get? e=some u)
  (new:ObjOk X.prog X.w (upd H x o) h' x o):Inv X HM σ (upd H x o) { s with heap:=h',toks:=t'}:=I.un (Un.write mu he k heo) (I.hok.write mu he k heo new)
def Inv.pins_of(I:Inv X HM σ H s)(h:∀p∈pins',s.heap.get? p.1=some p.2/\H p.1=none/\p.1≠X.env.locals/\p.1∉X.fs/\∀v,p.2.data≠.cell v):Inv X pins' σ H s :=
 ⟨I.ok,I.os,I.bare,I.base,I.loc,I.cell,I.free,I.freeC,fun p hp=>(qay.mp hp).elim (fun z=>I.pin p (qaG _ z)) (h p),I.hok,I.len⟩
def rc{N:List Str}(hN:N.Nodup){i j:Nat}{x:Str}(a:N[i]?=some x)(b:N[j]?=some x):i=j:=by
 obtain⟨h1,e1⟩:=qad.mp a;obtain⟨h2,e2⟩:=qad.mp b;exact (List.getElem_inj hN).mp (e1.trans e2.symm)
def wZ{M:Model}{A:Around}{E:Value->Shared->Prop}{i:Nat}{x:Str}{v:V}{u:Value}{Q:Unit->Shared->Prop}(I:Inv X HM σ H s)(hN:X.N.Nodup)(hi:X.N[i]?=some x)(hx:Loc X.env.scope x)(r:aF v u)
  (h:∀s',Inv X HM (σ.set i (some v)) H s'->(∃a,Heap.SameBut a s.heap s'.heap/\(a=X.env.locals\/X.env.cells.lookup x=some a))->Q () s') (hf:X.fn x=true\/X.env.scope.names.lookup x=some .local:=by first | exact .inl rfl | exact .inr rfl | assumption):wpAny M A (storeName X.env x u) Q E s:=by
 obtain⟨m,hn,hl⟩:=id I.loc;have hcls:(X.env.scope.kind == .class || (X.env.scope.kind == .module && X.env.locals != X.env.globals))=false:=by rw[I.ok.kind];rfl
 have hiσ:i<σ.length:=by rw[I.len];exact (qad.mp hi).1
 have cne:=I.cne;have tracked:∀{a:Addr} {h':Heap},(∃o,s.heap.get? a=some o/\H a=none)->Heap.SameBut a s.heap h'->HOk X.prog X.w H h':=fun {a h'} ha hs b ob e=>by
  obtain⟨_,_,hfree⟩:=ha;refine (I.hok b ob e).stay (fun c w' hc q=>(hs.2 c ?_).trans q) (fun _ q=>q) fun _ _ q=>q;rintro rfl;rcases hc with rfl|hc
  ·rw[hfree] at e;cases e
  ·rw[hfree] at hc;cases hc
 rcases hx with hk|hk
 ·refine wpAny_storeName_local hk hn (fun h' hn' hs=>?_) hcls;obtain⟨oL,_,_,hoL,_⟩:=id hn;refine h _ ⟨I.ok,I.os,I.bare,⟨fun b o e n hb hx=>?_,fun b o e n hb hx=>?_,I.base.free,fun b o e hx=>?_,I.base.tups,I.base.frzs,I.base.tbls⟩,⟨_,hn',fun j y v' e1 e2 e3=>?_⟩,fun y c e=>?_,I.free,I.freeC,fun p hp=>?_,tracked ⟨oL,hoL,I.free⟩ hs,by simpa using I.len⟩ ⟨_,hs,.inl rfl⟩
  ·exact (hs.2 b (qaF (qaz (qal e) I.ok.above))).trans (I.base.keep b o e n hb hx)
  ·obtain⟨sl,e1⟩:=I.base.slot b o e n hb hx;exact⟨sl,(hs.2 b (qaF (qaz (qal e) I.ok.above))).trans e1⟩
  ·obtain⟨o',e1⟩:=I.base.there b o e hx;exact⟨o',(hs.2 b (qaF (qaz (qal e) I.ok.above))).trans e1⟩
  ·by_cases hj:j=i
   ·subst hj;rw[hi] at e1;cases e1;rw[qaE hiσ] at e2;cases e2;exact⟨u,r,.inl ⟨hk,by simp⟩⟩
   ·rw[qam (Ne.symm hj)] at e2;obtain⟨u',r',q⟩:=hl j y v' e1 e2 e3;refine⟨u',r',?_⟩;rcases q with ⟨k,e⟩|⟨k,c,e,z⟩
    ·refine .inl ⟨k,?_⟩
     have:y≠x:=fun e=>hj (rc hN e1 (e▸hi))
     simp[this,e]
    ·exact .inr ⟨k,c,e,z.sameBut hs (cne y c e)⟩
  ·obtain⟨w',z⟩:=I.cell y c e;exact⟨w',z.sameBut hs (cne y c e)⟩
  ·obtain⟨e,n,ne,nf,d⟩:=I.pin p hp;exact⟨(hs.2 p.1 ne).trans e,n,ne,nf,d⟩
 ·have hfn:X.fn x=true:=by
   rcases hf with z|z
   ·exact z
   ·rw[z] at hk;cases hk
  obtain⟨c,hc⟩:=I.ok.has x (.inl hk);obtain⟨w',z⟩:=I.cell x c hc;refine wpAny_storeName_cell I.ok.kind hk hc z (fun h' hc' hs=>?_);obtain⟨oc,hoc,hocd⟩:=id z;refine h { s with heap:=h'} ⟨I.ok,I.os,I.bare,⟨fun b o e n hb hx=>?_,fun b o e n hb hx=>?_,I.base.free,fun b o e hx=>?_,I.base.tups,I.base.frzs,I.base.tbls⟩,⟨m,hn.sameBut hs (Ne.symm (cne x c hc)),fun j y v' e1 e2 e3=>?_⟩,fun y c' e=>?_,I.free,I.freeC,fun p hp=>?_,tracked ⟨oc,hoc,I.freeC x c hc⟩ hs,by simpa using I.len⟩ ⟨c,hs,.inr hc⟩
  ·exact (hs.2 b (qaF (qaz (qal e) (I.ok.cab x c hfn hc)))).trans (I.base.keep b o e n hb hx)
  ·obtain⟨sl,e1⟩:=I.base.slot b o e n hb hx;exact⟨sl,(hs.2 b (qaF (qaz (qal e) (I.ok.cab x c hfn hc)))).trans e1⟩
  ·obtain⟨o',e1⟩:=I.base.there b o e hx;exact⟨o',(hs.2 b (qaF (qaz (qal e) (I.ok.cab x c hfn hc)))).trans e1⟩
  ·by_cases hj:j=i
   ·subst hj;rw[hi] at e1;cases e1;rw[qaE hiσ] at e2;cases e2;exact⟨u,r,.inr ⟨.inl hk,c,hc,hc'⟩⟩
   ·rw[qam (Ne.symm hj)] at e2;obtain⟨u',r',q⟩:=hl j y v' e1 e2 e3;refine⟨u',r',?_⟩;rcases q with q|⟨k,c',e,z'⟩
    ·exact .inl q
    ·refine .inr ⟨k,c',e,z'.sameBut hs ?_⟩;rintro rfl;exact hj (rc hN e1 (I.ok.inj _ _ _ e hc▸hi))
  ·by_cases hcc:c'=c
   ·subst hcc;exact⟨_,hc'⟩
   ·obtain⟨w2,z2⟩:=I.cell y c' e;exact⟨w2,z2.sameBut hs hcc⟩
  ·obtain⟨e,n,ne,nf,d⟩:=I.pin p hp;refine⟨(hs.2 p.1 ?_).trans e,n,ne,nf,d⟩;intro q;rw[q,hoc] at e;have q':oc=p.2:=Option.some.inj e;exact d w' (by rw[<-q'];exact hocd)
def jo(I:Inv X HM σ H s)(hN:X.N.Nodup)(hi:X.N[i]?=some x)(hx:Loc X.env.scope x)(r:aF v u)
  (h:∀s',Inv X HM (σ.set i (some v)) H s'->Q () s') (hf:X.fn x=true\/X.env.scope.names.lookup x=some .local:=by first | exact .inl rfl | exact .inr rfl | assumption):wpAny M A (storeName X.env x u) Q E s :=
 wZ I hN hi hx r (fun s' I' _=>h s' I') hf
def Inv.call'(I:Inv X HM σ H s)(ho:s'.os=s.os)(u:Un (frs X.stack) ch H H' s.heap s'.heap)(hok:HOk X.prog X.w H' s'.heap)(hg:AllBare s'.gens)
  (hch:∀b∈ch,(b∈X.ex\/X.s₀.heap.objs.size<=b)/\b≠X.env.locals/\(∀x c,X.env.cells.lookup x=some c->c≠b)/\∀p∈X.pn++HM,p.1≠b):Inv X HM σ H' s':=by
 obtain⟨h',g',d',t',o'⟩:=s';have e:o'=s.os:=ho;subst e;exact I.call (g':=g') (t':=t') (d':=d') u hok hg hch
end
abbrev XK:=Value->Option Addr->Hp->Prop
abbrev St:=List (Option V)
abbrev VK:=V->Hp->Prop
abbrev TE:=St->Hp->VK->Prop
abbrev TT:=St->Hp->(Bool->Hp->Prop)->Prop
abbrev TA:=St->Hp->(List V->Hp->Prop)->Prop
structure Ends where
 nx:St->Hp->Prop
 rt:VK
 bk:St->Hp->Prop:=fun _ _=>False
 ct:St->Hp->Prop:=fun _ _=>False
abbrev TS:=Ends->St->Hp->Prop
inductive EP (X:Cx) (HM:List (Addr × Obj)) (σ:St) (Q:VK) (u:Value) (s':Shared):Prop
 | mk (v:V) (H':Hp) (i:Inv X HM σ H' s') (r:aF v u) (q:Q v H'):EP X HM σ Q u s'
inductive TP (X:Cx) (HM:List (Addr × Obj)) (σ:St) (Q:Bool->Hp->Prop) (b:Bool) (s':Shared):Prop
 | mk (H':Hp) (i:Inv X HM σ H' s') (q:Q b H'):TP X HM σ Q b s'
inductive AP (X:Cx) (HM:List (Addr × Obj)) (σ:St) (Q:List V->Hp->Prop) (us:List Value) (s':Shared):Prop
 | mk (vs:List V) (H':Hp) (i:Inv X HM σ H' s') (r:ar vs us) (q:Q vs H'):AP X HM σ Q us s'
inductive SN (X:Cx) (HM:List (Addr × Obj)) (Q:St->Hp->Prop) (s':Shared):Prop
 | mk (σ':St) (H':Hp) (i:Inv X HM σ' H' s') (q:Q σ' H'):SN X HM Q s'
inductive SR (X:Cx) (HM:List (Addr × Obj)) (Q:VK) (u:Value) (s':Shared):Prop
 | mk (v:V) (σ':St) (H':Hp) (i:Inv X HM σ' H' s') (r:aF v u) (q:Q v H'):SR X HM Q u s'
def SP(X:Cx)(HM:List (Addr × Obj))(D:Ends)(f:Flow)(s':Shared):Prop :=
 match f with
 | .next=>SN X HM D.nx s'
 | .brk=>SN X HM D.bk s'
 | .cont=>SN X HM D.ct s'
 | .ret u=>SR X HM D.rt u s'
def PE(X:Cx)(e:Expr)(t:TE):Prop :=
 ∀(HM:List (Addr × Obj)) (s:Shared) (σ:St) (H:Hp) (Q:VK),Inv X HM σ H s->t σ H Q->wpAny (model X.prog X.w) X.A (eval e X.env) (EP X HM σ Q) X.xe s
def PT(X:Cx)(e:Expr)(t:TT):Prop :=
 ∀(HM:List (Addr × Obj)) (s:Shared) (σ:St) (H:Hp) (Q:Bool->Hp->Prop),Inv X HM σ H s->t σ H Q->wpAny (model X.prog X.w) X.A (isTrue e X.env (eval e X.env)) (TP X HM σ Q) X.xe s
def PW(X:Cx)(e:Expr)(t:TT):Prop :=
 ∀(whole:Sem Value) (HM:List (Addr × Obj)) (s:Shared) (σ:St) (H:Hp) (Q:Bool->Hp->Prop),Inv X HM σ H s->t σ H Q->wpAny (model X.prog X.w) X.A (isTrue e X.env whole) (TP X HM σ Q) X.xe s
def PW.pt(h:PW X e t):PT X e t:=h _
def PA(X:Cx)(es:List Expr)(t:TA):Prop :=
 ∀(pos:Pos) (HM:List (Addr × Obj)) (s:Shared) (σ:St) (H:Hp) (Q:List V->Hp->Prop),Inv X HM σ H s->t σ H Q->wpAny (model X.prog X.w) X.A (spliced (backTo pos (starEach es X.env))) (AP X HM σ Q) X.xe s
def PS(X:Cx)(st:Stmt)(t:TS):Prop :=
 ∀(HM:List (Addr × Obj)) (s:Shared) (σ:St) (H:Hp) (D:Ends),Inv X HM σ H s->t D σ H->wpAny (model X.prog X.w) X.A (exec st X.env) (SP X HM D) X.xe s
def PSs(X:Cx)(st:List Stmt)(t:TS):Prop :=
 ∀(HM:List (Addr × Obj)) (s:Shared) (σ:St) (H:Hp) (D:Ends),Inv X HM σ H s->t D σ H->wpAny (model X.prog X.w) X.A (execs st X.env) (SP X HM D) X.xe s
def thn(h:wpAny M A t Q E s)(hQ:∀a s,Q a s->Q' a s):wpAny M A t Q' E s:=wpAny_mono h hQ fun _ _ x=>x
section
variable {X:Cx}
def tVar(i:Nat):TE:=fun σ H Q=>∃v,σ[i]?=some (some v)/\Q v H
def tC(v:V):TE:=fun _ H Q=>Q v H
def pe_var{i:Nat}{x:Str}{pos:Pos}(hN:X.N[i]?=some x)(hv:Vis X.env.scope x)(hd:(x == ("__debug__":Str))=false:=by decide)(hcd:(x == ("__classdict__":Str))=false:=by decide):PE X (.Name x pos) (tVar i):=by
 intro HM s σ H Q I h;obtain⟨v,e,h⟩:=h;obtain⟨m,hn,hl⟩:=I.loc;obtain⟨u,r,l⟩:=hl i x v hN e hv;have fin:EP X HM σ Q u s:=⟨v,H,I,r,h⟩;rcases l with ⟨hk,hm⟩|⟨hk,c,hc,hcell⟩
 ·exact wpAny_Name (wpAny_loadName_local I.ok.kind hk hn hm fin) hd
 ·rcases hk with hk|hk
  ·exact wpAny_Name (wpAny_loadName_cell I.ok.kind hk hc hcell fin) hd
  ·exact wpAny_Name (wpAny_loadName_free I.ok.kind hk hc hcell fin hcd) hd
def pe_int{i j pos}:PE X (.Constant (.int i) j pos) (tC (.int i)):=fun _ _ _ H _ I h=>wpAny_Constant_int ⟨.int i,H,I.tok _,⟨_,rfl⟩,h⟩
def pe_bl{b j pos}:PE X (.Constant (.bool b) j pos) (tC (.bl b)):=fun _ _ _ H _ I h=>Constant_bool ⟨.bl b,H,I,rfl,h⟩
def pe_non{j pos}:PE X (.Constant .none j pos) (tC .non):=fun _ _ _ H _ I h=>Constant_none ⟨.non,H,I,rfl,h⟩
def pe_str{x j pos}:PE X (.Constant (.str x) j pos) (tC (.str x)):=fun _ _ _ H _ I h=>Calls.Constant_str ⟨.str x,H,I.tok _,⟨_,rfl⟩,h⟩
def Gl(X:Cx)(x:Str):Prop:=X.env.kindOf x=some .globalImplicit
def o4{E:Value->Shared->Prop}{HM:List (Addr × Obj)}{s:Shared}{σ:St}{H:Hp}{x:Str}{u:Value}{pos:Pos}{Q:Value->Shared->Prop}(I:Inv X HM σ H s)(hg:Gl X x)(hm:X.mg x=some u)(h:Q u s)
  (hd:(x == ("__debug__":Str))=false:=by decide):wpAny (model X.prog X.w) X.A (eval (.Name x pos) X.env) Q E s :=
 Calls.Name_function_global I.ok.kind hg (Calls.loadGlobal_global (by rw[I.ok.glob];exact I.mod.glob.keeps I.bk) hm h) hd
def iD{E:Value->Shared->Prop}{HM:List (Addr × Obj)}{s:Shared}{σ:St}{H:Hp}{x:Str}{u:Value}{pos:Pos}{Q:Value->Shared->Prop}(I:Inv X HM σ H s)(hg:Gl X x)(hm:X.mg x=none)(hv:bootBuiltins x=some u)(h:Q u s)
  (hn:x≠"__name__":=by decide) (hd:(x == ("__debug__":Str))=false:=by decide):wpAny (model X.prog X.w) X.A (eval (.Name x pos) X.env) Q E s:=by
 obtain⟨mb,h1,h2⟩:=I.mod.blt;exact Calls.Name_function_global I.ok.kind hg (Calls.loadGlobal_builtin (by rw[I.ok.glob];exact I.mod.glob.keeps I.bk) hm (by rw[I.ok.blt];exact h1.keeps I.bk) ((h2 x hn).trans hv) h) hd
def uC(hg:Gl X x)(hm:X.mg x=some u)(r:aF v u)(hd:(x == ("__debug__":Str))=false:=by decide):PE X (.Name x pos) (tC v) :=
 fun _ _ _ H _ I h=>o4 I hg hm ⟨v,H,I,r,h⟩ hd
def pe{x:Str}{v:V}{u:Value}{pos:Pos}(hg:Gl X x)(hm:X.mg x=none)(hv:bootBuiltins x=some u)(r:aF v u)(hn:x≠"__name__":=by decide)(hd:(x == ("__debug__":Str))=false:=by decide):PE X (.Name x pos) (tC v) :=
 fun _ _ _ H _ I h=>iD I hg hm hv ⟨v,H,I,r,h⟩ hn hd
variable {a b:Expr} {ta tb:TE} {pos:Pos}
def tB(t:TE):TT:=fun σ H Q=>t σ H fun x H1=>∃c,x=.bl c/\Q c H1
def pt_val(h:PE X e t)(he:∀whole,isTrue e X.env whole=(do let v <-whole;standAt e.pos;holding [v] (truthy v)):=by intro _;rfl):PT X e (tB t):=by
 intro HM s σ H Q I hw;refine isTrue_plain (thn (h HM s σ H _ I hw) fun v s1 ⟨x,H1,I1,r1,q1⟩=>?_) (he _);obtain⟨d,rfl,q⟩:=q1;cases r1;exact wpAny_truthy_bool ⟨H1,I1,q⟩
variable {tA tB':TT} {rest:List Expr}
def tAnd(t u:TT):TT:=fun σ H Q=>t σ H fun c H1=>if c=true then u σ H1 Q else Q false H1
def tOr(t u:TT):TT:=fun σ H Q=>t σ H fun c H1=>if c=true then Q true H1 else u σ H1 Q
def tNot(t:TT):TT:=fun σ H Q=>t σ H fun c H1=>Q (!c) H1
def pw_and1(ha:PT X a tA):PW X (.BoolOp .And [a] pos) tA:=by
 intro wh HM s σ H Q I h;refine isTrue_and (thn (ha HM s σ H Q I h) fun c s1 e=>?_)
 cases c with
 | true=>exact isTrue_and_nil e
 | false=>exact e
def pw_or1(ha:PT X a tA):PW X (.BoolOp .Or [a] pos) tA:=by
 intro wh HM s σ H Q I h;refine isTrue_or (thn (ha HM s σ H Q I h) fun c s1 e=>?_)
 cases c with
 | false=>exact isTrue_or_nil e
 | true=>exact e
def pw_and(ha:PT X a tA)(hb:PW X (.BoolOp .And (b::rest) pos) tB'):PW X (.BoolOp .And (a::b::rest) pos) (tAnd tA tB'):=by
 intro wh HM s σ H Q I h;refine isTrue_and (thn (ha HM s σ H _ I h) fun c s1 ⟨H1,I1,q1⟩=>?_)
 cases c with
 | true=>exact hb wh HM s1 σ H1 Q I1 q1
 | false=>exact⟨H1,I1,q1⟩
def pw_or(ha:PT X a tA)(hb:PW X (.BoolOp .Or (b::rest) pos) tB'):PW X (.BoolOp .Or (a::b::rest) pos) (tOr tA tB'):=by
 intro wh HM s σ H Q I h;refine isTrue_or (thn (ha HM s σ H _ I h) fun c s1 ⟨H1,I1,q1⟩=>?_)
 cases c with
 | true=>exact⟨H1,I1,q1⟩
 | false=>exact hb wh HM s1 σ H1 Q I1 q1
def pt_not(ha:PT X a tA):PT X (.UnaryOp .Not a pos) (tNot tA):=by
 intro HM s σ H Q I h;exact isTrue_not (thn (ha HM s σ H (fun c H1=>Q (!c) H1) I h) fun _ _ ⟨H1,I1,q⟩=>⟨H1,I1,q⟩)
def tAndV(ta tb:TE):TE:=fun σ H Q=>ta σ H fun x H1=>∃c,x=.bl c/\if c=true then tb σ H1 Q else Q (.bl false) H1
def tNotV(ta:TE):TE:=fun σ H Q=>ta σ H fun x H1=>∃c,x=.bl c/\Q (.bl (!c)) H1
def pe_one{op}(h:PE X a t):PE X (.BoolOp op [a] pos) t:=fun HM s σ H Q I hw=>BoolOp_one (h HM s σ H Q I hw)
def pe_and(ha:PE X a ta)(hb:PE X (.BoolOp .And (b::rest) pos) tb):PE X (.BoolOp .And (a::b::rest) pos) (tAndV ta tb):=by
 intro HM s σ H Q I h;refine BoolOp_and (thn (ha HM s σ H _ I h) fun v s1 ⟨x,H1,I1,r1,q1⟩=>?_);obtain⟨c,rfl,q1⟩:=q1;cases r1;refine wpAny_truthy_bool ?_
 cases c with
 | true=>exact hb HM s1 σ H1 Q I1 q1
 | false=>exact⟨.bl false,H1,I1,rfl,q1⟩
def pe_not(ha:PE X a ta):PE X (.UnaryOp .Not a pos) (tNotV ta):=by
 intro HM s σ H Q I h;refine UnaryOp_ (thn (ha HM s σ H _ I h) fun v s1 ⟨x,H1,I1,r1,q1⟩=>?_);obtain⟨c,rfl,q1⟩:=q1;cases r1;exact not_of (wpAny_truthy_bool ⟨.bl (!c),H1,I1,rfl,q1⟩)
end
def SqL(K:qac)(H:Hp)(a:Addr)(xs:List V):Prop :=
 Rd H a (.lst xs) \/
  ∃(o:Obj) (its:Array Value) (n:Nat),K.lookup a=some o/\o.cls=.type "list"/\o.dict=none/\o.data=.seq its n/\its.size<=sizeLine/\ar xs its.toList
def SqT(K:qac)(H:Hp)(a:Addr)(xs:List V):Prop :=
 Rd H a (.tup xs) \/
  ∃(o:Obj) (its:Array Value) (n:Nat),K.lookup a=some o/\o.cls=.type "tuple"/\(o.data=.seq its n/\o.dict=none)/\its.size<=sizeLine/\ar xs its.toList
def absV:Value->Option V
 | .none=>some .non
 | .bool b=>some (.bl b)
 | .int i _=>some (.int i)
 | .str x _=>some (.str x)
 | .bytes b _=>some (.byt b)
 | .float b _=>some (.flt b)
 | .ref a=>some (.ref a)
 | .type n=>some (.ty n)
 | _=>none
def aF.abs(r:aF x u):absV u=some x:=by
 cases x with
 | non=>cases r;rfl
 | bl _=>cases r;rfl
 | int _=>obtain⟨t,rfl⟩:=r;rfl
 | str _=>obtain⟨t,rfl⟩:=r;rfl
 | byt _=>obtain⟨t,rfl⟩:=r;rfl
 | flt _=>obtain⟨t,rfl⟩:=r;rfl
 | ref _=>cases r;rfl
 | ty _=>cases r;rfl
def aF.inj(r:aF x u)(q:aF y u):x=y:=Option.some.inj (r.abs.symm.trans q.abs)
def ar.inj(r:ar xs us)(q:ar ys us):xs=ys:=by
 induction r generalizing ys with
 | nil=>cases q;rfl
 | cons r t ih=>cases q with | cons r' t'=>rw[r.inj r',ih t']
section
variable {X:Cx} {HM:List (Addr × Obj)} {σ:St} {H:Hp} {s:Shared} {a:Addr} {xs ys:List V}
def SqL.of{K:qac}(h:H a=some (.lst xs)):SqL K H a xs:=.inl (.inl h)
def SqT.of{K:qac}(h:H a=some (.tup xs)):SqT K H a xs:=.inl (.inl h)
def Inv.list(I:Inv X HM σ H s)(h:SqL X.K H a xs):∃its:List Value,ar xs its/\PlainL s.heap a its.toArray/\xs.length<=sizeLine:=by
 rcases h with h|⟨o,its,n,hk,hc,hd,hs,hz,r⟩
 ·obtain⟨z,its,n,r,e⟩:=h.ok I.hok;exact⟨its,r,⟨_,n,e,rfl,rfl,rfl⟩,z⟩
 ·refine⟨its.toList,r,⟨o,n,I.kIn a o hk,hc,hd,by simpa using hs⟩,?_⟩;have e:=r.length;simp only[qaD] at e;ext
def Inv.tupleN(I:Inv X HM σ H s)(h:SqT X.K H a xs):∃its:List Value,ar xs its/\ij s.heap a its.toArray/\xs.length<=sizeLine:=by
 rcases h with h|⟨o,its,n,hk,hc,hs,hz,r⟩
 ·obtain⟨z,its,r,p⟩:=h.ok I.hok;exact⟨its,r,p,z⟩
 ·refine⟨its.toList,r,⟨o,I.kIn a o hk,hc,⟨n,by simpa using hs.1⟩,hs.2⟩,?_⟩;have e:=r.length;simp only[qaD] at e;ext
def Inv.tuple(I:Inv X HM σ H s)(h:SqT X.K H a xs):∃its:List Value,ar xs its/\IsTup s.heap a its.toArray/\xs.length<=sizeLine :=
 let ⟨its,r,p,z⟩:=I.tupleN h
 ⟨its,r,p.tup,z⟩
def Inv.list_inj(I:Inv X HM σ H s)(h:SqL X.K H a xs)(h':SqL X.K H a ys):xs=ys:=by
 obtain⟨its,r,⟨o,n,e,_,_,d⟩,_⟩:=I.list h;obtain⟨its',r',⟨o',n',e',_,_,d'⟩,_⟩:=I.list h';rw[e] at e';cases e';rw[d] at d';injection d' with d1 _
 have:its=its':=by simpa using congrArg Array.toList d1
 subst this;exact r.inj r'
def Inv.tuple_inj(I:Inv X HM σ H s)(h:SqT X.K H a xs)(h':SqT X.K H a ys):xs=ys:=by
 obtain⟨its,r,⟨o,e,_,n,d⟩,_⟩:=I.tuple h;obtain⟨its',r',⟨o',e',_,n',d'⟩,_⟩:=I.tuple h';rw[e] at e';cases e';rw[d] at d';injection d' with d1 _
 have:its=its':=by simpa using congrArg Array.toList d1
 subst this;exact r.inj r'
end
section
variable {X:Cx} {HM:List (Addr × Obj)} {σ:St} {H:Hp} {s:Shared} {E:Value→Shared→Prop}
end
section
variable {X:Cx} {st:Stmt} {rest:List Stmt} {t u:TS} {e:Expr} {te:TE} {pos:Pos}
def tNext:TS:=fun D σ H=>D.nx σ H
def tSeq(t u:TS):TS:=fun D σ H=>t { D with nx:=u D} σ H
def pss_nil:PSs X [] tNext:=fun _ _ σ H _ I h=>wpAny_execs_nil ⟨σ,H,I,h⟩
def zJ(h1:PS X st t)(h2:PSs X rest u):PSs X (st::rest) (tSeq t u):=by
 intro HM s σ H D I h;refine wpAny_execs_cons (thn (h1 HM s σ H { D with nx:=u D} I h) fun f s1 q=>?_)
 cases f with
 | next =>
  obtain⟨σ',H',I',q⟩:=q;exact h2 HM s1 σ' H' D I' q
 | ret v=>exact q
 | brk=>exact q
 | cont=>exact q
def pss_one(h1:PS X st t):PSs X [st] t:=by
 intro HM s σ H D I h;refine wpAny_execs_cons (thn (h1 HM s σ H D I h) fun f s1 q=>?_)
 cases f with
 | next=>exact wpAny_execs_nil q
 | ret v=>exact q
 | brk=>exact q
 | cont=>exact q
def Inv.quiet{HM:List (Addr × Obj)}{σ:St}{H:Hp}{s:Shared}(I:Inv X HM σ H s):interactive X.env=false:=by simp[interactive,I.ok.kind]
def tDrop(te:TE):TS:=fun D σ H=>te σ H fun _ H1=>D.nx σ H1
def ps_expr(he:PE X e te)(hs:swapsWith e none pos.line X.env=pure false:=by rfl):PS X (.Expr e pos) (tDrop te):=by
 intro HM s σ H D I h;exact wpAny_Expr_any (thn (he HM s σ H _ I h) fun v s1 ⟨x,H1,I1,r1,q1⟩=>⟨σ,H1,I1,q1⟩) I.quiet hs
def tRet(te:TE):TS:=fun D σ H=>te σ H D.rt
def ps_ret(he:PE X e te):PS X (.Return (some e) pos) (tRet te):=by
 intro HM s σ H D I h;exact wpAny_Return_some (thn (he HM s σ H _ I h) fun v s1 ⟨x,H1,I1,r1,q1⟩=>⟨x,σ,H1,I1,r1,q1⟩)
def tIfS(c:TT)(t u:TS):TS:=fun D σ H=>c σ H fun b H1=>if b=true then t D σ H1 else u D σ H1
def ps_if(hc:PT X c tc)(ha:PSs X a t)(hb:PSs X b u):PS X (.If c a b pos) (tIfS tc t u):=by
 intro HM s σ H D I h;refine wpAny_If (thn (hc HM s σ H _ I h) fun d s1 ⟨H1,I1,q1⟩=>?_)
 cases d with
 | true=>exact ha HM s1 σ H1 D I1 q1
 | false=>exact hb HM s1 σ H1 D I1 q1
end
abbrev TG:=V->St->Hp->(St->Hp->Prop)->Prop
abbrev TGs:=List V->St->Hp->(St->Hp->Prop)->Prop
def PG(X:Cx)(target:Expr)(t:TG):Prop :=
 ∀(HM:List (Addr × Obj)) (s:Shared) (σ:St) (H:Hp) (v:V) (u:Value) (Q:St->Hp->Prop),Inv X HM σ H s->aF v u->t v σ H Q ->
  wpAny (model X.prog X.w) X.A (assign target X.env u) (fun _ s'=>SN X HM Q s') X.xe s
def PGs(X:Cx)(ts:List Expr)(t:TGs):Prop :=
 ∀(HM:List (Addr × Obj)) (s:Shared) (σ:St) (H:Hp) (vs:List V) (us:List Value) (Q:St->Hp->Prop),Inv X HM σ H s->ar vs us->t vs σ H Q ->
  wpAny (model X.prog X.w) X.A (assignInOrder ((assignEach ts X.env).map (·.2)) us) (fun _ s'=>SN X HM Q s') X.xe s
abbrev cT:=V->V->V->Hp->(Hp->Prop)->Prop
inductive SE (X:Cx) (HM:List (Addr × Obj)) (σ:St) (Q:Hp->Prop) (s':Shared):Prop
 | mk (H':Hp) (i:Inv X HM σ H' s') (q:Q H'):SE X HM σ Q s'
def PSet(X:Cx)(t:cT):Prop :=
 ∀(HM:List (Addr × Obj)) (s:Shared) (σ:St) (H:Hp) (o i v:V) (ov iv u:Value) (Q:Hp->Prop),Inv X HM σ H s->aF o ov->aF i iv->aF v u->t o i v H Q ->
  wpAny (model X.prog X.w) X.A (setItem ov iv u) (fun _ s'=>SE X HM σ Q s') X.xe s
section
variable {X:Cx} {pos:Pos}
def gName(i:Nat):TG:=fun v σ H Q=>Q (σ.set i (some v)) H
def uR(hN:X.N.Nodup)(hi:X.N[i]?=some x)(hx:Loc X.env.scope x)(hf:X.fn x=true\/X.env.scope.names.lookup x=some .local:=by first | exact .inl rfl | exact .inr rfl | assumption):PG X (.Name x pos) (gName i):=by
 intro HM s σ H v u Q I r h;exact wpAny_assign_Name (jo I hN hi hx r (fun s' I'=>⟨_,H,I',h⟩) hf)
def gNil:TGs:=fun vs σ H Q=>vs=[]/\Q σ H
def gCons(t:TG)(u:TGs):TGs:=fun vs σ H Q=>∃v r,vs=v::r/\t v σ H fun σ' H'=>u r σ' H' Q
def pgs_nil:PGs X [] gNil:=by
 intro HM s σ H vs us Q I r h;obtain⟨e,h⟩:=h;subst e;cases r;exact assignInOrder_nil ⟨σ,H,I,h⟩
def zg(h1:PG X e t)(h2:PGs X es u)
  (hs:(assignEach (e::es) X.env).map (·.2)=assign e X.env::(assignEach es X.env).map (·.2):=by rfl):PGs X (e::es) (gCons t u):=by
 intro HM s σ H vs us Q I r h;obtain⟨v,vr,e1,h⟩:=h;subst e1
 cases r with
 | cons r rr =>
  rw[hs];refine assignInOrder_cons (thn (h1 HM s σ H _ _ _ I r h) fun _ s1 ⟨σ1,H1,I1,q1⟩=>?_);exact h2 HM s1 σ1 H1 _ _ Q I1 rr q1
def gTup(K:qac)(n:Nat)(t:TGs):TG:=fun v σ H Q=>∃a xs,v=.ref a/\SqT K H a xs/\xs.length=n/\t xs σ H Q
def pg_tup{es:List Expr}{k:Nat}{t:TGs}{n:Nat}(hc:X.calm=true)(h:PGs X es t)
  (hn:(assignEach es X.env).length=n:=by rfl) (hst:(assignEach es X.env).findIdx? (·.1)=none:=by rfl):PG X (.Tuple es k pos) (gTup X.K n t):=by
 intro HM s σ H v u Q I r hw;obtain⟨a,xs,e1,hq,hl,hw⟩:=hw;subst e1;cases r;obtain⟨its,rv,ht,hz⟩:=I.tuple hq;refine assign_Tuple_tuple (I.ok.hd hc) ht (by simp[hn,<-hl,rv.length]) hst fun h' hx=>?_;have I1:Inv X HM σ H { s with heap:=h'}:=I.kept (t':=s.toks) fun b o e=>hx b o (qaF (qal e)) e;exact h HM _ σ H xs _ Q I1 (by simpa using rv) hw
def gSub(to ti:TE)(t:cT):TG:=fun v σ H Q=>to σ H fun o H1=>ti σ H1 fun i H2=>t o i v H2 fun H3=>Q σ H3
def pg_sub(ho:PE X o to)(hi:PE X i ti)(hs:PSet X t)
  (ha:∀v,assign (.Subscript o i pos) X.env v=(do
   let ov <-holding [v] (eval o X.env)
   let iv <-holding [v,ov] (eval i X.env)
   standAt pos
   holding [v,ov,iv] (setItem ov iv v)
   release [v,ov,iv] []):=by intro _;rfl):PG X (.Subscript o i pos) (gSub to ti t):=by
 intro HM s σ H v u Q I r h;rw[ha];refine qaa (wpAny_holding (thn (ho HM s σ H _ I h) fun ov s1 ⟨x,H1,I1,r1,q1⟩=>?_));refine qaa (wpAny_holding (thn (hi HM s1 σ H1 _ I1 q1) fun iv s2 ⟨y,H2,I2,r2,q2⟩=>?_));refine qaa (wpAny_standAt (qaa (wpAny_holding (thn (hs HM s2 σ H2 x y v ov iv u _ I2 r1 r2 r q2) fun _ s3 ⟨H3,I3,q3⟩=>?_))));exact wpAny_release ⟨σ,H3,I3,q3⟩
def tAsg(te:TE)(g:TG):TS:=fun D σ H=>te σ H fun x H1=>g x σ H1 D.nx
def ps_asg(he:PE X e te)(hg:PG X tg g)(hs:swapsWithSole [tg] e pos.line X.env=pure false:=by rfl)(hw:swappedStores [tg] e X.env=pure none:=by rfl)
  (h1:(assignEach [tg] X.env).map (·.2)=[assign tg X.env]:=by rfl):PS X (.Assign [tg] e pos) (tAsg te g):=by
 intro HM s σ H D I h;refine wpAny_Assign_stores (thn (he HM s σ H _ I h) fun v s1 ⟨x,H1,I1,r1,q1⟩=>?_) hs hw;rw[h1];exact thn (hg HM s1 σ H1 x v _ I1 r1 q1) fun _ s2 q=>q
def ps_set(hN:X.N.Nodup)(hi:X.N[i]?=some x)(hx:Loc X.env.scope x)(he:PE X e te)(hs:swapsWith e (some (.Name x pos')) pos.line X.env=pure false:=by rfl)(hf:X.fn x=true\/X.env.scope.names.lookup x=some .local:=by first | exact .inl rfl | exact .inr rfl | assumption) :
  PS X (.Assign [.Name x pos'] e pos) (tAsg te (gName i)):=by
 intro HM s σ H D I h;refine wpAny_Assign_Name (thn (he HM s σ H _ I h) fun v s1 ⟨y,H1,I1,r1,q1⟩=>?_) hs;exact jo I1 hN hi hx r1 (fun s2 I2=>⟨_,H1,I2,q1⟩) hf
def tPar(i j:Nat)(ta:TA):TS:=fun D σ H=>ta σ H fun vs H1=>∃v w,vs=[v,w]/\D.nx ((σ.set i (some v)).set j (some w)) H1
def ps_par{kt k2 pt2}(hc:X.calm=true)(hN:X.N.Nodup)(hi:X.N[i]?=some x)(hj:X.N[j]?=some y)(hij:i≠j)
  (hx:X.env.scope.names.lookup x=some .local) (hy:X.env.scope.names.lookup y=some .local) (ha:PA X [a,b] ta)
  (hw:swappedStores [.Tuple [.Name x px,.Name y py] kt pt] (.Tuple [a,b] k2 pt2) X.env=pure (some [x,y]))
  (hs:swapsWithSole [.Tuple [.Name x px,.Name y py] kt pt] (.Tuple [a,b] k2 pt2) pos.line X.env=pure false:=by rfl) :
  PS X (.Assign [.Tuple [.Name x px,.Name y py] kt pt] (.Tuple [a,b] k2 pt2) pos) (tPar i j ta):=by
 intro HM s σ H D I h;rw[exec_Assign_arm];refine qaa (wpAny_standAt ?_);rw[hs];refine qaa (qag ?_);rw[qan (by decide)];refine qaa (Tuple_ (thn (ha _ HM s σ H _ I h) fun us s1 ⟨vs,H1,I1,r1,q1⟩=>?_));obtain⟨v,w,e1,q1⟩:=q1;subst e1;obtain⟨u1,u2,rfl,rv,rw'⟩:∃u1 u2,us=[u1,u2]/\aF v u1/\aF w u2:=by
  cases r1 with
  | cons p q =>
   cases q with
   | cons p' q' =>
    cases q';exact⟨_,_,rfl,p,p'⟩
 refine wpAny_newObj_type ?_ (by show 2<=sizeLine;decide);have I2:Inv X HM σ H1 { s1 with heap:=s1.heap.push { cls:=.type "tuple",data:=.seq [u1,u2].toArray}}:=I1.kept (t':=s1.toks) fun b o e=>qab _ e;rw[hw];refine qaa (qag ?_);show wpAny (model X.prog X.w) X.A (do rule "assign.swapped-stores";let items <-unpackItems (.ref s1.heap.objs.size) 2 none;assignInOrder [fun v=>bindName X.env y v,fun v=>bindName X.env x v] items.reverse;pure Flow.next) _ _ _;refine qaa (wpAny_rule (qaa (unpackItems_tuple (items:=#[u1,u2]) (I.ok.hd hc) (IsTup.new s1.heap _) fun h' hx'=>?_)));have I3:=I2.kept (h':=h') (t':=s1.toks) fun b o e=>hx' b o (qaF (qal e)) e;show wpAny _ _ (assignInOrder [fun v=>bindName X.env y v,fun v=>bindName X.env x v] [u2,u1] >>= fun _=>pure Flow.next) _ _ _;refine qaa (assignInOrder_cons (wpAny_bindName (jo I3 hN hj (.inl hy) rw' (fun s2 I4=>?_) (.inr hy))));refine assignInOrder_cons (wpAny_bindName (jo I4 hN hi (.inl hx) rv (fun s3 I5=>assignInOrder_nil (qag ?_)) (.inr hx)));rw[List.set_comm _ _ (Ne.symm hij)] at I5;exact⟨_,H1,I5,q1⟩
def tWhile(c:TT)(tb:TS):TS:=fun D σ H=>∃W:Nat->St->Hp->Prop,(∃m,W m σ H)/\∀m σ H,W m σ H ->
 c σ H fun b H1=>if b=true then ∃N:St->Hp->Prop,(∀σ' H',N σ' H'->∃m',m'<m/\W m' σ' H')/\tb { D with nx:=N,ct:=N,bk:=D.nx} σ H1 else D.nx σ H1
def yW(hp:PassesOwn (model X.prog X.w) X.A X.env X.xe)(hc:PT X c tc)(hb:PSs X body tb):PS X (.While c body [] pos) (tWhile tc tb):=by
 intro HM s σ H D I h;obtain⟨W,⟨m0,w0⟩,turn⟩:=h;refine wpAny_While (codeAny_whileLoop (fun n s'=>∃σ' H',Inv X HM σ' H' s'/\W n σ' H') ?_ m0 ⟨σ,H,I,w0⟩);rintro n s1 ⟨σ1,H1,I1,w1⟩;refine wpAny_passesOwn hp (thn (hc HM s1 σ1 H1 _ I1 (turn n σ1 H1 w1)) fun b s2 ⟨H2,I2,q2⟩=>?_)
 cases b with
 | true =>
  obtain⟨N,hN,q2⟩:=q2;rw[qah rfl];refine wpAny_passesOwn hp (thn (hb HM s2 σ1 H2 _ I2 q2) fun f s3 q3=>?_)
  cases f with
  | next =>
   obtain⟨σ3,H3,I3,n3⟩:=q3;obtain⟨m',hm,w3⟩:=hN σ3 H3 n3;exact⟨m',hm,σ3,H3,I3,w3⟩
  | cont =>
   obtain⟨σ3,H3,I3,n3⟩:=q3;obtain⟨m',hm,w3⟩:=hN σ3 H3 n3;exact⟨m',hm,σ3,H3,I3,w3⟩
  | brk=>exact q3
  | ret v=>exact q3
 | false =>
  rw[qan qaL];exact wpAny_execs_nil ⟨σ1,H2,I2,q2⟩
end
structure It where
 go:Nat->Hp->Prop
 yld:Nat->Hp->V->Hp->Prop
 stop:Nat->Hp->Prop
def gM(X:Cx)(HM:List (Addr × Obj))(H:Hp)(b:Addr):Prop :=
 H b=none/\b≠X.env.locals/\b∉X.fs/\(b∈X.ex\/X.s₀.heap.objs.size<=b)/\(∀x c,X.env.cells.lookup x=some c->c≠b)/\∀p∈X.pn++HM,p.1≠b
def Inv.fpOk{X:Cx}{HM:List (Addr × Obj)}{σ:St}{H H':Hp}{s:Shared}{b:Addr}(I:Inv X HM σ H s)(hb:s.heap.objs.size<=b)(hn:H' b=none):gM X HM H' b:=by
 refine⟨hn,qaT (qaz I.lt hb),I.nofs hb,.inr (qaJ I.sz hb),fun x c e z=>?_,fun p hp z=>?_⟩
 ·obtain⟨v,q⟩:=I.cell x c e;exact absurd (qaz q.lt (by rw[z];exact hb)) (qbc _)
 ·exact absurd (qaz (qal (I.pin p hp).1) (by rw[z];exact hb)) (qbc _)
inductive TIt (X:Cx) (HM:List (Addr × Obj)) (σ:St) (u:Value) (Y:V->Hp->Prop) (n:Heap->Prop) (fp:List Addr) (s2:Shared):Prop
 | mk (x:V) (H':Hp) (i:Inv X HM σ H' s2) (r:aF x u) (y:Y x H') (t:n s2.heap) (f:∀b∈fp,H' b=none):TIt X HM σ u Y n fp s2
structure Turn (P:Program) (w:World) (K:qac) (tg:Expr) (J:It) (fp:List Addr) (it:Addr) (tn:Nat->Heap->Prop):Prop where
 mem:it∈fp
 obj:∀i h,tn i h->∀b∈fp,∃o,h.get? b=some o/\∀v,o.data≠.cell v
 keep:∀i h h',tn i h->(∀b∈fp,∀o,h.get? b=some o->h'.get? b=some o)->tn i h'
 item:∀(X:Cx),X.prog=P->X.w=w->X.K=K->X.calm=true->∀(i:Nat) (HM:List (Addr × Obj)) (s:Shared) (σ:St) (H:Hp) (E:Value->Shared->Prop),Inv X HM σ H s->(∀b∈fp,gM X HM H b)->tn i s.heap->J.go i H ->
  wpAny (model P w) X.A (pyNext (.ref it)) (fun r s1=>∃u,r=some u /\
   wpAny (model P w) X.A (letOwnedTupleGo tg (.ref it) u) (fun _ s2=>TIt X HM σ u (J.yld i H) (tn (i+1)) fp s2) E s1) E s
 done:∀(X:Cx),X.prog=P->X.w=w->X.K=K->X.calm=true->∀(i:Nat) (HM:List (Addr × Obj)) (s:Shared) (σ:St) (H:Hp) (E:Value->Shared->Prop),Inv X HM σ H s->(∀b∈fp,gM X HM H b)->tn i s.heap->J.stop i H ->
  wpAny (model P w) X.A (pyNext (.ref it)) (fun r s1=>r=none/\Inv X HM σ H s1) E s
 self:∀(A:Around) (i:Nat) (s:Shared) (Q:Value->Shared->Prop) (E:Value->Shared->Prop),tn i s.heap->Q (.ref it) s->wpAny (model P w) A (pyIter (.ref it)) Q E s
abbrev TI:=St->Hp->(It->Hp->Prop)->Prop
inductive PIE (X:Cx) (HM:List (Addr × Obj)) (σ:St) (tg:Expr) (R:It->Hp->Prop) (itv:Value) (s2:Shared):Prop
 | mk (it:Addr) (fp:List Addr) (tn:Nat->Heap->Prop) (J:It) (H':Hp) (e:itv=.ref it) (i:Inv X HM σ H' s2) (t:Turn X.prog X.w X.K tg J fp it tn) (n:tn 0 s2.heap) (f:∀b∈fp,gM X HM H' b) (r:R J H'):PIE X HM σ tg R itv s2
def PI(X:Cx)(tg iter:Expr)(wi:TI):Prop :=
 ∀(HM:List (Addr × Obj)) (s:Shared) (σ:St) (H:Hp) (R:It->Hp->Prop),Inv X HM σ H s->wi σ H R ->
  wpAny (model X.prog X.w) X.A (eval iter X.env) (fun v s1=>wpAny (model X.prog X.w) X.A (pyIter v) (PIE X HM σ tg R) X.xe s1) X.xe s
def wd(ho:s.heap.get? it=some o)(hc:o.cls=.type n)(hd:o.data=.fields vs)
  (hn:["enumerate","zip","dict_itemiterator","dict_reverseitemiterator","odict_iterator","itertools.zip_longest","itertools.pairwise"].contains n=false) (hQ:Q () s):wpAny M A (letOwnedTupleGo tg (.ref it) u) Q E s:=by
 unfold letOwnedTupleGo;cases tg <;> first
  | exact qag hQ
  | (cases u <;> first
    | exact qag hQ
    | (refine qaa (wpAny_load ho ?_)
       rw[hc,hd];show wpAny M A (if (["enumerate","zip","dict_itemiterator","dict_reverseitemiterator","odict_iterator","itertools.zip_longest","itertools.pairwise"].contains n && vs[0]? == some (rawInt _))=true then _ else _) Q E s;rw[qan (by intro h;rw[hn,Bool.false_and] at h;cases h)]
       exact qag hQ))
def Itl(K:qac)(a:Addr):It :=
 ⟨fun i H=>∃xs x,SqL K H a xs/\xs[i]?=some x,fun i H x H'=>H'=H/\∀xs,SqL K H a xs->xs[i]?=some x,fun i H=>∃xs,SqL K H a xs/\xs.length<=i⟩
def Itt(K:qac)(a:Addr):It :=
 ⟨fun i H=>∃xs x,SqT K H a xs/\xs[i]?=some x,fun i H x H'=>H'=H/\∀xs,SqT K H a xs->xs[i]?=some x,fun i H=>∃xs,SqT K H a xs/\xs.length<=i⟩
def Itr(lo:Int)(n:Nat):It:=⟨fun i _=>i<n,fun i H x H'=>H'=H/\x=.int (lo+i),fun i _=>n<=i⟩
def yg{P:Program}{w:World}{K:qac}{tg:Expr}(a it:Addr):Turn P w K tg (Itl K a) [it] it (fun i h=>h.IsListIter it a i) where
 mem:=by simp
 obj:=fun i h st b hb=>by
  have e:b=it:=by simpa using hb
  subst e;obtain⟨o,e,c,d⟩:=st;exact⟨o,e,fun v z=>by rw[d] at z;cases z⟩
 keep:=fun i h h' st k=>st.at fun o e=>k it (by simp) o e
 item:=by
  intro X hP hw hK hc i HM s σ H E I hf st hg;subst hP hw hK;obtain⟨xs,x,hq,hx⟩:=hg;obtain⟨its,rv,p,hz⟩:=I.list hq;obtain⟨u,hu,ru⟩:=rv.get hx;obtain⟨f0,f1,f2,f3,f4,f5⟩:=hf it (by simp);refine wpAny_pyNext_list_item st p.isList (x:=u) (by simpa using hu) fun h' st' sb=>?_;have I1:Inv X HM σ H { s with heap:=h'}:=I.turned (t':=s.toks) (fun b o hb e=>(sb.2 b hb).trans e) f0 f1 f3 f4 f5;obtain⟨o,e,c,d⟩:=id st';exact⟨u,rfl,wd (s:={ s with heap:=h'}) e c d (by decide) ⟨x,H,I1,ru,⟨rfl,fun ys hy=>by rw[I.list_inj hy hq];exact hx⟩,st',fun b hb=>(hf b hb).1⟩⟩
 done:=by
  intro X hP hw hK hc i HM s σ H E I hf st hg;subst hP hw hK;obtain⟨xs,hq,hx⟩:=hg;obtain⟨its,rv,p,hz⟩:=I.list hq;obtain⟨f0,f1,f2,f3,f4,f5⟩:=hf it (by simp);have hl:=rv.length;exact wpAny_pyNext_list_end (I.ok.hd hc) st p.isList (by simp;ext) fun h' eb=>⟨rfl,I.turned (t':=s.toks) (fun b o hb e=>eb b o hb e) f0 f1 f3 f4 f5⟩
 self:=fun _ _ _ _ _ st h=>wpAny_pyIter_listiter st h
def wB{P:Program}{w:World}{K:qac}{tg:Expr}(a it:Addr):Turn P w K tg (Itt K a) [it] it (fun i h=>h.IsTupleIter it a i) where
 mem:=by simp
 obj:=fun i h st b hb=>by
  have e:b=it:=by simpa using hb
  subst e;obtain⟨o,e,c,d⟩:=st;exact⟨o,e,fun v z=>by rw[d] at z;cases z⟩
 keep:=fun i h h' st k=>st.at fun o e=>k it (by simp) o e
 item:=by
  intro X hP hw hK hc i HM s σ H E I hf st hg;subst hP hw hK;obtain⟨xs,x,hq,hx⟩:=hg;obtain⟨its,rv,p,hz⟩:=I.tuple hq;obtain⟨u,hu,ru⟩:=rv.get hx;obtain⟨f0,f1,f2,f3,f4,f5⟩:=hf it (by simp);refine wpAny_pyNext_tuple_item st (show s.heap.IsTuple a its.toArray from p) (x:=u) (by simpa using hu) fun h' st' sb=>?_;have I1:Inv X HM σ H { s with heap:=h'}:=I.turned (t':=s.toks) (fun b o hb e=>(sb.2 b hb).trans e) f0 f1 f3 f4 f5;obtain⟨o,e,c,d⟩:=id st';exact⟨u,rfl,wd (s:={ s with heap:=h'}) e c d (by decide) ⟨x,H,I1,ru,⟨rfl,fun ys hy=>by rw[I.tuple_inj hy hq];exact hx⟩,st',fun b hb=>(hf b hb).1⟩⟩
 done:=by
  intro X hP hw hK hc i HM s σ H E I hf st hg;subst hP hw hK;obtain⟨xs,hq,hx⟩:=hg;obtain⟨its,rv,p,hz⟩:=I.tuple hq;obtain⟨f0,f1,f2,f3,f4,f5⟩:=hf it (by simp);have hl:=rv.length;exact wpAny_pyNext_tuple_end (I.ok.hd hc) st (show s.heap.IsTuple a its.toArray from p) (by simp;ext) fun h' eb=>⟨rfl,I.turned (t':=s.toks) (fun b o hb e=>eb b o hb e) f0 f1 f3 f4 f5⟩
 self:=fun _ _ _ _ _ st h=>wpAny_pyIter_tupleiter st h
def wu{P:Program}{w:World}{K:qac}{tg:Expr}(it:Addr)(lo:Int)(n:Nat):Turn P w K tg (Itr lo n) [it] it (fun i h=>IsRangeIter h it (lo+(i:Nat) * 1) ((n:Int) - (i:Nat)) 1) where
 mem:=by simp
 obj:=fun i h st b hb=>by
  have e:b=it:=by simpa using hb
  subst e
  exact⟨_,st,fun v z=>by
   have z':Data.fields _=Data.cell v:=z
   cases z'⟩
 keep:=fun i h h' st k=>k it (by simp) _ st
 item:=by
  intro X hP hw hK hc i HM s σ H E I hf st hg;subst hP hw hK;obtain⟨f0,f1,f2,f3,f4,f5⟩:=hf it (by simp);have W:=Walks.range (prog:=X.prog) (w:=X.w) (I.ok.hd hc) it lo 1 n;refine W.item i s _ _ hg st fun v h' tk hv st' kk=>?_;obtain⟨t,rfl⟩:=hv;have I1:Inv X HM σ H { s with heap:=h',toks:=tk}:=I.turned (fun b o hb e=>kk b o (by simpa using hb) e) f0 f1 f3 f4 f5;refine⟨_,rfl,wd (s:={ s with heap:=h',toks:=tk}) (n:="range_iterator") st' rfl rfl (by decide) ⟨.int (lo+i),H,I1,⟨t,?_⟩,⟨rfl,rfl⟩,st',fun b hb=>(hf b hb).1⟩⟩;rw[Int.mul_one]
 done:=by
  intro X hP hw hK hc i HM s σ H E I hf st hg;subst hP hw hK;obtain⟨f0,f1,f2,f3,f4,f5⟩:=hf it (by simp);exact wpAny_pyNext_range_end (I.ok.hd hc) st (by have:n<=i:=hg;ext) fun h' eb=>⟨rfl,I.turned (t':=s.toks) (fun b o hb e=>eb b o hb e) f0 f1 f3 f4 f5⟩
 self:=fun _ _ _ _ _ st h=>wpAny_pyIter_rangeiter st h
section
variable {X:Cx} {tg:Expr}
def iList(K:qac)(tl:TE):TI:=fun σ H R=>tl σ H fun x H1=>∃a,x=.ref a/\(∃xs,SqL K H1 a xs)/\R (Itl K a) H1
def iTup(K:qac)(tl:TE):TI:=fun σ H R=>tl σ H fun x H1=>∃a,x=.ref a/\(∃xs,SqT K H1 a xs)/\R (Itt K a) H1
def pi_list{l:Expr}{tl:TE}(hl:PE X l tl):PI X tg l (iList X.K tl):=by
 intro HM s σ H R I h;refine thn (hl HM s σ H _ I h) fun v s1 ⟨x,H1,I1,r1,q1⟩=>?_;obtain⟨a,e,⟨xs,hq⟩,q⟩:=q1;subst e;cases r1;obtain⟨its,rv,p,hz⟩:=I1.list hq;refine wpAny_pyIter_list p.isList ?_;refine⟨s1.heap.objs.size,[s1.heap.objs.size],_,_,H1,rfl,I1.kept (t':=s1.toks) fun b o e=>qab _ e,yg a _,⟨_,qap _ rfl,rfl,rfl⟩,fun b hb=>?_,q⟩;have e:b=s1.heap.objs.size:=by simpa using hb
 subst e;exact I1.fpOk (qai _) (I1.hok.fresh (qai _))
def pi_tup{l:Expr}{tl:TE}(hl:PE X l tl):PI X tg l (iTup X.K tl):=by
 intro HM s σ H R I h;refine thn (hl HM s σ H _ I h) fun v s1 ⟨x,H1,I1,r1,q1⟩=>?_;obtain⟨a,e,⟨xs,hq⟩,q⟩:=q1;subst e;cases r1;obtain⟨its,rv,p,hz⟩:=I1.tuple hq;refine wpAny_pyIter_tuple (show s1.heap.IsTuple a its.toArray from p) ?_;refine⟨s1.heap.objs.size,[s1.heap.objs.size],_,_,H1,rfl,I1.kept (t':=s1.toks) fun b o e=>qab _ e,wB a _,⟨_,qap _ rfl,rfl,rfl⟩,fun b hb=>?_,q⟩;have e:b=s1.heap.objs.size:=by simpa using hb
 subst e;exact I1.fpOk (qai _) (I1.hok.fresh (qai _))
def Ae{HM:List (Addr × Obj)}{σ:St}{H:Hp}{s:Shared}{R:It->Hp->Prop}{E:Value->Shared->Prop}{lo hi:Int}{t u v:Tok}{tk:Nat}(I:Inv X HM σ H s)(h1:-(2 ^ 62)<=lo)(h2:lo<2 ^ 62)(h3:-(2 ^ 62)<=hi)(h4:hi<2 ^ 62)
  (q:R (Itr lo (hi - lo).toNat) H):wpAny (model X.prog X.w) X.A (pyIter (.ref s.heap.objs.size)) (PIE X HM σ tg R) E { s with heap:=s.heap.push { cls:=.type "range",data:=.fields #[.int lo t,.int hi u,.int 1 v]},toks:=tk}:=by
 refine wpAny_pyIter_range (IsRange.new ..) (small_one h1 h2 h3 h4) ?_;have I1:Inv X HM σ H { s with heap:=s.heap.push { cls:=.type "range",data:=.fields #[.int lo t,.int hi u,.int 1 v]},toks:=tk}:=I.kept fun b o e=>qab _ e
 refine⟨(s.heap.push { cls:=.type "range",data:=.fields #[.int lo t,.int hi u,.int 1 v]}).objs.size,[(s.heap.push { cls:=.type "range",data:=.fields #[.int lo t,.int hi u,.int 1 v]}).objs.size],_,_,H,rfl,
  I1.kept (t':=tk) fun b o e=>qab _ e,wu _ lo (hi - lo).toNat,?_,fun b hb=>?_,q⟩
 ·have e1:lo+((0:Nat):Int) * 1=lo:=by simp
  have e2:(((hi - lo).toNat:Nat):Int) - ((0:Nat):Int)=Builtin.Range.rangeSize lo hi 1:=by rw[rangeSize_one];split <;> ext
  show IsRangeIter _ _ (lo+((0:Nat):Int) * 1) ((((hi - lo).toNat:Nat):Int) - ((0:Nat):Int)) 1;rw[e1,e2];exact qap _ rfl
 ·have e:b=(s.heap.push { cls:=.type "range",data:=.fields #[.int lo t,.int hi u,.int 1 v]}).objs.size:=by simpa using hb
  subst e;exact I1.fpOk (qai _) (I1.hok.fresh (qai _))
def iRng1(ta:TA):TI:=fun σ H R=>ta σ H fun vs H1=>∃j:Int,vs=[.int j] /\ -(2 ^ 62)<=j/\j<2 ^ 62/\R (Itr 0 j.toNat) H1
def x9{a:Expr}{ta:TA}{p pos:Pos}(hg:Gl X "range")(hm:X.mg "range"=none)(ha:PA X [a] ta)(hs:starEach [a] X.env=[(false,eval a X.env)]:=by rfl):PI X tg (.Call (.Name "range" p) [a] [] pos) (iRng1 ta):=by
 intro HM s σ H R I h;refine Call_ (iD I hg hm boot_range (PyProof.Rows.callWith_type1 (thn (ha pos HM s σ H _ I h) fun us s1 ⟨vs,H1,I1,r1,q1⟩=>?_) hs rfl));obtain⟨j,e,q1,q2,q⟩:=q1;subst e
 cases r1 with
 | cons r rr =>
  cases rr;obtain⟨t,rfl⟩:=r;exact call_range_1 (Ae I1 (by ext) (by ext) q1 q2 (by simpa using q))
def tFor(wi:TI)(g:TG)(tb:TS):TS:=fun D σ H=>wi σ H fun J H1=>∃W:Nat->Nat->St->Hp->Prop,(∃m,W 0 m σ H1)/\∀i m σ H,W i m σ H ->
 (J.stop i H/\D.nx σ H)\/(J.go i H/\∃N:St->Hp->Prop,(∀σ' H',N σ' H'->∃m',m'<m/\W (i+1) m' σ' H')/\∀x H',J.yld i H x H'->g x σ H' fun σ2 H2=>tb { D with nx:=N,ct:=N,bk:=D.nx} σ2 H2)
def ko(fp:List Addr)(h:Heap):List (Addr × Obj):=fp.filterMap fun b=>(h.get? b).map fun o=>(b,o)
def gq(hb:b∈fp)(e:h.get? b=some o):(b,o)∈ko fp h:=qbZ.mpr ⟨b,hb,by rw[e];rfl⟩
def xc(hp:p∈ko fp h):p.1∈fp/\h.get? p.1=some p.2:=by
 obtain⟨b,hb,e⟩:=qbZ.mp hp
 cases q:h.get? b with
 | none=>rw[q] at e;cases e
 | some o =>
  rw[q] at e;have e':(b,o)=p:=Option.some.inj e;subst e';exact⟨hb,q⟩
def Inv.pinned{HM:List (Addr × Obj)}{σ:St}{H:Hp}{s:Shared}{fp:List Addr}(I:Inv X HM σ H s)(hf:∀b∈fp,gM X HM H b)(ho:∀b∈fp,∃o,s.heap.get? b=some o/\∀v,o.data≠.cell v):Inv X (HM++ko fp s.heap) σ H s :=
 I.pins_of fun p hp=>(qay.mp hp).elim (fun z=>I.pin p (qaj _ z)) fun z=>by
  obtain⟨hb,e⟩:=xc z;obtain⟨f0,f1,f2,_⟩:=hf p.1 hb;obtain⟨o,e',d⟩:=ho p.1 hb;rw[e] at e';cases e';exact⟨e,f0,f1,f2,d⟩
def Inv.unpinned{HM pl:List (Addr × Obj)}{σ:St}{H:Hp}{s:Shared}(I:Inv X (HM++pl) σ H s):Inv X HM σ H s:=I.pins_of fun p hp=>I.pin p (qaj _ (qaG _ hp))
def ps_for(hp:PassesOwn (model X.prog X.w) X.A X.env X.xe)(hc:X.calm=true)(hi:PI X tg iter wi)(hg:PG X tg g)(hb:PSs X body tb)
  (hs:∀x,foldedSetIterable iter X.env x=pure x:=by intro _;rfl):PS X (.For tg iter body [] pos) (tFor wi g tb):=by
 intro HM s σ H D I h;refine wpAny_For (thn (hi HM s σ H _ I h) fun v s1 h1=>thn h1 fun itv s2 h2=>?_) hs;obtain⟨it,fp,tn,J,H2,e,I2,T,st2,f2,W,⟨m0,w0⟩,turn⟩:=h2;subst e;have stat:∀{H':Hp},(∀b∈fp,H' b=none)->∀b∈fp,gM X HM H' b:=fun hn b hb=>⟨hn b hb,(f2 b hb).2⟩;refine codeAny_forLoop_any (fun n s'=>∃i σ' H',Inv X HM σ' H' s'/\tn i s'.heap/\(∀b∈fp,H' b=none)/\W i n σ' H') ?_ m0 ⟨0,σ,H2,I2,st2,fun b hb=>(f2 b hb).1,w0⟩;rintro n s3 ⟨i,σ3,H3,I3,st3,fr3,w3⟩;rcases turn i n σ3 H3 w3 with ⟨stop,qn⟩|⟨go,N,hN,step⟩
 ·refine wpAny_passesOwn hp (thn (T.done X rfl rfl rfl hc i HM s3 σ3 H3 X.xe I3 (stat fr3) st3 stop) fun r s4 ⟨hr,I4⟩=>?_);subst hr;exact wpAny_execs_nil ⟨σ3,H3,I4,qn⟩
 ·refine wpAny_passesOwn hp (thn (T.item X rfl rfl rfl hc i HM s3 σ3 H3 X.xe I3 (stat fr3) st3 go) fun r s4 ⟨u,hr,h4⟩=>?_);subst hr;refine wpAny_passesOwn hp (thn h4 fun _ s5 ⟨x,H5,I5,r5,y5,st5,fr5⟩=>?_);have I5':=I5.pinned (stat fr5) (T.obj _ _ st5);refine wpAny_passesOwn hp (thn (hg _ s5 σ3 H5 x u _ I5' r5 (step x H5 y5)) fun _ s6 ⟨σ6,H6,I6,q6⟩=>?_);refine wpAny_passesOwn hp (thn (hb _ s6 σ6 H6 _ I6 q6) fun f s7 q7=>?_);have again:∀{σ7:St} {H7:Hp},Inv X (HM++ko fp s5.heap) σ7 H7 s7->N σ7 H7->∃m,m<n/\∃i σ' H',Inv X HM σ' H' s7/\tn i s7.heap/\(∀b∈fp,H' b=none)/\W i m σ' H':=fun {σ7 H7} I7 n7=>by
   obtain⟨m',hm,w7⟩:=hN σ7 H7 n7;refine⟨m',hm,i+1,σ7,H7,I7.unpinned,T.keep _ _ _ st5 fun b hb o e=>(I7.pin (b,o) (qaj _ (qaj _ (gq hb e)))).1,fun b hb=>?_,w7⟩;obtain⟨o,e,d⟩:=T.obj _ _ st5 b hb;exact (I7.pin (b,o) (qaj _ (qaj _ (gq hb e)))).2.1
  cases f with
  | next=>obtain⟨σ7,H7,I7,n7⟩:=q7;exact again I7 n7
  | cont=>obtain⟨σ7,H7,I7,n7⟩:=q7;exact again I7 n7
  | brk=>obtain⟨σ7,H7,I7,q7⟩:=q7;exact⟨σ7,H7,I7.unpinned,q7⟩
  | ret v=>obtain⟨x7,σ7,H7,I7,r7,q7⟩:=q7;exact⟨x7,σ7,H7,I7.unpinned,r7,q7⟩
end
abbrev R2:=V->V->Hp->VK->Prop
def OpR(X:Cx)(f:Value->Value->Sem Value)(r:R2):Prop :=
 ∀(HM:List (Addr × Obj)) (s:Shared) (σ:St) (H:Hp) (x y:V) (v u:Value) (Q:VK),Inv X HM σ H s->aF x v->aF y u->r x y H Q ->
  wpAny (model X.prog X.w) X.A (f v u) (EP X HM σ Q) X.xe s
def UnR(X:Cx)(f:Value->Sem Value)(r:V->Hp->VK->Prop):Prop :=
 ∀(HM:List (Addr × Obj)) (s:Shared) (σ:St) (H:Hp) (x:V) (v:Value) (Q:VK),Inv X HM σ H s->aF x v->r x H Q ->
  wpAny (model X.prog X.w) X.A (f v) (EP X HM σ Q) X.xe s
def bQ(X:Cx)(f:Value)(r:List V->Hp->VK->Prop):Prop :=
 ∀(HM:List (Addr × Obj)) (s:Shared) (σ:St) (H:Hp) (xs:List V) (us:List Value) (Q:VK),Inv X HM σ H s->ar xs us->r xs H Q ->
  wpAny (model X.prog X.w) X.A (call f us) (EP X HM σ Q) X.xe s
def tOp(r:R2)(ta tb:TE):TE:=fun σ H Q=>ta σ H fun x H1=>tb σ H1 fun y H2=>r x y H2 Q
def tUn(r:V->Hp->VK->Prop)(ta:TE):TE:=fun σ H Q=>ta σ H fun x H1=>r x H1 Q
def rI(C:Int->Int->Prop)(g:Int->Int->V):R2:=fun x y H Q=>∃i j,x=.int i/\y=.int j/\C i j/\Q (g i j) H
def rI0(g:Int->Int->V):R2:=fun x y H Q=>∃i j,x=.int i/\y=.int j/\Q (g i j) H
def rU(g:Int->V):V->Hp->VK->Prop:=fun x H Q=>∃i,x=.int i/\Q (g i) H
section
variable {X:Cx} {a b c:Expr} {ta tb tc:TE} {pos:Pos}
def binT(ha:PE X a ta)(hb:PE X b tb){HM:List (Addr × Obj)}{s:Shared}{σ:St}{H:Hp}{R:V->V->Hp->Prop}(I:Inv X HM σ H s)
  (h:ta σ H fun x H1=>tb σ H1 fun y H2=>R x y H2) {Q:Value->Shared->Prop} {f:Value->Value->Sem Value}
  (hf:∀v u s2 x y H2,Inv X HM σ H2 s2->aF x v->aF y u->R x y H2->wpAny (model X.prog X.w) X.A (f v u) Q X.xe s2) :
  wpAny (model X.prog X.w) X.A (eval a X.env) (fun v s₁=>wpAny (model X.prog X.w) X.A (eval b X.env) (fun u s₂=>wpAny (model X.prog X.w) X.A (f v u) Q X.xe s₂) X.xe s₁) X.xe s:=by
 refine thn (ha HM s σ H _ I h) fun v s1 ⟨x,H1,I1,r1,q1⟩=>?_;refine thn (hb HM s1 σ H1 _ I1 q1) fun u s2 ⟨y,H2,I2,r2,q2⟩=>?_;exact hf v u s2 x y H2 I2 r1 r2 q2
def pe_op{op:Operator}{r:R2}(ho:OpR X (binaryOp op) r)(ha:PE X a ta)(hb:PE X b tb):PE X (.BinOp a op b pos) (tOp r ta tb):=by
 intro HM s σ H Q I h;exact wpAny_BinOp (binT ha hb I h fun v u s2 x y H2 I2 rx ry q=>ho HM s2 σ H2 x y v u Q I2 rx ry q)
def pe_un(ho:UnR X (unaryOp op) r)(ha:PE X a ta):PE X (.UnaryOp op a pos) (tUn r ta):=by
 intro HM s σ H Q I h;exact UnaryOp_ (thn (ha HM s σ H _ I h) fun v s1 ⟨x,H1,I1,r1,q1⟩=>ho HM s1 σ H1 x v Q I1 r1 q1)
def opI{f:Value->Value->Sem Value}{C:Int->Int->Prop}{g:Int->Int->Int}
  (rule:∀(i j:Int) (t u:Tok) (s:Shared) (Q:Value->Shared->Prop) (E:Value->Shared->Prop),C i j->Q (.int (g i j) s.toks) { s with toks:=s.toks+1}->wpAny (model X.prog X.w) X.A (f (.int i t) (.int j u)) Q E s) :
  OpR X f (rI C fun i j=>.int (g i j)):=by
 intro HM s σ H x y v u Q I rx ry h;obtain⟨i,j,rfl,rfl,hc,q⟩:=h;obtain⟨t,rfl⟩:=rx;obtain⟨t',rfl⟩:=ry;exact rule i j t t' s _ _ hc ⟨.int (g i j),H,I.tok _,⟨_,rfl⟩,q⟩
def opI0{f:Value->Value->Sem Value}{g:Int->Int->Int}
  (rule:∀(i j:Int) (t u:Tok) (s:Shared) (Q:Value->Shared->Prop) (E:Value->Shared->Prop),Q (.int (g i j) s.toks) { s with toks:=s.toks+1}->wpAny (model X.prog X.w) X.A (f (.int i t) (.int j u)) Q E s) :
  OpR X f (rI0 fun i j=>.int (g i j)):=by
 intro HM s σ H x y v u Q I rx ry h;obtain⟨i,j,rfl,rfl,q⟩:=h;obtain⟨t,rfl⟩:=rx;obtain⟨t',rfl⟩:=ry;exact rule i j t t' s _ _ ⟨.int (g i j),H,I.tok _,⟨_,rfl⟩,q⟩
def opB0{f:Value->Value->Sem Value}{g:Int->Int->Bool}
  (rule:∀(i j:Int) (t u:Tok) (s:Shared) (Q:Value->Shared->Prop) (E:Value->Shared->Prop),Q (.bool (g i j)) s->wpAny (model X.prog X.w) X.A (f (.int i t) (.int j u)) Q E s) :
  OpR X f (rI0 fun i j=>.bl (g i j)):=by
 intro HM s σ H x y v u Q I rx ry h;obtain⟨i,j,rfl,rfl,q⟩:=h;obtain⟨t,rfl⟩:=rx;obtain⟨t',rfl⟩:=ry;exact rule i j t t' s _ _ ⟨.bl (g i j),H,I,rfl,q⟩
def e8(i j:Int):Prop:=0<=j/\j<=1000000/\i.natAbs<2 ^ 64
def op_add:OpR X (binaryOp .Add) (rI0 fun i j=>.int (i+j)):=opI0 fun _ _ _ _ _ _ _ q=>add_int q
def op_sub:OpR X (binaryOp .Sub) (rI0 fun i j=>.int (i - j)):=opI0 fun _ _ _ _ _ _ _ q=>sub_int q
def op_pow:OpR X (binaryOp .Pow) (rI e8 fun i j=>.int (i ^ j.toNat)):=opI fun _ _ _ _ _ _ _ hc q=>pow_int_small hc.1 hc.2.1 hc.2.2 q
def unI{f:Value->Sem Value}{g:Int->Int}
  (rule:∀(i:Int) (t:Tok) (s:Shared) (Q:Value->Shared->Prop) (E:Value->Shared->Prop),Q (.int (g i) s.toks) { s with toks:=s.toks+1}->wpAny (model X.prog X.w) X.A (f (.int i t)) Q E s) :
  UnR X f (rU fun i=>.int (g i)):=by
 intro HM s σ H x v Q I rx h;obtain⟨i,rfl,q⟩:=h;obtain⟨t,rfl⟩:=rx;exact rule i t s _ _ ⟨.int (g i),H,I.tok _,⟨_,rfl⟩,q⟩
def un_neg:UnR X (unaryOp .USub) (rU fun i=>.int (-i)):=unI fun _ _ _ _ _ q=>neg_int q
def yq{HM:List (Addr × Obj)}{σ:St}{H:Hp}{s:Shared}{Q:VK}{k k':Bool}(I:Inv X HM σ H s)(q:Q (.bl k) H)(e:k=k'):EP X HM σ Q (.bool k') s:=by
 subst e;exact⟨.bl k,H,I,rfl,q⟩
def op_lt:OpR X (compareOp .Lt) (rI0 fun i j=>.bl (decide (i<j))):=opB0 fun _ _ _ _ _ _ _ q=>lt_int q
def op_le:OpR X (compareOp .LtE) (rI0 fun i j=>.bl (decide (i<=j))):=opB0 fun _ _ _ _ _ _ _ q=>le_int q
def op_gt:OpR X (compareOp .Gt) (rI0 fun i j=>.bl (decide (j<i))):=opB0 fun _ _ _ _ _ _ _ q=>gt_int q
def op_ge:OpR X (compareOp .GtE) (rI0 fun i j=>.bl (decide (j<=i))):=opB0 fun _ _ _ _ _ _ _ q=>ge_int q
def op_isN:OpR X (compareOp .Is) (fun x y H Q=>y=.non/\Q (.bl (decide (x=.non))) H):=by
 intro HM s σ H x y v u Q I rx ry h;obtain⟨rfl,q⟩:=h;cases ry;refine is_none_gen (yq I q ?_);cases x <;> first
  | (cases rx;rfl)
  | (obtain⟨t,rfl⟩:=rx;rfl)
def op_notN:OpR X (compareOp .IsNot) (fun x y H Q=>y=.non/\Q (.bl (!decide (x=.non))) H):=by
 intro HM s σ H x y v u Q I rx ry h;obtain⟨rfl,q⟩:=h;cases ry;refine isnot_none_gen (yq I q ?_);cases x <;> first
  | (cases rx;rfl)
  | (obtain⟨t,rfl⟩:=rx;rfl)
def nomark(b:Expr)(h:op≠.In:=by decide)(h2:op≠.NotIn:=by decide):behindInMarks op b=false:=by
 have e1:(op == CmpOp.In)=false:=by cases op <;> first | rfl | exact absurd rfl h
 have e2:(op == CmpOp.NotIn)=false:=by cases op <;> first | rfl | exact absurd rfl h2
 cases b <;> simp[behindInMarks,e1,e2]
def pe_cmpR{op:CmpOp}{r:R2}(ho:OpR X (compareOp op) r)(ha:PE X a ta)(hb:PE X b tb)(hm:behindInMarks op b=false):PE X (.Compare a [op] [b] pos) (tOp r ta tb):=by
 intro HM s σ H Q I h;exact wpAny_Compare1 (binT ha hb I h fun v u s2 x y H2 I2 rx ry q=>ho HM s2 σ H2 x y v u Q I2 rx ry q) hm
def tTest(t:TE):TT:=fun σ H Q=>t σ H fun x H'=>∃k,x=.bl k/\Q k H'
def pt_cmpR(ho:OpR X (compareOp op) r)(ha:PE X a ta)(hb:PE X b tb)(hm:behindInMarks op b=false):PT X (.Compare a [op] [b] pos) (tTest (tOp r ta tb)):=by
 intro HM s σ H Q I h
 refine wpAny_isTrue_Compare1 (thn (ha HM s σ H _ I h) fun v s1 ⟨x,H1,I1,r1,q1⟩=>thn (hb HM s1 σ H1 _ I1 q1) fun u s2 ⟨y,H2,I2,r2,q2⟩ =>
  thn (ho HM s2 σ H2 x y v u _ I2 r1 r2 q2) fun c s3 ⟨z,H3,I3,r3,k,e,q3⟩=>?_) hm
 subst e;cases r3;exact wpAny_truthy_bool ⟨H3,I3,q3⟩
def yu(r r':R2)(ta tb tc:TE):TE:=fun σ H Q=>ta σ H fun x H1=>tb σ H1 fun y H2=>r x y H2 fun z H3=>∃k,z=.bl k /\
 (if k=true then tc σ H3 fun w' H4=>r' y w' H4 Q else Q (.bl false) H3)
def Aa(ho:OpR X (compareOp op) r)(ho':OpR X (compareOp op') r')(ha:PE X a ta)(hb:PE X b tb)(hc:PE X c tc)
  (hm:lastMarks [op,op'] [b,c]=false:=by with_unfolding_all rfl):PE X (.Compare a [op,op'] [b,c] pos) (yu r r' ta tb tc):=by
 intro HM s σ H Q I h
 refine Compare_chain (thn (ha HM s σ H _ I h) fun v s1 ⟨x,H1,I1,r1,q1⟩=>chain_link (thn (hb HM s1 σ H1 _ I1 q1) fun u s2 ⟨y,H2,I2,r2,q2⟩ =>
  thn (ho HM s2 σ H2 x y v u _ I2 r1 r2 q2) fun d s3 ⟨z,H3,I3,r3,k,e,q3⟩=>?_)) hm
 subst e;cases r3;refine wpAny_truthy_bool ?_
 cases k with
 | false=>exact ite_ff ⟨.bl false,H3,I3,rfl,q3⟩
 | true=>exact ite_tt (chain_last (thn (hc HM s3 σ H3 _ I3 q3) fun w' s4 ⟨z',H4,I4,r4,q4⟩=>ho' HM s4 σ H4 y z' u w' Q I4 r2 r4 q4))
def j7:(sizeLine:Nat)<2 ^ 63:=by rw[sizeLine_eq];decide
def wH:OpR X (binaryOp .Add) (fun x y H Q=>∃i j,x=.str i/\y=.str j/\i.length+j.length<=sizeLine/\Q (.str (i++j)) H):=by
 intro HM s σ H x y v u Q I rx ry h;obtain⟨i,j,rfl,rfl,hz,q⟩:=h;obtain⟨t,rfl⟩:=rx;obtain⟨t',rfl⟩:=ry;exact add_str (fun t' tk=>⟨.str (i++j),H,I.tok _,⟨_,rfl⟩,q⟩) hz
def dM(r:ar [x] us):∃u,us=[u]/\aF x u:=by
 cases r with
 | cons r1 r2=>cases r2;exact⟨_,rfl,r1⟩
def vals2(r:ar [x,y] us):∃u w',us=[u,w']/\aF x u/\aF y w':=by
 cases r with
 | cons r1 r2 =>
  cases r2 with
  | cons r3 r4=>cases r4;exact⟨_,_,rfl,r1,r3⟩
def y6:bQ X (.builtin "abs") (fun xs H Q=>∃i,xs=[.int i]/\Q (.int (if i<0 then -i else i)) H):=by
 intro HM s σ H xs us Q I r h;obtain⟨i,rfl,q⟩:=h;obtain⟨u,rfl,t,rfl⟩:=dM r;exact call_abs_int fun u tk=>⟨.int (if i<0 then -i else i),H,I.tok _,⟨_,rfl⟩,q⟩
def pE(hc:X.calm=true):bQ X (.builtin "max") (fun xs H Q=>∃i j,xs=[.int i,.int j]/\Q (.int (if j>i then j else i)) H):=by
 intro HM s σ H xs us Q I r h;obtain⟨i,j,rfl,q⟩:=h;obtain⟨u,w',rfl,⟨t,rfl⟩,⟨t',rfl⟩⟩:=vals2 r;refine max_two_ints (I.ok.hd hc) fun h' tk k=>⟨_,H,I.kept k,?_,q⟩;by_cases hj:j>i
 ·rw[qah hj,qah hj];exact⟨_,rfl⟩
 ·rw[qan hj,qan hj];exact⟨_,rfl⟩
def pD(hc:X.calm=true):bQ X (.builtin "min") (fun xs H Q=>∃i j,xs=[.int i,.int j]/\Q (.int (if j<i then j else i)) H):=by
 intro HM s σ H xs us Q I r h;obtain⟨i,j,rfl,q⟩:=h;obtain⟨u,w',rfl,⟨t,rfl⟩,⟨t',rfl⟩⟩:=vals2 r;refine min_two_ints (I.ok.hd hc) fun h' tk k=>⟨_,H,I.kept k,?_,q⟩;by_cases hj:j<i
 ·rw[qah hj,qah hj];exact⟨_,rfl⟩
 ·rw[qan hj,qan hj];exact⟨_,rfl⟩
def LenV(K:qac)(x:V)(H:Hp)(n:Nat):Prop :=
 match x with
 | .str y=>y.length<=sizeLine/\n=y.length
 | .byt y=>y.size<=sizeLine/\n=y.size
 | .ref p=>(∃xs,SqL K H p xs/\n=xs.length)\/∃xs,SqT K H p xs/\n=xs.length
 | _=>False
def jm:bQ X (.builtin "len") (fun xs H Q=>∃x n,xs=[x]/\LenV X.K x H n/\Q (.int n) H):=by
 intro HM s σ H xs us Q I r h;obtain⟨x,n,rfl,e,q⟩:=h;obtain⟨u,rfl,rx⟩:=dM r;have hl:=j7;have hs:sizeLine=16777216:=sizeLine_eq
 cases x with
 | str y =>
  obtain⟨t,rfl⟩:=rx;obtain⟨hy,e'⟩:y.length<=sizeLine/\n=y.length:=e;subst e';exact len_str (by ext) ⟨.int _,H,I.tok _,⟨_,rfl⟩,q⟩
 | byt y =>
  obtain⟨t,rfl⟩:=rx;obtain⟨hy,e'⟩:y.size<=sizeLine/\n=y.size:=e;subst e';exact PySem.W.len_bytes (by ext) ⟨.int _,H,I.tok _,⟨_,rfl⟩,q⟩
 | ref p =>
  cases rx;have e':(∃xs,SqL X.K H p xs/\n=xs.length)\/∃xs,SqT X.K H p xs/\n=xs.length:=e;rcases e' with ⟨xs,hx,e'⟩|⟨xs,hx,e'⟩
  ·subst e';obtain⟨its,r',pl,hz⟩:=I.list hx;have hlen:=r'.length;exact Calls.call_len_list pl.isList (by simp only[qaq];ext) ⟨.int xs.length,H,I.tok _,⟨_,by simp only[qaq];rw[hlen]⟩,q⟩
  ·subst e';obtain⟨its,r',pl,hz⟩:=I.tuple hx;have hlen:=r'.length;exact len_tuple pl (by simp only[qaq];ext) ⟨.int xs.length,H,I.tok _,⟨_,by simp only[qaq];rw[hlen]⟩,q⟩
 | _=>exact (show False from e).elim
end
section
variable {prog:Program} {w:World} {A:Around} {E:Value→Shared→Prop} {s:Shared} {K:qac} {x dx C f:Addr} {mA:Str→Option Value} {name:Str} {v:Value}
end
section
variable {P:Program} {w:World} {H H':Hp} {h h':Heap} {a C dx:Addr} {fs fs':List (Str × V)}
end
section
variable {X:Cx} {HM:List (Addr × Obj)} {σ:St} {H:Hp} {s:Shared} {a C dx:Addr} {fs:List (Str × V)} {f:Str} {v:V} {A:Around} {E:Value→Shared→Prop}
end
section
variable {X:Cx} {o e value:Expr} {f:Str} {pos pos' tpos:Pos} {ta tv:TE}
end
section
variable {X:Cx} {HM:List (Addr × Obj)} {σ:St} {H:Hp} {s:Shared} {A:Around} {E:Value→Shared→Prop} {Q:Value→Shared→Prop} {c:Value} {b:Bool}
end
structure Room (k:Nat) (A:Around):Prop where
 hd:A.handled=none
 dp:A.depth+3 * k+5<recursionLimit
 un:A.units+16 * k+200<cLine
 gd:A.guards=some []
def Room.mono(r:Room k A)(h:j<=k):Room j A:=⟨r.hd,by have:=r.dp;ext,by have:=r.un;ext,r.gd⟩
def Room.deeper(r:Room (k+1) A)(env:Env):Room k (A.deeper env) :=
 ⟨r.hd,by have:=r.dp;show A.depth+1+3 * k+5<_;ext,by have:=r.un;show A.units+3+16 * k+200<_;ext,r.gd⟩
def Room.depth(r:Room k A):A.depth<recursionLimit:=by have:=r.dp;ext
def Room.units(r:Room k A):A.units+64<cLine:=by have:=r.un;ext
def tNil:TA:=fun _ H Q=>Q [] H
def tCons(ta:TE)(tr:TA):TA:=fun σ H Q=>ta σ H fun x H1=>tr σ H1 fun xs H2=>Q (x::xs) H2
section
variable {X:Cx} {e:Expr} {es:List Expr} {te:TE} {t:TA} {pos:Pos}
def g0:PA X [] tNil:=fun _ _ _ _ H Q I h=>Calls.spliced_nil ⟨[],H,I,.nil,h⟩
def cO(ha:PE X e te)(hr:PA X es t)(hs:starEach (e::es) X.env=(false,eval e X.env)::starEach es X.env:=by rfl):PA X (e::es) (tCons te t):=by
 intro pos HM s σ H Q I h;rw[hs];show wpAny _ _ (spliced ((false,eval e X.env)::backTo pos (starEach es X.env))) _ _ s;refine Calls.spliced_cons (thn (ha HM s σ H _ I h) fun u s1 ⟨x,H1,I1,r1,q1⟩=>?_);exact thn (hr pos HM s1 σ H1 _ I1 q1) fun us s2 ⟨xs,H2,I2,r2,q2⟩=>⟨x::xs,H2,I2,.cons r1 r2,q2⟩
def tTup(t:TA):TE:=fun σ H Q=>t σ H fun xs H1=>xs.length<=sizeLine/\∀p,H1 p=none->Q (.ref p) (upd H1 p (.tup xs))
def tLst(t:TA):TE:=fun σ H Q=>t σ H fun xs H1=>xs.length<=sizeLine/\∀p,H1 p=none->Q (.ref p) (upd H1 p (.lst xs))
def yA{x1}(h:PA X es t):PE X (.Tuple es x1 pos) (tTup t):=by
 intro HM s σ H Q I hq;refine wpAny_Tuple_spliced (thn (h pos HM s σ H _ I hq) fun us s1 ⟨xs,H1,I1,r,z,q⟩=>⟨by rw[<-r.length];exact z,?_⟩);have hf:H1 s1.heap.objs.size=none:=I1.hok.fresh (qai _);refine⟨.ref s1.heap.objs.size,upd H1 s1.heap.objs.size (.tup xs),I1.laid (t':=s1.toks) (fun b u e=>qab _ e) (qai _) ?_,rfl,q _ hf⟩;exact⟨z,us,r,⟨_,qap _ rfl,rfl,⟨_,rfl⟩,rfl⟩⟩
def pe_lst(h:PA X es t):PE X (.List es pos) (tLst t):=by
 intro HM s σ H Q I hq;refine wpAny_List_spliced (thn (h pos HM s σ H _ I hq) fun us s1 ⟨xs,H1,I1,r,z,q⟩=>⟨by rw[<-r.length];exact z,?_⟩);have hf:H1 s1.heap.objs.size=none:=I1.hok.fresh (qai _);refine⟨.ref s1.heap.objs.size,upd H1 s1.heap.objs.size (.lst xs),I1.laid (t':=s1.toks) (fun b u e=>qab _ e) (qai _) ?_,rfl,q _ hf⟩;exact⟨z,us,0,r,qap _ rfl⟩
end
abbrev Sp:=List V->Hp->VK->XK->Prop
abbrev CXT:=List Env->Hp->Shared->XK->Value->Shared->Prop
structure Env0 (P:Program) (w:World) (K:qac) (mg:Str->Option Value) (base:Heap) (A:Around) (outer:List Env) (s:Shared) (H:Hp):Prop where
 frames:A.frames=some outer
 mod:Mod K mg base
 bs:∀b o,base.get? b=some o->s.heap.get? b=some o/\H b=none
 bsz:base.objs.size<=s.heap.objs.size
 funs:s.heap.FunFrames base outer
 frf:∀b∈frs outer,H b=none
 hok:HOk P w H s.heap
 bare:AllBare s.gens
inductive CE (outer:List Env) (P:Program) (w:World) (H:Hp) (s:Shared) (Q:VK) (u:Value) (s':Shared):Prop
 | mk (v:V) (H':Hp) (o:s'.os=s.os) (b:AllBare s'.gens) (n:Un (frs outer) [] H H' s.heap s'.heap) (k:HOk P w H' s'.heap) (r:aF v u) (q:Q v H'):CE outer P w H s Q u s'
def CR(CX:CXT)(outer:List Env)(P:Program)(w:World)(H:Hp)(s:Shared)(Q:VK)(E:XK)(r:Result)(s':Shared):Prop :=
 match r with
 | .ok (.ret u)=>CE outer P w H s Q u s'
 | .ok _=>False
 | .error e=>CX outer H s E e s'
structure FnOk (P:Program) (w:World) (K:qac) (mg:Str->Option Value) (base:Heap) (CX:CXT) (k:Nat) (f:Addr) (fd:FuncData) (ps:List Str) (sp:Sp):Prop where
 len:∀vs H Q E,sp vs H Q E->vs.length=ps.length
 run:∀(A:Around) (outer:List Env) (s:Shared) (H:Hp) (args:Args) (us:List Value) (vs:List V) (Q:VK) (E:XK),Room k A->Env0 P w K mg base A outer s H->BindsTo s fd args (ps.zip us)->ar vs us->sp vs H Q E ->
  codeAny (model P w) A (.call (.ref f) args) (CR CX outer P w H s Q E) s
def FnOk.mono{P:Program}{w:World}{K:qac}{mg:Str->Option Value}{base:Heap}{CX:CXT}{j k:Nat}{f:Addr}{fd:FuncData}{ps:List Str}{sp:Sp}(F:FnOk P w K mg base CX j f fd ps sp)(h:j<=k) :
  FnOk P w K mg base CX k f fd ps sp:=⟨F.len,fun A outer s H args us vs Q E hr=>F.run A outer s H args us vs Q E (hr.mono h)⟩
def FnOk.imp{P:Program}{w:World}{K:qac}{mg:Str->Option Value}{base:Heap}{CX:CXT}{k:Nat}{f:Addr}{fd:FuncData}{ps:List Str}{sp sp':Sp}(F:FnOk P w K mg base CX k f fd ps sp)
  (h:∀vs H Q E,sp' vs H Q E->sp vs H Q E):FnOk P w K mg base CX k f fd ps sp' :=
 ⟨fun vs H Q E q=>F.len vs H Q E (h _ _ _ _ q),fun A outer s H args us vs Q E hr he hb hv hs=>F.run A outer s H args us vs Q E hr he hb hv (h _ _ _ _ hs)⟩
section
variable {X:Cx} {HM:List (Addr × Obj)} {σ:St} {H:Hp} {s s':Shared}
def Inv.env0(I:Inv X HM σ H s):Env0 X.prog X.w X.K X.mg X.base X.A X.stack s H :=
 ⟨I.ok.frames,I.ok.mod,I.bs,qaJ I.ok.bsz I.sz,I.stack,I.stkFree,I.hok,I.bare⟩
def Inv.after(I:Inv X HM σ H s)(h:CE X.stack X.prog X.w H s Q u s'):EP X HM σ Q u s':=by
 obtain⟨v,H',os,bare,un,hok,r,q⟩:=h;obtain⟨hh,g,d,t,os'⟩:=s';obtain rfl:os'=s.os:=os;exact⟨v,H',I.call (h':=hh) (g':=g) (d':=d) (t':=t) (ch:=[]) un hok bare (fun b z=>absurd z (by simp)),r,q⟩
end
def nk(K:qac)(fd:FuncData)(ps:List Str)(ds:List Value):Prop :=
 ∀(s:Shared) (us:List Value),K.In s.heap->(us++ds).length=ps.length->BindsTo s fd ⟨us,[]⟩ (ps.zip (us++ds))
def nk.all{K:qac}{fd:FuncData}{ps:List Str}(h:∀us:List Value,us.length=ps.length->bindArgs fd ⟨us,[]⟩=pure (ps.zip us)):nk K fd ps []:=fun s us _ hl=>by
 rw[qca] at hl ⊢;exact .of_eq (h us hl)
section
variable {X:Cx} {CX:CXT} {k:Nat} {f C:Addr} {fd:FuncData} {ps:List Str} {sp:Sp} {dvs:List V} {ds:List Value} {E:XK} {x m:Str} {p pos apos:Pos} {e o:Expr} {es:List Expr} {ta:TE} {t:TA}
end
section
variable {X:Cx} {CX:CXT} {k:Nat} {f C:Addr} {fd:FuncData} {ps ks:List Str} {sp:Sp} {E:XK} {x m:Str} {p pos apos kpos:Pos} {e o:Expr} {es:List Expr} {kws:List Keyword} {te ta:TE} {t tk:TA} {nm:Option Str} {g:List Value→List Value→List Value} {gV:List V→List V→List V}
end
structure FnScope (N P:List Str) (sc:Scope):Prop where
 kind:sc.kind=.function
 co:sc.isCoroutine=false
 gen:sc.isGenerator=false
 nd:N.Nodup
 pre:N.take P.length=P
 par:∀x∈P,sc.names.lookup x=some .local\/sc.names.lookup x=some .cell
 nofree:∀y∈sc.names,y.2≠.free
def pC{kindOf:Str->Option NameKind}{x:Str}:∀{binds:List (Str × Value)} {m:Str->Option Value},(∀v,(x,v)∉binds)->bindL kindOf binds m x=m x
 | [],_,_=>rfl
 | (n,v)::r,m,h=>by
  unfold bindL;rw[pC fun w hw=>h w (qae _ hw)];split
  ·have:x≠n:=by rintro rfl;exact h v qax
   simp[this]
  ·rfl
def pA{kindOf:Str->Option NameKind}{x:Str}:∀{binds:List (Str × Value)} {m:Str->Option Value},(∀v,(x,v)∉binds)->bindC kindOf binds m x=m x
 | [],_,_=>rfl
 | (n,v)::r,m,h=>by
  unfold bindC;rw[pA fun w hw=>h w (qae _ hw)];split
  ·rfl
  ·have:x≠n:=by rintro rfl;exact h v qax
   simp[this]
def pF{kindOf:Str->Option NameKind}{x:Str}{v:Value}:∀{P:List Str} {vs:List Value} {i:Nat} {m:Str->Option Value},P.Nodup->P[i]?=some x->vs[i]?=some v->kindOf x=some .local ->
  bindL kindOf (P.zip vs) m x=some v
 | [],_,_,_,_,h,_,_=>by simp at h
 | _::_,[],_,_,_,_,h,_=>by simp at h
 | p::P,w::vs,0,m,nd,h1,h2,hk=>by
  simp at h1 h2;subst h1;subst h2;show bindL kindOf ((p,w)::P.zip vs) m p=_;unfold bindL;rw[pC fun v hv=>(qbS.mp nd).1 (qcb hv).1,qah hk];simp
 | p::P,w::vs,i+1,m,nd,h1,h2,hk=>by
  show bindL kindOf ((p,w)::P.zip vs) m x=_;unfold bindL;exact pF (i:=i) (qbS.mp nd).2 (by simpa using h1) (by simpa using h2) hk
def qo{kindOf:Str->Option NameKind}{x:Str}{v:Value}:∀{P:List Str} {vs:List Value} {i:Nat} {m:Str->Option Value},P.Nodup->P[i]?=some x->vs[i]?=some v->kindOf x≠some .local ->
  bindC kindOf (P.zip vs) m x=some v
 | [],_,_,_,_,h,_,_=>by simp at h
 | _::_,[],_,_,_,_,h,_=>by simp at h
 | p::P,w::vs,0,m,nd,h1,h2,hk=>by
  simp at h1 h2;subst h1;subst h2;show bindC kindOf ((p,w)::P.zip vs) m p=_;unfold bindC;rw[pA fun v hv=>(qbS.mp nd).1 (qcb hv).1,qan hk];simp
 | p::P,w::vs,i+1,m,nd,h1,h2,hk=>by
  show bindC kindOf ((p,w)::P.zip vs) m x=_;unfold bindC;exact qo (i:=i) (qbS.mp nd).2 (by simpa using h1) (by simpa using h2) hk
def start(N:List Str)(vs:List V):St:=vs.map some++List.replicate (N.length - vs.length) none
def rm(CX:CXT)(P:Program)(w:World)(K:qac)(mg:Str->Option Value)(base:Heap)(N:List Str)(qual:Str)(scope:Scope)(f:Addr)(cd:Value)(A:Around)(outer:List Env)(s:Shared)(H:Hp)(E:XK):Cx where
 prog:=P
 w:=w
 K:=K
 mg:=mg
 base:=base
 A:=A.deeper (envOfC qual scope s.heap.objs.size f cd)
 N:=N
 s₀:=s
 H₀:=H
 env:=envOfC qual scope s.heap.objs.size f cd
 outer:=outer
 stack:=envOfC qual scope s.heap.objs.size f cd::outer
 ex:=[]
 calm:=true
 fn:=fun _=>true
 pn:=[]
 xe:=fun e s'=>wpAny (model P w) (A.deeper (envOfC qual scope s.heap.objs.size f cd)) (leaving (envOfC qual scope s.heap.objs.size f cd) e) (fun _ s''=>CX outer H s E e s'') (fun e' s''=>CX outer H s E e' s'') s'
def tU{sc:Scope}{n:Nat}{x:Str}(h:sc.names.lookup x=some .cell):∃c,(cellsFrom n sc.names []).lookup x=some c:=by
 have q:=PySem.W.cellsFrom_some sc.names n [] (.inl h);exact Option.isSome_iff_exists.mp q
def xK{CX:CXT}{P:Program}{w:World}{K:qac}{mg:Str->Option Value}{base:Heap}{N ps:List Str}{qual:Str}{scope:Scope}{f:Addr}{cd:Value}{A:Around}{outer:List Env}{s s1:Shared}{H:Hp}{E:XK}{us:List Value}{vs:List V}
  (S:FnScope N ps scope) (hd:A.handled=none) (e0:Env0 P w K mg base A outer s H) (hl:vs.length=ps.length) (r:ar vs us)
  (x:InCallC s s.heap.objs.size (bindL (envOfC qual scope s.heap.objs.size f cd).kindOf (ps.zip us) fun _=>none) (cellsFrom (s.heap.objs.size+1) scope.names []) (bindC (envOfC qual scope s.heap.objs.size f cd).kindOf (ps.zip us) fun _=>none) s1) :
  Inv (rm CX P w K mg base N qual scope f cd A outer s H E) [] (start N vs) H s1:=by
 have hpl:ps.length<=N.length:=by have:=congrArg List.length S.pre;rw[qch] at this;ext
 obtain⟨h1,tk,rfl,hk⟩:=x.done;have noA:∀b:Addr,b∉(rm CX P w K mg base N qual scope f cd A outer s H E).ex:=fun b z=>absurd (show b∈([]:List Addr) from z) (by simp)
 refine⟨⟨e0.mod,S.kind,rfl,rfl,qai _,fun y z c h1 h2=>?_,fun y hy=>?_,fun y c _ h=>?_,fun _=>hd,Around.frames_deeper e0.frames,.inr ⟨rfl,rfl⟩,fun b z=>absurd z (noA b),e0.bs,e0.bsz,fun b _ _=>noA b,fun b z=>absurd z (noA b),e0.funs,e0.frf⟩,
  rfl,e0.bare,Un.kept hk,⟨_,x.toInCall.ns,fun i y v h1 h2 h3=>?_⟩,fun y c h=>⟨_,x.cell y c h⟩,e0.hok.fresh (qai _),fun y c h=>?_,fun p hp=>absurd (show p∈([]:List (Addr × Obj)) from hp) (by simp),e0.hok.kept hk,?_⟩
 ·exact name_of_addr x.apart (PySem.mem_of_lookup h1) (PySem.mem_of_lookup h2)
 ·have hy:scope.names.lookup y=some .cell\/scope.names.lookup y=some .free:=hy;rcases hy with hy|hy
  ·exact tU hy
  ·exact absurd rfl (S.nofree _ (PySem.mem_of_lookup hy))
 ·exact qbJ (x.above y c (PySem.mem_of_lookup h))
 ·have hi:i<vs.length:=by
   unfold start at h2;by_cases hi:i<vs.length
   ·exact hi
   ·rw[qaC (by simpa using hi)] at h2;rw[qbl] at h2
    split at h2 <;> cases h2
  have ha:vs[i]?=some v:=by
   unfold start at h2;rw[qao (by simpa using hi),qaw] at h2
   cases e:vs[i]? with
   | none=>rw[e] at h2;cases h2
   | some a=>rw[e] at h2;cases h2;rfl
  obtain⟨u,hu,rv⟩:=r.get ha;have hp:ps[i]?=some y:=by
   rw[<-S.pre,qbF (by ext)];exact h1
  have ndP:ps.Nodup:=by rw[<-S.pre];exact S.nd.sublist (List.take_sublist _ _)
  refine⟨u,rv,?_⟩;rcases S.par y (qaV hp) with k|k
  ·exact .inl ⟨k,pF ndP hp hu k⟩
  ·obtain⟨c,e⟩:=tU (n:=s.heap.objs.size+1) k;refine .inr ⟨.inl k,c,e,?_⟩;have q:=x.cell y c e;rw[qo ndP hp hu (by show scope.names.lookup y≠_;rw[k];decide)] at q;exact q
 ·exact e0.hok.fresh (qbJ (x.above y c (PySem.mem_of_lookup h)))
 ·unfold start;show _=N.length;rw[qaQ,qaB,qbB];ext
def fn_of{CX:CXT}{P:Program}{w:World}{K:qac}{mg:Str->Option Value}{base:Heap}{k:Nat}{f:Addr}{name qual:Str}{params:Arguments}{body:List Stmt}{scope:Scope}{dV kV doc pm cdv ct oc:Value}{an od:Option Addr}
  {osl:Array (Option Value)} {N ps:List Str} {sp:Sp} (lk:K.lookup f=some ⟨oc,od,.func (PySem.W.fnOf name qual params body scope dV kV doc pm an cdv ct),osl⟩) (hcd:PySem.W.codeIn K cdv qual=true) (S:FnScope N ps scope)
  (len:∀vs H Q E,sp vs H Q E->vs.length=ps.length)
  (hbody:∀(A:Around) (outer:List Env) (s:Shared) (H:Hp) (vs:List V) (Q:VK) (E:XK),Room k (A.deeper (envOfC qual scope s.heap.objs.size f cdv))->sp vs H Q E ->
   ∃t,PSs (rm CX P w K mg base N qual scope f cdv A outer s H E) body t/\t { nx:=fun _ H'=>Q .non H',rt:=Q} (start N vs) H) :
  FnOk P w K mg base CX (k+1) f (PySem.W.fnOf name qual params body scope dV kV doc pm an cdv ct) ps sp:=by
 refine⟨len,fun A outer s H args us vs Q E hr e0 hb r hsp=>?_⟩;have hl:=len _ _ _ _ hsp;have KX:K.In s.heap:=e0.mod.kin.keeps fun b o e=>(e0.bs b o e).1;have lim:s.heap.NoLimit:=e0.mod.nolimit.keeps fun b o e=>(e0.bs b o e).1;have hkind:∀y∈ps.zip us,scope.names.lookup y.1=some .local\/(scope.names.lookup y.1=some .cell/\((cellsFrom (s.heap.objs.size+1) scope.names []).lookup y.1).isSome=true):=fun ⟨n,v⟩ hy=>by
  rcases S.par n (qcb hy).1 with q|q
  ·exact .inl q
  ·exact .inr ⟨q,PySem.W.cellsFrom_some _ _ _ (.inl q)⟩
 refine codeAny_call_function hr.depth (KX _ _ lk) rfl S.co S.gen rfl (PySem.W.codeRec_of KX hcd) (hb _ _ _ _ ?_);refine wpAny_newFunctionEnv_cells S.kind hkind fun env he s1 x=>?_;subst he;refine⟨lim.keeps x.toInCall.keep,codeAny_func ?_⟩;obtain⟨t,ht,hq⟩:=hbody A outer s H vs Q E (hr.deeper _) hsp;have I:Inv (rm CX P w K mg base N qual scope f cdv A outer s H E) [] (start N vs) H s1:=xK S hr.hd e0 hl r x;refine wpAny_mono (ht [] s1 (start N vs) H _ I hq) (fun fl s' hs=>?_) fun e s' hs=>hs;have fin:∀{σ':St} {H':Hp} {v:V} {u:Value},Inv (rm CX P w K mg base N qual scope f cdv A outer s H E) [] σ' H' s'->aF v u->Q v H'->CE outer P w H s Q u s' :=
  fun {σ' H' v u} J rv q=>⟨v,H',J.os,J.bare,J.base,J.hok,rv,q⟩
 cases fl with
 | ret u =>
  obtain⟨v,σ',H',J,rv,q⟩:=hs;exact fin J rv q
 | next =>
  obtain⟨σ',H',J,q⟩:=hs;exact fin (v:=V.non) (u:=Value.none) J rfl q
 | brk =>
  obtain⟨_,_,_,q⟩:=hs;exact False.elim q
 | cont =>
  obtain⟨_,_,_,q⟩:=hs;exact False.elim q
section
variable {X:Cx} {x:Str} {p pos:Pos} {e:Expr} {es:List Expr} {t:TA} {id T:String} {r:List V→Hp→VK→Prop}
def tCB(r:List V->Hp->VK->Prop)(t:TA):TE:=fun σ H Q=>t σ H fun vs H1=>r vs H1 Q
def gQ(hc:bQ X (.builtin id) r)(hg:Gl X x)(hm:X.mg x=none)(hv:bootBuiltins x=some (.builtin id))(ha:PA X (e::es) t)(hn:x≠"__name__":=by decide)(hdb:(x == ("__debug__":Str))=false:=by decide)
  (he:starEach (e::es) X.env=(false,eval e X.env)::starEach es X.env:=by rfl) (hpl:(backTo pos (starEach es X.env)).any (·.1)=false:=by rfl):PE X (.Call (.Name x p) (e::es) [] pos) (tCB r t):=by
 intro HM s σ H Q I h;refine wpAny_Call_Name_kw (iD I hg hm hv ?_ hn hdb);exact PyProof.Rows.callWith_builtin1 (thn (ha pos HM s σ H _ I h) fun us s1 ⟨vs,H1,I1,r1,q1⟩=>hc HM s1 σ H1 vs us Q I1 r1 q1) he hpl
def g8(hc:bQ X (.type T) r)(hg:Gl X x)(hm:X.mg x=none)(hv:bootBuiltins x=some (.type T))(ha:PA X (e::es) t)(hn:x≠"__name__":=by decide)(hdb:(x == ("__debug__":Str))=false:=by decide)
  (he:starEach (e::es) X.env=(false,eval e X.env)::starEach es X.env:=by rfl) (hpl:(backTo pos (starEach es X.env)).any (·.1)=false:=by rfl):PE X (.Call (.Name x p) (e::es) [] pos) (tCB r t):=by
 intro HM s σ H Q I h;refine wpAny_Call_Name_kw (iD I hg hm hv ?_ hn hdb);exact PyProof.Rows.callWith_type1 (thn (ha pos HM s σ H _ I h) fun us s1 ⟨vs,H1,I1,r1,q1⟩=>hc HM s1 σ H1 vs us Q I1 r1 q1) he hpl
end
end L2
namespace HT
open PySem PyProof.Rows
section
open PySem.SeqAt
open PySem.AutoSeq1 (wpAny_loadPart')
open PySem.MeetsSeq PySem.MeetsSeq2 PySem.MeetsSeq3
end
section
variable {prog:Program} {w:World} {A:Around} {E:Value→Shared→Prop} {s:Shared}
def cat_tup(ht:IsTup s.heap t vs.toArray)(hb:IsTup s.heap b ws.toArray)(hv:vs≠[])
  (h1:ws=[]->Q (.ref t) s) (h2:ws≠[]->Q (.ref s.heap.objs.size) { s with heap:=s.heap.push { cls:=.type "tuple",data:=.seq (vs++ws).toArray}})
  (hsz:vs.length+ws.length<=sizeLine):wpAny (model prog w) A (binaryOp .Add (.ref t) (.ref b)) Q E s:=by
 obtain⟨⟨cls,dd,data,sl⟩,ho,hc,n,hd⟩:=id ht;obtain⟨⟨cls2,dd2,data2,sl2⟩,ho2,hc2,n2,hd2⟩:=id hb;simp only at hc hd hc2 hd2;subst hc hd hc2 hd2;have e:vs.toArray++ws.toArray=(vs++ws).toArray:=by simp
 by_cases hw:ws=[]
 ·exact concat_meets ⟨_,ho,rfl⟩ ⟨_,ho2,rfl⟩ noFill_tuple_add seq_tuple_add PySem.F.slot_tuple_add PySem.F.entry_tuple_add (PySem.F.args_tuple_add_2 _ _)
   (tuple_addW1 t b vs.toArray ws.toArray n n2 dd dd2 sl sl2 (by simpa using hv) (by simp[hw])) ⟨ho,ho2,h1 hw⟩
 ·refine concat_meets ⟨_,ho,rfl⟩ ⟨_,ho2,rfl⟩ noFill_tuple_add seq_tuple_add PySem.F.slot_tuple_add PySem.F.entry_tuple_add (PySem.F.args_tuple_add_2 _ _)
   (tuple_addW2 t b vs.toArray ws.toArray n n2 dd dd2 sl sl2 (by simpa using hv) (by simpa using hw) (by rw[qaq,qaq];exact hsz)) ⟨ho,ho2,?_⟩
  rw[e];exact h2 hw
end
end HT
namespace L2
open PySem PySem.Spec PyProof.Rows
def vF:∀{us:List Value},ar (ns.map V.int) us->IntsAre us ns:=by
 induction ns with
 | nil=>intro us r;rw[List.map_nil] at r;cases r;exact .nil
 | cons n ns ih =>
  intro us r;rw[qau] at r
  cases r with
  | cons r1 r2 =>
   obtain⟨t,e⟩:=r1;subst e;exact .cons n t (ih r2)
section
variable {X:Cx} {e:Expr} {te:TE} {lo hi:Option Expr} {tl th:TO} {pos p2:Pos}
def rCatT(K:qac):R2:=fun x y H Q=>∃a b xs ys,x=.ref a/\y=.ref b/\SqT K H a xs/\SqT K H b ys/\xs≠[]/\xs.length+ys.length<=sizeLine /\
 (ys=[]->Q (.ref a) H)/\(ys≠[]->∀p,H p=none->Q (.ref p) (upd H p (.tup (xs++ys))))
def ar.nil_iff(r:ar xs us):us=[]↔xs=[]:=by
 cases r with
 | nil=>simp
 | cons _ _=>simp
def op_catT:OpR X (binaryOp .Add) (rCatT X.K):=by
 intro HM s σ H x y v u Q I rx ry h;obtain⟨a,b,xs,ys,rfl,rfl,ha,hb,hx,hz,q1,q2⟩:=h;cases rx;cases ry;obtain⟨its,r1,p1,_⟩:=I.tuple ha;obtain⟨its2,r2,p2,_⟩:=I.tuple hb;refine HT.cat_tup p1 p2 (fun z=>hx (r1.nil_iff.mp z)) (fun z=>⟨.ref a,H,I,rfl,q1 (r2.nil_iff.mp z)⟩) (fun z=>?_) (by rw[<-r1.length,<-r2.length];exact hz);refine⟨.ref s.heap.objs.size,_,I.laid (t':=s.toks) (o:=.tup (xs++ys)) (fun b ob q=>qab _ q) (qai _) ?_,rfl,q2 (fun w=>z (r2.nil_iff.mpr w)) _ (I.hok.fresh (qai _))⟩;exact⟨by rw[qaQ];exact hz,_,r1.append r2,ij.new _ _⟩
end
def ixN(n:Nat)(i:Int):Option Nat:=if 0<=i then (if i<n then some i.toNat else none) else if -(n:Int)<=i then some (i+n).toNat else none
def atI{α:Type}(xs:List α)(i:Int):Option α:=(ixN xs.length i).bind fun j=>xs[j]?
def vt(h:ixN n i=some j):seqIndex? i n=some j/\j<n /\ -(n:Int)<=i/\i<n:=by
 unfold ixN at h;by_cases h0:0<=i
 ·rw[qah h0] at h;by_cases h1:i<n
  ·rw[qah h1] at h;have e:i.toNat=j:=Option.some.inj h;exact⟨by rw[seqIndex_of h0 h1,e],by ext,by ext,h1⟩
  ·rw[qan h1] at h;cases h
 ·rw[qan h0] at h;by_cases h1:-(n:Int)<=i
  ·rw[qah h1] at h;have e:(i+n).toNat=j:=Option.some.inj h;exact⟨by rw[seqIndex_neg (by ext) h1,e],by ext,h1,by ext⟩
  ·rw[qan h1] at h;cases h
def oT(h:atI xs i=some v):∃j,seqIndex? i xs.length=some j/\xs[j]?=some v/\j<xs.length /\ -(xs.length:Int)<=i/\i<xs.length:=by
 unfold atI at h
 cases e:ixN xs.length i with
 | none=>rw[e] at h;cases h
 | some j =>
  rw[e] at h;obtain⟨h1,h2,h3,h4⟩:=vt e;exact⟨j,h1,h,h2,h3,h4⟩
def dv{α:Type}{xs:List α}{j:Nat}{v:α}(h:xs[j]?=some v):atI xs (j:Int)=some v:=by
 have hj:j<xs.length:=(qad.mp h).1;have e:ixN xs.length (j:Int)=some j:=by
  unfold ixN;rw[qah (by ext),qah (by ext)];simp
 unfold atI;rw[e];exact h
def kS(b:Expr):Prop:=∀o i,subscripted b false o i=operate [o,i] (getItem o i)
def IxR(X:Cx)(r:R2):Prop :=
 ∀(value slice:Expr) (HM:List (Addr × Obj)) (s:Shared) (σ:St) (H:Hp) (x y:V) (v u:Value) (Q:VK),Inv X HM σ H s->aF x v->aF y u->r x y H Q ->
  subscripted slice false v u=operate [v,u] (getItem v u)->wpAny (model X.prog X.w) X.A (subscriptTail value slice v u) (EP X HM σ Q) X.xe s
def MtR(X:Cx)(id:String)(r:V->List V->Hp->VK->Prop):Prop :=
 ∀(HM:List (Addr × Obj)) (s:Shared) (σ:St) (H:Hp) (x:V) (xs:List V) (v:Value) (us:List Value) (Q:VK),Inv X HM σ H s->aF x v->ar xs us->r x xs H Q ->
  wpAny (model X.prog X.w) X.A (call (.builtin id) (v::us)) (EP X HM σ Q) X.xe s
section
variable {X:Cx} {a b:Expr} {ta tb:TE} {pos:Pos}
def IxR.or(h:IxR X r)(h':IxR X r'):IxR X (fun x y H Q=>r x y H Q\/r' x y H Q):=by
 intro value slice HM s σ H x y v u Q I rx ry q hs;rcases q with q|q
 ·exact h value slice HM s σ H x y v u Q I rx ry q hs
 ·exact h' value slice HM s σ H x y v u Q I rx ry q hs
def pe_ix{r:R2}(hr:IxR X r)(ha:PE X a ta)(hb:PE X b tb)(hs:kS b):PE X (.Subscript a b pos) (tOp r ta tb):=by
 intro HM s σ H Q I h;exact Subscript_ (binT ha hb I h fun v u s2 x y H2 I2 rx ry q=>hr a b HM s2 σ H2 x y v u Q I2 rx ry q (hs _ _))
def rIxL(K:qac):R2:=fun x y H Q=>∃p xs i v,x=.ref p/\y=.int i/\SqL K H p xs/\atI xs i=some v/\Q v H
def rIxT(K:qac):R2:=fun x y H Q=>∃p xs i v,x=.ref p/\y=.int i/\SqT K H p xs/\atI xs i=some v/\Q v H
def rIxS:R2:=fun x y H Q=>∃z i c,x=.str z/\y=.int i/\z.length<=sizeLine/\atI z.cps.toList i=some c/\Q (.str ⟨#[c]⟩) H
def ix_list:IxR X (rIxL X.K):=by
 intro value slice HM s σ H x y v u Q I rx ry h hs;obtain⟨p,xs,i,z,rfl,rfl,hq,he,q⟩:=h;cases rx;obtain⟨t,rfl⟩:=ry;obtain⟨its,r,pl,hz⟩:=I.list hq;obtain⟨j,h1,h2,h3,h4,h5⟩:=oT he;obtain⟨w,ew,rw'⟩:=r.get h2;have hl:=r.length;have hn:=j7;have fin:EP X HM σ Q w s:=⟨z,H,I,rw',q⟩;by_cases h0:0<=i
 ·have hj:i.toNat=j:=by
   rw[seqIndex_of h0 h5] at h1;exact Option.some.inj h1
  exact item_listR pl.isList h0 (by ext) (by rw[hj];simpa using ew) fin hs
 ·have hj:(i+(its.toArray.size:Int)).toNat=j:=by
   rw[seqIndex_neg (by ext) h4] at h1;rw[qaq,<-hl];exact Option.some.inj h1
  exact subscriptTail_builtinR (x:=w) pl.isList.typeIs slot_list_getitem.lookup
   (wpAny_getItem_list_neg (Q:=fun r s'=>r=w/\EP X HM σ Q r s') pl.isList (by ext) (by rw[qaq] <;> ext) (by ext) (by rw[hj];simpa using ew) ⟨rfl,fin⟩) hs
def ix_tup:IxR X (rIxT X.K):=by
 intro value slice HM s σ H x y v u Q I rx ry h hs;obtain⟨p,xs,i,z,rfl,rfl,hq,he,q⟩:=h;cases rx;obtain⟨t,rfl⟩:=ry;obtain⟨its,r,pl,hz⟩:=I.tuple hq;obtain⟨j,h1,h2,h3,h4,h5⟩:=oT he;obtain⟨w,ew,rw'⟩:=r.get h2;have hl:=r.length;have hn:=j7;have fin:EP X HM σ Q w s:=⟨z,H,I,rw',q⟩;exact subscriptTail_builtinR (x:=w) pl.typeIs slot_tuple_getitem.lookup
  (getItem_tuple (j:=j) (Q:=fun r s'=>r=w/\EP X HM σ Q r s') pl (by ext) (by ext) (by rw[qaq,<-hl];exact h1) (by simpa using ew) ⟨rfl,fin⟩) hs
def ix_str:IxR X rIxS:=by
 intro value slice HM s σ H x y v u Q I rx ry h hs;obtain⟨z,i,c,rfl,rfl,hz,he,q⟩:=h;obtain⟨t,rfl⟩:=rx;obtain⟨t',rfl⟩:=ry;obtain⟨j,h1,h2,h3,h4,h5⟩:=oT he;have hl:z.cps.toList.length=z.length:=by simp[Str.length]
 rw[hl] at h1 h4 h5;have hn:=j7
 exact tail_any (typeIs_str s z t) slot_str_getitem.lookup (getItem_str (c:=c) (by
  have e1:decide (i < -(2 ^ 63:Int))=false:=decide_eq_false (by ext);have e2:decide (i>=2 ^ 63)=false:=decide_eq_false (by ext)
  rw[e1,e2,Bool.or_false]) (by rw[h1];simpa using h2) ⟨.str ⟨#[c]⟩,H,I.tok _,⟨_,rfl⟩,q⟩) hs
def rIx(K:qac):R2:=fun x y H Q=>rIxL K x y H Q\/rIxT K x y H Q\/rIxS x y H Q
def ix_seq:IxR X (rIx X.K):=ix_list.or (ix_tup.or ix_str)
def v7(its:List Value)(n j:Nat)(u:Value):Obj.mapSeq (·.setIfInBounds j u) { cls:=.type "list",data:=.seq its.toArray n}={ cls:=.type "list",data:=.seq (its.set j u).toArray n}:=by
 simp[Obj.mapSeq]
def Inv.lst{HM:List (Addr × Obj)}{σ:St}{H:Hp}{s:Shared}{p:Addr}{xs:List V}(I:Inv X HM σ H s)(h:H p=some (.lst xs)) :
  ∃(its:List Value) (n:Nat),ar xs its/\s.heap.get? p=some { cls:=.type "list",data:=.seq its.toArray n}/\xs.length<=sizeLine:=by
 obtain⟨z,its,n,r,e⟩:=I.hok p _ h;exact⟨its,n,r,e,z⟩
def Inv.lstUpd{HM:List (Addr × Obj)}{σ:St}{H:Hp}{s:Shared}{p:Addr}{xs ys:List V}{its its':List Value}{n n':Nat}{f:Obj->Obj}(I:Inv X HM σ H s)(h:H p=some (.lst xs))
  (ho:s.heap.get? p=some { cls:=.type "list",data:=.seq its.toArray n}) (hf:f { cls:=.type "list",data:=.seq its.toArray n}={ cls:=.type "list",data:=.seq its'.toArray n'}) (r:ar ys its') (hz:ys.length<=sizeLine) (t:Nat) :
  Inv X HM σ (upd H p (.lst ys)) { s with heap:=s.heap.update p f,toks:=t}:=by
 have e:(s.heap.update p f).get? p=some { cls:=.type "list",data:=.seq its'.toArray n'}:=by
  rw[qbC f ho (by rw[hf] <;> rfl),hf]
 refine I.write (x:=p) (e:=p) (by rw[h];trivial) (.inl rfl) (fun b u hb q=>(qbP _ _ (Ne.symm hb)).trans q) ⟨_,e⟩ ?_;exact⟨hz,its',n',r,e⟩
def rSetL:V->V->V->Hp->(Hp->Prop)->Prop:=fun o i v H Q=>∃p xs k j,o=.ref p/\i=.int k/\H p=some (.lst xs)/\ixN xs.length k=some j/\Q (upd H p (.lst (xs.set j v)))
def zf:PSet X rSetL:=by
 intro HM s σ H o i v ov iv u Q I ro ri rv h;obtain⟨p,xs,k,j,rfl,rfl,hp,hj,q⟩:=h;cases ro;obtain⟨t,rfl⟩:=ri;obtain⟨its,n,r,ho,hz⟩:=I.lst hp;obtain⟨h1,h2,h3,h4⟩:=vt hj;have hl:=r.length;have hn:=j7;have I':Inv X HM σ (upd H p (.lst (xs.set j v))) { s with heap:=s.heap.update p (Obj.mapSeq (·.setIfInBounds j u))} :=
  I.lstUpd hp ho (v7 its n j u) (r.set rv j) (by rw[List.length_set];exact hz) s.toks
 by_cases h0:0<=k
 ·have hk:k.toNat=j:=by
   rw[seqIndex_of h0 h4] at h1;exact Option.some.inj h1
  exact PySem.W.ki_setAt ho h0 (by ext) (by rw[qaq,<-hl];exact h4) (by rw[hk];exact⟨_,I',q⟩)
 ·have hk:(k+(its.toArray.size:Int)).toNat=j:=by
   rw[seqIndex_neg (by ext) h3] at h1;rw[qaq,<-hl];exact Option.some.inj h1
  exact PySem.W.ki_setBack ho (by ext) (by rw[qaq,<-hl];exact h3) (by ext) (by rw[hk];exact⟨_,I',q⟩)
def tf:bQ X (.type "list") (fun xs H Q=>∃p ys,xs=[.ref p]/\(SqL X.K H p ys\/SqT X.K H p ys)/\∀l,H l=none->Q (.ref l) (upd H l (.lst ys))):=by
 intro HM s σ H xs us Q I r h;obtain⟨p,ys,rfl,hq,q⟩:=h;obtain⟨u,rfl,rx⟩:=dM r;cases rx;have fin:∀(its:List Value),ar ys its->ys.length<=sizeLine->∀(h':Heap) (c':Nat),(∀b o',s.heap.get? b=some o'->h'.get? b=some o') ->
   h'.get? s.heap.objs.size=some { cls:=.type "list",dict:=none,data:=.seq its.toArray c',slots:=#[]}->EP X HM σ Q (.ref s.heap.objs.size) { s with heap:=h'}:=fun its r' hz h' c' kp e =>
  ⟨.ref s.heap.objs.size,_,I.laid (t':=s.toks) kp (qai _) (show ObjOk X.prog X.w _ h' _ (.lst ys) from⟨hz,its,c',r',e⟩),rfl,q _ (I.hok.fresh (qai _))⟩
 rcases hq with hq|hq
 ·obtain⟨its,r',pl,hz⟩:=I.list hq;have hlen:=r'.length;obtain⟨o,ho,hc,n,hd⟩:=pl.isList;exact call_list_seq p (.inl rfl) ho hc hd (fun h' c' kp e=>fin its r' hz h' c' kp e) (by simp only[qaq] <;> ext)
 ·obtain⟨its,r',pl,hz⟩:=I.tuple hq;have hlen:=r'.length;obtain⟨o,ho,hc,n,hd⟩:=pl;exact call_list_seq p (.inr rfl) ho hc hd (fun h' c' kp e=>fin its r' hz h' c' kp e) (by simp only[qaq] <;> ext)
def jR:bQ X (.type "tuple") (fun xs H Q=>∃p ys,xs=[.ref p]/\((SqL X.K H p ys/\∀l,H l=none->Q (.ref l) (upd H l (.tup ys)))\/(SqT X.K H p ys/\Q (.ref p) H))):=by
 intro HM s σ H xs us Q I r h;obtain⟨p,ys,rfl,h⟩:=h;obtain⟨u,rfl,rx⟩:=dM r;cases rx;rcases h with ⟨hq,q⟩|⟨hq,q⟩
 ·obtain⟨its,r',pl,hz⟩:=I.list hq;have hlen:=r'.length;refine call_tuple_list pl.isList (fun h' kp=>?_) (by simp only[qaq] <;> ext);have I1:Inv X HM σ H { s with heap:=h'}:=I.kept (t':=s.toks) kp;have I2:Inv X HM σ (upd H h'.objs.size (.tup ys)) { s with heap:=h'.push { cls:=.type "tuple",data:=.seq its.toArray}} :=
   I1.laid (t':=s.toks) (fun b o e=>qab _ e) (qai _) (show ObjOk X.prog X.w _ _ _ (.tup ys) from⟨hz,its,r',ij.new _ _⟩)
  exact⟨.ref h'.objs.size,_,I2,rfl,q _ (I1.hok.fresh (qai _))⟩
 ·obtain⟨its,r',pl,hz⟩:=I.tuple hq;exact call_tuple_same pl ⟨.ref p,H,I,rfl,q⟩
def tyV(K:qac)(T:String)(x:V)(H:Hp):Prop:=match x with
 | .str _=>T="str"
 | .int _=>T="int"
 | .ref p=>(T="list"/\∃xs,SqL K H p xs)\/(T="tuple"/\∃o,K.lookup p=some o/\o.cls=.type "tuple"/\o.dict=none) \/
   (T="dict"/\((∃kvs,H p=some (.dK kvs))\/∃kvs,H p=some (.dT kvs)))\/(T="set"/\∃S n,H p=some (.set S n))
 | _=>False
def tyV_is{HM:List (Addr × Obj)}{σ:St}{H:Hp}{s:Shared}{T:String}{x:V}{v:Value}(I:Inv X HM σ H s)(r:aF x v)(ty:tyV X.K T x H) :
  s.TypeIs v T/\∀a,v=.ref a->∃ob,s.heap.get? a=some ob/\ob.dict=none:=by
 cases x with
 | str z =>
  obtain⟨t,rfl⟩:=r;cases (show T="str" from ty);exact⟨typeIs_str s z t,fun _ e=>nomatch e⟩
 | int i =>
  obtain⟨t,rfl⟩:=r;cases (show T="int" from ty);exact⟨typeIs_int s i t,fun _ e=>nomatch e⟩
 | ref p =>
  cases r;rcases ty with ⟨rfl,xs,hq⟩|⟨rfl,o,hk,hc,hd⟩|⟨rfl,hk⟩|⟨rfl,S,n,hk⟩
  ·obtain⟨its,_,pl,_⟩:=I.list hq;refine⟨pl.isList.typeIs,fun a e=>?_⟩;cases e;obtain⟨o,n,e,c,hd,_⟩:=pl;exact⟨o,e,hd⟩
  ·refine⟨⟨o,I.kIn p o hk,hc⟩,fun a e=>?_⟩;cases e;exact⟨o,I.kIn _ o hk,hd⟩
  ·have z:∃o,s.heap.get? p=some o/\o.ExactDict:=by
    rcases hk with ⟨kvs,hk⟩|⟨kvs,hk⟩
    ·obtain⟨_,_,_,_,o,_,_,e,ex,_⟩:=I.hok p _ hk;exact⟨o,e,ex⟩
    ·obtain⟨_,_,_,_,o,_,_,e,ex,_⟩:=I.hok p _ hk;exact⟨o,e,ex⟩
   obtain⟨o,e,ex⟩:=z;refine⟨⟨o,e,ex.1⟩,fun a e2=>?_⟩;cases e2;exact⟨o,e,ex.2.1⟩
  ·obtain⟨o,_,_,_,e,ex,_⟩:=I.hok p _ hk;refine⟨⟨o,e,ex.1⟩,fun a e2=>?_⟩;cases e2;exact⟨o,e,ex.2.1⟩
 | _=>exact False.elim ty
def tBM(K:qac)(T:String)(r:V->List V->Hp->VK->Prop)(to:TE)(t:TA):TE:=fun σ H Q=>to σ H fun x H1=>tyV K T x H1/\t σ H1 fun xs H2=>r x xs H2 Q
variable {o e:Expr} {es:List Expr} {to:TE} {t:TA} {name:Str} {apos cpos:Pos} {T id:String} {r:V→List V→Hp→VK→Prop}
def pe_bm(pa:PlainAttrs T)(slot:Slot T name id)(hty:typeOf (.builtin id)=pure (.type "method_descriptor"))(hm:MtR X id r)(ho:PE X o to)(ha:PA X (e::es) t)
  (hbase:attributeBase o name X.env (eval o X.env)=eval o X.env:=by rfl)
  (hfew:((backTo cpos (starEach (e::es) X.env)).all (fun x=>!x.1) && (backToKw cpos (keywordEach [] X.env)).all (fun x=>x.1.isSome)
   && decide ((e::es).length+([]:List Keyword).length+(if ([]:List Keyword).isEmpty then 0 else 1)<30))=true:=by rfl)
  (hline:(apos.endLine == cpos.line)=true:=by rfl) (hs:starEach (e::es) X.env=(false,eval e X.env)::starEach es X.env:=by rfl) (hplain:(backTo cpos (starEach es X.env)).any (·.1)=false:=by rfl) :
  PE X (.Call (.Attribute o name apos) (e::es) [] cpos) (tBM X.K T r to t):=by
 intro HM s σ H Q I h;refine wpAny_Call_method_late hbase hfew hline rfl (thn (ho HM s σ H _ I h) fun v s1 ⟨x,H1,I1,r1,ty,q1⟩=>?_);obtain⟨h1,h2⟩:=tyV_is I1 r1 ty;refine⟨T,id,pa,slot,hty,h1,h2,?_⟩;have hA:=ha cpos HM s1 σ H1 _ I1 q1;rw[hs] at hA ⊢;refine Calls.callWith_builtin (by show (false || (backTo cpos (starEach es X.env)).any (·.1))=false;rw[hplain] <;> rfl) (Calls.evalArgs_plain ?_);exact thn hA fun us s2 ⟨vs,H2,I2,r2,q2⟩=>hm HM s2 σ H2 x vs v us Q I2 r1 r2 q2
end
def MtM(X:Cx)(id:String)(r:V->List V->Hp->VK->Prop):Prop :=
 ∀(HM:List (Addr × Obj)) (s:Shared) (σ:St) (H:Hp) (x:V) (xs:List V) (v:Value) (us:List Value) (Q:VK),Inv X HM σ H s->aF x v->ar xs us->r x xs H Q ->
  wpAny (model X.prog X.w) X.A (call (.builtin id) (v::us)) (EP X HM σ Q) X.xe s
def ar.zero(h:ar [] us):us=[]:=by cases h;rfl
def ar.one(h:ar [x] us):∃u,us=[u]/\aF x u:=by
 cases h with|cons r t=>exact⟨_,by rw[ar.zero t],r⟩
def ar.rep(h:ar xs us):∀k:Nat,ar (List.replicate k xs).flatten (List.replicate k us).flatten
 | 0=>.nil
 | k+1=>by
  rw[qaS,qaS,qbo,qbo];exact ar.append h (ar.rep h k)
def qf(its:List Value):∀(k:Nat) (acc:List Value),
  List.foldl (fun x1 x2=>x1++x2) acc.toArray (List.replicate k its.toArray)=(acc++(List.replicate k its).flatten).toArray
 | 0,acc=>by simp
 | k+1,acc=>by
  have e:acc.toArray++its.toArray=(acc++its).toArray:=by simp
  have e2:(acc++its)++(List.replicate k its).flatten=acc++(List.replicate (k+1) its).flatten:=by
   rw[qaS,qbo,qbd]
  rw[<-e2,<-qf its k (acc++its),<-e,qaS,qcl]
section
variable {X:Cx} {HM:List (Addr × Obj)} {σ:St} {H:Hp} {s:Shared} {l b:Addr} {xs ys zs:List V}
def Inv.lset{its its':List Value}{n:Nat}{f:Array Value->Array Value}{t':Nat}(I:Inv X HM σ H s)(hH:H l=some (.lst xs))
  (e:s.heap.get? l=some { cls:=.type "list",data:=.seq its.toArray n}) (hf:f its.toArray=its'.toArray) (hv:ar ys its') (hz:ys.length<=sizeLine) :
  Inv X HM σ (upd H l (.lst ys)) { s with heap:=s.heap.update l (Obj.mapSeq f),toks:=t'}:=by
 have q:=PySem.IsL.update e f;rw[hf] at q;refine I.write (x:=l) (e:=l) (by rw[hH];exact trivial) (.inl rfl) (fun b' u hb hu=>(qbP s.heap (Obj.mapSeq f) (Ne.symm hb)).trans hu) ⟨_,q⟩ ?_;exact⟨hz,its',_,hv,q⟩
def Inv.lnew(I:Inv X HM σ H s)(hv:ar ys its)(hz:ys.length<=sizeLine) :
  Inv X HM σ (upd H s.heap.objs.size (.lst ys)) { s with heap:=s.heap.push { cls:=.type "list",data:=.seq its.toArray},toks:=t'} :=
 I.laid (fun _ _ q=>qab _ q) (qai _) ⟨hz,its,0,hv,qap _ rfl⟩
def Inv.fresh(I:Inv X HM σ H s):H s.heap.objs.size=none:=I.hok.fresh (qai _)
def Inv.lstM(I:Inv X HM σ H s)(hH:H l=some (.lst xs)):xs.length<=sizeLine/\∃(its:List Value) (n:Nat),ar xs its/\xs.length=its.length/\s.heap.get? l=some { cls:=.type "list",data:=.seq its.toArray n}:=by
 obtain⟨z,its,n,r,e⟩:=I.hok l _ hH;exact⟨z,its,n,r,r.length,e⟩
def mT(h:n<=sizeLine):Builtin.List.listTooLong n=false:=by
 unfold Builtin.List.listTooLong;exact decide_eq_false (by ext)
end
section
variable {X:Cx}
def rAppend:V->List V->Hp->VK->Prop:=fun x vs H Q=>∃l xs y,x=.ref l/\vs=[y]/\H l=some (.lst xs)/\xs.length<sizeLine/\Q .non (upd H l (.lst (xs++[y])))
def pU:MtM X "list.append" rAppend:=by
 intro HM s σ H x vs v us Q I rx rv h;obtain⟨l,xs,y,rfl,rfl,hH,hz,q⟩:=h;cases rx;obtain⟨u,rfl,ru⟩:=rv.one;obtain⟨z,its,n,r,hl,e⟩:=I.lstM hH;refine call_meets F.slot_list_append ⟨_,e,rfl⟩ F.entry_list_append (F.args_list_append_2 _ _) (PySem.list_append l its.toArray n u (by rw[qaq];ext)) ⟨e,?_⟩;refine⟨.non,_,I.lset (its':=its++[u]) hH e (by simp) (r.append (.cons ru .nil)) ?_,rfl,q⟩;rw[qaQ,List.length_singleton];ext
def rExtend:V->List V->Hp->VK->Prop:=fun x vs H Q=>∃l b xs zs,x=.ref l/\vs=[.ref b]/\H l=some (.lst xs)/\H b=some (.lst zs)/\xs.length+zs.length<=sizeLine/\Q .non (upd H l (.lst (xs++zs)))
def yy:MtM X "list.extend" rExtend:=by
 intro HM s σ H x vs v us Q I rx rv h;obtain⟨l,b,xs,zs,rfl,rfl,hH,hB,hz,q⟩:=h;cases rx;obtain⟨u,rfl,ru⟩:=rv.one;cases ru;obtain⟨z,its,n,r,hl,e⟩:=I.lstM hH;obtain⟨z2,its2,n2,r2,hl2,e2⟩:=I.lstM hB;have hsz:its.toArray.size+its2.toArray.size<=sizeLine:=by rw[qaq,qaq];ext
 have hlong:¬(!its.toArray.isEmpty && Builtin.List.listTooLong (its.toArray.size+its2.toArray.size))=true:=by
  rw[mT hsz,qcN];exact qaL
 refine call_meets F.slot_list_extend ⟨_,e,rfl⟩ F.entry_list_extend (F.args_list_extend_2 _ _)
  (AutoSeq1.list_extend_list_list_0 l its.toArray n b its2.toArray n2 hlong (by rw[qaq];ext) (by ext)) ⟨e,e2,?_⟩
 refine⟨.non,_,I.lset (its':=its++its2) hH e (by simp) (r.append r2) ?_,rfl,q⟩;rw[qaQ];ext
def rCat:R2:=fun x y H Q=>∃l b xs zs,x=.ref l/\y=.ref b/\H l=some (.lst xs)/\H b=some (.lst zs)/\xs.length+zs.length<=sizeLine/\∀p,H p=none->Q (.ref p) (upd H p (.lst (xs++zs)))
def op_cat:OpR X (binaryOp .Add) rCat:=by
 intro HM s σ H x y v u Q I rx ry h;obtain⟨l,b,xs,zs,rfl,rfl,hH,hB,hz,q⟩:=h;cases rx;cases ry;obtain⟨z,its,n,r,hl,e⟩:=I.lstM hH;obtain⟨z2,its2,n2,r2,hl2,e2⟩:=I.lstM hB;refine PySem.P.add_list e e2 ?_ (by rw[qaq,qaq];ext);have ea:its.toArray++its2.toArray=(its++its2).toArray:=by simp
 rw[ea];exact⟨.ref _,_,I.lnew (t':=s.toks) (r.append r2) (by rw[qaQ];ext),rfl,q _ I.fresh⟩
def rRep:R2:=fun x y H Q=>∃l k xs,x=.ref l/\y=.int k/\H l=some (.lst xs) /\ -(2 ^ 63)<=k/\k<2 ^ 63/\xs.length * k.toNat<=sizeLine /\
 ∀p,H p=none->Q (.ref p) (upd H p (.lst (List.replicate k.toNat xs).flatten))
def uO{α:Type}(xs:List α)(k:Nat):(List.replicate k xs).flatten.length=k * xs.length:=by
 induction k with
 | zero=>simp
 | succ k ih=>rw[qaS,qbo,qaQ,ih,Nat.succ_mul,Nat.add_comm]
def op_rep:OpR X (binaryOp .Mult) rRep:=by
 intro HM s σ H x y v u Q I rx ry h;obtain⟨l,k,xs,rfl,rfl,hH,h1,h2,hz,q⟩:=h;cases rx;obtain⟨t,rfl⟩:=ry;obtain⟨z,its,n,r,hl,e⟩:=I.lstM hH;have hlen:its.toArray.size * k.toNat<=sizeLine:=by rw[qaq,<-hl];exact hz
 have hcap:¬its.toArray.size * k.toNat>(2 ^ 63 - 1) / 8:=by
  have:(sizeLine:Nat)<=(2 ^ 63 - 1) / 8:=by decide
  ext
 have hfit:¬(!Builtin.List.listFitsIndex k)=true:=by
  rw[fitsIndex_both h1 h2];exact qaL
 have hlong:¬Builtin.List.listTooLong (its.toArray.size * k.toNat)=true:=by
  rw[mT hlen];exact qaL
 have hnew:List.foldl (fun x1 x2=>x1++x2) #[] (List.replicate (if its.toArray.isEmpty=true then 0 else k.toNat) its.toArray)=(List.replicate k.toNat its).flatten.toArray:=by
  have f0:∀m:Nat,List.foldl (fun x1 x2=>x1++x2) #[] (List.replicate m its.toArray)=(List.replicate m its).flatten.toArray:=fun m=>by
   have:=qf its m []
   rw[List.nil_append] at this;exact this
  rw[f0]
  cases its with
  | nil=>simp
  | cons a r'=>rw[qan (by simp)]
 refine wpAny_binaryOp_repeat_ref (T:="list") (U:="int") (by decide) ⟨_,e,rfl⟩ (fun s'=>typeIs_int s' k t) noFill_list_mul F.fills_int_mul F.slot_int_rmul repeat_list F.slot_int_index.lookup
  (call_meets F.slot_int_rmul (typeIs_int s k t) F.entry_int_rmul (F.args_int_rmul_2 _ _) (int___rmul___int_list k t l its.toArray n)
   ⟨e,rfl,⟨_,e,rfl⟩,call_meets F.slot_list_mul ⟨_,e,rfl⟩ F.entry_list_mul (F.args_list_mul_2 _ _) (AutoListH.list___mul___list_int_3 l its.toArray n k t hfit hcap hlong) ⟨e,?_⟩⟩)
 rw[hnew];exact⟨.ref _,_,I.lnew (t':=s.toks) (r.rep k.toNat) (by rw[uO,Nat.mul_comm];exact hz),rfl,q _ I.fresh⟩
end
section
variable {prog:Program} {w:World} {A:Around} {E:Value→Shared→Prop} {s:Shared}
end
section
variable {X:Cx}
end
end L2
namespace Att
open PySem PySem.W PySem.Calls PyProof.Rows
def nW:∀(ns:List Int) (vs:List Value),WellAll P h vs (ns.map WData.int)->IntsAre vs ns:=by
 intro ns
 induction ns with
 | nil =>
  intro vs w;rw[List.map_nil] at w;cases w;exact .nil
 | cons n ns ih =>
  intro vs w;rw[qau] at w
  cases w with
  | cons a b =>
   cases a;exact .cons _ _ (ih _ b)
def x3{l:OpenLaw}{n:Nat}(hn:l.most=some n){P:Params}{h:Heap}{args:List WData}{vals:List Value}
  (hpre:l.row.toRowW.claim.pre args=true) (hwl:WellAll P h vals args) :
  ∃a vs ns,vals=[Value.ref a]/\args=[WData.list (ns.map WData.int)]/\h.get? a=some { cls:=.type "list",data:=.seq vs.toArray}/\IntsAre vs ns/\ns.length<=n:=by
 have hsh:WShape.hasAll [] args [.list .int]=true:=(pre_splitW hpre).1;have hc:l.pre.holds [] { args:=args}=true:=(pre_splitW hpre).2;obtain⟨d,r,rfl,h1,h2⟩:=hasAllW_cons hsh;obtain rfl:=hasAllW_nil h2;obtain⟨xs,rfl,h3⟩:=hasW_list h1;obtain⟨ns,rfl⟩:=items_int h3;have hlen:ns.length<=n:=by
  unfold OpenLaw.pre at hc;have h4:(WTm.not (.lt (.lit (.int (n:Int))) (.len (.arg 0)))).holds [] { args:=[.list (ns.map .int)]}=true:=by
   have h4:=(holds_andW hc).1;rw[hn] at h4;exact h4
  have h5:=condW_of h4 (w_not (w_lt w_lit (w_len_list (w_arg rfl))));rw[qaB] at h5;refine Nat.le_of_not_lt fun q=>?_;have q':(n:Int)<((ns.length:Nat):Int):=by ext
  first
   | (rw[decide_eq_true q'] at h5;exact absurd h5 (by decide))
   | (simp at h5;ext)
 cases hwl with
 | cons w1 w2 =>
  cases w2
  cases w1 with
  | list ho hall=>exact⟨_,_,ns,rfl,rfl,ho,nW ns _ hall,hlen⟩
def xN(l:OpenLaw)(args:List WData):l.row.toRowW.claim.post args (.bool true) args=true :=
 postW_of (r:=l.row.toRowW) (X:=(true == true))
  (show WShape.has [] (.bool true) .bool=true by first | rfl | decide | simp[WShape.has,WShape.arms,WShape.armsAll])
  (show (WTm.eq .res (.lit (.bool true))).value [] { args:=args,res:=some (.bool true),after:=args}=some (.bool (true == true)) from w_eq_bool (w_res rfl) w_lit) rfl
def ub{l:OpenLaw}{n:Nat}{q:Program}{loose:List Str}{XP:(Str->Option Value)->Heap->Prop}{YP:World->Heap->Prop}{d:DefRec}
  (hn:l.most=some n) (hdf:d.params.defaults=[])
  (call:∀(w:World) (s₀ s₁:Shared) (mg mb:Str->Option Value) (fa:Addr) (o:Obj) (pm cd doc:Value) (a:Addr) (vs:List Value) (ns:List Int),
   Ground q loose [] XP w s₀ mg mb s₁.heap->YP w s₁.heap ->
   s₁.heap.get? fa=some o->o.data=.func (docDef d.name d.params d.body d.scope pm cd doc)->s₁.heap.CodeRec cd d.name->mg d.name=some (.ref fa) ->
   s₁.heap.get? a=some { cls:=.type "list",data:=.seq vs.toArray}->IntsAre vs ns->ns.length<=n->s₁.gens=#[] ->
   codeAny (model l.prog w) callerA (.call (.ref fa) ⟨[.ref a],[]⟩) (fun r s'=>r=.ok (.ret (.bool true))/\OldK s₁.heap s'.heap/\s'.os=s₁.os/\AllBare s'.gens) s₁) :
  WalkO q loose XP YP l.row.toRowW d [] (fun f vs=>PySem.call f vs):=by
 intro w s₀ s₁ mg mb G Y fa o pm cd doc dV kV ho hd hcd hD hmg hg args vals as hpre hlay hrd hwl hlo;obtain rfl:dV=.none:=Dflts.none hD hdf;obtain rfl:kV=.none:=Dflts.noKw hD;obtain⟨a,vs,ns,rfl,rfl,hobj,hints,hlen⟩:=x3 hn hpre hwl;refine enter_call (codeAny_mono (call w s₀ s₁ mg mb fa o pm cd doc a vs ns G Y ho (fd_plain hd) hcd hmg hobj hints hlen hg) fun r s' hq=>?_);obtain⟨rfl,h2,h3,h4⟩:=hq;exact⟨.inl ⟨.bool true,.bool true,[],rfl,fun _=>rfl,.bool true,xN l _,fun _=>⟨List.Pairwise.nil,fun _ hm=>(nomatch hm)⟩⟩,h2,h3,h4⟩
section
variable {prog:Program} {w:World} {A:Around} {E:Value→Shared→Prop} {s:Shared} {K:Frag}
end
end Att
namespace L2
open PySem PySem.Spec PyProof.Rows
def pY:∀{vs:List Value} {ns:List Int},IntsAre vs ns->ar (ns.map V.int) vs
 | _,_,.nil=>.nil
 | _,_,.cons n t h=>.cons ⟨t,rfl⟩ (pY h)
def Only(H:Hp):Prop:=∀b,H b=none\/∃o xs,H b=some (.frz o (.lst xs))
def yN{P:Program}{w:World}{K:qac}{mg mb:Str->Option Value}{CX:CXT}{k:Nat}{fa a:Addr}{fd:FuncData}{x:Str}{sp:Sp}{s₁:Shared}{vs:List Value}{ns:List Int}
  (KX:K.In s₁.heap) (hns:s₁.heap.Ns mainGlobals mg) (hb:s₁.heap.Ns builtinsNs mb) (hbb:∀x:Str,x≠"__name__"->mb x=bootBuiltins x) (hlim:s₁.heap.NoLimit) (hg:s₁.gens=#[])
  (ha:s₁.heap.get? a=some { cls:=.type "list",data:=.seq vs.toArray}) (hi:IntsAre vs ns) (hl:ns.length<=sizeLine) (hr:Room k callerA)
  (F:∀base:Heap,K.In base->base.Ns mainGlobals mg->FnOk P w K mg base CX k fa fd [x] sp) (hbind:∀(s:Shared) (u:Value),BindsTo s fd ⟨[u],[]⟩ [(x,u)])
  (hsp:∀H:Hp,Only H->SqL K H a (ns.map V.int)->sp [.ref a] H (fun v _=>v=.bl true) fun _ _ _=>False)
  (hCX:∀H e s',CX [] H s₁ (fun _ _ _=>False) e s'->False) :
  codeAny (model P w) callerA (.call (.ref fa) ⟨[.ref a],[]⟩) (fun r s'=>r=.ok (.ret (.bool true))/\OldK s₁.heap s'.heap/\s'.os=s₁.os/\AllBare s'.gens) s₁:=by
 have rv:=pY hi;have lenV:=hi.length;have core:∀H:Hp,Only H->SqL K H a (ns.map V.int)->HOk P w H s₁.heap->(∀b,H b≠none->b=a)->(H a≠none->K.lookup a=none) ->
   codeAny (model P w) callerA (.call (.ref fa) ⟨[.ref a],[]⟩) (fun r s'=>r=.ok (.ret (.bool true))/\OldK s₁.heap s'.heap/\s'.os=s₁.os/\AllBare s'.gens) s₁:=by
  intro H hO hS hok hA hK;have base_of:∀{b:Addr} {o:Obj},s₁.heap.get? b=some o->H b=none->(jf s₁.heap H).get? b=some o:=fun e n=>yE e n;have noA:∀{b:Addr} {o:Obj} {es:Array DictEntry} {ep:Nat},s₁.heap.get? b=some o->o.data=.dict es ep->H b=none:=fun {b o es ep} e d=>by
   cases q:H b with
   | none=>rfl
   | some u =>
    have e':b=a:=hA b (by rw[q];simp);subst e';rw[ha] at e;cases e;have d':Data.seq vs.toArray _=Data.dict es ep:=d;cases d'
  have nsK:∀{b:Addr} {m:Str->Option Value},s₁.heap.Ns b m->(jf s₁.heap H).Ns b m:=fun {b m} ⟨o,es,ep,e,d,r⟩=>⟨o,es,ep,base_of e (noA e d),d,r⟩
  have hKb:K.In (jf s₁.heap H):=fun b o e=>base_of (KX b o e) (by
   cases q:H b with
   | none=>rfl
   | some u =>
    have e':b=a:=hA b (by rw[q];simp);subst e'
    rw[hK (by rw[q];simp)] at e;cases e)
  have hM:Mod K mg (jf s₁.heap H):=⟨hKb,nsK hns,⟨mb,nsK hb,hbb⟩,let ⟨mc,h1,h2⟩:=hlim;⟨mc,nsK h1,h2⟩⟩;have e0:Env0 P w K mg (jf s₁.heap H) callerA [] s₁ H:=⟨rfl,hM,fun b o e=>of_hidT e,Nat.le_of_eq (x5 _ _),trivial,fun b hb=>absurd (show b∈([]:List Addr) from hb) (by simp),hok,.of_eq hg⟩;refine codeAny_mono ((F _ hKb (nsK hns)).run callerA [] s₁ H ⟨[.ref a],[]⟩ [.ref a] [.ref a] _ _ hr e0 (hbind s₁ (.ref a)) (.cons rfl .nil) (hsp H hO hS)) fun r s' h=>?_
  cases r with
  | error e=>exact (hCX H e s' h).elim
  | ok fl =>
   cases fl with
   | next=>exact False.elim h
   | brk=>exact False.elim h
   | cont=>exact False.elim h
   | ret u =>
    obtain⟨v,H',os,bare,un,hok',r',q⟩:=h;have q':v=.bl true:=q;subst q';obtain rfl:u=Value.bool true:=r';refine⟨rfl,OldK.of_keep fun b o e=>?_,os,bare⟩
    cases q:H b with
    | none=>exact un.keep b o e q (by intro z;exact absurd (show b∈([]:List Addr) from z) (by simp)) (by simp)
    | some u =>
     rcases hO b with z|⟨ob,xs,z⟩
     ·rw[q] at z;cases z
     ·have z2:=un.frzs b ob _ z;obtain⟨e1,_⟩:=hok b _ z;obtain⟨e2,_⟩:=hok' b _ z2;rw[e] at e1;cases e1;exact e2
 cases hk:K.lookup a with
 | some o =>
  have e:=KX a o hk;rw[ha] at e;cases e;refine core (fun _=>none) (fun _=>.inl rfl) (.inr ⟨_,vs.toArray,_,hk,rfl,rfl,rfl,by rw[qaq,lenV];exact hl,by simpa using rv⟩) (fun b u z=>by have z':(none:Option HO)=some u:=z;cases z') (fun b z=>absurd rfl z) fun z=>absurd rfl z
 | none =>
  refine core (fun b=>if b=a then some (.frz { cls:=.type "list",data:=.seq vs.toArray} (.lst (ns.map V.int))) else none) (fun b=>?_) (.inl (.inr ⟨{ cls:=.type "list",data:=.seq vs.toArray},qah rfl⟩)) (fun b u z=>?_) (fun b z=>?_) fun _=>hk
  ·by_cases hb:b=a
   ·exact .inr ⟨_,_,qah hb⟩
   ·exact .inl (qan hb)
  ·by_cases hb:b=a
   ·have z':=(qah hb).symm.trans z;cases z';subst hb;exact⟨ha,by rw[qaB];exact hl,vs,_,rv,ha⟩
   ·have z':=(qan hb).symm.trans z;cases z'
  ·by_cases hb:b=a
   ·exact hb
   ·exact absurd (qan hb) z
abbrev KOf{K:qac}{h:Heap}(_:K.In h):qac:=K
def walk_of{l:PySem.W.OpenLaw}{n k:Nat}{q:Program}{loose:List Str}{XP:(Str->Option Value)->Heap->Prop}{YP:World->Heap->Prop}{d:DefRec}{K:Params->qac}{CX:World->CXT}{sp:World->Sp}{x:Str}
  (hn:l.most=some n) (hn2:n<=sizeLine) (hdf:d.params.defaults=[]) (hr:Room k callerA)
  (hY:∀(w:World) (h:Heap),YP w h->(K w.params).In h)
  (F:∀(w:World) (mg:Str->Option Value) (fa:Addr) (h:Heap),(K w.params).In h->h.Ns mainGlobals mg->mg d.name=some (.ref fa) ->
   ∃fd:FuncData,(∀(s:Shared) (u:Value),BindsTo s fd ⟨[u],[]⟩ [(x,u)]) /\
    ∀base:Heap,(K w.params).In base->base.Ns mainGlobals mg->FnOk l.prog w (K w.params) mg base (CX w) k fa fd [x] (sp w))
  (hsp:∀(w:World) (H:Hp) (a:Addr) (ns:List Int),ns.length<=n->Only H->SqL (K w.params) H a (ns.map V.int)->sp w [.ref a] H (fun v _=>v=.bl true) fun _ _ _=>False)
  (hCX:∀(w:World) (H:Hp) (s:Shared) (e:Value) (s':Shared),CX w [] H s (fun _ _ _=>False) e s'->False) :
  PySem.W.WalkO q loose XP YP l.row.toRowW d [] (fun f vs=>PySem.call f vs):=by
 refine Att.ub hn hdf fun w s₀ s₁ mg mb fa o pm cd doc a vs ns G Y ho hd hcd hmg hobj hints hlen hg=>?_;have KX:=hY w _ Y;obtain⟨fd,hb,hF⟩:=F w mg fa _ KX G.T.g hmg;exact yN KX G.T.g G.T.b G.T.builtins G.T.nolimit hg hobj hints (qaJ hlen hn2) hr hF hb (fun H hO hS=>hsp w H a ns hlen hO hS) fun H e s'=>hCX w H s₁ e s'
def gE(s:Stmt):Arguments:=match s with
 | .FunctionDef _ a _ _ _ _ _ _ _ _=>a
 | _=>{ posonlyargs:=[],args:=[],vararg:=none,kwonlyargs:=[],kw_defaults:=[],kwarg:=none,defaults:=[]}
def aC(s:Stmt):List Stmt:=match s with
 | .FunctionDef _ _ b _ _ _ _ _ _ _=>b
 | _=>[]
def aE(s:Stmt):Scope:=match s with
 | .FunctionDef _ _ _ _ _ _ sc _ _ _=>sc
 | _=>{ kind:=.function,names:=[],isGenerator:=false,isCoroutine:=false}
structure Fun (K:qac) (x qual:Str) (st:Stmt) (f:Addr) (fd:FuncData):Prop where
 ex:∃(oc:Value) (od:Option Addr) (kV doc pm:Value) (an:Option Addr) (cdv ct:Value) (osl:Array (Option Value)),
  fd=PySem.W.fnOf x qual (gE st) (aC st) (aE st) .none kV doc pm an cdv ct/\K.lookup f=some ⟨oc,od,.func fd,osl⟩/\PySem.W.codeIn K cdv qual=true
 kp:PySem.W.keepIn K (.ref f)=true
section
variable {P:Program} {w:World} {K:qac} {mg:Str→Option Value} {base:Heap}
def Fun.binds{x qual:Str}{st:Stmt}{f:Addr}{fd:FuncData}{ps:List Str}(F:Fun K x qual st f fd)
  (h:∀(kV doc pm:Value) (an:Option Addr) (cdv ct:Value) (us:List Value),us.length=ps.length->bindArgs (PySem.W.fnOf x qual (gE st) (aC st) (aE st) .none kV doc pm an cdv ct) ⟨us,[]⟩=pure (ps.zip us)):nk K fd ps []:=by
 obtain⟨oc,od,kV,doc,pm,an,cdv,ct,osl,rfl,lk,hcd⟩:=F.ex;exact .all (h kV doc pm an cdv ct)
def fun_mk{x qual:Str}{st:Stmt}{f:Addr}{oc:Value}{od an:Option Addr}{osl:Array (Option Value)}{kV doc pm cdv ct:Value}(l:K.lookup f=some ⟨oc,od,.func (PySem.W.fnOf x qual (gE st) (aC st) (aE st) .none kV doc pm an cdv ct),osl⟩)
  (c:PySem.W.codeIn K cdv qual=true) (k:PySem.W.keepIn K (.ref f)=true):Fun K x qual st f (PySem.W.fnOf x qual (gE st) (aC st) (aE st) .none kV doc pm an cdv ct):=⟨⟨oc,od,kV,doc,pm,an,cdv,ct,osl,rfl,l,c⟩,k⟩
end
section
variable {X:Cx}
end
end L2
namespace MM
open PySem PySem.Spec PyProof.Rows L2
inductive PV where
 | non | bl (b:Bool) | int (i:Int) | str (x:Str) | tup (xs:List PV) | frl (xs:List PV) | loc (n:Nat)
structure MExc where
 cls:Str
 fs:List (Str × PV):=[]
inductive MO where
 | lst (xs:List PV)
 | dic (kvs:List (PV × PV))
 | exc (x:MExc)
abbrev MH:=List MO
abbrev PSt:=List (Option PV)
inductive Out (α:Type) where
 | ok (a:α) (h:MH)
 | exc (x:MExc) (h:MH)
 | bad
def Out.bind{α β:Type}(o:Out α)(f:α->MH->Out β):Out β:=match o with
 | .ok a h=>f a h
 | .exc x h=>.exc x h
 | .bad=>.bad
@[simp] theorem Out.bind_ok(a:α)(h:MH)(f:α->MH->Out β):(Out.ok a h).bind f=f a h:=rfl
@[simp] theorem Out.bind_exc(x:MExc)(h:MH)(f:α->MH->Out β):(Out.exc x h).bind f=.exc x h:=rfl
@[simp] theorem Out.bind_bad(f:α->MH->Out β):(Out.bad:Out α).bind f=.bad:=rfl
inductive SOut where
 | nx (σ:PSt) (h:MH)
 | rt (v:PV) (h:MH)
 | bk (σ:PSt) (h:MH)
 | ct (σ:PSt) (h:MH)
 | exc (x:MExc) (σ:PSt) (h:MH)
 | rse (x:MExc) (σ:PSt) (h:MH)
 | bad
def Out.ne{α:Type}(o:Out α):Out α:=match o with
 | .exc _ _=>.bad
 | o=>o
@[simp] theorem Out.ne_ok(a:α)(h:MH):(Out.ok a h).ne=.ok a h:=rfl
@[simp] theorem Out.ne_bad:(Out.bad:Out α).ne=.bad:=rfl
@[simp] theorem Out.ne_ne(o:Out α):o.ne.ne=o.ne:=by cases o <;> rfl
def SqF(K:qac)(H:Hp)(a:Addr)(ys:List V):Prop :=
 (∃o,H a=some (.frz o (.lst ys))) \/
  ∃(o:Obj) (its:Array Value) (n:Nat),K.lookup a=some o/\o.cls=.type "list"/\o.dict=none/\o.data=.seq its n/\its.size<=sizeLine/\ar ys its.toList
def SqF.sq{K:qac}{H:Hp}{a:Addr}{ys:List V}(h:SqF K H a ys):SqL K H a ys:=by
 rcases h with h|h
 ·exact .inl (.inr h)
 ·exact .inr h
mutual
inductive RP (K:qac) (ρ:List Addr) (H:Hp):PV->V->Prop where
 | non:RP K ρ H .non .non
 | bl (b:Bool):RP K ρ H (.bl b) (.bl b)
 | int (i:Int):RP K ρ H (.int i) (.int i)
 | str (x:Str):RP K ρ H (.str x) (.str x)
 | tup {xs:List PV} {a:Addr} {ys:List V} (s:SqT K H a ys) (r:RPs K ρ H xs ys):RP K ρ H (.tup xs) (.ref a)
 | frl {xs:List PV} {a:Addr} {ys:List V} (s:SqF K H a ys) (r:RPs K ρ H xs ys):RP K ρ H (.frl xs) (.ref a)
 | loc {n:Nat} {a:Addr} (e:ρ[n]?=some a):RP K ρ H (.loc n) (.ref a)
inductive RPs (K:qac) (ρ:List Addr) (H:Hp):List PV->List V->Prop where
 | nil:RPs K ρ H [] []
 | cons {x:PV} {y:V} {xs:List PV} {ys:List V} (r:RP K ρ H x y) (t:RPs K ρ H xs ys):RPs K ρ H (x::xs) (y::ys)
end
structure Le (ρ:List Addr) (H:Hp) (ρ':List Addr) (H':Hp):Prop where
 pre:∃m,ρ'=ρ++m
 tup:∀a xs,H a=some (.tup xs)->H' a=some (.tup xs)
 frz:∀a o u,H a=some (.frz o u)->H' a=some (.frz o u)
def Le.refl(ρ:List Addr)(H:Hp):Le ρ H ρ H:=⟨⟨[],by simp⟩,fun _ _ h=>h,fun _ _ _ h=>h⟩
def Le.trans(a:Le ρ H ρ1 H1)(b:Le ρ1 H1 ρ2 H2):Le ρ H ρ2 H2:=by
 obtain⟨m,e⟩:=a.pre;obtain⟨m',e'⟩:=b.pre;exact⟨⟨m++m',by rw[e',e,qbd]⟩,fun c xs h=>b.tup c xs (a.tup c xs h),fun c o u h=>b.frz c o u (a.frz c o u h)⟩
def Le.get{ρ ρ':List Addr}{H H':Hp}(l:Le ρ H ρ' H'){n:Nat}{a:Addr}(e:ρ[n]?=some a):ρ'[n]?=some a:=by
 obtain⟨m,e'⟩:=l.pre;rw[e',qao (qad.mp e).1];exact e
def Le.sqt{K:qac}{ρ ρ':List Addr}{H H':Hp}(l:Le ρ H ρ' H'){a:Addr}{xs:List V}(h:SqT K H a xs):SqT K H' a xs:=by
 rcases h with (h|⟨o,h⟩)|h
 ·exact .inl (.inl (l.tup _ _ h))
 ·exact .inl (.inr ⟨o,l.frz _ _ _ h⟩)
 ·exact .inr h
def Le.sqf{K:qac}{ρ ρ':List Addr}{H H':Hp}(l:Le ρ H ρ' H'){a:Addr}{xs:List V}(h:SqF K H a xs):SqF K H' a xs:=by
 rcases h with ⟨o,h⟩|h
 ·exact .inl ⟨o,l.frz _ _ _ h⟩
 ·exact .inr h
section
variable {K:qac} {ρ ρ':List Addr} {H H':Hp}
def RP.le(l:Le ρ H ρ' H'){x:PV}{y:V}(r:RP K ρ H x y):RP K ρ' H' x y :=
 RP.rec (motive_1:=fun x y _=>RP K ρ' H' x y) (motive_2:=fun x y _=>RPs K ρ' H' x y) .non .bl .int .str (fun s _ i=>.tup (l.sqt s) i) (fun s _ i=>.frl (l.sqf s) i) (fun e=>.loc (l.get e)) .nil (fun _ _ a b=>.cons a b) r
def RPs.le(l:Le ρ H ρ' H')(r:RPs K ρ H xs ys):RPs K ρ' H' xs ys:=by
 induction xs generalizing ys with
 | nil=>cases r;exact .nil
 | cons x xs ih=>cases r with | cons a t=>exact .cons (a.le l) (ih t)
def RPs.length(r:RPs K ρ H xs ys):xs.length=ys.length:=by
 induction xs generalizing ys with
 | nil=>cases r;rfl
 | cons x xs ih=>cases r with | cons a t=>exact congrArg (·+1) (ih t)
def RPs.get{xs:List PV}{ys:List V}{i:Nat}{x:PV}(r:RPs K ρ H xs ys)(e:xs[i]?=some x):∃y,ys[i]?=some y/\RP K ρ H x y:=by
 induction xs generalizing ys i with
 | nil=>cases e
 | cons x xs ih =>
  cases r with
  | cons a t =>
   cases i with
   | zero=>cases e;exact⟨_,rfl,a⟩
   | succ i=>have z:=@ih _ i t e;exact z
def RPs.set(r:RP K ρ H x u)(i:Nat)(q:RPs K ρ H xs us):RPs K ρ H (xs.set i x) (us.set i u):=by
 induction xs generalizing us i with
 | nil=>cases q;exact .nil
 | cons x xs ih =>
  cases q with
  | cons a t =>
   cases i with
   | zero=>exact .cons r t
   | succ i=>exact .cons a (ih i t)
def RPs.append(r:RPs K ρ H xs us)(s:RPs K ρ H ys ws):RPs K ρ H (xs++ys) (us++ws):=by
 induction xs generalizing us with
 | nil=>cases r;exact s
 | cons x xs ih=>cases r with | cons a t=>exact .cons a (ih t)
def RPs.take(n:Nat)(r:RPs K ρ H xs us):RPs K ρ H (xs.take n) (us.take n):=by
 induction n generalizing xs us with
 | zero=>exact .nil
 | succ n ih =>
  cases xs with
  | nil=>cases r;exact .nil
  | cons x xs=>cases r with | cons a t=>exact .cons a (ih t)
def RPs.drop(n:Nat)(r:RPs K ρ H xs us):RPs K ρ H (xs.drop n) (us.drop n):=by
 induction n generalizing xs us with
 | zero=>exact r
 | succ n ih =>
  cases xs with
  | nil=>cases r;exact .nil
  | cons x xs=>cases r with | cons a t=>exact ih t
def RPs.ints:∀(ns:List Int),RPs K ρ H (ns.map PV.int) (ns.map V.int)
 | []=>.nil
 | n::r=>.cons (.int n) (RPs.ints r)
end
def ExcAt(a C:Addr)(h:Heap):Prop:=∃o vs,h.get? a=some o/\o.cls=.ref C/\o.data=.fields vs
abbrev MGl:=Str->Option Value
def RO(K:qac)(mg:MGl)(ρ:List Addr)(H:Hp)(a:Addr):MO->Option HO->Prop
 | .lst xs,oh=>∃ys,oh=some (.lst ys)/\RPs K ρ H xs ys
 | .dic kvs,oh=>kvs=[]/\oh=some (.dK [])
 | .exc x,oh=>x.fs=[]/\∃C,mg x.cls=some (.ref C)/\oh=some (.ext (ExcAt a C))
structure RH (K:qac) (mg:MGl) (ρ:List Addr) (H:Hp) (h:MH):Prop where
 len:ρ.length=h.length
 nd:ρ.Nodup
 at':∀(n:Nat) (a:Addr) (o:MO),ρ[n]?=some a->h[n]?=some o->RO K mg ρ H a o (H a)
def RO.le{K:qac}{mg:MGl}{ρ ρ':List Addr}{H H':Hp}{a:Addr}(l:Le ρ H ρ' H'){o:MO}{oh:Option HO}(r:RO K mg ρ H a o oh):RO K mg ρ' H' a o oh:=by
 cases o with
 | lst xs=>obtain⟨ys,e,r⟩:=r;exact⟨ys,e,r.le l⟩
 | dic kvs=>exact r
 | exc x=>exact r
def RO.some{K:qac}{mg:MGl}{ρ:List Addr}{H:Hp}{a:Addr}{o:MO}{oh:Option HO}(r:RO K mg ρ H a o oh):oh≠none:=by
 cases o with
 | lst xs=>obtain⟨ys,e,_⟩:=r;rw[e];simp
 | dic kvs=>obtain⟨_,e⟩:=r;rw[e];simp
 | exc x=>obtain⟨_,C,_,e⟩:=r;rw[e];simp
def RO.plain{K:qac}{mg:MGl}{ρ:List Addr}{H:Hp}{a:Addr}{o:MO}{oh:Option HO}(r:RO K mg ρ H a o oh):(∀xs,oh≠Option.some (.tup xs))/\∀p u,oh≠Option.some (.frz p u):=by
 cases o with
 | lst xs=>obtain⟨ys,e,_⟩:=r;rw[e];exact⟨(fun _ z=>nomatch z),(fun _ _ z=>nomatch z)⟩
 | dic kvs=>obtain⟨_,e⟩:=r;rw[e];exact⟨(fun _ z=>nomatch z),(fun _ _ z=>nomatch z)⟩
 | exc x=>obtain⟨_,C,_,e⟩:=r;rw[e];exact⟨(fun _ z=>nomatch z),(fun _ _ z=>nomatch z)⟩
section
variable {K:qac} {mg:MGl} {ρ:List Addr} {H:Hp} {h:MH}
def RH.obj(r:RH K mg ρ H h){n:Nat}{a:Addr}(e:ρ[n]?=some a):∃o,h[n]?=some o/\RO K mg ρ H a o (H a):=by
 have hn:n<h.length:=by rw[<-r.len];exact (qad.mp e).1
 exact⟨h[n],by simp[hn],r.at' n a _ e (by simp[hn])⟩
def RH.new(r:RH K mg ρ H h){p:Addr}(hp:H p=none){o:MO}{ho:HO}(hn:RO K mg ρ H p o (some ho)):RH K mg (ρ++[p]) (upd H p ho) (h++[o])/\Le ρ H (ρ++[p]) (upd H p ho):=by
 have hne:∀n a,ρ[n]?=some a->a≠p:=fun n a e z=>by
  obtain⟨o',_,q⟩:=r.obj e;rw[z,hp] at q;exact q.some rfl
 have l:Le ρ H (ρ++[p]) (upd H p ho):=⟨⟨[p],rfl⟩,fun a xs e=>by rw[aQ (bp e hp)];exact e,fun a ob u e=>by rw[aQ (bp e hp)];exact e⟩;refine⟨⟨by simp[r.len],?_,fun n a o' e1 e2=>?_⟩,l⟩
 ·rw[qbU];refine⟨r.nd,by simp,fun a ha b hb=>?_⟩;obtain⟨n,e⟩:=qaA.mp ha;have hb':b=p:=by simpa using hb
  rw[hb'];exact hne n a e
 ·by_cases hlt:n<ρ.length
  ·rw[qao hlt] at e1;rw[qao (by rw[<-r.len];exact hlt)] at e2;rw[aQ (hne n a e1)];exact (r.at' n a o' e1 e2).le l
  ·rw[qaC (by lia)] at e1;rw[qaC (by rw[<-r.len];lia)] at e2;have hn0:n - ρ.length=0:=by
    rcases Nat.eq_zero_or_pos (n - ρ.length) with z|z
    ·exact z
    ·rw[qaR (by simp;lia)] at e1;cases e1
   rw[hn0] at e1;have hn1:n - h.length=0:=by have:=r.len;lia
   rw[hn1] at e2;simp at e1 e2;subst e1;subst e2;rw[bB];exact hn.le l
def RH.put(r:RH K mg ρ H h){n:Nat}{a:Addr}(e:ρ[n]?=some a){o:MO}{ho:HO}(hn:RO K mg ρ H a o (some ho)):RH K mg ρ (upd H a ho) (h.set n o)/\Le ρ H ρ (upd H a ho):=by
 obtain⟨o0,_,q⟩:=r.obj e;obtain⟨q1,q2⟩:=q.plain
 have l:Le ρ H ρ (upd H a ho):=⟨⟨[],by simp⟩,fun b xs z=>by
   have:b≠a:=by rintro rfl;exact q1 _ z
   rw[aQ this];exact z,fun b ob u z=>by
   have:b≠a:=by rintro rfl;exact q2 _ _ z
   rw[aQ this];exact z⟩
 refine⟨⟨by simp[r.len],r.nd,fun m b o' e1 e2=>?_⟩,l⟩;by_cases hm:m=n
 ·subst hm;rw[e] at e1;cases e1;rw[bB]
  have:m<h.length:=by rw[<-r.len];exact (qad.mp e).1
  rw[qaE this] at e2;cases e2;exact hn.le l
 ·rw[qam (fun z=>hm z.symm)] at e2;have hb:b≠a:=by
   rintro rfl;have h1:=qad.mp e;have h2:=qad.mp e1;obtain⟨l1,g1⟩:=h1;obtain⟨l2,g2⟩:=h2;exact hm ((List.getElem_inj r.nd).mp (g2.trans g1.symm))
  rw[aQ hb];exact (r.at' m b o' e1 e2).le l
def RH.tup(r:RH K mg ρ H h){p:Addr}(hp:H p=none)(ys:List V):RH K mg ρ (upd H p (.tup ys)) h/\Le ρ H ρ (upd H p (.tup ys)):=by
 have hne:∀n a,ρ[n]?=some a->a≠p:=fun n a e z=>by
  obtain⟨o',_,q⟩:=r.obj e;rw[z,hp] at q;exact q.some rfl
 have l:Le ρ H ρ (upd H p (.tup ys)):=⟨⟨[],by simp⟩,fun a xs e=>by rw[aQ (bp e hp)];exact e,fun a ob u e=>by rw[aQ (bp e hp)];exact e⟩;exact⟨⟨r.len,r.nd,fun n a o e1 e2=>by rw[aQ (hne n a e1)];exact (r.at' n a o e1 e2).le l⟩,l⟩
end
def RS(K:qac)(ρ:List Addr)(H:Hp)(σp:PSt)(σ:L2.St):Prop :=
 σ.length=σp.length/\∀(i:Nat) (v:PV),σp[i]?=some (some v)->∃v',σ[i]?=some (some v')/\RP K ρ H v v'
def RS.le{K:qac}{ρ ρ':List Addr}{H H':Hp}{σp:PSt}{σ:L2.St}(l:Le ρ H ρ' H')(r:RS K ρ H σp σ):RS K ρ' H' σp σ :=
 ⟨r.1,fun i v e=>by obtain⟨v',e',q⟩:=r.2 i v e;exact⟨v',e',q.le l⟩⟩
def RS.set{K:qac}{ρ:List Addr}{H:Hp}{σp:PSt}{σ:L2.St}(r:RS K ρ H σp σ)(i:Nat){v:PV}{v':V}(q:RP K ρ H v v'):RS K ρ H (σp.set i (some v)) (σ.set i (some v')):=by
 refine⟨by simp[r.1],fun j u e=>?_⟩;by_cases hj:j=i
 ·subst hj;by_cases hl:j<σp.length
  ·rw[qaE hl] at e;cases e;exact⟨v',qaE (by rw[r.1];exact hl),q⟩
  ·rw[qaR (by simp;lia)] at e;cases e
 ·rw[qam (fun z=>hj z.symm)] at e;obtain⟨u',e',q'⟩:=r.2 j u e;exact⟨u',by rw[qam (fun z=>hj z.symm)];exact e',q'⟩
def Cov(B:Heap)(fs:List Addr)(h:Heap):Prop:=∀b o,h.get? b=some o->b∉fs->∃ob,B.get? b=some ob
def Fly(l:List Env)(H:Hp)(lim:Heap)(C ea:Addr)(h:Heap):Prop :=
 ∃B t,Heap.FlyingW B l ea (.ref C) (.ref t) h/\(∀b o,H b=some o->∃ob,B.get? b=some ob)/\Cov B (frs l) lim/\H ea=none
structure Bears (X:Cx) (h:Heap):Prop where
 old:∀b o,X.s₀.heap.get? b=some o->b∉X.ex->∃o',h.get? b=some o'
 cell:∀x c,X.env.cells.lookup x=some c->∃o,h.get? c=some o
 pin:∀p∈X.pn,∃o,h.get? p.1=some o
def Inv.bears{X:Cx}{HM:List (Addr × Obj)}{σ:L2.St}{H:Hp}{s:Shared}(I:Inv X HM σ H s):Bears X s.heap :=
 ⟨fun b o e n=>I.base.there b o e n,fun x c e=>let ⟨_,o,eo,_⟩:=I.cell x c e;⟨o,eo⟩,fun p hp=>⟨_,(I.pin p (qaG _ hp)).1⟩⟩
def XP(X:Cx)(σp:PSt)(ρ:List Addr)(H:Hp)(x:MExc)(h:MH):Prop:=∀(ea C:Addr) (ρ':List Addr) (H':Hp) (σ':L2.St) (s':Shared) (lim:Heap),x.fs=[]->X.mg x.cls=some (.ref C)->Le ρ H ρ' H'->RH X.K X.mg ρ' H' h->RS X.K ρ' H' σp σ' ->
 Inv X [] σ' H' s'->Bears X lim->Fly X.stack H' lim C ea s'.heap->X.xe (.ref ea) s'
def XM(X:Cx)(σp:PSt)(ρ:List Addr)(H:Hp)(x:MExc)(h:MH):Prop:=∀(ea C:Addr) (ρ':List Addr) (H':Hp) (σ':L2.St) (s':Shared) (h0:Heap) (args:List Value),x.fs=[]->X.mg x.cls=some (.ref C)->Le ρ H ρ' H'->RH X.K X.mg ρ' H' h->RS X.K ρ' H' σp σ' ->
 Inv X [] σ' H' { s' with heap:=h0}->Heap.MadeExcOf h0 s'.heap ea (.ref C) args->X.xe (.ref ea) s'
def XP.le(l:Le ρ H ρ' H')(q:XP X σp ρ H x h):XP X σp ρ' H' x h :=
 fun ea C ρ2 H2 σ2 s2 lim e1 e2 l2=>q ea C ρ2 H2 σ2 s2 lim e1 e2 (l.trans l2)
def XM.le(l:Le ρ H ρ' H')(q:XM X σp ρ H x h):XM X σp ρ' H' x h :=
 fun ea C ρ2 H2 σ2 s2 lim args e1 e2 l2=>q ea C ρ2 H2 σ2 s2 lim args e1 e2 (l.trans l2)
abbrev Rl(α β:Type):=List Addr->Hp->α->β->Prop
def Ful{α β:Type}(X:Cx)(R:Rl α β)(σp:PSt)(ρ:List Addr)(H:Hp)(o:Out α)(Q:β->Hp->Prop):Prop:=match o with
 | .ok v h'=>∀ρ' H' v',Le ρ H ρ' H'->RH X.K X.mg ρ' H' h'->R ρ' H' v v'->Q v' H'
 | .exc x h'=>XP X σp ρ H x h'
 | .bad=>False
def jl{α β:Type}(X:Cx)(R:Rl α β)(ρ:List Addr)(H:Hp)(o:Out α)(Q:β->Hp->Prop):Prop:=match o with
 | .ok v h'=>∀ρ' H' v',Le ρ H ρ' H'->RH X.K X.mg ρ' H' h'->R ρ' H' v v'->Q v' H'
 | _=>False
def Ful.zero(f:Ful X R σp ρ H o.ne Q):jl X R ρ H o Q:=by
 cases o with
 | ok v h=>exact f
 | exc x h=>exact f
 | bad=>exact f
def Ful.le(l:Le ρ H ρ1 H1)(f:Ful X R σp ρ H o Q):Ful X R σp ρ1 H1 o Q:=by
 cases o with
 | ok v h=>exact fun ρ' H' v' l'=>f ρ' H' v' (l.trans l')
 | exc x h=>exact XP.le (X:=X) (σp:=σp) (x:=x) (h:=h) l f
 | bad=>exact f
def Ful.bind{α β γ δ:Type}{X:Cx}{R:Rl α β}{S:Rl γ δ}{σp:PSt}{ρ:List Addr}{H:Hp}{o:Out α}{f:α->MH->Out γ}{Q:δ->Hp->Prop}{Q':β->Hp->Prop}(q:Ful X S σp ρ H (o.bind f) Q)
  (k:∀ρ1 H1 v v' h1,o=.ok v h1->Le ρ H ρ1 H1->RH X.K X.mg ρ1 H1 h1->R ρ1 H1 v v'->Ful X S σp ρ1 H1 (f v h1) Q->Q' v' H1):Ful X R σp ρ H o Q':=by
 cases o with
 | ok v h=>exact fun ρ' H' v' l r w=>k ρ' H' v v' h rfl l r w (Ful.le l q)
 | exc x h=>exact q
 | bad=>exact q
abbrev RV'(X:Cx):Rl PV V:=fun ρ H=>RP X.K ρ H
abbrev RVs'(X:Cx):Rl (List PV) (List V):=fun ρ H=>RPs X.K ρ H
abbrev REq{α:Type}:Rl α α:=fun _ _ x y=>x=y
abbrev Mx(α:Type):=PSt->MH->Out α
inductive tM {α β:Type} (X:Cx) (R:Rl α β) (m:Mx α) (σ:L2.St) (H:Hp) (Q:β->Hp->Prop):Prop
 | mk (ρ:List Addr) (σp:PSt) (h:MH) (rs:RS X.K ρ H σp σ) (rh:RH X.K X.mg ρ H h) (q:Ful X R σp ρ H (m σp h) Q):tM X R m σ H Q
def ME(X:Cx)(e:Expr)(m:Mx PV):Prop:=PE X e (tM X (RV' X) m)
def MT(X:Cx)(e:Expr)(m:Mx Bool):Prop:=PT X e (tM X REq m)
def MW(X:Cx)(e:Expr)(m:Mx Bool):Prop:=PW X e (tM X REq m)
def MA(X:Cx)(es:List Expr)(m:Mx (List PV)):Prop:=PA X es (tM X (RVs' X) m)
def PE.imp(h:PE X e t)(i:∀σ H Q,t' σ H Q->t σ H Q):PE X e t':=fun HM s σ H Q I q=>h HM s σ H Q I (i σ H Q q)
def PT.imp(h:PT X e t)(i:∀σ H Q,t' σ H Q->t σ H Q):PT X e t':=fun HM s σ H Q I q=>h HM s σ H Q I (i σ H Q q)
def PW.imp(h:PW X e t)(i:∀σ H Q,t' σ H Q->t σ H Q):PW X e t':=fun whole HM s σ H Q I q=>h whole HM s σ H Q I (i σ H Q q)
def PA.imp(h:PA X e t)(i:∀σ H Q,t' σ H Q->t σ H Q):PA X e t':=fun pos HM s σ H Q I q=>h pos HM s σ H Q I (i σ H Q q)
def PS.imp(h:PS X e t)(i:∀D σ H,t' D σ H->t D σ H):PS X e t':=fun HM s σ H D I q=>h HM s σ H D I (i D σ H q)
def PSs.imp(h:PSs X e t)(i:∀D σ H,t' D σ H->t D σ H):PSs X e t':=fun HM s σ H D I q=>h HM s σ H D I (i D σ H q)
def bc(X:Cx)(ρ:List Addr)(H:Hp)(o:SOut)(D:Ends):Prop:=match o with
 | .nx σp h'=>∀ρ' H' σ',Le ρ H ρ' H'->RH X.K X.mg ρ' H' h'->RS X.K ρ' H' σp σ'->D.nx σ' H'
 | .bk σp h'=>∀ρ' H' σ',Le ρ H ρ' H'->RH X.K X.mg ρ' H' h'->RS X.K ρ' H' σp σ'->D.bk σ' H'
 | .ct σp h'=>∀ρ' H' σ',Le ρ H ρ' H'->RH X.K X.mg ρ' H' h'->RS X.K ρ' H' σp σ'->D.ct σ' H'
 | .rt v h'=>∀ρ' H' v',Le ρ H ρ' H'->RH X.K X.mg ρ' H' h'->RP X.K ρ' H' v v'->D.rt v' H'
 | .exc x σp h'=>XP X σp ρ H x h'
 | .rse x σp h'=>XM X σp ρ H x h'
 | .bad=>False
def bc.le(l:Le ρ H ρ1 H1)(f:bc X ρ H o D):bc X ρ1 H1 o D:=by
 cases o with
 | nx σp h=>exact fun ρ' H' v' l'=>f ρ' H' v' (l.trans l')
 | bk σp h=>exact fun ρ' H' v' l'=>f ρ' H' v' (l.trans l')
 | ct σp h=>exact fun ρ' H' v' l'=>f ρ' H' v' (l.trans l')
 | rt v h=>exact fun ρ' H' v' l'=>f ρ' H' v' (l.trans l')
 | exc x σp h=>exact XP.le (X:=X) (σp:=σp) (x:=x) (h:=h) l f
 | rse x σp h=>exact XM.le (X:=X) (σp:=σp) (x:=x) (h:=h) l f
 | bad=>exact f
abbrev Mst:=PSt->MH->SOut
inductive tMS (X:Cx) (m:Mst) (D:Ends) (σ:L2.St) (H:Hp):Prop
 | mk (ρ:List Addr) (σp:PSt) (h:MH) (rs:RS X.K ρ H σp σ) (rh:RH X.K X.mg ρ H h) (q:bc X ρ H (m σp h) D):tMS X m D σ H
def MS(X:Cx)(st:Stmt)(m:Mst):Prop:=PS X st (tMS X m)
def MSs(X:Cx)(st:List Stmt)(m:Mst):Prop:=PSs X st (tMS X m)
section
variable {X:Cx} {N W G:List Str} {k:Nat}
structure Good (X:Cx) (N W G:List Str) (k:Nat):Prop where
 hN:X.N=N
 nd:N.Nodup
 loc:∀x∈N,Loc X.env.scope x
 fn:∀x∈W,X.fn x=true\/X.env.scope.names.lookup x=some .local
 gl:∀x∈G,Gl X x
 dbg:∀x∈N++G,(x == ("__debug__":Str))=false/\(x == ("__classdict__":Str))=false/\x≠"__name__"
 calm:X.calm=true
 room:Room k X.A
 po:PassesOwn (model X.prog X.w) X.A X.env X.xe
def Good.x(g:Good X N W G k){i:Nat}{x:Str}(hi:N[i]?=some x):X.N[i]?=some x:=by rw[g.hN];exact hi
def az{l:List Str}{i:Nat}{x:Str}(hi:l[i]?=some x):x∈l:=qaV hi
def rJ(X:Cx)(g:PV->PV->MH->Out PV):R2:=fun x' y' H Q=>∃ρ h x y,RH X.K X.mg ρ H h/\RP X.K ρ H x x'/\RP X.K ρ H y y'/\jl X (RV' X) ρ H (g x y h) Q
abbrev OpJ(X:Cx)(f:Value->Value->Sem Value)(g:PV->PV->MH->Out PV):Prop:=OpR X f (rJ X g)
def uJ(X:Cx)(g:PV->MH->Out PV):V->Hp->VK->Prop:=fun x' H Q=>∃ρ h x,RH X.K X.mg ρ H h/\RP X.K ρ H x x'/\jl X (RV' X) ρ H (g x h) Q
abbrev UnJ(X:Cx)(f:Value->Sem Value)(g:PV->MH->Out PV):Prop:=UnR X f (uJ X g)
def cJ(X:Cx)(g:List PV->MH->Out PV):List V->Hp->VK->Prop:=fun xs' H Q=>∃ρ h xs,RH X.K X.mg ρ H h/\RPs X.K ρ H xs xs'/\jl X (RV' X) ρ H (g xs h) Q
abbrev cp(X:Cx)(f:Value)(g:List PV->MH->Out PV):Prop:=bQ X f (cJ X g)
def ag(i:Nat):Mx PV:=fun σ h=>match σ[i]? with
 | some (some v)=>.ok v h
 | _=>.bad
def mC(v:PV):Mx PV:=fun _ h=>.ok v h
def me_var(g:Good X N W G k)(i:Nat){x:Str}{pos:Pos}(hi:N[i]?=some x):ME X (.Name x pos) (ag i):=by
 have d:=g.dbg x (qaG _ (az hi));have hv:Vis X.env.scope x:=by
  rcases g.loc x (az hi) with q|q
  ·exact .inl q
  ·exact .inr (.inl q)
 refine PE.imp (pe_var (g.x hi) hv d.1 d.2.1) fun σ H Q ⟨ρ,σp,h,rs,rh,f⟩=>?_;unfold ag at f
 cases e:σp[i]? with
 | none=>rw[e] at f;exact f.elim
 | some o =>
  rw[e] at f
  cases o with
  | none=>exact f.elim
  | some v =>
   obtain⟨v',e',r⟩:=rs.2 i v e;exact⟨v',e',f ρ H v' (Le.refl _ _) rh r⟩
def ai:ME X (.Constant (.int i) j pos) (mC (.int i)):=PE.imp pe_int fun _ H _ ⟨ρ,_,_,_,rh,f⟩=>f ρ H _ (Le.refl _ _) rh (.int i)
def oA:ME X (.Constant (.str i) j pos) (mC (.str i)):=PE.imp pe_str fun _ H _ ⟨ρ,_,_,_,rh,f⟩=>f ρ H _ (Le.refl _ _) rh (.str i)
def gp:ME X (.Constant (.bool i) j pos) (mC (.bl i)):=PE.imp pe_bl fun _ H _ ⟨ρ,_,_,_,rh,f⟩=>f ρ H _ (Le.refl _ _) rh (.bl i)
def ye:ME X (.Constant .none j pos) (mC .non):=PE.imp pe_non fun _ H _ ⟨ρ,_,_,_,rh,f⟩=>f ρ H _ (Le.refl _ _) rh .non
def aj(f:PV->PV->MH->Out PV)(ma mb:Mx PV):Mx PV:=fun σ h=>(ma σ h).bind fun x h1=>(mb σ h1).bind fun y h2=>(f x y h2).ne
def mUn(f:PV->MH->Out PV)(ma:Mx PV):Mx PV:=fun σ h=>(ma σ h).bind fun x h1=>(f x h1).ne
def sK{f:PV->PV->MH->Out PV}{ma mb:Mx PV}{σ:L2.St}{H:Hp}{Q:VK}(q:tM X (RV' X) (aj f ma mb) σ H Q):tOp (rJ X f) (tM X (RV' X) ma) (tM X (RV' X) mb) σ H Q:=by
 obtain⟨ρ,σp,h,rs,rh,q⟩:=q;refine⟨ρ,σp,h,rs,rh,Ful.bind q fun ρ1 H1 x x' h1 _ l1 rh1 rx q1=>?_⟩;refine⟨ρ1,σp,h1,rs.le l1,rh1,Ful.bind q1 fun ρ2 H2 y y' h2 _ l2 rh2 ry q2=>?_⟩;exact⟨ρ2,h2,x,y,rh2,rx.le l2,ry,q2.zero⟩
def au(ho:OpJ X (binaryOp op) f)(ha:ME X a ma)(hb:ME X b mb):ME X (.BinOp a op b pos) (aj f ma mb) :=
 PE.imp (pe_op ho ha hb) fun _ _ _ q=>sK q
def me_un(ho:UnJ X (unaryOp op) f)(ha:ME X a ma):ME X (.UnaryOp op a pos) (mUn f ma) :=
 PE.imp (pe_un ho ha) fun _ _ _ ⟨ρ,σp,h,rs,rh,q⟩=>⟨ρ,σp,h,rs,rh,Ful.bind q fun ρ1 H1 x x' h1 _ l1 rh1 rx q1=>⟨ρ1,h1,x,rh1,rx,q1.zero⟩⟩
def me_cmp(ho:OpJ X (compareOp op) f)(ha:ME X a ma)(hb:ME X b mb)(hm:behindInMarks op b=false):ME X (.Compare a [op] [b] pos) (aj f ma mb) :=
 PE.imp (pe_cmpR ho ha hb hm) fun _ _ _ q=>sK q
def mB(m:Mx PV):Mx Bool:=fun σ h=>(m σ h).bind fun v h1=>match v with
 | .bl b=>.ok b h1
 | _=>.bad
def tM_B(q:tM X REq (mB m) σ H Q):tM X (RV' X) m σ H fun x H1=>∃c,x=.bl c/\Q c H1:=by
 obtain⟨ρ,σp,h,rs,rh,q⟩:=q;refine⟨ρ,σp,h,rs,rh,Ful.bind q fun ρ1 H1 x x' h1 _ l1 rh1 rx q1=>?_⟩
 cases rx with
 | bl b=>exact⟨b,rfl,q1 ρ1 H1 b (Le.refl _ _) rh1 rfl⟩
 | _=>exact q1.elim
def mt_cmp(ho:OpJ X (compareOp op) f)(ha:ME X a ma)(hb:ME X b mb)(hm:behindInMarks op b=false):MT X (.Compare a [op] [b] pos) (mB (aj f ma mb)) :=
 PT.imp (pt_cmpR ho ha hb hm) fun σ H Q q=>by
  obtain⟨ρ,σp,h,rs,rh,q⟩:=tM_B q;exact sK (Q:=fun x H'=>∃k,x=.bl k/\Q k H') ⟨ρ,σp,h,rs,rh,q⟩
def bq(h:ME X e m)(he:∀whole,isTrue e X.env whole=(do let v <-whole;standAt e.pos;holding [v] (truthy v)):=by intro _;rfl):MT X e (mB m) :=
 PT.imp (pt_val h he) fun _ _ _ q=>tM_B q
def cw(m:Mx Bool):Mx Bool:=fun σ h=>(m σ h).bind fun b h1=>.ok (!b) h1
def bI(h:MT X e m):MT X (.UnaryOp .Not e pos) (cw m) :=
 PT.imp (pt_not h) fun _ _ _ ⟨ρ,σp,h,rs,rh,q⟩=>⟨ρ,σp,h,rs,rh,Ful.bind q fun ρ1 H1 x x' h1 _ l1 rh1 rx q1=>by
  cases rx;exact q1 ρ1 H1 _ (Le.refl _ _) rh1 rfl⟩
def mAnd(a b:Mx Bool):Mx Bool:=fun σ h=>(a σ h).bind fun x h1=>if x=true then b σ h1 else .ok false h1
def mOr(a b:Mx Bool):Mx Bool:=fun σ h=>(a σ h).bind fun x h1=>if x=true then .ok true h1 else b σ h1
section
variable {a b:Expr} {rest:List Expr} {ma mb:Mx Bool} {pos:Pos}
def mw_and1(ha:MT X a ma):MW X (.BoolOp .And [a] pos) ma:=pw_and1 ha
def gZ(ha:MT X a ma):MW X (.BoolOp .Or [a] pos) ma:=pw_or1 ha
def mw_and(ha:MT X a ma)(hb:MW X (.BoolOp .And (b::rest) pos) mb):MW X (.BoolOp .And (a::b::rest) pos) (mAnd ma mb) :=
 PW.imp (pw_and ha hb) fun σ H Q ⟨ρ,σp,h,rs,rh,q⟩=>⟨ρ,σp,h,rs,rh,Ful.bind q fun ρ1 H1 x x' h1 _ l1 rh1 rx q1=>by
  cases rx
  cases x with
  | true=>rw[qah rfl] at q1 ⊢;exact⟨ρ1,σp,h1,rs.le l1,rh1,q1⟩
  | false=>rw[qan qaL] at q1 ⊢;exact q1 ρ1 H1 _ (Le.refl _ _) rh1 rfl⟩
def fw(ha:MT X a ma)(hb:MW X (.BoolOp .Or (b::rest) pos) mb):MW X (.BoolOp .Or (a::b::rest) pos) (mOr ma mb) :=
 PW.imp (pw_or ha hb) fun σ H Q ⟨ρ,σp,h,rs,rh,q⟩=>⟨ρ,σp,h,rs,rh,Ful.bind q fun ρ1 H1 x x' h1 _ l1 rh1 rx q1=>by
  cases rx
  cases x with
  | true=>rw[qah rfl] at q1 ⊢;exact q1 ρ1 H1 _ (Le.refl _ _) rh1 rfl
  | false=>rw[qan qaL] at q1 ⊢;exact⟨ρ1,σp,h1,rs.le l1,rh1,q1⟩⟩
def MW.mt(h:MW X e m):MT X e m:=PW.pt h
end
def bZ(a b:Mx PV):Mx PV:=fun σ h=>(a σ h).bind fun x h1=>match x with
 | .bl c=>if c=true then b σ h1 else .ok (.bl false) h1
 | _=>.bad
def nJ(a:Mx PV):Mx PV:=fun σ h=>(a σ h).bind fun x h1=>match x with
 | .bl c=>.ok (.bl (!c)) h1
 | _=>.bad
section
variable {a b:Expr} {rest:List Expr} {ma mb:Mx PV} {pos:Pos}
def cY(ha:ME X a ma):ME X (.BoolOp op [a] pos) ma:=pe_one ha
def bU(ha:ME X a ma)(hb:ME X (.BoolOp .And (b::rest) pos) mb):ME X (.BoolOp .And (a::b::rest) pos) (bZ ma mb) :=
 PE.imp (pe_and ha hb) fun σ H Q ⟨ρ,σp,h,rs,rh,q⟩=>⟨ρ,σp,h,rs,rh,Ful.bind q fun ρ1 H1 x x' h1 _ l1 rh1 rx q1=>by
  cases rx with
  | bl c =>
   refine⟨c,rfl,?_⟩;dsimp only at q1
   cases c with
   | true=>rw[qah rfl] at q1 ⊢;exact⟨ρ1,σp,h1,rs.le l1,rh1,q1⟩
   | false=>rw[qan qaL] at q1 ⊢;exact q1 ρ1 H1 _ (Le.refl _ _) rh1 (.bl false)
  | _=>exact q1.elim⟩
def xm(ha:ME X a ma):ME X (.UnaryOp .Not a pos) (nJ ma) :=
 PE.imp (pe_not ha) fun σ H Q ⟨ρ,σp,h,rs,rh,q⟩=>⟨ρ,σp,h,rs,rh,Ful.bind q fun ρ1 H1 x x' h1 _ l1 rh1 rx q1=>by
  cases rx with
  | bl c=>exact⟨c,rfl,q1 ρ1 H1 _ (Le.refl _ _) rh1 (.bl _)⟩
  | _=>exact q1.elim⟩
end
def mNil:Mx (List PV):=fun _ h=>.ok [] h
def ac(a:Mx PV)(r:Mx (List PV)):Mx (List PV):=fun σ h=>(a σ h).bind fun x h1=>(r σ h1).bind fun xs h2=>.ok (x::xs) h2
def ah:MA X [] mNil:=PA.imp g0 fun σ H Q ⟨ρ,σp,h,rs,rh,q⟩=>q ρ H _ (Le.refl _ _) rh .nil
def af(ha:ME X e m)(hr:MA X es ms)(hs:starEach (e::es) X.env=(false,eval e X.env)::starEach es X.env:=by rfl):MA X (e::es) (ac m ms) :=
 PA.imp (cO ha hr hs) fun σ H Q ⟨ρ,σp,h,rs,rh,q⟩=>⟨ρ,σp,h,rs,rh,Ful.bind q fun ρ1 H1 x x' h1 _ l1 rh1 rx q1 =>
  ⟨ρ1,σp,h1,rs.le l1,rh1,Ful.bind q1 fun ρ2 H2 y y' h2 _ l2 rh2 ry q2=>q2 ρ2 H2 _ (Le.refl _ _) rh2 (.cons (rx.le l2) ry)⟩⟩
def newL(xs:List PV)(h:MH):Out PV:=if xs.length<=sizeLine then .ok (.loc h.length) (h++[.lst xs]) else .bad
def newT(xs:List PV)(h:MH):Out PV:=if xs.length<=sizeLine then .ok (.tup xs) h else .bad
def kQ{ρ:List Addr}{H:Hp}{h:MH}{xs:List PV}{ys:List V}{Q:VK}(rh:RH X.K X.mg ρ H h)(rs:RPs X.K ρ H xs ys)(f:jl X (RV' X) ρ H (newL xs h) Q):ys.length<=sizeLine/\∀p,H p=none->Q (.ref p) (upd H p (.lst ys)):=by
 unfold newL at f
 split at f
 ·rename_i hl
  refine⟨by rw[<-rs.length];exact hl,fun p hp=>?_⟩;obtain⟨r1,l1⟩:=rh.new hp (o:=.lst xs) (ho:=.lst ys) ⟨ys,rfl,rs⟩;refine f _ _ _ l1 r1 (.loc ?_);rw[<-rh.len];simp
 ·exact f.elim
def vn{ρ:List Addr}{H:Hp}{h:MH}{xs:List PV}{ys:List V}{Q:VK}(rh:RH X.K X.mg ρ H h)(rs:RPs X.K ρ H xs ys)(f:jl X (RV' X) ρ H (newT xs h) Q):ys.length<=sizeLine/\∀p,H p=none->Q (.ref p) (upd H p (.tup ys)):=by
 unfold newT at f
 split at f
 ·rename_i hl
  refine⟨by rw[<-rs.length];exact hl,fun p hp=>?_⟩;obtain⟨r1,l1⟩:=rh.tup hp ys;exact f _ _ _ l1 r1 (.tup (.inl (.inl bB)) (rs.le l1))
 ·exact f.elim
def newL_f{σp:PSt}{ρ:List Addr}{H:Hp}{h:MH}{xs:List PV}{Q:VK}(f:Ful X (RV' X) σp ρ H (newL xs h) Q):jl X (RV' X) ρ H (newL xs h) Q:=by
 unfold newL at f ⊢
 split at f
 ·rw[qah (by assumption)];exact f
 ·exact f.elim
def newT_f{σp:PSt}{ρ:List Addr}{H:Hp}{h:MH}{xs:List PV}{Q:VK}(f:Ful X (RV' X) σp ρ H (newT xs h) Q):jl X (RV' X) ρ H (newT xs h) Q:=by
 unfold newT at f ⊢
 split at f
 ·rw[qah (by assumption)];exact f
 ·exact f.elim
def cZ(m:Mx (List PV)):Mx PV:=fun σ h=>(m σ h).bind newL
def bP(m:Mx (List PV)):Mx PV:=fun σ h=>(m σ h).bind newT
def kf(h:MA X es ms):ME X (.List es pos) (cZ ms) :=
 PE.imp (pe_lst h) fun σ H Q ⟨ρ,σp,h,rs,rh,q⟩=>⟨ρ,σp,h,rs,rh,Ful.bind q fun ρ1 H1 x x' h1 _ l1 rh1 rx q1=>kQ rh1 rx (newL_f q1)⟩
def me_tup(h:MA X es ms):ME X (.Tuple es j pos) (bP ms) :=
 PE.imp (yA h) fun σ H Q ⟨ρ,σp,h,rs,rh,q⟩=>⟨ρ,σp,h,rs,rh,Ful.bind q fun ρ1 H1 x x' h1 _ l1 rh1 rx q1=>vn rh1 rx (newT_f q1)⟩
def SOut.then(o:SOut)(k:Mst):SOut:=match o with
 | .nx σ h=>k σ h
 | o=>o
def aw(a b:Mst):Mst:=fun σ h=>(a σ h).then b
def mSkip:Mst:=fun σ h=>.nx σ h
def aU:MSs X [] mSkip:=PSs.imp pss_nil fun D σ H ⟨ρ,σp,h,rs,rh,q⟩=>q ρ H σ (Le.refl _ _) rh rs
def mss_one{st:Stmt}{m:Mst}(h:MS X st m):MSs X [st] m:=pss_one h
def bc.then{ρ:List Addr}{H:Hp}{o:SOut}{k:Mst}{D:Ends}(q:bc X ρ H (o.then k) D):bc X ρ H o { D with nx:=fun σ H=>tMS X k D σ H}:=by
 cases o with
 | nx σp h=>exact fun ρ' H' σ' l r s=>⟨ρ',σp,h,s,r,bc.le l q⟩
 | _=>exact q
def zw{st:Stmt}{rest:List Stmt}{m u:Mst}(h1:MS X st m)(h2:MSs X rest u):MSs X (st::rest) (aw m u) :=
 PSs.imp (zJ h1 h2) fun D σ H ⟨ρ,σp,h,rs,rh,q⟩=>⟨ρ,σp,h,rs,rh,bc.then q⟩
def aI(m:Mx PV):Mst:=fun σ h=>match m σ h with
 | .ok v h'=>.rt v h'
 | .exc x h'=>.exc x σ h'
 | .bad=>.bad
def ms_ret(he:ME X e m):MS X (.Return (some e) pos) (aI m) :=
 PS.imp (ps_ret he) fun D σ H ⟨ρ,σp,h,rs,rh,q⟩=>⟨ρ,σp,h,rs,rh,by
  unfold aI at q
  cases e:m σp h with
  | ok v h'=>rw[e] at q;exact q
  | exc x h'=>rw[e] at q;exact q
  | bad=>rw[e] at q;exact q⟩
def mEx{α:Type}(m:Mx α)(k:α->Mst):Mst:=fun σ h=>match m σ h with
 | .ok v h'=>k v σ h'
 | .exc x h'=>.exc x σ h'
 | .bad=>.bad
def bc.ex{α β:Type}{R:Rl α β}{m:Mx α}{k:α->Mst}{ρ:List Addr}{H:Hp}{σp:PSt}{h:MH}{D:Ends}{Q:β->Hp->Prop}(q:bc X ρ H (mEx m k σp h) D)
  (w:∀ρ1 H1 v v' h1,Le ρ H ρ1 H1->RH X.K X.mg ρ1 H1 h1->R ρ1 H1 v v'->bc X ρ1 H1 (k v σp h1) D->Q v' H1):Ful X R σp ρ H (m σp h) Q:=by
 unfold mEx at q
 cases e:m σp h with
 | ok v h'=>rw[e] at q;exact fun ρ1 H1 v' l r z=>w ρ1 H1 v v' h' l r z (bc.le l q)
 | exc x h'=>rw[e] at q;exact q
 | bad=>rw[e] at q;exact q
def cF(m:Mx PV):Mst:=mEx m fun _=>mSkip
def eO{e:Expr}{m:Mx PV}{pos:Pos}(he:ME X e m)(hs:swapsWith e none pos.line X.env=pure false:=by rfl):MS X (.Expr e pos) (cF m) :=
 PS.imp (ps_expr he hs) fun D σ H ⟨ρ,σp,h,rs,rh,q⟩=>⟨ρ,σp,h,rs,rh,bc.ex q fun ρ1 H1 v v' h1 l r z w=>w ρ1 H1 σ (Le.refl _ _) r (rs.le l)⟩
def mIf(c:Mx Bool)(a b:Mst):Mst:=mEx c fun x=>if x=true then a else b
def bn{c:Expr}{a b:List Stmt}{mc:Mx Bool}{ma mb:Mst}{pos:Pos}(hc:MT X c mc)(ha:MSs X a ma)(hb:MSs X b mb):MS X (.If c a b pos) (mIf mc ma mb) :=
 PS.imp (ps_if hc ha hb) fun D σ H ⟨ρ,σp,h,rs,rh,q⟩=>⟨ρ,σp,h,rs,rh,bc.ex q fun ρ1 H1 v v' h1 l r z w=>by
  cases z
  cases v with
  | true=>rw[qah rfl];exact⟨ρ1,σp,h1,rs.le l,r,w⟩
  | false=>rw[qan qaL];exact⟨ρ1,σp,h1,rs.le l,r,w⟩⟩
def aY(i:Nat)(m:Mx PV):Mst:=mEx m fun v σ h=>.nx (σ.set i (some v)) h
def ms_set(g:Good X N W G k)(i:Nat){x:Str}{e:Expr}{m:Mx PV}{pos pos':Pos}(hi:N[i]?=some x)(hw:W[i]?=some x)(he:ME X e m)(hs:swapsWith e (some (.Name x pos')) pos.line X.env=pure false:=by rfl) :
  MS X (.Assign [.Name x pos'] e pos) (aY i m):=by
 refine PS.imp (ps_set (X:=X) (i:=i) (by rw[g.hN];exact g.nd) (g.x hi) (g.loc x (az hi)) he hs (g.fn x (az hw))) fun D σ H ⟨ρ,σp,h,rs,rh,q⟩=>?_;exact⟨ρ,σp,h,rs,rh,bc.ex q fun ρ1 H1 v v' h1 l r z w=>w ρ1 H1 _ (Le.refl _ _) r ((rs.le l).set i z)⟩
end
end MM
namespace MM
open PySem PySem.Spec PyProof.Rows L2
local instance (priority:=1) cdec (p:Prop):Decidable p:=Classical.propDecidable p
section
variable {X:Cx} {N W G:List Str} {k:Nat}
abbrev Mg:=PV->Mst
def mH(X:Cx)(ρ:List Addr)(H:Hp)(o:SOut)(Q:L2.St->Hp->Prop):Prop:=match o with
 | .nx σp h'=>∀ρ' H' σ',Le ρ H ρ' H'->RH X.K X.mg ρ' H' h'->RS X.K ρ' H' σp σ'->Q σ' H'
 | .exc x σp h'=>XP X σp ρ H x h'
 | _=>False
def mH.le(l:Le ρ H ρ1 H1)(f:mH X ρ H o Q):mH X ρ1 H1 o Q:=by
 cases o with
 | nx σp h=>exact fun ρ' H' v' l'=>f ρ' H' v' (l.trans l')
 | exc x σp h=>exact XP.le (X:=X) (σp:=σp) (x:=x) (h:=h) l f
 | _=>exact f
inductive tG (X:Cx) (g:Mg) (v':V) (σ:L2.St) (H:Hp) (Q:L2.St->Hp->Prop):Prop
 | mk (ρ:List Addr) (σp:PSt) (h:MH) (v:PV) (rs:RS X.K ρ H σp σ) (rh:RH X.K X.mg ρ H h) (rv:RP X.K ρ H v v') (q:mH X ρ H (g v σp h) Q):tG X g v' σ H Q
def MG(X:Cx)(tg:Expr)(g:Mg):Prop:=PG X tg (tG X g)
def PG.imp(h:PG X e t)(i:∀v σ H Q,t' v σ H Q->t v σ H Q):PG X e t':=fun HM s σ H v u Q I r q=>h HM s σ H v u Q I r (i v σ H Q q)
def gNm(i:Nat):Mg:=fun v σ h=>.nx (σ.set i (some v)) h
def mg_name(g:Good X N W G k)(i:Nat)(hi:N[i]?=some x)(hw:W[i]?=some x):MG X (.Name x pos) (gNm i) :=
 PG.imp (uR (by rw[g.hN];exact g.nd) (g.x hi) (g.loc x (az hi)) (g.fn x (az hw))) fun v' σ H Q ⟨ρ,σp,h,v,rs,rh,rv,q⟩=>q ρ H _ (Le.refl _ _) rh (rs.set i rv)
abbrev Mgs:=List PV->Mst
inductive tGs (X:Cx) (g:Mgs) (v':List V) (σ:L2.St) (H:Hp) (Q:L2.St->Hp->Prop):Prop
 | mk (ρ:List Addr) (σp:PSt) (h:MH) (v:List PV) (rs:RS X.K ρ H σp σ) (rh:RH X.K X.mg ρ H h) (rv:RPs X.K ρ H v v') (q:mH X ρ H (g v σp h) Q):tGs X g v' σ H Q
def MGs(X:Cx)(tg:List Expr)(g:Mgs):Prop:=PGs X tg (tGs X g)
def PGs.imp(h:PGs X e t)(i:∀v σ H Q,t' v σ H Q->t v σ H Q):PGs X e t':=fun HM s σ H v u Q I r q=>h HM s σ H v u Q I r (i v σ H Q q)
def gNl:Mgs:=fun vs σ h=>match vs with
 | []=>.nx σ h
 | _=>.bad
def gCn(a:Mg)(r:Mgs):Mgs:=fun vs σ h=>match vs with
 | v::vr=>(a v σ h).then (r vr)
 | []=>.bad
def eV:MGs X [] gNl:=PGs.imp pgs_nil fun v' σ H Q ⟨ρ,σp,h,v,rs,rh,rv,q⟩=>by
 cases rv with
 | nil=>exact⟨rfl,q ρ H σ (Le.refl _ _) rh rs⟩
 | cons _ _=>exact q.elim
def bu(h1:MG X e a)(h2:MGs X es r)
  (hs:(assignEach (e::es) X.env).map (·.2)=assign e X.env::(assignEach es X.env).map (·.2):=by rfl):MGs X (e::es) (gCn a r) :=
 PGs.imp (zg h1 h2 hs) fun v' σ H Q ⟨ρ,σp,h,v,rs,rh,rv,q⟩=>by
  cases rv with
  | nil=>exact q.elim
  | @cons x y xs ys rx rr =>
   refine⟨_,_,rfl,ρ,σp,h,x,rs,rh,rx,?_⟩;dsimp only[gCn] at q
   cases e:a x σp h with
   | nx σ1 h1=>rw[e] at q;exact fun ρ' H' σ' l r1 s1=>⟨ρ',σ1,h1,xs,s1,r1,rr.le l,mH.le l q⟩
   | exc x1 σ1 h1=>rw[e] at q;exact q
   | _=>rw[e] at q;exact q
def gTp(r:Mgs)(n:Nat):Mg:=fun v σ h=>match v with
 | .tup xs=>if xs.length=n then r xs σ h else .bad
 | _=>.bad
def gR(g:Good X N W G k){es:List Expr}{j:Nat}{r:Mgs}{n:Nat}{pos:Pos}(h:MGs X es r)(hn:(assignEach es X.env).length=n:=by rfl)(hst:(assignEach es X.env).findIdx? (·.1)=none:=by rfl) :
  MG X (.Tuple es j pos) (gTp r n) :=
 PG.imp (pg_tup g.calm h hn hst) fun v' σ H Q ⟨ρ,σp,h,v,rs,rh,rv,q⟩=>by
  cases rv with
  | tup s rr =>
   dsimp only[gTp] at q
   split at q
   ·rename_i hl
    exact⟨_,_,rfl,s,by rw[<-rr.length];exact hl,ρ,σp,h,_,rs,rh,rr,q⟩
   ·exact q.elim
  | _=>exact q.elim
def mAsg(m:Mx PV)(g:Mg):Mst:=mEx m fun v σ h=>match g v σ h with
 | .nx σ2 h2=>.nx σ2 h2
 | .exc x σ2 h2=>.exc x σ2 h2
 | _=>.bad
def yo{tg e:Expr}{m:Mx PV}{g:Mg}{pos:Pos}(he:ME X e m)(hg:MG X tg g)(hs:swapsWithSole [tg] e pos.line X.env=pure false:=by rfl)(hw:swappedStores [tg] e X.env=pure none:=by rfl)
  (h1:(assignEach [tg] X.env).map (·.2)=[assign tg X.env]:=by rfl):MS X (.Assign [tg] e pos) (mAsg m g) :=
 PS.imp (ps_asg he hg hs hw h1) fun D σ H ⟨ρ,σp,h,rs,rh,q⟩=>⟨ρ,σp,h,rs,rh,bc.ex q fun ρ1 H1 v v' h1 l r z w=>⟨ρ1,σp,h1,v,rs.le l,r,z,by
  cases e:g v σp h1 with
  | nx σ2 h2=>rw[e] at w;exact w
  | exc x σ2 h2=>rw[e] at w;exact w
  | _=>rw[e] at w;exact w⟩⟩
def su(i j:Nat)(m:Mx (List PV)):Mst:=mEx m fun vs σ h=>match vs with
 | [v,w]=>.nx ((σ.set i (some v)).set j (some w)) h
 | _=>.bad
def xf(g:Good X N W G k)(i j:Nat)(hi:N[i]?=some x)(hj:N[j]?=some y)(hij:i≠j)(ha:MA X [a,b] m)
  (hx:X.env.scope.names.lookup x=some .local) (hy:X.env.scope.names.lookup y=some .local)
  (hw:swappedStores [.Tuple [.Name x px,.Name y py] kt pt] (.Tuple [a,b] k2 pt2) X.env=pure (some [x,y]))
  (hs:swapsWithSole [.Tuple [.Name x px,.Name y py] kt pt] (.Tuple [a,b] k2 pt2) pos.line X.env=pure false:=by rfl) :
  MS X (.Assign [.Tuple [.Name x px,.Name y py] kt pt] (.Tuple [a,b] k2 pt2) pos) (su i j m) :=
 PS.imp (ps_par g.calm (by rw[g.hN];exact g.nd) (g.x hi) (g.x hj) hij hx hy ha hw hs) fun D σ H ⟨ρ,σp,h,rs,rh,q⟩=>⟨ρ,σp,h,rs,rh,bc.ex q fun ρ1 H1 v v' h1 l r z w=>by
  cases z with
  | nil=>exact w.elim
  | cons z1 z =>
   cases z with
   | nil=>exact w.elim
   | cons z2 z =>
    cases z with
    | nil=>exact⟨_,_,rfl,w ρ1 H1 _ (Le.refl _ _) r (((rs.le l).set i z1).set j z2)⟩
    | cons _ _=>exact w.elim⟩
def rf(o i v:PV)(h:MH):Option MH:=match o,i with
 | .loc n,.int j=>(match h[n]? with
  | some (.lst xs)=>(ixN xs.length j).map fun p=>h.set n (.lst (xs.set p v))
  | _=>none)
 | _,_=>none
def gSb(mo mi:Mx PV):Mg:=fun v=>mEx mo fun o=>mEx mi fun i σ h=>match rf o i v h with
 | some h2=>.nx σ h2
 | none=>.bad
def xW(ho:ME X o mo)(hi:ME X i mi)
  (ha:∀v,assign (.Subscript o i pos) X.env v=(do
   let ov <-holding [v] (eval o X.env)
   let iv <-holding [v,ov] (eval i X.env)
   standAt pos
   holding [v,ov,iv] (setItem ov iv v)
   release [v,ov,iv] []):=by intro _;rfl):MG X (.Subscript o i pos) (gSb mo mi) :=
 PG.imp (pg_sub ho hi zf ha) fun v' σ H Q ⟨ρ,σp,h,v,rs,rh,rv,q⟩=>by
  refine⟨ρ,σp,h,rs,rh,?_⟩;unfold gSb mEx at q
  cases e:mo σp h with
  | exc x h1=>rw[e] at q;exact q
  | bad=>rw[e] at q;exact q
  | ok ov h1 =>
   rw[e] at q;intro ρ1 H1 o' l1 rh1 ro;refine⟨ρ1,σp,h1,rs.le l1,rh1,?_⟩;dsimp only at q
   cases e2:mi σp h1 with
   | exc x h2=>rw[e2] at q;exact XP.le (X:=X) (σp:=σp) (x:=x) (h:=h2) l1 q
   | bad=>rw[e2] at q;exact q
   | ok iv h2 =>
    rw[e2] at q;intro ρ2 H2 i' l2 rh2 ri;dsimp only at q;have ro2:=ro.le l2;have rv2:=(rv.le l1).le l2;unfold rf at q
    cases ro2 with
    | @loc n a en =>
     cases ri with
     | int j =>
      dsimp only at q;obtain⟨ob,eo,rob⟩:=rh2.obj en;rw[eo] at q
      cases ob with
      | dic kvs=>exact q.elim
      | exc x=>exact q.elim
      | lst xs =>
       obtain⟨ys,ey,ry⟩:=rob;dsimp only at q
       cases ep:ixN xs.length j with
       | none=>rw[ep] at q;exact q.elim
       | some p =>
        rw[ep] at q;refine⟨a,ys,j,p,rfl,rfl,ey,by rw[<-ry.length];exact ep,?_⟩;obtain⟨r3,l3⟩:=rh2.put en (o:=.lst (xs.set p v)) (ho:=.lst (ys.set p v')) ⟨_,rfl,RPs.set rv2 p ry⟩;exact q ρ2 _ σ (l1.trans (l2.trans l3)) r3 (rs.le (l1.trans (l2.trans l3)))
     | _=>exact q.elim
    | _=>exact q.elim
structure MIt where
 xs:List PV
 gd:List (Nat × List PV):=[]
def MIt.ok(it:MIt)(h:MH):Prop:=∀p∈it.gd,h[p.1]?=some (.lst p.2)
def oV(X:Cx):Rl MIt It:=fun ρ0 H0 it J=>∀ρ H h (i:Nat),Le ρ0 H0 ρ H->RH X.K X.mg ρ H h->it.ok h ->
 (i<it.xs.length->J.go i H/\∀x' H',J.yld i H x' H'->∃ρ' x,Le ρ H ρ' H'/\RH X.K X.mg ρ' H' h/\it.xs[i]?=some x/\RP X.K ρ' H' x x')/\(it.xs.length<=i->J.stop i H)
def MI(X:Cx)(tg iter:Expr)(m:Mx MIt):Prop:=PI X tg iter (tM X (oV X) m)
def PI.imp(h:PI X tg e t)(i:∀σ H Q,t' σ H Q->t σ H Q):PI X tg e t':=fun HM s σ H Q I q=>h HM s σ H Q I (i σ H Q q)
def mGo(it:MIt)(g:Mg)(b:Mst):List PV->Mst
 | []=>fun σ h=>if it.ok h then .nx σ h else .bad
 | x::r=>fun σ h=>if it.ok h then (match g x σ h with
   | .nx σ1 h1=>(match b σ1 h1 with
    | .nx σ2 h2=>mGo it g b r σ2 h2
    | .ct σ2 h2=>mGo it g b r σ2 h2
    | .bk σ2 h2=>.nx σ2 h2
    | .rt v h2=>.rt v h2
    | .exc e σ2 h2=>.exc e σ2 h2
    | .rse e σ2 h2=>.rse e σ2 h2
    | .bad=>.bad)
   | .exc e σ1 h1=>.exc e σ1 h1
   | _=>.bad) else .bad
def eS(mi:Mx MIt)(g:Mg)(b:Mst):Mst:=mEx mi fun it=>mGo it g b it.xs
def eB(gd:Good X N W G k)(hi:MI X tg iter mi)(hg:MG X tg g)(hb:MSs X body mb)
  (hs:∀x,foldedSetIterable iter X.env x=pure x:=by intro _;rfl):MS X (.For tg iter body [] pos) (eS mi g mb):=by
 refine PS.imp (ps_for gd.po gd.calm hi hg hb hs) fun D σ H ⟨ρ,σp,h,rs,rh,q⟩=>⟨ρ,σp,h,rs,rh,bc.ex q fun ρ1 H1 it J h1 l1 rh1 jr w=>?_⟩;refine⟨fun i m σ H=>m=it.xs.length - i/\i<=it.xs.length/\∃ρ σp h,Le ρ1 H1 ρ H/\RS X.K ρ H σp σ/\RH X.K X.mg ρ H h/\bc X ρ H (mGo it g mb (it.xs.drop i) σp h) D,⟨_,rfl,qaK _,ρ1,σp,h1,Le.refl _ _,rs.le l1,rh1,w⟩,?_⟩;rintro i m σ2 H2 ⟨rfl,hi,ρ2,σp2,h2,l2,rs2,rh2,w2⟩;by_cases hlt:i<it.xs.length
 ·have ed:it.xs.drop i=it.xs[i]::it.xs.drop (i+1):=qcu hlt;rw[ed] at w2;unfold mGo at w2
  split at w2
  ·rename_i hok
   obtain⟨j1,j2⟩:=jr ρ2 H2 h2 i l2 rh2 hok;obtain⟨go,yl⟩:=j1 hlt;refine .inr ⟨go,fun σ3 H3=>∃ρ3 σp3 h3,Le ρ1 H1 ρ3 H3/\RS X.K ρ3 H3 σp3 σ3/\RH X.K X.mg ρ3 H3 h3/\bc X ρ3 H3 (mGo it g mb (it.xs.drop (i+1)) σp3 h3) D,fun σ3 H3 z=>⟨_,by ext,rfl,hlt,z⟩,fun x' H' y=>?_⟩;obtain⟨ρ',x,l',rh',ex,rx⟩:=yl x' H' y;have ex':x=it.xs[i]:=by rw[qas hlt] at ex;exact (Option.some.inj ex).symm
   subst ex';refine⟨ρ',σp2,h2,_,rs2.le l',rh',rx,?_⟩;have w2':=bc.le l' w2
   cases eg:g it.xs[i] σp2 h2 with
   | nx σ4 h4 =>
    rw[eg] at w2';intro ρ5 H5 σ5 l5 r5 s5;refine⟨ρ5,σ4,h4,s5,r5,?_⟩;have w3:=bc.le l5 w2';have l6:Le ρ1 H1 ρ5 H5:=l2.trans (l'.trans l5);dsimp only at w3
    cases em:mb σ4 h4 with
    | nx σ6 h6=>rw[em] at w3;exact fun ρ7 H7 σ7 l7 r7 s7=>⟨ρ7,σ6,h6,l6.trans l7,s7,r7,bc.le l7 w3⟩
    | ct σ6 h6=>rw[em] at w3;exact fun ρ7 H7 σ7 l7 r7 s7=>⟨ρ7,σ6,h6,l6.trans l7,s7,r7,bc.le l7 w3⟩
    | bk σ6 h6=>rw[em] at w3;exact w3
    | rt v h6=>rw[em] at w3;exact w3
    | exc e σ6 h6=>rw[em] at w3;exact w3
    | rse e σ6 h6=>rw[em] at w3;exact w3
    | bad=>rw[em] at w3;exact w3
   | exc e σ4 h4=>rw[eg] at w2';exact w2'
   | _=>rw[eg] at w2';exact w2'.elim
  ·exact w2.elim
 ·have e:i=it.xs.length:=by ext
  rw[e,List.drop_length] at w2;unfold mGo at w2
  split at w2
  ·rename_i hok
   obtain⟨j1,j2⟩:=jr ρ2 H2 h2 i l2 rh2 hok;exact .inl ⟨j2 (by ext),w2 ρ2 H2 σ2 (Le.refl _ _) rh2 rs2⟩
  ·exact w2.elim
def itSeq(v:PV)(h:MH):Out MIt:=match v with
 | .loc n=>(match h[n]? with
  | some (.lst xs)=>.ok ⟨xs,[(n,xs)]⟩ h
  | _=>.bad)
 | .frl xs=>.ok ⟨xs,[]⟩ h
 | _=>.bad
def mItL(m:Mx PV):Mx MIt:=fun σ h=>(m σ h).bind itSeq
def vj(hS:∀ρ' H' h,Le ρ H ρ' H'->RH X.K X.mg ρ' H' h->(⟨xs,gd⟩:MIt).ok h->∃ys,SqL X.K H' a ys/\RPs X.K ρ' H' xs ys):oV X ρ H ⟨xs,gd⟩ (Itl X.K a):=by
 intro ρ' H' h i l rh ok;obtain⟨ys,hs,rs⟩:=hS ρ' H' h l rh ok;refine⟨fun hi=>?_,fun hi=>⟨ys,hs,by rw[<-rs.length];exact hi⟩⟩;have hx:xs[i]?=some (xs[i]'hi):=qas hi;obtain⟨y,ey,ry⟩:=rs.get hx;refine⟨⟨ys,y,hs,ey⟩,fun x' H2 ⟨e,z⟩=>?_⟩;subst e
 have:ys[i]?=some x':=z ys hs
 rw[ey] at this;cases this;exact⟨ρ',_,Le.refl _ _,rh,hx,ry⟩
def mi_list(hl:ME X l m):MI X tg l (mItL m) :=
 PI.imp (pi_list hl) fun σ H Q ⟨ρ,σp,h,rs,rh,q⟩=>⟨ρ,σp,h,rs,rh,Ful.bind q fun ρ1 H1 x x' h1 _ l1 rh1 rx q1=>by
  cases rx with
  | @loc n a e =>
   obtain⟨ob,eo,rob⟩:=rh1.obj e;dsimp only[itSeq] at q1;rw[eo] at q1
   cases ob with
   | dic kvs=>exact q1.elim
   | exc x=>exact q1.elim
   | lst xs =>
    obtain⟨ys,ey,ry⟩:=rob;refine⟨a,rfl,⟨ys,SqL.of ey⟩,q1 ρ1 H1 _ (Le.refl _ _) rh1 (vj fun ρ' H' h' l rh' ok=>?_)⟩;obtain⟨ys',ey',ry'⟩:=rh'.at' n a _ (l.get e) (ok (n,xs) (by simp));exact⟨ys',SqL.of ey',ry'⟩
  | frl s r =>
   exact⟨_,rfl,⟨_,s.sq⟩,q1 ρ1 H1 _ (Le.refl _ _) rh1 (vj fun ρ' H' h' l rh' ok=>⟨_,(l.sqf s).sq,r.le l⟩)⟩
  | _=>exact q1.elim⟩
def mItT(m:Mx PV):Mx MIt:=fun σ h=>(m σ h).bind fun v h1=>match v with
 | .tup xs=>.ok ⟨xs,[]⟩ h1
 | _=>.bad
def mi_tup(hl:ME X l m):MI X tg l (mItT m) :=
 PI.imp (pi_tup hl) fun σ H Q ⟨ρ,σp,h,rs,rh,q⟩=>⟨ρ,σp,h,rs,rh,Ful.bind q fun ρ1 H1 x x' h1 _ l1 rh1 rx q1=>by
  cases rx with
  | @tup xs a ys s r =>
   refine⟨_,rfl,⟨_,s⟩,q1 ρ1 H1 _ (Le.refl _ _) rh1 ?_⟩;intro ρ' H' h' i l rh' ok;have s':=l.sqt s;have r':=r.le l;refine⟨fun hi=>?_,fun hi=>⟨ys,s',by rw[<-r.length];exact hi⟩⟩;have hx:xs[i]?=some (xs[i]'hi):=qas hi;obtain⟨y,ey,ry⟩:=r'.get hx;refine⟨⟨ys,y,s',ey⟩,fun x' H2 ⟨e,z⟩=>?_⟩;subst e
   have:ys[i]?=some x':=z ys s'
   rw[ey] at this;cases this;exact⟨ρ',_,Le.refl _ _,rh',hx,ry⟩
  | _=>exact q1.elim⟩
def bg(lo:Int)(n:Nat):List PV:=(List.range n).map fun (i:Nat)=>PV.int (lo+(i:Int))
def nR(lo:Int)(n:Nat):(bg lo n).length=n:=by simp[bg]
def Itr_rel(lo:Int)(n:Nat):oV X ρ H ⟨bg lo n,[]⟩ (Itr lo n):=by
 intro ρ' H' h i l rh ok;have hl:(bg lo n).length=n:=nR lo n;refine⟨fun hi=>⟨by rw[hl] at hi;exact hi,fun x' H2 ⟨e1,e2⟩=>?_⟩,fun hi=>by rw[hl] at hi;exact hi⟩;subst e1;subst e2;rw[hl] at hi;exact⟨ρ',.int (lo+i),Le.refl _ _,rh,by simp[bg,hi],.int _⟩
def cW(m:Mx (List PV)):Mx MIt:=fun σ h=>(m σ h).bind fun vs h1=>match vs with
 | [.int j]=>if -(2 ^ 62)<=j/\j<2 ^ 62 then .ok ⟨bg 0 j.toNat,[]⟩ h1 else .bad
 | _=>.bad
def yx(hg:Gl X "range")(hm:X.mg "range"=none)(ha:MA X [a] m)(hs:starEach [a] X.env=[(false,eval a X.env)]:=by rfl):MI X tg (.Call (.Name "range" p) [a] [] pos) (cW m):=by
 refine PI.imp (x9 hg hm ha hs) fun σ H Q ⟨ρ,σp,h,rs,rh,q⟩=>⟨ρ,σp,h,rs,rh,Ful.bind q fun ρ1 H1 x x' h1 _ l1 rh1 rx q1=>?_⟩
 cases rx with
 | nil=>exact q1.elim
 | cons r1 t1 =>
  cases t1 with
  | nil =>
   cases r1 with
   | int j =>
    dsimp only at q1
    split at q1
    ·rename_i hj
     exact⟨j,rfl,hj.1,hj.2,q1 ρ1 H1 _ (Le.refl _ _) rh1 (Itr_rel 0 j.toNat)⟩
    ·exact q1.elim
   | _=>exact q1.elim
  | cons r2 t2=>cases r1 <;> exact q1.elim
def bC(c:Mx Bool)(b:Mst):Nat->Mst
 | 0=>fun _ _=>.bad
 | n+1=>mEx c fun x=>if x=true then (fun σ h=>match b σ h with
   | .nx σ2 h2=>bC c b n σ2 h2
   | .ct σ2 h2=>bC c b n σ2 h2
   | .bk σ2 h2=>.nx σ2 h2
   | .rt v h2=>.rt v h2
   | .exc e σ2 h2=>.exc e σ2 h2
   | .rse e σ2 h2=>.rse e σ2 h2
   | .bad=>.bad) else mSkip
def mWh(c:Mx Bool)(b:Mst):Mst:=fun σ h=>if z:∃n,bC c b n σ h≠.bad then bC c b (Classical.choose z) σ h else .bad
def jW:∀{n:Nat} {σ:PSt} {h:MH},bC c b n σ h≠.bad->bC c b (n+1) σ h=bC c b n σ h
 | 0,_,_,q=>absurd rfl q
 | n+1,σ,h,q=>by
  rw[bC] at q
  conv=>lhs;rw[bC]
  conv=>rhs;rw[bC]
  unfold mEx at q ⊢
  cases e:c σ h with
  | exc x h1=>rfl
  | bad=>rfl
  | ok x h1 =>
   rw[e] at q;dsimp only at q ⊢
   cases x with
   | false=>rfl
   | true =>
    simp only[if_true] at q ⊢
    cases em:b σ h1 with
    | nx σ2 h2=>rw[em] at q;exact jW q
    | ct σ2 h2=>rw[em] at q;exact jW q
    | _=>rfl
def uS(q:bC c b n σ h≠.bad)(l:n<=m):bC c b m σ h=bC c b n σ h:=by
 induction l with
 | refl=>rfl
 | step l ih=>rw[jW (by rw[ih];exact q),ih]
def m9(q:bC c b n σ h≠.bad):mWh c b σ h=bC c b n σ h:=by
 have z:∃n,bC c b n σ h≠.bad:=⟨n,q⟩;unfold mWh;rw[dif_pos z];have q2:=Classical.choose_spec z;rcases Nat.le_total n (Classical.choose z) with l|l
 ·exact uS q l
 ·exact (uS q2 l).symm
def rC(gd:Good X N W G k)(hc:MT X c mc)(hb:MSs X body mb):MS X (.While c body [] pos) (mWh mc mb):=by
 refine PS.imp (yW gd.po hc hb) fun D σ H ⟨ρ,σp,h,rs,rh,q⟩=>?_;refine⟨fun m σ H=>∃ρ σp h,RS X.K ρ H σp σ/\RH X.K X.mg ρ H h/\bc X ρ H (bC mc mb m σp h) D,?_,?_⟩
 ·unfold mWh at q
  split at q
  ·exact⟨_,ρ,σp,h,rs,rh,q⟩
  ·exact q.elim
 ·rintro m σ1 H1 ⟨ρ1,σp1,h1,rs1,rh1,q1⟩
  cases m with
  | zero=>exact q1.elim
  | succ m =>
   rw[bC] at q1;refine⟨ρ1,σp1,h1,rs1,rh1,bc.ex q1 fun ρ2 H2 v v' h2 l2 r2 z w=>?_⟩;cases z
   cases v with
   | false=>rw[qan qaL] at w ⊢;exact w ρ2 H2 σ1 (Le.refl _ _) r2 (rs1.le l2)
   | true =>
    rw[qah rfl] at w ⊢;refine⟨fun σ H=>∃ρ σp h,RS X.K ρ H σp σ/\RH X.K X.mg ρ H h/\bc X ρ H (bC mc mb m σp h) D,fun σ' H' z=>⟨m,qbL _,z⟩,ρ2,σp1,h2,rs1.le l2,r2,?_⟩
    cases em:mb σp1 h2 with
    | nx σ6 h6=>rw[em] at w;exact fun ρ7 H7 σ7 l7 r7 s7=>⟨ρ7,σ6,h6,s7,r7,bc.le l7 w⟩
    | ct σ6 h6=>rw[em] at w;exact fun ρ7 H7 σ7 l7 r7 s7=>⟨ρ7,σ6,h6,s7,r7,bc.le l7 w⟩
    | bk σ6 h6=>rw[em] at w;exact w
    | rt v h6=>rw[em] at w;exact w
    | exc e σ6 h6=>rw[em] at w;exact w
    | rse e σ6 h6=>rw[em] at w;exact w
    | bad=>rw[em] at w;exact w
def bR(f:PV->Option PyData):List PV->Option (List PyData)
 | []=>some []
 | x::r=>match f x,bR f r with
  | some d,some ds=>some (d::ds)
  | _,_=>none
def rd:Nat->MH->PV->Option PyData
 | 0,_,v=>(match v with
  | .non=>some .none
  | .bl b=>some (.bool b)
  | .int i=>some (.int i)
  | .str x=>some (.str x)
  | _=>none)
 | n+1,h,v=>(match v with
  | .non=>some .none
  | .bl b=>some (.bool b)
  | .int i=>some (.int i)
  | .str x=>some (.str x)
  | .tup xs=>(bR (rd n h) xs).map PyData.tuple
  | .frl xs=>(bR (rd n h) xs).map PyData.list
  | .loc m=>(match h[m]? with
   | some (.lst xs)=>(bR (rd n h) xs).map PyData.list
   | _=>none))
def fc{hp:Heap}{f:PV->Option PyData}{K:qac}{ρ:List Addr}{H:Hp}(hf:∀v v' u d,RP K ρ H v v'->aF v' u->f v=some d->∃as,Reads hp u d as) :
  ∀{xs:List PV} {ys:List V} {us:List Value} {ds:List PyData},RPs K ρ H xs ys->ar ys us->bR f xs=some ds->∃as,ReadsAll hp us ds as:=by
 intro xs
 induction xs with
 | nil =>
  intro ys us ds r v e;cases r;cases v;cases e;exact⟨_,.nil⟩
 | cons x xs ih =>
  intro ys us ds r v e;cases r with|cons r t=>cases v with|cons v w =>
  simp only[bR] at e
  split at e
  ·rename_i d ds' e1 e2
   cases e;obtain⟨a1,q1⟩:=hf _ _ _ _ r v e1;obtain⟨a2,q2⟩:=ih t w e2;exact⟨_,.cons q1 q2⟩
  ·cases e
def eP{HM:List (Addr × Obj)}{σ:L2.St}{H:Hp}{s:Shared}{ρ:List Addr}{h:MH}(I:Inv X HM σ H s)(rh:RH X.K X.mg ρ H h) :
  ∀(n:Nat) (v:PV) (v':V) (u:Value) (d:PyData),RP X.K ρ H v v'->aF v' u->rd n h v=some d->∃as,Reads s.heap u d as:=by
 intro n
 induction n with
 | zero =>
  intro v v' u d rp r e
  cases rp with
  | non=>cases e;cases r;exact⟨_,.none⟩
  | bl b=>cases e;cases r;exact⟨_,.bool b⟩
  | int i=>cases e;obtain⟨t,rfl⟩:=r;exact⟨_,.int i t⟩
  | str i=>cases e;obtain⟨t,rfl⟩:=r;exact⟨_,.str i t⟩
  | _=>cases e
 | succ n ih =>
  intro v v' u d rp r e
  cases rp with
  | non=>cases e;cases r;exact⟨_,.none⟩
  | bl b=>cases e;cases r;exact⟨_,.bool b⟩
  | int i=>cases e;obtain⟨t,rfl⟩:=r;exact⟨_,.int i t⟩
  | str i=>cases e;obtain⟨t,rfl⟩:=r;exact⟨_,.str i t⟩
  | @tup xs a ys s rr =>
   cases r;simp only[rd] at e
   cases q:bR (rd n h) xs with
   | none=>rw[q] at e;cases e
   | some ds =>
    rw[q] at e;cases e;obtain⟨its,rv,⟨o,e1,e2,m,e3⟩,_⟩:=I.tuple s;obtain⟨as,ra⟩:=fc (ih) rr rv q;exact⟨_,.tuple e1 e2 e3 (by simpa using ra)⟩
  | @frl xs a ys s rr =>
   cases r;simp only[rd] at e
   cases q:bR (rd n h) xs with
   | none=>rw[q] at e;cases e
   | some ds =>
    rw[q] at e;cases e;obtain⟨its,rv,⟨o,m,e1,e2,_,e3⟩,_⟩:=I.list s.sq;obtain⟨as,ra⟩:=fc (ih) rr rv q;exact⟨_,.list e1 e2 e3 (by simpa using ra)⟩
  | loc en =>
   cases r;simp only[rd] at e;obtain⟨ob,eo,rob⟩:=rh.obj en;rw[eo] at e
   cases ob with
   | dic kvs=>cases e
   | exc x=>cases e
   | lst xs =>
    obtain⟨ys,ey,ry⟩:=rob;dsimp only at e
    cases q:bR (rd n h) xs with
    | none=>rw[q] at e;cases e
    | some ds =>
     rw[q] at e;cases e;obtain⟨its,rv,⟨o,m',e1,e2,_,e3⟩,_⟩:=I.list (SqL.of (K:=X.K) ey);obtain⟨as,ra⟩:=fc (ih) ry rv q;exact⟨_,.list e1 e2 e3 (by simpa using ra)⟩
def opEq(x y:PV)(h:MH):Out PV:=match rd 60 h x,rd 60 h y with
 | some a,some b=>if SeqAt.shaped a=true/\SeqAt.shaped b=true then .ok (.bl (PyData.eqv a b)) h else .bad
 | _,_=>.bad
def opNe(x y:PV)(h:MH):Out PV:=match rd 60 h x,rd 60 h y with
 | some a,some b=>if SeqAt.shaped a=true/\SeqAt.shaped b=true then .ok (.bl (!PyData.eqv a b)) h else .bad
 | _,_=>.bad
def cX(hr:Room k X.A):OpJ X (compareOp .Eq) opEq:=by
 intro HM s σ H x' y' u v Q I rx' ry' ⟨ρ,h,x,y,rh,rx,ry,q⟩;unfold opEq at q
 split at q
 ·rename_i a b ea eb
  split at q
  ·rename_i hs
   obtain⟨_,ra⟩:=eP I rh 60 x x' u a rx rx' ea;obtain⟨_,rb⟩:=eP I rh 60 y y' v b ry ry' eb;exact eq_dataH ra rb hs.1 hs.2 hr.units ⟨.bl _,H,I,rfl,q ρ H _ (Le.refl _ _) rh (.bl _)⟩
  ·exact q.elim
 ·exact q.elim
def hG(hr:Room k X.A):OpJ X (compareOp .NotEq) opNe:=by
 intro HM s σ H x' y' u v Q I rx' ry' ⟨ρ,h,x,y,rh,rx,ry,q⟩;unfold opNe at q
 split at q
 ·rename_i a b ea eb
  split at q
  ·rename_i hs
   obtain⟨_,ra⟩:=eP I rh 60 x x' u a rx rx' ea;obtain⟨_,rb⟩:=eP I rh 60 y y' v b ry ry' eb;exact ne_dataH ra rb hs.1 hs.2 hr.units ⟨.bl _,H,I,rfl,q ρ H _ (Le.refl _ _) rh (.bl _)⟩
  ·exact q.elim
 ·exact q.elim
def mK(f:Int->Int->PV):PV->PV->MH->Out PV:=fun x y h=>match x,y with
 | .int i,.int j=>.ok (f i j) h
 | _,_=>.bad
def nH(ho:OpR X F (rI0 f))(hfg:∀ρ H i j,RP X.K ρ H (g i j) (f i j)):OpJ X F (mK g):=by
 intro HM s σ H x' y' u v Q I rx' ry' ⟨ρ,h,x,y,rh,rx,ry,q⟩;unfold mK at q
 split at q
 ·cases rx;cases ry;exact ho HM s σ H _ _ u v Q I rx' ry' ⟨_,_,rfl,rfl,q ρ H _ (Le.refl _ _) rh (hfg ρ H _ _)⟩
 ·exact q.elim
def opLt:=mK fun i j=>.bl (decide (i<j))
def opLe:=mK fun i j=>.bl (decide (i<=j))
def opGt:=mK fun i j=>.bl (decide (j<i))
def opGe:=mK fun i j=>.bl (decide (j<=i))
def wE:OpJ X (compareOp .Lt) opLt:=nH op_lt fun _ _ _ _=>.bl _
def wJ:OpJ X (compareOp .LtE) opLe:=nH op_le fun _ _ _ _=>.bl _
def oj_gt:OpJ X (compareOp .Gt) opGt:=nH op_gt fun _ _ _ _=>.bl _
def oj_ge:OpJ X (compareOp .GtE) opGe:=nH op_ge fun _ _ _ _=>.bl _
def pf(neg:Bool):PV->PV->MH->Out PV:=fun x y h=>match y with
 | .non=>(match x with
  | .non=>.ok (.bl (!neg)) h
  | _=>.ok (.bl neg) h)
 | .bl b=>(match x with
  | .bl c=>.ok (.bl (if neg then !(c == b) else c == b)) h
  | .non=>.ok (.bl neg) h
  | .int _=>.ok (.bl neg) h
  | .str _=>.ok (.bl neg) h
  | .tup _=>.ok (.bl neg) h
  | _=>.bad)
 | _=>.bad
def opMul(x y:PV)(h:MH):Out PV:=match x,y with
 | .int i,.int j=>if IntMulOk i j then .ok (.int (i * j)) h else .bad
 | .loc n,.int j=>(match h[n]? with
  | some (.lst xs)=>if -(2 ^ 63)<=j/\j<2 ^ 63 then newL (List.flatten (List.replicate j.toNat xs)) h else .bad
  | _=>.bad)
 | _,_=>.bad
def opFd(x y:PV)(h:MH):Out PV:=match x,y with
 | .int i,.int j=>if j≠0/\Builtin.divisionGoesByPylong i j=false then .ok (.int (i.fdiv j)) h else .bad
 | _,_=>.bad
def opMod(x y:PV)(h:MH):Out PV:=match x,y with
 | .int i,.int j=>if j≠0 then .ok (.int (i.fmod j)) h else .bad
 | _,_=>.bad
def opPow(x y:PV)(h:MH):Out PV:=match x,y with
 | .int i,.int j=>if e8 i j then .ok (.int (i ^ j.toNat)) h else .bad
 | _,_=>.bad
def opAdd(x y:PV)(h:MH):Out PV:=match x,y with
 | .int i,.int j=>.ok (.int (i+j)) h
 | .str a,.str b=>if a.length+b.length<=sizeLine then .ok (.str (a++b)) h else .bad
 | .loc n,.loc m=>(match h[n]?,h[m]? with
  | some (.lst xs),some (.lst ys)=>newL (xs++ys) h
  | _,_=>.bad)
 | .tup xs,.tup ys=>if xs≠[] then newT (xs++ys) h else .bad
 | _,_=>.bad
def opSub:=mK fun i j=>.int (i - j)
def opNeg(x:PV)(h:MH):Out PV:=match x with
 | .int i=>.ok (.int (-i)) h
 | _=>.bad
def nt:OpJ X (binaryOp .Sub) opSub:=nH op_sub fun _ _ _ _=>.int _
def uj_neg:UnJ X (unaryOp .USub) opNeg:=by
 intro HM s σ H x' u Q I rx' ⟨ρ,h,x,rh,rx,q⟩
 cases rx with
 | int i=>exact un_neg HM s σ H _ u Q I rx' ⟨i,rfl,q ρ H _ (Le.refl _ _) rh (.int _)⟩
 | _=>exact q.elim
def qN:OpJ X (binaryOp .FloorDiv) opFd:=by
 intro HM s σ H x' y' u v Q I rx' ry' ⟨ρ,h,x,y,rh,rx,ry,q⟩;unfold opFd at q
 split at q
 ·rename_i i j
  cases rx;cases ry
  split at q
  ·rename_i hc
   obtain⟨t,rfl⟩:=rx';obtain⟨t',rfl⟩:=ry';exact floordiv_int hc.1 ⟨.int _,H,I.tok _,⟨_,rfl⟩,q ρ H _ (Le.refl _ _) rh (.int _)⟩ (.inl hc.2)
  ·exact q.elim
 ·exact q.elim
def cu:OpJ X (binaryOp .Mod) opMod:=by
 intro HM s σ H x' y' u v Q I rx' ry' ⟨ρ,h,x,y,rh,rx,ry,q⟩;unfold opMod at q
 split at q
 ·rename_i i j
  cases rx;cases ry
  split at q
  ·rename_i hc
   obtain⟨t,rfl⟩:=rx';obtain⟨t',rfl⟩:=ry';exact mod_int' hc ⟨.int _,H,I.tok _,⟨_,rfl⟩,q ρ H _ (Le.refl _ _) rh (.int _)⟩
  ·exact q.elim
 ·exact q.elim
def kC:OpJ X (binaryOp .Pow) opPow:=by
 intro HM s σ H x' y' u v Q I rx' ry' ⟨ρ,h,x,y,rh,rx,ry,q⟩;unfold opPow at q
 split at q
 ·rename_i i j
  cases rx;cases ry
  split at q
  ·rename_i hc
   exact op_pow HM s σ H _ _ u v Q I rx' ry' ⟨i,j,rfl,rfl,hc,q ρ H _ (Le.refl _ _) rh (.int _)⟩
  ·exact q.elim
 ·exact q.elim
def bW:OpJ X (binaryOp .Add) opAdd:=by
 intro HM s σ H x' y' u v Q I rx' ry' ⟨ρ,h,x,y,rh,rx,ry,q⟩
 cases rx with
 | int i =>
  cases ry with
  | int j=>exact op_add HM s σ H _ _ u v Q I rx' ry' ⟨i,j,rfl,rfl,q ρ H _ (Le.refl _ _) rh (.int _)⟩
  | _=>exact q.elim
 | str a =>
  cases ry with
  | str b =>
   dsimp only[opAdd] at q
   split at q
   ·rename_i hl
    exact wH HM s σ H _ _ u v Q I rx' ry' ⟨a,b,rfl,rfl,hl,q ρ H _ (Le.refl _ _) rh (.str _)⟩
   ·exact q.elim
  | _=>exact q.elim
 | @loc n a e =>
  cases ry with
  | @loc m b e2 =>
   dsimp only[opAdd] at q;obtain⟨o1,h1,r1⟩:=rh.obj e;obtain⟨o2,h2,r2⟩:=rh.obj e2;rw[h1,h2] at q
   cases o1 with
   | dic kvs=>exact q.elim
   | exc x=>exact q.elim
   | lst xs =>
    cases o2 with
    | dic kvs=>exact q.elim
    | exc x=>exact q.elim
    | lst ys =>
     obtain⟨xs',ex,rx1⟩:=r1;obtain⟨ys',ey,ry1⟩:=r2;obtain⟨z1,z2⟩:=kQ rh (rx1.append ry1) q;exact op_cat HM s σ H _ _ u v Q I rx' ry' ⟨a,b,xs',ys',rfl,rfl,ex,ey,by rw[<-qaQ];exact z1,z2⟩
  | _=>exact q.elim
 | tup s1 r1 =>
  cases ry with
  | tup s2 r2 =>
   dsimp only[opAdd] at q
   split at q
   ·rename_i hne
    obtain⟨z1,z2⟩:=vn rh (r1.append r2) q;refine op_catT HM s σ H _ _ u v Q I rx' ry' ⟨_,_,_,_,rfl,rfl,s1,s2,?_,by rw[<-qaQ];exact z1,fun z=>?_,fun _=>z2⟩
    ·rintro rfl;cases r1;exact hne rfl
    ·subst z;cases r2;unfold newT at q
     split at q
     ·exact q ρ H _ (Le.refl _ _) rh (by rw[qca];exact .tup s1 r1)
     ·exact q.elim
   ·exact q.elim
  | _=>exact q.elim
 | _=>cases ry <;> exact q.elim
def RPs.rep{K:qac}{ρ:List Addr}{H:Hp}{xs:List PV}{ys:List V}(r:RPs K ρ H xs ys):∀n:Nat,RPs K ρ H (List.replicate n xs).flatten (List.replicate n ys).flatten
 | 0=>.nil
 | n+1=>by rw[qaS,qaS,qbo,qbo];exact r.append (RPs.rep r n)
def fD:OpJ X (binaryOp .Mult) opMul:=by
 intro HM s σ H x' y' u v Q I rx' ry' ⟨ρ,h,x,y,rh,rx,ry,q⟩
 cases rx with
 | int i =>
  cases ry with
  | int j =>
   dsimp only[opMul] at q
   split at q
   ·rename_i hc
    obtain⟨t,rfl⟩:=rx';obtain⟨t',rfl⟩:=ry';exact PyProof.Rows.mul_int ⟨.int _,H,I.tok _,⟨_,rfl⟩,q ρ H _ (Le.refl _ _) rh (.int _)⟩ hc
   ·exact q.elim
  | _=>exact q.elim
 | @loc n a e =>
  cases ry with
  | int j =>
   dsimp only[opMul] at q;obtain⟨o1,h1,r1⟩:=rh.obj e;rw[h1] at q
   cases o1 with
   | dic kvs=>exact q.elim
   | exc x=>exact q.elim
   | lst xs =>
    dsimp only at q
    split at q
    ·rename_i hj
     obtain⟨xs',ex,rx1⟩:=r1;obtain⟨z1,z2⟩:=kQ rh (rx1.rep j.toNat) q;refine op_rep HM s σ H _ _ u v Q I rx' ry' ⟨a,j,xs',rfl,rfl,ex,hj.1,hj.2,?_,z2⟩;rw[uO] at z1;rw[Nat.mul_comm];exact z1
    ·exact q.elim
  | _=>exact q.elim
 | _=>cases ry <;> exact q.elim
def nO{HM:List (Addr × Obj)}{σ:L2.St}{H:Hp}{s:Shared}{Q:VK}{x':V}{u:Value}{b c:Bool}(I:Inv X HM σ H s)(r:aF x' u)(hp:plainIs u (.bool b)=true)(hc:(u == .bool b)=c)(q:Q (.bl c) H) :
  wpAny (model X.prog X.w) X.A (compareOp .Is u (.bool b)) (EP X HM σ Q) X.xe s:=by
 show wpAny _ _ (do return Value.bool (<-isSame u (.bool b))) _ _ _;exact qaa (wpAny_isSame_plain hp (qag (by rw[hc];exact⟨.bl c,H,I,rfl,q⟩)))
def j5{HM:List (Addr × Obj)}{σ:L2.St}{H:Hp}{s:Shared}{Q:VK}{x':V}{u:Value}{b c:Bool}(I:Inv X HM σ H s)(r:aF x' u)(hp:plainIs u (.bool b)=true)(hc:(!(u == .bool b))=c)(q:Q (.bl c) H) :
  wpAny (model X.prog X.w) X.A (compareOp .IsNot u (.bool b)) (EP X HM σ Q) X.xe s:=by
 show wpAny _ _ (do return Value.bool (!(<-isSame u (.bool b)))) _ _ _;exact qaa (wpAny_isSame_plain hp (qag (by rw[hc];exact⟨.bl c,H,I,rfl,q⟩)))
def oj_is:OpJ X (compareOp .Is) (pf false):=by
 intro HM s σ H x' y' u v Q I rx' ry' ⟨ρ,h,x,y,rh,rx,ry,q⟩
 cases ry with
 | non =>
  refine op_isN HM s σ H _ _ u v Q I rx' ry' ⟨rfl,?_⟩;cases rx <;> exact q ρ H _ (Le.refl _ _) rh (by first | exact .bl true | exact .bl false)
 | bl b =>
  cases ry'
  cases rx with
  | non=>cases rx';exact nO (x':=.non) (c:=false) I rfl (by cases b <;> rfl) (by cases b <;> rfl) (q ρ H _ (Le.refl _ _) rh (.bl false))
  | bl c=>cases rx';exact nO (x':=.bl c) (c:=c == b) I rfl (by cases b <;> cases c <;> rfl) (by cases b <;> cases c <;> rfl) (q ρ H _ (Le.refl _ _) rh (.bl _))
  | int i=>obtain⟨t,rfl⟩:=rx';exact nO (x':=.int i) (c:=false) I ⟨_,rfl⟩ (by cases b <;> rfl) (by cases b <;> rfl) (q ρ H _ (Le.refl _ _) rh (.bl false))
  | str i=>obtain⟨t,rfl⟩:=rx';exact nO (x':=.str i) (c:=false) I ⟨_,rfl⟩ (by cases b <;> rfl) (by cases b <;> rfl) (q ρ H _ (Le.refl _ _) rh (.bl false))
  | tup s1 r1=>cases rx';exact nO (x':=.ref _) (c:=false) I rfl (by cases b <;> rfl) (by cases b <;> rfl) (q ρ H _ (Le.refl _ _) rh (.bl false))
  | _=>exact q.elim
 | _=>exact q.elim
def oj_isn:OpJ X (compareOp .IsNot) (pf true):=by
 intro HM s σ H x' y' u v Q I rx' ry' ⟨ρ,h,x,y,rh,rx,ry,q⟩
 cases ry with
 | non =>
  refine op_notN HM s σ H _ _ u v Q I rx' ry' ⟨rfl,?_⟩;cases rx <;> exact q ρ H _ (Le.refl _ _) rh (by first | exact .bl true | exact .bl false)
 | bl b =>
  cases ry'
  cases rx with
  | non=>cases rx';exact j5 (x':=.non) (c:=true) I rfl (by cases b <;> rfl) (by cases b <;> rfl) (q ρ H _ (Le.refl _ _) rh (.bl true))
  | bl c=>cases rx';exact j5 (x':=.bl c) (c:=!(c == b)) I rfl (by cases b <;> cases c <;> rfl) (by cases b <;> cases c <;> rfl) (q ρ H _ (Le.refl _ _) rh (.bl _))
  | int i=>obtain⟨t,rfl⟩:=rx';exact j5 (x':=.int i) (c:=true) I ⟨_,rfl⟩ (by cases b <;> rfl) (by cases b <;> rfl) (q ρ H _ (Le.refl _ _) rh (.bl true))
  | str i=>obtain⟨t,rfl⟩:=rx';exact j5 (x':=.str i) (c:=true) I ⟨_,rfl⟩ (by cases b <;> rfl) (by cases b <;> rfl) (q ρ H _ (Le.refl _ _) rh (.bl true))
  | tup s1 r1=>cases rx';exact j5 (x':=.ref _) (c:=true) I rfl (by cases b <;> rfl) (by cases b <;> rfl) (q ρ H _ (Le.refl _ _) rh (.bl true))
  | _=>exact q.elim
 | _=>exact q.elim
def aA(x y:PV)(h:MH):Out PV:=match y with
 | .int i=>(match x with
  | .loc n=>(match h[n]? with
   | some (.lst xs)=>(match atI xs i with
    | some v=>.ok v h
    | none=>.bad)
   | _=>.bad)
  | .tup xs=>(match atI xs i with
   | some v=>.ok v h
   | none=>.bad)
  | .frl xs=>(match atI xs i with
   | some v=>.ok v h
   | none=>.bad)
  | .str z=>(match atI z.cps.toList i with
   | some c=>if z.length<=sizeLine then .ok (.str ⟨#[c]⟩) h else .bad
   | none=>.bad)
  | _=>.bad)
 | _=>.bad
def o8{K:qac}{ρ:List Addr}{H:Hp}{xs:List PV}{ys:List V}{i:Int}{v:PV}(r:RPs K ρ H xs ys)(e:atI xs i=some v):∃v',atI ys i=some v'/\RP K ρ H v v':=by
 unfold atI at e ⊢;rw[<-r.length]
 cases q:ixN xs.length i with
 | none=>rw[q] at e;cases e
 | some j =>
  rw[q] at e;exact r.get e
def me_ix{a b:Expr}{ma mb:Mx PV}{pos:Pos}(ha:ME X a ma)(hb:ME X b mb)(hs:kS b):ME X (.Subscript a b pos) (aj aA ma mb):=by
 refine PE.imp (pe_ix ix_seq ha hb hs) fun σ H Q q=>?_;obtain⟨ρ,σp,h,rs,rh,q⟩:=q;refine⟨ρ,σp,h,rs,rh,Ful.bind q fun ρ1 H1 x x' h1 _ l1 rh1 rx q1=>⟨ρ1,σp,h1,rs.le l1,rh1,Ful.bind q1 fun ρ2 H2 y y' h2 _ l2 rh2 ry q2=>?_⟩⟩;have rx2:=rx.le l2
 cases ry with
 | int i =>
  cases rx2 with
  | @loc n a e =>
   obtain⟨ob,eo,rob⟩:=rh2.obj e;dsimp only[aA] at q2;rw[eo] at q2
   cases ob with
   | dic kvs=>exact q2.elim
   | exc x=>exact q2.elim
   | lst xs =>
    obtain⟨ys,ey,rr⟩:=rob;dsimp only at q2
    cases ea:atI xs i with
    | none=>rw[ea] at q2;exact q2.elim
    | some v =>
     rw[ea] at q2;obtain⟨v',e',rv⟩:=o8 rr ea;exact .inl ⟨a,ys,i,v',rfl,rfl,SqL.of ey,e',q2 ρ2 H2 _ (Le.refl _ _) rh2 rv⟩
  | @tup xs a ys s1 rr =>
   dsimp only[aA] at q2
   cases ea:atI xs i with
   | none=>rw[ea] at q2;exact q2.elim
   | some v =>
    rw[ea] at q2;obtain⟨v',e',rv⟩:=o8 rr ea;exact .inr (.inl ⟨_,_,i,v',rfl,rfl,s1,e',q2 ρ2 H2 _ (Le.refl _ _) rh2 rv⟩)
  | @frl xs a ys s1 rr =>
   dsimp only[aA] at q2
   cases ea:atI xs i with
   | none=>rw[ea] at q2;exact q2.elim
   | some v =>
    rw[ea] at q2;obtain⟨v',e',rv⟩:=o8 rr ea;exact .inl ⟨_,_,i,v',rfl,rfl,s1.sq,e',q2 ρ2 H2 _ (Le.refl _ _) rh2 rv⟩
  | str z =>
   dsimp only[aA] at q2
   cases ea:atI z.cps.toList i with
   | none=>rw[ea] at q2;exact q2.elim
   | some c =>
    rw[ea] at q2;dsimp only at q2
    split at q2
    ·rename_i hz
     exact .inr (.inr ⟨z,i,c,rfl,rfl,hz,ea,q2 ρ2 H2 _ (Le.refl _ _) rh2 (.str _)⟩)
    ·exact q2.elim
  | _=>exact q2.elim
 | _=>exact q2.elim
def mCB(f:List PV->MH->Out PV)(m:Mx (List PV)):Mx PV:=fun σ h=>(m σ h).bind fun xs h1=>(f xs h1).ne
section
variable {x:Str} {id T:String} {e:Expr} {es:List Expr} {f:List PV→MH→Out PV} {m:Mx (List PV)} {p pos:Pos}
def tM_cb{σ:L2.St}{H:Hp}{Q:VK}(q:tM X (RV' X) (mCB f m) σ H Q):tCB (cJ X f) (tM X (RVs' X) m) σ H Q:=by
 obtain⟨ρ,σp,h,rs,rh,q⟩:=q;exact⟨ρ,σp,h,rs,rh,Ful.bind q fun ρ1 H1 x x' h1 _ l1 rh1 rx q1=>⟨ρ1,h1,x,rh1,rx,q1.zero⟩⟩
def yG(g:Good X N W G k)(j:Nat)(hj:G[j]?=some x)(hc:cp X (.builtin id) f)(hm:X.mg x=none)(hv:bootBuiltins x=some (.builtin id))(ha:MA X (e::es) m)
  (he:starEach (e::es) X.env=(false,eval e X.env)::starEach es X.env:=by rfl) (hpl:(backTo pos (starEach es X.env)).any (·.1)=false:=by rfl):ME X (.Call (.Name x p) (e::es) [] pos) (mCB f m) :=
 have d:=g.dbg x (qaj _ (az hj))
 PE.imp (gQ hc (g.gl x (az hj)) hm hv ha d.2.2 d.1 he hpl) fun _ _ _ q=>tM_cb q
def yd(g:Good X N W G k)(j:Nat)(hj:G[j]?=some x)(hc:cp X (.type T) f)(hm:X.mg x=none)(hv:bootBuiltins x=some (.type T))(ha:MA X (e::es) m)
  (he:starEach (e::es) X.env=(false,eval e X.env)::starEach es X.env:=by rfl) (hpl:(backTo pos (starEach es X.env)).any (·.1)=false:=by rfl):ME X (.Call (.Name x p) (e::es) [] pos) (mCB f m) :=
 have d:=g.dbg x (qaj _ (az hj))
 PE.imp (g8 hc (g.gl x (az hj)) hm hv ha d.2.2 d.1 he hpl) fun _ _ _ q=>tM_cb q
end
def fAbs(xs:List PV)(h:MH):Out PV:=match xs with
 | [.int i]=>.ok (.int (if i<0 then -i else i)) h
 | _=>.bad
def fMin(xs:List PV)(h:MH):Out PV:=match xs with
 | [.int i,.int j]=>.ok (.int (if j<i then j else i)) h
 | _=>.bad
def fMax(xs:List PV)(h:MH):Out PV:=match xs with
 | [.int i,.int j]=>.ok (.int (if j>i then j else i)) h
 | _=>.bad
def fLen(xs:List PV)(h:MH):Out PV:=match xs with
 | [.loc n]=>(match h[n]? with
  | some (.lst ys)=>.ok (.int ys.length) h
  | _=>.bad)
 | [.tup ys]=>.ok (.int ys.length) h
 | [.frl ys]=>.ok (.int ys.length) h
 | [.str z]=>if z.length<=sizeLine then .ok (.int z.length) h else .bad
 | _=>.bad
def kA:cp X (.builtin "abs") fAbs:=by
 intro HM s σ H xs us Q I r ⟨ρ,h,ps,rh,rp,q⟩
 cases rp with
 | nil=>exact q.elim
 | cons r1 t1 =>
  cases t1 with
  | cons _ _=>cases r1 <;> exact q.elim
  | nil =>
   cases r1 with
   | int i=>exact y6 HM s σ H _ us Q I r ⟨i,rfl,q ρ H _ (Le.refl _ _) rh (.int _)⟩
   | _=>exact q.elim
def sv{f:List PV->MH->Out PV}{F:Int->Int->Int}{r:List V->Hp->VK->Prop}{V0:Value}(hf:∀i j h,f [.int i,.int j] h=.ok (.int (F i j)) h)(hb:∀xs h,(∀i j,xs≠[.int i,.int j])->f xs h=.bad)
  (hc:bQ X V0 (fun xs H Q=>∃i j,xs=[.int i,.int j]/\Q (.int (F i j)) H)):cp X V0 f:=by
 intro HM s σ H xs us Q I r ⟨ρ,h,ps,rh,rp,q⟩;by_cases z:∃i j,ps=[.int i,.int j]
 ·obtain⟨i,j,rfl⟩:=z
  cases rp with
  | cons r1 t1=>cases t1 with
   | cons r2 t2 =>
    cases t2;cases r1;cases r2;rw[hf] at q;exact hc HM s σ H _ us Q I r ⟨i,j,rfl,q ρ H _ (Le.refl _ _) rh (.int _)⟩
 ·rw[hb ps h fun i j e=>z ⟨i,j,e⟩] at q;exact q.elim
def j0(g:Good X N W G k):cp X (.builtin "min") fMin:=sv (r:=fun _ _ _=>True) (F:=fun i j=>if j<i then j else i) (fun _ _ _=>rfl) (fun xs h z=>by unfold fMin;split <;> first | rfl | exact absurd rfl (z _ _)) (pD g.calm)
def tt(g:Good X N W G k):cp X (.builtin "max") fMax:=sv (r:=fun _ _ _=>True) (F:=fun i j=>if j>i then j else i) (fun _ _ _=>rfl) (fun xs h z=>by unfold fMax;split <;> first | rfl | exact absurd rfl (z _ _)) (pE g.calm)
def db:cp X (.builtin "len") fLen:=by
 intro HM s σ H xs us Q I r ⟨ρ,h,ps,rh,rp,q⟩
 cases rp with
 | nil=>exact q.elim
 | cons r1 t1 =>
  cases t1 with
  | cons _ _=>cases r1 <;> exact q.elim
  | nil =>
   cases r1 with
   | @loc n a e =>
    obtain⟨ob,eo,rob⟩:=rh.obj e;dsimp only[fLen] at q;rw[eo] at q
    cases ob with
    | dic kvs=>exact q.elim
    | exc x=>exact q.elim
    | lst xs =>
     obtain⟨ys,ey,rr⟩:=rob;exact jm HM s σ H _ us Q I r ⟨_,_,rfl,.inl ⟨ys,SqL.of ey,rfl⟩,by rw[<-rr.length];exact q ρ H _ (Le.refl _ _) rh (.int _)⟩
   | tup s1 rr=>exact jm HM s σ H _ us Q I r ⟨_,_,rfl,.inr ⟨_,s1,rfl⟩,by rw[<-rr.length];exact q ρ H _ (Le.refl _ _) rh (.int _)⟩
   | frl s1 rr=>exact jm HM s σ H _ us Q I r ⟨_,_,rfl,.inl ⟨_,s1.sq,rfl⟩,by rw[<-rr.length];exact q ρ H _ (Le.refl _ _) rh (.int _)⟩
   | str z =>
    dsimp only[fLen] at q
    split at q
    ·rename_i hz
     exact jm HM s σ H _ us Q I r ⟨_,_,rfl,⟨hz,rfl⟩,q ρ H _ (Le.refl _ _) rh (.int _)⟩
    ·exact q.elim
   | _=>exact q.elim
def tyP(h:MH):PV->Option String
 | .non=>some "NoneType"
 | .bl _=>some "bool"
 | .int _=>some "int"
 | .str _=>some "str"
 | .tup _=>some "tuple"
 | .frl _=>some "list"
 | .loc n=>match h[n]? with
  | some (.lst _)=>some "list"
  | some (.dic _)=>some "dict"
  | _=>none
def ba(t:String)(T:String):Bool:=t == T || (t == "bool" && T == "int")
def bw(Ts:List String)(x:PV)(h:MH):Out PV:=match tyP h x with
 | some t=>.ok (.bl (Ts.any (ba t))) h
 | none=>.bad
def okT(T:String):Prop:=∀K:qac,∀t∈["NoneType","bool","int","str","tuple","list","dict"],PySem.W.kitOne K (.type t) (.type T)=some (ba t T)
def oB(h1:∀K,PySem.W.kitOne K (.type "NoneType") (.type T)=some (ba "NoneType" T))(h2:∀K,PySem.W.kitOne K (.type "bool") (.type T)=some (ba "bool" T))(h3:∀K,PySem.W.kitOne K (.type "int") (.type T)=some (ba "int" T))
  (h4:∀K,PySem.W.kitOne K (.type "str") (.type T)=some (ba "str" T)) (h5:∀K,PySem.W.kitOne K (.type "tuple") (.type T)=some (ba "tuple" T)) (h6:∀K,PySem.W.kitOne K (.type "list") (.type T)=some (ba "list" T))
  (h7:∀K,PySem.W.kitOne K (.type "dict") (.type T)=some (ba "dict" T)):okT T:=by
 intro K t ht;simp only[qak,qaW,or_false] at ht;rcases ht with rfl|rfl|rfl|rfl|rfl|rfl|rfl
 ·exact h1 K
 ·exact h2 K
 ·exact h3 K
 ·exact h4 K
 ·exact h5 K
 ·exact h6 K
 ·exact h7 K
def vx:okT "int":=oB (fun _=>rfl) (fun _=>rfl) (fun _=>rfl) (fun _=>rfl) (fun _=>rfl) (fun _=>rfl) (fun _=>rfl)
def rP:okT "bool":=oB (fun _=>rfl) (fun _=>rfl) (fun _=>rfl) (fun _=>rfl) (fun _=>rfl) (fun _=>rfl) (fun _=>rfl)
def dX:okT "list":=oB (fun _=>rfl) (fun _=>rfl) (fun _=>rfl) (fun _=>rfl) (fun _=>rfl) (fun _=>rfl) (fun _=>rfl)
def da:okT "tuple":=oB (fun _=>rfl) (fun _=>rfl) (fun _=>rfl) (fun _=>rfl) (fun _=>rfl) (fun _=>rfl) (fun _=>rfl)
def u3{HM:List (Addr × Obj)}{σ:L2.St}{H:Hp}{s:Shared}{ρ:List Addr}{h:MH}{x:PV}{x':V}{u:Value}{t:String}(I:Inv X HM σ H s)(rh:RH X.K X.mg ρ H h)(rx:RP X.K ρ H x x')(ru:aF x' u)(e:tyP h x=some t) :
  t∈["NoneType","bool","int","str","tuple","list","dict"]/\u≠.builtin "__main__.__loader__#opaque"/\∃Hq,PySem.W.KitX X.K u (.type t) Hq/\Hq s.heap:=by
 cases rx with
 | non=>cases e;cases ru;exact⟨by simp,(fun z=>nomatch z),_,PySem.W.kitx_none,trivial⟩
 | bl b=>cases e;cases ru;exact⟨by simp,(fun z=>nomatch z),_,PySem.W.kitx_bool,trivial⟩
 | int i=>cases e;obtain⟨t,rfl⟩:=ru;exact⟨by simp,(fun z=>nomatch z),_,PySem.W.kitx_int,trivial⟩
 | str i=>cases e;obtain⟨t,rfl⟩:=ru;exact⟨by simp,(fun z=>nomatch z),_,PySem.W.kitx_str,trivial⟩
 | tup s1 r1 =>
  cases e;cases ru;obtain⟨its,rv,⟨o,e1,e2,_⟩,_⟩:=I.tuple s1;exact⟨by simp,(fun z=>nomatch z),_,PySem.W.kitx_tuple,⟨o,e1,e2⟩⟩
 | frl s1 r1 =>
  cases e;cases ru;obtain⟨its,rv,⟨o,m,e1,e2,_,e3⟩,_⟩:=I.list s1.sq;exact⟨by simp,(fun z=>nomatch z),_,PySem.W.kitx_list,⟨o,e1,e2⟩⟩
 | @loc n a en =>
  obtain⟨ob,eo,rob⟩:=rh.obj en;dsimp only[tyP] at e;rw[eo] at e;cases ru
  cases ob with
  | lst xs =>
   cases e;obtain⟨ys,ey,_⟩:=rob;obtain⟨its,rv,⟨o,m,e1,e2,_,e3⟩,_⟩:=I.list (SqL.of (K:=X.K) ey);exact⟨by simp,(fun z=>nomatch z),_,PySem.W.kitx_list,⟨o,e1,e2⟩⟩
  | dic kvs =>
   cases e;obtain⟨_,ey⟩:=rob;obtain⟨_,_,vs,_,p⟩:=(show ObjOk X.prog X.w H s.heap a (.dK []) from I.hok a _ ey);obtain⟨o,es,ep,h1,h2,_⟩:=p;exact⟨by simp,(fun z=>nomatch z),_,PySem.W.kitx_dict,⟨o,h1,h2.1⟩⟩
  | exc x=>cases e
def dH(g:Good X N W G k){a:Expr}{m:Mx PV}{T:String}{c:Str}{i j:Nat}{p q pos:Pos}(hi:G[i]?=some "isinstance")(hm:X.mg "isinstance"=none)(hj:G[j]?=some c)(hc:X.mg c=none)(hv:bootBuiltins c=some (.type T))(hT:okT T)(ha:ME X a m)
  (he:starEach [a,.Name c q] X.env=(false,eval a X.env)::starEach [.Name c q] X.env:=by rfl) (he2:starEach [.Name c q] X.env=[(false,eval (.Name c q) X.env)]:=by rfl) (hpl:(backTo pos (starEach [.Name c q] X.env)).any (·.1)=false:=by rfl) :
  ME X (.Call (.Name "isinstance" p) [a,.Name c q] [] pos) (mUn (bw [T]) m):=by
 have d1:=g.dbg _ (qaj _ (az hi));have d:=g.dbg c (qaj _ (az hj));have hcall:bQ X (.builtin "isinstance") (fun xs H Q=>∃x',xs=[x',.ty T]/\uJ X (bw [T]) x' H Q):=by
  intro HM s σ H xs us Q I r ⟨x',e,ρ,h,x,rh,rx,q⟩;subst e
  cases r with
  | cons r1 t1=>cases t1 with
   | cons r2 t2 =>
    cases t2;obtain rfl:=(show _=Value.type T from r2);unfold bw at q
    cases et:tyP h x with
    | none=>rw[et] at q;exact q.elim
    | some t =>
     rw[et] at q;obtain⟨ht,hne,Hq,Z,hz⟩:=u3 I rh rx r1 et
     exact PySem.W.kia_one Z I.kIn hz (hT X.K t ht) hne fun tk=>⟨.bl _,H,I.tok _,rfl,by
      have q':=q ρ H _ (Le.refl _ _) rh (.bl _)
      simpa using q'⟩
 refine PE.imp (gQ hcall (g.gl _ (az hi)) hm PyProof.Rows.Boot.«isinstance» (cO ha (cO (pe (v:=.ty T) (u:=.type T) (g.gl c (az hj)) hc hv rfl d.2.2 d.1) g0 he2) he) d1.2.2 d1.1 he hpl) fun σ H Q ⟨ρ,σp,h,rs,rh,q⟩=>?_;exact⟨ρ,σp,h,rs,rh,Ful.bind q fun ρ1 H1 x x' h1 _ l1 rh1 rx q1=>⟨x',rfl,ρ1,h1,x,rh1,rx,q1.zero⟩⟩
def spM(K:qac)(mg:MGl)(F:List PV->MH->Out PV):Sp:=fun vs H Q E=>∃ρ ps h,RPs K ρ H ps vs/\RH K mg ρ H h/\match F ps h with
 | .ok v h'=>∀ρ' H' v',Le ρ H ρ' H'->RH K mg ρ' H' h'->RP K ρ' H' v v'->Q v' H'
 | .exc x h'=>∀C ρ' H',x.fs=[]->mg x.cls=some (.ref C)->Le ρ H ρ' H'->RH K mg ρ' H' h'->E (.ref C) none H'
 | .bad=>False
def CXm(P:Program)(w:World):CXT:=fun outer H s E e s'=>∃ea C H',e=.ref ea/\s'.os=s.os/\AllBare s'.gens/\Un (frs outer) [] H H' s.heap s'.heap/\HOk P w H' s'.heap/\Fly outer H' s.heap C ea s'.heap/\E (.ref C) none H'
structure Cal (X:Cx) (x:Str) (ps:List Str) (F:List PV->MH->Out PV) (k:Nat):Prop where
 ex:∃f fd,X.mg x=some (.ref f)/\PySem.W.keepIn X.K (.ref f)=true/\nk X.K fd ps []/\FnOk X.prog X.w X.K X.mg X.base (CXm X.prog X.w) k f fd ps (spM X.K X.mg F)
def Cal.to(c:Cal X x ps F i)(e1:Y.prog=X.prog)(e2:Y.w=X.w)(e3:Y.K=X.K)(e4:Y.mg=X.mg)(e5:Y.base=X.base):Cal Y x ps F i:=by
 obtain⟨f,fd,a,b,d,e⟩:=c.ex;refine⟨f,fd,by rw[e4];exact a,by rw[e3];exact b,by rw[e3];exact d,?_⟩;rw[e1,e2,e3,e4,e5];exact e
def ao(F:List PV->MH->Out PV)(m:Mx (List PV)):Mx PV:=fun σ h=>(m σ h).bind F
def me_call(g:Good X N W G k){x:Str}{j:Nat}(hj:G[j]?=some x){ps:List Str}{F:List PV->MH->Out PV}(C:Cal X x ps F k){e:Expr}{es:List Expr}{m:Mx (List PV)}{p pos:Pos}(ha:MA X (e::es) m)
  (he:starEach (e::es) X.env=(false,eval e X.env)::starEach es X.env:=by rfl) (hpl:(backTo pos (starEach es X.env)).any (·.1)=false:=by rfl):ME X (.Call (.Name x p) (e::es) [] pos) (ao F m):=by
 obtain⟨f,fd,hm,hk,hb,F'⟩:=C.ex;have d:=g.dbg x (qaj _ (az hj));intro HM s σ H Q I ⟨ρ,σp,h,rs,rh,q⟩;refine wpAny_Call_Name_kw (o4 I (g.gl x (az hj)) hm ?_ d.1)
 refine PySem.W.callWith_K (h₀:=X.base) I.ok.mod.kin hk (thn (ha pos HM s σ H (fun vs H1=>∃ρ1 xs h1,Le ρ H ρ1 H1/\RH X.K X.mg ρ1 H1 h1/\RPs X.K ρ1 H1 xs vs/\Ful X (RV' X) σp ρ1 H1 (F xs h1) Q) I
  ⟨ρ,σp,h,rs,rh,Ful.bind q fun ρ1 H1 xs vs h1 _ l1 rh1 rx q1=>⟨ρ1,xs,h1,l1,rh1,rx,q1⟩⟩) fun us s1 ⟨vs,H1,I1,r,ρ1,xs,h1,l1,rh1,rx,q1⟩=>⟨I1.kIn,?_⟩) he hpl
 have run:∀E:XK,spM X.K X.mg F vs H1 Q E->(∀ea C H' s',s'.os=s1.os->AllBare s'.gens->Un (frs X.stack) [] H1 H' s1.heap s'.heap->HOk X.prog X.w H' s'.heap->Fly X.stack H' s1.heap C ea s'.heap->E (.ref C) none H'->X.xe (.ref ea) s') ->
   wpAny (model X.prog X.w) X.A (call (.ref f) us) (EP X HM σ Q) X.xe s1:=fun E hsp hE=>by
  have hl:(us++[]).length=ps.length:=by rw[qca,<-r.length];exact F'.len _ _ _ _ hsp
  have hb1:=hb s1 us I1.kIn hl;rw[qca] at hb1;refine wpAny_call (codeAny_mono (F'.run X.A X.stack s1 H1 ⟨us,[]⟩ us vs Q E g.room I1.env0 hb1 r hsp) fun r s' hq=>?_)
  cases r with
  | error e =>
   obtain⟨ea,C,H',rfl,a1,a2,a3,a4,a5,a6⟩:=hq;exact hE ea C H' s' a1 a2 a3 a4 a5 a6
  | ok fl =>
   cases fl with
   | ret u=>exact I1.after hq
   | next=>exact False.elim hq
   | brk=>exact False.elim hq
   | cont=>exact False.elim hq
 cases eF:F xs h1 with
 | bad=>rw[eF] at q1;exact q1.elim
 | ok v h' =>
  rw[eF] at q1;exact run (fun _ _ _=>False) ⟨ρ1,xs,h1,rx,rh1,by rw[eF];exact q1⟩ fun _ _ _ _ _ _ _ _ _ z=>z.elim
 | exc x' h' =>
  rw[eF] at q1;refine run (fun c _ H'=>∃C ρ',c=.ref C/\x'.fs=[]/\X.mg x'.cls=some (.ref C)/\Le ρ1 H1 ρ' H'/\RH X.K X.mg ρ' H' h') ⟨ρ1,xs,h1,rx,rh1,by rw[eF];exact fun C ρ' H' a b c d=>⟨C,ρ',rfl,a,b,c,d⟩⟩ fun ea C H' s' a1 a2 a3 a4 a5 a6=>?_;obtain⟨C',ρ',eC,b1,b2,b3,b4⟩:=a6;cases eC;have IX:=I1.call' (s':=s') (ch:=[]) a1 a3 a4 a2 (fun b z=>absurd z (by simp));have IX0:Inv X [] σ H' s':=Inv.unpinned (HM:=[]) (pl:=HM) IX;exact q1 ea C ρ' H' σ s' s1.heap b1 b2 b3 b4 (rs.le (l1.trans b3)) IX0 (Inv.bears I1) a5
def bG(n:Nat)(ps:List PV):PSt:=ps.map some++List.replicate (n - ps.length) none
def aS(n np:Nat)(m:Mst):List PV->MH->Out PV:=fun ps h=>if ps.length=np then (match m (bG n ps) h with
 | .nx _ h'=>.ok .non h'
 | .rt v h'=>.ok v h'
 | .exc x _ h'=>.exc x h'
 | .rse x _ h'=>.exc x h'
 | _=>.bad) else .bad
def yD{K:qac}{ρ:List Addr}{H:Hp}{N:List Str}{ps:List PV}{vs:List V}(r:RPs K ρ H ps vs):RS K ρ H (bG N.length ps) (L2.start N vs):=by
 have hl:=r.length;refine⟨by simp[bG,L2.start,hl],fun i v e=>?_⟩;unfold bG at e;by_cases hi:i<ps.length
 ·rw[qao (by simpa using hi),qaw] at e
  cases q:ps[i]? with
  | none=>rw[q] at e;cases e
  | some x =>
   rw[q] at e;cases e;obtain⟨v',e',rv⟩:=r.get q;refine⟨v',?_,rv⟩;unfold L2.start;rw[qao (by simp;lia),qaw,e'];rfl
 ·rw[qaC (by simpa using hi),qbl] at e
  split at e <;> cases e
def yK{B h:Heap}(k:B.StaysIn h){b:Addr}{o ob:Obj}(e1:B.get? b=some ob)(e2:h.get? b=some o):ob=o:=by
 have:=k b ob e1
 rw[e2] at this;exact (Option.some.inj this).symm
def vz{X:Cx}{σ':L2.St}{H':Hp}{s':Shared}{h' B:Heap}(I:Inv X [] σ' H' s')(hex:X.ex=[])(hB:B.StaysIn s'.heap)(hB':B.StaysIn h')(sm:s'.heap.UpToSlots h')
  (cov:∀b o,X.s₀.heap.get? b=some o->b∉X.fs->∃ob,B.get? b=some ob) (cvH:∀b o,H' b=some o->∃ob,B.get? b=some ob):Un X.fs [] X.H₀ H' X.s₀.heap h'/\HOk X.prog X.w H' h':=by
 have nex:∀b:Addr,b∉X.ex:=fun b=>by rw[hex];simp
 have kp:∀b o ob,B.get? b=some ob->s'.heap.get? b=some o->h'.get? b=some o:=fun b o ob e1 e2=>by
  have:=yK hB e1 e2
  subst this;exact hB' b ob e1
 refine⟨⟨fun b o e n hf _=>?_,fun b o e n hf _=>?_,fun b o e n _=>I.base.free b o e n (nex b),fun b o e _=>?_,I.base.tups,I.base.frzs,I.base.tbls⟩,fun a o e=>?_⟩
 ·obtain⟨ob,eb⟩:=cov b o e hf;exact kp b o ob eb (I.base.keep b o e n hf (nex b))
 ·obtain⟨sl,e1⟩:=I.base.slot b o e n hf (nex b);obtain⟨_,oF,eF,dF⟩:=I.ok.funs.mem hf;rw[e] at eF;cases eF;obtain⟨sl',e2⟩:=sm b _ e1 (fun vs z=>dF vs z);exact⟨sl',e2⟩
 ·by_cases hf:b∈X.fs
  ·obtain⟨_,oF,eF,dF⟩:=I.ok.funs.mem hf;rw[e] at eF;cases eF;obtain⟨sl,e1⟩:=I.base.slot b o e (I.ok.frf b hf) hf (nex b);obtain⟨sl',e2⟩:=sm b _ e1 (fun vs z=>dF vs z);exact⟨_,e2⟩
  ·obtain⟨ob,eb⟩:=cov b o e hf;exact⟨ob,hB' b ob eb⟩
 ·refine (I.hok a o e).stay (fun b u hb z=>?_) (fun _ z=>z) fun _ _ z=>z;rcases hb with rfl|hb
  ·obtain⟨ob,eb⟩:=cvH _ _ e;exact kp _ u ob eb z
  ·obtain⟨ob,eb⟩:=cvH _ _ hb;exact kp _ u ob eb z
def _root_.L2.ObjOk.has(x:ObjOk P w H h a o):∃u,h.get? a=some u:=by
 cases o with
 | lst xs=>obtain⟨_,_,_,_,e⟩:=x;exact⟨_,e⟩
 | tup xs=>obtain⟨_,_,_,o,e,_⟩:=x;exact⟨o,e⟩
 | dK kvs=>obtain⟨_,_,_,_,o,_,_,e,_⟩:=x;exact⟨o,e⟩
 | dT kvs=>obtain⟨_,_,_,_,o,_,_,e,_⟩:=x;exact⟨o,e⟩
 | set S n=>obtain⟨o,_,_,_,e,_⟩:=x;exact⟨o,e⟩
 | ins C dx fs=>obtain⟨_,_,_,e,_⟩:=x;exact⟨_,e⟩
 | own y=>obtain⟨o,e⟩:=x;exact⟨o,e⟩
 | xd fs=>obtain⟨_,⟨o,_,_,e,_⟩,_⟩:=x;exact⟨o,e⟩
 | rng lo hi=>obtain⟨_,_,_,e⟩:=x;exact⟨_,e⟩
 | frz ob u=>obtain⟨e,_⟩:=x;exact⟨_,e⟩
 | tbl ps=>exact⟨_,(show h.get? a=some _ from x)⟩
 | met f y=>exact⟨_,(show h.get? a=some _ from x)⟩
 | ext φ=>obtain⟨_,⟨o,e⟩,_⟩:=x;exact⟨o,e⟩
structure DefCx (X:Cx):Prop where
 stk:X.stack=X.env::X.outer
 fr:X.env.frame=some X.env.locals
 ex:X.ex=[]
def fn_M{P:Program}{w:World}{K:qac}{mg:Str->Option Value}{base:Heap}{x qual:Str}{st:Stmt}{f:Addr}{fd:FuncData}{ps:List Str}{m:Mst}(Fu:Fun K x qual st f fd)(S:FnScope N ps (aE st))
  (hl:∀y∈N,Loc (aE st) y) (hgl:∀y∈G,(aE st).names.lookup y=some .globalImplicit)
  (dbg:∀x∈N++G,(x == ("__debug__":Str))=false/\(x == ("__classdict__":Str))=false/\x≠"__name__")
  (hb:∀X:Cx,X.prog=P->X.w=w->X.K=K->X.mg=mg->X.base=base->X.env.scope=aE st->Good X N N G k->DefCx X->MSs X (aC st) m) :
  FnOk P w K mg base (CXm P w) (k+1) f fd ps (spM K mg (aS N.length ps.length m)):=by
 have len:∀vs H Q E,spM K mg (aS N.length ps.length m) vs H Q E->vs.length=ps.length:=by
  rintro vs H Q E ⟨ρ,zs,h,r,rh,q⟩;rw[<-r.length];unfold aS at q;by_cases hp:zs.length=ps.length
  ·exact hp
  ·rw[qan hp] at q;exact q.elim
 obtain⟨oc,od,kV,doc,pm,an,cdv,ct,osl,rfl,lk,hcd⟩:=Fu.ex;refine fn_of lk hcd S len fun A outer s H vs Q E hr hsp=>?_;obtain⟨ρ,zs,h,r,rh,q⟩:=hsp;refine⟨_,hb _ rfl rfl rfl rfl rfl rfl ⟨rfl,S.nd,hl,fun _ _=>.inl rfl,hgl,dbg,rfl,hr,PassesOwn.leaving⟩ ⟨rfl,rfl,rfl⟩,ρ,bG N.length zs,h,yD r,rh,?_⟩;unfold aS at q;by_cases hp:zs.length=ps.length
 ·rw[qah hp] at q
  cases e:m (bG N.length zs) h with
  | nx σ' h'=>rw[e] at q;exact fun ρ' H' σ' l r' s'=>q ρ' H' .non l r' .non
  | rt v h'=>rw[e] at q;exact q
  | bk σ h'=>rw[e] at q;exact q.elim
  | ct σ h'=>rw[e] at q;exact q.elim
  | bad=>rw[e] at q;exact q.elim
  | exc x σ h' =>
   rw[e] at q;intro ea C ρ' H' σ' s' lim hfs hmg l rh' rs' I' brs fly;obtain⟨B,t,hfl,hBH,hcov,hea⟩:=fly;refine wpAny_leaves_onW (base:=B) (env:=envOfC qual (aE st) s.heap.objs.size f cdv) (outer:=outer) I'.ok.frames rfl hfl fun h'' hfl' sm=>?_;have hb1:∀b o,s.heap.get? b=some o->b∉frs outer->∃ob,B.get? b=some ob:=fun b o eb hf=>by
    obtain⟨o',e'⟩:=brs.old b o eb (by show b∉([]:List Addr);simp);refine hcov b o' e' fun hm=>?_;rcases qak.mp (I'.stkSub b hm) with z|z
    ·exact absurd (qal eb) (by rw[z];exact qbc _)
    ·exact hf z
   obtain⟨un,hk'⟩:=vz (B:=B) I' rfl hfl.1 hfl'.1 sm hb1 hBH;exact⟨ea,C,H',rfl,I'.os,I'.bare,un,hk',⟨B,t,hfl',hBH,hb1,hea⟩,q C ρ' H' hfs hmg l rh'⟩
  | rse x σ h' =>
   rw[e] at q;intro ea C ρ' H' σ' s' h0 args hfs hmg l rh' rs' I' made;have hst:=I'.stack;have hin:∀env∈(envOfC qual (aE st) s.heap.objs.size f cdv::outer),∀b,env.frame=some b->b∈frs (envOfC qual (aE st) s.heap.objs.size f cdv::outer):=fun env he b hb=>qbZ.mpr ⟨env,he,hb⟩;refine wpAny_leaves_madeW (base:=PySem.W.hideAll h0 (frs (envOfC qual (aE st) s.heap.objs.size f cdv::outer))) (h:=h0) (env:=envOfC qual (aE st) s.heap.objs.size f cdv) (outer:=outer) I'.ok.frames rfl (fun b o z=>PySem.W.of_hideAll _ z)
    (PySem.W.funFrames_hide (base:=base) hst hin) made fun h'' t hfl' _ _ sm=>?_
   have sub:∀b,b∈frs (envOfC qual (aE st) s.heap.objs.size f cdv::outer)->b=s.heap.objs.size\/b∈frs outer:=fun b hm=>qak.mp (I'.stkSub b hm);have hb1:∀b o,s.heap.get? b=some o->b∉frs outer->∃ob,(PySem.W.hideAll h0 (frs (envOfC qual (aE st) s.heap.objs.size f cdv::outer))).get? b=some ob:=fun b o eb hf=>by
    obtain⟨o',e'⟩:=I'.base.there b o eb (by show b∉([]:List Addr);simp);refine⟨o',PySem.W.hideAll_get _ e' fun hm=>?_⟩;rcases sub b hm with z|z
    ·exact absurd (qal eb) (by rw[z];exact qbc _)
    ·exact hf z
   have hBH:∀b o,H' b=some o->∃ob,(PySem.W.hideAll h0 (frs (envOfC qual (aE st) s.heap.objs.size f cdv::outer))).get? b=some ob:=fun b o eb=>by
    have hlt:=I'.hok.lt eb;obtain⟨u,eu⟩:∃u,h0.get? b=some u:=(I'.hok b o eb).has;refine⟨u,PySem.W.hideAll_get _ eu fun hm=>?_⟩
    have:=I'.stkFree b hm
    rw[eb] at this;cases this
   have sm0:h0.UpToSlots h'':=(Heap.UpToSlots.of_keeps made.keeps).trans sm;obtain⟨un,hk'⟩:=vz (B:=PySem.W.hideAll h0 (frs (envOfC qual (aE st) s.heap.objs.size f cdv::outer))) I' rfl (fun b o z=>PySem.W.of_hideAll _ z) hfl'.1 sm0 hb1 hBH;have hea:H' ea=none:=by
    cases z:H' ea with
    | none=>rfl
    | some o =>
     obtain⟨u,eu⟩:=(I'.hok ea o z).has;rw[made.new] at eu;cases eu
   exact⟨ea,C,H',rfl,I'.os,I'.bare,un,hk',⟨_,t,hfl',hBH,hb1,hea⟩,q C ρ' H' hfs hmg l rh'⟩
 ·rw[qan hp] at q;exact q.elim
def itAny(v:PV)(h:MH):Out MIt:=match v with
 | .loc n=>(match h[n]? with
  | some (.lst xs)=>.ok ⟨xs,[(n,xs)]⟩ h
  | _=>.bad)
 | .frl xs=>.ok ⟨xs,[]⟩ h
 | .tup xs=>.ok ⟨xs,[]⟩ h
 | _=>.bad
def cC(m:Mx PV):Mx MIt:=fun σ h=>(m σ h).bind itAny
def cc(hl:ME X l m):MI X tg l (cC m):=by
 intro HM s σ H R I ⟨ρ,σp,h,rs,rh,q⟩;by_cases z:∃xs h1,m σp h=.ok (.tup xs) h1
 ·obtain⟨xs,h1,e⟩:=z;refine mi_tup (tg:=tg) hl HM s σ H R I ⟨ρ,σp,h,rs,rh,?_⟩;unfold cC at q;unfold mItT;rw[e] at q ⊢;exact q
 ·refine mi_list (tg:=tg) hl HM s σ H R I ⟨ρ,σp,h,rs,rh,?_⟩;unfold cC at q;unfold mItL
  cases e:m σp h with
  | ok v h1 =>
   rw[e] at q
   cases v with
   | tup xs=>exact absurd ⟨xs,h1,e⟩ z
   | _=>exact q
  | exc x h1=>rw[e] at q;exact q
  | bad=>rw[e] at q;exact q
def Inv.bigM{HM:List (Addr × Obj)}{σ:L2.St}{H:Hp}{s:Shared}(I:Inv X HM σ H s):sysModules<s.heap.objs.size:=by
 have h:mainGlobals<s.heap.objs.size:=(I.mod.glob.keeps I.bk).lt;exact qcq (by decide) h
structure FnAt (P:Program) (w:World) (K:qac) (mg:Str->Option Value) (base:Heap) (x:Str) (ps:List Str) (F:List PV->MH->Out PV) (k:Nat):Prop where
 ex:∃f fd,mg x=some (.ref f)/\PySem.W.keepIn K (.ref f)=true/\nk K fd ps []/\FnOk P w K mg base (CXm P w) k f fd ps (spM K mg F)/\∃oc od osl,K.lookup f=some ⟨oc,od,.func fd,osl⟩
def FnAt.mono{P:Program}{w:World}{K:qac}{mg:Str->Option Value}{base:Heap}{x:Str}{ps:List Str}{F:List PV->MH->Out PV}{i j:Nat}(c:FnAt P w K mg base x ps F i)(h:i<=j):FnAt P w K mg base x ps F j :=
 let ⟨f,fd,a,b,d,e,z⟩:=c.ex;⟨f,fd,a,b,d,e.mono h,z⟩
def FnAt.cal{P:Program}{w:World}{K:qac}{mg:Str->Option Value}{base:Heap}{x:Str}{ps:List Str}{F:List PV->MH->Out PV}{i:Nat}(c:FnAt P w K mg base x ps F i){X:Cx}(e1:X.prog=P)(e2:X.w=w)(e3:X.K=K)(e4:X.mg=mg)(e5:X.base=base):Cal X x ps F i:=by
 subst e1;subst e2;subst e3;subst e4;subst e5;obtain⟨f,fd,a,b,d,e,_⟩:=c.ex;exact⟨f,fd,a,b,d,e⟩
structure DefAt (K:qac) (x:Str) (st:Stmt):Prop where
 ex:∃f fd,PySem.W.nsIn K mainGlobals x=some (some (.ref f))/\Fun K x x st f fd
def defAt_mk{K:qac}{x:Str}{st:Stmt}{f:Addr}{oc:Value}{od an:Option Addr}{sl:Array (Option Value)}{kV dc pm cd ct:Value}
  (a:PySem.W.nsIn K mainGlobals x=some (some (.ref f))) (l:K.lookup f=some ⟨oc,od,.func (PySem.W.fnOf x x (gE st) (aC st) (aE st) .none kV dc pm an cd ct),sl⟩) (c:PySem.W.codeIn K cd x=true) (kp:PySem.W.keepIn K (.ref f)=true):DefAt K x st :=
 ⟨f,_,a,fun_mk l c kp⟩
def lg(x:Str)(st:Stmt)(ps:List Str):Prop:=∀(kV doc pm:Value) (an:Option Addr) (cdv ct:Value) (us:List Value),us.length=ps.length->bindArgs (PySem.W.fnOf x x (gE st) (aC st) (aE st) .none kV doc pm an cdv ct) ⟨us,[]⟩=pure (ps.zip us)
def fnAt_M{P:Program}{w:World}{K:qac}{mg:Str->Option Value}{base:Heap}{x:Str}{st:Stmt}{ps:List Str}{m:Mst}(kin:K.In base)(ns:base.Ns mainGlobals mg)(D:DefAt K x st)(S:FnScope N ps (aE st))(B:lg x st ps)
  (hl:∀y∈N,(aE st).names.lookup y=some .local\/(aE st).names.lookup y=some .cell) (hgl:∀y∈G,(aE st).names.lookup y=some .globalImplicit)
  (dbg:∀x∈N++G,(x == ("__debug__":Str))=false/\(x == ("__classdict__":Str))=false/\x≠"__name__")
  (hb:∀X:Cx,X.prog=P->X.w=w->X.K=K->X.mg=mg->X.base=base->X.env.scope=aE st->Good X N N G k->DefCx X->MSs X (aC st) m) :
  FnAt P w K mg base x ps (aS N.length ps.length m) (k+1):=by
 obtain⟨f,fd,a,Fu⟩:=D.ex;have Fx:=Fu.ex;obtain⟨oc,od,kV,doc,pm,an,cdv,ct,osl,e1,e2,_⟩:=Fx;exact⟨f,fd,PySem.W.mg_of kin ns a,Fu.kp,Fu.binds B,fn_M Fu S hl hgl dbg hb,oc,od,osl,e2⟩
def head_M{P:Program}{w:World}{K:qac}{mg:Str->Option Value}{h:Heap}{x y:Str}{st:Stmt}{F:List PV->MH->Out PV}{fa:Addr}(D:DefAt K x st)(B:lg x st [y])(hmg:mg x=some (.ref fa))(kin:K.In h)(ns:h.Ns mainGlobals mg)
  (H:∀base:Heap,K.In base->base.Ns mainGlobals mg->FnAt P w K mg base x [y] F k) :
  ∃fd:FuncData,(∀(s:Shared) (u:Value),BindsTo s fd ⟨[u],[]⟩ [(y,u)])/\∀base:Heap,K.In base->base.Ns mainGlobals mg->FnOk P w K mg base (CXm P w) k fa fd [y] (spM K mg F):=by
 obtain⟨f,fd,a,Fu⟩:=D.ex;have e:=hmg.symm.trans (PySem.W.mg_of kin ns a);cases e;obtain⟨oc,od,kV,doc,pm,an,cdv,ct,osl,e1,e2,e3⟩:=Fu.ex;refine⟨fd,fun s u=>.of_eq ?_,fun base kb nb=>?_⟩
 ·rw[e1];exact B kV doc pm an cdv ct [u] rfl
 ·obtain⟨f',fd',g1,g2,g3,g4,oc',od',osl',g5⟩:=(H base kb nb).ex;rw[hmg] at g1;cases g1;rw[e2] at g5;cases g5;exact g4
def spLaw(K:qac):Sp:=fun vs H Q _=>∃(a:Addr) (ns:List Int),vs=[.ref a]/\SqF K H a (ns.map V.int)/\ns.length<=63/\∀H',Q (.bl true) H'
def walk_M{l:PySem.W.OpenLaw}{q:Program}{loose:List Str}{XP:(Str->Option Value)->Heap->Prop}{YP:World->Heap->Prop}{d:DefRec}{K:Params->qac}{x:Str}{F:List PV->MH->Out PV}(hn:l.most=some 63)(hdf:d.params.defaults=[])(hr:Room k callerA)
  (hY:∀(w:World) (h:Heap),YP w h->(K w.params).In h)
  (HF:∀(w:World) (mg:Str->Option Value) (fa:Addr) (h:Heap),(K w.params).In h->h.Ns mainGlobals mg->mg d.name=some (.ref fa) ->
   ∃fd:FuncData,(∀(s:Shared) (u:Value),BindsTo s fd ⟨[u],[]⟩ [(x,u)])/\∀base:Heap,(K w.params).In base->base.Ns mainGlobals mg->FnOk l.prog w (K w.params) mg base (CXm l.prog w) k fa fd [x] (spM (K w.params) mg F))
  (ht:∀ns:List Int,ns.length<=63->∃h',F [.frl (ns.map .int)] []=.ok (.bl true) h') :
  PySem.W.WalkO q loose XP YP l.row.toRowW d [] (fun f vs=>PySem.call f vs):=by
 refine L2.walk_of (n:=63) (k:=k) (x:=x) (CX:=fun w=>CXm l.prog w) (sp:=fun w=>spLaw (K w.params)) hn (by decide) hdf hr hY (fun w mg fa h hK hns hmg=>?_) (fun w H a ns hl hO hS=>?_) fun w H s e s' z=>?_
 ·obtain⟨fd,hb,hF⟩:=HF w mg fa h hK hns hmg;refine⟨fd,hb,fun base kb nb=>(hF base kb nb).imp fun vs H Q E z=>?_⟩;obtain⟨a,ns,rfl,sf,hl,hq⟩:=z;obtain⟨h',e⟩:=ht ns hl;refine⟨[],[.frl (ns.map .int)],[],.cons (.frl sf (RPs.ints ns)) .nil,⟨rfl,qcO,fun n a o z _=>by simp at z⟩,?_⟩;rw[e];intro ρ' H' v' _ _ r;cases r;exact hq H'
 ·have sf:SqF (K w.params) H a (ns.map V.int):=by
   rcases hS with (z|z)|z
   ·rcases hO a with y|⟨o,xs,y⟩
    ·rw[y] at z;cases z
    ·rw[y] at z;cases z
   ·exact .inl z
   ·exact .inr z
  exact⟨a,ns,rfl,sf,hl,fun _=>rfl⟩
 ·obtain⟨_,_,_,_,_,_,_,_,_,z⟩:=z;exact z
end
section
variable {α:Type} {σ:PSt} {h:MH}
@[simp] theorem mC_ap:mC v σ h=.ok v h:=rfl
@[simp] theorem mVar_0{v:PV}{r:PSt}:ag 0 (some v::r) h=.ok v h:=rfl
@[simp] theorem mVar_s{i:Nat}{o:Option PV}{r:PSt}:ag (i+1) (o::r) h=ag i r h:=by simp[ag]
@[simp] theorem mBin_ap:aj f a b σ h=(a σ h).bind fun x h1=>(b σ h1).bind fun y h2=>(f x y h2).ne:=rfl
@[simp] theorem yi:mUn f a σ h=(a σ h).bind fun x h1=>(f x h1).ne:=rfl
@[simp] theorem mCB_ap:mCB f a σ h=(a σ h).bind fun x h1=>(f x h1).ne:=rfl
@[simp] theorem mCall_ap:ao f a σ h=(a σ h).bind f:=rfl
@[simp] theorem vy:mNil σ h=.ok [] h:=rfl
@[simp] theorem tF:ac a r σ h=(a σ h).bind fun x h1=>(r σ h1).bind fun xs h2=>.ok (x::xs) h2:=rfl
@[simp] theorem mLst_ap:cZ a σ h=(a σ h).bind newL:=rfl
@[simp] theorem mTup_ap:bP a σ h=(a σ h).bind newT:=rfl
@[simp] theorem mB_ap:mB a σ h=(a σ h).bind fun v h1=>match v with | .bl b=>.ok b h1 | _=>.bad:=rfl
@[simp] theorem mNot_ap:cw a σ h=(a σ h).bind fun b h1=>.ok (!b) h1:=rfl
@[simp] theorem mAnd_ap:mAnd a b σ h=(a σ h).bind fun x h1=>if x=true then b σ h1 else .ok false h1:=rfl
@[simp] theorem mOr_ap:mOr a b σ h=(a σ h).bind fun x h1=>if x=true then .ok true h1 else b σ h1:=rfl
@[simp] theorem mAndV_ap:bZ a b σ h=(a σ h).bind fun x h1=>match x with | .bl c=>if c=true then b σ h1 else .ok (.bl false) h1 | _=>.bad:=rfl
@[simp] theorem mNotV_ap:nJ a σ h=(a σ h).bind fun x h1=>match x with | .bl c=>.ok (.bl (!c)) h1 | _=>.bad:=rfl
@[simp] theorem zP:mSkip σ h=.nx σ h:=rfl
@[simp] theorem eU:aw a b σ h=(a σ h).then b:=rfl
@[simp] theorem aG:(SOut.nx σ h).then k=k σ h:=rfl
@[simp] theorem then_rt:(SOut.rt v h).then k=.rt v h:=rfl
@[simp] theorem then_bk:(SOut.bk σ h).then k=.bk σ h:=rfl
@[simp] theorem then_ct:(SOut.ct σ h).then k=.ct σ h:=rfl
@[simp] theorem zS:(SOut.rse x σ h).then k=.rse x σ h:=rfl
@[simp] theorem zI:(SOut.exc x σ h).then k=.exc x σ h:=rfl
@[simp] theorem zG:SOut.bad.then k=.bad:=rfl
def Out.rt(o:Out PV)(σ:PSt):SOut:=match o with
 | .ok v h'=>.rt v h'
 | .exc x h'=>.exc x σ h'
 | .bad=>.bad
@[simp] theorem rt_ok:(Out.ok v h).rt σ=.rt v h:=rfl
@[simp] theorem rt_exc:(Out.exc x h:Out PV).rt σ=.exc x σ h:=rfl
@[simp] theorem rt_bad:(Out.bad:Out PV).rt σ=.bad:=rfl
@[simp] theorem mRet_ap:aI m σ h=(m σ h).rt σ:=rfl
def Out.go{α:Type}(o:Out α)(σ:PSt)(k:α->Mst):SOut:=match o with
 | .ok v h'=>k v σ h'
 | .exc x h'=>.exc x σ h'
 | .bad=>.bad
@[simp] theorem aH:(Out.ok v h).go σ k=k v σ h:=rfl
@[simp] theorem go_exc:(Out.exc x h:Out α).go σ k=.exc x σ h:=rfl
@[simp] theorem go_bad:(Out.bad:Out α).go σ k=.bad:=rfl
@[simp] theorem mEx_ap:mEx m k σ h=(m σ h).go σ k:=rfl
@[simp] theorem yM:cF m σ h=(m σ h).go σ fun _=>mSkip:=rfl
@[simp] theorem xt:mIf c a b σ h=(c σ h).go σ fun x=>if x=true then a else b:=rfl
@[simp] theorem mSet_ap:aY i m σ h=(m σ h).go σ fun v σ h=>.nx (σ.set i (some v)) h:=rfl
@[simp] theorem mPar_ap:su i j m σ h=(m σ h).go σ fun vs σ h=>match vs with | [v,w]=>.nx ((σ.set i (some v)).set j (some w)) h | _=>.bad:=rfl
@[simp] theorem mAsg_ap:mAsg m g σ h=(m σ h).go σ fun v σ h=>match g v σ h with | .nx σ2 h2=>.nx σ2 h2 | .exc x σ2 h2=>.exc x σ2 h2 | _=>.bad:=rfl
@[simp] theorem gNm_ap:gNm i v σ h=.nx (σ.set i (some v)) h:=rfl
@[simp] theorem gNl_ap:gNl [] σ h=.nx σ h:=rfl
@[simp] theorem gCn_ap:gCn a r (v::vs) σ h=(a v σ h).then (r vs):=rfl
@[simp] theorem gTp_ap:gTp r n (.tup xs) σ h=if xs.length=n then r xs σ h else .bad:=rfl
@[simp] theorem mFor_ap:eS mi g b σ h=(mi σ h).go σ fun it=>mGo it g b it.xs:=rfl
@[simp] theorem mItS_ap:cC m σ h=(m σ h).bind itAny:=rfl
@[simp] theorem Ag:cW m σ h=(m σ h).bind fun vs h1=>match vs with
 | [.int j]=>if -(2 ^ 62)<=j/\j<2 ^ 62 then .ok ⟨bg 0 j.toNat,[]⟩ h1 else .bad
 | _=>.bad:=rfl
@[simp] theorem gSb_ap:gSb mo mi v σ h=(mo σ h).go σ fun o=>mEx mi fun i σ h=>match rf o i v h with
 | some h2=>.nx σ h2
 | none=>.bad:=rfl
def SOut.fin(o:SOut):Out PV:=match o with
 | .nx _ h'=>.ok .non h'
 | .rt v h'=>.ok v h'
 | .exc x _ h'=>.exc x h'
 | .rse x _ h'=>.exc x h'
 | _=>.bad
@[simp] theorem fin_exc:(SOut.exc x σ h).fin=.exc x h:=rfl
@[simp] theorem fin_rse:(SOut.rse x σ h).fin=.exc x h:=rfl
@[simp] theorem kz:(SOut.rt v h).fin=.ok v h:=rfl
@[simp] theorem fin_nx:(SOut.nx σ h).fin=.ok .non h:=rfl
theorem iL(e:ps.length=np):aS n np m ps h=(m (bG n ps) h).fin:=by unfold aS;rw[qah e];rfl
end
section
variable {h:MH} {i j:Int}
@[simp] theorem opAdd_ii:opAdd (.int i) (.int j) h=.ok (.int (i+j)) h:=rfl
@[simp] theorem opSub_ii:opSub (.int i) (.int j) h=.ok (.int (i - j)) h:=rfl
@[simp] theorem opNeg_i:opNeg (.int i) h=.ok (.int (-i)) h:=rfl
@[simp] theorem opLt_ii:opLt (.int i) (.int j) h=.ok (.bl (decide (i<j))) h:=rfl
@[simp] theorem opLe_ii:opLe (.int i) (.int j) h=.ok (.bl (decide (i<=j))) h:=rfl
@[simp] theorem opGt_ii:opGt (.int i) (.int j) h=.ok (.bl (decide (j<i))) h:=rfl
@[simp] theorem opGe_ii:opGe (.int i) (.int j) h=.ok (.bl (decide (j<=i))) h:=rfl
@[simp] theorem opEq_ii:opEq (.int i) (.int j) h=.ok (.bl (decide (i=j))) h:=by simp[opEq,rd,SeqAt.shaped,PyData.canLay0,PyData.depth,PyData.eqv,qbr]
@[simp] theorem opNe_ii:opNe (.int i) (.int j) h=.ok (.bl (!decide (i=j))) h:=by simp[opNe,rd,SeqAt.shaped,PyData.canLay0,PyData.depth,PyData.eqv,qbr]
@[simp] theorem opEq_bb:opEq (.bl a) (.bl b) h=.ok (.bl (a == b)) h:=by simp[opEq,rd,SeqAt.shaped,PyData.canLay0,PyData.depth,PyData.eqv]
@[simp] theorem opNe_bb:opNe (.bl a) (.bl b) h=.ok (.bl (!(a == b))) h:=by simp[opNe,rd,SeqAt.shaped,PyData.canLay0,PyData.depth,PyData.eqv]
theorem eT(hj:j≠0):opMod (.int i) (.int j) h=.ok (.int (i.fmod j)) h:=by simp[opMod,hj]
def u8(hj:j≠0)(hl:j.natAbs.log2<9000):opFd (.int i) (.int j) h=.ok (.int (i.fdiv j)) h:=by simp[opFd,hj,PyProof.noPylong_of_log2 hl]
def gD(hl:-(2 ^ 64)<i/\i<2 ^ 64):opMul (.int i) (.int j) h=.ok (.int (i * j)) h:=by simp[opMul,IntMulOk.of_left (intBits_le_64 hl.1 hl.2)]
def opMul_r(hl:-(2 ^ 64)<j/\j<2 ^ 64):opMul (.int i) (.int j) h=.ok (.int (i * j)) h:=by simp[opMul,IntMulOk.of_right (intBits_le_64 hl.1 hl.2)]
def tE(hj:0<=j/\j<=1000000/\i.natAbs<2 ^ 64):opPow (.int i) (.int j) h=.ok (.int (i ^ j.toNat)) h:=by simp[opPow,e8,hj]
@[simp] theorem fAbs_i:fAbs [.int i] h=.ok (.int (if i<0 then -i else i)) h:=rfl
@[simp] theorem fMin_ii:fMin [.int i,.int j] h=.ok (.int (if j<i then j else i)) h:=rfl
@[simp] theorem fMax_ii:fMax [.int i,.int j] h=.ok (.int (if j>i then j else i)) h:=rfl
@[simp] theorem fLen_frl:fLen [.frl xs] h=.ok (.int xs.length) h:=rfl
@[simp] theorem fLen_tup:fLen [.tup xs] h=.ok (.int xs.length) h:=rfl
theorem gj(hl:xs.length<=1000):newT xs h=.ok (.tup xs) h:=by
 unfold newT;rw[qah (qaJ hl (by decide))]
def vU(hl:xs.length<=1000):newL xs h=.ok (.loc h.length) (h++[.lst xs]):=by
 unfold newL;rw[qah (qaJ hl (by decide))]
@[simp] theorem newT_0:newT [] h=.ok (.tup []) h:=gj (by decide)
@[simp] theorem newT_1:newT [a] h=.ok (.tup [a]) h:=gj (by simp)
@[simp] theorem newT_2:newT [a,b] h=.ok (.tup [a,b]) h:=gj (by simp)
@[simp] theorem newT_3:newT [a,b,c] h=.ok (.tup [a,b,c]) h:=gj (by simp)
theorem uL(hl:m<n):ixN n (m:Int)=some m:=by unfold ixN;rw[qah (by lia),qah (by lia)];simp
@[simp] theorem atI_0:atI (a::r) 0=some a:=dv (j:=0) rfl
@[simp] theorem atI_1:atI (a::b::r) 1=some b:=dv (j:=1) rfl
@[simp] theorem atI_2:atI (a::b::c::r) 2=some c:=dv (j:=2) rfl
@[simp] theorem atI_3:atI (a::b::c::d::r) 3=some d:=dv (j:=3) rfl
def Out.ofO(o:Option PV)(h:MH):Out PV:=match o with
 | some v=>.ok v h
 | none=>.bad
@[simp] theorem zp:Out.ofO (some v) h=.ok v h:=rfl
@[simp] theorem opIx_tup:aA (.tup xs) (.int i) h=Out.ofO (atI xs i) h:=rfl
@[simp] theorem opIx_frl:aA (.frl xs) (.int i) h=Out.ofO (atI xs i) h:=rfl
theorem gJ(e:h[n]?=some (.lst xs)):aA (.loc n) (.int i) h=Out.ofO (atI xs i) h:=by
 simp only[aA,e];rfl
def mL(e:h[n]?=some (.lst xs)):rf (.loc n) (.int i) v h=(ixN xs.length i).map fun p=>h.set n (.lst (xs.set p v)):=by simp only[rf,e]
@[simp] theorem itAny_tup:itAny (.tup xs) h=.ok ⟨xs,[]⟩ h:=rfl
@[simp] theorem itAny_frl:itAny (.frl xs) h=.ok ⟨xs,[]⟩ h:=rfl
@[simp] theorem vq:(⟨xs,[]⟩:MIt).ok h↔True:=⟨fun _=>trivial,fun _ p hp=>nomatch hp⟩
@[simp] theorem ok_some:(⟨xs,[(n,zs)]⟩:MIt).ok h↔h[n]?=some (.lst zs):=by
 constructor
 ·intro q;exact q (n,zs) (by simp)
 ·intro q p hp;have e:p=(n,zs):=qcc.mp hp;subst e;exact q
end
def SOut.turn(o:SOut)(k:Mst):SOut:=match o with
 | .nx σ2 h2=>k σ2 h2
 | .ct σ2 h2=>k σ2 h2
 | .bk σ2 h2=>.nx σ2 h2
 | .rt v h2=>.rt v h2
 | .exc e σ2 h2=>.exc e σ2 h2
 | .rse e σ2 h2=>.rse e σ2 h2
 | .bad=>.bad
@[simp] theorem Ac:(SOut.rse x σ h).turn k=.rse x σ h:=rfl
@[simp] theorem yY:(SOut.exc x σ h).turn k=.exc x σ h:=rfl
@[simp] theorem turn_nx:(SOut.nx σ h).turn k=k σ h:=rfl
@[simp] theorem turn_ct:(SOut.ct σ h).turn k=k σ h:=rfl
@[simp] theorem turn_bk:(SOut.bk σ h).turn k=.nx σ h:=rfl
@[simp] theorem turn_rt:(SOut.rt v h).turn k=.rt v h:=rfl
theorem mGo_nil(e:it.ok h):mGo it g b [] σ h=.nx σ h:=by
 rw[mGo];dsimp only;rw[qah e]
def y9(e:it.ok h)(eg:g x σ h=.nx σ1 h1):mGo it g b (x::r) σ h=(b σ1 h1).turn (mGo it g b r):=by
 rw[mGo];dsimp only;rw[qah e,eg];rfl
def q0(I:Nat->Shared->Prop)
  (turn:∀n s,I n s->wpAny (model prog w) A (pyNext it) (fun r s₁=>match r with
   | none=>R (.ok .next) s₁
   | some v=>wpAny (model prog w) A (letOwnedTupleGo target it v) (fun _ s₂'=>wpAny (model prog w) A (assign target env v) (fun _ s₂ =>
     wpAny (model prog w) A (forIn ifs true fun c r=>if r=true then do let ok <-isTrue c env (eval c env);pure (ForInStep.yield ok) else pure (ForInStep.yield r)) (fun ok s₃ =>
      if ok=true then wpAny (model prog w) A (eval elt env) (fun x s₄ =>
       wpAny (model prog w) A (call (.builtin "list.append") [acc,x]) (fun _ s₅=>∃m,m<n/\I m s₅) (fun _ _=>False) s₄) (fun _ _=>False) s₃
      else ∃m,m<n/\I m s₃) (fun _ _=>False) s₂) (fun _ _=>False) s₂') (fun _ _=>False) s₁) (fun _ _=>False) s)
  (n:Nat) (h:I n s) :
  codeAny (model prog w) A (.compLoop (.ListComp elt [⟨target,iter,ifs,0⟩] scope pos) 0 it acc env) R s:=by
 refine codeAny_loop rfl I (fun n s hI=>?_) n h;show wpAny _ A ((compTurn (.ListComp elt [⟨target,iter,ifs,0⟩] scope pos) 0 it acc env).onRaise (fun x=>do noteFrame x env;theTreesLotGoes x)) _ _ s;refine wpAny_noted ?_;rw[compTurn_list];have no:∀(e:Value) (s':Shared),False->notedBy (model prog w) A env (fun e s'=>R (.error e) s') e s':=fun _ _ z=>z.elim;refine qaa (wpAny_standAt (qaa (wpAny_mono (turn n s hI) (fun r s₁ h₁=>?_) fun _ _ h'=>h'.elim)))
 cases r with
 | none=>exact qag h₁
 | some v =>
  refine qaa (wpAny_mono h₁ (fun _ s₂' h₂'=>?_) fun _ _ h'=>h'.elim);refine qaa (wpAny_mono h₂' (fun _ s₂ h₂=>qaa (wpAny_mono h₂ (fun ok s₃ h₃=>?_) fun _ _ h'=>h'.elim)) fun _ _ h'=>h'.elim)
  cases ok with
  | false=>exact qag ⟨rfl,h₃⟩
  | true =>
   exact qaa (qaa (wpAny_mono h₃ (fun x s₄ h₄=>qaa (wpAny_mono h₄ (fun _ s₅ h₅=>qag (qag ⟨rfl,h₅⟩)) fun _ _ h'=>h'.elim)) fun _ _ h'=>h'.elim))
def jG(env:Env):List (Str × NameKind)->List (Str × Addr)->List (Str × Addr)
 | [],cs=>cs
 | (n,k)::r,cs=>jG env r (if (k == NameKind.free)=true then (n,(env.cells.lookup n).getD 0)::cs else cs)
def qH(h:∀y∈scope.names,y.2=.free->∃c,env.cells.lookup y.1=some c):closureFor scope env=pure (jG env scope.names []):=by
 have key:∀(l:List (Str × NameKind)) (cs:List (Str × Addr)),(∀y∈l,y.2=.free->∃c,env.cells.lookup y.1=some c) ->
   (forIn l cs fun (x:Str × NameKind) (r:List (Str × Addr))=>if (x.2 == NameKind.free)=true then (do let a <-cellOf env x.1;pure (ForInStep.yield ((x.1,a)::r)):Sem _) else pure (ForInStep.yield r))=(pure (jG env l cs):Sem _):=by
  intro l
  induction l with
  | nil=>intro cs _;rfl
  | cons y l ih =>
   intro cs hh;obtain⟨n,k⟩:=y;rw[qcK];have hl:=fun z hz=>hh z (qae _ hz);by_cases hk:(k == NameKind.free)=true
   ·obtain⟨c,hc⟩:=hh (n,k) qax (by simpa using hk);dsimp only at hc ⊢;rw[qah hk];have hco:cellOf env n=pure c:=by unfold cellOf;rw[hc]
    rw[hco];refine (ih ((n,c)::cs) hl).trans ?_;simp only[jG,hk,if_true,hc,Option.getD_some]
   ·dsimp only;rw[qan hk];refine (ih cs hl).trans ?_;simp[jG,hk]
 unfold closureFor;exact (congrArg (fun z=>z >>= fun r=>pure r) (key scope.names [] h)).trans rfl
def lE:∀(l:List (Str × NameKind)) (cs:List (Str × Addr)),(∀a,cs.lookup x=some a->a=(env.cells.lookup x).getD 0)->(∀a,(jG env l cs).lookup x=some a->a=(env.cells.lookup x).getD 0)/\((∃k,(x,k)∈l/\k=.free)\/(∃a,cs.lookup x=some a)->∃a,(jG env l cs).lookup x=some a):=by
 intro l
 induction l with
 | nil =>
  intro cs h;refine⟨h,fun z=>?_⟩;rcases z with ⟨k,z,_⟩|z
  ·cases z
  ·exact z
 | cons y r ih =>
  intro cs h;obtain⟨n,k⟩:=y;have h':∀a,(if (k == NameKind.free)=true then (n,(env.cells.lookup n).getD 0)::cs else cs).lookup x=some a->a=(env.cells.lookup x).getD 0:=fun a ha=>by
   split at ha
   ·rw[qaP] at ha
    split at ha
    ·rename_i e
     have:x=n:=by simpa using e
     subst this;exact (Option.some.inj ha).symm
    ·exact h a ha
   ·exact h a ha
  obtain⟨i1,i2⟩:=ih _ h';refine⟨i1,fun z=>i2 ?_⟩;rcases z with ⟨k',z,hk⟩|⟨a,z⟩
  ·rcases qak.mp z with e|e
   ·cases e;right;subst hk;exact⟨(env.cells.lookup x).getD 0,by simp⟩
   ·exact .inl ⟨k',e,hk⟩
  ·right;split
   ·rw[qaP];split
    ·exact⟨_,rfl⟩
    ·exact⟨a,z⟩
   ·exact⟨a,z⟩
def bV{env:Env}(hk:env.scope.kind=.function):∀{names:List (Str × NameKind)} {x:Str} {k:NameKind},names.lookup x=some k ->
  (names.map fun (n,k)=>if (k == NameKind.free && env.scope.kind == .function && env.kindOf n == some .cell) then (n,NameKind.cell) else (n,k)).lookup x=some (if k=.free/\env.kindOf x=some .cell then .cell else k):=by
 intro names
 induction names with
 | nil=>intro x k h;simp at h
 | cons y r ih0 =>
  intro x k h;obtain⟨n,k'⟩:=y;have ih:=@ih0 x k;show List.lookup x ((if (k' == NameKind.free && env.scope.kind == .function && env.kindOf n == some .cell)=true then (n,NameKind.cell) else (n,k'))::_)=_
  cases hx:x == n with
  | true =>
   have e:x=n:=by simpa using hx
   subst e;simp only[qaP,hx] at h;cases h;by_cases z:k=.free/\env.kindOf x=some .cell
   ·rw[qah (by simp[z.1,z.2,hk]),qah z];simp[qaP]
   ·rw[qan (by simp[hk];intro q1 q2;exact z ⟨q1,q2⟩),qan z];simp[qaP]
  | false =>
   simp only[qaP,hx] at h;by_cases hc:(k' == NameKind.free && env.scope.kind == .function && env.kindOf n == some .cell)=true
   ·rw[qah hc];simp only[qaP,hx];exact ih h
   ·rw[qan hc];simp only[qaP,hx];exact ih h
def dk(X:Cx)(scope:Scope)(cl:List (Str × Addr))(s₃:Shared)(H₃:Hp)(fp:List Addr)(N':List Str):Cx :=
 { X with N:=N',s₀:=s₃,H₀:=H₃,env:=compEnvC scope cl s₃.heap.objs.size X.env,outer:=X.stack,ex:=fp,fn:=fun x=>decide (scope.names.lookup x=some .cell),pn:=[],xe:=fun _ _=>False}
structure CompOk (X:Cx) (N:List Str) (scope:Scope) (vars frees:List Str) (fm:List Nat):Prop where
 kind:scope.kind=.function
 cell:∀y∈scope.names,y.2=.cell->scope.names.lookup y.1=some .cell
 names:∀y∈scope.names,y.2=.local->scope.names.lookup y.1=some .local
 hv:∀x∈vars,scope.names.lookup x=some .local\/scope.names.lookup x=some .cell
 hf:∀x∈frees,scope.names.lookup x=some .free
 all:∀y∈scope.names,y.2=.free->y.1∈frees
 fm:fm.map (fun i=>N[i]?)=frees.map some
 cl:∀x∈frees,X.env.kindOf x=some .cell
def cSt(nv:Nat)(fm:List Nat)(σ:PSt):PSt:=List.replicate nv none++fm.map fun i=>(σ[i]?).getD none
def cGo(it:MIt)(n:Nat)(gt:Mg)(mt:Mx Bool)(me:Mx PV):List PV->PSt->MH->Out Unit
 | [],_,h=>if it.ok h then .ok () h else .bad
 | x::r,σ,h=>if it.ok h then (match gt x σ h with
  | .nx σ1 h1=>(mt σ1 h1).ne.bind fun b h2=>if b=true then (me σ1 h2).ne.bind fun v h3=>(match h3[n]? with
    | some (.lst ys)=>if ys.length<sizeLine then cGo it n gt mt me r σ1 (h3.set n (.lst (ys++[v]))) else .bad
    | _=>.bad) else cGo it n gt mt me r σ1 h2
  | _=>.bad) else .bad
def bz(nv:Nat)(fm:List Nat)(mi:Mx MIt)(gt:Mg)(mt:Mx Bool)(me:Mx PV):Mx PV:=fun σ h =>
 (mi σ h).bind fun it h1=>(cGo it h1.length gt mt me it.xs (cSt nv fm σ) (h1++[.lst []])).bind fun _ h3=>.ok (.loc h1.length) h3
def MTs(X:Cx)(ifs:List Expr)(m:Mx Bool):Prop :=
 ∀(HM:List (Addr × Obj)) (s:Shared) (σ:L2.St) (H:Hp) (Q:Bool->Hp->Prop),Inv X HM σ H s->tM X REq m σ H Q ->
  wpAny (model X.prog X.w) X.A (forIn ifs true fun c r=>if r=true then do let ok <-isTrue c X.env (eval c X.env);pure (ForInStep.yield ok) else pure (ForInStep.yield r)) (TP X HM σ Q) X.xe s
def mTrue:Mx Bool:=fun _ h=>.ok true h
def cR:MTs X [] mTrue:=fun HM s σ H Q I ⟨ρ,σp,h,rs,rh,q⟩=>wpAny_tests_nil ⟨H,I,q ρ H true (Le.refl _ _) rh rfl⟩
def lm(h:MT X c m):MTs X [c] m:=fun HM s σ H Q I q=>wpAny_tests_one (h HM s σ H Q I q)
inductive CS (X:Cx) (ρ:List Addr) (H:Hp) (σp:PSt) (gt:Mg) (mt:Mx Bool) (me:Mx PV) (σ0:PSt) (Q:VK) (J:It) (H1:Hp):Prop
 | mk (ρ1:List Addr) (it:MIt) (h1:MH) (l:Le ρ H ρ1 H1) (rh:RH X.K X.mg ρ1 H1 h1) (j:oV X ρ1 H1 it J) (q:Ful X (RV' X) σp ρ1 H1 ((cGo it h1.length gt mt me it.xs σ0 (h1++[.lst []])).bind fun _ h3=>.ok (.loc h1.length) h3) Q):CS X ρ H σp gt mt me σ0 Q J H1
inductive CI (X Y:Cx) (it:MIt) (tn:Nat->Heap->Prop) (fp ρ0:List Addr) (H0:Hp) (σp:PSt) (n1:Nat) (gt:Mg) (mt:Mx Bool) (me:Mx PV) (Q:VK) (n:Nat) (s6:Shared):Prop
 | mk (i:Nat) (σ6:L2.St) (H6:Hp) (ρ6:List Addr) (σp6:PSt) (h6:MH) (e:n=it.xs.length - i) (l:i<=it.xs.length) (v:Inv Y [] σ6 H6 s6) (t:tn i s6.heap) (f:∀b∈fp,H6 b=none) (le:Le ρ0 H0 ρ6 H6) (rs:RS X.K ρ6 H6 σp6 σ6) (rh:RH X.K X.mg ρ6 H6 h6)
   (q:Ful X (RV' X) σp ρ6 H6 ((cGo it n1 gt mt me (it.xs.drop i) σp6 h6).bind fun _ h3=>.ok (.loc n1) h3) Q):CI X Y it tn fp ρ0 H0 σp n1 gt mt me Q n s6
def qF
  (hQ:Q (newEnv scope s.heap.objs.size globals (cellsFrom (s.heap.objs.size+1) scope.names closure) qual none .none (some env) builtinsNs) { s with heap:=pushCells (s.heap.push { cls:=.type "dict",data:=.dict #[]}) scope.names}) :
  wpAny M A (newFunctionEnv scope globals closure [] qual none .none (some env)) Q E s:=by
 simp only[newFunctionEnv,Option.isSome_some,if_true];refine qaa (wpAny_alloc ?_);refine qaa (wpAny_layCells _ (fun name kind cells=>by cases hkc:kind == NameKind.cell <;> simp[hkc]) _ _ _ _ ?_);rw[show ({ s with heap:=s.heap.push { cls:=.type "dict",data:=.dict #[]}}:Shared).heap.objs.size=s.heap.objs.size+1 from qbb ..];rw[qcP];exact qaa (qag (qag hQ))
def cK:∀(names:List (Str × NameKind)) (n:Nat) (acc:List (Str × Addr)),cellsFrom n names acc=cellsFrom n names []++acc
 | [],n,acc=>rfl
 | (x,k)::r,n,acc=>by
  unfold cellsFrom;split
  ·rw[cK r (n+1) ((x,n)::acc),cK r (n+1) [(x,n)]];simp
  ·exact cK r n acc
def eD:∀(names:List (Str × NameKind)) (n:Nat) (x:Str),(∃c,(x,c)∈cellsFrom n names [])↔(x,NameKind.cell)∈names
 | [],n,x=>by simp[cellsFrom]
 | (y,k)::r,n,x=>by
  unfold cellsFrom;split
  ·rename_i hk
   have hk':k=NameKind.cell:=by simpa using hk
   subst hk';rw[cK];constructor
   ·rintro⟨c,hc⟩;rcases qay.mp hc with hc|hc
    ·exact qae _ ((eD r (n+1) x).mp ⟨c,hc⟩)
    ·have:x=y:=by simp at hc;exact hc.1
     rw[this];exact qax
   ·intro h;rcases qak.mp h with e|h
    ·have:x=y:=by simpa using e
     subst this;exact⟨n,qaj _ (by simp)⟩
    ·obtain⟨c,hc⟩:=(eD r (n+1) x).mpr h;exact⟨c,qaG _ hc⟩
  ·rename_i hk
   rw[eD r n x];constructor
   ·exact qae _
   ·intro h;rcases qak.mp h with e|h
    ·exfalso
     have:NameKind.cell=k:=by simpa using (Prod.mk.inj e).2
     rw[<-this] at hk;exact hk rfl
    ·exact h
def jA{α:Type}:∀(a b:List (Str × α)) (x:Str),(a++b).lookup x=(a.lookup x).or (b.lookup x)
 | [],b,x=>rfl
 | (y,v)::a,b,x=>by
  rw[List.cons_append,qaP,qaP]
  cases x == y with
  | true=>rfl
  | false=>exact jA a b x
def rq{α:Type}:∀(a:List (Str × α)) (x:Str),a.lookup x=none->∀c,(x,c)∉a
 | [],x,_,c,h=>nomatch h
 | (y,v)::a,x,e,c,h=>by
  rw[qaP] at e
  cases z:x == y with
  | true=>rw[z] at e;cases e
  | false =>
   rw[z] at e;rcases qak.mp h with q|q
   ·have:x=y:=(Prod.mk.inj q).1
    rw[this] at z;simp at z
   ·exact rq a x e c q
section
variable {X:Cx} {N W G:List Str} {k:Nat}
def qh(g:Good X N W G k){tg iter elt:Expr}{ifs:List Expr}{scope:Scope}{pos:Pos}{vars frees G':List Str}{fm:List Nat}{mi:Mx MIt}{gt:Mg}{mt:Mx Bool}{me:Mx PV}(C:CompOk X N scope vars frees fm)
  (nd:(vars++frees).Nodup) (hgl:∀x∈G',scope.names.lookup x=some .globalImplicit) (dbg:∀x∈(vars++frees)++G',(x == ("__debug__":Str))=false/\(x == ("__classdict__":Str))=false/\x≠"__name__")
  (hi:MI X tg iter mi)
  (hY:∀Y:Cx,Y.prog=X.prog->Y.w=X.w->Y.K=X.K->Y.mg=X.mg->Y.base=X.base->Y.env.scope=relabel scope X.env->Good Y (vars++frees) vars G' k->MG Y tg gt/\MTs Y ifs mt/\ME Y elt me)
  (hs:∀x,foldedSetIterable iter X.env x=pure x) {use:Option (Value->Sem Unit)} {Qv:Value->Shared->Prop} {pp:Pos} {HM:List (Addr × Obj)} {s:Shared} {σ:L2.St} {H:Hp} {Q:VK} (I:Inv X HM σ H s) (tm:tM X (RV' X) (bz vars.length fm mi gt mt me) σ H Q)
  (fin:∀(acc C:Addr) (H6:Hp) (s7:Shared) (m7:Str->Option Value),Inv X HM σ H6 s7->H6 C=none->s7.heap.Ns C m7->C≠X.env.locals->X.s₀.heap.objs.size<=C->C∉X.fs->(∀x c,X.env.cells.lookup x=some c->c≠C)->(∀p∈X.pn++HM,p.1≠C)->Q (.ref acc) H6 ->
   compPost (model X.prog X.w) X.A X.xe use Qv (.ref acc) C (.ok .next) s7) :
  wpAny (model X.prog X.w) X.A (comprehension (.ListComp elt [⟨tg,iter,ifs,0⟩] scope pos) scope X.env pp (newList []) false (eval iter X.env) use) Qv X.xe s:=by
 obtain⟨ρ,σp,h,rs,rh,q⟩:=tm;have hfree:∀y∈scope.names,y.2=.free->∃c,X.env.cells.lookup y.1=some c:=fun y hy e=>I.ok.has y.1 (.inl (C.cl _ (C.all y hy e)));refine wpAny_comprehension_free (use:=use) rfl hs (qH hfree) C.kind C.names ?_;generalize hcl:jG X.env scope.names []=cl;have clk:∀x a,cl.lookup x=some a->X.env.cells.lookup x=some a\/((X.env.cells.lookup x)=none/\a=0):=fun x a e=>by
  rw[<-hcl] at e
  have:=(lE (env:=X.env) (x:=x) scope.names [] (fun a z=>by simp at z)).1 a e
  cases z:X.env.cells.lookup x with
  | none=>right;rw[z] at this;exact⟨rfl,this⟩
  | some c=>left;rw[z] at this;rw[this];rfl
 have clf:∀x∈frees,∃c,cl.lookup x=some c/\X.env.cells.lookup x=some c:=fun x hx=>by
  obtain⟨c,hc⟩:=I.ok.has x (.inl (C.cl x hx));have hm:(∃kk,(x,kk)∈scope.names/\kk=.free):=⟨.free,PySem.mem_of_lookup (C.hf x hx),rfl⟩;obtain⟨a,ha⟩:=(lE (env:=X.env) (x:=x) scope.names [] (fun a z=>by simp at z)).2 (.inl hm);rw[hcl] at ha;rcases clk x a ha with z|⟨z,_⟩
  ·rw[hc] at z;cases z;exact⟨c,ha,hc⟩
  ·rw[hc] at z;cases z
 have clin:∀x a,cl.lookup x=some a->X.env.cells.lookup x=some a/\x∈frees:=fun x a e=>by
   have only:∀(l:List (Str × NameKind)) (cs:List (Str × Addr)) (x:Str) (a:Addr),(jG X.env l cs).lookup x=some a->(x,NameKind.free)∈l\/cs.lookup x=some a:=by
    intro l
    induction l with
    | nil=>intro cs x a e;exact .inr e
    | cons y l ih =>
     intro cs x a e;obtain⟨n,kk⟩:=y;rcases ih _ x a e with z|z
     ·exact .inl (qae _ z)
     ·split at z
      ·rename_i hk
       have hk':kk=NameKind.free:=by simpa using hk
       rw[qaP] at z
       split at z
       ·rename_i e'
        have:x=n:=by simpa using e'
        subst this;subst hk';exact .inl qax
       ·exact .inr z
      ·exact .inr z
   have e':=e;rw[<-hcl] at e';rcases only _ _ x a e' with z'|z'
   ·refine⟨?_,C.all _ z' rfl⟩;rcases clk x a e with z|⟨z,_⟩
    ·exact z
    ·obtain⟨c,hc⟩:=hfree _ z' rfl;rw[z] at hc;cases hc
   ·simp at z'
 have start:=hi HM s σ H (CS X ρ H σp gt mt me (cSt vars.length fm σp) Q) I
  ⟨ρ,σp,h,rs,rh,Ful.bind q fun ρ1 H1 it J h1 _ l1 rh1 jr q1=>⟨ρ1,it,h1,l1,rh1,jr,q1⟩⟩
 refine wpAny_mono start (fun x s₁ h₁=>wpAny_mono h₁ (fun itv s₂ h₂=>?_) fun _ _ e=>e) fun _ _ e=>e;obtain⟨ita,fp,tn,J,H2,rfl,I2,T,st2,f2,ρ1,it,h1,l1,rh1,jr,q1⟩:=h₂;refine wpAny_newObj_type ?_;have hf2:H2 s₂.heap.objs.size=none:=I2.hok.fresh (qai _);have I3:=I2.lnew (ys:=[]) (its:=[]) (t':=s₂.toks) .nil (qaK _);obtain⟨rh3,l3⟩:=rh1.new hf2 (o:=.lst []) (ho:=.lst []) ⟨[],rfl,.nil⟩;generalize hs3:({ s₂ with heap:=s₂.heap.push { cls:=.type "list",data:=.seq ([]:List Value).toArray},toks:=s₂.toks}:Shared)=s₃ at I3;generalize hH3:upd H2 s₂.heap.objs.size (.lst [])=H₃ at I3 rh3 l3;have hacc:H₃ s₂.heap.objs.size=some (.lst []):=by rw[<-hH3];exact bB
 have es3:s₃.heap=s₂.heap.push { cls:=.type "list",data:=.seq ([]:List Value).toArray}:=by rw[<-hs3]
 have st3:tn 0 s₃.heap:=T.keep _ _ _ st2 fun b _ o e=>by rw[es3];exact qab _ e
 have fp3:∀b∈fp,gM X HM H₃ b:=fun b hb=>by
  obtain⟨a0,a1⟩:=f2 b hb;refine⟨?_,a1⟩;obtain⟨o,eo,_⟩:=T.obj _ _ st2 b hb;rw[<-hH3,aQ (qaF (qal eo))];exact a0
 have goal3:wpAny (model X.prog X.w) X.A (newFunctionEnv scope X.env.globals cl [] X.env.qual none .none (some X.env)) (fun cenv s₄ =>
    codeAny (model X.prog X.w) X.A (.compStart (.ListComp elt [⟨tg,iter,ifs,0⟩] scope pos) 0 (.ref ita) (.ref s₂.heap.objs.size) { cenv with scope:=relabel scope X.env}) (compPost (model X.prog X.w) X.A X.xe use Qv (.ref s₂.heap.objs.size) cenv.locals) s₄) X.xe s₃:=by
  refine qF ?_;have keep4:∀b o,s₃.heap.get? b=some o->(pushCells (s₃.heap.push { cls:=.type "dict",data:=.dict #[]}) scope.names).get? b=some o:=fun b o e=>pushCells_keeps _ _ b o (qab _ e);have hns:=(Heap.Ns.new s₃.heap (.type "dict")).keeps (pushCells_keeps scope.names _);have okc:=cellsFrom_ok scope.names (s₃.heap.push { cls:=.type "dict",data:=.dict #[]}) (s₃.heap.objs.size+1) [] ⟨fun _ _ hm=>(nomatch hm),List.Pairwise.nil⟩ (by rw[qbb];exact qai _);rw[qbb] at okc;rw[cK];have hin:=eD scope.names (s₃.heap.objs.size+1);generalize cellsFrom (s₃.heap.objs.size+1) scope.names []=cn at okc hin ⊢;generalize pushCells (s₃.heap.push { cls:=.type "dict",data:=.dict #[]}) scope.names=h' at keep4 hns okc ⊢;dsimp only[newEnv];have csl:∀x c,(cn++cl).lookup x=some c->((x,c)∈cn/\scope.names.lookup x=some .cell/\s₃.heap.objs.size<c/\h'.IsCell c none)\/(X.env.cells.lookup x=some c/\scope.names.lookup x=some .free):=fun x c e=>by
   rw[jA] at e
   cases z:cn.lookup x with
   | some c' =>
    rw[z] at e
    have:c'=c:=by simpa using e
    subst this;have m:=PySem.mem_of_lookup z;obtain⟨q1,q2⟩:=okc.empty x c' m;exact .inl ⟨m,C.cell _ ((hin x).mp ⟨c',m⟩) rfl,q2,q1⟩
   | none =>
    rw[z] at e;obtain⟨q1,q2⟩:=clin x c (by simpa using e);exact .inr ⟨q1,C.hf x q2⟩
  have csf:∀x c,x∈frees->cl.lookup x=some c->(cn++cl).lookup x=some c:=fun x c hx e=>by
   rw[jA]
   cases z:cn.lookup x with
   | none=>simpa using e
   | some c' =>
    have:=C.cell _ ((hin x).mp ⟨c',PySem.mem_of_lookup z⟩) rfl
    rw[C.hf x hx] at this;cases this
  have old:∀x c,X.env.cells.lookup x=some c->c<s₃.heap.objs.size:=fun x c e=>by
   obtain⟨v,qc⟩:=I3.cell x c e;exact qc.lt
  have ok:(dk X scope (cn++cl) s₃ H₃ fp (vars++frees)).Ok:=by
   refine⟨I3.ok.mod,C.kind,I3.ok.glob,I3.ok.blt,qai _,fun x y c h1 h2=>?_,fun x hx=>?_,fun x c hx e=>?_,I3.ok.hd,I3.ok.frames,.inl rfl,
    fun b hb=>⟨?_,fun x c e z=>?_⟩,I3.bs,qaJ I3.ok.bsz I3.sz,fun b o e hb=>?_,fun b hb z=>?_,I3.stack,I3.stkFree⟩
   ·rcases csl x c h1 with ⟨a1,_,a2,_⟩|⟨a1,_⟩ <;> rcases csl y c h2 with ⟨b1,_,b2,_⟩|⟨b1,_⟩
    ·exact PySem.name_of_addr okc.apart a1 b1
    ·exact absurd (qcq a2 (old y c b1)) (qbc _)
    ·exact absurd (qcq b2 (old x c a1)) (qbc _)
    ·exact I3.ok.inj x y c a1 b1
   ·
    have hx':(relabel scope X.env).names.lookup x=some .cell\/(relabel scope X.env).names.lookup x=some .free:=hx
    cases e:scope.names.lookup x with
    | none =>
     exfalso;have nn:∀(l:List (Str × NameKind)),l.lookup x=none->(l.map fun (n,k)=>if (k == NameKind.free && X.env.scope.kind == .function && X.env.kindOf n == some .cell) then (n,NameKind.cell) else (n,k)).lookup x=none:=by
      intro l
      induction l with
      | nil=>intro _;rfl
      | cons y l ih =>
       intro hl;obtain⟨n,kk⟩:=y;rw[qaP] at hl
       split at hl
       ·cases hl
       ·rename_i hx2
        rw[qau];dsimp only
        split <;> (rw[qaP];simp only[hx2];exact ih hl)
     have e2:=nn scope.names e;rcases hx' with z|z
     ·rw[show (relabel scope X.env).names.lookup x=none from e2] at z;cases z
     ·rw[show (relabel scope X.env).names.lookup x=none from e2] at z;cases z
    | some kk =>
     have e2:=bV (env:=X.env) I3.ok.kind e;have hk:kk=.free\/kk=.cell:=by
      rcases hx' with z|z
      ·rw[show (relabel scope X.env).names.lookup x=_ from e2] at z;have z':=Option.some.inj z;by_cases zz:kk=.free/\X.env.kindOf x=some .cell
       ·exact .inl zz.1
       ·rw[qan zz] at z';exact .inr z'
      ·rw[show (relabel scope X.env).names.lookup x=_ from e2] at z;have z':=Option.some.inj z;by_cases zz:kk=.free/\X.env.kindOf x=some .cell
       ·exact .inl zz.1
       ·rw[qan zz] at z';exact .inl z'
     rcases hk with hk|hk
     ·subst hk;have hf:=C.all _ (PySem.mem_of_lookup e) rfl;obtain⟨c,h1,_⟩:=clf x hf;exact⟨c,csf x c hf h1⟩
     ·subst hk;obtain⟨c,hc⟩:=(hin x).mpr (PySem.mem_of_lookup e);show ∃c,(cn++cl).lookup x=some c;rw[jA]
      cases z:cn.lookup x with
      | some c'=>exact⟨c',rfl⟩
      | none=>exact absurd hc (rq cn x z c)
   ·have hx':=of_decide_eq_true hx;rcases csl x c e with ⟨_,_,q,_⟩|⟨_,q⟩
    ·exact qbJ q
    ·rw[q] at hx';cases hx'
   ·obtain⟨o,eo,_⟩:=T.obj _ _ st3 b hb;exact qaF (qal eo)
   ·rcases csl x c e with ⟨_,_,q,_⟩|⟨q,_⟩
    ·obtain⟨o,eo,_⟩:=T.obj _ _ st3 b hb;exact absurd (qcq q (z▸qal eo)) (qbc _)
    ·exact (fp3 b hb).2.2.2.2.1 x c q z
   ·obtain⟨_,_,_,h4,_⟩:=fp3 b hb;rcases h4 with h4|h4
    ·exact I3.ok.noex b o e h4
    ·exact absurd (qaz (qal e) (qaJ I3.ok.bsz h4)) (qbc _)
   ·obtain⟨_,h2,h3,_⟩:=fp3 b hb;rcases qak.mp (I3.stkSub b z) with e|e
    ·exact h2 e
    ·exact h3 e
  obtain⟨mX,nsX,lX⟩:=I3.loc;have l13:Le ρ H (ρ1++[s₂.heap.objs.size]) H₃:=l1.trans l3
  let σY:L2.St:=List.replicate vars.length none++fm.map fun i=>(σ[i]?).getD none
  have fml:fm.length=frees.length:=by have:=congrArg List.length C.fm;simpa using this
  have invY:Inv (dk X scope (cn++cl) s₃ H₃ fp (vars++frees)) [] σY H₃ { s₃ with heap:=h',toks:=s₃.toks}:=by
   refine⟨ok,rfl,I3.bare,Un.kept keep4,⟨_,hns,fun i x v hN hv hvis=>?_⟩,fun x c e=>?_,?_,fun x c e=>?_,fun p hp=>absurd (show p∈([]:List (Addr × Obj)) from hp) (by simp),I3.hok.kept keep4,?_⟩
   ·have hN':(vars++frees)[i]?=some x:=hN;have hiv:vars.length<=i:=by
     by_cases z:vars.length<=i
     ·exact z
     ·exfalso;have hv':σY[i]?=some (some v):=hv;rw[qao (by simp;ext),qbl] at hv'
      split at hv' <;> cases hv'
    have hv':σY[i]?=some (some v):=hv;rw[qaC (by simpa using hiv),qbB,qaw] at hv';rw[qaC hiv] at hN'
    cases ej:fm[i - vars.length]? with
    | none=>rw[ej] at hv';cases hv'
    | some j =>
     rw[ej] at hv';have ef:=congrArg (fun l=>l[i - vars.length]?) C.fm;simp only[qaw,ej,hN',qcd] at ef;have ef':N[j]?=some x:=by simpa using ef
     have ev:σ[j]?=some (some v):=by
      have:(σ[j]?).getD none=some v:=by simpa using hv'
      cases z:σ[j]? with
      | none=>rw[z] at this;cases this
      | some o=>rw[z] at this;simp at this;rw[this]
     have hx:x∈frees:=qaV hN';have vis:Vis X.env.scope x:=.inr (.inl (C.cl x hx));obtain⟨u,ru,look⟩:=lX j x v (by rw[g.hN];exact ef') ev vis;refine⟨u,ru,.inr ⟨?_,?_⟩⟩
     ·left;show (relabel scope X.env).names.lookup x=some .cell
      have:=bV (env:=X.env) I3.ok.kind (C.hf x hx)
      rw[qah ⟨rfl,C.cl x hx⟩] at this;exact this
     ·rcases look with ⟨hk,_⟩|⟨_,c,hc,hcell⟩
      ·rw[C.cl x hx] at hk;cases hk
      ·obtain⟨c',h1,h2⟩:=clf x hx;rw[hc] at h2;cases h2;obtain⟨o,eo,ed⟩:=hcell;exact⟨c,csf x c hx h1,o,keep4 _ _ eo,ed⟩
   ·rcases csl x c e with ⟨_,_,_,q⟩|⟨q,_⟩
    ·exact⟨none,q⟩
    ·obtain⟨v,o,eo,ed⟩:=I3.cell x c q;exact⟨v,o,keep4 _ _ eo,ed⟩
   ·exact I3.hok.fresh (qai _)
   ·rcases csl x c e with ⟨_,_,q,_⟩|⟨q,_⟩
    ·exact I3.hok.fresh (qbJ q)
    ·exact I3.freeC x c q
   ·show σY.length=(vars++frees).length;simp[σY,fml]
  have gY:Good (dk X scope (cn++cl) s₃ H₃ fp (vars++frees)) (vars++frees) vars G' k:=by
   refine⟨rfl,nd,fun x hx=>?_,fun x hx=>?_,fun x hx=>?_,dbg,g.calm,g.room,PassesOwn.never⟩
   ·rcases qay.mp hx with z|z
    ·rcases C.hv x z with z|z
     ·left
      have:=bV (env:=X.env) I3.ok.kind z
      rw[qan (fun q=>nomatch q.1)] at this;exact this
     ·right
      have:=bV (env:=X.env) I3.ok.kind z
      rw[qan (fun q=>nomatch q.1)] at this;exact this
    ·right
     have:=bV (env:=X.env) I3.ok.kind (C.hf x z)
     rw[qah ⟨rfl,C.cl x z⟩] at this;exact this
   ·rcases C.hv x hx with z|z
    ·right
     have:=bV (env:=X.env) I3.ok.kind z
     rw[qan (fun q=>nomatch q.1)] at this;exact this
    ·exact .inl (decide_eq_true z)
   ·have:=bV (env:=X.env) I3.ok.kind (hgl x hx)
    rw[qan (fun q=>nomatch q.1)] at this;exact this
  obtain⟨hg,ht,he⟩:=hY (dk X scope (cn++cl) s₃ H₃ fp (vars++frees)) rfl rfl rfl rfl rfl rfl gY;have rsY:RS X.K (ρ1++[s₂.heap.objs.size]) H₃ (cSt vars.length fm σp) σY:=by
   refine⟨by simp[σY,cSt],fun i v e=>?_⟩;unfold cSt at e;by_cases z:vars.length<=i
   ·rw[qaC (by simpa using z),qbB,qaw] at e
    cases ej:fm[i - vars.length]? with
    | none=>rw[ej] at e;cases e
    | some j =>
     rw[ej] at e;have ev:σp[j]?=some (some v):=by
      have:(σp[j]?).getD none=some v:=by simpa using e
      cases z:σp[j]? with
      | none=>rw[z] at this;cases this
      | some o=>rw[z] at this;simp at this;rw[this]
     obtain⟨v',e',rv⟩:=rs.2 j v ev;refine⟨v',?_,rv.le l13⟩;show σY[i]?=_;rw[qaC (by simpa using z),qbB,qaw,ej];simp[e']
   ·rw[qao (by simp;ext),qbl] at e
    split at e <;> cases e
  have q3:Ful X (RV' X) σp (ρ1++[s₂.heap.objs.size]) H₃ ((cGo it h1.length gt mt me it.xs (cSt vars.length fm σp) (h1++[.lst []])).bind fun _ h3=>.ok (.loc h1.length) h3) Q:=Ful.le l3 q1;have hrho:(ρ1++[s₂.heap.objs.size])[h1.length]?=some s₂.heap.objs.size:=by rw[<-rh1.len];simp
  have loop:∀s₅:Shared,s₅={ s₃ with heap:=h',toks:=s₃.toks}->codeAny (model X.prog X.w) X.A (.compLoop (.ListComp elt [⟨tg,iter,ifs,0⟩] scope pos) 0 (.ref ita) (.ref s₂.heap.objs.size) (compEnvC scope (cn++cl) s₃.heap.objs.size X.env))
    (compPost (model X.prog X.w) X.A X.xe use Qv (.ref s₂.heap.objs.size) s₃.heap.objs.size) s₅:=by
   rintro s₅ rfl;refine q0 (CI X (dk X scope (cn++cl) s₃ H₃ fp (vars++frees)) it tn fp (ρ1++[s₂.heap.objs.size]) H₃ σp h1.length gt mt me Q) ?_ it.xs.length
    ⟨0,σY,H₃,_,_,_,rfl,qaK _,invY,T.keep _ _ _ st3 (fun b _ o e=>keep4 b o e),fun b hb=>(fp3 b hb).1,Le.refl _ _,rsY,rh3,by simpa using q3⟩
   rintro n s6 ⟨i,σ6,H6,ρ6,σp6,h6,rfl,hi6,I6,st6,fr6,l6,rs6,rh6,q6⟩;have stat:∀{H':Hp},(∀b∈fp,H' b=none)->∀b∈fp,gM (dk X scope (cn++cl) s₃ H₃ fp (vars++frees)) [] H' b:=fun {H'} hn b hb =>
    ⟨hn b hb,(ok.exf b hb).1,ok.exfs b hb,.inl hb,(ok.exf b hb).2,fun p hp=>absurd (show p∈([]:List (Addr × Obj)) from hp) (by simp)⟩
   by_cases hlt:i<it.xs.length
   ·have ed:it.xs.drop i=it.xs[i]::it.xs.drop (i+1):=qcu hlt;rw[ed] at q6;simp only[cGo] at q6;by_cases hok:it.ok h6
    ·rw[qah hok] at q6;obtain⟨j1,_⟩:=jr ρ6 H6 h6 i (l3.trans l6) rh6 hok;obtain⟨go,yl⟩:=j1 hlt;refine thn (T.item (dk X scope (cn++cl) s₃ H₃ fp (vars++frees)) rfl rfl rfl g.calm i [] s6 σ6 H6 (fun _ _=>False) I6 (stat fr6) st6 go) fun r s7 ⟨u,hr,h7⟩=>?_;subst hr;refine thn h7 fun _ s8 ⟨x8,H8,I8,r8,y8,st8,fr8⟩=>?_;obtain⟨ρ8,x,l8,rh8,ex,rx⟩:=yl x8 H8 y8;have ex':x=it.xs[i]:=by rw[qas hlt] at ex;exact (Option.some.inj ex).symm
     subst ex';have I8p:=I8.pinned (stat fr8) (T.obj _ _ st8);have q8:=Ful.le l8 q6;have back:∀{σ9:L2.St} {H9:Hp} {s9:Shared},Inv (dk X scope (cn++cl) s₃ H₃ fp (vars++frees)) ([]++ko fp s8.heap) σ9 H9 s9->Inv (dk X scope (cn++cl) s₃ H₃ fp (vars++frees)) [] σ9 H9 s9/\tn (i+1) s9.heap/\∀b∈fp,H9 b=none:=fun {σ9 H9 s9} I9=>by
      refine⟨I9.unpinned,T.keep _ _ _ st8 fun b hb o e=>(I9.pin (b,o) (qaj _ (qaj _ (gq hb e)))).1,fun b hb=>?_⟩;obtain⟨o,e,d⟩:=T.obj _ _ st8 b hb;exact (I9.pin (b,o) (qaj _ (qaj _ (gq hb e)))).2.1
     cases eg:gt it.xs[i] σp6 h6 with
     | nx σp9 h9 =>
      rw[eg] at q8;dsimp only at q8
      refine thn (hg _ s8 σ6 H8 x8 u (fun σ' H'=>∃ρ',Le ρ8 H8 ρ' H'/\RH X.K X.mg ρ' H' h9/\RS X.K ρ' H' σp9 σ') I8p r8 ⟨ρ8,σp6,h6,_,rs6.le l8,rh8,rx,by
       show mH _ _ _ (gt it.xs[i] σp6 h6) _
       rw[eg];exact fun ρ' H' σ' l r s=>⟨ρ',l,r,s⟩⟩) fun _ s9 ⟨σ9,H9,I9,ρ9,l9,rh9,rs9⟩=>?_
      have q9:=Ful.le l9 q8
      cases em:mt σp9 h9 with
      | ok b h10 =>
       rw[em,Out.ne_ok] at q9;rw[Out.bind_ok] at q9
       refine thn (ht _ s9 σ9 H9 (fun b' H'=>b'=b/\∃ρ',Le ρ9 H9 ρ' H'/\RH X.K X.mg ρ' H' h10) I9 ⟨ρ9,σp9,h9,rs9,rh9,by
        show Ful _ _ _ _ _ (mt σp9 h9) _
        rw[em];exact fun ρ' H' v' l r e=>⟨e.symm,ρ',l,r⟩⟩) fun b' s10 ⟨H10,I10,eb,ρ10,l10,rh10⟩=>?_
       subst eb;have q10:=Ful.le l10 q9
       cases b' with
       | false =>
        rw[qan qaL] at q10 ⊢;obtain⟨I10',st10,fr10⟩:=back I10;exact⟨_,by ext,i+1,σ9,H10,ρ10,σp9,h10,rfl,hlt,I10',st10,fr10,l6.trans (l8.trans (l9.trans l10)),rs9.le l10,rh10,q10⟩
       | true =>
        rw[qah rfl] at q10 ⊢
        cases ee:me σp9 h10 with
        | ok v h11 =>
         rw[ee,Out.ne_ok] at q10;rw[Out.bind_ok] at q10
         refine thn (he _ s10 σ9 H10 (fun v' H'=>∃ρ',Le ρ10 H10 ρ' H'/\RH X.K X.mg ρ' H' h11/\RP X.K ρ' H' v v') I10 ⟨ρ10,σp9,h10,rs9.le l10,rh10,by
          show Ful _ _ _ _ _ (me σp9 h10) _
          rw[ee];exact fun ρ' H' v' l r e=>⟨ρ',l,r,e⟩⟩) fun u11 s11 ⟨v',H11,I11,ru11,ρ11,l11,rh11,rv11⟩=>?_
         have q11:=Ful.le l11 q10;have lall:Le (ρ1++[s₂.heap.objs.size]) H₃ ρ11 H11:=l6.trans (l8.trans (l9.trans (l10.trans l11)));obtain⟨oa,eoa,roa⟩:=rh11.obj (lall.get hrho);rw[eoa] at q11
         cases oa with
         | dic kvs=>exact q11.elim
         | exc x=>exact q11.elim
         | lst ys =>
          dsimp only at q11;by_cases hl11:ys.length<sizeLine
          ·rw[qah hl11] at q11;obtain⟨ys',ey',ry⟩:=roa;obtain⟨rh12,l12⟩:=rh11.put (lall.get hrho) (o:=.lst (ys++[v])) (ho:=.lst (ys'++[v'])) ⟨_,rfl,ry.append (.cons rv11 .nil)⟩;have ap:=pU (X:=dk X scope (cn++cl) s₃ H₃ fp (vars++frees)) _ s11 σ9 H11 (.ref s₂.heap.objs.size) [v'] (.ref s₂.heap.objs.size) [u11] (fun _ H'=>H'=upd H11 s₂.heap.objs.size (.lst (ys'++[v']))) I11 rfl (.cons ru11 .nil) ⟨s₂.heap.objs.size,ys',v',rfl,rfl,ey',by rw[<-ry.length];exact hl11,rfl⟩;refine thn ap fun _ s12 ⟨_,H12,I12,_,eH⟩=>?_;subst eH;obtain⟨I12',st12,fr12⟩:=back I12;exact⟨_,by ext,i+1,σ9,_,ρ11,σp9,_,rfl,hlt,I12',st12,fr12,lall.trans l12,(rs9.le l10).le (l11.trans l12),rh12,Ful.le l12 q11⟩
          ·rw[qan hl11] at q11;exact q11.elim
        | exc x h11=>rw[ee] at q10;exact q10.elim
        | bad=>rw[ee] at q10;exact q10.elim
      | exc x h10=>rw[em] at q9;exact q9.elim
      | bad=>rw[em] at q9;exact q9.elim
     | _=>rw[eg] at q8;exact q8.elim
    ·rw[qan hok] at q6;exact q6.elim
   ·have e:i=it.xs.length:=by ext
    rw[e,List.drop_length] at q6;simp only[cGo] at q6;by_cases hok:it.ok h6
    ·rw[qah hok] at q6;obtain⟨_,j2⟩:=jr ρ6 H6 h6 i (l3.trans l6) rh6 hok;refine thn (T.done (dk X scope (cn++cl) s₃ H₃ fp (vars++frees)) rfl rfl rfl g.calm i [] s6 σ6 H6 (fun _ _=>False) I6 (stat fr6) st6 (j2 (by ext))) fun r s7 ⟨hr,I7⟩=>?_;subst hr;obtain⟨m7,ns7,_⟩:=I7.loc;have IX:=I3.call' (s':=s7) (ch:=fp) I7.os I7.base I7.hok I7.bare fun b hb=>by
      obtain⟨_,a2,_,a4,a5,a6⟩:=fp3 b hb;exact⟨a4,a2,a5,a6⟩
     exact fin _ _ H6 s7 m7 IX I7.free ns7 (qaT I3.lt) I3.sz (I3.nofs (qai _)) (fun x c e z=>by
      obtain⟨v,qc⟩:=I3.cell x c e
      exact absurd qc.lt (by rw[z];exact qbc _)) (fun p hp z=>absurd (qal (I3.pin p hp).1) (by rw[z];exact qbc _)) (q6 ρ6 H6 _ (Le.refl _ _) rh6 (.loc (l6.get hrho)))
    ·rw[qan hok] at q6;exact q6.elim
  exact codeAny_compStart_list (loop _ rfl) (T.self X.A 0 _ _ _ (T.keep _ _ _ st3 (fun b _ o e=>keep4 b o e)) (loop _ rfl))
 exact goal3
def me_comp(g:Good X N W G k){tg iter elt:Expr}{ifs:List Expr}{scope:Scope}{pos:Pos}{vars frees G':List Str}{fm:List Nat}{mi:Mx MIt}{gt:Mg}{mt:Mx Bool}{me:Mx PV}(C:CompOk X N scope vars frees fm)
  (nd:(vars++frees).Nodup) (hgl:∀x∈G',scope.names.lookup x=some .globalImplicit) (dbg:∀x∈(vars++frees)++G',(x == ("__debug__":Str))=false/\(x == ("__classdict__":Str))=false/\x≠"__name__")
  (hi:MI X tg iter mi)
  (hY:∀Y:Cx,Y.prog=X.prog->Y.w=X.w->Y.K=X.K->Y.mg=X.mg->Y.base=X.base->Y.env.scope=relabel scope X.env->Good Y (vars++frees) vars G' k->MG Y tg gt/\MTs Y ifs mt/\ME Y elt me)
  (hs:∀x,foldedSetIterable iter X.env x=pure x:=by intro _;rfl):ME X (.ListComp elt [⟨tg,iter,ifs,0⟩] scope pos) (bz vars.length fm mi gt mt me):=by
 intro HM s σ H Q I tm;rw[eval_ListComp];refine qh g C nd hgl dbg hi hY hs I tm fun acc D H6 s7 m7 IX hC ns hL hz hfs hcl hp q=>?_;refine⟨m7,ns,fun h'' hsb=>⟨.ref acc,H6,?_,rfl,q⟩⟩;exact IX.turned (it:=D) (t':=s7.toks) (fun b o hb e=>hsb.extBut b o hb e) hC hL (.inr hz) hcl hp
def ms_setC(g:Good X N W G k)(i:Nat){y:Str}{py spos:Pos}{tg iter elt:Expr}{ifs:List Expr}{scope:Scope}{pos:Pos}{vars frees G':List Str}{fm:List Nat}{mi:Mx MIt}{gt:Mg}{mt:Mx Bool}{me:Mx PV}(hyi:N[i]?=some y)(hw:W[i]?=some y)
  (hsw:swapsWith (.ListComp elt [⟨tg,iter,ifs,0⟩] scope pos) (some (.Name y py)) spos.line X.env=pure true) (C:CompOk X N scope vars frees fm)
  (nd:(vars++frees).Nodup) (hgl:∀x∈G',scope.names.lookup x=some .globalImplicit) (dbg:∀x∈(vars++frees)++G',(x == ("__debug__":Str))=false/\(x == ("__classdict__":Str))=false/\x≠"__name__")
  (hi:MI X tg iter mi)
  (hY:∀Y:Cx,Y.prog=X.prog->Y.w=X.w->Y.K=X.K->Y.mg=X.mg->Y.base=X.base->Y.env.scope=relabel scope X.env->Good Y (vars++frees) vars G' k->MG Y tg gt/\MTs Y ifs mt/\ME Y elt me)
  (hs:∀x,foldedSetIterable iter X.env x=pure x:=by intro _;rfl):MS X (.Assign [.Name y py] (.ListComp elt [⟨tg,iter,ifs,0⟩] scope pos) spos) (aY i (bz vars.length fm mi gt mt me)):=by
 intro HM s σ H D I tm;obtain⟨ρ,σp,h,rs,rh,q⟩:=tm;rw[exec_Assign_Name_used _ _ _ _ hsw];refine qaa (wpAny_standAt (qaa ?_));show wpAny _ X.A (do let _ <-comprehension (.ListComp elt [⟨tg,iter,ifs,0⟩] scope pos) scope X.env _ (newList []) false (eval iter X.env) (some (assign (.Name y py) X.env))) _ _ s
 refine qaa (wpAny_mono (qh (pos:=pos) g C nd hgl dbg hi hY hs (use:=some (assign (.Name y py) X.env)) (Qv:=fun _ s'=>SP X HM D .next s') (pp:=firstIterPos [⟨tg,iter,ifs,0⟩] pos) (Q:=fun v H'=>D.nx (σ.set i (some v)) H') I
  ⟨ρ,σp,h,rs,rh,bc.ex q fun ρ1 H1 v v' h1 l r z w=>w ρ1 H1 _ (Le.refl _ _) r ((rs.le l).set i z)⟩ fun acc D' H6 s7 m7 IX hC ns hL hz hfs hcl hp q6=>?_) (fun _ s' hq=>qag (qag hq)) fun _ _ e=>e)
 ·obtain⟨o,es,ep,ho,hd,hr⟩:=id ns;have IP:Inv X (HM++[(D',o)]) σ H6 s7:=IX.pins_of fun p hp'=>(qay.mp hp').elim (fun z=>IX.pin p (qaj _ z)) fun z=>by
   have e:p=(D',o):=by simpa using z
   subst e;exact⟨ho,hC,hL,hfs,fun v z=>by rw[hd] at z;cases z⟩
  have st:=uR (X:=X) (pos:=py) (by rw[g.hN];exact g.nd) (g.x hyi) (g.loc y (az hyi)) (g.fn y (az hw)) (HM++[(D',o)]) s7 σ H6 (.ref acc) (.ref acc) (fun σ' H'=>σ'=σ.set i (some (.ref acc))/\H'=H6) IP rfl ⟨rfl,rfl⟩;refine thn st fun _ s8 ⟨σ8,H8,I8,e1,e2⟩=>?_;subst e1;subst e2;have pn:=I8.pin (D',o) (qaj _ (qaj _ (by simp)));refine⟨m7,⟨o,es,ep,pn.1,hd,hr⟩,fun h'' hsb=>⟨_,_,?_,q6⟩⟩;exact (I8.unpinned).turned (it:=D') (t':=s8.toks) (fun b o hb e=>hsb.extBut b o hb e) hC hL (.inr hz) hcl hp
end
abbrev bmVE:List Value:=[.type "ValueError",.type "Exception",.type "BaseException",.type "object"]
structure ExcK (K:qac) (mg:MGl) (x:Str) (C:Addr):Prop where
 bd:mg x=some (.ref C)
 ok:PySem.W.excIn K C bmVE "ValueError.__new__"=true
abbrev ExcC(X:Cx)(x:Str)(C:Addr):Prop:=ExcK X.K X.mg x C
def exc_obj{K:qac}{h:Heap}{C:Addr}{bmB:List Value}{newId:String}(hK:K.In h)(q:PySem.W.excIn K C bmB newId=true) :
  ∃bm N nm q bs hdct sn sub ab col dd k0 k1 k2 k3 k5 mN,h.get? C=some (excClassObj nm q C N bs bm hdct sn sub ab col dd k0 k1 k2 k3 k5 newId)/\h.Ns N mN/\mN "__init__"=none/\OwnTail h bmB bm/\∀base r,PySem.W.mroIn K C base=some r->(Value.ref C::bm).contains base=r:=by
 unfold PySem.W.excIn at q
 split at q
 ·rename_i dd cd sl ho
  split at q
  ·rename_i C' bm k0 k1 k2 k3 n k5 hm hs
   simp only[qaO,beq_iff_eq,qbG] at q;obtain⟨⟨⟨⟨⟨rfl,rfl⟩,hdel⟩,ht⟩,hok⟩,hni⟩:=q;obtain⟨nm,bs,mro,ns,qn,hd,sn,sub,ab,col,del⟩:=cd;dsimp only at hm hdel hok hni;subst hm hdel;have hsl:sl=#[k0,k1,k2,k3,some (.builtin n),k5]:=by
    obtain⟨l⟩:=sl;simp only at hs;rw[hs]
   subst hsl
   exact⟨bm,ns,nm,qn,bs,hd,sn,sub,ab,col,dd,k0,k1,k2,k3,k5,_,hK _ _ ho,.of_isNs (PySem.W.isNs_of_in hK hok),PySem.W.nsMap_none_of_in hK hok hni,PySem.W.tail_of_in hK ht,fun base r e=>by
    unfold PySem.W.mroIn PySem.W.clsIn at e;rw[ho] at e
    simpa using e⟩
  ·cases q
 ·cases q
section
variable {X:Cx} {N W G:List Str} {k:Nat}
def fy(x:Str)(m:Mx (List PV)):Mst:=mEx m fun vs σ h=>if vs.length<=sizeLine then .rse ⟨x,[]⟩ σ h else .bad
def zY(g:Good X N W G k){x:Str}{j:Nat}{C:Addr}(hj:G[j]?=some x)(EC:ExcC X x C){e:Expr}{es:List Expr}{m:Mx (List PV)}{np cpos pos:Pos}(ha:MA X (e::es) m)
  (he:starEach (e::es) X.env=(false,eval e X.env)::starEach es X.env:=by rfl) (hpl:(backTo cpos (starEach es X.env)).any (·.1)=false:=by rfl) :
  MS X (.Raise (some (.Call (.Name x np) (e::es) [] cpos)) none pos) (fy x m):=by
 intro HM s σ H D I ⟨ρ,σp,h,rs,rh,q⟩;have d:=g.dbg x (qaj _ (az hj));obtain⟨bm,Nn,nm,qn,bs,hdct,sn,sub,ab,col,dd,k0,k1,k2,k3,k5,mN,hC,hN,hni,T,_⟩:=exc_obj I.mod.kin EC.ok;refine wpAny_Raise_call_subT (C:=C) (nm:=nm) (q:=qn) (N:=Nn) (bs:=bs) (bm:=bm) (hdct:=hdct) (sn:=sn) (sub:=sub) (ab:=ab) (col:=col) (dd:=dd) (k0:=k0) (k1:=k1) (k2:=k2) (k3:=k3) (k5:=k5)
  PySem.F.excBase_ValueError (mN:=mN) (T.hasType PySem.F.excBase_ValueError.hasBase) (I.ok.hd g.calm) (by rw[he];show (false || (backTo cpos (starEach es X.env)).any (·.1))=false;rw[hpl];rfl) hni (o4 I (g.gl x (az hj)) EC.bd ⟨rfl,?_⟩ d.1)
 have A:=ha cpos HM s σ H (fun vs H1=>∃ρ1 xs h1,Le ρ H ρ1 H1/\RH X.K X.mg ρ1 H1 h1/\RPs X.K ρ1 H1 xs vs/\bc X ρ1 H1 (if xs.length<=sizeLine then .rse ⟨x,[]⟩ σp h1 else .bad) D) I
  ⟨ρ,σp,h,rs,rh,bc.ex q fun ρ1 H1 v v' h1 l r z w=>⟨ρ1,v,h1,l,r,z,w⟩⟩
 rw[he] at A ⊢;refine Calls.evalArgs_plain (wpAny_mono A (fun us s2 ⟨vs,H1,I1,rv,ρ1,xs,h1,l1,rh1,rx,w⟩=>?_) fun _ _ y=>y);by_cases hl:xs.length<=sizeLine
 ·rw[qah hl] at w;refine⟨rfl,by rw[<-rv.length,<-rx.length];exact hl,I1.bk _ _ hC,hN.keeps I1.bk,T.keeps I1.bk,fun h' ea made=>?_⟩;have I0:Inv X [] σ H1 { ({ s2 with heap:=h'}:Shared) with heap:=s2.heap}:=Inv.unpinned (HM:=[]) (pl:=HM) I1;exact w ea C ρ1 H1 σ { s2 with heap:=h'} s2.heap us rfl EC.bd (Le.refl _ _) rh1 (rs.le l1) I0 made
 ·rw[qan hl] at w;exact w.elim
end
section
variable {X:Cx} {N W G:List Str} {k:Nat} {σ:L2.St} {H:Hp} {s:Shared}
end
section
variable {prog:Program} {w:World} {A:Around} {E:Value→Shared→Prop} {h:Heap} {g:Array GenState} {d:Drawn} {t:Nat} {os:OsState} {a C:Addr} {o:Obj} {K:qac}
end
section
variable {X:Cx} {N W G:List Str} {k:Nat}
end
def lK(hf:∀v d,f v=some d->d.depth<=n/\d.hasDict=false):∀{xs:List PV} {ds:List PyData},bR f xs=some ds->PyData.depthAll ds<=n/\PyData.hasDictAll ds=false
 | [],ds,e=>by cases e;simp[PyData.depthAll,PyData.hasDictAll]
 | x::r,ds,e=>by
  simp only[bR] at e
  split at e
  ·rename_i d ds' e1 e2
   cases e;obtain⟨a1,a2⟩:=hf _ _ e1;obtain⟨b1,b2⟩:=lK hf e2;simp only[PyData.depthAll,PyData.hasDictAll,a2,b2];exact⟨by lia,rfl⟩
  ·cases e
def sZ:∀(n:Nat) (v:PV) (d:PyData),rd n h v=some d->d.depth<=n/\d.hasDict=false
 | 0,v,d,e=>by
  cases v <;> simp only[rd] at e <;> cases e <;> simp[PyData.depth,PyData.hasDict]
 | n+1,v,d,e=>by
  have key:∀xs,(∀ds,bR (rd n h) xs=some ds->PyData.depthAll ds<=n/\PyData.hasDictAll ds=false):=fun xs ds=>lK (sZ n)
  cases v with
  | non=>simp only[rd] at e;cases e;simp[PyData.depth,PyData.hasDict]
  | bl b=>simp only[rd] at e;cases e;simp[PyData.depth,PyData.hasDict]
  | int b=>simp only[rd] at e;cases e;simp[PyData.depth,PyData.hasDict]
  | str b=>simp only[rd] at e;cases e;simp[PyData.depth,PyData.hasDict]
  | tup xs =>
   simp only[rd,qat] at e;obtain⟨ds,e1,rfl⟩:=e;obtain⟨a,b⟩:=key xs ds e1;exact⟨by simp only[PyData.depth];lia,by simp only[PyData.hasDict,b]⟩
  | frl xs =>
   simp only[rd,qat] at e;obtain⟨ds,e1,rfl⟩:=e;obtain⟨a,b⟩:=key xs ds e1;exact⟨by simp only[PyData.depth];lia,by simp only[PyData.hasDict,b]⟩
  | loc m =>
   simp only[rd] at e
   split at e
   ·rename_i xs _
    simp only[qat] at e;obtain⟨ds,e1,rfl⟩:=e;obtain⟨a,b⟩:=key xs ds e1;exact⟨by simp only[PyData.depth];lia,by simp only[PyData.hasDict,b]⟩
   ·cases e
section
variable {X:Cx} {N W G:List Str} {k:Nat}
end
def jb{p:Str->Prop}{a:Str}{l:List Str}(h:p a)(t:∀x∈l,p x):∀x∈a::l,p x:=fun x hx=>by
 rcases qak.mp hx with rfl|z
 ·exact h
 ·exact t x z
section
variable {X:Cx} {N W G:List Str} {k:Nat}
def hJ(g:Good X N W G k){x:Str}{j:Nat}(hj:G[j]?=some x)(EC:∃C,ExcC X x C){e:Expr}{es:List Expr}{m:Mx (List PV)}{np cpos pos:Pos}(ha:MA X (e::es) m)
  (he:starEach (e::es) X.env=(false,eval e X.env)::starEach es X.env:=by rfl) (hpl:(backTo cpos (starEach es X.env)).any (·.1)=false:=by rfl) :
  MS X (.Raise (some (.Call (.Name x np) (e::es) [] cpos)) none pos) (fy x m):=let ⟨_,h⟩:=EC;zY g hj h ha he hpl
def Cal.at(e1:Y.prog=X.prog)(e2:Y.w=X.w)(e3:Y.K=X.K)(e4:Y.mg=X.mg)(e5:Y.base=X.base)(c:Cal X x ps F i):Cal Y x ps F i:=c.to e1 e2 e3 e4 e5
end
end MM
namespace MM
open PySem PySem.Spec PyProof.Rows L2
def compOk(hsc:X.env.scope=sc)(h1:scope.kind=.function)(h2:∀y∈scope.names,y.2=.cell->scope.names.lookup y.1=some .cell)(h3:∀y∈scope.names,y.2=.local->scope.names.lookup y.1=some .local)(h4:∀x∈vars,scope.names.lookup x=some .local\/scope.names.lookup x=some .cell)
  (h5:∀x∈frees,scope.names.lookup x=some .free) (h6:∀y∈scope.names,y.2=.free->y.1∈frees) (h7:fm.map (fun i=>N[i]?)=frees.map some) (h8:∀x∈frees,sc.names.lookup x=some .cell):CompOk X N scope vars frees fm :=
 ⟨h1,h2,h3,h4,h5,h6,h7,fun x hx=>by rw[<-hsc] at h8;exact h8 x hx⟩
end MM
namespace MM
open PySem PySem.Spec PyProof.Rows L2
local instance (priority:=1) cdec16 (p:Prop):Decidable p:=Classical.propDecidable p
section
variable {σ:PSt} {h:MH}
@[simp] theorem mRaise_ap:fy x m σ h=(m σ h).go σ fun vs σ h=>if vs.length<=sizeLine then .rse ⟨x,[]⟩ σ h else .bad:=rfl
@[simp] theorem Ab{nv:Nat}{fm:List Nat}{mi:Mx MIt}{gt:Mg}{mt:Mx Bool}{me:Mx PV}:bz nv fm mi gt mt me σ h =
 (mi σ h).bind fun it h1=>(cGo it h1.length gt mt me it.xs (cSt nv fm σ) (h1++[.lst []])).bind fun _ h3=>.ok (.loc h1.length) h3:=rfl
def cGo_nil{it:MIt}{n:Nat}{gt:Mg}{mt:Mx Bool}{me:Mx PV}(e:it.ok h):cGo it n gt mt me [] σ h=.ok () h:=by rw[cGo,qah e]
def cGo_yes{it:MIt}{n:Nat}{gt:Mg}{mt:Mx Bool}{me:Mx PV}{x v:PV}{r ys:List PV}{σ1:PSt}{h1 h2 h3:MH}(e:it.ok h)(eg:gt x σ h=.nx σ1 h1)(et:mt σ1 h1=.ok true h2)(ee:me σ1 h2=.ok v h3)(el:h3[n]?=some (.lst ys))(hl:ys.length<1000) :
  cGo it n gt mt me (x::r) σ h=cGo it n gt mt me r σ1 (h3.set n (.lst (ys++[v]))):=by
 rw[cGo,qah e,eg];simp only[et,Out.ne_ok,Out.bind_ok,if_true,ee,el];rw[qah (qaz hl (by decide))]
def app_0{o:MO}{g:MH}:(h++o::g)[h.length]?=some o:=by simp
def app_l{g:MH}{n:Nat}{o:MO}(e:h[n]?=some o):(h++g)[n]?=some o:=by
 rw[qao (qad.mp e).1];exact e
end
end MM
namespace MM
open PySem PySem.Spec PyProof.Rows L2
end MM
namespace MM
open PySem PySem.Spec PyProof.Rows L2
local instance (priority:=1) cdec18 (p:Prop):Decidable p:=Classical.propDecidable p
def mMt(f:Nat->List PV->MH->Out PV)(m:Mx PV)(ma:Mx (List PV)):Mx PV:=fun σ h=>(m σ h).bind fun o h1=>match o with
 | .loc n=>(match h1[n]? with
  | some (.lst _)=>(ma σ h1).bind fun vs h2=>(f n vs h2).ne
  | _=>.bad)
 | _=>.bad
def b9(n:Nat)(vs:List PV)(h:MH):Out PV:=match vs,h[n]? with
 | [v],some (.lst xs)=>if xs.length<sizeLine then .ok .non (h.set n (.lst (xs++[v]))) else .bad
 | _,_=>.bad
def gC(n:Nat)(vs:List PV)(h:MH):Out PV:=match vs with
 | [.loc m]=>(match h[n]?,h[m]? with
  | some (.lst xs),some (.lst ys)=>if xs.length+ys.length<=sizeLine then .ok .non (h.set n (.lst (xs++ys))) else .bad
  | _,_=>.bad)
 | [.tup ys]=>(match h[n]? with
  | some (.lst xs)=>if xs.length+ys.length<=sizeLine then .ok .non (h.set n (.lst (xs++ys))) else .bad
  | _=>.bad)
 | _=>.bad
section
variable {X:Cx} {N W G:List Str} {k:Nat}
def mtJ(X:Cx)(f:Nat->List PV->MH->Out PV):V->List V->Hp->VK->Prop:=fun x vs H Q=>∃ρ h n a ps,x=.ref a/\ρ[n]?=some a/\RH X.K X.mg ρ H h/\RPs X.K ρ H ps vs/\jl X (RV' X) ρ H (f n ps h) Q
def kl:MtR X "list.append" (mtJ X b9):=by
 intro HM s σ H x vs v us Q I rx rv ⟨ρ,h,n,a,ps,e,en,rh,rp,q⟩;subst e;obtain⟨o,eo,ro⟩:=rh.obj en;unfold b9 at q
 cases rp with
 | nil=>rw[eo] at q;exact q.elim
 | cons r1 t1 =>
  cases t1 with
  | cons _ _=>rw[eo] at q;exact q.elim
  | nil =>
   rw[eo] at q
   cases o with
   | lst xs =>
    dsimp only at q;by_cases hl:xs.length<sizeLine
    ·rw[qah hl] at q;obtain⟨ys,ey,ry⟩:=ro;obtain⟨rh',l'⟩:=rh.put en (o:=.lst (xs++[_])) (ho:=.lst (ys++[_])) ⟨_,rfl,ry.append (.cons r1 .nil)⟩;exact pU HM s σ H _ _ v us Q I rx rv ⟨a,ys,_,rfl,rfl,ey,by rw[<-ry.length];exact hl,q ρ _ .non l' rh' .non⟩
    ·rw[qan hl] at q;exact q.elim
   | _=>exact q.elim
def qy(l b:Addr)(its:Array Value)(n:Nat)(items2:Array Value)(hs0:¬(!its.isEmpty && Builtin.List.listTooLong (its.size+items2.size))=true)(hs1:its.size<=sizeLine)(hs2:its.size+items2.size<=sizeLine+1) :
  Meets (Builtin.«list.extend» ⟨[.ref l,.ref b],[]⟩) (fun _ R s=>s.heap.get? l=some { cls:=.type "list",data:=.seq its n}/\IsTup s.heap b items2/\R (.ok (.ret Value.none)) { s with heap:=s.heap.update l (Obj.mapSeq fun x=>x++items2),toks:=s.toks}):=by
 intro prog w A R s ⟨hl,⟨o,ho,hc,n2,hd⟩,h⟩;have hz':(its++items2).size<=sizeLine+1:=by rw[qbV];exact hs2
 unfold Builtin.«list.extend»;show wpAny _ A.in1 (Builtin.List.listExtendWith (.ref l) (.ref b) .none) _ _ s;unfold Builtin.List.listExtendWith;refine qaa (wpAny_typeOf ⟨o,ho,hc⟩ ?_);have h1:(Builtin.List.listSameRef (.ref l) (.ref b) || Value.type "tuple" == Value.type "list" || Value.type "tuple" == Value.type "tuple")=true:=by simp
 simp only[h1,if_true];refine qaa ?_;unfold Builtin.List.listItems;refine qaa (wpAny_seqItems ho hd (qag ?_));refine qaa ?_;refine qaa (wpAny_seqItems hl rfl (qag ?_));simp only[hs0,if_false];show wpAny _ A.in1 (updateSeq l (·++items2) >>= fun _=>ret Value.none) _ _ s;refine qaa (wpAny_updateSeq hl rfl ?_ (hz:=hs1) (_hz':=hz'));exact qag h
def wY:MtR X "list.extend" (mtJ X gC):=by
 intro HM s σ H x vs v us Q I rx rv ⟨ρ,h,n,a,ps,e,en,rh,rp,q⟩;subst e;obtain⟨o,eo,ro⟩:=rh.obj en;unfold gC at q
 cases rp with
 | nil=>exact q.elim
 | cons r1 t1 =>
  cases t1 with
  | cons _ _=>cases r1 <;> exact q.elim
  | nil =>
   cases r1 with
   | @loc m b em =>
    obtain⟨o2,eo2,ro2⟩:=rh.obj em;dsimp only at q;rw[eo,eo2] at q
    cases o with
    | lst xs =>
     cases o2 with
     | lst zs =>
      dsimp only at q;by_cases hl:xs.length+zs.length<=sizeLine
      ·rw[qah hl] at q;obtain⟨ys,ey,ry⟩:=ro;obtain⟨ws,ew,rw'⟩:=ro2;obtain⟨rh',l'⟩:=rh.put en (o:=.lst (xs++zs)) (ho:=.lst (ys++ws)) ⟨_,rfl,ry.append rw'⟩;exact yy HM s σ H _ _ v us Q I rx rv ⟨a,b,ys,ws,rfl,rfl,ey,ew,by rw[<-ry.length,<-rw'.length];exact hl,q ρ _ .non l' rh' .non⟩
      ·rw[qan hl] at q;exact q.elim
     | _=>exact q.elim
    | _=>exact q.elim
   | @tup zs a2 ws sq rr =>
    dsimp only at q;rw[eo] at q
    cases o with
    | lst xs =>
     dsimp only at q;by_cases hl:xs.length+zs.length<=sizeLine
     ·rw[qah hl] at q;obtain⟨ys,ey,ry⟩:=ro;obtain⟨rh',l'⟩:=rh.put en (o:=.lst (xs++zs)) (ho:=.lst (ys++ws)) ⟨_,rfl,ry.append rr⟩;cases rx;obtain⟨u,rfl,ru⟩:=rv.one;cases ru;obtain⟨z,its,n,r,hl1,e⟩:=I.lstM ey;obtain⟨its2,r2,pl,hz2⟩:=I.tuple sq;have hlen:ys.length+ws.length<=sizeLine:=by rw[<-ry.length,<-rr.length];exact hl
      have hl2:=r2.length;have hsz:its.toArray.size+its2.toArray.size<=sizeLine:=by rw[qaq,qaq];lia
      have hlong:¬(!its.toArray.isEmpty && Builtin.List.listTooLong (its.toArray.size+its2.toArray.size))=true:=by
       rw[mT hsz,qcN];exact qaL
      refine call_meets F.slot_list_extend ⟨_,e,rfl⟩ F.entry_list_extend (F.args_list_extend_2 _ _) (qy a _ its.toArray n its2.toArray hlong (by rw[qaq];lia) (by lia)) ⟨e,pl,?_⟩;refine⟨.non,_,I.lset (its':=its++its2) ey e (by simp) (r.append r2) ?_,rfl,q ρ _ .non l' rh' .non⟩;rw[qaQ];lia
     ·rw[qan hl] at q;exact q.elim
    | _=>exact q.elim
   | _=>exact q.elim
variable {o e:Expr} {es:List Expr} {name:Str} {apos cpos:Pos} {id:String} {f:Nat→List PV→MH→Out PV} {m:Mx PV} {ma:Mx (List PV)}
def tM_mt{ta:TA}(hna:∀σ H Q,tM X (RVs' X) ma σ H Q->ta σ H Q){σ:L2.St}{H:Hp}{Q:VK}(tm:tM X (RV' X) (mMt f m ma) σ H Q):tM X (RV' X) m σ H (fun x H1=>tyV X.K "list" x H1/\ta σ H1 fun xs H2=>mtJ X f x xs H2 Q):=by
 obtain⟨ρ,σp,h,rs,rh,q⟩:=tm;refine⟨ρ,σp,h,rs,rh,?_⟩;unfold mMt at q;refine Ful.bind q fun ρ1 H1 x x' h1 _ l1 rh1 rx q1=>?_
 cases rx with
 | @loc n a en =>
  obtain⟨ob,eo,ro⟩:=rh1.obj en;dsimp only at q1;rw[eo] at q1
  cases ob with
  | lst xs =>
   obtain⟨ys,ey,ry⟩:=ro;refine⟨.inl ⟨rfl,ys,SqL.of ey⟩,hna σ H1 _ ⟨ρ1,σp,h1,rs.le l1,rh1,?_⟩⟩;exact Ful.bind q1 fun ρ2 H2 vs vs' h2 _ l2 rh2 rvs q2=>⟨ρ2,h2,n,a,vs,rfl,l2.get en,rh2,rvs,q2.zero⟩
  | _=>exact q1.elim
 | _=>exact q1.elim
def nX(slot:Slot "list" name id)(hty:typeOf (.builtin id)=pure (.type "method_descriptor"))(hm:MtR X id (mtJ X f))(ho:ME X o m)(ha:MA X (e::es) ma)
  (hbase:attributeBase o name X.env (eval o X.env)=eval o X.env:=by rfl)
  (hfew:((backTo cpos (starEach (e::es) X.env)).all (fun x=>!x.1) && (backToKw cpos (keywordEach [] X.env)).all (fun x=>x.1.isSome)
   && decide ((e::es).length+([]:List Keyword).length+(if ([]:List Keyword).isEmpty then 0 else 1)<30))=true:=by rfl)
  (hline:(apos.endLine == cpos.line)=true:=by rfl) (hs:starEach (e::es) X.env=(false,eval e X.env)::starEach es X.env:=by rfl) (hplain:(backTo cpos (starEach es X.env)).any (·.1)=false:=by rfl) :
  ME X (.Call (.Attribute o name apos) (e::es) [] cpos) (mMt f m ma) :=
 PE.imp (pe_bm PySem.F.plainAttrs_list slot hty hm ho ha hbase hfew hline hs hplain) fun σ H Q q=>tM_mt (fun _ _ _ z=>z) q
@[simp] theorem mMt_ap:mMt f m ma σ h=(m σ h).bind fun o h1=>match o with
 | .loc n=>(match h1[n]? with
  | some (.lst _)=>(ma σ h1).bind fun vs h2=>(f n vs h2).ne
  | _=>.bad)
 | _=>.bad:=rfl
end
end MM
namespace MM
open PySem PySem.Spec PyProof.Rows L2
end MM
namespace MM
open PySem PySem.Spec PyProof.Rows L2
local instance (priority:=1) cdec20 (p:Prop):Decidable p:=Classical.propDecidable p
def aX(h:MH):PV->Option (List PV)
 | .tup xs=>some xs
 | .frl xs=>some xs
 | .loc n=>(match h[n]? with
  | some (.lst xs)=>some xs
  | _=>none)
 | _=>none
section
variable {X:Cx} {N W G:List Str} {k:Nat}
def eZ(rh:RH X.K X.mg ρ H h)(rx:RP X.K ρ H x x')(e:aX h x=some xs):∃a ys,x'=.ref a/\(SqL X.K H a ys\/SqT X.K H a ys)/\RPs X.K ρ H xs ys:=by
 cases rx with
 | tup s r=>cases e;exact⟨_,_,rfl,.inr s,r⟩
 | frl s r=>cases e;exact⟨_,_,rfl,.inl s.sq,r⟩
 | @loc n a en =>
  obtain⟨o,eo,ro⟩:=rh.obj en;simp only[aX,eo] at e
  cases o with
  | lst ys =>
   cases e;obtain⟨zs,ez,rz⟩:=ro;exact⟨a,zs,rfl,.inl (SqL.of ez),rz⟩
  | _=>cases e
 | _=>cases e
def iC(f g:PV->PV->MH->Out PV)(a b c:Mx PV):Mx PV:=fun σ h=>(a σ h).bind fun x h1=>(b σ h1).bind fun y h2=>(f x y h2).ne.bind fun z h3=>match z with
 | .bl t=>if t=true then (c σ h3).bind fun w h4=>(g y w h4).ne else .ok (.bl false) h3
 | _=>.bad
variable {a b c:Expr} {ma mb mc:Mx PV} {f g':PV→PV→MH→Out PV} {op op':CmpOp} {pos:Pos}
def yS{σ:L2.St}{H:Hp}{Q:VK}(q:tM X (RV' X) (iC f g' ma mb mc) σ H Q):yu (rJ X f) (rJ X g') (tM X (RV' X) ma) (tM X (RV' X) mb) (tM X (RV' X) mc) σ H Q:=by
 obtain⟨ρ,σp,h,rs,rh,q⟩:=q;refine⟨ρ,σp,h,rs,rh,Ful.bind q fun ρ1 H1 x x' h1 _ l1 rh1 rx q1=>?_⟩;refine⟨ρ1,σp,h1,rs.le l1,rh1,Ful.bind q1 fun ρ2 H2 y y' h2 _ l2 rh2 ry q2=>?_⟩;refine⟨ρ2,h2,x,y,rh2,rx.le l2,ry,?_⟩;have key:Ful X (RV' X) σp ρ2 H2 (f x y h2).ne (fun z H3=>∃k,z=.bl k/\(if k=true then tM X (RV' X) mc σ H3 fun w' H4=>rJ X g' y' w' H4 Q else Q (.bl false) H3)):=Ful.bind q2 fun ρ3 H3 z z' h3 _ l3 rh3 rz q3=>by
  cases rz with
  | bl t =>
   refine⟨t,rfl,?_⟩;dsimp only at q3
   cases t with
   | true =>
    rw[qah rfl] at q3 ⊢;exact⟨ρ3,σp,h3,rs.le (l1.trans (l2.trans l3)),rh3,Ful.bind q3 fun ρ4 H4 w w' h4 _ l4 rh4 rw' q4=>⟨ρ4,h4,y,w,rh4,(ry.le l3).le l4,rw',q4.zero⟩⟩
   | false =>
    rw[qan qaL] at q3 ⊢;exact q3 ρ3 H3 _ (Le.refl _ _) rh3 (.bl _)
  | _=>exact q3.elim
 exact key.zero
def tH(ho:OpJ X (compareOp op) f)(ho':OpJ X (compareOp op') g')(ha:ME X a ma)(hb:ME X b mb)(hc:ME X c mc)(hm:lastMarks [op,op'] [b,c]=false:=by with_unfolding_all rfl):ME X (.Compare a [op,op'] [b,c] pos) (iC f g' ma mb mc) :=
 PE.imp (Aa ho ho' ha hb hc hm) fun _ _ _ q=>yS q
@[simp] theorem mChain_ap:iC f g' ma mb mc σ h=(ma σ h).bind fun x h1=>(mb σ h1).bind fun y h2=>(f x y h2).ne.bind fun z h3=>match z with
 | .bl t=>if t=true then (mc σ h3).bind fun w h4=>(g' y w h4).ne else .ok (.bl false) h3
 | _=>.bad:=rfl
def tw(neg:Bool)(x y:PV)(h:MH):Out PV:=match aX h y with
 | some ys=>(match rd 60 h x,bR (rd 60 h) ys with
  | some d,some ds=>if d.canLay0=true/\PyData.canLayAll0 ds=true then .ok (.bl (if neg then !ds.any (fun e=>PyData.eqv e d) else ds.any (fun e=>PyData.eqv e d))) h else .bad
  | _,_=>.bad)
 | none=>.bad
def og:∀{ds:List PyData},PyData.canLayAll0 ds=true->∀d∈ds,d.canLay0=true
 | [],_,d,hd=>nomatch hd
 | e::ds,h,d,hd=>by
  simp only[PyData.canLayAll0,qaO] at h;rcases qak.mp hd with rfl|hd
  ·exact h.1
  ·exact og h.2 d hd
def ql(hf:∀u d as,Reads hp u d as->fq u=PyData.eqv d dx):∀{us:List Value} {ds:List PyData} {as:List Addr},ReadsAll hp us ds as->us.any fq=ds.any fun e=>PyData.eqv e dx
 | _,_,_,.nil=>rfl
 | _,_,_,.cons r t=>by rw[qcR,qcR,hf _ _ _ r,ql hf t]
def qi:∀{us:List Value} {ds:List PyData} {as:List Addr},ReadsAll hp us ds as->∀u∈us,∃d as',d∈ds/\Reads hp u d as'
 | _,_,_,.nil,u,h=>nomatch h
 | _,_,_,.cons r t,u,h=>by
  rcases qak.mp h with rfl|h
  ·exact⟨_,_,qax,r⟩
  ·obtain⟨d,as',hd,hr⟩:=qi t u h;exact⟨d,as',qae _ hd,hr⟩
def fq(hp:Heap)(dx:PyData)(u:Value):Bool:=if z:∃d as,Reads hp u d as then PyData.eqv z.choose dx else false
def fq_is(r:Reads hp u d as):fq hp dx u=PyData.eqv d dx:=by
 have z:∃d as,Reads hp u d as:=⟨d,as,r⟩;unfold fq;rw[dif_pos z];obtain⟨as',h'⟩:=z.choose_spec;rw[<-(Reads.unique r _ _ h').1]
def oj_in(hr:Room k X.A)(neg:Bool):OpJ X (compareOp (if neg then .NotIn else .In)) (tw neg):=by
 intro HM s σ H x' y' u v Q I rx' ry' ⟨ρ,h,x,y,rh,rx,ry,q⟩;unfold tw at q
 cases es:aX h y with
 | none=>rw[es] at q;exact q.elim
 | some ys =>
  rw[es] at q;dsimp only at q;obtain⟨a,zs,rfl,hsq,rzs⟩:=eZ rh ry es
  cases ex:rd 60 h x with
  | none=>rw[ex] at q;exact q.elim
  | some dx =>
   rw[ex] at q
   cases ed:bR (rd 60 h) ys with
   | none=>rw[ed] at q;exact q.elim
   | some ds =>
    rw[ed] at q;dsimp only at q;by_cases hl:dx.canLay0=true/\PyData.canLayAll0 ds=true
    ·rw[qah hl] at q;cases ry';obtain⟨_,rX⟩:=eP I rh 60 x x' u dx rx rx' ex;have hdp:=(sZ 60 x dx ex).1;have eqs:∀(its:List Value),ar zs its->(∀w∈its,SeqAt.EqAt X.A.in1 s w u (fq s.heap dx w))/\its.any (fq s.heap dx)=ds.any fun e=>PyData.eqv e dx:=fun its rv=>by
      obtain⟨as,RA⟩:=fc (fun v v' u d r1 r2 e=>eP I rh 60 v v' u d r1 r2 e) rzs rv ed;refine⟨fun w hw=>?_,ql (fun u d as r=>fq_is r) RA⟩;obtain⟨d,as',hd,hrd⟩:=qi RA w hw;rw[fq_is hrd];refine SeqAt.eqAt_reads d dx X.A.in1 s w u _ _ hrd rX (og hl.2 d hd) hl.1 ?_
      have:=hr.un
      show X.A.units+1+_<_;lia
     cases neg with
     | false =>
      rcases hsq with hq|hq
      ·obtain⟨its,rv,pl,hz⟩:=I.list hq;obtain⟨h1,h2⟩:=eqs its rv;refine SeqAt.in_listAt (fq s.heap dx) pl.isList (fun w hw=>h1 w (by simpa using hw)) ⟨.bl _,H,I,rfl,?_⟩;rw[show its.toArray.any (fq s.heap dx)=its.any (fq s.heap dx) by simp,h2];exact q ρ H _ (Le.refl _ _) rh (.bl _)
      ·obtain⟨its,rv,pl,hz⟩:=I.tuple hq;obtain⟨h1,h2⟩:=eqs its rv;refine SeqAt.in_tupleAt (fq s.heap dx) pl (fun w hw=>h1 w (by simpa using hw)) ⟨.bl _,H,I,rfl,?_⟩;rw[show its.toArray.any (fq s.heap dx)=its.any (fq s.heap dx) by simp,h2];exact q ρ H _ (Le.refl _ _) rh (.bl _)
     | true =>
      rcases hsq with hq|hq
      ·obtain⟨its,rv,pl,hz⟩:=I.list hq;obtain⟨h1,h2⟩:=eqs its rv;refine SeqAt.notIn_listAt (fq s.heap dx) pl.isList (fun w hw=>h1 w (by simpa using hw)) ⟨.bl _,H,I,rfl,?_⟩;rw[show its.toArray.any (fq s.heap dx)=its.any (fq s.heap dx) by simp,h2];exact q ρ H _ (Le.refl _ _) rh (.bl _)
      ·obtain⟨its,rv,pl,hz⟩:=I.tuple hq;obtain⟨h1,h2⟩:=eqs its rv;refine SeqAt.notIn_tupleAt (fq s.heap dx) pl (fun w hw=>h1 w (by simpa using hw)) ⟨.bl _,H,I,rfl,?_⟩;rw[show its.toArray.any (fq s.heap dx)=its.any (fq s.heap dx) by simp,h2];exact q ρ H _ (Le.refl _ _) rh (.bl _)
    ·rw[qan hl] at q;exact q.elim
def fList(xs:List PV)(h:MH):Out PV:=match xs with
 | [x]=>(match aX h x with
  | some ys=>newL ys h
  | none=>.bad)
 | _=>.bad
def fTuple(xs:List PV)(h:MH):Out PV:=match xs with
 | [x]=>(match aX h x with
  | some ys=>.ok (.tup ys) h
  | none=>.bad)
 | _=>.bad
def pj:cp X (.type "list") fList:=by
 intro HM s σ H xs us Q I r ⟨ρ,h,ps,rh,rp,q⟩
 cases rp with
 | nil=>exact q.elim
 | cons r1 t1 =>
  cases t1 with
  | cons _ _=>exact q.elim
  | nil =>
   rename_i x y
   unfold fList at q
   cases es:aX h x with
   | none=>simp only[es] at q;exact q.elim
   | some ys =>
    simp only[es] at q;obtain⟨a,zs,rfl,hsq,rzs⟩:=eZ rh r1 es;obtain⟨_,q'⟩:=kQ rh rzs q;exact tf HM s σ H _ us Q I r ⟨a,zs,rfl,hsq,q'⟩
def dj:cp X (.type "tuple") fTuple:=by
 intro HM s σ H xs us Q I r ⟨ρ,h,ps,rh,rp,q⟩
 cases rp with
 | nil=>exact q.elim
 | cons r1 t1 =>
  cases t1 with
  | cons _ _=>exact q.elim
  | nil =>
   rename_i x y
   unfold fTuple at q
   cases es:aX h x with
   | none=>simp only[es] at q;exact q.elim
   | some ys =>
    simp only[es] at q;obtain⟨a,zs,rfl,hsq,rzs⟩:=eZ rh r1 es;rcases hsq with hq|hq
    ·refine jR HM s σ H _ us Q I r ⟨a,zs,rfl,.inl ⟨hq,fun l hl=>?_⟩⟩;obtain⟨r',l'⟩:=rh.tup hl zs;exact q ρ _ _ l' r' (.tup (SqT.of bB) (rzs.le l'))
    ·exact jR HM s σ H _ us Q I r ⟨a,zs,rfl,.inr ⟨hq,q ρ H _ (Le.refl _ _) rh (.tup hq rzs)⟩⟩
end
section
variable {X:Cx} {N W G:List Str} {k:Nat}
def mh{A:Around}{E:Value->Shared->Prop}{HM:List (Addr × Obj)}{σ:L2.St}{H:Hp}{s:Shared}{a:Addr}{ys:List V}{Q:Value->Shared->Prop}(hh:A.handled=none)(I:Inv X HM σ H s)(hq:SqL X.K H a ys\/SqT X.K H a ys)
  (h:∀(its:List Value) (h2:Heap) (It:Addr) (St:Nat->Heap->Prop),ar ys its->Walks X.prog X.w A It [It,a] [It] its.toArray.size (fun i v=>its.toArray[i]?=some v) St->St 0 h2->(∀b∈[It,a],b<h2.objs.size)->(∀b o,s.heap.get? b=some o->h2.get? b=some o)->s.heap.objs.size=It->Q (.ref It) { s with heap:=h2}) :
  wpAny (model X.prog X.w) A (pyIter (.ref a)) Q E s:=by
 have sz:∀(o:Obj),a<s.heap.objs.size->∀b∈[s.heap.objs.size,a],b<(s.heap.push o).objs.size:=fun o hlt b hb=>by
  rw[qbb];rcases qak.mp hb with rfl|hb
  ·exact qbL _
  ·rcases qak.mp hb with rfl|hb
   ·exact qbH hlt
   ·cases hb
 rcases hq with hq|hq
 ·obtain⟨its,rv,pl,_⟩:=I.list hq;have hl:=pl.isList;have hlt:a<s.heap.objs.size:=by obtain⟨_,e,_⟩:=hl;exact qal e
  exact wpAny_pyIter_list hl (h its _ _ _ rv (Walks.list hh _ a (qaF hlt) its.toArray) ⟨⟨_,qap _ rfl,rfl,rfl⟩,hl.push _⟩ (sz _ hlt) (fun b o e=>qab _ e) rfl)
 ·obtain⟨its,rv,hl,_⟩:=I.tuple hq;have hlt:a<s.heap.objs.size:=by obtain⟨_,e,_⟩:=hl;exact qal e
  exact wpAny_pyIter_tuple hl (h its _ _ _ rv (Walks.tuple hh _ a (qaF hlt) its.toArray) ⟨⟨_,qap _ rfl,rfl,rfl⟩,hl.push _⟩ (sz _ hlt) (fun b o e=>qab _ e) rfl)
def vY{s:Shared}{h2 h':Heap}{It:Addr}(k1:∀b o,s.heap.get? b=some o->h2.get? b=some o)(e:s.heap.objs.size=It)(k2:∀b o,b∉[It]->h2.get? b=some o->h'.get? b=some o):∀b o,s.heap.get? b=some o->h'.get? b=some o:=fun b o q=>by
 refine k2 b o (fun hm=>?_) (k1 b o q)
 have:b=It:=by simpa using hm
 exact absurd (qal q) (by rw[this,e];exact qbc _)
def i7:List PV->Option (List Bool)
 | []=>some []
 | .bl b::r=>(i7 r).map (b::·)
 | _=>none
def fi:List PV->Option (List Int)
 | []=>some []
 | .int i::r=>(fi r).map (i::·)
 | _=>none
def bls_rel{K:qac}{ρ:List Addr}{H:Hp}:∀{xs:List PV} {ys:List V} {bs:List Bool} {us:List Value},RPs K ρ H xs ys->ar ys us->i7 xs=some bs->us=bs.map Value.bool:=by
 intro xs
 induction xs with
 | nil=>intro ys bs us r v e;cases r;cases v;cases e;rfl
 | cons x xs ih =>
  intro ys bs us r v e
  cases r with
  | cons r1 r2 =>
   cases v with
   | cons v1 v2 =>
    cases r1 with
    | bl b =>
     simp only[i7,qat] at e;obtain⟨bs',e',rfl⟩:=e;rw[ih r2 v2 e',show _=Value.bool b from v1];rfl
    | _=>cases e
def sj{K:qac}{ρ:List Addr}{H:Hp}:∀{xs:List PV} {ys:List V} {is:List Int} {us:List Value},RPs K ρ H xs ys->ar ys us->fi xs=some is->us.length=is.length/\∀(i:Nat) (u:Value),us[i]?=some u->∃t,u=.int (is.getD i 0) t:=by
 intro xs
 induction xs with
 | nil=>intro ys is us r v e;cases r;cases v;cases e;exact⟨rfl,fun i u h=>by simp at h⟩
 | cons x xs ih =>
  intro ys is us r v e
  cases r with
  | cons r1 r2 =>
   cases v with
   | cons v1 v2 =>
    cases r1 with
    | int b =>
     simp only[fi,qat] at e;obtain⟨is',e',rfl⟩:=e;obtain⟨a,b'⟩:=ih r2 v2 e';obtain⟨t0,rfl⟩:=v1;refine⟨by simp[a],fun i u h=>?_⟩
     cases i with
     | zero=>simp at h;exact⟨t0,by rw[<-h];rfl⟩
     | succ i=>obtain⟨t,e⟩:=b' i u (by simpa using h);exact⟨t,by rw[e];simp⟩
    | _=>cases e
def t7(bs:List Bool):TruthOf X.prog X.w A (fun i v=>(bs.map Value.bool).toArray[i]?=some v) (fun i=>bs.getD i false):=fun i v s Q E hP hQ=>by
 have:v=.bool (bs.getD i false):=by
  have hP:(List.map Value.bool bs).toArray[i]?=some v:=hP;rw[qbs,qaw,qat] at hP;obtain⟨b,e,rfl⟩:=hP;rw[List.getD_eq_getElem?_getD,e];rfl
 subst this;exact wpAny_truthy_bool hQ
def xp(bs:List Bool):(List.range bs.length).all (fun i=>bs.getD i false)=bs.all id:=by
 induction bs with
 | nil=>rfl
 | cons b r ih =>
  rw[qbj,qcH,qcy,List.all_map,qcy,<-ih];rfl
def fAll(xs:List PV)(h:MH):Out PV:=match xs with
 | [x]=>(match (aX h x).bind i7 with
  | some bs=>.ok (.bl (bs.all id)) h
  | none=>.bad)
 | _=>.bad
def nC(g:Good X N W G k):cp X (.builtin "all") fAll:=by
 intro HM s σ H xs us Q I r ⟨ρ,h,ps,rh,rp,q⟩
 cases rp with
 | nil=>exact q.elim
 | cons r1 t1 =>
  cases t1 with
  | cons _ _=>exact q.elim
  | nil =>
   rename_i x y
   unfold fAll at q
   cases es:(aX h x).bind i7 with
   | none=>simp only[es] at q;exact q.elim
   | some bs =>
    simp only[es] at q;obtain⟨ys,e1,e2⟩:=qaH.mp es;obtain⟨a,zs,rfl,hsq,rzs⟩:=eZ rh r1 e1
    cases r with
    | cons ru tu =>
     cases tu;cases ru;refine call_all_walk (mh (A:=X.A.in1) g.room.hd I hsq fun its h2 It St rv Wk st fp kp esz=>?_);have ei:=bls_rel rzs rv e2;refine⟨It,_,_,_,_,St,_,rfl,Wk,st,by rw[ei];exact t7 bs,fun h' tk kk=>?_⟩;have el:its.toArray.size=bs.length:=by rw[ei];simp
     rw[el,xp];exact⟨.bl _,H,I.kept (vY kp esz kk),rfl,q ρ H _ (Le.refl _ _) rh (.bl _)⟩
def lq(b:Nat->Nat->Bool)(is:List Int):Int:=is.getD (argBest b (is.length - 1)) 0
def fMaxS(xs:List PV)(h:MH):Out PV:=match xs with
 | [x]=>(match (aX h x).bind fi with
  | some is=>if 0<is.length then .ok (.int (lq (fun i j=>decide (is.getD i 0>is.getD j 0)) is)) h else .bad
  | none=>.bad)
 | [.int i,.int j]=>.ok (.int (if j>i then j else i)) h
 | _=>.bad
def fMinS(xs:List PV)(h:MH):Out PV:=match xs with
 | [x]=>(match (aX h x).bind fi with
  | some is=>if 0<is.length then .ok (.int (lq (fun i j=>decide (is.getD i 0<is.getD j 0)) is)) h else .bad
  | none=>.bad)
 | [.int i,.int j]=>.ok (.int (if j<i then j else i)) h
 | _=>.bad
def cj_maxS(g:Good X N W G k):cp X (.builtin "max") fMaxS:=by
 intro HM s σ H xs us Q I r ⟨ρ,h,ps,rh,rp,q⟩;unfold fMaxS at q
 split at q
 ·rename_i x
  cases rp with
  | cons r1 t1 =>
  cases t1
  cases es:(aX h x).bind fi with
  | none=>simp only[es] at q;exact q.elim
  | some is =>
   simp only[es] at q;by_cases hn:0<is.length
   ·rw[qah hn] at q;obtain⟨ys,e1,e2⟩:=qaH.mp es;obtain⟨a,zs,rfl,hsq,rzs⟩:=eZ rh r1 e1
    cases r with
    | cons ru tu =>
     cases tu;cases ru;refine call_max_walk (mh (A:=X.A.in1) g.room.hd I hsq fun its h2 It St rv Wk st fp kp esz=>?_);obtain⟨el,ei⟩:=sj rzs rv e2;have el':its.toArray.size=is.length:=by rw[qaq];exact el
     refine⟨It,_,_,_,_,St,_,rfl,Wk,st,fp,by rw[el'];exact hn,CmpOf.ints_gt (fun i=>is.getD i 0) (fun i v hv=>ei i v (by simpa using hv)),fun v h' tk hP kk=>?_⟩;have hP':its.toArray[argBest _ (its.toArray.size - 1)]?=some v:=hP;rw[el',qbs] at hP';obtain⟨t,rfl⟩:=ei _ v hP';exact⟨.int _,H,I.kept (vY kp esz kk),⟨t,rfl⟩,q ρ H _ (Le.refl _ _) rh (.int _)⟩
   ·rw[qan hn] at q;exact q.elim
 ·cases rp with
  | cons r1 t1 =>
   cases t1 with
   | cons r2 t2 =>
    cases t2;cases r1;cases r2;exact pE g.calm HM s σ H _ us Q I r ⟨_,_,rfl,q ρ H _ (Le.refl _ _) rh (.int _)⟩
 ·exact q.elim
def cj_minS(g:Good X N W G k):cp X (.builtin "min") fMinS:=by
 intro HM s σ H xs us Q I r ⟨ρ,h,ps,rh,rp,q⟩;unfold fMinS at q
 split at q
 ·rename_i x
  cases rp with
  | cons r1 t1 =>
  cases t1
  cases es:(aX h x).bind fi with
  | none=>simp only[es] at q;exact q.elim
  | some is =>
   simp only[es] at q;by_cases hn:0<is.length
   ·rw[qah hn] at q;obtain⟨ys,e1,e2⟩:=qaH.mp es;obtain⟨a,zs,rfl,hsq,rzs⟩:=eZ rh r1 e1
    cases r with
    | cons ru tu =>
     cases tu;cases ru;refine call_min_walk (mh (A:=X.A.in1) g.room.hd I hsq fun its h2 It St rv Wk st fp kp esz=>?_);obtain⟨el,ei⟩:=sj rzs rv e2;have el':its.toArray.size=is.length:=by rw[qaq];exact el
     refine⟨It,_,_,_,_,St,_,rfl,Wk,st,fp,by rw[el'];exact hn,CmpOf.ints_lt (fun i=>is.getD i 0) (fun i v hv=>ei i v (by simpa using hv)),fun v h' tk hP kk=>?_⟩;have hP':its.toArray[argBest _ (its.toArray.size - 1)]?=some v:=hP;rw[el',qbs] at hP';obtain⟨t,rfl⟩:=ei _ v hP';exact⟨.int _,H,I.kept (vY kp esz kk),⟨t,rfl⟩,q ρ H _ (Le.refl _ _) rh (.int _)⟩
   ·rw[qan hn] at q;exact q.elim
 ·cases rp with
  | cons r1 t1 =>
   cases t1 with
   | cons r2 t2 =>
    cases t2;cases r1;cases r2;exact pD g.calm HM s σ H _ us Q I r ⟨_,_,rfl,q ρ H _ (Le.refl _ _) rh (.int _)⟩
 ·exact q.elim
end
def RH.loose{K:qac}{mg:MGl}{ρ:List Addr}{H:Hp}{h:MH}(r:RH K mg ρ H h){p:Addr}(hp:H p=none)(ho:HO):RH K mg ρ (upd H p ho) h/\Le ρ H ρ (upd H p ho):=by
 have hne:∀n a,ρ[n]?=some a->a≠p:=fun n a e z=>by
  obtain⟨o',_,q⟩:=r.obj e;rw[z,hp] at q;exact q.some rfl
 have l:Le ρ H ρ (upd H p ho):=⟨⟨[],by simp⟩,fun a xs e=>by rw[aQ (bp e hp)];exact e,fun a ob u e=>by rw[aQ (bp e hp)];exact e⟩;exact⟨⟨r.len,r.nd,fun n a o e1 e2=>by rw[aQ (hne n a e1)];exact (r.at' n a o e1 e2).le l⟩,l⟩
section
variable {X:Cx} {N W G:List Str} {k:Nat}
def kg(xs:List PV)(i:Int)(v:PV):List PV :=
 let k:=if i<0 then (i+(xs.length:Int)).toNat else min i.toNat xs.length
 xs.take k++v::xs.drop k
def iP(n:Nat)(vs:List PV)(h:MH):Out PV:=match vs with
 | [.int i,v]=>(match h[n]? with
  | some (.lst xs)=>if (-(2 ^ 63)<=i/\i<2 ^ 63)/\xs.length<sizeLine then .ok .non (h.set n (.lst (kg xs i v))) else .bad
  | _=>.bad)
 | _=>.bad
def w9:MtR X "list.insert" (mtJ X iP):=by
 intro HM s σ H x vs v us Q I rx rv ⟨ρ,h,n,a,ps,e,en,rh,rp,q⟩;subst e;obtain⟨o,eo,ro⟩:=rh.obj en;unfold iP at q
 split at q
 ·rename_i i vv
  cases rp with
  | cons r1 t1 =>
   cases t1 with
   | cons r2 t2 =>
    cases t2;cases r1;rw[eo] at q
    cases o with
    | lst xs =>
     dsimp only at q;by_cases hl:(-(2 ^ 63)<=i/\i<2 ^ 63)/\xs.length<sizeLine
     ·rw[qah hl] at q;obtain⟨ys,ey,ry⟩:=ro;cases rx
      cases rv with
      | cons rv1 tv1=>cases tv1 with
       | cons rv2 tv2 =>
        cases tv2
        rename_i v' u1 u2
        obtain⟨t,rfl⟩:=rv1;obtain⟨z,its,nn,r,hlen,e⟩:=I.lstM ey
        let kk:=if i<0 then (i+(its.length:Int)).toNat else min i.toNat its.length
        have rel:RPs X.K ρ H (kg xs i vv) (ys.take kk++v'::ys.drop kk):=by
         have:(if i<0 then (i+(xs.length:Int)).toNat else min i.toNat xs.length)=kk:=by
          show _=(if i<0 then (i+(its.length:Int)).toNat else min i.toNat its.length);rw[ry.length,hlen]
         unfold kg;rw[this];exact (ry.take kk).append (.cons r2 (ry.drop kk))
        obtain⟨rh',l'⟩:=rh.put en (o:=.lst (kg xs i vv)) (ho:=.lst (ys.take kk++v'::ys.drop kk)) ⟨_,rfl,rel⟩;refine call_meets PySem.F.slot_list_insert ⟨_,e,rfl⟩ PySem.F.entry_list_insert (PySem.F.args_list_insert_3 _ _ _) (AutoListH.list_insert_list_int_val_1 a its.toArray nn i t u2 (by rw[fitsIndex_both hl.1.1 hl.1.2];simp) (by rw[qaq];ext)) ⟨e,?_⟩;have vals:ar (ys.take kk++v'::ys.drop kk) (its.take kk++u2::its.drop kk):=(r.take kk).append (.cons rv2 (r.drop kk));have hlz:(ys.take kk++v'::ys.drop kk).length<=sizeLine:=by
         rw[<-rel.length];have e1:(kg xs i vv).length=xs.length+1:=by
          unfold kg;simp only[qaQ,qbj,qch,List.length_drop];ext
         ext
        refine⟨.non,_,I.lset (its':=its.take kk++u2::its.drop kk) ey e ?_ vals hlz,rfl,q ρ _ .non l' rh' .non⟩;apply Array.ext';simp only[qaZ,qbe,qbE,qaq];simp[kk,List.extract];refine qbQ ?_;rw[List.length_drop];exact qai _
     ·rw[qan hl] at q;exact q.elim
    | _=>exact q.elim
 ·exact q.elim
def ll(g:Good X N W G k){a:Expr}{m:Mx PV}{T T':String}{c c':Str}{i j j':Nat}{p q q' pos pt:Pos}{kt}(hi:G[i]?=some "isinstance")(hm:X.mg "isinstance"=none)(hj:G[j]?=some c)(hc:X.mg c=none)(hv:bootBuiltins c=some (.type T))(hT:okT T)
  (hj':G[j']?=some c') (hc':X.mg c'=none) (hv':bootBuiltins c'=some (.type T')) (hT':okT T') (ha:ME X a m)
  (he:starEach [a,.Tuple [.Name c q,.Name c' q'] kt pt] X.env=(false,eval a X.env)::starEach [.Tuple [.Name c q,.Name c' q'] kt pt] X.env:=by rfl) (he2:starEach [.Tuple [.Name c q,.Name c' q'] kt pt] X.env=[(false,eval (.Tuple [.Name c q,.Name c' q'] kt pt) X.env)]:=by rfl) (hpl:(backTo pos (starEach [.Tuple [.Name c q,.Name c' q'] kt pt] X.env)).any (·.1)=false:=by rfl)
  (ht1:starEach [.Name c q,.Name c' q'] X.env=(false,eval (.Name c q) X.env)::starEach [.Name c' q'] X.env:=by rfl) (ht2:starEach [.Name c' q'] X.env=[(false,eval (.Name c' q') X.env)]:=by rfl) :
  ME X (.Call (.Name "isinstance" p) [a,.Tuple [.Name c q,.Name c' q'] kt pt] [] pos) (mUn (bw [T,T']) m):=by
 have d1:=g.dbg _ (qaj _ (az hi));have d:=g.dbg c (qaj _ (az hj));have d':=g.dbg c' (qaj _ (az hj'));have hcall:bQ X (.builtin "isinstance") (fun xs H Q=>∃x' tp,xs=[x',.ref tp]/\SqT X.K H tp [.ty T,.ty T']/\uJ X (bw [T,T']) x' H Q):=by
  intro HM s σ H xs us Q I r ⟨x',tp,e,hsq,ρ,h,x,rh,rx,q⟩;subst e
  cases r with
  | cons r1 t1=>cases t1 with
   | cons r2 t2 =>
    cases t2;cases r2;obtain⟨its,rv,ht,_⟩:=I.tuple hsq;have ei:its=[.type T,.type T']:=by
     cases rv with
     | cons v1 w1=>cases w1 with
      | cons v2 w2 =>
       cases w2;rw[show _=Value.type T from v1,show _=Value.type T' from v2]
    subst ei;obtain⟨⟨oc,od,odt,osl⟩,ho,hoc,nn,hod⟩:=ht;dsimp only at hoc hod;subst hoc;subst hod;unfold bw at q
    cases et:tyP h x with
    | none=>rw[et] at q;exact q.elim
    | some t =>
     rw[et] at q;obtain⟨htm,hne,Hq,Z,hz⟩:=u3 I rh rx r1 et;have hany:PySem.W.kitAny X.K (.type t) [.type T,.type T']=some (ba t T || ba t T'):=by
      unfold PySem.W.kitAny;rw[hT X.K t htm]
      cases ba t T with
      | true=>rfl
      | false =>
       unfold PySem.W.kitAny;rw[hT' X.K t htm];cases ba t T' <;> rfl
     exact PySem.W.kia_tup Z I.kIn hz ho hany hne fun tk=>⟨.bl _,H,I.tok _,rfl,by
      have q':=q ρ H _ (Le.refl _ _) rh (.bl _)
      simpa using q'⟩
 refine PE.imp (gQ hcall (g.gl _ (az hi)) hm PyProof.Rows.Boot.«isinstance» (cO ha (cO (yA (cO (pe (v:=.ty T) (u:=.type T) (g.gl c (az hj)) hc hv rfl d.2.2 d.1) (cO (pe (v:=.ty T') (u:=.type T') (g.gl c' (az hj')) hc' hv' rfl d'.2.2 d'.1) g0 ht2) ht1)) g0 he2) he) d1.2.2 d1.1 he hpl) fun σ H Q ⟨ρ,σp,h,rs,rh,q⟩=>?_;refine⟨ρ,σp,h,rs,rh,Ful.bind q fun ρ1 H1 x x' h1 _ l1 rh1 rx q1=>?_⟩;refine⟨by show 2<=sizeLine;decide,fun tp htp=>?_⟩;obtain⟨rh2,l2⟩:=rh1.tup htp [.ty T,.ty T'];exact⟨x',tp,rfl,SqT.of bB,ρ1,h1,x,rh2,rx.le l2,(Ful.le l2 q1).zero⟩
def me_glI(g:Good X N W G k){x:Str}{j:Nat}{i:Int}{pos:Pos}(hj:G[j]?=some x)(hm:∃t,X.mg x=some (.int i t)):ME X (.Name x pos) (mC (.int i)):=by
 obtain⟨t,hm⟩:=hm;have d:=g.dbg x (qaj _ (az hj));exact PE.imp (uC (v:=.int i) (g.gl x (az hj)) hm ⟨t,rfl⟩ d.1) fun σ H Q ⟨ρ,σp,h,rs,rh,q⟩=>q ρ H _ (Le.refl _ _) rh (.int _)
end
end MM
namespace SetT
open PySem PySem.SetTable
def dU(xs:Array Nat):Prop:=∀a b u v:Nat,a<b->xs[a]?=some u->xs[b]?=some v->u<v
def zr(xs:Array Nat)(j:Nat)(hr:dU xs):∀fuel lo hi:Nat,hi - lo<=fuel->lo<=hi->hi<=xs.size ->
  (∀a v,xs[a]?=some v->a<lo->v<j)->(∀a v,xs[a]?=some v->hi<=a->j<=v) ->
  below.go xs j fuel lo hi<=xs.size/\(∀a v,xs[a]?=some v->a<below.go xs j fuel lo hi->v<j) /\
   (∀a v,xs[a]?=some v->below.go xs j fuel lo hi<=a->j<=v):=by
 intro fuel
 induction fuel with
 | zero =>
  intro lo hi h1 h2 h3 h4 h5
  have:lo=hi:=by lia
  subst this;exact⟨h3,h4,h5⟩
 | succ f ih =>
  intro lo hi h1 h2 h3 h4 h5;unfold below.go;by_cases hlt:lo<hi
  ·simp only[hlt,if_true];have hm:(lo+hi) / 2<xs.size:=by lia
   have hg:xs[(lo+hi) / 2]?=some (xs[(lo+hi)/2]'hm):=qbi hm;have hd:xs.getD ((lo+hi) / 2) j=xs[(lo+hi)/2]'hm:=by simp[Array.getD,hm]
   rw[hd];by_cases hc:xs[(lo+hi)/2]'hm<j
   ·simp only[hc,if_true];apply ih
    ·lia
    ·lia
    ·lia
    ·intro a v ha hlt';by_cases he:a=(lo+hi) / 2
     ·subst he;rw[hg] at ha;cases ha;exact hc
     ·have:=hr a ((lo+hi)/2) v _ (by lia) ha hg;lia
    ·exact h5
   ·simp only[hc,if_false];apply ih
    ·lia
    ·lia
    ·lia
    ·exact h4
    ·intro a v ha hle;by_cases he:a=(lo+hi) / 2
     ·subst he;rw[hg] at ha;cases ha;lia
     ·have:=hr ((lo+hi)/2) a _ v (by lia) hg ha;lia
  ·simp only[hlt,if_false]
   have:lo=hi:=by lia
   subst this;exact⟨h3,h4,h5⟩
def dy(xs:Array Nat)(j:Nat)(hr:dU xs) :
  below xs j<=xs.size/\(∀a v,xs[a]?=some v->a<below xs j->v<j)/\(∀a v,xs[a]?=some v->below xs j<=a->j<=v):=by
 unfold below;apply zr xs j hr
 ·lia
 ·lia
 ·lia
 ·intro a v _ h;lia
 ·intro a v ha h
  have:=qbx h
  rw[this] at ha;cases ha
def gX(xs:Array Nat)(i j:Nat)(hr:dU xs)(h:xs[i]?=some j):below xs j=i:=by
 obtain⟨_,h2,h3⟩:=dy xs j hr;by_cases h4:i<below xs j
 ·have:=h2 i j h h4;lia
 ·by_cases h5:below xs j=i
  ·exact h5
  ·have hlt:below xs j<i:=by lia
   have hs:i<xs.size:=by
    by_cases h6:i<xs.size
    ·exact h6
    ·rw[qbx (by lia)] at h;cases h
   have hg:xs[below xs j]?=some (xs[below xs j]'(by lia)):=qbi (by lia);have h7:=hr _ i _ j hlt hg h;have h8:=h3 _ _ hg (qai _);lia
def Occ(pl:Array Nat)(s:Nat):Prop:=∃i:Nat,pl[i]?=some s
def u6(j:Nat):has (#[]:Array Nat) j=false:=by
 unfold has;simp
def pP(t:SetTable)(hr:dU t.place)(i s:Nat)(h:t.place[i]?=some s):t.slot s=.live i:=by
 unfold SetTable.slot;simp only[gX t.place i s hr h,h];simp
def vT(t:SetTable)(hd:t.dummies=#[])(s:Nat)(h:¬Occ t.place s):t.slot s=.empty:=by
 unfold SetTable.slot;simp only[hd,u6];split
 ·rename_i h1
  exact absurd ⟨_,by simpa using h1⟩ h
 ·simp
def bY(xs:Array α)(p:Nat)(x:α)(hp:p<=xs.size)(i:Nat) :
  (insertAt xs p x)[i]?=if i<p then xs[i]? else if i=p then some x else xs[i - 1]?:=by
 unfold insertAt;have e1:(xs.extract 0 p).size=p:=by simp;lia
 rw[Array.getElem?_append];simp only[qbt,e1];split
 ·rename_i h1
  rw[Array.getElem?_push];simp only[e1];split
  ·rename_i h2;subst h2;simp
  ·rename_i h2
   have:i<p:=by lia
   simp only[this,if_true];rw[qby];simp;lia
 ·rename_i h1
  have h2:¬i<p:=by lia
  have h3:¬i=p:=by lia
  simp only[h2,h3,if_false];rw[qby];have e2:p+(i - (p+1))=i - 1:=by lia
  simp only[e2];split
  ·rfl
  ·rename_i h4
   rw[qbx];simp at h4;lia
def cI(xs:Array α)(p:Nat)(x:α)(hp:p<=xs.size):(insertAt xs p x).size=xs.size+1:=by
 unfold insertAt;simp;lia
def rA(f:α->β)(xs:Array α)(p:Nat)(x:α):(insertAt xs p x).map f=insertAt (xs.map f) p (f x):=by
 unfold insertAt;simp[Array.map_append,Array.map_push,Array.map_extract]
def mW(x M:Nat):x % (M+1)<=M:=Nat.le_of_lt_succ (Nat.mod_lt x (Nat.succ_pos M))
def adv(M:Nat)(p:Probe):Probe :=
 if p.more>0 then { p with j:=p.j+1,more:=p.more - 1} else
 { p with j:=(leap M p.i p.perturb).1,more:=runEnd M (leap M p.i p.perturb).1 - (leap M p.i p.perturb).1,i:=(leap M p.i p.perturb).1,perturb:=(leap M p.i p.perturb).2}
def wk(t:SetTable)(p:Probe):t.advance p=adv t.mask p:=by
 unfold SetTable.advance adv;rfl
def st0(M:Nat)(h:Int):Probe:={ j:=bits h % (M+1),more:=runEnd M (bits h % (M+1)) - bits h % (M+1),i:=bits h % (M+1),perturb:=bits h,dummy:=none}
def st(M:Nat)(h:Int):Nat->Probe
 | 0=>st0 M h
 | n+1=>adv M (st M h n)
def sl(M:Nat)(h:Int)(n:Nat):Nat:=(st M h n).j
def fE(M i:Nat)(h:i<=M):i<=runEnd M i/\runEnd M i<=M/\runEnd M i - i<=9:=by
 unfold runEnd;split <;> lia
def xE(M:Nat)(h:Int)(n:Nat):(st M h n).i<=M/\(st M h n).j+(st M h n).more=runEnd M (st M h n).i/\(st M h n).dummy=none:=by
 induction n with
 | zero =>
  have hi:bits h % (M+1)<=M:=mW _ _
  have:=fE M _ hi
  refine⟨hi,?_,rfl⟩;show bits h % (M+1)+(runEnd M (bits h % (M+1)) - bits h % (M+1))=runEnd M (bits h % (M+1));lia
 | succ n ih =>
  show (adv M (st M h n)).i<=M/\(adv M (st M h n)).j+(adv M (st M h n)).more=runEnd M (adv M (st M h n)).i/\(adv M (st M h n)).dummy=none;unfold adv;split
  ·refine⟨ih.1,?_,ih.2.2⟩
   have:=ih.2.1
   show (st M h n).j+1+((st M h n).more - 1)=runEnd M (st M h n).i;lia
  ·have hi:(leap M (st M h n).i (st M h n).perturb).1<=M:=mW _ _
   have:=fE M _ hi
   refine⟨hi,?_,ih.2.2⟩;show (leap M (st M h n).i (st M h n).perturb).1+(runEnd M (leap M (st M h n).i (st M h n).perturb).1 - (leap M (st M h n).i (st M h n).perturb).1)=runEnd M (leap M (st M h n).i (st M h n).perturb).1;lia
def sl_le(M:Nat)(h:Int)(n:Nat):sl M h n<=M:=by
 have:=xE M h n
 have h2:=fE M _ this.1;unfold sl;lia
def base(M:Nat)(h:Int):Nat->Nat × Nat
 | 0=>(bits h % (M+1),bits h)
 | b+1=>leap M (base M h b).1 (base M h b).2
def pg(M:Nat)(h:Int)(b:Nat):(base M h b).1<=M:=by
 cases b with
 | zero=>exact mW _ _
 | succ b =>
  exact mW _ _
def tb(M:Nat)(h:Int):Nat->Nat
 | 0=>0
 | b+1=>tb M h b+(runEnd M (base M h b).1 - (base M h b).1)+1
def tb_le(M:Nat)(h:Int)(b:Nat):tb M h b<=10 * b:=by
 induction b with
 | zero=>exact qai _
 | succ b ih =>
  have:=fE M _ (pg M h b)
  show tb M h b+(runEnd M (base M h b).1 - (base M h b).1)+1<=10 * (b+1);lia
def stB(M:Nat)(h:Int)(b k:Nat):Probe :=
 { j:=(base M h b).1+k,more:=runEnd M (base M h b).1 - (base M h b).1 - k,i:=(base M h b).1,perturb:=(base M h b).2,dummy:=none}
def sM(M:Nat)(h:Int)(b:Nat):∀k,k<=runEnd M (base M h b).1 - (base M h b).1->st M h (tb M h b+k)=stB M h b k:=by
 induction b with
 | zero =>
  intro k
  induction k with
  | zero=>intro _;rfl
  | succ k ih =>
   intro hk;show adv M (st M h (tb M h 0+k))=_;rw[ih (by lia)];unfold adv stB
   have:runEnd M (base M h 0).1 - (base M h 0).1 - k>0:=by lia
   simp only[this,if_true];simp only[Probe.mk.injEq,and_true];lia
 | succ b ihb =>
  intro k
  induction k with
  | zero =>
   intro _;show adv M (st M h (tb M h b+(runEnd M (base M h b).1 - (base M h b).1)))=_;rw[ihb _ (qai _)];unfold adv stB;simp;exact⟨rfl,rfl,rfl,rfl⟩
  | succ k ih =>
   intro hk;show adv M (st M h (tb M h (b+1)+k))=_;rw[ih (by lia)];unfold adv stB
   have:runEnd M (base M h (b+1)).1 - (base M h (b+1)).1 - k>0:=by lia
   simp only[this,if_true];simp only[Probe.mk.injEq,and_true];lia
def bits_lt(h:Int):bits h<2 ^ 64:=by
 unfold bits;have h1:0<=h % (2^64:Int):=qbT _ (by decide);have h2:h % (2^64:Int)<2^64:=qbD _ (by decide);lia
def yb(M:Nat)(h:Int):∀b,(base M h b).2=bits h / 32 ^ b:=by
 intro b
 induction b with
 | zero=>simp[base]
 | succ b ih =>
  show (base M h b).2 / 32=_;rw[ih,Nat.div_div_eq_div_mul,Nat.pow_succ]
def wC(M:Nat)(h:Int)(b:Nat)(hb:13<=b):(base M h b).2=0:=by
 rw[yb];apply Nat.div_eq_of_lt;have h1:=bits_lt h;have h2:32 ^ 13<=32 ^ b:=Nat.pow_le_pow_right (by decide) hb;have h3:(2:Nat)^64<32^13:=by decide
 lia
def lcg(M:Nat):Nat->Nat->Nat
 | 0,x=>x
 | n+1,x=>(lcg M n x * 5+1) % (M+1)
def zt(M:Nat)(h:Int)(n:Nat):(base M h (13+n)).1=lcg M n (base M h 13).1:=by
 induction n with
 | zero=>rfl
 | succ n ih =>
  show ((base M h (13+n)).1 * 5+1+(base M h (13+n)).2 / 32) % (M+1)=(lcg M n (base M h 13).1 * 5+1) % (M+1);rw[ih,wC M h (13+n) (by lia)]
def kR(M:Nat)(a b x:Nat):lcg M (a+b) x=lcg M a (lcg M b x):=by
 induction a with
 | zero=>simp[lcg]
 | succ a ih=>rw[Nat.succ_add];show (lcg M (a+b) x * 5+1) % (M+1)=(lcg M a (lcg M b x) * 5+1) % (M+1);rw[ih]
def orb(M:Nat):Nat->Nat->List Nat
 | 0,_=>[]
 | n+1,x=>x::orb M n ((x * 5+1) % (M+1))
def zV(M n x:Nat):lcg M n ((x * 5+1) % (M+1))=lcg M (n+1) x:=by
 have:=kR M n 1 x
 rw[this];rfl
def ve(M:Nat)(s:Nat):∀n x,s∈orb M n x->∃m,m<n/\lcg M m x=s:=by
 intro n
 induction n with
 | zero=>intro x h;cases h
 | succ n ih =>
  intro x h
  cases h with
  | head=>exact⟨0,by lia,rfl⟩
  | tail _ h =>
   obtain⟨m,hm,e⟩:=ih _ h;exact⟨m+1,by lia,by rw[<-e,zV]⟩
def eQ(M:Nat):Prop:=lcg M (M+1) 0=0/\∀s,s<=M->s∈orb M (M+1) 0
set_option maxRecDepth 100000 in
theorem full7:eQ 7:=⟨by decide,by
 have:∀s:Fin 8,(orb 7 8 0).contains s.val=true:=by decide
 intro s hs;have:=this ⟨s,by lia⟩;simpa using this⟩
set_option maxRecDepth 100000 in
theorem full31:eQ 31:=⟨by decide,by
 have:(List.range 32).all (fun s=>(orb 31 32 0).contains s)=true:=by decide
 intro s hs;have h2:=qbm.mp this s (by simp;lia)
 simpa using h2⟩
set_option maxRecDepth 100000 in
theorem full127:eQ 127:=⟨by decide,by
 have:(List.range 128).all (fun s=>(orb 127 128 0).contains s)=true:=by decide
 intro s hs;have h2:=qbm.mp this s (by simp;lia)
 simpa using h2⟩
def xJ(M:Nat)(hf:eQ M)(x s:Nat)(hx:x<=M)(hs:s<=M):∃m,m<=2 * M+1/\m<=M/\lcg M m x=s:=by
 obtain⟨a,ha,ea⟩:=ve M x _ _ (hf.2 x hx);obtain⟨b,hb,eb⟩:=ve M s _ _ (hf.2 s hs);by_cases h:a<=b
 ·refine⟨b - a,by lia,by lia,?_⟩;rw[<-ea,<-kR,Nat.sub_add_cancel h];exact eb
 ·refine⟨M+1 - a+b,by lia,by lia,?_⟩;rw[<-ea,<-kR]
  have:M+1 - a+b+a=b+(M+1):=by lia
  rw[this,kR,hf.1];exact eb
def m5(M:Nat)(hf:eQ M)(h:Int)(s:Nat)(hs:s<=M):∃b,b<=M+13/\(base M h b).1=s:=by
 obtain⟨m,_,hm,e⟩:=xJ M hf (base M h 13).1 s (pg M h 13) hs;exact⟨13+m,by lia,by rw[zt];exact e⟩
def zR(M:Nat)(hf:eQ M)(h:Int)(s:Nat)(hs:s<=M):∃n,n<=10 * (M+13)/\sl M h n=s:=by
 obtain⟨b,hb,e⟩:=m5 M hf h s hs;refine⟨tb M h b,?_,?_⟩
 ·have:=tb_le M h b;lia
 ·have:=sM M h b 0 (by lia)
  unfold sl;rw[Nat.add_zero] at this;rw[this];show (base M h b).1+0=s;lia
structure WF (M:Nat) (pl:Array Nat) (hs:Array Int):Prop where
 rise:dU pl
 bound:∀i v:Nat,pl[i]?=some v->v<=M
 size:pl.size=hs.size
 reach:∀(i:Nat) (h:Int) (v:Nat),hs[i]?=some h->pl[i]?=some v->∃n,sl M h n=v/\∀m,m<n->Occ pl (sl M h m)
def cH{α:Type}{xs:Array α}{i:Nat}{v:α}(h:xs[i]?=some v):i<xs.size:=by
 by_cases h6:i<xs.size
 ·exact h6
 ·rw[qbx (by lia)] at h;cases h
def dh{α:Type}(xs:Array α)(i:Nat)(h:i<xs.size):∃v,xs[i]?=some v:=⟨_,qbi h⟩
def yn(pl:Array Nat)(hr:dU pl)(M:Nat)(h:∀s,s<=M->Occ pl s):∀s i:Nat,s<=M->pl[i]?=some s->s<=i:=by
 intro s
 induction s with
 | zero=>intro i _ _;lia
 | succ s ih =>
  intro i hs hi;obtain⟨k,hk⟩:=h s (by lia);have h1:=ih k (by lia) hk;by_cases h2:k<i
  ·lia
  ·by_cases h3:k=i
   ·subst h3;rw[hk] at hi;cases hi
   ·have:=hr i k (s+1) s (by lia) hi hk;lia
def xb(pl:Array Nat)(hr:dU pl)(M:Nat)(hsz:pl.size<=M):∃s,s<=M/\¬Occ pl s:=by
 apply Classical.byContradiction;intro hno;have hall:∀s,s<=M->Occ pl s:=by
  intro s hs;apply Classical.byContradiction;intro h;exact hno ⟨s,hs,h⟩
 obtain⟨i,hi⟩:=hall M (qai _)
 have:=yn pl hr M hall M i (qai _) hi
 have:=cH hi
 lia
def least(P:Nat->Prop):∀n,P n->∃m,m<=n/\P m/\∀k,k<m->¬P k:=by
 intro n
 induction n using Nat.strongRecOn with
 | _ n ih =>
  intro hn;by_cases h:∃k,k<n/\P k
  ·obtain⟨k,hk,hp⟩:=h;obtain⟨m,hm,r⟩:=ih k hk hp;exact⟨m,by lia,r⟩
  ·exact⟨n,qai _,hn,fun k hk hp=>h ⟨k,hk,hp⟩⟩
def wQ(pl:Array Nat)(hr:dU pl)(M:Nat)(hf:eQ M)(hsz:pl.size<=M)(h:Int) :
  ∃n,n<=10 * (M+13)/\¬Occ pl (sl M h n)/\∀m,m<n->Occ pl (sl M h m):=by
 obtain⟨s,hs,hno⟩:=xb pl hr M hsz;obtain⟨n,hn,e⟩:=zR M hf h s hs;obtain⟨m,hm,hp,hl⟩:=least (fun n=>¬Occ pl (sl M h n)) n (by rw[e];exact hno);exact⟨m,by lia,hp,fun k hk=>Classical.byContradiction (hl k hk)⟩
def yX(t:SetTable)(hd:t.dummies=#[])(hr:dU t.place)(hashAt:Nat->Int)(h:Int)(n1:Nat)
  (hno:¬Occ t.place (sl t.mask h n1)) (hocc:∀m,m<n1->Occ t.place (sl t.mask h m)) :
  ∀fuel n,n<=n1->n1 - n<fuel ->
   (probe.go t hashAt h fuel (st t.mask h n)=some (.empty (sl t.mask h n1) none) /\
    ∀m i:Nat,n<=m->m<n1->t.place[i]?=some (sl t.mask h m)->hashAt i≠h) \/
   (∃m i:Nat,n<=m/\m<n1/\t.place[i]?=some (sl t.mask h m)/\hashAt i=h /\
    probe.go t hashAt h fuel (st t.mask h n)=some (.candidate (sl t.mask h m) i (st t.mask h (m+1))) /\
    ∀m' i':Nat,n<=m'->m'<m->t.place[i']?=some (sl t.mask h m')->hashAt i'≠h):=by
 intro fuel
 induction fuel with
 | zero=>intro n h1 h2;lia
 | succ f ih =>
  intro n h1 h2;by_cases he:n=n1
  ·subst he;left;refine⟨?_,fun m i h3 h4=>by lia⟩;unfold probe.go;have hsl:=vT t hd _ hno;unfold sl at hsl;simp only[hsl]
   have:=(xE t.mask h n).2.2
   rw[this];rfl
  ·obtain⟨i,hi⟩:=hocc n (by lia);have hsl:=pP t hr i _ hi;have hu:probe.go t hashAt h (f+1) (st t.mask h n)=if hashAt i == h then some (.candidate (sl t.mask h n) i (st t.mask h (n+1))) else probe.go t hashAt h f (st t.mask h (n+1)):=by
    conv=>lhs;unfold probe.go
    unfold sl at hsl;simp only[hsl,wk];rfl
   by_cases hh:hashAt i=h
   ·right;refine⟨n,i,qai _,by lia,hi,hh,?_,fun m' i' h3 h4=>by lia⟩;rw[hu];simp[hh]
   ·have hu2:probe.go t hashAt h (f+1) (st t.mask h n)=probe.go t hashAt h f (st t.mask h (n+1)):=by
     rw[hu];simp[hh]
    rw[hu2];have huniq:∀i':Nat,t.place[i']?=some (sl t.mask h n)->i'=i:=by
     intro i' hi';have a:=gX _ _ _ hr hi;have b:=gX _ _ _ hr hi';lia
    rcases ih (n+1) (by lia) (by lia) with ⟨r1,r2⟩|⟨m,i2,q1,q2,q3,q4,q5,q6⟩
    ·left;refine⟨r1,?_⟩;intro m i' h3 h4 h5;by_cases h6:m=n
     ·subst h6;rw[huniq i' h5];exact hh
     ·exact r2 m i' (by lia) h4 h5
    ·right;refine⟨m,i2,by lia,q2,q3,q4,q5,?_⟩;intro m' i' h3 h4 h5;by_cases h6:m'=n
     ·subst h6;rw[huniq i' h5];exact hh
     ·exact q6 m' i' (by lia) h4 h5
def ph(pl:Array Nat)(p s:Nat)(hp:p<=pl.size)(x:Nat)(h:Occ pl x):Occ (insertAt pl p s) x:=by
 obtain⟨i,hi⟩:=h;by_cases h1:i<p
 ·exact⟨i,by rw[bY _ _ _ hp];simp[h1,hi]⟩
 ·refine⟨i+1,?_⟩;rw[bY _ _ _ hp];have a:¬i+1<p:=by lia
  have b:¬i+1=p:=by lia
  simp[a,b,hi]
def Ad(pl:Array Nat)(s:Nat)(hr:dU pl)(hno:¬Occ pl s):dU (insertAt pl (below pl s) s):=by
 obtain⟨hp,hlo,hhi⟩:=dy pl s hr;intro a b u v hab ha hb;rw[bY _ _ _ hp] at ha hb;have hne:∀i,pl[i]?≠some s:=fun i hi=>hno ⟨i,hi⟩
 split at ha
 ·rename_i h1
  have hu:=hlo a u ha h1
  split at hb
  ·exact hr a b u v hab ha hb
  ·split at hb
   ·cases hb;exact hu
   ·rename_i h2 h3
    exact hr a (b-1) u v (by lia) ha hb
 ·split at ha
  ·cases ha
   rename_i h1 h2
   have e1:¬b<below pl s:=by lia
   have e2:¬b=below pl s:=by lia
   simp only[e1,e2,if_false] at hb
   have:=hhi (b-1) v hb (by lia)
   have h4:v≠s:=fun e=>hne (b-1) (by rw[hb,e]);lia
  ·rename_i h1 h2
   have e1:¬b<below pl s:=by lia
   have e2:¬b=below pl s:=by lia
   simp only[e1,e2,if_false] at hb;exact hr (a-1) (b-1) u v (by lia) ha hb
def wf_put(M:Nat)(pl:Array Nat)(hs:Array Int)(w:WF M pl hs)(h:Int)(n:Nat)(hno:¬Occ pl (sl M h n))
  (hocc:∀m,m<n->Occ pl (sl M h m)) :
  WF M (insertAt pl (below pl (sl M h n)) (sl M h n)) (insertAt hs (below pl (sl M h n)) h):=by
 have hp:=(dy pl (sl M h n) w.rise).1;have hp2:below pl (sl M h n)<=hs.size:=by have:=w.size;lia
 refine⟨Ad pl _ w.rise hno,?_,?_,?_⟩
 ·intro i v hi;rw[bY _ _ _ hp] at hi
  split at hi
  ·exact w.bound _ _ hi
  ·split at hi
   ·cases hi;exact sl_le M h n
   ·exact w.bound _ _ hi
 ·rw[cI _ _ _ hp,cI _ _ _ hp2,w.size]
 ·intro i h' v hh hv;rw[bY _ _ _ hp] at hv;rw[bY _ _ _ hp2] at hh
  split at hv
  ·rename_i h1
   simp only[h1,if_true] at hh;obtain⟨k,e,r⟩:=w.reach i h' v hh hv;exact⟨k,e,fun m hm=>ph _ _ _ hp _ (r m hm)⟩
  ·rename_i h1
   split at hv
   ·rename_i h2
    simp only[h2,if_true] at hh;cases hv;simp at hh;cases hh;exact⟨n,rfl,fun m hm=>ph _ _ _ hp _ (hocc m hm)⟩
   ·rename_i h2
    simp only[h1,h2,if_false] at hh;obtain⟨k,e,r⟩:=w.reach (i-1) h' v hh hv;exact⟨k,e,fun m hm=>ph _ _ _ hp _ (r m hm)⟩
def fK(ow:Array (Option Nat))(s:Nat):Prop:=∃i:Nat,ow[s]?=some (some i)
structure LC (M:Nat) (ow:Array (Option Nat)) (k:Nat) (hs:Array Int):Prop where
 size:ow.size=M+1
 own:∀i,i<k->∃j:Nat,ow[j]?=some (some i)
 inj:∀i j j':Nat,ow[j]?=some (some i)->ow[j']?=some (some i)->j=j'
 lt:∀j i:Nat,ow[j]?=some (some i)->i<k
 reach:∀(j i:Nat) (h:Int),ow[j]?=some (some i)->hs[i]?=some h->∃n,sl M h n=j/\∀m,m<n->fK ow (sl M h m)
def jn(ow:Array (Option Nat))(s:Nat)(hs:s<ow.size):(ow.getD s (some 0)).isNone=true↔¬fK ow s:=by
 unfold fK
 have:ow[s]?=some (ow[s]'hs):=qbi hs
 simp only[Array.getD,hs,dite_true,this]
 cases h:ow[s]'hs with
 | none=>simp[h]
 | some v=>simp[h]
def xF(M:Nat)(hf:eQ M)(ow:Array (Option Nat))(hsz:ow.size=M+1)(h:Int)(s:Nat)(hs:s<=M)(hno:¬fK ow s) :
  ∀fuel b,M+13<b+fuel->(∀m,m<tb M h b->fK ow (sl M h m)) ->
   ∃n,layClean.free M ow fuel (base M h b).1 (base M h b).2=some (sl M h n)/\¬fK ow (sl M h n)/\∀m,m<n->fK ow (sl M h m):=by
 have tb_mono:∀b c,b<c->tb M h b<tb M h c:=by
  intro b c hbc
  induction c with
  | zero=>lia
  | succ c ih =>
   show tb M h b<tb M h c+(runEnd M (base M h c).1 - (base M h c).1)+1;by_cases e:b=c
   ·subst e;lia
   ·have:=ih (by lia);lia
 intro fuel
 induction fuel with
 | zero =>
  intro b hb hocc;obtain⟨b',hb',e⟩:=m5 M hf h s hs;have h1:=tb_mono b' b (by lia);have h2:=hocc _ h1;have h3:=sM M h b' 0 (by lia);rw[Nat.add_zero] at h3;unfold sl at h2;rw[h3] at h2
  have:(stB M h b' 0).j=s:=by show (base M h b').1+0=s;lia
  rw[this] at h2;exact absurd h2 hno
 | succ f ih =>
  intro b hb hocc;have hbl:=pg M h b;have hre:=fE M _ hbl;have hrun:∀k,k<=runEnd M (base M h b).1 - (base M h b).1->sl M h (tb M h b+k)=(base M h b).1+k:=by
   intro k hk;unfold sl;rw[sM M h b k hk];rfl
  unfold layClean.free
  cases hfi:(List.range (runEnd M (base M h b).1+1 - (base M h b).1)).find? fun k=>(ow.getD ((base M h b).1+k) (some 0)).isNone with
  | some k =>
   rw[List.find?_range_eq_some] at hfi;obtain⟨p1,p2,p3⟩:=hfi;have hk:k<runEnd M (base M h b).1+1 - (base M h b).1:=by simpa using p2
   refine⟨tb M h b+k,?_,?_,?_⟩
   ·rw[hrun k (by lia)]
   ·rw[hrun k (by lia)];exact (jn ow _ (by lia)).mp p1
   ·intro m hm;by_cases h1:m<tb M h b
    ·exact hocc m h1
    ·have e:m=tb M h b+(m - tb M h b):=by lia
     rw[e,hrun _ (by lia)];have h2:=p3 (m - tb M h b) (by lia);have h3:=jn ow ((base M h b).1+(m - tb M h b)) (by lia);apply Classical.byContradiction;intro hc;rw[h3.mpr hc] at h2;simp at h2
  | none =>
   rw[List.find?_range_eq_none] at hfi;have hall:∀m,m<tb M h (b+1)->fK ow (sl M h m):=by
    intro m hm;by_cases h1:m<tb M h b
    ·exact hocc m h1
    ·have hm':m<tb M h b+(runEnd M (base M h b).1 - (base M h b).1)+1:=hm;have e:m=tb M h b+(m - tb M h b):=by lia
     rw[e,hrun _ (by lia)];have h2:=hfi (m - tb M h b) (by lia);have h3:=jn ow ((base M h b).1+(m - tb M h b)) (by lia);apply Classical.byContradiction;intro hc;rw[h3.mpr hc] at h2;simp at h2
   exact ih (b+1) (by lia) hall
def lc_free(M:Nat)(ow:Array (Option Nat))(k:Nat)(hs:Array Int)(c:LC M ow k hs)(hk:k<=M):∃s,s<=M/\¬fK ow s:=by
 apply Classical.byContradiction;intro hno;have hall:∀s,s<=M->fK ow s:=fun s hs=>Classical.byContradiction (fun h=>hno ⟨s,hs,h⟩);have hget:∀s,s<=M->ow[s]?=some (some ((ow.getD s none).getD 0)):=by
  intro s hs;obtain⟨i,hi⟩:=hall s hs
  have:ow.getD s none=some i:=by
   have hl:=cH hi;rw[qbi hl] at hi;simp only[Array.getD,hl,dite_true];exact Option.some.inj hi
  rw[this];exact hi
 have hnd:((List.range (M+1)).map (fun s=>(ow.getD s none).getD 0)).Nodup:=by
  unfold List.Nodup;rw[qaY];apply List.Pairwise.imp_of_mem (R:=fun a b=>a≠b) _ List.nodup_range;intro a b ha hb hab e;have h1:=hget a (by simp at ha;lia);have h2:=hget b (by simp at hb;lia);rw[<-e] at h2;exact hab (c.inj _ _ _ h1 h2)
 have hsub:((List.range (M+1)).map (fun s=>(ow.getD s none).getD 0)) ⊆ List.range k:=by
  intro x hx;obtain⟨s,hs,e⟩:=qav.mp hx;have h1:=hget s (by simp at hs;lia)
  have:=c.lt _ _ h1
  rw[e] at this;simpa using this
 have:=List.Nodup.length_le_of_subset hnd hsub
 simp at this;lia
def lc_step(M:Nat)(hf:eQ M)(ow:Array (Option Nat))(k:Nat)(hs:Array Int)(c:LC M ow k hs)(hk:k<=M)(h:Int)(hh:hs[k]?=some h) :
  ∃j,layClean.free M ow (turns M) (bits h % (M+1)) (bits h)=some j/\LC M (ow.setIfInBounds j (some k)) (k+1) hs:=by
 obtain⟨s,hs1,hs2⟩:=lc_free M ow k hs c hk;obtain⟨n,e,hno,hocc⟩:=xF M hf ow c.size h s hs1 hs2 (turns M) 0 (by unfold turns;lia) (by intro m hm;exact absurd hm (qcL m));refine⟨sl M h n,e,?_⟩;have hj:=sl_le M h n;have hjs:sl M h n<ow.size:=by have:=c.size;lia
 have hget:∀s:Nat,(ow.setIfInBounds (sl M h n) (some k))[s]?=if s=sl M h n then some (some k) else ow[s]?:=by
  intro s;rw[qbR];by_cases e:sl M h n=s
  ·subst e;simp[hjs]
  ·have e2:¬s=sl M h n:=fun x=>e x.symm;simp[e,e2]
 have hmono:∀s,fK ow s->fK (ow.setIfInBounds (sl M h n) (some k)) s:=by
  intro s ⟨i,hi⟩;by_cases e:s=sl M h n
  ·exact⟨k,by rw[hget];simp[e]⟩
  ·exact⟨i,by rw[hget];simp[e,hi]⟩
 refine⟨by simp[c.size],?_,?_,?_,?_⟩
 ·intro i hi;by_cases e:i=k
  ·subst e;exact⟨sl M h n,by rw[hget];simp⟩
  ·obtain⟨j,hj⟩:=c.own i (by lia);refine⟨j,?_⟩;rw[hget]
   have:¬j=sl M h n:=fun e=>hno ⟨i,by rw[<-e];exact hj⟩
   simp[this,hj]
 ·intro i j j' h1 h2;rw[hget] at h1 h2;by_cases e1:j=sl M h n <;> by_cases e2:j'=sl M h n
  ·rw[e1,e2]
  ·simp[e1] at h1;simp[e2] at h2
   have:=c.lt _ _ h2;lia
  ·simp[e1] at h1;simp[e2] at h2
   have:=c.lt _ _ h1;lia
  ·simp[e1] at h1;simp[e2] at h2;exact c.inj _ _ _ h1 h2
 ·intro j i h1;rw[hget] at h1;by_cases e1:j=sl M h n
  ·simp[e1] at h1;lia
  ·simp[e1] at h1;have:=c.lt _ _ h1;lia
 ·intro j i h' h1 h2;rw[hget] at h1;by_cases e1:j=sl M h n
  ·simp[e1] at h1;subst h1;rw[hh] at h2;cases h2;exact⟨n,e1.symm,fun m hm=>hmono _ (hocc m hm)⟩
  ·simp[e1] at h1;obtain⟨n',e',r⟩:=c.reach _ _ _ h1 h2;exact⟨n',e',fun m hm=>hmono _ (r m hm)⟩
def lc_nil(M:Nat)(hs:Array Int):LC M (Array.replicate (M+1) none) 0 hs:=by
 have hget:∀(s i:Nat),(Array.replicate (M+1) (none:Option Nat))[s]?≠some (some i):=by
  intro s i h;rw[Array.getElem?_replicate] at h
  split at h <;> cases h
 exact⟨by simp,fun i hi=>by lia,fun i j j' h=>absurd h (hget _ _),fun j i h=>absurd h (hget _ _),fun j i h h1=>absurd h1 (hget _ _)⟩
def qz(M:Nat)(hf:eQ M)(hs:Array Int)(hsz:hs.size<=M):∀(l:List Int) (ow:Array (Option Nat)) (k:Nat),
  LC M ow k hs->(∀q:Nat,l[q]?=hs[k+q]?)->k<=hs.size ->
  ∃ow',(l.foldl (init:=some (ow,k)) fun acc h=>do
   let (owner,k) <-acc
   let j <-layClean.free M owner (turns M) (bits h % (M+1)) (bits h)
   pure (owner.setIfInBounds j (some k),k+1))=some (ow',hs.size)/\LC M ow' hs.size hs:=by
 intro l
 induction l with
 | nil =>
  intro ow k c hl hk
  have:=hl 0
  simp at this;have hk2:k=hs.size:=by lia
  subst hk2;exact⟨ow,rfl,c⟩
 | cons h l ih =>
  intro ow k c hl hk;have h0:=hl 0;simp at h0;have hlt:=cH h0.symm;obtain⟨j,e,c'⟩:=lc_step M hf ow k hs c (by lia) h h0.symm
  obtain⟨ow',e2,c2⟩:=ih (ow.setIfInBounds j (some k)) (k+1) c' (by
   intro q
   have:=hl (q+1)
   simp at this;rw[this]
   congr 1;lia) (by lia)
  refine⟨ow',?_,c2⟩;rw[<-e2];rw[qcl];congr 1;simp[e]
def uu(M:Nat)(hf:eQ M)(hs:Array Int)(hsz:hs.size<=M):∃ow,layClean M hs=some ow/\LC M ow hs.size hs:=by
 obtain⟨ow,e,c⟩:=qz M hf hs hsz hs.toList _ 0 (lc_nil M hs) (by intro q;simp) (by lia);refine⟨ow,?_,c⟩;unfold layClean;rw[<-Array.foldl_toList];rw[e];rfl
def rise_of{L:List Nat}(h:L.Pairwise (·<·)):dU L.toArray:=by
 intro a b u v hab ha hb;simp at ha hb;obtain⟨ha1,ha2⟩:=qad.mp ha;obtain⟨hb1,hb2⟩:=qad.mp hb;rw[<-ha2,<-hb2];exact qbq.mp h a b ha1 hb1 hab
def dP{α β:Type}(f:α->Option β):∀(l:List α),(∀x,x∈l->∃v,f x=some v)->∀q:Nat,(l.filterMap f)[q]?=l[q]?.bind f:=by
 intro l
 induction l with
 | nil=>intro _ q;simp
 | cons x l ih =>
  intro h q;obtain⟨v,hv⟩:=h x (by simp);rw[qbX,hv]
  cases q with
  | zero=>simp[hv]
  | succ q=>simp;exact ih (fun y hy=>h y (by simp[hy])) q
def jC{α:Type}(es:Array α):(List.range es.size).filterMap (es[·]?)=es.toList:=by
 apply qbI;intro q;rw[dP _ _ (by intro x hx;exact dh es x (by simpa using hx))];by_cases h:q<es.size
 ·rw[List.getElem?_range h];simp
 ·rw[qaR (by simp;lia)];simp;lia
def laid_ok{α:Type}(M:Nat)(hf:eQ M)(hsh:α->Int)(es:Array α)(hsz:es.size<=M)(fin mv:Nat)(led pln:Bool) :
  ∃pl order,laid M fin mv led pln (es.map hsh)=some ({ mask:=M,place:=pl,dummies:=#[],finger:=fin,led:=led,moves:=mv,plain:=pln},order) /\
   WF M pl ((order.filterMap (es[·]?)).map hsh)/\(order.filterMap (es[·]?)).size=es.size/\(order.filterMap (es[·]?)).toList.Perm es.toList /\
   order.toList.Perm (List.range es.size):=by
 obtain⟨ow,e,c⟩:=uu M hf (es.map hsh) (by simpa using hsz);have hn:(es.map hsh).size=es.size:=by simp
 rw[hn] at c
 let f:Nat->Option (Nat × Nat):=fun j=>(ow.getD j none).map (j,·)
 let live:=(List.range (M+1)).filterMap f
 have hf1:∀j b,f j=some b↔(b.1=j/\ow[j]?=some (some b.2)):=by
  intro j b;show (ow.getD j none).map (j,·)=some b↔_;by_cases hj:j<ow.size
  ·have:ow[j]?=some (ow[j]'hj):=qbi hj
   simp only[Array.getD,hj,dite_true,this]
   cases h:ow[j]'hj with
   | none=>simp[h]
   | some v =>
    simp[h];constructor
    ·intro e;subst e;simp
    ·rintro⟨e1,e2⟩;cases b;simp_all
  ·simp[Array.getD,hj]
 have hmem:∀b:Nat × Nat,b∈live↔ow[b.1]?=some (some b.2):=by
  intro b;show b∈(List.range (M+1)).filterMap f↔_;rw[qbZ];constructor
  ·rintro⟨j,_,hj⟩;obtain⟨e1,e2⟩:=(hf1 j b).mp hj;rw[e1];exact e2
  ·intro h;refine⟨b.1,?_,(hf1 b.1 b).mpr ⟨rfl,h⟩⟩
   have:=cH h
   have:=c.size
   simp;lia
 have hpw:live.Pairwise (fun a b=>a.1<b.1):=by
  show ((List.range (M+1)).filterMap f).Pairwise _;rw[List.pairwise_filterMap];apply List.Pairwise.imp _ (List.pairwise_lt_range (n:=M+1));intro a b hab x hx y hy;rw[((hf1 _ _).mp hx).1,((hf1 _ _).mp hy).1];exact hab
 have hnd:(live.map (·.2)).Nodup:=by
  unfold List.Nodup;rw[qaY];apply List.Pairwise.imp_of_mem _ hpw;intro a b ha hb hab e;have h1:=(hmem a).mp ha;have h2:=(hmem b).mp hb;have e':a.2=b.2:=e;rw[<-e'] at h2
  have:=c.inj _ _ _ h1 h2
  lia
 have hperm:(live.map (·.2)).Perm (List.range es.size):=by
  rw[qcp hnd List.nodup_range];intro i;rw[qav];constructor
  ·rintro⟨b,hb,e⟩
   have:=c.lt _ _ ((hmem b).mp hb)
   rw[e] at this;simpa using this
  ·intro hi;obtain⟨j,hj⟩:=c.own i (by simpa using hi);exact⟨(j,i),(hmem (j,i)).mpr hj,rfl⟩
 have hes:((live.map (·.2)).filterMap (es[·]?)).Perm es.toList:=by
  have:=hperm.filterMap (es[·]?)
  rw[jC] at this;exact this
 have htl:((live.map (·.2)).toArray.filterMap (es[·]?)).toList=(live.map (·.2)).filterMap (es[·]?):=by simp
 have hsome:∀x,x∈live.map (·.2)->∃v,es[x]?=some v:=by
  intro x hx
  have:=hperm.mem_iff.mp hx
  exact dh es x (by simpa using this)
 refine⟨(live.map (·.1)).toArray,(live.map (·.2)).toArray,?_,?_,?_,?_,?_⟩
 ·unfold laid;rw[e];rfl
 ·refine⟨rise_of (by rw[qaY];exact hpw),?_,?_,?_⟩
  ·intro i v hi;simp at hi;obtain⟨b,hb⟩:=hi;have h1:=(hmem _).mp (qaV hb);have h2:=cH h1
   have:=c.size
   have h3:v<ow.size:=h2;lia
  ·have h1:=hes.length_eq;have h2:(((live.map (·.2)).toArray.filterMap (es[·]?)).map hsh).size=((live.map (·.2)).filterMap (es[·]?)).length:=by
    rw[qcQ,<-qaD,htl]
   rw[h2,h1]
   have:=hperm.length_eq
   simp at this ⊢;exact this
  ·intro i h v hh hv;simp at hv;obtain⟨b,hb⟩:=hv;have h1:=(hmem _).mp (qaV hb);have h3:((live.map (·.2)).toArray.filterMap (es[·]?))[i]?=es[b]?:=by
    rw[<-qar,htl,dP _ _ hsome];simp[hb]
   rw[Array.getElem?_map,h3] at hh;obtain⟨n,en,r⟩:=c.reach v b h h1 (by rw[Array.getElem?_map];exact hh);refine⟨n,en,?_⟩;intro m hm;obtain⟨i',hi'⟩:=r m hm;have h5:=(hmem (sl M h m,i')).mpr hi';have h6:sl M h m∈live.map (·.1):=qav.mpr ⟨_,h5,rfl⟩;obtain⟨q,hq⟩:=qaA.mp h6;exact⟨q,by simpa using hq⟩
 ·rw[<-qaD,htl,hes.length_eq];simp
 ·rw[htl];exact hes
 ·exact hperm
section
variable {prog:Program} {w:World} {A:Around} {E:Value→Shared→Prop} {s:Shared}
abbrev TK(prog:Program)(w:World)(h:Heap)(k:List Int)(a:Addr):Prop:=IsTupleKey (intKind prog w) h k a
abbrev TH(prog:Program)(w:World)(k:List Int):Int:=tupleKeyHash (intKind prog w) k
def ItemsAre.ints(h:ItemsAre (intKind prog w) ks vs):∀v∈vs,∃i t,v=.int i t:=by
 induction h with
 | nil=>intro v hv;cases hv
 | @cons k v ks vs h1 _ ih =>
  intro u hu
  cases hu with
  | head =>
   cases v with
   | int i t=>exact⟨i,t,rfl⟩
   | _=>simp[intKind,Value.isInt] at h1
  | tail _ hu=>exact ih u hu
def iO(hk:TK prog w s.heap ks a)(h:Q true s):wpAny (model prog w) A (hashByValue 8 (.ref a)) Q E s:=by
 have hT:=hk.typeIs;obtain⟨o,items,n,ho,_,hd,hi⟩:=hk;unfold hashByValue;refine qaa (wpAny_specialOf hT F.slot_tuple_hash.lookup ?_);dsimp only;refine qaa (wpAny_seqItems ho hd ?_);refine qaa ?_;show wpAny _ _ (forIn items _ _) _ _ s;rw[<-Array.forIn_toList];refine wpAny_forIn_list _ (fun rest r s'=>r.1=none/\s'=s/\∀v∈rest,∃i t,v=Value.int i t) _ ?_ ?_ _ _ ⟨rfl,rfl,ItemsAre.ints hi⟩
 ·rintro v rest r s' ⟨hr,rfl,hall⟩;obtain⟨i,t,rfl⟩:=hall v qax
  have:hashByValue 7 (.int i t)=pure true:=by unfold hashByValue;rfl
  rw[this];refine qaa (qag ?_);simp only[qbf,qaf,if_false];exact qag ⟨rfl,rfl,fun u hu'=>hall u (qae _ hu')⟩
 ·rintro⟨r1,r2⟩ s' ⟨hr,rfl,_⟩;simp only at hr;subst hr;exact qag h
def fA(hk:TK prog w s.heap ks a)(h:Q false s):wpAny (model prog w) A (ofAClassStatement 8 (.ref a)) Q E s:=by
 have hT:=hk.typeIs;obtain⟨o,items,n,ho,_,hd,hi⟩:=hk;unfold ofAClassStatement;refine qaa (wpAny_typeOf hT ?_);dsimp only;refine qaa ?_;show wpAny _ _ (pure true) _ _ s;refine qag ?_;simp only[qbf,qaf,if_false];refine qaa (wpAny_seqItems ho hd ?_);dsimp only;refine qaa ?_;show wpAny _ _ (forIn items _ _) _ _ s;rw[<-Array.forIn_toList];refine wpAny_forIn_list _ (fun rest r s'=>r.1=none/\s'=s/\∀v∈rest,∃i t,v=Value.int i t) _ ?_ ?_ _ _ ⟨rfl,rfl,ItemsAre.ints hi⟩
 ·rintro v rest r s' ⟨hr,rfl,hall⟩;obtain⟨i,t,rfl⟩:=hall v qax
  have:ofAClassStatement 7 (.int i t)=pure false:=by unfold ofAClassStatement;rfl
  rw[this];refine qaa (qag ?_);simp only[qaf,if_false];exact qag ⟨rfl,rfl,fun u hu'=>hall u (qae _ hu')⟩
 ·rintro⟨r1,r2⟩ s' ⟨hr,rfl,_⟩;simp only at hr;subst hr;exact qag h
def o7{k:List Int}{a:Addr}{stored:List Value}{Q:Bool->Shared->Prop}(hk:TK prog w s.heap k a)(hall:∀v∈stored,∃b k',v=.ref b/\TK prog w s.heap k' b)
  (h:Q false s):wpAny (model prog w) A (searchCouldBeSeen (.ref a) stored) Q E s:=by
 unfold searchCouldBeSeen;refine qaa ?_;refine wpAny_forIn_list _ (fun rest r s'=>r.1=none/\s'=s/\∀v∈rest,∃b k',v=Value.ref b/\TK prog w s.heap k' b) _ ?_ ?_ _ _ ⟨rfl,rfl,hall⟩
 ·rintro v rest r s' ⟨hr,rfl,hall⟩;obtain⟨b,k',rfl,hb⟩:=hall v qax;have hrest:∀v∈rest,∃b k',v=Value.ref b/\TK prog w s'.heap k' b:=fun u hu'=>hall u (qae _ hu');dsimp only;by_cases hab:(a == b || (carriedByValue (.ref a) && carriedByValue (.ref b)))=true
  ·rw[qah hab];exact qag ⟨rfl,rfl,hrest⟩
  ·rw[qan hab];refine qaa (wpAny_eqIsQuiet_tuple hk ?_);simp only[qbf,qaf,if_false];refine qaa (wpAny_eqIsQuiet_tuple hb ?_);simp only[qbf,qaf,if_false];refine qaa (fA hk ?_);simp only[qaf,if_false];refine qaa (fA hb ?_);simp only[qaf,if_false];exact qag ⟨rfl,rfl,hrest⟩
 ·rintro⟨r1,r2⟩ s' ⟨hr,rfl,_⟩;simp only at hr;subst hr;exact qag h
def fN(prog:Program)(w:World)(P:Addr->Prop)(h:Heap)(es:Array (Int × Value))(ks:List (List Int)):Prop :=
 es.size=ks.length/\∀(i:Nat) (e:Int × Value) (k:List Int),es[i]?=some e->ks[i]?=some k->∃a,e.2=.ref a/\TK prog w h k a/\e.1=TH prog w k/\P a
def fN.at'{P:Addr->Prop}{h:Heap}{es:Array (Int × Value)}{ks:List (List Int)}(x:fN prog w P h es ks){i:Nat}{e:Int × Value}(he:es[i]?=some e) :
  ∃k a,ks[i]?=some k/\e.2=.ref a/\TK prog w h k a/\e.1=TH prog w k:=by
 have hl:=cH he
 have:i<ks.length:=by rw[<-x.1];exact hl
 obtain⟨a,r1,r2,r3,_⟩:=x.2 i e ks[i] he (by simp[this]);exact⟨ks[i],a,by simp[this],r1,r2,r3⟩
def fN.key{P:Addr->Prop}{h:Heap}{es:Array (Int × Value)}{ks:List (List Int)}(x:fN prog w P h es ks){i:Nat}{k:List Int}(hk:ks[i]?=some k) :
  ∃e a,es[i]?=some e/\e.2=.ref a/\TK prog w h k a/\e.1=TH prog w k:=by
 have hl:i<es.size:=by rw[x.1];exact (qad.mp hk).1
 obtain⟨e,he⟩:=dh es i hl;obtain⟨a,r1,r2,r3,_⟩:=x.2 i e k he hk;exact⟨e,a,he,r1,r2,r3⟩
def w8{P:Addr->Prop}{S:Addr}{o:Obj}{es:Array (Int × Value)}{ep:Nat}{t:SetTable}{ks:List (List Int)}{k:List Int}{a:Addr}{n1:Nat}{Q:SetFound->Shared->Prop}
  (hu:A.units<cLine) (ho:s.heap.get? S=some o) (hd:o.data=.set es ep t) (hf:t.fits es.size=true) (hdm:t.dummies=#[]) (hodd:t.gaveWay=false)
  (W:WF t.mask t.place (es.map (·.1))) (hes:fN prog w P s.heap es ks) (hk:TK prog w s.heap k a)
  (hno:¬Occ t.place (sl t.mask (TH prog w k) n1)) (hocc:∀m,m<n1->Occ t.place (sl t.mask (TH prog w k) m)) (hn1:n1<10 * turns t.mask)
  (h1:k∈ks->Q (.there none) s) (h2:k∉ks->Q (.free (sl t.mask (TH prog w k) n1) false) s) :
  ∀(fuel n:Nat) (stand:Option Probe),stand.getD (t.probeStart (TH prog w k))=st t.mask (TH prog w k) n->n<=n1->n1 - n<fuel ->
   (∀(m i:Nat),m<n->t.place[i]?=some (sl t.mask (TH prog w k) m)->ks[i]?≠some k) ->
   wpAny (model prog w) A (setSearchFrom S (.ref a) (TH prog w k) true fuel stand) Q E s:=by
 intro fuel
 induction fuel with
 | zero=>intro n stand _ _ h;lia
 | succ f ih =>
  intro n stand hst hn hfu hpast;unfold setSearchFrom;refine qaa (wpAny_setState_of ho hd hf ?_);dsimp only;rw[hodd];simp only[qaf,if_false];rw[hst];have hpr:=yX t hdm W.rise (fun i=>(es[i]?.map (·.1)).getD 0) (TH prog w k) n1 hno hocc (10 * turns t.mask) n hn (by lia);have hwhere:∀i:Nat,ks[i]?=some k->∃m,m<n1/\t.place[i]?=some (sl t.mask (TH prog w k) m):=by
   intro i hi;obtain⟨e,b,he,_,_,hh⟩:=hes.key hi;have hl:i<t.place.size:=by
    have:=W.size;simp at this;rw[this];exact cH he
   obtain⟨v,hv⟩:=dh t.place i hl;obtain⟨m,em,hm⟩:=W.reach i (TH prog w k) v (by simp[he,hh]) hv;refine⟨m,?_,by rw[em];exact hv⟩;by_cases hlt:m<n1
   ·exact hlt
   ·exfalso;by_cases he2:m=n1
    ·subst he2;exact hno ⟨i,by rw[em];exact hv⟩
    ·exact hno (hm n1 (by lia))
  rcases hpr with ⟨e1,e2⟩|⟨m,i,q1,q2,q3,q4,q5,q6⟩
  ·have e1':t.probe (fun i=>(es[i]?.map (·.1)).getD 0) (TH prog w k) (st t.mask (TH prog w k) n)=some (.empty (sl t.mask (TH prog w k) n1) none):=e1;erw [e1'];dsimp only;refine qag (h2 fun hmem=>?_);obtain⟨i,hi⟩:=qaA.mp hmem;obtain⟨m,hm,hp⟩:=hwhere i hi;by_cases hmn:m<n
   ·exact hpast m i hmn hp hi
   ·obtain⟨e,b,he,_,_,hh⟩:=hes.key hi;exact e2 m i (by lia) hm hp (by simp[he,hh])
  ·have e1':t.probe (fun i=>(es[i]?.map (·.1)).getD 0) (TH prog w k) (st t.mask (TH prog w k) n)=some (.candidate (sl t.mask (TH prog w k) m) i (st t.mask (TH prog w k) (m+1))):=q5;erw [e1'];dsimp only;have hil:i<es.size:=by
    have:=W.size;simp at this;rw[<-this];exact cH q3
   obtain⟨e,he⟩:=dh es i hil;obtain⟨k',b,hk',eb,hb,hh⟩:=hes.at' he;obtain⟨eh,ev⟩:=e;simp only at eb hh;subst eb
   have hgo:wpAny (model prog w) A (do
     let some (_,y):=es[i]? | unsupported "internal:set-entry"
     let equal <-holding [y] (eqBool y (.ref a))
     let (es',_,t') <-setState S
     if true && equal then return .there none
     let some same:=t'.sameMemory t.moves t.mask|unsupported "set.changed-during-lookup:is-the-new-block-at-the-old-address"
     let still <-match (if same then t'.slot (sl t.mask (TH prog w k) m) else .empty) with
      | .live i'=>match es'[i']? with
       | some (_,y')=>do pure (if <-isSame y' y then some i' else none)
       | none=>pure none
      | _=>pure none
     match still with
     | none=>rule "set.search.anew";setSearchFrom S (.ref a) (TH prog w k) true f none
     | some i'=>if equal then return .there (some i') else setSearchFrom S (.ref a) (TH prog w k) true f (some (st t.mask (TH prog w k) (m+1)))) Q E s:=by
    rw[he];dsimp only;refine qaa (wpAny_holding (wpAny_eqBool_tuple hu hb hk ?_));refine qaa (wpAny_setState_of ho hd hf ?_);dsimp only;by_cases hkk:k'=k
    ·subst hkk;simp only[decide_true,Bool.and_self,if_true];exact qag (h1 (qaA.mpr ⟨i,hk'⟩))
    ·simp only[hkk,decide_false,qcN,qaf,if_false];have hsm:t.sameMemory t.moves t.mask=some true:=by unfold SetTable.sameMemory;simp
     rw[hsm];simp only[if_true];rw[pP t W.rise i _ q3];dsimp only;rw[he];dsimp only;refine qaa (wpAny_isSame_ref_self ?_);simp only[if_true];refine qaa (qag ?_);dsimp only;refine ih (m+1) _ rfl (by lia) (by lia) ?_;intro m' i' hm' hp' hki;by_cases hm2:m'<n
     ·exact hpast m' i' hm2 hp' hki
     ·by_cases hm3:m'<m
      ·obtain⟨e,b,he,_,_,hh⟩:=hes.key hki;exact q6 m' i' (by lia) hm3 hp' (by simp[he,hh])
      ·have:m'=m:=by lia
       subst this;have a1:=gX _ _ _ W.rise q3;have a2:=gX _ _ _ W.rise hp'
       have:i'=i:=by lia
       subst this;rw[hk'] at hki;exact hkk (Option.some.inj hki)
   cases hled:t.led with
   | true =>
    simp only[qbf,qaf,if_false];exact hgo
   | false =>
    simp only[qcv,if_true];refine qaa (o7 hk ?_ ?_)
    ·intro v hv;obtain⟨e,he',rfl⟩:=qav.mp hv;have he2:e∈es.toList:=by
      have:e∈es.filter (fun x=>x.1 == TH prog w k):=Array.mem_toList_iff.mp he'
      exact Array.mem_toList_iff.mpr (Array.mem_filter.mp this).1
     obtain⟨q,hq⟩:=qaA.mp he2;obtain⟨k2,b2,_,e2,h2,_⟩:=hes.at' (i:=q) (e:=e) (by simpa using hq);exact⟨b2,k2,e2,h2⟩
    ·simp only[qaf,if_false];exact hgo
structure TTab (prog:Program) (w:World) (P:Addr->Prop) (h:Heap) (S:Addr) (led:Bool) (o:Obj) (es:Array (Int × Value)) (ep:Nat) (t:SetTable) (ks:List (List Int)):Prop where
 get:h.get? S=some o
 ex:o.ExactSet
 data:o.data=.set es ep t
 dm:t.dummies=#[]
 mask:t.mask=7\/t.mask=31\/t.mask=127
 plain:t.plain=true
 led':t.led=led
 wf:WF t.mask t.place (es.map (·.1))
 ents:fN prog w P h es ks
def js(t:SetTable)(n:Nat):Prop:=n * 5<t.mask * 3
def cT(prog:Program)(w:World)(P:Addr->Prop)(h:Heap)(S:Addr)(led:Bool)(ks:List (List Int)):Prop :=
 ∃o es ep t ks',TTab prog w P h S led o es ep t ks'/\js t es.size/\ks'.Perm ks/\ks.Nodup
def uN(h:M=7\/M=31\/M=127):eQ M:=by
 rcases h with h|h | h <;> subst h
 ·exact full7
 ·exact full31
 ·exact full127
def TTab.size{P:Addr->Prop}{h:Heap}{S:Addr}{led:Bool}{o:Obj}{es:Array (Int × Value)}{ep:Nat}{t:SetTable}{ks:List (List Int)}(x:TTab prog w P h S led o es ep t ks):t.place.size=es.size:=by
 have:=x.wf.size;simpa using this
def TTab.fits{P:Addr->Prop}{h:Heap}{S:Addr}{led:Bool}{o:Obj}{es:Array (Int × Value)}{ep:Nat}{t:SetTable}{ks:List (List Int)}(x:TTab prog w P h S led o es ep t ks)(hr:es.size<=t.mask):t.fits es.size=true:=by
 unfold SetTable.fits SetTable.fill
 have:=x.size
 simp[this,x.dm];exact hr
def TTab.odd{P:Addr->Prop}{h:Heap}{S:Addr}{led:Bool}{o:Obj}{es:Array (Int × Value)}{ep:Nat}{t:SetTable}{ks:List (List Int)}(x:TTab prog w P h S led o es ep t ks):t.gaveWay=false:=by
 unfold SetTable.gaveWay;rcases x.mask with h|h | h <;> rw[h] <;> rfl
def tk_same(hs:Heap.SameBut S h h')(ho:h.get? S=some o)(hex:o.ExactSet)(x:TK prog w h k a):TK prog w h' k a:=by
 obtain⟨o',items,n,ho',hc,hd,hi⟩:=x;have hne:a≠S:=by
  rintro rfl;obtain rfl:o'=o:=Option.some.inj (ho'.symm.trans ho);rw[hex.1] at hc;exact absurd hc (by simp)
 exact⟨o',items,n,(hs.2 a hne).trans ho',hc,hd,hi⟩
def qw(hs:Heap.SameBut S h h')(ho:h.get? S=some o)(hex:o.ExactSet)(x:fN prog w P h es ks):fN prog w P h' es ks :=
 ⟨x.1,fun i e k a b=>let ⟨c,d,f,g⟩:=x.2 i e k a b;⟨c,d,tk_same hs ho hex f,g⟩⟩
def pW{h:Heap}{S:Addr}{o:Obj}{es es':Array (Int × Value)}{ep:Nat}{t t':SetTable}(ho:h.get? S=some o)(hd:o.data=.set es ep t) :
  (h.update S (Obj.putSet es' t')).get? S=some { o with data:=.set es' (ep+1) t'}:=by
 have:=qbC (Obj.putSet es' t') ho (by rw[putSet_of es' t' hd];rfl)
 rw[putSet_of es' t' hd] at this;exact this
def xu(x:fN prog w P h es ks)(order:Array Nat)(hp:order.toList.Perm (List.range es.size)) :
  fN prog w P h (order.filterMap (es[·]?)) (order.toList.filterMap (ks[·]?))/\(order.toList.filterMap (ks[·]?)).Perm ks:=by
 have hlt:∀i,i∈order.toList->i<es.size:=fun i hi=>by simpa using hp.mem_iff.mp hi
 have h1:∀i,i∈order.toList->∃v,es[i]?=some v:=fun i hi=>dh es i (hlt i hi);have h2:∀i,i∈order.toList->∃v,ks[i]?=some v:=fun i hi=>⟨_,qas (by rw[<-x.1];exact hlt i hi)⟩;have e1:(order.filterMap (es[·]?)).toList=order.toList.filterMap (es[·]?):=by simp
 have p2:(order.toList.filterMap (ks[·]?)).Perm ks:=by
  have a:=hp.filterMap (ks[·]?);have b:(List.range es.size).filterMap (ks[·]?)=ks:=by
   have:=jC ks.toArray
   simp only[qaq,qbs] at this;rw[x.1];exact this
  rw[b] at a;exact a
 have p1:(order.toList.filterMap (es[·]?)).Perm es.toList:=by
  have a:=hp.filterMap (es[·]?);rw[jC] at a;exact a
 refine⟨⟨?_,?_⟩,p2⟩
 ·rw[<-qaD,e1,p1.length_eq,p2.length_eq,qaD,x.1]
 ·intro i e k he hk;rw[<-qar,e1,dP _ _ h1] at he;rw[dP _ _ h2] at hk
  cases ho:order.toList[i]? with
  | none=>rw[ho] at he;cases he
  | some q =>
   rw[ho] at he hk;exact x.2 q e k he hk
def grow1:SetTable.sizeAbove (SetTable.grown 5)=32:=by decide
def grow2:SetTable.sizeAbove (SetTable.grown 19)=128:=by decide
def rO{P:Addr->Prop}{S:Addr}{led:Bool}{o:Obj}{es:Array (Int × Value)}{ep:Nat}{t:SetTable}{ks:List (List Int)}{wanted M:Nat}{Q:Unit->Shared->Prop}
  (T:TTab prog w P s.heap S led o es ep t ks) (hfit:es.size<=t.mask) (hM:SetTable.sizeAbove wanted=M+1) (hMM:M=7\/M=31\/M=127) (hroom:es.size * 5<M * 3)
  (h:∀h' o' es' ep' t' ks',Heap.SameBut S s.heap h'->TTab prog w P h' S led o' es' ep' t' ks'->js t' es'.size->ks'.Perm ks->Q () { s with heap:=h'}) :
  wpAny (model prog w) A (setRelay S wanted) Q E s:=by
 obtain⟨pl,order,e1,w1,z1,p1,p2⟩:=laid_ok M (uN hMM) (fun e:Int × Value=>e.1) es (by lia) t.finger (t.movedTo M) t.led t.plain;have hre:t.relaid (es.map (·.1)) wanted=some ({ mask:=M,place:=pl,dummies:=#[],finger:=t.finger,led:=t.led,moves:=t.movedTo M,plain:=t.plain},order):=by
  unfold SetTable.relaid;rw[hM];exact e1
 unfold setRelay;refine qaa (wpAny_setState_of T.get T.data (T.fits hfit) ?_);dsimp only;have hsz:¬SetTable.sizeAbove wanted>sizeLine:=by
  rw[hM,sizeLine_eq];rcases hMM with h|h | h <;> rw[h] <;> decide
 rw[qan hsz,hre];have hz:es.size<=sizeLine:=by
  rw[sizeLine_eq];rcases hMM with h|h | h <;> lia
 refine qaa (?_:wpAny _ _ (if ((order.filterMap (es[·]?)).size != es.size)=true then _ else _) _ _ _);rw[qan (by simp[z1])];refine qag ?_;dsimp only;refine wpAny_storeSet_of T.get T.data ?_ (by rw[z1];exact hz);have sb:=Heap.SameBut.update s.heap S (Obj.putSet (order.filterMap (es[·]?)) { mask:=M,place:=pl,dummies:=#[],finger:=t.finger,led:=t.led,moves:=t.movedTo M,plain:=t.plain});obtain⟨n1,n2⟩:=xu T.ents order p2;refine h _ _ _ _ _ _ sb ⟨pW T.get T.data,T.ex,rfl,rfl,hMM,T.plain,T.led',w1,qw sb T.get T.ex n1⟩ ?_ n2;unfold js;rw[z1];exact hroom
def zi(x:fN prog w P h es ks)(hp:p<=es.size)(hk:TK prog w h k a)(hP:P a) :
  fN prog w P h (insertAt es p (TH prog w k,.ref a)) (ks.take p++k::ks.drop p):=by
 have hl:=x.1;refine⟨?_,?_⟩
 ·rw[cI _ _ _ hp];simp;lia
 ·intro i e k' he hk';rw[bY _ _ _ hp] at he;by_cases h1:i<p
  ·rw[qah h1] at he;rw[qao (by simp;lia),qbF h1] at hk';exact x.2 i e k' he hk'
  ·rw[qan h1] at he;rw[qaC (by simp;lia)] at hk';have hlen:(ks.take p).length=p:=by simp;lia
   rw[hlen] at hk';by_cases h2:i=p
   ·rw[qah h2] at he
    have:i - p=0:=by lia
    rw[this] at hk';simp at hk';cases he;subst hk';exact⟨a,rfl,hk,rfl,hP⟩
   ·rw[qan h2] at he;obtain⟨q,hq⟩:∃q,i - p=q+1:=⟨i - p - 1,by lia⟩;rw[hq,qcz,qce] at hk'
    have:p+q=i - 1:=by lia
    rw[this] at hk';exact x.2 (i - 1) e k' he hk'
def ze(p:Nat)(k:List Int):(ks.take p++k::ks.drop p).Perm (ks++[k]):=by
 have h1:(ks.take p++k::ks.drop p).Perm (k::(ks.take p++ks.drop p)):=qbM;rw[qbk] at h1;exact h1.trans (List.perm_append_singleton k ks).symm
def add_wp{P:Addr->Prop}{S a:Addr}{led:Bool}{ks:List (List Int)}{k:List Int}{Q:Bool->Shared->Prop}(hu:A.units<cLine)(T:cT prog w P s.heap S led ks)(hk:TK prog w s.heap k a)(hP:P a)
  (hsz:k∈ks\/ks.length<66)
  (h:∀b h',Heap.SameBut S s.heap h'->cT prog w P h' S led (if k∈ks then ks else ks++[k])->Q b { s with heap:=h'}) :
  wpAny (model prog w) A (setAddHashed S (.ref a) (TH prog w k)) Q E s:=by
 obtain⟨o,es,ep,t,ks',T,hr,hpm,hnd⟩:=T;unfold js at hr;have hfit:es.size<=t.mask:=by rcases T.mask with e|e | e <;> rw[e] at hr ⊢ <;> lia
 have hf:=T.fits hfit;have hps:t.place.size<=t.mask:=by rw[T.size];exact hfit
 obtain⟨n1,hn1,hno,hocc⟩:=wQ t.place T.wf.rise t.mask (uN T.mask) hps (TH prog w k);have hm128:t.mask<=127:=by rcases T.mask with e|e | e <;> lia
 have hlen:es.size=ks.length:=by rw[T.ents.1,hpm.length_eq]
 unfold setAddHashed;refine wpAny_holding ?_;show wpAny _ _ (setAddHashedIn S (.ref a) (TH prog w k) (99999+1)) _ _ _;unfold setAddHashedIn;refine qaa (wpAny_setState_of T.get T.data hf ?_);dsimp only;have hbs:byScan (.ref a) es=false:=rfl;rw[hbs];simp only[qaf,if_false];unfold setSearch;refine qaa (w8 (n1:=n1) (ks:=ks') hu T.get T.data hf T.dm T.odd T.wf T.ents hk hno hocc (by unfold turns;lia) ?_ ?_ 100000 0 none rfl (qaK _) (by lia) (fun m i hm=>absurd hm (qcL m)))
 ·intro hmem;have hmem':k∈ks:=hpm.mem_iff.mp hmem;dsimp only;refine qag ?_
  have:=h false s.heap (Heap.SameBut.refl _ _)
  rw[qah hmem'] at this;exact this ⟨o,es,ep,t,ks',T,hr,hpm,hnd⟩
 ·intro hmem;have hmem':k∉ks:=fun x=>hmem (hpm.mem_iff.mpr x);have hlt:ks.length<66:=hsz.resolve_left hmem';rw[qan hmem'] at h;dsimp only;refine qaa (wpAny_setState_of T.get T.data hf ?_);dsimp only;have hput:t.put (sl t.mask (TH prog w k) n1)=({ t with place:=insertAt t.place (below t.place (sl t.mask (TH prog w k) n1)) (sl t.mask (TH prog w k) n1)},below t.place (sl t.mask (TH prog w k) n1)):=by
   unfold SetTable.put;simp only[T.dm,u6,qaf,if_false]
  rw[hput];dsimp only;rw[qah T.plain];refine qaa (iO hk ?_);simp only[if_true];have hp:=(dy t.place (sl t.mask (TH prog w k) n1) T.wf.rise).1;have hp2:below t.place (sl t.mask (TH prog w k) n1)<=es.size:=by rw[<-T.size];exact hp
  have hz1:=cI es (below t.place (sl t.mask (TH prog w k) n1)) (TH prog w k,.ref a) hp2;refine qaa (wpAny_storeSet_of T.get T.data ?_ (by rw[hz1,sizeLine_eq];lia))
  have sb:=Heap.SameBut.update s.heap S (Obj.putSet (insertAt es (below t.place (sl t.mask (TH prog w k) n1)) (TH prog w k,.ref a))
   { t with place:=insertAt t.place (below t.place (sl t.mask (TH prog w k) n1)) (sl t.mask (TH prog w k) n1)})
  have T2:TTab prog w P (s.heap.update S (Obj.putSet (insertAt es (below t.place (sl t.mask (TH prog w k) n1)) (TH prog w k,.ref a))
    { t with place:=insertAt t.place (below t.place (sl t.mask (TH prog w k) n1)) (sl t.mask (TH prog w k) n1)})) S led
    { o with data:=.set (insertAt es (below t.place (sl t.mask (TH prog w k) n1)) (TH prog w k,.ref a)) (ep+1) { t with place:=insertAt t.place (below t.place (sl t.mask (TH prog w k) n1)) (sl t.mask (TH prog w k) n1)}}
    (insertAt es (below t.place (sl t.mask (TH prog w k) n1)) (TH prog w k,.ref a)) (ep+1)
    { t with place:=insertAt t.place (below t.place (sl t.mask (TH prog w k) n1)) (sl t.mask (TH prog w k) n1)}
    (ks'.take (below t.place (sl t.mask (TH prog w k) n1))++k::ks'.drop (below t.place (sl t.mask (TH prog w k) n1))):=by
   refine⟨pW T.get T.data,T.ex,rfl,T.dm,T.mask,T.plain,T.led',?_,qw sb T.get T.ex (zi T.ents hp2 hk hP)⟩;rw[rA];exact wf_put t.mask t.place (es.map (·.1)) T.wf (TH prog w k) n1 hno hocc
  have hpm2:(ks'.take (below t.place (sl t.mask (TH prog w k) n1))++k::ks'.drop (below t.place (sl t.mask (TH prog w k) n1))).Perm (ks++[k]):=(ze _ k).trans (hpm.append_right [k]);have hnd2:(ks++[k]).Nodup:=by
   rw[qbU];refine⟨hnd,by simp,fun x hx y hy=>?_⟩
   have:y=k:=by simpa using hy
   subst this;rintro rfl;exact hmem' hx
  have hfill:({ t with place:=insertAt t.place (below t.place (sl t.mask (TH prog w k) n1)) (sl t.mask (TH prog w k) n1)}:SetTable).fill=es.size+1:=by
   unfold SetTable.fill;rw[cI _ _ _ hp,T.size];simp[T.dm]
  by_cases hfull:({ t with place:=insertAt t.place (below t.place (sl t.mask (TH prog w k) n1)) (sl t.mask (TH prog w k) n1)}:SetTable).tooFull=true
  ·have hfull':(es.size+1) * 5>=t.mask * 3:=by
    unfold SetTable.tooFull at hfull;rw[hfill] at hfull;simpa using hfull
   rw[qah (by rw[hfull];rfl)];have hcase:(t.mask=7/\es.size=4)\/(t.mask=31/\es.size=18):=by
    rcases T.mask with e|e | e <;> rw[e] at hr hfull' <;> lia
   refine qaa (wpAny_mono (Q:=fun _ s'=>∃h',s'={ s with heap:=h'}/\Heap.SameBut S s.heap h'/\cT prog w P h' S led (ks++[k])) ?_ (fun u s' hq=>?_) fun _ _ x=>x)
   ·rcases hcase with ⟨c1,c2⟩|⟨c1,c2⟩
    ·have e5:es.size+1=5:=by lia
     rw[e5];refine rO (M:=31) (s:={ s with heap:=_}) T2 (by rw[hz1];show es.size+1<=t.mask;lia) grow1 (.inr (.inl rfl)) (by rw[hz1];lia) fun h' o' es' ep' t' ks2 sb2 T3 r3 p3=>?_;exact⟨h',rfl,sb.trans sb2,o',es',ep',t',ks2,T3,r3,p3.trans hpm2,hnd2⟩
    ·have e5:es.size+1=19:=by lia
     rw[e5];refine rO (M:=127) (s:={ s with heap:=_}) T2 (by rw[hz1];show es.size+1<=t.mask;lia) grow2 (.inr (.inr rfl)) (by rw[hz1];lia) fun h' o' es' ep' t' ks2 sb2 T3 r3 p3=>?_;exact⟨h',rfl,sb.trans sb2,o',es',ep',t',ks2,T3,r3,p3.trans hpm2,hnd2⟩
   ·obtain⟨h',rfl,q1,q2⟩:=hq;exact qag (h true h' q1 q2)
  ·have hfull':(es.size+1) * 5<t.mask * 3:=by
    unfold SetTable.tooFull at hfull;rw[hfill] at hfull;simpa using hfull
   rw[qan (by simpa using hfull)];refine qag (h true _ sb ⟨_,_,_,_,_,T2,?_,hpm2,hnd2⟩);unfold js;rw[hz1];exact hfull'
end
end SetT
namespace SetT
open PySem PySem.SetTable PyProof.Rows
def dL(acc:List (List Int))(k:List Int):List (List Int):=if k∈acc then acc else acc++[k]
def ded(l:List (List Int)):List (List Int):=l.foldl dL []
def zn(l:List (List Int))(k:List Int):ded (l++[k])=dL (ded l) k:=by
 unfold ded;rw[List.foldl_append];rfl
def xk(acc:List (List Int))(k:List Int):acc.length<=(dL acc k).length:=by
 unfold dL;split <;> simp
def ya(l:List (List Int)):∀acc:List (List Int),acc.length<=(l.foldl dL acc).length:=by
 induction l with
 | nil=>intro acc;exact qai _
 | cons k l ih=>intro acc;exact qaJ (xk acc k) (ih _)
def qT(l:List (List Int))(i:Nat):(ded (l.take i)).length<=(ded l).length:=by
 have h:ded l=(l.drop i).foldl dL (ded (l.take i)):=by
  unfold ded;rw[<-List.foldl_append,qbk]
 rw[h];exact ya _ _
def qC{l:List (List Int)}{i:Nat}{k:List Int}(h:l[i]?=some k):ded (l.take (i+1))=dL (ded (l.take i)) k:=by
 rw[qbO,h];exact zn _ _
def xq(x:List Int)(l:List (List Int)):∀acc:List (List Int),x∈l.foldl dL acc↔x∈acc\/x∈l:=by
 induction l with
 | nil=>intro acc;simp
 | cons k l ih =>
  intro acc;rw[qcl,ih];unfold dL;split
  ·rename_i h
   constructor
   ·rintro (h1|h1)
    ·exact .inl h1
    ·exact .inr (qae _ h1)
   ·rintro (h1|h1)
    ·exact .inl h1
    ·rcases qak.mp h1 with rfl|h2
     ·exact .inl h
     ·exact .inr h2
  ·constructor
   ·rintro (h1|h1)
    ·rcases qay.mp h1 with h2|h2
     ·exact .inl h2
     ·have:x=k:=by simpa using h2
      subst this;exact .inr qax
    ·exact .inr (qae _ h1)
   ·rintro (h1|h1)
    ·exact .inl (qaG _ h1)
    ·rcases qak.mp h1 with rfl|h2
     ·exact .inl (qaj _ (by simp))
     ·exact .inr h2
def lc(x:List Int)(l:List (List Int)):x∈ded l↔x∈l:=by
 unfold ded;rw[xq];simp
section
variable {prog:Program} {w:World} {A:Around} {E:Value→Shared→Prop} {s:Shared}
abbrev PB(H0:Heap)(R:Addr->Prop):Addr->Prop:=fun a=>(∃o,H0.get? a=some o)/\R a
def Ext(H0 h:Heap):Prop:=∀b o,H0.get? b=some o->h.get? b=some o
def kn(x:Ext H0 h)(t:TK prog w H0 k a):TK prog w h k a:=by
 obtain⟨o,items,n,ho,r⟩:=t;exact⟨o,items,n,x a o ho,r⟩
def uB{H0 h h':Heap}{RR:Addr->Prop}{S:Addr}{led:Bool}{ks:List (List Int)}(T:cT prog w (PB H0 RR) h S led ks)(hS:∀o,h.get? S=some o->h'.get? S=some o)
  (x:Ext H0 h) (x':Ext H0 h'):cT prog w (PB H0 RR) h' S led ks:=by
 obtain⟨o,es,ep,t,ks',T,r,p,n⟩:=T;refine⟨o,es,ep,t,ks',⟨hS o T.get,T.ex,T.data,T.dm,T.mask,T.plain,T.led',T.wf,T.ents.1,fun i e k a b=>?_⟩,r,p,n⟩;obtain⟨c,d,⟨oc,its,m,hc,q⟩,g,⟨ob,hb⟩,hR⟩:=T.ents.2 i e k a b;have e1:oc=ob:=Option.some.inj (hc.symm.trans (x c ob hb));subst e1;exact⟨c,d,⟨oc,its,m,x' c oc hb,q⟩,g,⟨oc,hb⟩,hR⟩
def Lie(prog:Program)(w:World)(H0:Heap)(items:Array Value)(ks:List (List Int)):Prop :=
 items.size=ks.length/\∀(i:Nat) (v:Value) (k:List Int),items[i]?=some v->ks[i]?=some k->∃a,v=.ref a/\TK prog w H0 k a
def vR{h:Heap}{S:Addr}{led:Bool}{P:Addr->Prop}{o:Obj}(ho:h.get? S=some o)(hex:o.ExactSet)(hd:o.data=.set #[] 0 (.fresh 0 0 led)):cT prog w P h S led []:=by
 refine⟨o,#[],0,.fresh 0 0 led,[],⟨ho,hex,hd,rfl,.inl rfl,rfl,rfl,⟨?_,?_,by simp[SetTable.fresh],?_⟩,rfl,?_⟩,?_,List.Perm.nil,qcO⟩
 ·intro a b u v _ h1;simp[SetTable.fresh] at h1
 ·intro i v h1;simp[SetTable.fresh] at h1
 ·intro i hh v h1;simp at h1
 ·intro i e k h1;simp at h1
 ·show 0 * 5<7 * 3;decide
def ul{RR:Addr->Prop}{R:Result->Shared->Prop}{I:Addr}{fp wr:List Addr}{G:Array GenState->Array GenState->Prop}{n:Nat}{P:Nat->Value->Prop}{St:Nat->Shared->Prop}
  (hu:A.units+1<cLine) (W:WalksS prog w A.in1 I fp wr G n P St) (S:Addr) (hSf:S∉fp) {H0:Heap} (h0S:H0.get? S=none) (h0w:∀b∈wr,H0.get? b=none) {led:Bool} (ks:List (List Int)) (hn:ks.length=n)
  (hval:∀i v k,P i v->ks[i]?=some k->∃a,v=.ref a/\TK prog w H0 k a/\RR a) (h66:(ded ks).length<=66) :
  ∀(c i:Nat) (s:Shared),n - i=c->i<=n->St i s->Ext H0 s.heap->cT prog w (PB H0 RR) s.heap S led (ded (ks.take i)) ->
   (∀s',Moved (S::wr) G s s'->Ext H0 s'.heap->cT prog w (PB H0 RR) s'.heap S led (ded ks)->R (.ok (.ret .none)) s') ->
   codeAny (model prog w) A (.builtin "set.update.loop" ⟨[.ref S,.ref I],[]⟩) R s:=by
 have hSw:S∉wr:=fun h=>hSf (W.sub _ h);have hsub:∀b∈wr,b∈S::wr:=fun b hb=>qae _ hb;have extM:∀{s s':Shared},Moved wr G s s'->Ext H0 s.heap->Ext H0 s'.heap:=fun {s s'} hm x b o e =>
  hm.heap b o (fun hb=>by rw[h0w b hb] at e;cases e) (x b o e)
 intro c
 induction c with
 | zero =>
  intro i s hc hi hst hx hT hRR;have e:i=n:=by lia
  subst e;refine codeAny_builtin F.entry_set_update_loop ?_;rw[Around.under_plainId F.plain_set_update_loop _];show wpAny _ A.in1 (pyNext (.ref I) >>= _) _ _ s;refine qaa (W.done s _ _ hst fun s' hm=>?_);show wpAny _ A.in1 (ret Value.none) _ _ s';rw[<-hn,qcD] at hT;exact qag (hRR s' (hm.mono hsub) (extM hm hx) (uB hT (fun o e=>hm.heap S o hSw e) hx (extM hm hx)))
 | succ c ih =>
  intro i s hc hi hst hx hT hRR;have hlt:i<n:=by lia
  refine codeAny_builtin F.entry_set_update_loop ?_;rw[Around.under_plainId F.plain_set_update_loop _];show wpAny _ A.in1 (pyNext (.ref I) >>= _) _ _ s;refine qaa (W.item i s _ _ hlt hst fun v s' hP hst' hm=>?_);obtain⟨k,hk⟩:∃k,ks[i]?=some k:=⟨_,qas (by lia)⟩;obtain⟨a,rfl,ha,hR⟩:=hval i v k hP hk;have hx':=extM hm hx;have hT':=uB hT (fun o e=>hm.heap S o hSw e) hx hx';have ha':=kn hx' ha;show wpAny _ A.in1 (holding [Value.ref a] (setAdd S (.ref a)) >>= _) _ _ s';refine qaa (wpAny_holding ?_);unfold setAdd;refine wpAny_holding ?_;refine qaa (wpAny_pyHash_tuple (by show A.units+1<cLine;exact hu) ha' ?_);have hsucc:=qC hk;refine add_wp (s:={ s' with toks:=s'.toks+(k.length+1)}) (by show A.units+1<cLine;exact hu) hT' ha' ⟨let ⟨o,_,_,ho,_⟩:=ha;⟨o,ho⟩,hR⟩ ?_ fun b h' sb hT2=>?_
  ·have h1:=qT ks (i+1);rw[hsucc] at h1;unfold dL at h1;by_cases hm':k∈ded (ks.take i)
   ·exact .inl hm'
   ·rw[qan hm'] at h1;simp at h1;exact .inr (by lia)
  ·have hx2:Ext H0 h':=fun q o e=>by
    have hq:q≠S:=by rintro rfl;rw[h0S] at e;cases e
    exact (sb.2 q hq).trans (hx' q o e)
   have hT3:cT prog w (PB H0 RR) h' S led (ded (ks.take (i+1))):=by rw[hsucc];exact hT2
   refine qag ⟨plainId_quiet F.plain_set_update_loop _,ih (i+1) _ (by lia) hlt (W.frame _ s' _ _ hst' (qcE _ _) fun b hb o e=>?_) hx2 hT3 fun s'' hm'' hx3 hT4=>?_⟩
   ·exact (sb.2 b (fun q:b=S=>hSf (by rw[<-q];exact hb))).trans e
   ·refine hRR s'' (Moved.trans W.gtrans ((hm.mono hsub).then_heap (qcE _ _) fun b o hb e=>?_) hm'') hx3 hT4;exact (sb.2 b (fun q:b=S=>hb (by rw[q];exact qax))).trans e
abbrev fQ(led:Bool):Obj:={ cls:=.type "set",dict:=none,data:=.set #[] 0 (.fresh 0 0 led)}
abbrev bA(w:World):Bool:=!w.params.followText "set-order"
def yU(a:Value)(h:Q₁ (.ref s.heap.objs.size) { s with heap:=s.heap.push (fQ (bA w))}) :
  codeAny (model prog w) A (.call (.builtin "set.__new__") ⟨[.type "set",a],[]⟩) (wants Q₁ E) s:=by
 refine codeAny_of_tree ?_;show wpAny _ A.in1 (checkBuiltinCall "set.__new__" ⟨[.type "set",a],[]⟩ >>= fun _=>again (.builtin "set.__new__" ⟨[.type "set",a],[]⟩)) _ _ s;refine qaa (wpAny_of_eq (PySem.F.newCall_set_1 a) (qag ⟨plainId_quiet PySem.F.plain_set_new _,codeAny_builtin PySem.F.entry_set_new ?_⟩));rw[Around.under_plainId PySem.F.plain_set_new _];unfold Builtin.«set.__new__» Builtin.Frozenset.newClass;have hsub:=sub_set_self;obtain⟨hp,g,d,tk,os⟩:=s;dsimp only
 wp_walk
 refine wpAny_askSetting (qag ?_);dsimp only;simp only[newObj];exact qaa (wpAny_alloc (qag (qag h)))
set_option maxHeartbeats 3200000 in
theorem qB(hh:A.handled=none)(hu:A.units+16<cLine)(hl:s.heap.IsList l items)
  (hk:Lie prog w s.heap items ks) (h66:(ded ks).length<=66)
  (h:∀(h':Heap) (tk:Nat),cT prog w (PB s.heap fun a=>Value.ref a∈items.toList) h' s.heap.objs.size (bA w) (ded ks)->Ext s.heap h'->s.toks<=tk->Q (.ref s.heap.objs.size) { s with heap:=h',toks:=tk}) :
  wpAny (model prog w) A (call (.type "set") [.ref l]) Q E s:=by
 obtain⟨c,tl,hmro⟩:=PySem.F.called_set.mro;have hmade:=PySem.F.called_set.made;have hsub:=PySem.F.called_set.sub;refine wpAny_call (codeAny_of_tree ?_);show wpAny _ _ (callAny (.type "set") _) _ _ _;refine qag ⟨Code.quiet_builtin _ (by decide +kernel),codeAny_builtin PySem.F.entry_type_call ?_⟩;rw[Around.under_plain (weight_type_call_type "set" [.ref l] []) rfl];have h1:=PySem.F.called_set.notType;have h2:=PySem.F.called_set.canCreate;have hct:=PySem.F.typeCall_set_1 (.ref l)
 repeat (any_goals (first | assumption | wp_step))
 refine codeAny_mono (yU (.ref l) (E:=E) (Q₁:=fun obj s₁=>obj=.ref s.heap.objs.size/\s₁={ s with heap:=s.heap.push (fQ (bA w))}) ⟨rfl,rfl⟩) fun r s₁ hr=>?_
 cases r with
 | error e=>exact hr
 | ok fl =>
  cases fl with
  | ret obj =>
   obtain⟨rfl,rfl⟩:=hr;have hS:(s.heap.push (fQ (bA w))).get? s.heap.objs.size=some (fQ (bA w)):=qap _ rfl;have hT:Shared.TypeIs { s with heap:=s.heap.push (fQ (bA w))} (.ref s.heap.objs.size) "set":=⟨_,hS,rfl⟩;have hli:=PySem.F.called_set.init.lookup;have hbi:=PySem.F.called_set.init.bind (.ref s.heap.objs.size)
   repeat (any_goals (first | assumption | wp_step))
   refine codeAny_mono (codeAny_call_builtin (R:=wants (fun r s₂=>r=.none/\∃h' tk,s₂={ s with heap:=h',toks:=tk} /\
     cT prog w (PB s.heap fun a=>Value.ref a∈items.toList) h' s.heap.objs.size (bA w) (ded ks)/\Ext s.heap h'/\s.toks<=tk) E) PySem.F.called_set.init.plain PySem.F.entry_set_init (check_set_init_1 hT ?_)) fun r₂ s₂ hr₂=>?_
   ·have hl0:=hl;obtain⟨ol,hol,hcl,nl,hdl⟩:=hl;obtain⟨ocls,odict,odata,oslots⟩:=ol;simp only at hcl hdl;subst hcl;subst hdl;have hol':(s.heap.push (fQ (bA w))).get? l=some { cls:=.type "list",dict:=odict,data:=.seq items nl,slots:=oslots}:=qab _ hol;have hsls:=PySem.F.sub_list_set;have hslf:=PySem.F.sub_list_frozenset;have hne:(Value.type "list" == Value.type "dict")=false:=by decide
    have hl1:(s.heap.push (fQ (bA w))).IsList l items:=⟨_,hol',rfl,nl,rfl⟩;unfold Builtin.«set.__init__» noKeywords Builtin.Frozenset.updateFrom;generalize hPI:pyIter=PI
    wp_walk
    subst hPI;refine wpAny_pyIter_list hl1 ?_;refine qaa (wpAny_runValue ?_);have hlS:l<s.heap.objs.size:=qal hol;have hh3:A.in1.in1.in1.handled=none:=by simp[hh]
    have hsz:(s.heap.push (fQ (bA w))).objs.size=s.heap.objs.size+1:=by rw[qbb]
    have hneI:l≠(s.heap.push (fQ (bA w))).objs.size:=by rw[hsz];exact qaF (qbH hlS)
    have hnone:∀b,s.heap.objs.size<=b->s.heap.get? b=none:=fun b hb=>by
     cases e:s.heap.get? b with
     | none=>rfl
     | some o=>exact absurd (qal e) (Nat.not_lt.mpr hb)
    have hSf:s.heap.objs.size∉[(s.heap.push (fQ (bA w))).objs.size,l]:=by
     rw[hsz];simp only[qak,qaW,or_false,not_or];exact⟨qaF (qbL _),qaT hlS⟩
    refine ul (RR:=fun a=>Value.ref a∈items.toList) (H0:=s.heap) (led:=bA w) (by show A.units+1+1+1<cLine;lia) ((Walks.list hh3 _ l hneI items).toS) s.heap.objs.size hSf (hnone _ (qai _)) ?_ ks hk.1.symm
     (fun i v k hv hk'=>let ⟨a,e,t⟩:=hk.2 i v k hv hk';⟨a,e,t,by rw[<-e];exact qaA.mpr ⟨i,by rw[qar];exact hv⟩⟩) h66 (items.size - 0) 0 _ (by lia) (qaK _) ⟨⟨_,qap _ rfl,rfl,rfl⟩,(hl1.push _)⟩ ?_ ?_ ?_
    ·intro b hb
     have:b=(s.heap.push (fQ (bA w))).objs.size:=by simpa using hb
     rw[this,hsz];exact hnone _ (qbY _)
    ·intro b o e;exact qab _ (qab _ e)
    ·exact vR (o:=fQ (bA w)) (qab _ hS) ⟨rfl,rfl,rfl⟩ rfl
    ·intro s' hm hx hT';obtain⟨h',g',d',tk',os'⟩:=s';have eg:g'=s.gens:=hm.gens;have ed:d'=s.drawn:=hm.drawn;have eo:os'=s.os:=hm.os;have et:s.toks<=tk':=hm.toks;subst eg;subst ed;subst eo;show wpAny _ _ _ _ _ _;refine qag ?_;show wpAny _ _ (ret Value.none) _ _ _;exact qag ⟨rfl,h',tk',rfl,hT',hx,et⟩
   ·cases r₂ with
    | error e=>exact hr₂
    | ok fl₂ =>
     cases fl₂ with
     | ret r =>
      obtain⟨rfl,h',tk,rfl,hT',hx,et⟩:=hr₂
      repeat (any_goals (first | assumption | wp_step))
      exact h _ _ hT' hx et
     | _=>exact hr₂.elim
  | _=>exact hr.elim
end
def cy:Slot "set_iterator" "__next__" "set_iterator.__next__" :=
 .of (owner:="set_iterator") (n:="__next__") (by rw[typeLookup_type,builtinLookup_eq_fast];kernel_rfl) (by decide +kernel) (by decide +kernel) (by decide +kernel) (.inl (by decide +kernel)) (by rw[isSubtype_type];kernel_rfl)
def kh:Slot "set_iterator" "__iter__" "set_iterator.__iter__" :=
 .of (owner:="set_iterator") (n:="__iter__") (by rw[typeLookup_type,builtinLookup_eq_fast];kernel_rfl) (by decide +kernel) (by decide +kernel) (by decide +kernel) (.inl (by decide +kernel)) (by rw[isSubtype_type];kernel_rfl)
def jQ:entryFor table "set_iterator.__next__"=some Builtin.«set_iterator.__next__»:=entryFor_of_fast (by kernel_rfl)
def qA:entryFor table "set_iterator.__iter__"=some Builtin.«dict_keyiterator.__iter__» :=
 entryFor_alias (id':="dict_keyiterator.__iter__") (by kernel_rfl) rfl (by decide +kernel) (by kernel_rfl)
def kO(a:Value):argsOk "set_iterator.__next__" ⟨[a],[]⟩:=by unfold argsOk;kernel_rfl
def tq(a:Value):argsOk "set_iterator.__iter__" ⟨[a],[]⟩:=by unfold argsOk;kernel_rfl
def tz:entryFor table "set.__iter__"=some Builtin.«frozenset.__iter__» :=
 entryFor_alias (id':="frozenset.__iter__") (by kernel_rfl) rfl (by decide +kernel) (by kernel_rfl)
def vD{α:Type}(l:List α)(i:Nat)(h:i<l.length):(l[i]::l.eraseIdx i).Perm l:=by
 rw[List.eraseIdx_eq_take_drop_succ];have e:l.take i++l[i]::l.drop (i+1)=l:=by rw[qcI h,qbk]
 exact qbM.symm.trans (List.Perm.of_eq e)
def pick_go(next:Nat->Nat):∀(fuel k:Nat) (left:List α) (out:Array α),left.length<=fuel->(pickOrder.go next fuel k left out).toList.Perm (out.toList++left):=by
 intro fuel
 induction fuel with
 | zero =>
  intro k left out h
  have:left=[]:=qbK.mp (by lia)
  subst this;unfold pickOrder.go;simp
 | succ f ih =>
  intro k left out h;unfold pickOrder.go
  cases left with
  | nil=>simp
  | cons x l =>
   have hlt:next k % (x::l).length<(x::l).length:=Nat.mod_lt _ (by simp)
   have hg:(x::l)[next k % (x::l).length]?=some ((x::l)[next k % (x::l).length]'hlt):=qas hlt;rw[hg];dsimp only;have hl:((x::l).eraseIdx (next k % (x::l).length)).length<=f:=by
    rw[List.length_eraseIdx_of_lt hlt];lia
   refine (ih (k+1) _ _ hl).trans ?_;rw[qbe,qbd];refine List.Perm.append_left _ ?_;have hp:(x::l).Perm ((x::l)[next k % (x::l).length]'hlt::(x::l).eraseIdx (next k % (x::l).length)):=(vD _ _ hlt).symm;exact hp.symm
def xQ(next:Nat->Nat)(xs:Array α):(pickOrder next xs).toList.Perm xs.toList:=by
 unfold pickOrder
 have:=pick_go next xs.size 0 xs.toList #[] (by simp)
 simpa using this
def vZ(xs:Array Nat)(hr:dU xs):below xs 0=0:=by
 obtain⟨h1,h2,_⟩:=dy xs 0 hr;by_cases h:below xs 0=0
 ·exact h
 ·exfalso;obtain⟨v,hv⟩:=dh xs 0 (by lia)
  have:=h2 0 v hv (by lia)
  lia
def v9(xs:Array Nat)(hr:dU xs)(i j:Nat)(h:xs[i]?=some j):below xs (j+1)=i+1:=by
 obtain⟨h1,h2,h3⟩:=dy xs (j+1) hr;have hi:=cH h;by_cases h4:below xs (j+1)<=i
 ·have:=h3 i j h h4;lia
 ·by_cases h5:i+1<below xs (j+1)
  ·obtain⟨v,hv⟩:=dh xs (i+1) (by lia);have a:=h2 (i+1) v hv h5;have b:=hr i (i+1) j v (by lia) h hv;lia
  ·lia
section
variable {prog:Program} {w:World} {A:Around} {E:Value→Shared→Prop} {s:Shared}
def bN(w:World)(S:Addr)(ep:Nat)(es:Array (Int × Value)):Array (Int × Value):=if w.params.followText "set-order" then pickOrder (w.params.setOrder S ep) es else es
def hV(w:World)(S:Addr)(ep:Nat)(es:Array (Int × Value)):(bN w S ep es).toList.Perm es.toList:=by
 unfold bN;split
 ·exact xQ _ _
 ·exact List.Perm.refl _
def SIt(w:World)(it S:Addr)(o:Obj)(es:Array (Int × Value))(ep:Nat)(t:SetTable)(i:Nat)(h:Heap):Prop :=
 h.get? S=some o/\∃slot:Nat,h.get? it=some { cls:=.type "set_iterator",dict:=none,data:=.fields #[.int slot 0,.int i 0,.ref S,.int es.size 0,.int ep 0],slots:=#[]} /\
  (w.params.followText "set-order"=false->below t.place slot=i)
end
section
variable {prog:Program} {w:World} {A:Around} {E:Value→Shared→Prop} {s:Shared} {S it:Addr} {o:Obj} {es:Array (Int × Value)} {ep:Nat} {t:SetTable} {ks:List (List Int)}
def oQ(hit:SIt w it S o es ep t i s.heap):s.TypeIs (.ref it) "set_iterator":=let ⟨_,_,h,_⟩:=hit;⟨_,h,rfl⟩
def Wkd(prog:Program)(w:World)(S:Addr)(o:Obj)(es:Array (Int × Value))(ep:Nat)(t:SetTable):Prop :=
 o.ExactSet/\o.data=.set es ep t/\t.dummies=#[]/\t.plain=true/\t.led=bA w/\dU t.place/\t.place.size=es.size/\es.size<=t.mask
def uG{i:Nat}{h:Heap}{slot:Nat}{Q:Option (Value × Nat)->Shared->Prop}(T:Wkd prog w S o es ep t)(ho:s.heap.get? S=some o)
  (hsl:w.params.followText "set-order"=false->below t.place slot=i)
  (h1:∀(x:Int × Value) slot',(bN w S ep es)[i]?=some x->(w.params.followText "set-order"=false->below t.place slot'=i+1)->Q (some (x.2,slot')) s)
  (h2:(bN w S ep es)[i]?=none->Q none s) :
  wpAny (model prog w) A (setNext S slot i ep) Q E s:=by
 obtain⟨T1,T2,T3,T4,T5,T6,T7,T8⟩:=T;have hf:t.fits es.size=true:=by
  unfold SetTable.fits SetTable.fill;simp[T7,T3];exact T8
 unfold setNext;refine qaa (wpAny_setState_of ho T2 hf ?_);dsimp only;unfold setsByText;refine qaa (qaa (wpAny_askSetting (qag ?_)));unfold bN at h1 h2
 cases hb:w.params.followText "set-order" with
 | true =>
  rw[hb] at h1 h2;simp only[if_true] at h1 h2;show wpAny _ _ (if w.params.followText "set-order"=true then _ else _) _ _ _;rw[hb];simp only[if_true,bne_self_eq_false,qaf,if_false];unfold setWalk;refine qaa (qaa (wpAny_setState_of ho T2 hf ?_));dsimp only;unfold setsByText;refine qaa (qaa (wpAny_askSetting (qag ?_)));show wpAny _ _ (if w.params.followText "set-order"=true then _ else _) _ _ _;rw[hb];simp only[if_true];refine qaa (wpAny_askSetting (qag ?_));refine qag ?_;show Q (((pickOrder (w.params.setOrder S ep) es)[i]?).map fun e=>(e.2,slot)) s
  cases hg:(pickOrder (w.params.setOrder S ep) es)[i]? with
  | none=>exact h2 hg
  | some x=>exact h1 x slot hg (fun z=>nomatch z)
 | false =>
  rw[hb] at h1 h2;simp only[qaf,if_false] at h1 h2;show wpAny _ _ (if w.params.followText "set-order"=true then _ else _) _ _ _;rw[hb];simp only[qaf,if_false];have hdr:¬((!t.plain && decide (es.size>1))=true):=by rw[T4];simp
  refine (?_:wpAny _ _ (if (!t.plain && decide (es.size>1))=true then _ else _) _ _ _);rw[qan hdr];have hld:¬((!t.led && !es.isEmpty)=true):=by rw[T5];simp[bA,hb]
  refine qaa (?_:wpAny _ _ (if (!t.led && !es.isEmpty)=true then _ else _) _ _ _);rw[qan hld];refine qag ?_;refine qag ?_;have hbl:=hsl hb;rw[hbl]
  cases he:es[i]? with
  | none=>exact h2 he
  | some x =>
   obtain⟨j,hj⟩:=dh t.place i (by rw[T7];exact cH he);rw[hj];exact h1 x (j+1) he (fun _=>v9 _ T6 i j hj)
def Wkd.fits(T:Wkd prog w S o es ep t):t.fits es.size=true:=by
 obtain⟨T1,T2,T3,T4,T5,T6,T7,T8⟩:=T;unfold SetTable.fits SetTable.fill;simp[T7,T3];exact T8
def uh{i:Nat}{x:Int × Value}{Q:Option Value->Shared->Prop}(T:Wkd prog w S o es ep t)(hne:S≠it)(hit:SIt w it S o es ep t i s.heap)(hx:(bN w S ep es)[i]?=some x)
  (hQ:∀h',SIt w it S o es ep t (i+1) h'->Heap.SameBut it s.heap h'->Q (some x.2) { s with heap:=h'}):wpAny (model prog w) A (pyNext (.ref it)) Q E s:=by
 have hT:=oQ hit;obtain⟨ho,slot,hi,hsl⟩:=hit;unfold pyNext;refine qaa (wpAny_attempt (wpAny_callSpecial?_slot (name:=Str.ofString "__next__") hT cy (wpAny_call_entry cy hT jQ ?_ (kO _))));unfold Builtin.«set_iterator.__next__»;refine qaa (m:=slotArgs "__next__" 0 _) (qag ?_);dsimp only;refine qaa (wpAny_fieldsOf hi rfl ?_);dsimp only;refine qaa (wpAny_setEntries_of ho T.2.1 T.fits ?_);rw[qan (by simp)];refine qaa ?_;rw[qbg,qbg,qbg];refine uG (h:=s.heap) T ho hsl (fun x' slot' e1 e2=>?_) (fun e1=>by rw[hx] at e1;cases e1);rw[hx] at e1;cases e1;dsimp only;refine qaa (wpAny_setField_rec hi (by simp) fun h1 g1 sb1=>?_);refine qaa (wpAny_setField_rec (s:={ s with heap:=h1}) g1 (by simp) fun h2 g2 sb2=>?_);refine qag ⟨_,rfl,qag (hQ h2 ⟨?_,slot',?_,e2⟩ (sb1.trans sb2))⟩
 ·rw[(sb1.trans sb2).2 S hne];exact ho
 ·exact g2
def vG{i:Nat}{Q:Option Value->Shared->Prop}(hh:A.handled=none)(T:Wkd prog w S o es ep t)(hit:SIt w it S o es ep t i s.heap)(hx:(bN w S ep es)[i]?=none)
  (hQ:∀h',Heap.ExtBut it s.heap h'->Q none { s with heap:=h'}):wpAny (model prog w) A (pyNext (.ref it)) Q E s:=by
 have hT:=oQ hit;obtain⟨ho,slot,hi,hsl⟩:=hit;unfold pyNext;refine qaa (wpAny_attempt (wpAny_callSpecial?_slot (name:=Str.ofString "__next__") hT cy (wpAny_call_entry cy hT jQ ?_ (kO _))));unfold Builtin.«set_iterator.__next__»;refine qaa (m:=slotArgs "__next__" 0 _) (qag ?_);dsimp only;refine qaa (wpAny_fieldsOf hi rfl ?_);dsimp only;refine qaa (wpAny_setEntries_of ho T.2.1 T.fits ?_);rw[qan (by simp)];refine qaa ?_;rw[qbg,qbg,qbg];refine uG (h:=s.heap) T ho hsl (fun x' slot' e1 e2=>by rw[hx] at e1;cases e1) (fun e1=>?_);dsimp only;refine qaa (wpAny_setField hi rfl (by simp) ?_);refine qaa ?_;simp only[newExc,newTuple];refine qaa (wpAny_newObj_type ?_ (by size_fits));refine qaa (m:=firstArgMember _ _) (wpAny_of_eq (a:=Value.none) (by first | rfl | (simp only[firstArgMember];rfl)) ?_);refine wpAny_newObj_type ?_ (by size_fits);simp only[raiseNew];refine qaa (wpAny_handled ?_);rw[show A.in1.handled=none from hh];refine qaa (qag (wpAny_throw ?_));refine qaa (wpAny_isInstance (T:="StopIteration") (b:=true) ⟨_,qap _ rfl,rfl⟩ isSubtype_stop ?_);exact qag (hQ _ (((Heap.SameBut.update ..).extBut.push _).push _))
def wW(hh:A.handled=none)(hne:S≠it)(T:Wkd prog w S o es ep t) :
  Walks prog w A it [it,S] [it] es.size (fun i v=>∃x,(bN w S ep es)[i]?=some x/\v=x.2) (fun i h=>SIt w it S o es ep t i h) where
 sub:=fun b hb=>by simp at hb;simp[hb]
 frame:=fun _ _ _ st hk=>⟨hk S (by simp) _ st.1,let ⟨slot,a,b⟩:=st.2;⟨slot,hk it (by simp) _ a,b⟩⟩
 item:=fun i s Q E hi st hQ=>by
  have hl:(bN w S ep es).size=es.size:=by
   rw[<-qaD,(hV w S ep es).length_eq,qaD]
  obtain⟨x,hx⟩:=dh (bN w S ep es) i (by lia);exact uh T hne st hx fun h' st' sb=>hQ _ h' s.toks ⟨x,hx,rfl⟩ st' fun b o hb e=>sb.extBut b o (fun h=>hb (by simp[h])) e
 done:=fun s Q E st hQ=>by
  have hl:(bN w S ep es).size=es.size:=by
   rw[<-qaD,(hV w S ep es).length_eq,qaD]
  exact vG hh T st (qbx (by lia)) fun h' he=>hQ h' s.toks fun b o hb e=>he b o (fun h=>hb (by simp[h])) e
 self:=fun _ s Q E st hQ=>by
  have hT:=oQ st;refine wpAny_pyIter_slot hT kh (wpAny_call_entry kh hT qA ?_ (tq _));show wpAny _ _ (ret (.ref it)) _ _ s;exact qag ⟨_,rfl,"set_iterator",_,hT,cy.lookup,hQ⟩
def wN(T:Wkd prog w S o es ep t)(ho:s.heap.get? S=some o)
  (hQ:Q (.ref s.heap.objs.size) { s with heap:=s.heap.push { cls:=.type "set_iterator",data:=.fields #[.int 0 0,.int 0 0,.ref S,.int es.size 0,.int ep 0]}}) :
  wpAny (model prog w) A (pyIter (.ref S)) Q E s:=by
 have hT:s.TypeIs (.ref S) "set":=⟨o,ho,T.1.1⟩;refine wpAny_pyIter_slot hT PySem.F.slot_set_iter (wpAny_call_entry PySem.F.slot_set_iter hT tz ?_ (PySem.F.args_set_iter_1 _));unfold Builtin.«frozenset.__iter__» Builtin.Frozenset.slot0;refine qaa (qaa (m:=slotArgs "__iter__" 0 _) (qag (qag ?_)));unfold Builtin.Frozenset.sizeOf;refine qaa (qaa (wpAny_setEntries_of ho T.2.1 T.fits (qag ?_)));unfold setDrawn;refine qaa (qaa (wpAny_setState_of ho T.2.1 T.fits ?_));dsimp only;unfold setsByText;refine qaa (qaa (wpAny_askSetting (qag (qag ?_))));have hdr:(!w.params.followText "set-order" && (!t.plain && decide (es.size>1)))=false:=by rw[T.2.2.2.1];simp
 refine (?_:wpAny _ _ (if (!w.params.followText "set-order" && (!t.plain && decide (es.size>1)))=true then _ else _) _ _ _);rw[qan (by rw[hdr];simp)];refine qaa (qag ?_);refine qaa (wpAny_setEpoch_of ho T.2.1 T.fits ?_);exact qaa (wpAny_newObj_type (qag ⟨_,rfl,"set_iterator",_,⟨_,qap _ rfl,rfl⟩,cy.lookup,hQ⟩))
end
section
variable {prog:Program} {w:World} {A:Around} {E:Value→Shared→Prop} {s:Shared} {S:Addr} {o:Obj} {es:Array (Int × Value)} {ep:Nat} {t:SetTable}
def qE:splitId "set.__len__"=some ("set","__len__"):=by kernel_rfl
def yR(hT:s.TypeIs (.ref S) "set")(hQ:Q false s):wpAny (model prog w) A (Builtin.List.listLengthHint (.ref S)) Q E s:=by
 unfold Builtin.List.listLengthHint;refine qaa (wpAny_specialOf hT PySem.F.slot_set_len.lookup ?_);dsimp only;rw[qE];dsimp only;refine qaa (wpAny_isInstance hT sub_set_self ?_);simp only[qbf,qaf,if_false];rw[qah (by decide +kernel)];refine qaa (wpAny_typeOf hT ?_);dsimp only;exact qag hQ
def sQ(hh:A.handled=none)(T:Wkd prog w S o es ep t)(ho:s.heap.get? S=some o)(hn:es.size<=sizeLine)
  (hQ:∀h' tk,Ext s.heap h'->s.heap.objs.size<h'.objs.size->s.toks<=tk->Q ((bN w S ep es).toList.map (·.2)) { s with heap:=h',toks:=tk}) :
  wpAny (model prog w) A (collect (.ref S)) Q E s:=by
 have hSlt:S<s.heap.objs.size:=qal ho;unfold collect;refine qaa (wpAny_runValue (codeAny_builtin PySem.F.entry_proto_collect ?_));rw[Around.under_plainId PySem.F.plain_proto_collect _];show wpAny _ A.in1 (newList [] >>= fun l=>again (.builtin "list.__iadd__" ⟨[l,.ref S],[]⟩)) _ _ s;refine qaa (wpAny_newObj_type ?_);refine qag ⟨plainId_quiet PySem.F.plain_list_iadd _,codeAny_builtin PySem.F.entry_list_iadd ?_⟩;rw[Around.under_plainId PySem.F.plain_list_iadd _];generalize hL:({ cls:=.type "list",data:=.seq ([]:List Value).toArray}:Obj)=oL;have hS1:(s.heap.push oL).get? S=some o:=qab _ ho;have hL1:(s.heap.push oL).get? s.heap.objs.size=some oL:=qap _ (by rw[<-hL];rfl);have hsz1:(s.heap.push oL).objs.size=s.heap.objs.size+1:=by rw[qbb]
 show wpAny _ A.in1 (Builtin.List.listExtendWith (.ref s.heap.objs.size) (.ref S) (.ref s.heap.objs.size)) _ _ { s with heap:=s.heap.push oL};unfold Builtin.List.listExtendWith;have hT1:Shared.TypeIs { s with heap:=s.heap.push oL} (.ref S) "set":=⟨o,hS1,T.1.1⟩;refine qaa (wpAny_typeOf hT1 ?_);have h1:Builtin.List.listSameRef (.ref s.heap.objs.size) (.ref S)=false:=by
  simp only[Builtin.List.listSameRef,beq_eq_false_iff_ne];exact qaT hSlt
 have h2:(Value.type "set" == Value.type "list")=false:=by decide
 have h3:(Value.type "set" == Value.type "tuple")=false:=by decide
 simp only[h1,h2,h3,Bool.or_false,qaf,if_false];refine qaa (wN (s:={ s with heap:=s.heap.push oL}) T hS1 ?_);generalize hI:({ cls:=.type "set_iterator",data:=.fields #[.int 0 0,.int 0 0,.ref S,.int es.size 0,.int ep 0]}:Obj)=oI;have hS2:((s.heap.push oL).push oI).get? S=some o:=qab _ hS1;have hL2:((s.heap.push oL).push oI).get? s.heap.objs.size=some oL:=qab _ hL1;have hI2:((s.heap.push oL).push oI).get? (s.heap.push oL).objs.size=some oI:=qap _ (by rw[<-hI];rfl);show wpAny _ A.in1 _ _ _ { s with heap:=(s.heap.push oL).push oI};have hT2:Shared.TypeIs { s with heap:=(s.heap.push oL).push oI} (.ref S) "set":=⟨o,hS2,T.1.1⟩;refine qaa (wpAny_holding (yR hT2 ?_));rw[qah (by decide +kernel)];refine qaa (wpAny_rule ?_);refine qaa ?_;show wpAny _ A.in1 (updateSeq s.heap.objs.size (·.push .none) >>= fun _=>updateSeq s.heap.objs.size (·.pop)) _ _ _;subst hL;refine qaa (wpAny_updateSeq hL2 rfl ?_);have hS₂:=qbC (Obj.mapSeq (·.push Value.none)) hL2 rfl;refine wpAny_updateSeq hS₂ rfl ?_;have hS₃:=qbC (Obj.mapSeq (·.pop)) hS₂ rfl;have oth:∀b o',b≠s.heap.objs.size->((s.heap.push { cls:=.type "list",data:=.seq ([]:List Value).toArray}).push oI).get? b=some o' ->
   ((((s.heap.push { cls:=.type "list",data:=.seq ([]:List Value).toArray}).push oI).update s.heap.objs.size (Obj.mapSeq (·.push Value.none))).update s.heap.objs.size (Obj.mapSeq (·.pop))).get? b=some o' :=
  fun b o' hb e=>(qbP _ _ (Ne.symm hb)).trans ((qbP _ _ (Ne.symm hb)).trans e)
 have hneI:s.heap.objs.size≠(s.heap.push { cls:=.type "list",data:=.seq ([]:List Value).toArray}).objs.size:=by
  rw[hsz1];exact qaF (qbL _)
 have hneS:S≠(s.heap.push { cls:=.type "list",data:=.seq ([]:List Value).toArray}).objs.size:=by
  rw[hsz1];exact qaF (qbH hSlt)
 have hW:=(wW (A:=A.in1) (it:=(s.heap.push { cls:=.type "list",data:=.seq ([]:List Value).toArray}).objs.size) hh hneS T).toS;have hSf:s.heap.objs.size∉[(s.heap.push { cls:=.type "list",data:=.seq ([]:List Value).toArray}).objs.size,S]:=by
  simp only[qak,qaW,or_false,not_or];exact⟨hneI,qaT hSlt⟩
 refine qag ⟨plainId_quiet PySem.F.plain_extend_loop _,codeAny_extend_loopS hW hn _ hSf _ es.size 0 _ _ _ rfl (qaK _) ?_ hS₃ (ItemsOf.nil _) fun s' acc' c' hm hS' hacc=>?_⟩
 ·refine⟨oth S _ (qaF hSlt) hS2,0,?_,fun _=>vZ _ T.2.2.2.2.2.1⟩;subst hI;exact oth _ _ (Ne.symm hneI) hI2
 ·show wpAny _ A (load s.heap.objs.size >>= _) _ _ s';refine qaa (wpAny_load hS' ?_);refine qag ?_;have hacc2:acc'.toList=(bN w S ep es).toList.map (·.2):=by
   have hl:(bN w S ep es).size=es.size:=by
    rw[<-qaD,(hV w S ep es).length_eq,qaD]
   apply qbI;intro i;by_cases hi:i<es.size
   ·obtain⟨v,hv⟩:=dh acc' i (by rw[hacc.1];exact hi);obtain⟨x,hx,e⟩:=hacc.2 i v hv;rw[qar,hv,qaw,qar,hx,e];rfl
   ·rw[qaR (by rw[qaD,hacc.1];lia),qaR (by rw[qaB,qaD,hl];lia)]
  rw[hacc2];obtain⟨h',g',d',tk',os'⟩:=s';have eg:g'=s.gens:=hm.gens;have ed:d'=s.drawn:=hm.drawn;have eo:os'=s.os:=hm.os;have et:s.toks<=tk':=hm.toks;subst eg;subst ed;subst eo;refine hQ h' tk' (fun b o' e=>?_) (qal hS') et;have hb:b<s.heap.objs.size:=qal e;refine hm.heap b o' ?_ (oth b o' (qaF hb) (qab _ (qab _ e)));simp only[qak,qaW,or_false,not_or];exact⟨qaF hb,by rw[hsz1];exact qaF (qbH hb)⟩
def ui(hh:A.handled=none)(T:cT prog w (PB H0 R) s.heap S (bA w) ks)(hx:Ext H0 s.heap)
  (hQ:∀h' tk vs ks',Ext s.heap h'->s.heap.objs.size<h'.objs.size->s.toks<=tk->Lie prog w H0 (List.toArray vs) ks'->(∀v∈vs,∃a,v=.ref a/\R a)->ks'.Perm ks->Q vs { s with heap:=h',toks:=tk}) :
  wpAny (model prog w) A (collect (.ref S)) Q E s:=by
 obtain⟨o,es,ep,t,ks1,T,hr,hpm,hnd⟩:=T;unfold js at hr;have hfit:es.size<=t.mask:=by rcases T.mask with e|e | e <;> rw[e] at hr ⊢ <;> lia
 have hmm:t.mask<=127:=by rcases T.mask with e|e | e <;> lia
 refine sQ hh ⟨T.ex,T.data,T.dm,T.plain,T.led',T.wf.rise,T.size,hfit⟩ T.get (by rw[sizeLine_eq];lia) fun h' tk e1 e3 e2=>?_;have hp:=hV w S ep es;have hents:∀e∈es.toList,∃k a,e.2=.ref a/\TK prog w H0 k a/\R a:=by
  intro e he;obtain⟨i,hi⟩:=qaA.mp he;rw[qar] at hi;obtain⟨k,hk⟩:∃k,ks1[i]?=some k:=⟨_,qas (by rw[<-T.ents.1];exact cH hi)⟩;obtain⟨c,d,⟨oc,its,m,hc,q⟩,g,⟨ob,hb⟩,hR⟩:=T.ents.2 i e k hi hk;have e3:oc=ob:=Option.some.inj (hc.symm.trans (hx c ob hb));subst e3;exact⟨k,c,d,⟨oc,its,m,hb,q⟩,hR⟩
 let ky:Int × Value->List Int:=fun e=>Classical.epsilon fun k=>∃a,e.2=.ref a/\TK prog w H0 k a
 have hky:∀e∈es.toList,∃a,e.2=.ref a/\TK prog w H0 (ky e) a:=by
  intro e he;obtain⟨k,a,h1,h2,_⟩:=hents e he;exact Classical.epsilon_spec (p:=fun k=>∃a,e.2=.ref a/\TK prog w H0 k a) ⟨k,a,h1,h2⟩
 have hmap:es.toList.map ky=ks1:=by
  apply qbI;intro i;rw[qaw,qar]
  cases hi:es[i]? with
  | none =>
   have:ks1.length<=i:=by
    rw[<-T.ents.1]
    have:=qbW.mp hi
    lia
   rw[qaR this];rfl
  | some e =>
   obtain⟨k,hk⟩:∃k,ks1[i]?=some k:=⟨_,qas (by rw[<-T.ents.1];exact cH hi)⟩;obtain⟨c,d,hc,g,⟨ob,hb⟩,_⟩:=T.ents.2 i e k hi hk;have he:e∈es.toList:=qaA.mpr ⟨i,by rw[qar];exact hi⟩;obtain⟨a,h1,h2⟩:=hky e he;rw[d] at h1;cases h1;have h3:=kn hx h2;rw[hk];show some (ky e)=some k;rw[IsTupleKey.inj h3 hc]
 refine hQ h' tk _ ((bN w S ep es).toList.map ky) e1 e3 e2 ⟨by simp,?_⟩ ?_ ?_
 ·intro i v k hv hk;rw[qbs,qaw] at hv;rw[qaw] at hk
  cases hi:(bN w S ep es).toList[i]? with
  | none=>rw[hi] at hv;cases hv
  | some e =>
   rw[hi] at hv hk;cases hv;cases hk;exact hky e (hp.mem_iff.mp (qaV hi))
 ·intro v hv;obtain⟨e,he,rfl⟩:=qav.mp hv;obtain⟨k,a,h1,_,h3⟩:=hents e (hp.mem_iff.mp he);exact⟨a,h1,h3⟩
 ·have:=hp.map ky
  rw[hmap] at this;exact this.trans hpm
end
end SetT
namespace SortT
open PySem PyProof.Rows
structure Cmp (prog:Program) (w:World) (A:Around) (E:Value->Shared->Prop) (s:Shared) (kd:SortKind) (O:KeyOrd) where
 key:Keyed->O.α
 dflt:O.α
 good:Keyed->Prop
 ask:∀(x y:Keyed) (st:SortSt) (Q:Option Bool->SortSt->Prop),good x->good y->kindOf st=kd->Q (some (O.blt (key x) (key y))) st->wpS (model prog w) A E s (lt' x y) Q st
section
variable {prog:Program} {w:World} {A:Around} {E:Value→Shared→Prop} {s:Shared} {kd:SortKind} {O:KeyOrd} (C:Cmp prog w A E s kd O)
def kk(xs:Array Keyed)(i:Nat):O.α:=match xs[i]? with
 | some p=>C.key p
 | none=>C.dflt
def Srt(xs:Array Keyed)(lo hi:Nat):Prop:=∀i j,lo<=i->i<=j->j<hi->O.kle (kk C xs i) (kk C xs j)
def Fal(xs:Array Keyed)(lo hi:Nat):Prop:=∀i j,lo<=i->i<=j->j<hi->O.kle (kk C xs j) (kk C xs i)
def ce(xs:Array Keyed):Prop:=∀p,p∈xs.toList->C.good p
structure SB (kd:SortKind) (a₀:Array Keyed) (st:SortSt):Prop where
 perm:(arrOf st).Perm a₀
 kind:kindOf st=kd
 failed:failedOf st=none
def ci(lo:Nat)(xs ys:Array Keyed):Prop:=∀i,i<lo->ys[i]?=xs[i]?
def ci.rfl'{lo:Nat}{xs:Array Keyed}:ci lo xs xs:=fun _ _=>rfl
def ci.trans{lo:Nat}{xs ys zs:Array Keyed}(h:ci lo xs ys)(g:ci lo ys zs):ci lo xs zs:=fun i hi=>(g i hi).trans (h i hi)
variable {C} {a₀:Array Keyed} {st:SortSt}
def SB.size(h:SB kd a₀ st):(arrOf st).size=a₀.size:=h.perm.size_eq
def SB.arr(h:SB kd a₀ st)(hp:xs.Perm (arrOf st)):SB kd a₀ (setArr st xs):=⟨hp.trans h.perm,h.kind,h.failed⟩
def SB.good(h:SB kd a₀ st)(h0:ce C a₀):ce C (arrOf st):=fun p hp=>h0 p ((qbA.mp h.perm).mem_iff.mp hp)
def d4(h:xs[i]?=ys[j]?):kk C xs i=kk C ys j:=by unfold kk;rw[h]
def aJ(h:xs[i]?=some p):kk C xs i=C.key p:=by unfold kk;rw[h]
def be{xs:Array Keyed}(g:ce C xs){i:Nat}{p:Keyed}(h:xs[i]?=some p):C.good p:=by
 refine g p (qaA.mpr ⟨i,?_⟩);rw[qar];exact h
def aM(hi:i<xs.size)(h:∀p,xs[i]?=some p->Q p st):wpS (model prog w) A E s (elem' xs i) Q st:=by
 rw[elem'_eq];have e:xs[i]?=some xs[i]:=getElem?_pos xs i hi;rw[e];exact wpS_pure (h _ e)
def jV{i j:Nat}{Q:Option Bool->SortSt->Prop}(hB:SB kd a₀ st)(h0:ce C a₀)(hi:i<a₀.size)(hj:j<a₀.size)
  (h:Q (some (O.blt (kk C (arrOf st) i) (kk C (arrOf st) j))) st):wpS (model prog w) A E s (ltAt' i j) Q st:=by
 rw[ltAt'_eq];refine wpS_bind (wpS_get ?_);refine wpS_bind (aM (by rw[hB.size];exact hi) fun x hx=>wpS_bind (aM (by rw[hB.size];exact hj) fun y hy=>?_));rw[aJ hx,aJ hy] at h;exact C.ask x y st Q (be (hB.good h0) hx) (be (hB.good h0) hy) hB.kind h
def qd(hs:src<xs.size)(hd:d<=src)(i:Nat) :
  kk C (bubble xs src d) i=if i=src - d then kk C xs src else if src - d<i/\i<=src then kk C xs (i - 1) else kk C xs i:=by
 have e:=getElem?_bubble hs d hd i;split
 ·next h1=>rw[qah h1] at e;exact d4 e
 ·next h1 =>
  rw[qan h1] at e;split
  ·next h2=>rw[qah h2] at e;exact d4 e
  ·next h2=>rw[qan h2] at e;exact d4 e
def jT(hj:j<=xs.size)(q:Nat) :
  kk C (mirror xs i j ((j - i) / 2)) q=if i<=q/\q<j then kk C xs (i+j - 1 - q) else kk C xs q:=by
 have e:=getElem?_mirror_all (i:=i) hj q;split
 ·next h1=>rw[qah h1] at e;exact d4 e
 ·next h1=>rw[qan h1] at e;exact d4 e
def di(hj:j<=xs.size)(heq:∀q,i<=q->q<j->kk C xs q=kk C xs (j - 1))(q:Nat) :
  kk C (mirror xs i j ((j - i) / 2)) q=kk C xs q:=by
 rw[jT hj];split
 ·next h=>rw[heq (i+j - 1 - q) (by lia) (by lia),heq q h.1 h.2]
 ·rfl
def ff{xs:Array Keyed}{lo i j:Nat}(hj:j<=xs.size)(h:lo<=i):ci lo xs (mirror xs i j ((j - i) / 2)):=fun q hq=>by
 rw[getElem?_mirror_all hj,qan (by lia)]
def ua{xs:Array Keyed}{lo src d:Nat}(hs:src<xs.size)(hd:d<=src)(h:lo<=src - d):ci lo xs (bubble xs src d):=fun q hq=>by
 rw[getElem?_bubble hs d hd,qan (by lia),qan (by lia)]
abbrev AS:=Option (Option Nat) × Nat
abbrev DS:=Option (Option Nat) × Nat × Nat
def ja(p a nrem:Nat):StateT SortSt Sem AS :=
 forIn [a:nrem] ((none,a):AS) fun _ c=>do
  let q <-ltAt' (p+c.2) (p+c.2 - 1)
  match q with
  | some z=>if z=true then pure (ForInStep.done (none,c.2)) else pure (ForInStep.yield (none,c.2+1))
  | _=>pure (ForInStep.done (some none,c.2))
def r9(p n nrem:Nat):StateT SortSt Sem (Option Nat):=do
 reverseSlice' p (p+n)
 let c <-ja p n nrem
 match c.1 with
 | some r=>pure r
 | none=>pure (some c.2)
def tD(p n nrem:Nat):StateT SortSt Sem DS :=
 forIn [n:nrem] ((none,n,0):DS) fun _ c=>do
  let q <-ltAt' (p+c.2.1) (p+c.2.1 - 1)
  match q with
  | some z =>
   if z=true then
    if c.2.2>0 then do
     reverseSlice' (p+c.2.1 - (c.2.2+1)) (p+c.2.1)
     pure (ForInStep.yield (none,c.2.1+1,0))
    else pure (ForInStep.yield (none,c.2.1+1,0))
   else do
    let q <-ltAt' (p+c.2.1 - 1) (p+c.2.1)
    match q with
    | some z=>if z=true then pure (ForInStep.done (none,c.2.1,c.2.2)) else pure (ForInStep.yield (none,c.2.1+1,c.2.2+1))
    | _=>pure (ForInStep.done (some none,c.2.1,c.2.2))
  | _=>pure (ForInStep.done (some none,c.2.1,c.2.2))
def sB(p n nrem:Nat):StateT SortSt Sem (Option Nat):=do
 liftM (rule "list.sort.descending-run")
 let c <-tD p (n+1) nrem
 match c.1 with
 | some r=>pure r
 | none =>
  if c.2.2>0 then do
   reverseSlice' (p+c.2.1 - (c.2.2+1)) (p+c.2.1)
   r9 p c.2.1 nrem
  else r9 p c.2.1 nrem
def run_eq(p nrem:Nat):countRun' p nrem=(do
  let c <-ja p 1 nrem
  match c.1 with
  | some r=>pure r
  | none =>
   if (c.2 == nrem)=true then pure (some c.2)
   else if c.2>1 then do
    let q <-ltAt' p (p+c.2 - 1)
    match q with
    | some z=>if z=true then pure (some c.2) else do
      reverseSlice' p (p+c.2)
      sB p c.2 nrem
    | _=>pure none
   else sB p c.2 nrem):=by
 rw[countRun'_eq];unfold sB r9;refine congrArg (fun g=>ja p 1 nrem >>= g) (funext fun c=>?_);obtain⟨r,n⟩:=c
 cases r with
 | some r=>rfl
 | none =>
  dsimp only;split
  ·rfl
  ·split
   ·congr 1;funext x
    cases x with
    | none=>rfl
    | some z =>
     dsimp only;split
     ·rfl
     ·refine congrArg _ (funext fun _=>?_);refine congrArg _ (funext fun _=>?_);refine congrArg (fun g=>tD p (n+1) nrem >>= g) (funext fun c2=>?_);obtain⟨r2,n2,q2⟩:=c2
      cases r2 with
      | some r2=>rfl
      | none =>
       dsimp only;split
       ·refine congrArg _ (funext fun _=>?_);refine congrArg _ (funext fun _=>?_);refine congrArg (fun g=>ja p n2 nrem >>= g) (funext fun c3=>?_);obtain⟨r3,n3⟩:=c3;cases r3 <;> rfl
       ·refine congrArg _ (funext fun _=>?_);refine congrArg (fun g=>ja p n2 nrem >>= g) (funext fun c3=>?_);obtain⟨r3,n3⟩:=c3;cases r3 <;> rfl
   ·refine congrArg _ (funext fun _=>?_);refine congrArg (fun g=>tD p (n+1) nrem >>= g) (funext fun c2=>?_);obtain⟨r2,n2,q2⟩:=c2
    cases r2 with
    | some r2=>rfl
    | none =>
     dsimp only;split
     ·refine congrArg _ (funext fun _=>?_);refine congrArg _ (funext fun _=>?_);refine congrArg (fun g=>ja p n2 nrem >>= g) (funext fun c3=>?_);obtain⟨r3,n3⟩:=c3;cases r3 <;> rfl
     ·refine congrArg _ (funext fun _=>?_);refine congrArg (fun g=>ja p n2 nrem >>= g) (funext fun c3=>?_);obtain⟨r3,n3⟩:=c3;cases r3 <;> rfl
def u7(h0:ce C a₀)(hn:p+nrem<=a₀.size)(ha:1<=a)(han:a<=nrem)(hB:SB kd a₀ st)
  (hs:Srt C (arrOf st) p (p+a))
  (h:∀n,a<=n->n<=nrem->Srt C (arrOf st) p (p+n)->(n=nrem\/O.klt (kk C (arrOf st) (p+n)) (kk C (arrOf st) (p+n - 1)))->Q (none,n) st) :
  wpS (model prog w) A E s (ja p a nrem) Q st:=by
 unfold ja;refine wpS_forRange (I:=fun x c st'=>st'=st/\c=(none,x)/\Srt C (arrOf st) p (p+x)) ?_ ?_ ⟨rfl,rfl,hs⟩
 ·rintro x c st' h1 h2 ⟨rfl,rfl,h3⟩;refine wpS_bind (jV hB h0 (by lia) (by lia) ?_)
  cases hz:O.blt (kk C (arrOf st') (p+x)) (kk C (arrOf st') (p+x - 1)) with
  | true=>exact wpS_pure (h x h1 (by lia) h3 (.inr hz))
  | false =>
   refine wpS_pure ⟨rfl,rfl,fun i j hi hij hj=>?_⟩;by_cases hjx:j<p+x
   ·exact h3 i j hi hij hjx
   ·have e:j=p+x:=by lia
    subst e;by_cases hi':i=p+x
    ·subst hi';exact KeyOrd.kle_refl _
    ·exact KeyOrd.kle_trans (h3 i (p+x - 1) hi (by lia) (by lia)) hz
 ·rintro c st' ⟨rfl,rfl,h3⟩;have e:max a nrem=nrem:=by lia
  rw[e] at h3 ⊢;exact h nrem han (qai _) h3 (.inl rfl)
def k8(h:Q () (setArr st (mirror (arrOf st) i j ((j - i) / 2)))):wpS (model prog w) A E s (reverseSlice' i j) Q st:=by
 rw[reverseSlice'_eq];exact wpS_modify h
def u5(h0:ce C a₀)(hn:p+nrem<=a₀.size)(h1:1<=n)(hnn:n<=nrem)(hB:SB kd a₀ st)
  (hs:Fal C (arrOf st) p (p+n))
  (h:∀m st',SB kd a₀ st'->ci p (arrOf st) (arrOf st')->pendingOf st'=pendingOf st->1<=m->m<=nrem->Srt C (arrOf st') p (p+m)->Q (some m) st') :
  wpS (model prog w) A E s (r9 p n nrem) Q st:=by
 unfold r9;have hsz:p+n<=(arrOf st).size:=by rw[hB.size];lia
 refine wpS_bind (k8 ?_);have hB':=hB.arr (mirror_perm (arrOf st) p (p+n) ((p+n - p) / 2));refine wpS_bind (u7 h0 hn h1 hnn hB' (fun i j hi hij hj=>?_) fun m a1 a2 a3 _=>wpS_pure (h m _ hB' (ff hsz (qai _)) rfl (by lia) a2 a3));show O.kle (kk C (mirror _ _ _ _) i) (kk C (mirror _ _ _ _) j);rw[jT hsz,jT hsz,qah (by lia),qah (by lia)];exact hs _ _ (by lia) (by lia) (by lia)
def wps_dsc{p n nrem:Nat}{Q:DS->SortSt->Prop}(h0:ce C a₀)(hn:p+nrem<=a₀.size)(h1:1<=n)(hnn:n<=nrem)(hB:SB kd a₀ st)(hs:Fal C (arrOf st) p (p+n))
  (h:∀m q st',SB kd a₀ st'->ci p (arrOf st) (arrOf st')->pendingOf st'=pendingOf st->n<=m->m<=nrem->Fal C (arrOf st') p (p+m)->q+1<=m ->
   (∀i,p+m - (q+1)<=i->i<p+m->kk C (arrOf st') i=kk C (arrOf st') (p+m - 1))->Q (none,m,q) st') :
  wpS (model prog w) A E s (tD p n nrem) Q st:=by
 unfold tD
 refine wpS_forRange (I:=fun x c st'=>∃q,c=(none,x,q)/\SB kd a₀ st'/\ci p (arrOf st) (arrOf st')/\pendingOf st'=pendingOf st/\Fal C (arrOf st') p (p+x)/\q+1<=x /\
   ∀i,p+x - (q+1)<=i->i<p+x->kk C (arrOf st') i=kk C (arrOf st') (p+x - 1)) ?_ ?_ ⟨0,rfl,hB,ci.rfl',rfl,hs,by lia,fun i a b=>by congr 1;lia⟩
 ·rintro x c st' hx1 hx2 ⟨q,rfl,hB',hsm,hpd,hf,hq,he⟩;have hsz:p+x<=(arrOf st').size:=by rw[hB'.size];lia
  have grow:∀xs:Array Keyed,(∀i,kk C xs i=kk C (arrOf st') i)->O.kle (kk C (arrOf st') (p+x)) (kk C (arrOf st') (p+x - 1))->Fal C xs p (p+(x+1)):=by
   intro xs hk hle i j hi hij hj;rw[hk,hk];by_cases hjx:j<p+x
   ·exact hf i j hi hij hjx
   ·have e:j=p+x:=by lia
    subst e;by_cases hi':i=p+x
    ·subst hi';exact KeyOrd.kle_refl _
    ·exact KeyOrd.kle_trans hle (hf i (p+x - 1) hi (by lia) (by lia))
  dsimp only;refine wpS_bind (jV hB' h0 (by lia) (by lia) ?_)
  cases hz:O.blt (kk C (arrOf st') (p+x)) (kk C (arrOf st') (p+x - 1)) with
  | true =>
   dsimp only;rw[qah rfl];by_cases hq0:q>0
   ·rw[qah hq0];refine wpS_bind (k8 (wpS_pure ⟨0,rfl,hB'.arr (mirror_perm _ _ _ _),hsm.trans (ff hsz (by lia)),hpd,grow _ (di hsz he) (KeyOrd.kle_of_klt hz),by lia,fun i a b=>by congr 1;lia⟩))
   ·rw[qan hq0];exact wpS_pure ⟨0,rfl,hB',hsm,hpd,grow _ (fun _=>rfl) (KeyOrd.kle_of_klt hz),by lia,fun i a b=>by congr 1;lia⟩
  | false =>
   dsimp only;rw[qan (by simp)];refine wpS_bind (jV hB' h0 (by lia) (by lia) ?_)
   cases hz2:O.blt (kk C (arrOf st') (p+x - 1)) (kk C (arrOf st') (p+x)) with
   | true =>
    dsimp only;rw[qah rfl];exact wpS_pure (h x q st' hB' hsm hpd hx1 (by lia) hf hq he)
   | false =>
    dsimp only;rw[qan (by simp)];have heq:kk C (arrOf st') (p+x)=kk C (arrOf st') (p+x - 1):=KeyOrd.kle_antisymm hz2 hz;refine wpS_pure ⟨q+1,rfl,hB',hsm,hpd,grow _ (fun _=>rfl) hz2,by lia,fun i a b=>?_⟩;have e1:p+(x+1) - 1=p+x:=by lia
    rw[e1];by_cases hix:i=p+x
    ·subst hix;rfl
    ·rw[heq];exact he i (by lia) (by lia)
 ·rintro c st' ⟨q,rfl,hB',hsm,hpd,hf,hq,he⟩;have e:max n nrem=nrem:=by lia
  rw[e] at hf hq he ⊢;exact h nrem q st' hB' hsm hpd hnn (qai _) hf hq he
def sF{p n nrem:Nat}{Q:Option Nat->SortSt->Prop}(h0:ce C a₀)(hn:p+nrem<=a₀.size)(hnn:n+1<=nrem)(hB:SB kd a₀ st)(hs:Fal C (arrOf st) p (p+(n+1)))
  (h:∀m st',SB kd a₀ st'->ci p (arrOf st) (arrOf st')->pendingOf st'=pendingOf st->1<=m->m<=nrem->Srt C (arrOf st') p (p+m)->Q (some m) st') :
  wpS (model prog w) A E s (sB p n nrem) Q st:=by
 unfold sB;refine wpS_bind (wpS_lift (wpAny_rule ⟨rfl,?_⟩));refine wpS_bind (wps_dsc h0 hn (by lia) hnn hB hs fun m q st' hB' hsm hpd hm1 hm2 hf hq he=>?_);dsimp only;have hsz:p+m<=(arrOf st').size:=by rw[hB'.size];lia
 by_cases hq0:q>0
 ·rw[qah hq0];refine wpS_bind (k8 (u5 h0 hn (by lia) hm2 (hB'.arr (mirror_perm _ _ _ _)) ?_ fun m2 st2 b1 b2 b3=>h m2 st2 b1 ((hsm.trans (ff hsz (by lia))).trans b2) (b3.trans hpd)));intro i j hi hij hj;show O.kle (kk C (mirror _ _ _ _) j) (kk C (mirror _ _ _ _) i);rw[di hsz he,di hsz he];exact hf i j hi hij hj
 ·rw[qan hq0];exact u5 h0 hn (by lia) hm2 hB' hf fun m2 st2 b1 b2 b3=>h m2 st2 b1 (hsm.trans b2) (b3.trans hpd)
def vc(h0:ce C a₀)(hn:p+nrem<=a₀.size)(h1:1<=nrem)(hB:SB kd a₀ st)
  (h:∀m st',SB kd a₀ st'->ci p (arrOf st) (arrOf st')->pendingOf st'=pendingOf st->1<=m->m<=nrem->Srt C (arrOf st') p (p+m)->Q (some m) st') :
  wpS (model prog w) A E s (countRun' p nrem) Q st:=by
 rw[run_eq];refine wpS_bind (u7 h0 hn (qai 1) h1 hB (fun i j hi hij hj=>by have e:i=j:=(by lia);subst e;exact KeyOrd.kle_refl _) fun n a1 a2 hsn hor=>?_);dsimp only;by_cases hnn:n=nrem
 ·rw[qah (by simpa using hnn)];exact wpS_pure (h n st hB ci.rfl' rfl a1 a2 hsn)
 ·rw[qan (by simpa using hnn)];have hlt:=hor.resolve_left hnn;by_cases hgt:n>1
  ·rw[qah hgt];refine wpS_bind (jV hB h0 (by lia) (by lia) ?_)
   cases hz:O.blt (kk C (arrOf st) p) (kk C (arrOf st) (p+n - 1)) with
   | true =>
    dsimp only;rw[qah rfl];exact wpS_pure (h n st hB ci.rfl' rfl a1 a2 hsn)
   | false =>
    dsimp only;rw[qan (by simp)];have hsz:p+n<=(arrOf st).size:=by rw[hB.size];lia
    have hall:∀q,p<=q->q<p+n->kk C (arrOf st) q=kk C (arrOf st) (p+n - 1):=fun q b1 b2 =>
     KeyOrd.kle_antisymm (hsn q (p+n - 1) b1 (by lia) (by lia)) (KeyOrd.kle_trans hz (hsn p q (qai _) b1 b2))
    refine wpS_bind (k8 (sF h0 hn (by lia) (hB.arr (mirror_perm _ _ _ _)) ?_ fun m2 st2 b1 b2 b3=>h m2 st2 b1 ((ff hsz (qai _)).trans b2) b3));intro i j hi hij hj;show O.kle (kk C (mirror _ _ _ _) j) (kk C (mirror _ _ _ _) i);rw[di hsz hall,di hsz hall];by_cases hjn:j<p+n
    ·rw[hall i hi (by lia),hall j (by lia) hjn];exact KeyOrd.kle_refl _
    ·have e:j=p+n:=by lia
     subst e;by_cases hi':i=p+n
     ·subst hi';exact KeyOrd.kle_refl _
     ·rw[hall i hi (by lia)];exact KeyOrd.kle_of_klt hlt
  ·rw[qan hgt];have e:n=1:=by lia
   subst e;refine sF h0 hn (by lia) hB ?_ h;intro i j hi hij hj;by_cases hi':i=j
   ·subst hi';exact KeyOrd.kle_refl _
   ·have e1:i=p:=by lia
    have e2:j=p+1:=by lia
    subst e1;subst e2;exact KeyOrd.kle_of_klt hlt
end
section
variable {prog:Program} {w:World} {A:Around} {E:Value→Shared→Prop} {s:Shared} {kd:SortKind} {O:KeyOrd} {C:Cmp prog w A E s kd O} {a₀:Array Keyed} {st:SortSt}
def vl(h0:ce C a₀)(hn:p+n<=a₀.size)(hok:ok<=n)(hB:SB kd a₀ st)(hs:Srt C (arrOf st) p (p+ok))
  (h:∀st',SB kd a₀ st'->ci p (arrOf st) (arrOf st')->pendingOf st'=pendingOf st->Srt C (arrOf st') p (p+n)->Q true st'):wpS (model prog w) A E s (binarySort' p n ok) Q st:=by
 rw[binarySort'_eq]
 refine wpS_bind (wpS_mono (wpS_forRange (I:=fun k c st'=>c=(none,())/\SB kd a₀ st'/\ci p (arrOf st) (arrOf st')/\pendingOf st'=pendingOf st/\Srt C (arrOf st') p (p+min k n))
  (Q:=fun c st'=>c=(none,())/\SB kd a₀ st'/\ci p (arrOf st) (arrOf st')/\pendingOf st'=pendingOf st/\Srt C (arrOf st') p (p+n)) ?_ ?_ ?_) ?_)
 ·rintro k c st' hk1 hk2 ⟨rfl,hB',hsm,hpd,hs'⟩;have ek:min k n=k:=by lia
  rw[ek] at hs'
  refine wpS_bind (wpS_mono (wpS_forRange (I:=fun x c st''=>st''=st'/\∃l r,c=(none,l,r)/\l<=r/\r<=k/\r - l<=k - x /\
    (∀i,p<=i->i<p+l->O.kle (kk C (arrOf st') i) (kk C (arrOf st') (p+k)))/\∀i,p+r<=i->i<p+k->O.klt (kk C (arrOf st') (p+k)) (kk C (arrOf st') i))
   (Q:=fun c st''=>st''=st'/\∃l r,c=(none,l,r)/\l<=k /\
    (∀i,p<=i->i<p+l->O.kle (kk C (arrOf st') i) (kk C (arrOf st') (p+k)))/\∀i,p+l<=i->i<p+k->O.klt (kk C (arrOf st') (p+k)) (kk C (arrOf st') i)) ?_ ?_ ?_) ?_)
  ·rintro x c st'' _ hx ⟨rfl,l,r,rfl,hlr,hrk,hm,hlo,hhi⟩;dsimp only;by_cases hge:l>=r
   ·rw[qah hge];have e:l=r:=by lia
    subst e;exact wpS_pure ⟨rfl,l,l,rfl,hrk,hlo,hhi⟩
   ·rw[qan hge];refine wpS_bind (jV hB' h0 (by lia) (by lia) ?_)
    cases hz:O.blt (kk C (arrOf st'') (p+k)) (kk C (arrOf st'') (p+(l+r) / 2)) with
    | true =>
     simp only[if_true];exact wpS_pure ⟨rfl,l,(l+r) / 2,rfl,by lia,by lia,by lia,hlo,fun i a b=>KeyOrd.klt_of_klt_of_kle hz (hs' _ _ (by lia) a b)⟩
    | false =>
     simp only[qaf,if_false];exact wpS_pure ⟨rfl,(l+r) / 2+1,r,rfl,by lia,by lia,by lia,fun i a b=>KeyOrd.kle_trans (hs' i (p+(l+r) / 2) a (by lia) (by lia)) hz,hhi⟩
  ·rintro c st'' ⟨rfl,l,r,rfl,hlr,hrk,hm,hlo,hhi⟩;have e:l=r:=by lia
   subst e;exact⟨rfl,l,l,rfl,hrk,hlo,hhi⟩
  ·exact⟨rfl,0,k,rfl,by lia,by lia,by lia,fun i a b=>by lia,fun i a b=>by lia⟩
  ·rintro c st'' ⟨rfl,l,r,rfl,hlk,hlo,hhi⟩;dsimp only;rw[moveDown'_eq];have hks:p+k<(arrOf st'').size:=by rw[hB'.size];lia
   have ed:p+k - (p+l)=k - l:=by lia
   rw[ed];refine wpS_bind (wpS_modify (wpS_pure ⟨rfl,hB'.arr (bubble_perm _ _ _),hsm.trans (ua hks (by lia) (by lia)),hpd,?_⟩));have e1:min (k+1) n=k+1:=by lia
   rw[e1];intro i j hi hij hj;show O.kle (kk C (bubble (arrOf st'') (p+k) (k - l)) i) (kk C (bubble (arrOf st'') (p+k) (k - l)) j);have e2:p+k - (k - l)=p+l:=by lia
   rw[qd hks (by lia),qd hks (by lia),e2]
   repeat' split
   all_goals first
    | (exfalso;lia)
    | exact KeyOrd.kle_refl _
    | exact hlo _ (by lia) (by lia)
    | exact KeyOrd.kle_of_klt (hhi _ (by lia) (by lia))
    | exact hs' _ _ (by lia) (by lia) (by lia)
 ·rintro c st' ⟨hc,hB',hsm,hpd,hs'⟩;refine⟨hc,hB',hsm,hpd,?_⟩;have e:min (max (max ok 1) n) n=n:=by lia
  rwa [e] at hs'
 ·refine⟨rfl,hB,ci.rfl',rfl,fun i j hi hij hj=>?_⟩;by_cases h1:ok=0
  ·have e:i=j:=by lia
   subst e;exact KeyOrd.kle_refl _
  ·exact hs i j hi hij (by lia)
 ·rintro c st' ⟨rfl,hB',hsm,hpd,hs'⟩;exact wpS_pure (h st' hB' hsm hpd hs')
def gallop':Bool->Keyed->Array Keyed->Nat->Nat->Nat->StateT SortSt Sem (Option Nat):=sortPriv% PySem.Builtin.gallop
def mq(left:Bool)(key:Keyed)(arr:Array Keyed)(base i:Nat):StateT SortSt Sem (Option Bool):=do
 let x <-elem' arr (base+i)
 if left then lt' x key else return (<-lt' key x).map (!·)
def wK(left:Bool)(key:Keyed)(arr:Array Keyed)(base n hint:Nat):gallop' left key arr base n hint=(do
  let mut la:=0
  let mut of:=1
  let mut lo:=0
  let mut hi:=0
  let some rt <-mq left key arr base hint|return none
  if rt then
   let mx:=n - hint
   for _ in [0:n] do
    if of>=mx then break
    let some q <-mq left key arr base (hint+of)|return none
    if !q then break
    la:=of
    of:=2 * of+1
   lo:=hint+la+1
   hi:=hint+min of mx
  else
   let mx:=hint+1
   for _ in [0:n] do
    if of>=mx then break
    let some q <-mq left key arr base (hint - of)|return none
    if q then break
    la:=of
    of:=2 * of+1
   lo:=hint+1 - min of mx
   hi:=hint - la
  for _ in [0:n] do
   if lo>=hi then break
   let m:=lo+(hi - lo) / 2
   let some q <-mq left key arr base m|return none
   if q then lo:=m+1 else hi:=m
  return some hi):=rfl
def ahead(C:Cmp prog w A E s kd O)(left:Bool)(key:Keyed)(arr:Array Keyed)(i:Nat):Bool:=if left then O.blt (kk C arr i) (C.key key) else !O.blt (C.key key) (kk C arr i)
def lp(hk:kindOf st=kd)(hg:ce C arr)(hkey:C.good key)(hi:base+i<arr.size)
  (h:Q (some (ahead C left key arr (base+i))) st):wpS (model prog w) A E s (mq left key arr base i) Q st:=by
 unfold mq;refine wpS_bind (aM hi fun x hx=>?_);unfold ahead at h;rw[aJ hx] at h
 cases left with
 | true =>
  simp only[if_true] at h ⊢;exact C.ask x key st Q (be hg hx) hkey hk h
 | false =>
  simp only[qaf,if_false] at h ⊢;exact wpS_bind (C.ask key x st _ hkey (be hg hx) hk (wpS_pure h))
def halfL(left:Bool)(key:Keyed)(arr:Array Keyed)(base n lo hi:Nat):StateT SortSt Sem DS :=
 forIn [:n] ((none,lo,hi):DS) fun _ c =>
  if c.2.1>=c.2.2 then pure (ForInStep.done (none,c.2.1,c.2.2))
  else do
   let q <-mq left key arr base (c.2.1+(c.2.2 - c.2.1) / 2)
   match q with
   | some q=>if q=true then pure (ForInStep.yield (none,c.2.1+(c.2.2 - c.2.1) / 2+1,c.2.2)) else pure (ForInStep.yield (none,c.2.1,c.2.1+(c.2.2 - c.2.1) / 2))
   | _=>pure (ForInStep.done (some none,c.2.1,c.2.2))
section
variable {left:Bool} {key:Keyed} {arr:Array Keyed} {base n:Nat}
def gf(hn:base+n<=arr.size)(hs:Srt C arr base (base+n)):∀i j,i<=j->j<n->ahead C left key arr (base+j)=true->ahead C left key arr (base+i)=true:=by
 intro i j hij hj;have hle:=hs (base+i) (base+j) (by lia) (by lia) (by lia);unfold ahead
 cases left with
 | true=>simp only[if_true];exact fun q=>KeyOrd.klt_of_kle_of_klt hle q
 | false =>
  simp only[qaf,if_false,qbG];exact fun q=>KeyOrd.kle_trans hle q
def jx(hn:base+n<=arr.size)(hs:Srt C arr base (base+n)):∀i j,i<=j->j<n->ahead C left key arr (base+i)=false->ahead C left key arr (base+j)=false:=by
 intro i j hij hj hi
 cases hj':ahead C left key arr (base+j) with
 | false=>rfl
 | true=>rw[gf hn hs i j hij hj hj'] at hi;cases hi
def rD{lo hi:Nat}{Q:DS->SortSt->Prop}(hk:kindOf st=kd)(hg:ce C arr)(hkey:C.good key)(hn:base+n<=arr.size)(hs:Srt C arr base (base+n))
  (hlh:lo<=hi) (hhn:hi<=n) (h1:∀i,i<lo->ahead C left key arr (base+i)=true) (h2:∀i,hi<=i->i<n->ahead C left key arr (base+i)=false)
  (h:∀k,k<=n->(∀i,i<k->ahead C left key arr (base+i)=true)->(∀i,k<=i->i<n->ahead C left key arr (base+i)=false)->Q (none,k,k) st) :
  wpS (model prog w) A E s (halfL left key arr base n lo hi) Q st:=by
 unfold halfL;refine wpS_forRange (I:=fun x c st'=>st'=st/\∃l r,c=(none,l,r)/\l<=r/\r<=n/\r - l<=n - x/\(∀i,i<l->ahead C left key arr (base+i)=true)/\∀i,r<=i->i<n->ahead C left key arr (base+i)=false)
  ?_ ?_ ⟨rfl,lo,hi,rfl,hlh,hhn,by lia,h1,h2⟩
 ·rintro x c st' _ hx ⟨rfl,l,r,rfl,hlr,hrn,hm,ha,hb⟩;dsimp only;by_cases hge:l>=r
  ·rw[qah hge];have e:l=r:=by lia
   subst e;exact wpS_pure (h l hrn ha hb)
  ·rw[qan hge];refine wpS_bind (lp hk hg hkey (by lia) ?_)
   cases hz:ahead C left key arr (base+(l+(r - l) / 2)) with
   | true =>
    simp only[if_true];exact wpS_pure ⟨rfl,_,_,rfl,by lia,by lia,by lia,fun i hi=>gf hn hs i (l+(r - l) / 2) (by lia) (by lia) hz,hb⟩
   | false =>
    simp only[qaf,if_false];exact wpS_pure ⟨rfl,_,_,rfl,by lia,by lia,by lia,ha,fun i a b=>jx hn hs (l+(r - l) / 2) i a b hz⟩
 ·rintro c st' ⟨rfl,l,r,rfl,hlr,hrn,hm,ha,hb⟩;have e:l=r:=by lia
  subst e;exact h l hrn ha hb
def dl{hint:Nat}{Q:Option Nat->SortSt->Prop}(hk:kindOf st=kd)(hg:ce C arr)(hkey:C.good key)(hn:base+n<=arr.size)(hh:hint<n)(hs:Srt C arr base (base+n))
  (h:∀k,k<=n->(∀i,i<k->ahead C left key arr (base+i)=true)->(∀i,k<=i->i<n->ahead C left key arr (base+i)=false)->Q (some k) st) :
  wpS (model prog w) A E s (gallop' left key arr base n hint) Q st:=by
 rw[wK];dsimp only;refine wpS_bind (lp hk hg hkey (by lia) ?_);dsimp only
 cases hz:ahead C left key arr (base+hint) with
 | true =>
  simp only[if_true]
  refine wpS_bind (wpS_mono (wpS_forRange (I:=fun x c st'=>st'=st/\∃la of,c=(none,la,of)/\la<of/\x+1<=of/\hint+la<n/\ahead C left key arr (base+(hint+la))=true)
   (Q:=fun c st'=>st'=st/\∃la of,c=(none,la,of)/\la<of/\hint+la<n/\ahead C left key arr (base+(hint+la))=true/\(n - hint<=of\/of<n - hint/\ahead C left key arr (base+(hint+of))=false)) ?_ ?_
    ⟨rfl,0,1,rfl,by lia,by lia,hh,hz⟩) ?_)
  ·rintro x c st' _ hx ⟨rfl,la,of,rfl,h1,h2,h3,h4⟩;dsimp only;by_cases hge:of>=n - hint
   ·rw[qah hge];exact wpS_pure ⟨rfl,la,of,rfl,h1,h3,h4,.inl hge⟩
   ·rw[qan hge];refine wpS_bind (lp hk hg hkey (by lia) ?_)
    cases hy:ahead C left key arr (base+(hint+of)) with
    | true =>
     simp only[qbf,qaf,if_false];exact wpS_pure ⟨rfl,_,_,rfl,by lia,by lia,by lia,hy⟩
    | false =>
     simp only[qcv,if_true];exact wpS_pure ⟨rfl,la,of,rfl,h1,h3,h4,.inr ⟨by lia,hy⟩⟩
  ·rintro c st' ⟨rfl,la,of,rfl,h1,h2,h3,h4⟩;exact⟨rfl,la,of,rfl,h1,h3,h4,.inl (by lia)⟩
  ·rintro c st' ⟨rfl,la,of,rfl,h1,h3,h4,h5⟩;dsimp only;refine wpS_bind (rD (lo:=hint+la+1) (hi:=hint+min of (n - hint)) hk hg hkey hn hs (by lia) (by lia) (fun i hi=>gf hn hs i (hint+la) (by lia) h3 h4) (fun i a b=>?_) fun k a b c=>wpS_pure (h k a b c));rcases h5 with h5|⟨h5,h6⟩
   ·lia
   ·exact jx hn hs (hint+of) i (by lia) b h6
 | false =>
  simp only[qaf,if_false]
  refine wpS_bind (wpS_mono (wpS_forRange (I:=fun x c st'=>st'=st/\∃la of,c=(none,la,of)/\la<of/\x+1<=of/\la<=hint/\ahead C left key arr (base+(hint - la))=false)
   (Q:=fun c st'=>st'=st/\∃la of,c=(none,la,of)/\la<of/\la<=hint/\ahead C left key arr (base+(hint - la))=false/\(hint+1<=of\/of<hint+1/\ahead C left key arr (base+(hint - of))=true)) ?_ ?_
    ⟨rfl,0,1,rfl,by lia,by lia,by lia,hz⟩) ?_)
  ·rintro x c st' _ hx ⟨rfl,la,of,rfl,h1,h2,h3,h4⟩;dsimp only;by_cases hge:of>=hint+1
   ·rw[qah hge];exact wpS_pure ⟨rfl,la,of,rfl,h1,h3,h4,.inl hge⟩
   ·rw[qan hge];refine wpS_bind (lp hk hg hkey (by lia) ?_)
    cases hy:ahead C left key arr (base+(hint - of)) with
    | true =>
     simp only[if_true];exact wpS_pure ⟨rfl,la,of,rfl,h1,h3,h4,.inr ⟨by lia,hy⟩⟩
    | false =>
     simp only[qaf,if_false];exact wpS_pure ⟨rfl,_,_,rfl,by lia,by lia,by lia,hy⟩
  ·rintro c st' ⟨rfl,la,of,rfl,h1,h2,h3,h4⟩;exact⟨rfl,la,of,rfl,h1,h3,h4,.inl (by lia)⟩
  ·rintro c st' ⟨rfl,la,of,rfl,h1,h3,h4,h5⟩;dsimp only;refine wpS_bind (rD (lo:=hint+1 - min of (hint+1)) (hi:=hint - la) hk hg hkey hn hs (by lia) (by lia) (fun i hi=>?_) (fun i a b=>jx hn hs (hint - la) i a b h4) fun k a b c=>wpS_pure (h k a b c));rcases h5 with h5|⟨h5,h6⟩
   ·lia
   ·exact gf hn hs i (hint - of) (by lia) (by lia) h6
end
end
def jh:Array Keyed->Array Keyed->StateT SortSt Sem (Array Keyed):=sortPriv% PySem.Builtin.mergeLo
def je:Nat->StateT SortSt Sem Unit:=sortPriv% PySem.Builtin.setMinGallop
def kU(g:Nat):je g=modify fun s=>SortSt.mk' (kindOf s) (arrOf s) (pendingOf s) g (failedOf s):=rfl
def tZ(a b:Array Keyed):jh a b=(do
 rule "list.sort.merge-lo"
 let tot:=a.size+b.size
 let all (ou:Array Keyed) (i j:Nat):=ou++a.extract i a.size++b.extract j b.size
 let one (ou:Array Keyed) (i j:Nat):=ou++b.extract j b.size++a.extract i a.size
 let mut ou:Array Keyed:=#[<-elem' b 0]
 let mut i:=0
 let mut j:=1
 if j == b.size then return all ou i j
 if i+1 == a.size then return one ou i j
 let mut g:=gallopOf (<-get)
 for _ in [0:tot] do
  let mut na:=0
  let mut nb:=0
  for _ in [0:tot] do
   let some q <-lt' (<-elem' b j) (<-elem' a i)|return all ou i j
   if q then
    ou:=ou.push (<-elem' b j);j:=j+1;nb:=nb+1;na:=0
    if j == b.size then return all ou i j
    if nb>=g then break
   else
    ou:=ou.push (<-elem' a i);i:=i+1;na:=na+1;nb:=0
    if i+1 == a.size then return one ou i j
    if na>=g then break
  rule "list.sort.gallop"
  g:=g+1
  for _ in [0:tot] do
   if g>1 then g:=g - 1
   je g
   let some k <-gallop' false (<-elem' b j) a i (a.size - i) 0|return all ou i j
   na:=k
   if k>0 then
    ou:=ou++a.extract i (i+k);i:=i+k
    if i+1 == a.size then return one ou i j
    if i == a.size then return all ou i j
   ou:=ou.push (<-elem' b j);j:=j+1
   if j == b.size then return all ou i j
   let some k <-gallop' true (<-elem' a i) b j (b.size - j) 0|return all ou i j
   nb:=k
   if k>0 then
    ou:=ou++b.extract j (j+k);j:=j+k
    if j == b.size then return all ou i j
   ou:=ou.push (<-elem' a i);i:=i+1
   if i+1 == a.size then return one ou i j
   if na<7 && nb<7 then break
  g:=g+1
  je g
 unsupported "internal:list.sort.merge-bound"):=rfl
section
variable {prog:Program} {w:World} {A:Around} {E:Value→Shared→Prop} {s:Shared} {kd:SortKind} {O:KeyOrd} (C:Cmp prog w A E s kd O)
def LS(l:List Keyed):Prop:=l.Pairwise fun x y=>O.kle (C.key x) (C.key y)
def LB(l m:List Keyed):Prop:=∀x∈l,∀y∈m,O.kle (C.key x) (C.key y)
variable {C}
def bT(h1:LS C l)(h2:LS C m)(h3:LB C l m):LS C (l++m):=by
 unfold LS;rw[List.pairwise_append];exact⟨h1,h2,h3⟩
def oD{xs:Array Keyed}{lo hi:Nat}(hhi:hi<=xs.size)(h:Srt C xs lo hi):LS C (xs.extract lo hi).toList:=by
 unfold LS;rw[qbq];intro i j hi' hj' hij;have hsz:(xs.extract lo hi).size=hi - lo:=by simp;lia
 have hi2:i<(xs.extract lo hi).size:=by rw[<-qaD];exact hi'
 have hj2:j<(xs.extract lo hi).size:=by rw[<-qaD];exact hj'
 have e1:(xs.extract lo hi).toList[i]=xs[lo+i]'(by lia):=by simp
 have e2:(xs.extract lo hi).toList[j]=xs[lo+j]'(by lia):=by simp
 rw[e1,e2]
 have:=h (lo+i) (lo+j) (by lia) (by lia) (by lia)
 rw[aJ (getElem?_pos xs (lo+i) (by lia)),aJ (getElem?_pos xs (lo+j) (by lia))] at this;exact this
def j9(h:LS C xs.toList):Srt C xs 0 xs.size:=by
 intro i j _ hij hj;rw[aJ (getElem?_pos xs i (by lia)),aJ (getElem?_pos xs j hj)];by_cases e:i=j
 ·subst e;exact KeyOrd.kle_refl _
 ·unfold LS at h;rw[qbq] at h
  have:=h i j (by simp;lia) (by simpa using hj) (by lia)
  simpa using this
structure MI (C:Cmp prog w A E s kd O) (a b ou:Array Keyed) (i j:Nat):Prop where
 perm:(ou.toList++(a.toList.drop i++b.toList.drop j)).Perm (a.toList++b.toList)
 srt:LS C ou.toList
 low:LB C ou.toList (a.toList.drop i++b.toList.drop j)
variable {a b ou:Array Keyed} {i j:Nat}
def MI.size(m:MI C a b ou i j)(hi:i<=a.size)(hj:j<=b.size):ou.size+(a.size - i)+(b.size - j)=a.size+b.size:=by
 have:=m.perm.length_eq
 simp at this;lia
def iI{xs:Array Keyed}{i:Nat}{p:Keyed}(h:xs[i]?=some p):xs.toList.drop i=p::xs.toList.drop (i+1):=by
 have hl:i<xs.toList.length:=by
  have:=(qbh.mp h).1
  simpa using this
 have e:xs.toList[i]=p:=by
  have:=(qbh.mp h).2
  simpa using this
 rw[<-e,qcI hl]
def iB{xs:Array Keyed}(h:LS C xs.toList)(i:Nat):LS C (xs.toList.drop i):=h.sublist (List.drop_sublist i _)
def iV{xs:Array Keyed}(h:LS C xs.toList){i:Nat}{p:Keyed}(hp:xs[i]?=some p):∀y∈xs.toList.drop i,O.kle (C.key p) (C.key y):=by
 have h1:=iB h i;rw[iI hp] at h1 ⊢;unfold LS at h1;rw[qbv] at h1;intro y hy;rcases qak.mp hy with rfl|hy
 ·exact KeyOrd.kle_refl _
 ·exact h1.1 y hy
def MI.pushA(m:MI C a b ou i j)(ha:LS C a.toList)(hb:LS C b.toList){p:Keyed}(hp:a[i]?=some p)(hq:∀q,b[j]?=some q->O.kle (C.key p) (C.key q)):MI C a b (ou.push p) (i+1) j:=by
 have hd:=iI hp;have hle:∀y∈a.toList.drop i++b.toList.drop j,O.kle (C.key p) (C.key y):=by
  intro y hy;rcases qay.mp hy with hy|hy
  ·exact iV ha hp y hy
  ·cases hb':b[j]? with
   | none =>
    have:b.toList.drop j=[]:=qbz (by have:=qbW.mp hb';simpa using this)
    rw[this] at hy;cases hy
   | some q=>exact KeyOrd.kle_trans (hq q hb') (iV hb hb' y hy)
 refine⟨?_,?_,?_⟩
 ·have:=m.perm
  rw[hd] at this;rw[qbe,qbd];exact this
 ·rw[qbe];refine bT m.srt (by unfold LS;simp) fun x hx y hy=>?_
  have:y=p:=by simpa using hy
  subst this;exact m.low x hx y (qaG _ (by rw[hd];exact qax))
 ·intro x hx y hy;rw[qbe] at hx;have hy':y∈a.toList.drop i++b.toList.drop j:=by
   rcases qay.mp hy with hy|hy
   ·exact qaG _ (by rw[hd];exact qae _ hy)
   ·exact qaj _ hy
  rcases qay.mp hx with hx|hx
  ·exact m.low x hx y hy'
  ·have:x=p:=by simpa using hx
   subst this;exact hle y hy'
def MI.pushB(m:MI C a b ou i j)(ha:LS C a.toList)(hb:LS C b.toList){p:Keyed}(hp:b[j]?=some p)(hq:∀q,a[i]?=some q->O.kle (C.key p) (C.key q)):MI C a b (ou.push p) i (j+1):=by
 have hd:=iI hp;have hle:∀y∈a.toList.drop i++b.toList.drop j,O.kle (C.key p) (C.key y):=by
  intro y hy;rcases qay.mp hy with hy|hy
  ·cases ha':a[i]? with
   | none =>
    have:a.toList.drop i=[]:=qbz (by have:=qbW.mp ha';simpa using this)
    rw[this] at hy;cases hy
   | some q=>exact KeyOrd.kle_trans (hq q ha') (iV ha ha' y hy)
  ·exact iV hb hp y hy
 refine⟨?_,?_,?_⟩
 ·have:=m.perm
  rw[hd] at this;rw[qbe,qbd];refine List.Perm.trans (List.Perm.append_left _ ?_) this;show (p::(a.toList.drop i++b.toList.drop (j+1))).Perm _;exact qbM.symm
 ·rw[qbe];refine bT m.srt (by unfold LS;simp) fun x hx y hy=>?_
  have:y=p:=by simpa using hy
  subst this;exact m.low x hx y (qaj _ (by rw[hd];exact qax))
 ·intro x hx y hy;rw[qbe] at hx;have hy':y∈a.toList.drop i++b.toList.drop j:=by
   rcases qay.mp hy with hy|hy
   ·exact qaG _ hy
   ·exact qaj _ (by rw[hd];exact qae _ hy)
  rcases qay.mp hx with hx|hx
  ·exact m.low x hx y hy'
  ·have:x=p:=by simpa using hx
   subst this;exact hle y hy'
def kc{xs:Array Keyed}{i k:Nat}{p:Keyed}(h:xs[i+k]?=some p):xs.extract i (i+(k+1))=(xs.extract i (i+k)).push p:=by
 have hl:=(qbh.mp h).1;apply qba.mp;simp only[qbE,qbe,qaI];have e1:i+(k+1) - i=k+1:=by lia
 have e2:i+k - i=k:=by lia
 rw[e1,e2,qbO,qce,qar,h];rfl
def MI.moveA(m:MI C a b ou i j)(ha:LS C a.toList)(hb:LS C b.toList):∀k,i+k<=a.size->(∀r p q,r<k->a[i+r]?=some p->b[j]?=some q->O.kle (C.key p) (C.key q))->MI C a b (ou++a.extract i (i+k)) (i+k) j:=by
 intro k
 induction k with
 | zero =>
  intro _ _;have e:ou++a.extract i (i+0)=ou:=by apply qba.mp;simp[qaI]
  rw[e];exact m
 | succ k ih =>
  intro hk hq;have hp:a[i+k]?=some (a[i+k]'(by lia)):=getElem?_pos a (i+k) (by lia);have m1:=(ih (by lia) fun r p q hr=>hq r p q (by lia)).pushA ha hb hp (fun q hq'=>hq k _ q (by lia) hp hq');have e:ou++(a.extract i (i+k)).push (a[i+k]'(by lia))=(ou++a.extract i (i+k)).push (a[i+k]'(by lia)):=by apply qba.mp;simp
  rw[kc hp,e];exact m1
def MI.moveB(m:MI C a b ou i j)(ha:LS C a.toList)(hb:LS C b.toList):∀k,j+k<=b.size->(∀r p q,r<k->b[j+r]?=some p->a[i]?=some q->O.kle (C.key p) (C.key q))->MI C a b (ou++b.extract j (j+k)) i (j+k):=by
 intro k
 induction k with
 | zero =>
  intro _ _;have e:ou++b.extract j (j+0)=ou:=by apply qba.mp;simp[qaI]
  rw[e];exact m
 | succ k ih =>
  intro hk hq;have hp:b[j+k]?=some (b[j+k]'(by lia)):=getElem?_pos b (j+k) (by lia);have m1:=(ih (by lia) fun r p q hr=>hq r p q (by lia)).pushB ha hb hp (fun q hq'=>hq k _ q (by lia) hp hq');have e:ou++(b.extract j (j+k)).push (b[j+k]'(by lia))=(ou++b.extract j (j+k)).push (b[j+k]'(by lia)):=by apply qba.mp;simp
  rw[kc hp,e];exact m1
def MR(C:Cmp prog w A E s kd O)(a b out:Array Keyed):Prop:=out.toList.Perm (a.toList++b.toList)/\LS C out.toList
def gT{xs:Array Keyed}{i:Nat}:(xs.extract i xs.size).toList=xs.toList.drop i:=by
 rw[qbE,qaI];exact qbQ (by simp)
def MI.all(m:MI C a b ou i j)(ha:LS C a.toList)(hb:LS C b.toList)(h:a.size<=i\/b.size<=j):MR C a b (ou++a.extract i a.size++b.extract j b.size):=by
 have e:(ou++a.extract i a.size++b.extract j b.size).toList=ou.toList++(a.toList.drop i++b.toList.drop j):=by
  rw[qaZ,qaZ,gT,gT,qbd]
 unfold MR;rw[e];refine⟨m.perm,bT m.srt ?_ m.low⟩;rcases h with h|h
 ·have:a.toList.drop i=[]:=qbz (by simpa using h)
  rw[this];exact iB hb j
 ·have:b.toList.drop j=[]:=qbz (by simpa using h)
  rw[this,qca];exact iB ha i
def MI.one(m:MI C a b ou i j)(ha:LS C a.toList)(hb:LS C b.toList)(h:i+1=a.size)(hl:∀x q,x∈b.toList->a[i]?=some q->O.kle (C.key x) (C.key q)):MR C a b (ou++b.extract j b.size++a.extract i a.size):=by
 have e:(ou++b.extract j b.size++a.extract i a.size).toList=ou.toList++(b.toList.drop j++a.toList.drop i):=by
  rw[qaZ,qaZ,gT,gT,qbd]
 unfold MR;rw[e];have hp:a[i]?=some (a[i]'(by lia)):=getElem?_pos a i (by lia);have hd:=iI hp;have hnil:a.toList.drop (i+1)=[]:=qbz (by simp;lia);rw[hnil] at hd;refine⟨(List.Perm.append_left _ qcf).trans m.perm,bT m.srt (bT (iB hb j) (iB ha i) ?_) ?_⟩
 ·intro x hx y hy;rw[hd] at hy
  have:y=a[i]'(by lia):=by simpa using hy
  subst this;exact hl x _ (List.mem_of_mem_drop hx) hp
 ·intro x hx y hy;exact m.low x hx y (qay.mpr (qay.mp hy).symm)
end
structure Eqv (st st':SortSt):Prop where
 kind:kindOf st'=kindOf st
 arr:arrOf st'=arrOf st
 pend:pendingOf st'=pendingOf st
 failed:failedOf st'=failedOf st
def Eqv.rfl'{st:SortSt}:Eqv st st:=⟨rfl,rfl,rfl,rfl⟩
def Eqv.trans{st st1 st2:SortSt}(x:Eqv st st1)(y:Eqv st1 st2):Eqv st st2:=⟨y.kind.trans x.kind,y.arr.trans x.arr,y.pend.trans x.pend,y.failed.trans x.failed⟩
abbrev GS:=Option (Array Keyed) × Array Keyed × Nat × Nat × Nat × Nat × Nat
def loT3(a b ou:Array Keyed)(i j g na nb:Nat):StateT SortSt Sem (ForInStep GS):=do
 let x <-elem' a i
 if (i+1+1 == a.size)=true then pure (ForInStep.done (some (ou.push x++b.extract j b.size++a.extract (i+1) a.size),ou.push x,i+1,j,g,na,nb))
 else if (decide (na<7) && decide (nb<7))=true then pure (ForInStep.done (none,ou.push x,i+1,j,g,na,nb))
 else pure (ForInStep.yield (none,ou.push x,i+1,j,g,na,nb))
def loT2(a b ou:Array Keyed)(i j g na nb:Nat):StateT SortSt Sem (ForInStep GS):=do
 let x <-elem' b j
 if (j+1 == b.size)=true then pure (ForInStep.done (some (ou.push x++a.extract i a.size++b.extract (j+1) b.size),ou.push x,i,j+1,g,na,nb))
 else do
  let y <-elem' a i
  let q <-gallop' true y b (j+1) (b.size - (j+1)) 0
  match q with
  | some k =>
   if k>0 then
    if (j+1+k == b.size)=true then
     pure (ForInStep.done (some (ou.push x++b.extract (j+1) (j+1+k)++a.extract i a.size++b.extract (j+1+k) b.size),ou.push x++b.extract (j+1) (j+1+k),i,j+1+k,g,na,k))
    else loT3 a b (ou.push x++b.extract (j+1) (j+1+k)) i (j+1+k) g na k
   else loT3 a b (ou.push x) i (j+1) g na k
  | _=>pure (ForInStep.done (some (ou.push x++a.extract i a.size++b.extract (j+1) b.size),ou.push x,i,j+1,g,na,nb))
def loT1(a b ou:Array Keyed)(i j g na nb:Nat):StateT SortSt Sem (ForInStep GS):=do
 je g
 let x <-elem' b j
 let q <-gallop' false x a i (a.size - i) 0
 match q with
 | some k =>
  if k>0 then
   if (i+k+1 == a.size)=true then
    pure (ForInStep.done (some (ou++a.extract i (i+k)++b.extract j b.size++a.extract (i+k) a.size),ou++a.extract i (i+k),i+k,j,g,k,nb))
   else if (i+k == a.size)=true then
    pure (ForInStep.done (some (ou++a.extract i (i+k)++a.extract (i+k) a.size++b.extract j b.size),ou++a.extract i (i+k),i+k,j,g,k,nb))
   else loT2 a b (ou++a.extract i (i+k)) (i+k) j g k nb
  else loT2 a b ou i j g k nb
 | _=>pure (ForInStep.done (some (ou++a.extract i a.size++b.extract j b.size),ou,i,j,g,na,nb))
abbrev LBt:=Option (Array Keyed) × Array Keyed × Nat × Nat × Nat × Nat
abbrev LCt:=Option (Array Keyed) × Array Keyed × Nat × Nat × Nat
def loP(a b:Array Keyed)(g:Nat)(c:LBt):StateT SortSt Sem (ForInStep LBt):=do
 let x <-elem' b c.2.2.2.1
 let y <-elem' a c.2.2.1
 let q <-lt' x y
 match q with
 | some q =>
  if q=true then do
   let z <-elem' b c.2.2.2.1
   if (c.2.2.2.1+1 == b.size)=true then pure (ForInStep.done (some (c.2.1.push z++a.extract c.2.2.1 a.size++b.extract (c.2.2.2.1+1) b.size),c.2.1.push z,c.2.2.1,c.2.2.2.1+1,0,c.2.2.2.2.2+1))
   else if c.2.2.2.2.2+1>=g then pure (ForInStep.done (none,c.2.1.push z,c.2.2.1,c.2.2.2.1+1,0,c.2.2.2.2.2+1))
   else pure (ForInStep.yield (none,c.2.1.push z,c.2.2.1,c.2.2.2.1+1,0,c.2.2.2.2.2+1))
  else do
   let z <-elem' a c.2.2.1
   if (c.2.2.1+1+1 == a.size)=true then pure (ForInStep.done (some (c.2.1.push z++b.extract c.2.2.2.1 b.size++a.extract (c.2.2.1+1) a.size),c.2.1.push z,c.2.2.1+1,c.2.2.2.1,c.2.2.2.2.1+1,0))
   else if c.2.2.2.2.1+1>=g then pure (ForInStep.done (none,c.2.1.push z,c.2.2.1+1,c.2.2.2.1,c.2.2.2.2.1+1,0))
   else pure (ForInStep.yield (none,c.2.1.push z,c.2.2.1+1,c.2.2.2.1,c.2.2.2.2.1+1,0))
 | _=>pure (ForInStep.done (some (c.2.1++a.extract c.2.2.1 a.size++b.extract c.2.2.2.1 b.size),c.2.1,c.2.2.1,c.2.2.2.1,c.2.2.2.2.1,c.2.2.2.2.2))
def loG(a b:Array Keyed)(c:GS):StateT SortSt Sem (ForInStep GS) :=
 if c.2.2.2.2.1>1 then loT1 a b c.2.1 c.2.2.1 c.2.2.2.1 (c.2.2.2.2.1 - 1) c.2.2.2.2.2.1 c.2.2.2.2.2.2
 else loT1 a b c.2.1 c.2.2.1 c.2.2.2.1 c.2.2.2.2.1 c.2.2.2.2.2.1 c.2.2.2.2.2.2
def loE(c:GS):StateT SortSt Sem (ForInStep LCt) :=
 match c.1 with
 | some r=>pure (ForInStep.done (some r,c.2.1,c.2.2.1,c.2.2.2.1,c.2.2.2.2.1))
 | none=>do
  je (c.2.2.2.2.1+1)
  pure (ForInStep.yield (none,c.2.1,c.2.2.1,c.2.2.2.1,c.2.2.2.2.1+1))
def loD(a b:Array Keyed)(g:Nat)(c:LBt):StateT SortSt Sem (ForInStep LCt) :=
 match c.1 with
 | some r=>pure (ForInStep.done (some r,c.2.1,c.2.2.1,c.2.2.2.1,g))
 | none=>do
  liftM (rule "list.sort.gallop")
  let e <-forIn [:a.size+b.size] ((none,c.2.1,c.2.2.1,c.2.2.2.1,g+1,c.2.2.2.2.1,c.2.2.2.2.2):GS) fun _ e=>loG a b e
  loE e
def loO(a b:Array Keyed)(c:LCt):StateT SortSt Sem (ForInStep LCt):=do
 let d <-forIn [:a.size+b.size] ((none,c.2.1,c.2.2.1,c.2.2.2.1,0,0):LBt) fun _ d=>loP a b c.2.2.2.2 d
 loD a b c.2.2.2.2 d
def loZ(a b:Array Keyed)(x:Keyed):StateT SortSt Sem (Array Keyed):=do
 let g <-get
 let r <-forIn [:a.size+b.size] ((none,#[x],0,1,gallopOf g):LCt) fun _ c=>loO a b c
 match r.1 with
 | some r=>pure r
 | none=>liftM (unsupported "internal:list.sort.merge-bound":Sem (Array Keyed))
def lo_n(a b:Array Keyed):jh a b=(do
 liftM (rule "list.sort.merge-lo")
 let x <-elem' b 0
 if (1 == b.size)=true then pure (#[x]++a.extract 0 a.size++b.extract 1 b.size)
 else if (0+1 == a.size)=true then pure (#[x]++b.extract 1 b.size++a.extract 0 a.size)
 else loZ a b x):=by
 rw[tZ];dsimp only;refine congrArg (Bind.bind _) (funext fun _=>congrArg (Bind.bind _) (funext fun x=>congrArg (fun z=>ite _ _ (ite _ _ z)) ?_));unfold loZ;have e:∀{α β:Type} {x y:StateT SortSt Sem α} {f h:α->StateT SortSt Sem β},x=y->(∀a,f a=h a)->(x >>= f)=(y >>= h):=fun e f=>by rw[e,funext f]
 refine congrArg (Bind.bind _) (funext fun g=>e (congrArg (forIn _ _) (funext fun _=>funext fun c=>?_)) fun ⟨r,_⟩=>by cases r <;> rfl);refine e rfl fun d=>?_;obtain⟨d1,d2⟩:=d
 cases d1 with
 | some r=>rfl
 | none=>exact congrArg (Bind.bind _) (funext fun _=>e rfl fun ⟨r,_⟩=>by cases r <;> rfl)
section
variable {prog:Program} {w:World} {A:Around} {E:Value→Shared→Prop} {s:Shared} {kd:SortKind} {O:KeyOrd} {C:Cmp prog w A E s kd O} {st:SortSt} {a b:Array Keyed}
structure Two (C:Cmp prog w A E s kd O) (a b:Array Keyed):Prop where
 ga:ce C a
 gb:ce C b
 sa:LS C a.toList
 sb:LS C b.toList
 na:1<=a.size
 nb:1<=b.size
 fst:∀p q,b[0]?=some p->a[0]?=some q->O.kle (C.key p) (C.key q)
 lst:∀x q,x∈b.toList->a[a.size - 1]?=some q->O.kle (C.key x) (C.key q)
def LI(C:Cmp prog w A E s kd O)(a b:Array Keyed)(N:Nat)(c:GS):Prop:=c.1=none/\MI C a b c.2.1 c.2.2.1 c.2.2.2.1/\c.2.2.1+1<a.size/\c.2.2.2.1<b.size/\N<=c.2.1.size
def km(C:Cmp prog w A E s kd O)(a b:Array Keyed)(N:Nat)(st:SortSt)(r:ForInStep GS)(st':SortSt):Prop:=Eqv st st'/\match r with
 | .done c=>(∃x,c.1=some x/\MR C a b x)\/LI C a b N c
 | .yield c=>LI C a b N c
def u9(T:Two C a b)(m:MI C a b ou i j)(hi:i+1<a.size)(hj:j<b.size)(hN:N<=ou.size)(hle:∀p q,a[i]?=some p->b[j]?=some q->O.kle (C.key p) (C.key q)) :
  wpS (model prog w) A E s (loT3 a b ou i j g na nb) (km C a b N st) st:=by
 unfold loT3;refine wpS_bind (aM (by lia) fun x hx=>?_);have m1:=m.pushA T.sa T.sb hx (fun q hq=>hle x q hx hq);have hsz:(ou.push x).size=ou.size+1:=qbt ..;by_cases h1:i+1+1=a.size
 ·rw[qah (by simpa using h1)];exact wpS_pure ⟨Eqv.rfl',.inl ⟨_,rfl,m1.one T.sa T.sb h1 fun y q hy hq=>T.lst y q hy (by rw[<-h1];exact hq)⟩⟩
 ·rw[qan (by simpa using h1)];have li:LI C a b N (none,ou.push x,i+1,j,g,na,nb):=⟨rfl,m1,by show i+1+1<a.size;lia,hj,by show N<=(ou.push x).size;lia⟩;split
  ·exact wpS_pure ⟨Eqv.rfl',.inr li⟩
  ·exact wpS_pure ⟨Eqv.rfl',li⟩
def uI(T:Two C a b)(hk:kindOf st=kd)(m:MI C a b ou i j)(hi:i+1<a.size)(hj:j<b.size)(hN:N<=ou.size)(hle:∀p q,b[j]?=some p->a[i]?=some q->O.kle (C.key p) (C.key q)) :
  wpS (model prog w) A E s (loT2 a b ou i j g na nb) (km C a b N st) st:=by
 unfold loT2;refine wpS_bind (aM hj fun x hx=>?_);have m1:=m.pushB T.sa T.sb hx (fun q hq=>hle x q hx hq);have hsz:(ou.push x).size=ou.size+1:=qbt ..;by_cases h1:j+1=b.size
 ·rw[qah (by simpa using h1)];exact wpS_pure ⟨Eqv.rfl',.inl ⟨_,rfl,m1.all T.sa T.sb (.inr (by lia))⟩⟩
 ·rw[qan (by simpa using h1)];refine wpS_bind (aM (by lia) fun y hy=>?_);refine wpS_bind (dl (C:=C) hk T.gb (be T.ga hy) (by lia) (by lia) ?_ fun k hkn hlo hhi=>?_)
  ·intro p q hp hpq hq;exact j9 T.sb p q (qaK _) hpq (by lia)
  ·have hlo':∀r p q,r<k->b[j+1+r]?=some p->a[i]?=some q->O.kle (C.key p) (C.key q):=fun r p q hr hp hq=>by
    have:=hlo r hr
    unfold ahead at this;rw[aJ hp] at this;rw[hy] at hq;cases hq;exact KeyOrd.kle_of_klt this
   have hhi':∀p q,a[i]?=some p->b[j+1+k]?=some q->O.kle (C.key p) (C.key q):=fun p q hp hq=>by
    have hlt:=(qbh.mp hq).1
    have:=hhi k (qai _) (by lia)
    unfold ahead at this;rw[aJ hq] at this;rw[hy] at hp;cases hp;exact this
   dsimp only;by_cases hk0:k>0
   ·rw[qah hk0];have m2:=m1.moveB T.sa T.sb k (by lia) hlo';by_cases h2:j+1+k=b.size
    ·rw[qah (by simpa using h2)];exact wpS_pure ⟨Eqv.rfl',.inl ⟨_,rfl,m2.all T.sa T.sb (.inr (by lia))⟩⟩
    ·rw[qan (by simpa using h2)];exact u9 T m2 hi (by lia) (by rw[qbV];lia) hhi'
   ·rw[qan hk0];have e:k=0:=by lia
    subst e;exact u9 T m1 hi (by lia) (by lia) hhi'
def vo(T:Two C a b)(hk:kindOf st=kd)(m:MI C a b ou i j)(hi:i+1<a.size)(hj:j<b.size)(hN:N<=ou.size) :
  wpS (model prog w) A E s (loT1 a b ou i j g na nb) (km C a b N st) st:=by
 unfold loT1;rw[kU];refine wpS_bind (wpS_modify ?_);have ev:Eqv st (SortSt.mk' (kindOf st) (arrOf st) (pendingOf st) g (failedOf st)):=⟨rfl,rfl,rfl,rfl⟩;refine wpS_mono (Q:=km C a b N (SortSt.mk' (kindOf st) (arrOf st) (pendingOf st) g (failedOf st))) ?_ fun r st' h=>⟨ev.trans h.1,h.2⟩;have hk':kindOf (SortSt.mk' (kindOf st) (arrOf st) (pendingOf st) g (failedOf st))=kd:=hk;refine wpS_bind (aM hj fun x hx=>?_);refine wpS_bind (dl (C:=C) hk' T.ga (be T.gb hx) (by lia) (by lia) ?_ fun k hkn hlo hhi=>?_)
 ·intro p q hp hpq hq;exact j9 T.sa p q (qaK _) hpq (by lia)
 ·have hlo':∀r p q,r<k->a[i+r]?=some p->b[j]?=some q->O.kle (C.key p) (C.key q):=fun r p q hr hp hq=>by
   have:=hlo r hr
   unfold ahead at this;rw[aJ hp] at this;rw[hx] at hq;cases hq;simp only[qaf,if_false,qbG] at this;exact this
  have hhi':∀p q,b[j]?=some p->a[i+k]?=some q->O.kle (C.key p) (C.key q):=fun p q hp hq=>by
   have hlt:=(qbh.mp hq).1
   have:=hhi k (qai _) (by lia)
   unfold ahead at this;rw[aJ hq] at this;rw[hx] at hp;cases hp;simp only[qaf,if_false,qcr] at this;exact KeyOrd.kle_of_klt this
  dsimp only;by_cases hk0:k>0
  ·rw[qah hk0];have m2:=m.moveA T.sa T.sb k (by lia) hlo';by_cases h2:i+k+1=a.size
   ·rw[qah (by simpa using h2)];exact wpS_pure ⟨Eqv.rfl',.inl ⟨_,rfl,m2.one T.sa T.sb h2 fun y q hy hq=>T.lst y q hy (by rw[<-h2];exact hq)⟩⟩
   ·rw[qan (by simpa using h2)];by_cases h3:i+k=a.size
    ·rw[qah (by simpa using h3)];exact wpS_pure ⟨Eqv.rfl',.inl ⟨_,rfl,m2.all T.sa T.sb (.inl (by lia))⟩⟩
    ·rw[qan (by simpa using h3)];exact uI T hk' m2 (by lia) hj (by rw[qbV];lia) hhi'
  ·rw[qan hk0];have e:k=0:=by lia
   subst e;exact uI T hk' m hi hj hN hhi'
def L1l(C:Cmp prog w A E s kd O)(a b:Array Keyed)(N:Nat)(c:LBt):Prop:=c.1=none/\MI C a b c.2.1 c.2.2.1 c.2.2.2.1/\c.2.2.1+1<a.size/\c.2.2.2.1<b.size/\N<=c.2.1.size
def L0l(C:Cmp prog w A E s kd O)(a b:Array Keyed)(N:Nat)(c:LCt):Prop:=c.1=none/\MI C a b c.2.1 c.2.2.1 c.2.2.2.1/\c.2.2.1+1<a.size/\c.2.2.2.1<b.size/\N<=c.2.1.size
def Stp1(C:Cmp prog w A E s kd O)(a b:Array Keyed)(N:Nat)(st:SortSt)(r:ForInStep LBt)(st':SortSt):Prop:=match r with
 | .done c=>st'=st/\((∃x,c.1=some x/\MR C a b x)\/L1l C a b N c)
 | .yield c=>st'=st/\L1l C a b N c
def Stp0(C:Cmp prog w A E s kd O)(a b:Array Keyed)(N:Nat)(st:SortSt)(r:ForInStep LCt)(st':SortSt):Prop:=match r with
 | .done c=>Eqv st st'/\∃x,c.1=some x/\MR C a b x
 | .yield c=>Eqv st st'/\L0l C a b N c
def loP_ok(T:Two C a b)(hk':kindOf st=kd)(m':MI C a b ou' i' j')(hi':i'+1<a.size)(hj':j'<b.size)(hN:N<=ou'.size) :
  wpS (model prog w) A E s (loP a b g (none,ou',i',j',na,nb)) (Stp1 C a b (N+1) st) st:=by
 unfold loP;dsimp only;refine wpS_bind (aM hj' fun p hp=>wpS_bind (aM (by lia) fun q hq=>?_));refine wpS_bind (C.ask p q st _ (be T.gb hp) (be T.ga hq) hk' ?_)
 cases hz:O.blt (C.key p) (C.key q) with
 | true =>
  dsimp only;rw[qah rfl];refine wpS_bind (aM hj' fun p' hp'=>?_);rw[hp] at hp';cases hp';have m2:=m'.pushB T.sa T.sb hp (fun q' hq'=>by rw[hq] at hq';cases hq';exact KeyOrd.kle_of_klt hz);have hs2:(ou'.push p).size=ou'.size+1:=qbt ..;by_cases h3:j'+1=b.size
  ·rw[qah (by simpa using h3)];exact wpS_pure ⟨rfl,.inl ⟨_,rfl,m2.all T.sa T.sb (.inr (by lia))⟩⟩
  ·rw[qan (by simpa using h3)];split
   ·exact wpS_pure ⟨rfl,.inr ⟨rfl,m2,hi',by lia,by rw[hs2];lia⟩⟩
   ·exact wpS_pure ⟨rfl,rfl,m2,hi',by lia,by rw[hs2];lia⟩
 | false =>
  dsimp only;rw[qan (by simp)];refine wpS_bind (aM (by lia) fun q' hq'=>?_);rw[hq] at hq';cases hq';have m2:=m'.pushA T.sa T.sb hq (fun p' hp'=>by rw[hp] at hp';cases hp';exact hz);have hs2:(ou'.push q).size=ou'.size+1:=qbt ..;by_cases h3:i'+1+1=a.size
  ·rw[qah (by simpa using h3)];exact wpS_pure ⟨rfl,.inl ⟨_,rfl,m2.one T.sa T.sb h3 fun y q hy hq=>T.lst y q hy (by rw[<-h3];exact hq)⟩⟩
  ·rw[qan (by simpa using h3)];split
   ·exact wpS_pure ⟨rfl,.inr ⟨rfl,m2,by lia,hj',by rw[hs2];lia⟩⟩
   ·exact wpS_pure ⟨rfl,rfl,m2,by lia,hj',by rw[hs2];lia⟩
def loE_ok(ev:Eqv st0 st)(hc:(∃x,c.1=some x/\MR C a b x)\/LI C a b N c):wpS (model prog w) A E s (loE c) (Stp0 C a b N st0) st:=by
 obtain⟨c1,ou3,i3,j3,g3,na3,nb3⟩:=c;rcases hc with ⟨r,hr,mr⟩|⟨hc,hr⟩
 ·cases hr;exact wpS_pure ⟨ev,r,rfl,mr⟩
 ·cases hc;unfold loE;dsimp only;rw[kU];exact wpS_bind (wpS_modify (wpS_pure ⟨ev.trans ⟨rfl,rfl,rfl,rfl⟩,rfl,hr⟩))
def loG_ok(T:Two C a b)(hk:kindOf st=kd)(h:LI C a b N c):wpS (model prog w) A E s (loG a b c) (km C a b N st) st:=by
 obtain⟨_,m3,hi3,hj3,hN3⟩:=h;unfold loG;split
 ·exact vo T hk m3 hi3 hj3 hN3
 ·exact vo T hk m3 hi3 hj3 hN3
def loD_ok(T:Two C a b)(hk:kindOf st=kd)(ev:Eqv st0 st)(hc:(∃x,c.1=some x/\MR C a b x)\/L1l C a b N c):wpS (model prog w) A E s (loD a b g c) (Stp0 C a b N st0) st:=by
 obtain⟨c1,ou',i',j',na,nb⟩:=c;rcases hc with ⟨r,hr,mr⟩|⟨hc,hr⟩
 ·cases hr;exact wpS_pure ⟨ev,r,rfl,mr⟩
 ·cases hc;unfold loD;dsimp only;refine wpS_bind (wpS_lift (wpAny_rule ⟨rfl,?_⟩));refine wpS_bind (wpS_mono (wpS_forRange (I:=fun y c st3=>Eqv st st3/\LI C a b N c) (Q:=fun c st3=>Eqv st st3/\((∃x,c.1=some x/\MR C a b x)\/LI C a b N c)) ?_ ?_ ⟨Eqv.rfl',rfl,hr⟩) ?_)
  ·rintro y c st3 _ hy ⟨ev3,h3⟩;refine wpS_mono (loG_ok T (ev3.kind.trans hk) h3) fun r st4 hr=>?_
   cases r with
   | done c'=>exact⟨ev3.trans hr.1,hr.2⟩
   | yield c'=>exact⟨ev3.trans hr.1,hr.2⟩
  ·rintro c st3 ⟨ev3,hli⟩;exact⟨ev3,.inr hli⟩
  ·rintro c st3 ⟨ev3,hc⟩;exact loE_ok (ev.trans ev3) hc
def loO_ok(T:Two C a b)(hk:kindOf st=kd)(h:L0l C a b N c):wpS (model prog w) A E s (loO a b c) (Stp0 C a b (N+1) st) st:=by
 obtain⟨c1,ou,i,j,g⟩:=c;obtain⟨hc,hm⟩:=h;cases hc;unfold loO
 refine wpS_bind (wpS_mono (wpS_forRange (I:=fun y c st''=>st''=st/\L1l C a b (N+y) c)
  (Q:=fun c st''=>st''=st/\((∃x,c.1=some x/\MR C a b x)\/L1l C a b (N+1) c)) ?_ ?_ ⟨rfl,rfl,hm⟩) ?_)
 ·rintro y c st'' _ hy ⟨rfl,h1⟩;obtain⟨c1,ou',i',j',na,nb⟩:=c;obtain⟨hc,m',hi',hj',hsz'⟩:=h1;cases hc;refine wpS_mono (loP_ok T hk m' hi' hj' hsz') fun r st4 hr=>?_
  cases r with
  | done c'=>exact⟨hr.1,hr.2.imp_right fun h=>⟨h.1,h.2.1,h.2.2.1,h.2.2.2.1,qaJ (by lia) h.2.2.2.2⟩⟩
  | yield c'=>exact hr
 ·rintro c st'' ⟨rfl,h⟩
  have:=T.na
  exact⟨rfl,.inr ⟨h.1,h.2.1,h.2.2.1,h.2.2.2.1,qaJ (by lia) h.2.2.2.2⟩⟩
 ·rintro c st'' ⟨rfl,hc⟩;exact loD_ok T hk Eqv.rfl' hc
def loZ_ok(T:Two C a b)(hk:kindOf st=kd)(h1:MI C a b #[x0] 0 1)(ha:0+1<a.size)(hb:1<b.size)(h:∀x st',Eqv st st'->MR C a b x->Q x st'):wpS (model prog w) A E s (loZ a b x0) Q st:=by
 unfold loZ;refine wpS_bind (wpS_get ?_)
 refine wpS_bind (wpS_mono (wpS_forRange (I:=fun x c st'=>Eqv st st'/\L0l C a b (x+1) c)
  (Q:=fun c st'=>Eqv st st'/\∃x,c.1=some x/\MR C a b x) ?_ ?_ ⟨Eqv.rfl',rfl,h1,ha,hb,qai _⟩) ?_)
 ·rintro x c st' _ hx ⟨ev,h0⟩;refine wpS_mono (loO_ok T (ev.kind.trans hk) h0) fun r st4 hr=>?_
  cases r with
  | done c'=>exact⟨ev.trans hr.1,hr.2⟩
  | yield c'=>exact⟨ev.trans hr.1,hr.2⟩
 ·rintro c st' ⟨ev,h0⟩;exfalso;have h1:=h0.2.2.1;have h2:=h0.2.2.2.1
  have:=h0.2.1.size (by lia) (by lia)
  have:=h0.2.2.2.2
  lia
 ·rintro c st' ⟨ev,r,hr,mr⟩;obtain⟨c1,c2⟩:=c;cases hr;exact wpS_pure (h r st' ev mr)
def wps_lo(T:Two C a b)(hk:kindOf st=kd)(h:∀x st',Eqv st st'->MR C a b x->Q x st'):wpS (model prog w) A E s (jh a b) Q st:=by
 rw[lo_n];refine wpS_bind (wpS_lift (wpAny_rule ⟨rfl,?_⟩));have hna:=T.na;have hnb:=T.nb;refine wpS_bind (aM (by lia) fun x0 hx0=>?_);have m0:MI C a b #[] 0 0:=⟨by simp,by unfold LS;simp,fun x hx=>by simp at hx⟩;have m1:MI C a b #[x0] 0 1:=by
  have:=m0.pushB T.sa T.sb hx0 (fun q hq=>T.fst x0 q hx0 hq)
  simpa using this
 by_cases h1:1=b.size
 ·rw[qah (by simpa using h1)]
  have:=m1.all T.sa T.sb (.inr (by lia))
  exact wpS_pure (h _ st Eqv.rfl' (by simpa using this))
 ·rw[qan (by simpa using h1)];by_cases h2:0+1=a.size
  ·rw[qah (by simpa using h2)]
   have:=m1.one T.sa T.sb h2 fun y q hy hq=>T.lst y q hy (by rw[<-h2];exact hq)
   exact wpS_pure (h _ st Eqv.rfl' (by simpa using this))
  ·rw[qan (by simpa using h2)];exact loZ_ok T hk m1 (by lia) (by lia) h
end
def jg:Array Keyed->Array Keyed->StateT SortSt Sem (Array Keyed):=sortPriv% PySem.Builtin.mergeHi
def ug(a b:Array Keyed):jg a b=(do
 rule "list.sort.merge-hi"
 let tot:=a.size+b.size
 let all (ou:Array Keyed) (m n:Nat):=a.extract 0 m++b.extract 0 n++ou.reverse
 let one (ou:Array Keyed) (m n:Nat):=b.extract 0 n++a.extract 0 m++ou.reverse
 let mut m:=a.size - 1
 let mut n:=b.size
 let mut ou:Array Keyed:=#[<-elem' a m]
 if m == 0 then return all ou m n
 if n == 1 then return one ou m n
 let mut g:=gallopOf (<-get)
 for _ in [0:tot] do
  let mut ca:=0
  let mut cb:=0
  for _ in [0:tot] do
   let some q <-lt' (<-elem' b (n - 1)) (<-elem' a (m - 1))|return all ou m n
   if q then
    m:=m - 1;ou:=ou.push (<-elem' a m);ca:=ca+1;cb:=0
    if m == 0 then return all ou m n
    if ca>=g then break
   else
    n:=n - 1;ou:=ou.push (<-elem' b n);cb:=cb+1;ca:=0
    if n == 1 then return one ou m n
    if cb>=g then break
  rule "list.sort.gallop"
  g:=g+1
  for _ in [0:tot] do
   if g>1 then g:=g - 1
   je g
   let some z <-gallop' false (<-elem' b (n - 1)) a 0 m (m - 1)|return all ou m n
   let k:=m - z
   ca:=k
   if k>0 then
    ou:=ou++(a.extract z m).reverse;m:=z
    if m == 0 then return all ou m n
   n:=n - 1;ou:=ou.push (<-elem' b n)
   if n == 1 then return one ou m n
   let some z <-gallop' true (<-elem' a (m - 1)) b 0 n (n - 1)|return all ou m n
   let k:=n - z
   cb:=k
   if k>0 then
    ou:=ou++(b.extract z n).reverse;n:=z
    if n == 1 then return one ou m n
    if n == 0 then return all ou m n
   m:=m - 1;ou:=ou.push (<-elem' a m)
   if m == 0 then return all ou m n
   if ca<7 && cb<7 then break
  g:=g+1
  je g
 unsupported "internal:list.sort.merge-bound"):=rfl
section
variable {prog:Program} {w:World} {A:Around} {E:Value→Shared→Prop} {s:Shared} {kd:SortKind} {O:KeyOrd} {C:Cmp prog w A E s kd O} {a b ou:Array Keyed} {m n:Nat} {st:SortSt}
structure HI (C:Cmp prog w A E s kd O) (a b ou:Array Keyed) (m n:Nat):Prop where
 perm:(a.toList.take m++b.toList.take n++ou.toList.reverse).Perm (a.toList++b.toList)
 srt:LS C ou.toList.reverse
 hgh:LB C (a.toList.take m++b.toList.take n) ou.toList.reverse
def HI.size(h:HI C a b ou m n)(hm:m<=a.size)(hn:n<=b.size):ou.size+m+n=a.size+b.size:=by
 have:=h.perm.length_eq
 simp at this;lia
def k9{xs:Array Keyed}{i:Nat}{p:Keyed}(h:xs[i]?=some p):xs.toList.take (i+1)=xs.toList.take i++[p]:=by
 rw[qbO,qar,h];rfl
def iJ{xs:Array Keyed}(h:LS C xs.toList)(i:Nat):LS C (xs.toList.take i):=h.sublist (List.take_sublist i _)
def kX{xs:Array Keyed}(h:LS C xs.toList){i:Nat}{p:Keyed}(hp:xs[i]?=some p):∀y∈xs.toList.take (i+1),O.kle (C.key y) (C.key p):=by
 have h1:=iJ h (i+1);rw[k9 hp] at h1 ⊢;unfold LS at h1;rw[List.pairwise_append] at h1;intro y hy;rcases qay.mp hy with hy|hy
 ·exact h1.2.2 y hy p (by simp)
 ·have:y=p:=by simpa using hy
  subst this;exact KeyOrd.kle_refl _
def e9(p:Keyed):(ou.push p).toList.reverse=p::ou.toList.reverse:=by simp
def HI.pushA(h:HI C a b ou (m+1) n)(ha:LS C a.toList)(hb:LS C b.toList){p:Keyed}(hp:a[m]?=some p)(hn:1<=n)(hnb:n<=b.size)(hq:∀q,b[n - 1]?=some q->O.kle (C.key q) (C.key p)):HI C a b (ou.push p) m n:=by
 have hd:=k9 hp;obtain⟨q,hqq⟩:∃q,b[n - 1]?=some q:=⟨_,getElem?_pos b (n - 1) (by lia)⟩;have hle:∀y∈a.toList.take m++b.toList.take n,O.kle (C.key y) (C.key p):=by
  intro y hy;rcases qay.mp hy with hy|hy
  ·exact kX ha hp y (by rw[hd];exact qaG _ hy)
  ·refine KeyOrd.kle_trans (kX hb hqq y ?_) (hq q hqq)
   have:n - 1+1=n:=by lia
   rw[this];exact hy
 refine⟨?_,?_,?_⟩
 ·have:=h.perm
  rw[hd] at this;rw[e9];refine List.Perm.trans ?_ this;have e1:(a.toList.take m++b.toList.take n++p::ou.toList.reverse).Perm (p::(a.toList.take m++b.toList.take n++ou.toList.reverse)):=qbM;have e2:(a.toList.take m++[p]++b.toList.take n++ou.toList.reverse).Perm (p::(a.toList.take m++b.toList.take n++ou.toList.reverse)):=by
   have:a.toList.take m++[p]++b.toList.take n++ou.toList.reverse=a.toList.take m++p::(b.toList.take n++ou.toList.reverse):=by simp
   rw[this];have q:=qbM (a:=p) (l₁:=a.toList.take m) (l₂:=b.toList.take n++ou.toList.reverse);rw[<-qbd] at q;exact q
  exact e1.trans e2.symm
 ·rw[e9];unfold LS;rw[qbv];refine⟨fun y hy=>h.hgh p (qaG _ (by rw[hd];simp)) y hy,h.srt⟩
 ·rw[e9];intro x hx y hy;rcases qak.mp hy with rfl|hy
  ·exact hle x hx
  ·refine h.hgh x ?_ y hy;rcases qay.mp hx with hx|hx
   ·exact qaG _ (by rw[hd];exact qaG _ hx)
   ·exact qaj _ hx
def HI.pushB(h:HI C a b ou m (n+1))(ha:LS C a.toList)(hb:LS C b.toList){p:Keyed}(hp:b[n]?=some p)(hm:1<=m)(hma:m<=a.size)(hq:∀q,a[m - 1]?=some q->O.kle (C.key q) (C.key p)):HI C a b (ou.push p) m n:=by
 have hd:=k9 hp;obtain⟨q,hqq⟩:∃q,a[m - 1]?=some q:=⟨_,getElem?_pos a (m - 1) (by lia)⟩;have hle:∀y∈a.toList.take m++b.toList.take n,O.kle (C.key y) (C.key p):=by
  intro y hy;rcases qay.mp hy with hy|hy
  ·refine KeyOrd.kle_trans (kX ha hqq y ?_) (hq q hqq)
   have:m - 1+1=m:=by lia
   rw[this];exact hy
  ·exact kX hb hp y (by rw[hd];exact qaG _ hy)
 refine⟨?_,?_,?_⟩
 ·have:=h.perm
  rw[hd] at this;rw[e9];have e:a.toList.take m++(b.toList.take n++[p])++ou.toList.reverse=a.toList.take m++b.toList.take n++p::ou.toList.reverse:=by simp
  rw[e] at this;exact this
 ·rw[e9];unfold LS;rw[qbv];refine⟨fun y hy=>h.hgh p (qaj _ (by rw[hd];simp)) y hy,h.srt⟩
 ·rw[e9];intro x hx y hy;rcases qak.mp hy with rfl|hy
  ·exact hle x hx
  ·refine h.hgh x ?_ y hy;rcases qay.mp hx with hx|hx
   ·exact qaG _ hx
   ·exact qaj _ (by rw[hd];exact qaG _ hx)
def qU{xs:Array Keyed}{m k:Nat}{p:Keyed}(hk:k<m)(hm:m<=xs.size)(h:xs[m - (k+1)]?=some p):ou++(xs.extract (m - (k+1)) m).reverse=(ou++(xs.extract (m - k) m).reverse).push p:=by
 apply qba.mp;simp only[qaZ,qck,qbe,qbE,qaI];have e1:m - (m - (k+1))=k+1:=by lia
 have e2:m - (m - k)=k:=by lia
 have e3:m - (k+1)+1=m - k:=by lia
 rw[e1,e2,iI h,e3,List.take_succ_cons];simp
def HI.moveA(h:HI C a b ou m n)(ha:LS C a.toList)(hb:LS C b.toList)(hm:m<=a.size)(hn:1<=n)(hnb:n<=b.size):∀k,k<=m->(∀r p q,m - k<=r->r<m->a[r]?=some p->b[n - 1]?=some q->O.kle (C.key q) (C.key p)) ->
  HI C a b (ou++(a.extract (m - k) m).reverse) (m - k) n:=by
 intro k
 induction k with
 | zero =>
  intro _ _;have e:ou++(a.extract (m - 0) m).reverse=ou:=by apply qba.mp;simp[qaI]
  rw[e];exact h
 | succ k ih =>
  intro hk hq;have hp:a[m - (k+1)]?=some (a[m - (k+1)]'(by lia)):=getElem?_pos a _ (by lia);have h1:=ih (by lia) fun r p q hr1 hr2=>hq r p q (by lia) hr2;have e:m - k=m - (k+1)+1:=by lia
  rw[qU (by lia) hm hp];rw[e] at h1;have h2:=h1.pushA ha hb hp hn hnb (fun q hq'=>hq _ _ q (qai _) (by lia) hp hq');rw[<-e] at h2;exact h2
def HI.moveB(h:HI C a b ou m n)(ha:LS C a.toList)(hb:LS C b.toList)(hn:n<=b.size)(hm:1<=m)(hma:m<=a.size):∀k,k<=n->(∀r p q,n - k<=r->r<n->b[r]?=some p->a[m - 1]?=some q->O.kle (C.key q) (C.key p)) ->
  HI C a b (ou++(b.extract (n - k) n).reverse) m (n - k):=by
 intro k
 induction k with
 | zero =>
  intro _ _;have e:ou++(b.extract (n - 0) n).reverse=ou:=by apply qba.mp;simp[qaI]
  rw[e];exact h
 | succ k ih =>
  intro hk hq;have hp:b[n - (k+1)]?=some (b[n - (k+1)]'(by lia)):=getElem?_pos b _ (by lia);have h1:=ih (by lia) fun r p q hr1 hr2=>hq r p q (by lia) hr2;have e:n - k=n - (k+1)+1:=by lia
  rw[qU (by lia) hn hp];rw[e] at h1;have h2:=h1.pushB ha hb hp hm hma (fun q hq'=>hq _ _ q (qai _) (by lia) hp hq');rw[<-e] at h2;exact h2
def gS{xs:Array Keyed}{i:Nat}:(xs.extract 0 i).toList=xs.toList.take i:=by
 rw[qbE,qaI];simp
def HI.all(h:HI C a b ou m n)(ha:LS C a.toList)(hb:LS C b.toList)(hz:m=0\/n=0):MR C a b (a.extract 0 m++b.extract 0 n++ou.reverse):=by
 have e:(a.extract 0 m++b.extract 0 n++ou.reverse).toList=a.toList.take m++b.toList.take n++ou.toList.reverse:=by
  rw[qaZ,qaZ,gS,gS,qck]
 unfold MR;rw[e];refine⟨h.perm,bT ?_ h.srt h.hgh⟩;rcases hz with rfl|rfl
 ·simpa using iJ hb n
 ·simpa using iJ ha m
def HI.one(h:HI C a b ou m n)(T:Two C a b)(hz:n=1):MR C a b (b.extract 0 n++a.extract 0 m++ou.reverse):=by
 subst hz;have e:(b.extract 0 1++a.extract 0 m++ou.reverse).toList=b.toList.take 1++a.toList.take m++ou.toList.reverse:=by
  rw[qaZ,qaZ,gS,gS,qck]
 unfold MR;rw[e];have hnb:=T.nb;have hna:=T.na;have hp:b[0]?=some (b[0]'(by lia)):=getElem?_pos b 0 (by lia);have hq:a[0]?=some (a[0]'(by lia)):=getElem?_pos a 0 (by lia);have hd:=k9 hp;refine⟨(List.Perm.append_right _ qcf).trans h.perm,bT (bT (iJ T.sb 1) (iJ T.sa m) ?_) h.srt ?_⟩
 ·intro x hx y hy;have hx':x=b[0]'(by lia):=by
   have:x∈b.toList.take (0+1):=hx
   rw[hd] at this;simpa using this
  subst hx';refine KeyOrd.kle_trans (T.fst _ _ hp hq) (iV T.sa hq y ?_);rw[List.drop_zero];exact List.mem_of_mem_take hy
 ·intro x hx y hy;exact h.hgh x (qay.mpr (qay.mp hx).symm) y hy
end
abbrev HS:=Option (Array Keyed) × Nat × Nat × Array Keyed × Nat × Nat × Nat
def hiT3(a b ou:Array Keyed)(m n g ca cb:Nat):StateT SortSt Sem (ForInStep HS):=do
 let x <-elem' a (m - 1)
 if (m - 1 == 0)=true then pure (ForInStep.done (some (a.extract 0 (m - 1)++b.extract 0 n++(ou.push x).reverse),m - 1,n,ou.push x,g,ca,cb))
 else if (decide (ca<7) && decide (cb<7))=true then pure (ForInStep.done (none,m - 1,n,ou.push x,g,ca,cb))
 else pure (ForInStep.yield (none,m - 1,n,ou.push x,g,ca,cb))
def hiT2(a b ou:Array Keyed)(m n g ca cb:Nat):StateT SortSt Sem (ForInStep HS):=do
 let x <-elem' b (n - 1)
 if (n - 1 == 1)=true then pure (ForInStep.done (some (b.extract 0 (n - 1)++a.extract 0 m++(ou.push x).reverse),m,n - 1,ou.push x,g,ca,cb))
 else do
  let y <-elem' a (m - 1)
  let q <-gallop' true y b 0 (n - 1) (n - 1 - 1)
  match q with
  | some z =>
   if n - 1 - z>0 then
    if (z == 1)=true then
     pure (ForInStep.done (some (b.extract 0 z++a.extract 0 m++(ou.push x++(b.extract z (n - 1)).reverse).reverse),m,z,ou.push x++(b.extract z (n - 1)).reverse,g,ca,n - 1 - z))
    else if (z == 0)=true then
     pure (ForInStep.done (some (a.extract 0 m++b.extract 0 z++(ou.push x++(b.extract z (n - 1)).reverse).reverse),m,z,ou.push x++(b.extract z (n - 1)).reverse,g,ca,n - 1 - z))
    else hiT3 a b (ou.push x++(b.extract z (n - 1)).reverse) m z g ca (n - 1 - z)
   else hiT3 a b (ou.push x) m (n - 1) g ca (n - 1 - z)
  | _=>pure (ForInStep.done (some (a.extract 0 m++b.extract 0 (n - 1)++(ou.push x).reverse),m,n - 1,ou.push x,g,ca,cb))
def hiT1(a b ou:Array Keyed)(m n g ca cb:Nat):StateT SortSt Sem (ForInStep HS):=do
 je g
 let x <-elem' b (n - 1)
 let q <-gallop' false x a 0 m (m - 1)
 match q with
 | some z =>
  if m - z>0 then
   if (z == 0)=true then
    pure (ForInStep.done (some (a.extract 0 z++b.extract 0 n++(ou++(a.extract z m).reverse).reverse),z,n,ou++(a.extract z m).reverse,g,m - z,cb))
   else hiT2 a b (ou++(a.extract z m).reverse) z n g (m - z) cb
  else hiT2 a b ou m n g (m - z) cb
 | _=>pure (ForInStep.done (some (a.extract 0 m++b.extract 0 n++ou.reverse),m,n,ou,g,ca,cb))
abbrev HB:=Option (Array Keyed) × Nat × Nat × Array Keyed × Nat × Nat
abbrev HC:=Option (Array Keyed) × Nat × Nat × Array Keyed × Nat
def hiP(a b:Array Keyed)(g:Nat)(c:HB):StateT SortSt Sem (ForInStep HB):=do
 let x <-elem' b (c.2.2.1 - 1)
 let y <-elem' a (c.2.1 - 1)
 let q <-lt' x y
 match q with
 | some q =>
  if q=true then do
   let z <-elem' a (c.2.1 - 1)
   if (c.2.1 - 1 == 0)=true then pure (ForInStep.done (some (a.extract 0 (c.2.1 - 1)++b.extract 0 c.2.2.1++(c.2.2.2.1.push z).reverse),c.2.1 - 1,c.2.2.1,c.2.2.2.1.push z,c.2.2.2.2.1+1,0))
   else if c.2.2.2.2.1+1>=g then pure (ForInStep.done (none,c.2.1 - 1,c.2.2.1,c.2.2.2.1.push z,c.2.2.2.2.1+1,0))
   else pure (ForInStep.yield (none,c.2.1 - 1,c.2.2.1,c.2.2.2.1.push z,c.2.2.2.2.1+1,0))
  else do
   let z <-elem' b (c.2.2.1 - 1)
   if (c.2.2.1 - 1 == 1)=true then pure (ForInStep.done (some (b.extract 0 (c.2.2.1 - 1)++a.extract 0 c.2.1++(c.2.2.2.1.push z).reverse),c.2.1,c.2.2.1 - 1,c.2.2.2.1.push z,0,c.2.2.2.2.2+1))
   else if c.2.2.2.2.2+1>=g then pure (ForInStep.done (none,c.2.1,c.2.2.1 - 1,c.2.2.2.1.push z,0,c.2.2.2.2.2+1))
   else pure (ForInStep.yield (none,c.2.1,c.2.2.1 - 1,c.2.2.2.1.push z,0,c.2.2.2.2.2+1))
 | _=>pure (ForInStep.done (some (a.extract 0 c.2.1++b.extract 0 c.2.2.1++c.2.2.2.1.reverse),c.2.1,c.2.2.1,c.2.2.2.1,c.2.2.2.2.1,c.2.2.2.2.2))
def hiG(a b:Array Keyed)(c:HS):StateT SortSt Sem (ForInStep HS) :=
 if c.2.2.2.2.1>1 then hiT1 a b c.2.2.2.1 c.2.1 c.2.2.1 (c.2.2.2.2.1 - 1) c.2.2.2.2.2.1 c.2.2.2.2.2.2
 else hiT1 a b c.2.2.2.1 c.2.1 c.2.2.1 c.2.2.2.2.1 c.2.2.2.2.2.1 c.2.2.2.2.2.2
def hiE(c:HS):StateT SortSt Sem (ForInStep HC) :=
 match c.1 with
 | some r=>pure (ForInStep.done (some r,c.2.1,c.2.2.1,c.2.2.2.1,c.2.2.2.2.1))
 | none=>do
  je (c.2.2.2.2.1+1)
  pure (ForInStep.yield (none,c.2.1,c.2.2.1,c.2.2.2.1,c.2.2.2.2.1+1))
def hiD(a b:Array Keyed)(g:Nat)(c:HB):StateT SortSt Sem (ForInStep HC) :=
 match c.1 with
 | some r=>pure (ForInStep.done (some r,c.2.1,c.2.2.1,c.2.2.2.1,g))
 | none=>do
  liftM (rule "list.sort.gallop")
  let e <-forIn [:a.size+b.size] ((none,c.2.1,c.2.2.1,c.2.2.2.1,g+1,c.2.2.2.2.1,c.2.2.2.2.2):HS) fun _ e=>hiG a b e
  hiE e
def hiO(a b:Array Keyed)(c:HC):StateT SortSt Sem (ForInStep HC):=do
 let d <-forIn [:a.size+b.size] ((none,c.2.1,c.2.2.1,c.2.2.2.1,0,0):HB) fun _ d=>hiP a b c.2.2.2.2 d
 hiD a b c.2.2.2.2 d
def hiZ(a b:Array Keyed)(x:Keyed):StateT SortSt Sem (Array Keyed):=do
 let g <-get
 let r <-forIn [:a.size+b.size] ((none,a.size - 1,b.size,#[x],gallopOf g):HC) fun _ c=>hiO a b c
 match r.1 with
 | some r=>pure r
 | none=>liftM (unsupported "internal:list.sort.merge-bound":Sem (Array Keyed))
def hi_n(a b:Array Keyed):jg a b=(do
 liftM (rule "list.sort.merge-hi")
 let x <-elem' a (a.size - 1)
 if (a.size - 1 == 0)=true then pure (a.extract 0 (a.size - 1)++b.extract++#[x].reverse)
 else if (b.size == 1)=true then pure (b.extract++a.extract 0 (a.size - 1)++#[x].reverse)
 else hiZ a b x):=by
 rw[ug];dsimp only;refine congrArg (Bind.bind _) (funext fun _=>congrArg (Bind.bind _) (funext fun x=>congrArg (fun z=>ite _ _ (ite _ _ z)) ?_));unfold hiZ;have e:∀{α β:Type} {x y:StateT SortSt Sem α} {f h:α->StateT SortSt Sem β},x=y->(∀a,f a=h a)->(x >>= f)=(y >>= h):=fun e f=>by rw[e,funext f]
 refine congrArg (Bind.bind _) (funext fun g=>e (congrArg (forIn _ _) (funext fun _=>funext fun c=>?_)) fun ⟨r,_⟩=>by cases r <;> rfl);refine e rfl fun d=>?_;obtain⟨d1,d2⟩:=d
 cases d1 with
 | some r=>rfl
 | none=>exact congrArg (Bind.bind _) (funext fun _=>e rfl fun ⟨r,_⟩=>by cases r <;> rfl)
section
variable {prog:Program} {w:World} {A:Around} {E:Value→Shared→Prop} {s:Shared} {kd:SortKind} {O:KeyOrd} {C:Cmp prog w A E s kd O} {st:SortSt} {a b:Array Keyed}
def LIh(C:Cmp prog w A E s kd O)(a b:Array Keyed)(N:Nat)(c:HS):Prop :=
 c.1=none/\HI C a b c.2.2.2.1 c.2.1 c.2.2.1/\1<=c.2.1/\c.2.1<=a.size/\2<=c.2.2.1/\c.2.2.1<=b.size/\N<=c.2.2.2.1.size
def nQ(C:Cmp prog w A E s kd O)(a b:Array Keyed)(N:Nat)(st:SortSt)(r:ForInStep HS)(st':SortSt):Prop:=Eqv st st'/\match r with
 | .done c=>(∃x,c.1=some x/\MR C a b x)\/LIh C a b N c
 | .yield c=>LIh C a b N c
def u4(T:Two C a b)(h:HI C a b ou m n)(hm:1<=m)(hma:m<=a.size)(hn:2<=n)(hnb:n<=b.size)(hN:N<=ou.size)
  (hle:∀p q,b[n - 1]?=some p->a[m - 1]?=some q->O.kle (C.key p) (C.key q)):wpS (model prog w) A E s (hiT3 a b ou m n g ca cb) (nQ C a b N st) st:=by
 unfold hiT3;refine wpS_bind (aM (by lia) fun x hx=>?_);have e:m=m - 1+1:=by lia
 have h1:HI C a b (ou.push x) (m - 1) n:=by
  have h':=h;rw[e] at h';exact h'.pushA T.sa T.sb hx (by lia) hnb (fun q hq=>hle q x hq hx)
 have hsz:(ou.push x).size=ou.size+1:=qbt ..;by_cases z1:m - 1=0
 ·rw[qah (by simpa using z1)];exact wpS_pure ⟨Eqv.rfl',.inl ⟨_,rfl,h1.all T.sa T.sb (.inl z1)⟩⟩
 ·rw[qan (by simpa using z1)];have li:LIh C a b N (none,m - 1,n,ou.push x,g,ca,cb):=⟨rfl,h1,by show 1<=m - 1;lia,by show m - 1<=a.size;lia,hn,hnb,by show N<=(ou.push x).size;lia⟩;split
  ·exact wpS_pure ⟨Eqv.rfl',.inr li⟩
  ·exact wpS_pure ⟨Eqv.rfl',li⟩
def uT(T:Two C a b)(hk:kindOf st=kd)(h:HI C a b ou m n)(hm:1<=m)(hma:m<=a.size)(hn:2<=n)(hnb:n<=b.size)(hN:N<=ou.size)
  (hle:∀p q,a[m - 1]?=some p->b[n - 1]?=some q->O.kle (C.key p) (C.key q)):wpS (model prog w) A E s (hiT2 a b ou m n g ca cb) (nQ C a b N st) st:=by
 unfold hiT2;refine wpS_bind (aM (by lia) fun x hx=>?_);have e:n=n - 1+1:=by lia
 have h1:HI C a b (ou.push x) m (n - 1):=by
  have h':=h;rw[e] at h';exact h'.pushB T.sa T.sb hx hm hma (fun q hq=>hle q x hq hx)
 have hsz:(ou.push x).size=ou.size+1:=qbt ..;by_cases z1:n - 1=1
 ·rw[qah (by simpa using z1)];exact wpS_pure ⟨Eqv.rfl',.inl ⟨_,rfl,h1.one T z1⟩⟩
 ·rw[qan (by simpa using z1)];refine wpS_bind (aM (by lia) fun y hy=>?_);refine wpS_bind (dl (C:=C) hk T.gb (be T.ga hy) (by lia) (by lia) ?_ fun z hz hlo hhi=>?_)
  ·intro p q hp hpq hq;exact j9 T.sb p q (qaK _) hpq (by lia)
  ·have hlo':∀r p q,r<z->b[r]?=some p->a[m - 1]?=some q->O.kle (C.key p) (C.key q):=fun r p q hr hp hq=>by
    have:=hlo r hr
    unfold ahead at this;rw[qbu,aJ hp] at this;rw[hy] at hq;cases hq;exact KeyOrd.kle_of_klt this
   have hhi':∀r p q,z<=r->r<n - 1->b[r]?=some p->a[m - 1]?=some q->O.kle (C.key q) (C.key p):=fun r p q hr1 hr2 hp hq=>by
    have:=hhi r hr1 hr2
    unfold ahead at this;rw[qbu,aJ hp] at this;rw[hy] at hq;cases hq;exact this
   dsimp only;by_cases hk0:n - 1 - z>0
   ·rw[qah hk0];have ez:n - 1 - (n - 1 - z)=z:=by lia
    have h2:=h1.moveB T.sa T.sb (by lia) hm hma (n - 1 - z) (by lia) (fun r p q hr1 hr2=>hhi' r p q (by lia) hr2);rw[ez] at h2;by_cases z2:z=1
    ·rw[qah (by simpa using z2)];exact wpS_pure ⟨Eqv.rfl',.inl ⟨_,rfl,h2.one T z2⟩⟩
    ·rw[qan (by simpa using z2)];by_cases z3:z=0
     ·rw[qah (by simpa using z3)];exact wpS_pure ⟨Eqv.rfl',.inl ⟨_,rfl,h2.all T.sa T.sb (.inr z3)⟩⟩
     ·rw[qan (by simpa using z3)];exact u4 T h2 hm hma (by lia) (by lia) (by rw[qbV];lia) (fun p q hp hq=>hlo' (z - 1) p q (by lia) hp hq)
   ·rw[qan hk0];exact u4 T h1 hm hma (by lia) (by lia) (by lia) (fun p q hp hq=>hlo' (n - 1 - 1) p q (by lia) hp hq)
def vw(T:Two C a b)(hk:kindOf st=kd)(h:HI C a b ou m n)(hm:1<=m)(hma:m<=a.size)(hn:2<=n)(hnb:n<=b.size)(hN:N<=ou.size) :
  wpS (model prog w) A E s (hiT1 a b ou m n g ca cb) (nQ C a b N st) st:=by
 unfold hiT1;rw[kU];refine wpS_bind (wpS_modify ?_);have ev:Eqv st (SortSt.mk' (kindOf st) (arrOf st) (pendingOf st) g (failedOf st)):=⟨rfl,rfl,rfl,rfl⟩;refine wpS_mono (Q:=nQ C a b N (SortSt.mk' (kindOf st) (arrOf st) (pendingOf st) g (failedOf st))) ?_ fun r st' h=>⟨ev.trans h.1,h.2⟩;have hk':kindOf (SortSt.mk' (kindOf st) (arrOf st) (pendingOf st) g (failedOf st))=kd:=hk;refine wpS_bind (aM (by lia) fun x hx=>?_);refine wpS_bind (dl (C:=C) hk' T.ga (be T.gb hx) (by lia) (by lia) ?_ fun z hz hlo hhi=>?_)
 ·intro p q hp hpq hq;exact j9 T.sa p q (qaK _) hpq (by lia)
 ·have hlo':∀r p q,r<z->a[r]?=some p->b[n - 1]?=some q->O.kle (C.key p) (C.key q):=fun r p q hr hp hq=>by
   have:=hlo r hr
   unfold ahead at this;rw[qbu,aJ hp] at this;rw[hx] at hq;cases hq;simp only[qaf,if_false,qbG] at this;exact this
  have hhi':∀r p q,z<=r->r<m->a[r]?=some p->b[n - 1]?=some q->O.kle (C.key q) (C.key p):=fun r p q hr1 hr2 hp hq=>by
   have:=hhi r hr1 hr2
   unfold ahead at this;rw[qbu,aJ hp] at this;rw[hx] at hq;cases hq;simp only[qaf,if_false,qcr] at this;exact KeyOrd.kle_of_klt this
  dsimp only;by_cases hk0:m - z>0
  ·rw[qah hk0];have ez:m - (m - z)=z:=by lia
   have h2:=h.moveA T.sa T.sb hma (by lia) hnb (m - z) (by lia) (fun r p q hr1 hr2=>hhi' r p q (by lia) hr2);rw[ez] at h2;by_cases z2:z=0
   ·rw[qah (by simpa using z2)];exact wpS_pure ⟨Eqv.rfl',.inl ⟨_,rfl,h2.all T.sa T.sb (.inl z2)⟩⟩
   ·rw[qan (by simpa using z2)];exact uT T hk' h2 (by lia) (by lia) hn hnb (by rw[qbV];lia) (fun p q hp hq=>hlo' (z - 1) p q (by lia) hp hq)
  ·rw[qan hk0];exact uT T hk' h hm hma hn hnb hN (fun p q hp hq=>hlo' (m - 1) p q (by lia) hp hq)
def L1h(C:Cmp prog w A E s kd O)(a b:Array Keyed)(N:Nat)(c:HB):Prop :=
 c.1=none/\HI C a b c.2.2.2.1 c.2.1 c.2.2.1/\1<=c.2.1/\c.2.1<=a.size/\2<=c.2.2.1/\c.2.2.1<=b.size/\N<=c.2.2.2.1.size
def L0h(C:Cmp prog w A E s kd O)(a b:Array Keyed)(N:Nat)(c:HC):Prop :=
 c.1=none/\HI C a b c.2.2.2.1 c.2.1 c.2.2.1/\1<=c.2.1/\c.2.1<=a.size/\2<=c.2.2.1/\c.2.2.1<=b.size/\N<=c.2.2.2.1.size
def Step1(C:Cmp prog w A E s kd O)(a b:Array Keyed)(N:Nat)(st:SortSt)(r:ForInStep HB)(st':SortSt):Prop:=match r with
 | .done c=>st'=st/\((∃x,c.1=some x/\MR C a b x)\/L1h C a b N c)
 | .yield c=>st'=st/\L1h C a b N c
def v8(C:Cmp prog w A E s kd O)(a b:Array Keyed)(N:Nat)(st:SortSt)(r:ForInStep HC)(st':SortSt):Prop:=match r with
 | .done c=>Eqv st st'/\∃x,c.1=some x/\MR C a b x
 | .yield c=>Eqv st st'/\L0h C a b N c
def hiP_ok(T:Two C a b)(hk':kindOf st=kd)(hI':HI C a b ou' m' n')(hm':1<=m')(hma':m'<=a.size)(hn':2<=n')(hnb2:n'<=b.size)(hN:N<=ou'.size) :
  wpS (model prog w) A E s (hiP a b g (none,m',n',ou',ca,cb)) (Step1 C a b (N+1) st) st:=by
 unfold hiP;dsimp only;refine wpS_bind (aM (by lia) fun p hp=>wpS_bind (aM (by lia) fun q hq=>?_));refine wpS_bind (C.ask p q st _ (be T.gb hp) (be T.ga hq) hk' ?_)
 cases hz:O.blt (C.key p) (C.key q) with
 | true =>
  dsimp only;rw[qah rfl];refine wpS_bind (aM (by lia) fun q' hq'=>?_);rw[hq] at hq';cases hq';have em:m'=m' - 1+1:=by lia
  have h2:HI C a b (ou'.push q) (m' - 1) n':=by
   have h':=hI';rw[em] at h';exact h'.pushA T.sa T.sb hq (by lia) hnb2 (fun p' hp'=>by rw[hp] at hp';cases hp';exact KeyOrd.kle_of_klt hz)
  have hs2:(ou'.push q).size=ou'.size+1:=qbt ..;by_cases z3:m' - 1=0
  ·rw[qah (by simpa using z3)];exact wpS_pure ⟨rfl,.inl ⟨_,rfl,h2.all T.sa T.sb (.inl z3)⟩⟩
  ·rw[qan (by simpa using z3)];split
   ·exact wpS_pure ⟨rfl,.inr ⟨rfl,h2,by lia,by lia,hn',hnb2,by rw[hs2];lia⟩⟩
   ·exact wpS_pure ⟨rfl,rfl,h2,by lia,by lia,hn',hnb2,by rw[hs2];lia⟩
 | false =>
  dsimp only;rw[qan (by simp)];refine wpS_bind (aM (by lia) fun p' hp'=>?_);rw[hp] at hp';cases hp';have en:n'=n' - 1+1:=by lia
  have h2:HI C a b (ou'.push p) m' (n' - 1):=by
   have h':=hI';rw[en] at h';exact h'.pushB T.sa T.sb hp hm' hma' (fun q' hq'=>by rw[hq] at hq';cases hq';exact hz)
  have hs2:(ou'.push p).size=ou'.size+1:=qbt ..;by_cases z3:n' - 1=1
  ·rw[qah (by simpa using z3)];exact wpS_pure ⟨rfl,.inl ⟨_,rfl,h2.one T z3⟩⟩
  ·rw[qan (by simpa using z3)];split
   ·exact wpS_pure ⟨rfl,.inr ⟨rfl,h2,hm',hma',by lia,by lia,by rw[hs2];lia⟩⟩
   ·exact wpS_pure ⟨rfl,rfl,h2,hm',hma',by lia,by lia,by rw[hs2];lia⟩
def hiE_ok(ev:Eqv st0 st)(hc:(∃x,c.1=some x/\MR C a b x)\/LIh C a b N c):wpS (model prog w) A E s (hiE c) (v8 C a b N st0) st:=by
 obtain⟨c1,m3,n3,ou3,g3,ca3,cb3⟩:=c;rcases hc with ⟨r,hr,mr⟩|⟨hc,hr⟩
 ·cases hr;exact wpS_pure ⟨ev,r,rfl,mr⟩
 ·cases hc;unfold hiE;dsimp only;rw[kU];exact wpS_bind (wpS_modify (wpS_pure ⟨ev.trans ⟨rfl,rfl,rfl,rfl⟩,rfl,hr⟩))
def hiG_ok(T:Two C a b)(hk:kindOf st=kd)(h:LIh C a b N c):wpS (model prog w) A E s (hiG a b c) (nQ C a b N st) st:=by
 obtain⟨_,i3,hm3,hma3,hn3,hnb3,hN3⟩:=h;unfold hiG;split
 ·exact vw T hk i3 hm3 hma3 hn3 hnb3 hN3
 ·exact vw T hk i3 hm3 hma3 hn3 hnb3 hN3
def hiD_ok(T:Two C a b)(hk:kindOf st=kd)(ev:Eqv st0 st)(hc:(∃x,c.1=some x/\MR C a b x)\/L1h C a b N c):wpS (model prog w) A E s (hiD a b g c) (v8 C a b N st0) st:=by
 obtain⟨c1,m',n',ou',ca,cb⟩:=c;rcases hc with ⟨r,hr,mr⟩|⟨hc,hr⟩
 ·cases hr;exact wpS_pure ⟨ev,r,rfl,mr⟩
 ·cases hc;unfold hiD;dsimp only;refine wpS_bind (wpS_lift (wpAny_rule ⟨rfl,?_⟩));refine wpS_bind (wpS_mono (wpS_forRange (I:=fun y c st3=>Eqv st st3/\LIh C a b N c) (Q:=fun c st3=>Eqv st st3/\((∃x,c.1=some x/\MR C a b x)\/LIh C a b N c)) ?_ ?_ ⟨Eqv.rfl',rfl,hr⟩) ?_)
  ·rintro y c st3 _ hy ⟨ev3,h3⟩;refine wpS_mono (hiG_ok T (ev3.kind.trans hk) h3) fun r st4 hr=>?_
   cases r with
   | done c'=>exact⟨ev3.trans hr.1,hr.2⟩
   | yield c'=>exact⟨ev3.trans hr.1,hr.2⟩
  ·rintro c st3 ⟨ev3,hli⟩;exact⟨ev3,.inr hli⟩
  ·rintro c st3 ⟨ev3,hc⟩;exact hiE_ok (ev.trans ev3) hc
def hiO_ok(T:Two C a b)(hk:kindOf st=kd)(h:L0h C a b N c):wpS (model prog w) A E s (hiO a b c) (v8 C a b (N+1) st) st:=by
 obtain⟨c1,m,n,ou,g⟩:=c;obtain⟨hc,hI,hm,hma,hn,hnb',hsz⟩:=h;cases hc;unfold hiO
 refine wpS_bind (wpS_mono (wpS_forRange (I:=fun y c st''=>st''=st/\L1h C a b (N+y) c)
  (Q:=fun c st''=>st''=st/\((∃x,c.1=some x/\MR C a b x)\/L1h C a b (N+1) c)) ?_ ?_ ⟨rfl,rfl,hI,hm,hma,hn,hnb',hsz⟩) ?_)
 ·rintro y c st'' _ hy ⟨rfl,h1⟩;obtain⟨c1,m',n',ou',ca,cb⟩:=c;obtain⟨hc,hI',hm',hma',hn',hnb2,hsz'⟩:=h1;cases hc;refine wpS_mono (hiP_ok T hk hI' hm' hma' hn' hnb2 hsz') fun r st4 hr=>?_
  cases r with
  | done c'=>exact⟨hr.1,hr.2.imp_right fun h=>⟨h.1,h.2.1,h.2.2.1,h.2.2.2.1,h.2.2.2.2.1,h.2.2.2.2.2.1,qaJ (by lia) h.2.2.2.2.2.2⟩⟩
  | yield c'=>exact hr
 ·rintro c st'' ⟨rfl,h⟩
  have:=T.na
  exact⟨rfl,.inr ⟨h.1,h.2.1,h.2.2.1,h.2.2.2.1,h.2.2.2.2.1,h.2.2.2.2.2.1,qaJ (by lia) h.2.2.2.2.2.2⟩⟩
 ·rintro c st'' ⟨rfl,hc⟩;exact hiD_ok T hk Eqv.rfl' hc
def hiZ_ok(T:Two C a b)(hk:kindOf st=kd)(h1:HI C a b #[x0] (a.size - 1) b.size)(hm:1<=a.size - 1)(hn:2<=b.size)(h:∀x st',Eqv st st'->MR C a b x->Q x st'):wpS (model prog w) A E s (hiZ a b x0) Q st:=by
 unfold hiZ;refine wpS_bind (wpS_get ?_)
 refine wpS_bind (wpS_mono (wpS_forRange (I:=fun x c st'=>Eqv st st'/\L0h C a b (x+1) c)
  (Q:=fun c st'=>Eqv st st'/\∃x,c.1=some x/\MR C a b x) ?_ ?_ ⟨Eqv.rfl',rfl,h1,hm,Nat.sub_le _ _,hn,qai _,qai _⟩) ?_)
 ·rintro x c st' _ hx ⟨ev,h0⟩;refine wpS_mono (hiO_ok T (ev.kind.trans hk) h0) fun r st4 hr=>?_
  cases r with
  | done c'=>exact⟨ev.trans hr.1,hr.2⟩
  | yield c'=>exact⟨ev.trans hr.1,hr.2⟩
 ·rintro c st' ⟨ev,h0⟩;exfalso
  have:=h0.2.1.size h0.2.2.2.1 h0.2.2.2.2.2.1
  have:=h0.2.2.2.2.2.2
  lia
 ·rintro c st' ⟨ev,r,hr,mr⟩;obtain⟨c1,c2⟩:=c;cases hr;exact wpS_pure (h r st' ev mr)
def wps_hi(T:Two C a b)(hk:kindOf st=kd)(h:∀x st',Eqv st st'->MR C a b x->Q x st'):wpS (model prog w) A E s (jg a b) Q st:=by
 rw[hi_n];refine wpS_bind (wpS_lift (wpAny_rule ⟨rfl,?_⟩));have hna:=T.na;have hnb:=T.nb;refine wpS_bind (aM (by lia) fun x0 hx0=>?_)
 have h0:HI C a b #[] a.size b.size:=⟨by
   have e1:a.toList.take a.size=a.toList:=qbQ (by simp);have e2:b.toList.take b.size=b.toList:=qbQ (by simp)
   rw[e1,e2];simp,by unfold LS;simp,fun x _ y hy=>by simp at hy⟩
 have h1:HI C a b #[x0] (a.size - 1) b.size:=by
  have e:a.size=a.size - 1+1:=by lia
  have h':HI C a b #[] (a.size - 1+1) b.size:=by rw[<-e];exact h0
  have:=h'.pushA T.sa T.sb hx0 hnb (qai _) (fun q hq=>T.lst q x0 (qaA.mpr ⟨_,by rw[qar];exact hq⟩) hx0)
  simpa using this
 by_cases z1:a.size - 1=0
 ·rw[qah (by simpa using z1)];exact wpS_pure (h _ st Eqv.rfl' (h1.all T.sa T.sb (.inl z1)))
 ·rw[qan (by simpa using z1)];by_cases z2:b.size=1
  ·rw[qah (by simpa using z2)];exact wpS_pure (h _ st Eqv.rfl' (h1.one T z2))
  ·rw[qan (by simpa using z2)];exact hiZ_ok T hk h1 (by lia) (by lia) h
end
def ur(i:Nat):mergeAt' i=(do
 let c <-get
 let (some (sa,na,pw),some (sb,nb,_)):=((pendingOf c)[i]?,(pendingOf c)[i+1]?)|unsupported "internal:list.sort.pending"
 set (setPending c (((pendingOf c).setIfInBounds i (sa,na+nb,pw)).eraseIdxIfInBounds (i+1)))
 let some k <-gallop' false (<-elem' (arrOf c) sb) (arrOf c) sa na 0|return false
 let (sa,na):=(sa+k,na - k)
 if na == 0 then return true
 let some nb <-gallop' true (<-elem' (arrOf c) (sa+na - 1)) (arrOf c) sb nb (nb - 1)|return false
 if nb == 0 then return true
 let x:=(arrOf c).extract sa sb
 let y:=(arrOf c).extract sb (sb+nb)
 let ou <-if na<=nb then jh x y else jg x y
 modify fun c=>setArr c (ou.toList.zipIdx.foldl (fun a (p,j)=>a.setIfInBounds (sa+j) p) (arrOf c))
 return (failedOf (<-get)).isNone):=rfl
def lay_get(off:Nat):∀(l:List Keyed) (q:Nat) (xs:Array Keyed) (i:Nat),((l.zipIdx q).foldl (fun a (p:Keyed × Nat)=>a.setIfInBounds (off+p.2) p.1) xs)[i]? =
  if off+q<=i/\i<off+q+l.length/\i<xs.size then l[i - (off+q)]? else xs[i]?:=by
 intro l
 induction l with
 | nil=>intro q xs i;rw[qan (by simp;lia)];rfl
 | cons p l ih =>
  intro q xs i;rw[qcF,qcl,ih];simp only[Array.size_setIfInBounds,qbj];by_cases h1:off+q=i
  ·subst h1;rw[qan (by lia),qbR];by_cases h2:off+q<xs.size
   ·have h3:off+q<=off+q/\off+q<off+q+(l.length+1)/\off+q<xs.size:=⟨by lia,by lia,h2⟩;simp[h2,h3]
   ·have h3:¬(off+q<=off+q/\off+q<off+q+(l.length+1)/\off+q<xs.size):=fun z=>h2 z.2.2;rw[qan h3];simp[h2]
  ·by_cases h2:off+(q+1)<=i/\i<off+(q+1)+l.length/\i<xs.size
   ·rw[qah h2,qah (by lia)];obtain⟨d,hd⟩:∃d,i - (off+q)=d+1:=⟨i - (off+q) - 1,by lia⟩;have hd2:i - (off+(q+1))=d:=by lia
    rw[hd,hd2,qcz]
   ·rw[qan h2,qbR,qan h1];by_cases h3:off+q<=i/\i<off+q+(l.length+1)/\i<xs.size
    ·exfalso;lia
    ·rw[qan h3]
def yF{xs ou:Array Keyed}{off:Nat}(h:off+ou.size<=xs.size) :
  (ou.toList.zipIdx.foldl (fun a (p:Keyed × Nat)=>a.setIfInBounds (off+p.2) p.1) xs).toList=xs.toList.take off++(ou.toList++xs.toList.drop (off+ou.size)):=by
 apply qbI;intro i;rw[qar,lay_get];have hl:(xs.toList.take off).length=off:=by simp;lia
 by_cases h1:i<off
 ·rw[qan (by lia),qao (by lia),qbF h1,qar]
 ·rw[qaC (by lia),hl];by_cases h2:i<off+ou.size
  ·rw[qah ⟨by lia,by simpa using h2,by lia⟩,qao (by simp;lia)];congr 1
  ·rw[qan (by simp;lia),qaC (by simp;lia),qce,qar];congr 1;simp;lia
section
variable {prog:Program} {w:World} {A:Around} {E:Value→Shared→Prop} {s:Shared} {kd:SortKind} {O:KeyOrd} {C:Cmp prog w A E s kd O} {a₀:Array Keyed} {st:SortSt}
def gW{xs:Array Keyed}{lo hi i j:Nat}(h:Srt C xs lo hi)(hi':lo<=i)(hij:i<=j)(hj:j<hi){p q:Keyed}(hp:xs[i]?=some p)(hq:xs[j]?=some q):O.kle (C.key p) (C.key q):=by
 have:=h i j hi' hij hj
 rw[aJ hp,aJ hq] at this;exact this
def uF{xs:Array Keyed}{lo hi:Nat}{p:Keyed}(hhi:hi<=xs.size)(h:p∈(xs.extract lo hi).toList):∃i,lo<=i/\i<hi/\xs[i]?=some p:=by
 obtain⟨q,hq⟩:=qaA.mp h;rw[qar,qby] at hq
 split at hq
 ·rename_i h1
  exact⟨lo+q,by lia,by lia,hq⟩
 ·cases hq
def split3{xs:Array Keyed}{i j k:Nat}(h1:i<=j)(h2:j<=k)(h3:k<=xs.size):xs.toList=xs.toList.take i++((xs.extract i j).toList++(xs.extract j k).toList++xs.toList.drop k):=by
 have e1:(xs.extract i j).toList=(xs.toList.drop i).take (j - i):=by simp[qaI]
 have e2:(xs.extract j k).toList=(xs.toList.drop j).take (k - j):=by simp[qaI]
 rw[e1,e2];have a1:(xs.toList.drop j).take (k - j)++xs.toList.drop k=xs.toList.drop j:=by
  have:=qbk (k - j) (xs.toList.drop j)
  rw[List.drop_drop] at this;have e:j+(k - j)=k:=by lia
  rw[e] at this;exact this
 have a2:(xs.toList.drop i).take (j - i)++xs.toList.drop j=xs.toList.drop i:=by
  have:=qbk (j - i) (xs.toList.drop i)
  rw[List.drop_drop] at this;have e:i+(j - i)=j:=by lia
  rw[e] at this;exact this
 rw[qbd,a1,a2,qbk]
def uj{n1 pw:Nat}{Q:Bool->SortSt->Prop}(h0:ce C a₀)(hB:SB kd a₀ st)(h1:1<=n1)(h2:n1<a₀.size)(hp:pendingOf st=#[(0,n1,pw),(n1,a₀.size - n1,0)])
  (hs1:Srt C (arrOf st) 0 n1) (hs2:Srt C (arrOf st) n1 a₀.size)
  (h:∀st',SB kd a₀ st'->(pendingOf st').size=1->Srt C (arrOf st') 0 a₀.size->Q true st'):wpS (model prog w) A E s (mergeAt' 0) Q st:=by
 have hsz:=hB.size;have hg:=hB.good h0;rw[ur];refine wpS_bind (wpS_get ?_);rw[hp];have e0:(#[(0,n1,pw),(n1,a₀.size - n1,0)]:Array (Nat × Nat × Nat))[0]?=some (0,n1,pw):=rfl;have e1:(#[(0,n1,pw),(n1,a₀.size - n1,0)]:Array (Nat × Nat × Nat))[0+1]?=some (n1,a₀.size - n1,0):=rfl;rw[e0,e1];dsimp only;refine wpS_bind ?_;have hset:∀(c:SortSt) (Q':PUnit->SortSt->Prop),Q' ⟨⟩ c->wpS (model prog w) A E s (set c:StateT SortSt Sem PUnit) Q' st:=fun c Q' hq=>by
  unfold wpS;rw[StateT.run_set];exact qag ⟨rfl,hq⟩
 refine hset _ _ ?_;obtain⟨st1,hst1⟩:∃c,c=setPending st (((#[(0,n1,pw),(n1,a₀.size - n1,0)]:Array (Nat × Nat × Nat)).setIfInBounds 0 (0,n1+(a₀.size - n1),pw)).eraseIdxIfInBounds (0+1)):=⟨_,rfl⟩;rw[<-hst1];have hB1:SB kd a₀ st1:=by rw[hst1];exact⟨hB.perm,hB.kind,hB.failed⟩
 have hp1:(pendingOf st1).size=1:=by rw[hst1];simp[pendingOf]
 have ha1:arrOf st1=arrOf st:=by rw[hst1]
 clear hst1;have whole:Srt C (arrOf st) 0 n1->Srt C (arrOf st) n1 a₀.size->(∀i j,i<n1->n1<=j->j<a₀.size->O.kle (kk C (arrOf st) i) (kk C (arrOf st) j))->Srt C (arrOf st1) 0 a₀.size:=by
  intro g1 g2 g3 i j _ hij hj;rw[ha1];by_cases c1:j<n1
  ·exact g1 i j (qaK _) hij c1
  ·by_cases c2:i<n1
   ·exact g3 i j c2 (by lia) hj
   ·exact g2 i j (by lia) hij hj
 refine wpS_bind (aM (by lia) fun b0 hb0=>?_);refine wpS_bind (dl (C:=C) hB1.kind hg (be hg hb0) (by lia) (by lia) (by rw[qbu];exact hs1) fun k hk hlo hhi=>?_);have hlo':∀r p,r<k->(arrOf st)[r]?=some p->O.kle (C.key p) (C.key b0):=fun r p hr hp'=>by
  have:=hlo r hr
  unfold ahead at this;rw[qbu,aJ hp'] at this;simp only[qaf,if_false,qbG] at this;exact this
 have hhi':∀r p,k<=r->r<n1->(arrOf st)[r]?=some p->O.kle (C.key b0) (C.key p):=fun r p hr1 hr2 hp'=>by
  have:=hhi r hr1 hr2
  unfold ahead at this;rw[qbu,aJ hp'] at this;simp only[qaf,if_false,qcr] at this;exact KeyOrd.kle_of_klt this
 dsimp only;rw[qbu];have getP:∀i,i<a₀.size->∃p,(arrOf st)[i]?=some p:=fun i hi=>⟨_,getElem?_pos _ i (by lia)⟩;by_cases z1:n1 - k=0
 ·rw[qah (by simpa using z1)];refine wpS_pure (h st1 hB1 hp1 (whole hs1 hs2 fun i j hi hj1 hj2=>?_));obtain⟨p,hp'⟩:=getP i (by lia);obtain⟨q,hq'⟩:=getP j hj2;rw[aJ hp',aJ hq'];exact KeyOrd.kle_trans (hlo' i p (by lia) hp') (gW hs2 (qai _) hj1 hj2 hb0 hq')
 ·rw[qan (by simpa using z1)];have ez:k+(n1 - k) - 1=n1 - 1:=by lia
  rw[ez];refine wpS_bind (aM (by lia) fun al hal=>?_);refine wpS_bind (dl (C:=C) hB1.kind hg (be hg hal) (by lia) (by lia) (by have e:n1+(a₀.size - n1)=a₀.size:=(by lia);rw[e];exact hs2) fun m hm hlo2 hhi2=>?_);have hlo2':∀r p,n1<=r->r<n1+m->(arrOf st)[r]?=some p->O.kle (C.key p) (C.key al):=fun r p hr1 hr2 hp'=>by
   have:=hlo2 (r - n1) (by lia)
   have e:n1+(r - n1)=r:=by lia
   unfold ahead at this;rw[e,aJ hp'] at this;exact KeyOrd.kle_of_klt this
  have hhi2':∀r p,n1+m<=r->r<a₀.size->(arrOf st)[r]?=some p->O.kle (C.key al) (C.key p):=fun r p hr1 hr2 hp'=>by
   have:=hhi2 (r - n1) (by lia) (by lia)
   have e:n1+(r - n1)=r:=by lia
   unfold ahead at this;rw[e,aJ hp'] at this;exact this
  dsimp only;by_cases z2:m=0
  ·rw[qah (by simpa using z2)];refine wpS_pure (h st1 hB1 hp1 (whole hs1 hs2 fun i j hi hj1 hj2=>?_));obtain⟨p,hp'⟩:=getP i (by lia);obtain⟨q,hq'⟩:=getP j hj2;rw[aJ hp',aJ hq'];exact KeyOrd.kle_trans (gW hs1 (qaK _) (by lia) (by lia) hp' hal) (hhi2' j q (by lia) hj2 hq')
  ·rw[qan (by simpa using z2)];have sx:((arrOf st).extract k n1).size=n1 - k:=by simp;lia
   have sy:((arrOf st).extract n1 (n1+m)).size=m:=by simp;lia
   have gx:∀r,r<n1 - k->((arrOf st).extract k n1)[r]?=(arrOf st)[k+r]?:=fun r hr=>by rw[qby,qah (by lia)]
   have gy:∀r,r<m->((arrOf st).extract n1 (n1+m))[r]?=(arrOf st)[n1+r]?:=fun r hr=>by rw[qby,qah (by lia)]
   have memx:∀p,p∈((arrOf st).extract k n1).toList->∃i,k<=i/\i<n1/\(arrOf st)[i]?=some p:=fun p hp'=>uF (by lia) hp';have memy:∀p,p∈((arrOf st).extract n1 (n1+m)).toList->∃i,n1<=i/\i<n1+m/\(arrOf st)[i]?=some p:=fun p hp'=>uF (by lia) hp';have T:Two C ((arrOf st).extract k n1) ((arrOf st).extract n1 (n1+m)):=by
    refine⟨fun p hp'=>?_,fun p hp'=>?_,oD (by lia) fun i j a b c=>hs1 i j (qaK _) b c,oD (by lia) fun i j a b c=>hs2 i j a b (by lia),by lia,by lia,?_,?_⟩
    ·obtain⟨i,_,_,hi⟩:=memx p hp';exact be hg hi
    ·obtain⟨i,_,_,hi⟩:=memy p hp';exact be hg hi
    ·intro p q hp' hq';rw[gy 0 (by lia)] at hp';rw[gx 0 (by lia)] at hq';have e:(arrOf st)[n1+0]?=some b0:=hb0;rw[e] at hp';cases hp';exact hhi' (k+0) q (by lia) (by lia) hq'
    ·intro x q hx hq';obtain⟨i,i1,i2,hi⟩:=memy x hx;rw[sx,gx _ (by lia)] at hq';have e:k+(n1 - k - 1)=n1 - 1:=by lia
     rw[e,hal] at hq';cases hq';exact hlo2' i x i1 i2 hi
   have fin:∀ou st2,Eqv st1 st2->MR C ((arrOf st).extract k n1) ((arrOf st).extract n1 (n1+m)) ou ->
     wpS (model prog w) A E s (do
      modify fun c=>setArr c (ou.toList.zipIdx.foldl (fun a (p:Keyed × Nat)=>a.setIfInBounds (k+p.2) p.1) (arrOf c))
      return (failedOf (<-get)).isNone) Q st2:=by
    intro ou st2 ev mr;refine wpS_bind (wpS_modify ?_);refine wpS_bind (wpS_get (wpS_pure ?_));have ea:arrOf st2=arrOf st:=ev.arr.trans ha1;have so:ou.size=n1 - k+m:=by
     have:=mr.1.length_eq
     rw[qaD,qaQ,qaD,qaD,sx,sy] at this;exact this
    have hl:=yF (xs:=arrOf st2) (ou:=ou) (off:=k) (by rw[ea];lia);have eo:k+ou.size=n1+m:=by lia
    rw[eo,ea] at hl;have hsp:=split3 (xs:=arrOf st) (i:=k) (j:=n1) (k:=n1+m) (by lia) (by lia) (by lia);have hfn:(failedOf (setArr st2 (ou.toList.zipIdx.foldl (fun a (p:Keyed × Nat)=>a.setIfInBounds (k+p.2) p.1) (arrOf st2)))).isNone=true:=by
     show (failedOf st2).isNone=true;rw[ev.failed,hB1.failed];rfl
    rw[hfn];have hls:LS C (ou.toList.zipIdx.foldl (fun a (p:Keyed × Nat)=>a.setIfInBounds (k+p.2) p.1) (arrOf st2)).toList:=by
     rw[ea,hl];have mo:∀p,p∈ou.toList->(∃i,k<=i/\i<n1/\(arrOf st)[i]?=some p)\/(∃i,n1<=i/\i<n1+m/\(arrOf st)[i]?=some p):=fun p hp' =>
      (qay.mp (mr.1.mem_iff.mp hp')).imp (memx p) (memy p)
     have mt:∀p,p∈(arrOf st).toList.take k->∃i,i<k/\(arrOf st)[i]?=some p:=fun p hp'=>by
      obtain⟨i,hi⟩:=qaA.mp hp';by_cases c:i<k
      ·rw[qbF c,qar] at hi;exact⟨i,c,hi⟩
      ·rw[qaR (by simp;lia)] at hi;cases hi
     have md:∀p,p∈(arrOf st).toList.drop (n1+m)->∃i,n1+m<=i/\i<a₀.size/\(arrOf st)[i]?=some p:=fun p hp'=>by
      obtain⟨i,hi⟩:=qaA.mp hp';rw[qce,qar] at hi
      have:=(qbh.mp hi).1
      exact⟨n1+m+i,by lia,by lia,hi⟩
     refine bT ?_ (bT mr.2 ?_ ?_) ?_
     ·have:=oD (C:=C) (xs:=arrOf st) (lo:=0) (hi:=k) (by lia) fun i j a b c=>hs1 i j a b (by lia)
      rw[gS] at this;exact this
     ·have:=oD (C:=C) (xs:=arrOf st) (lo:=n1+m) (hi:=(arrOf st).size) (qai _) fun i j a b c=>hs2 i j (by lia) b (by lia)
      rw[gT] at this;exact this
     ·intro x hx y hy;obtain⟨j,j1,j2,hj⟩:=md y hy;rcases mo x hx with ⟨i,i1,i2,hi⟩|⟨i,i1,i2,hi⟩
      ·exact KeyOrd.kle_trans (gW hs1 (qaK _) (by lia) (by lia) hi hal) (hhi2' j y j1 j2 hj)
      ·exact gW hs2 i1 (by lia) j2 hi hj
     ·intro x hx y hy;obtain⟨i,i1,hi⟩:=mt x hx;rcases qay.mp hy with hy|hy
      ·rcases mo y hy with ⟨j,j1,j2,hj⟩|⟨j,j1,j2,hj⟩
       ·exact gW hs1 (qaK _) (by lia) j2 hi hj
       ·exact KeyOrd.kle_trans (hlo' i x i1 hi) (gW hs2 (qai _) j1 (by lia) hb0 hj)
      ·obtain⟨j,j1,j2,hj⟩:=md y hy;exact KeyOrd.kle_trans (hlo' i x i1 hi) (gW hs2 (qai _) (by lia) j2 hb0 hj)
    have hpm:(ou.toList.zipIdx.foldl (fun a (p:Keyed × Nat)=>a.setIfInBounds (k+p.2) p.1) (arrOf st2)).Perm (arrOf st):=by
     rw[qbA,ea,hl];refine List.Perm.trans ?_ (List.Perm.of_eq hsp.symm);exact List.Perm.append_left _ (List.Perm.append_right _ mr.1)
    refine h _ ⟨hpm.trans hB.perm,ev.kind.trans hB1.kind,ev.failed.trans hB1.failed⟩ ?_ ?_
    ·show (pendingOf st2).size=1;rw[ev.pend];exact hp1
    ·have:=j9 hls
     have e2:(ou.toList.zipIdx.foldl (fun a (p:Keyed × Nat)=>a.setIfInBounds (k+p.2) p.1) (arrOf st2)).size=a₀.size:=(hpm.trans hB.perm).size_eq;rw[e2] at this;exact this
   by_cases hle:n1 - k<=m
   ·rw[qah hle];refine wpS_bind (wps_lo T hB1.kind fun ou st2 ev mr=>?_);exact fin ou st2 ev mr
   ·rw[qan hle];refine wpS_bind (wps_hi T hB1.kind fun ou st2 ev mr=>?_);exact fin ou st2 ev mr
end
def qY(h2:2<=n)(h:n<64):minRun' n n 0=n:=by
 obtain⟨f,hf⟩:∃f,n=f+1:=⟨n - 1,by lia⟩
 have:minRun' (f+1) n 0=n+0:=by rw[minRun'_succ,qah h]
 rw[<-hf] at this;exact this
def xi(h2:2<=n)(h:n<=66):1<=minRun' n n 0/\minRun' n n 0<=n/\n<=2 * minRun' n n 0:=by
 by_cases c:n<64
 ·rw[qY h2 c];lia
 ·have:n=64\/n=65\/n=66:=by lia
  rcases this with e|e | e <;> subst e
  ·have:minRun' 64 64 0=32:=by decide
   rw[this];lia
  ·have:minRun' 65 65 0=33:=by decide
   rw[this];lia
  ·have:minRun' 66 66 0=33:=by decide
   rw[this];lia
section
variable {prog:Program} {w:World} {A:Around} {E:Value→Shared→Prop} {s:Shared} {kd:SortKind} {O:KeyOrd} {C:Cmp prog w A E s kd O} {a₀:Array Keyed} {st:SortSt}
def One(C:Cmp prog w A E s kd O)(a₀:Array Keyed)(mr n1:Nat)(st:SortSt):Prop:=SB kd a₀ st/\pendingOf st=#[(0,n1,0)]/\mr<=n1/\n1<=a₀.size/\Srt C (arrOf st) 0 n1
def Both(C:Cmp prog w A E s kd O)(a₀:Array Keyed)(n1:Nat)(st:SortSt):Prop :=
 SB kd a₀ st/\1<=n1/\n1<a₀.size/\(∃pw,pendingOf st=#[(0,n1,pw),(n1,a₀.size - n1,0)])/\Srt C (arrOf st) 0 n1/\Srt C (arrOf st) n1 a₀.size
def qR{xs ys:Array Keyed}{p lo hi:Nat}(h:ci p xs ys)(hhi:hi<=p)(g:Srt C xs lo hi):Srt C ys lo hi:=by
 intro i j hi' hij hj;rw[d4 (h i (by lia)),d4 (h j (by lia))];exact g i j hi' hij hj
def rB(h0:ce C a₀)(hB:SB kd a₀ st)(hpd:pendingOf st=#[])(h2:2<=a₀.size)(h66:a₀.size<=66)
  (h:∀st',(arrOf st').Perm a₀->failedOf st'=none->Srt C (arrOf st') 0 a₀.size->Q () st'):wpS (model prog w) A E s sortRuns' Q st:=by
 obtain⟨m1,m2,m3⟩:=xi h2 h66;rw[sortRuns'_eq];refine wpS_bind (wpS_get ?_);dsimp only;rw[hB.size];generalize minRun' a₀.size a₀.size 0=mr at m1 m2 m3 ⊢
 refine wpS_bind (wpS_mono (wpS_forRange
  (I:=fun x c st'=>(x=0/\c=(none,0)/\SB kd a₀ st'/\pendingOf st'=#[])\/(x=1/\∃n1,c=(none,n1)/\One C a₀ mr n1 st')\/(2<=x/\c=(none,a₀.size)/\∃n1,Both C a₀ n1 st'))
  (Q:=fun c st'=>c=(none,a₀.size)/\(One C a₀ mr a₀.size st'\/∃n1,Both C a₀ n1 st')) ?_ ?_ (.inl ⟨rfl,rfl,hB,hpd⟩)) ?_)
 ·rintro x c st' _ hx (⟨rfl,rfl,hB',hp'⟩|⟨rfl,n1,rfl,hB',hp',hr1,hr2,hs'⟩|⟨hx2,rfl,n1,hb⟩)
  ·dsimp only;rw[qan (by lia)];simp only[Nat.sub_zero,qbu];refine wpS_bind (vc (p:=0) h0 (by lia) (by lia) hB' fun m st2 hB2 _ hpe hm1 hm2 hs2=>?_);rw[qbu] at hs2;dsimp only;by_cases hlt:m<mr
   ·rw[qah hlt];refine wpS_bind (wpS_lift (wpAny_rule ⟨rfl,?_⟩));refine wpS_bind (vl (p:=0) h0 (by lia) (by lia) hB2 (by rw[qbu];exact hs2) fun st3 hB3 _ hpe3 hs3=>?_);simp only[qbf,qaf,if_false];refine wpS_bind (wpS_get ?_);have hb:(pendingOf st3).back?=none:=by rw[hpe3,hpe,hp'];rfl
    rw[hb];dsimp only;refine wpS_bind (wpS_modify (wpS_pure (.inr (.inl ⟨trivial,_,rfl,⟨hB3.perm,hB3.kind,hB3.failed⟩,?_,by lia,by lia,?_⟩))))
    ·show (pendingOf st3).push _=_;rw[hpe3,hpe,hp'];rfl
    ·rw[qbu] at hs3;exact hs3
   ·rw[qan hlt];refine wpS_bind (wpS_get ?_);have hb:(pendingOf st2).back?=none:=by rw[hpe,hp'];rfl
    rw[hb];dsimp only;refine wpS_bind (wpS_modify (wpS_pure (.inr (.inl ⟨trivial,_,rfl,⟨hB2.perm,hB2.kind,hB2.failed⟩,?_,by lia,by lia,hs2⟩))));show (pendingOf st2).push _=_;rw[hpe,hp'];rfl
  ·dsimp only;by_cases hend:n1>=a₀.size
   ·rw[qah hend];have e:n1=a₀.size:=by lia
    subst e;exact wpS_pure ⟨rfl,.inl ⟨hB',hp',hr1,hr2,hs'⟩⟩
   ·rw[qan hend];have hrest:a₀.size - n1<=mr:=by lia
    refine wpS_bind (vc (p:=n1) h0 (by lia) (by lia) hB' fun m st2 hB2 hsm hpe hm1 hm2 hs2=>?_);dsimp only;by_cases hlt:m<mr
    ·rw[qah hlt];refine wpS_bind (wpS_lift (wpAny_rule ⟨rfl,?_⟩));have em:min (a₀.size - n1) mr=a₀.size - n1:=by lia
     rw[em];refine wpS_bind (vl (p:=n1) h0 (by lia) (by lia) hB2 hs2 fun st3 hB3 hsm3 hpe3 hs3=>?_);simp only[qbf,qaf,if_false];refine wpS_bind (wpS_get ?_);have hp3:pendingOf st3=#[(0,n1,0)]:=by rw[hpe3,hpe,hp']
     have hb:(pendingOf st3).back?=some (0,n1,0):=by rw[hp3];rfl
     rw[hb];dsimp only;refine wpS_bind (wpS_mono (wpS_forRange (I:=fun _ c st4=>c=(none,())/\st4=st3) (Q:=fun c st4=>c=(none,())/\st4=st3) ?_ (fun _ _ hh=>hh) ⟨rfl,rfl⟩) ?_)
     ·rintro y c st4 _ _ ⟨rfl,rfl⟩;refine wpS_bind (wpS_get ?_);rw[hp3];exact wpS_pure ⟨rfl,rfl⟩
     ·rintro c st4 ⟨rfl,rfl⟩;dsimp only;refine wpS_bind (wpS_modify (wpS_bind (wpS_modify (wpS_pure (.inr (.inr ⟨by lia,?_,n1,⟨hB3.perm,hB3.kind,hB3.failed⟩,by lia,by lia,⟨power' a₀.size (2 * 0+n1) (2 * 0+n1+n1+(a₀.size - n1)) a₀.size,?_⟩,(qR (hsm.trans hsm3) (qai _) hs'),(by have e:n1+(a₀.size - n1)=a₀.size:=(by lia);rw[e] at hs3;exact hs3)⟩))))))
      ·have e:n1+(a₀.size - n1)=a₀.size:=by lia
       rw[e]
      ·show ((pendingOf st4).modify _ _).push _=_;rw[hp3];simp
    ·rw[qan hlt];have em:m=a₀.size - n1:=by lia
     subst em;refine wpS_bind (wpS_get ?_);have hp2:pendingOf st2=#[(0,n1,0)]:=by rw[hpe,hp']
     have hb:(pendingOf st2).back?=some (0,n1,0):=by rw[hp2];rfl
     rw[hb];dsimp only;refine wpS_bind (wpS_mono (wpS_forRange (I:=fun _ c st4=>c=(none,())/\st4=st2) (Q:=fun c st4=>c=(none,())/\st4=st2) ?_ (fun _ _ hh=>hh) ⟨rfl,rfl⟩) ?_)
     ·rintro y c st4 _ _ ⟨rfl,rfl⟩;refine wpS_bind (wpS_get ?_);rw[hp2];exact wpS_pure ⟨rfl,rfl⟩
     ·rintro c st4 ⟨rfl,rfl⟩;dsimp only;refine wpS_bind (wpS_modify (wpS_bind (wpS_modify (wpS_pure (.inr (.inr ⟨by lia,?_,n1,⟨hB2.perm,hB2.kind,hB2.failed⟩,by lia,by lia,⟨power' a₀.size (2 * 0+n1) (2 * 0+n1+n1+(a₀.size - n1)) a₀.size,?_⟩,(qR hsm (qai _) hs'),(by have e:n1+(a₀.size - n1)=a₀.size:=(by lia);rw[e] at hs2;exact hs2)⟩))))))
      ·have e:n1+(a₀.size - n1)=a₀.size:=by lia
       rw[e]
      ·show ((pendingOf st4).modify _ _).push _=_;rw[hp2];simp
  ·dsimp only;rw[qah (qai _)];exact wpS_pure ⟨rfl,.inr ⟨n1,hb⟩⟩
 ·rintro c st' (⟨hx,_⟩|⟨hx,_⟩|⟨_,hc,hb⟩)
  ·lia
  ·lia
  ·exact⟨hc,.inr hb⟩
 ·rintro c st' ⟨rfl,hc⟩;dsimp only;rcases hc with ⟨hB',hp',_,_,hs'⟩|⟨n1,hB',n11,n12,⟨pw,hp'⟩,hsA,hsB⟩
  ·refine wpS_bind (wpS_mono (wpS_forRange (I:=fun _ c st''=>st''=st'/\c=(none,())) (Q:=fun c st''=>st''=st'/\c=(none,())) ?_ (fun _ _ hh=>hh) ⟨rfl,rfl⟩) ?_)
   ·rintro x c st'' _ _ ⟨rfl,rfl⟩;refine wpS_bind (wpS_get ?_);rw[qah (by rw[hp'];exact qai 1)];exact wpS_pure ⟨rfl,rfl⟩
   ·rintro c st'' ⟨rfl,rfl⟩;exact wpS_pure (h _ hB'.perm hB'.failed hs')
  ·refine wpS_bind (wpS_mono (wpS_forRange (I:=fun x c st''=>c=(none,())/\((x=0/\st''=st')\/(1<=x/\SB kd a₀ st''/\(pendingOf st'').size=1/\Srt C (arrOf st'') 0 a₀.size)))
    (Q:=fun c st''=>c=(none,())/\SB kd a₀ st''/\Srt C (arrOf st'') 0 a₀.size) ?_ ?_ ⟨rfl,.inl ⟨rfl,rfl⟩⟩) ?_)
   ·rintro x c st'' _ _ ⟨rfl,hcase⟩;rcases hcase with ⟨rfl,rfl⟩|⟨hx1,b1,b2,b3⟩
    ·refine wpS_bind (wpS_get ?_);rw[qan (by rw[hp'];simp)];rw[hp'];refine wpS_bind (uj (n1:=n1) (pw:=pw) h0 hB' n11 n12 hp' hsA hsB fun st3 c1 c2 c3=>?_);simp only[qbf,qaf,if_false];exact wpS_pure ⟨rfl,.inr ⟨by lia,c1,c2,c3⟩⟩
    ·refine wpS_bind (wpS_get ?_);rw[qah (by rw[b2];exact qai 1)];exact wpS_pure ⟨rfl,b1,b3⟩
   ·rintro c st'' ⟨rfl,⟨hx,_⟩|⟨_,b1,_,b3⟩⟩
    ·lia
    ·exact⟨rfl,b1,b3⟩
   ·rintro c st'' ⟨rfl,b1,b3⟩;exact wpS_pure (h _ b1.perm b1.failed b3)
end
end SortT
namespace SortT
open PySem PyProof.Rows SetT PySem.W
def bL:List Int->List Int->Bool
 | [],[]=>false
 | [],_::_=>true
 | _::_,[]=>false
 | a::x,b::y=>if a=b then bL x y else decide (a<b)
def lZ:∀x,bL x x=false
 | []=>rfl
 | a::x=>by unfold bL;rw[qah rfl];exact lZ x
def nr:∀x y z,bL x y=true->bL y z=true->bL x z=true
 | [],[],z,h,_=>by cases h
 | [],_::_,[],_,h=>by cases h
 | [],_::_,_::_,_,_=>rfl
 | _::_,[],_,h,_=>by cases h
 | _::_,_::_,[],_,h=>by cases h
 | a::x,b::y,c::z,h1,h2=>by
  unfold bL at h1 h2 ⊢;by_cases e1:a=b
  ·rw[qah e1] at h1;by_cases e2:b=c
   ·rw[qah e2] at h2;rw[qah (e1.trans e2)];exact nr x y z h1 h2
   ·rw[qan e2] at h2;rw[qan (fun q=>e2 (e1.symm.trans q)),e1];exact h2
  ·rw[qan e1] at h1;by_cases e2:b=c
   ·rw[qan (fun q=>e1 (q.trans e2.symm)),<-e2];exact h1
   ·rw[qan e2] at h2;simp only[decide_eq_true_eq] at h1 h2;rw[qan (by lia)];simp only[decide_eq_true_eq];lia
def sC:∀x y z,bL x z=true->bL x y=true\/bL y z=true
 | [],[],[],h=>by cases h
 | [],[],_::_,_=>.inr rfl
 | [],_::_,_,_=>.inl rfl
 | _::_,_,[],h=>by cases h
 | _::_,[],_::_,_=>.inr rfl
 | a::x,b::y,c::z,h=>by
  unfold bL at h ⊢;by_cases e1:a=b
  ·rw[qah e1];by_cases e2:b=c
   ·rw[qah e2];rw[qah (e1.trans e2)] at h;exact sC x y z h
   ·rw[qan (fun q=>e2 (e1.symm.trans q)),e1] at h;rw[qan e2];exact .inr h
  ·rw[qan e1];by_cases e2:b=c
   ·rw[qah e2];rw[qan (fun q=>e1 (q.trans e2.symm)),<-e2] at h;exact .inl h
   ·rw[qan e2];by_cases e3:a=c
    ·simp only[decide_eq_true_eq];lia
    ·rw[qan e3] at h;simp only[decide_eq_true_eq] at h ⊢;lia
def iW:∀x y,bL x y=false->bL y x=false->x=y
 | [],[],_,_=>rfl
 | [],_::_,h,_=>by cases h
 | _::_,[],_,h=>by cases h
 | a::x,b::y,h1,h2=>by
  unfold bL at h1 h2;by_cases e:a=b
  ·rw[qah e] at h1;rw[qah e.symm] at h2;rw[e,iW x y h1 h2]
  ·rw[qan e] at h1;rw[qan (fun q=>e q.symm)] at h2;simp only[decide_eq_false_iff_not] at h1 h2;lia
def lexO:KeyOrd:=⟨List Int,bL,lZ,nr,sC,iW⟩
def Ris(l:List (List Int)):Prop:=l.Pairwise fun x y=>bL y x=false
section
variable {prog:Program} {w:World} {A:Around} {E:Value→Shared→Prop} {s:Shared}
def tkey(prog:Program)(w:World)(h:Heap)(v:Value):List Int:=Classical.epsilon fun k=>∃a,v=.ref a/\TK prog w h k a
def gF(t:TK prog w h k a):tkey prog w h (.ref a)=k:=by
 have:=Classical.epsilon_spec (p:=fun k=>∃b,Value.ref a=.ref b/\TK prog w h k b) ⟨k,a,rfl,t⟩
 obtain⟨b,e,hb⟩:=this;cases e;exact IsTupleKey.inj hb t
def lex_ok:∀(xs ys:List Value) (kx ky:List Int) (i:Nat),ItemsAre (intKind prog w) kx xs->ItemsAre (intKind prog w) ky ys->fin=decide (xs.length<ys.length)->Q (bL kx ky) s ->
  KatLex prog w A b fin Q (xs.zip ys) i s:=by
 intro xs
 induction xs with
 | nil =>
  intro ys kx ky i hx hy hf hq;cases hx
  cases hy with
  | nil=>rw[hf];exact hq
  | cons h1 h2=>rw[hf];exact hq
 | cons x xs ih =>
  intro ys kx ky i hx hy hf hq
  cases hx with
  | @cons k1 _ kx' _ h1 hx' =>
   cases hy with
   | nil=>rw[hf];exact hq
   | @cons k2 y ky' ys' h2 hy' =>
    obtain⟨t1,rfl⟩:=Value.isInt_shape (k:=k1) (v:=x) h1;obtain⟨t2,rfl⟩:=Value.isInt_shape (k:=k2) (v:=y) h2;rw[qcs];refine kat_cons (wpAny_eqBool_int ?_);unfold bL at hq;by_cases e:k1=k2
    ·rw[qah e] at hq
     have:(k1 == k2)=true:=by simpa using e
     rw[this];exact kat_yes (ih ys' kx' ky' (i+1) hx' hy' (by rw[hf];simp) hq)
    ·rw[qan e] at hq
     have:(k1 == k2)=false:=by simpa using e
     rw[this];refine kat_no ?_
     cases hb:(b && i == 0) with
     | true=>exact oneLt_int hq
     | false=>exact kat_one _ _ (wpAny_lt_int hq)
def tcmp(prog:Program)(w:World)(A:Around)(E:Value->Shared->Prop)(s:Shared)(b:Bool):Cmp prog w A E s (tuples' b) lexO where
 key:=fun p=>tkey prog w s.heap p.1
 dflt:=([]:List Int)
 good:=fun p=>∃a k,p.1=.ref a/\TK prog w s.heap k a
 ask:=fun x y st Q gx gy hk hq=>by
  obtain⟨x1,x2⟩:=x;obtain⟨y1,y2⟩:=y;obtain⟨ax,kx,ex,tx⟩:=gx;obtain⟨ay,ky,ey,ty⟩:=gy;simp only at ex ey;subst ex;subst ey;have q':Q (some (bL kx ky)) st:=by
   have h1:=gF tx;have h2:=gF ty;have e:lexO.blt (tkey prog w s.heap (.ref ax)) (tkey prog w s.heap (.ref ay))=bL kx ky:=by rw[h1,h2];rfl
   rw[<-e];exact hq
  obtain⟨ox,ix,nx,hox,_,hdx,hix⟩:=tx;obtain⟨oy,iy,ny,hoy,_,hdy,hiy⟩:=ty;rw[lt'_eq];refine wpS_bind (wpS_get ?_);rw[hk];refine wpS_bind (wpS_lift (wpAny_attempt (kat_lt hox hdx hoy hdy (lex_ok _ _ _ _ _ hix hiy (by simp) ⟨rfl,?_⟩))));exact wpS_pure q'
def ss{vs:List Value}{ks:List (List Int)}{Q:SortKind->Shared->Prop}(hk:Lie prog w s.heap vs.toArray ks)(hne:∀k∈ks,k≠[])(h1:0<vs.length)(h:Q (tuples' true) s) :
  wpAny (model prog w) A (keyKind' vs.toArray) Q E s:=by
 have hlen:vs.length=ks.length:=by have:=hk.1;simpa using this
 have key:∀(us:List Value) (ls:List (List Int)),us.length=ls.length->(∀(i:Nat) (v:Value) (k:List Int),us[i]?=some v->ls[i]?=some k->∃a,v=.ref a/\TK prog w s.heap k a)->(∀k∈ls,k≠[]) ->
   ∃fs:List Value,fs.length=us.length/\KatTups s.heap us fs/\∀v∈fs,∃i t,v=.int i t:=by
  intro us
  induction us with
  | nil=>intro ls _ _ _;exact⟨[],rfl,KatTups.nil,fun v hv=>by cases hv⟩
  | cons u us ih =>
   intro ls hl hall hn
   cases ls with
   | nil=>simp at hl
   | cons k ls =>
    obtain⟨a,rfl,o,items,n,ho,hc,hd,hi⟩:=hall 0 u k rfl rfl;obtain⟨fs,f1,f2,f3⟩:=ih ls (by simpa using hl) (fun i v k' hv hk'=>hall (i+1) v k' (by simpa using hv) (by simpa using hk')) (fun k' hk'=>hn k' (qae _ hk'))
    cases k with
    | nil=>exact absurd rfl (hn [] qax)
    | cons k0 kr =>
     have hi':=hi;generalize hit:items.toList=l at hi'
     cases hi' with
     | @cons _ v0 _ vr h0 hr =>
      obtain⟨t0,rfl⟩:=Value.isInt_shape (k:=k0) (v:=v0) h0;have hg:items[0]?=some (.int k0 t0):=by rw[<-qar,hit];rfl
      refine⟨.int k0 t0::fs,by simp[f1],KatTups.cons ho hc hd hg f2,fun v hv=>?_⟩;rcases qak.mp hv with rfl|hv
      ·exact⟨_,_,rfl⟩
      ·exact f3 v hv
 obtain⟨fs,f1,f2,f3⟩:=key vs ks hlen (fun i v k hv hk'=>hk.2 i v k (by simpa using hv) hk') hne;refine kat_kind (T:=.type "int") f2 (by lia) (fun v hv=>?_) (by decide) ?_
 ·obtain⟨i,t,rfl⟩:=f3 v hv;exact .now
 ·exact h
def yj(ho:s.heap.get? a=some (seqObj "list" vs.toArray n))(hk:Lie prog w s.heap vs.toArray ks)
  (hne:∀k∈ks,k≠[]) (h66:vs.length<=66)
  (h:∀(out:List Value) (ks':List (List Int)),Lie prog w s.heap out.toArray ks'->out.Perm vs->ks'.Perm ks->Ris ks'->P (.done (.ret .none)) { s with heap:=sortedHeap s.heap a vs out.toArray}) :
  wpAny (model prog w) A (Builtin.«list.sort» ⟨[.ref a],[]⟩) P E s:=by
 rw[list_sort_plain];have ha:a<s.heap.objs.size:=qal ho;have hfits:vs.length<=sizeLine:=by rw[sizeLine_eq];lia
 refine qaa (listItems_at ho rfl ?_);refine qaa (listUpdate_at ho rfl ?_ (by rw[qaq];exact hfits) (qaK _));obtain⟨e1,ho1⟩:∃e1,(s.heap.update a (Obj.mapSeq fun _=>(#[]:Array Value))).get? a=some (seqObj "list" #[] e1):=⟨_,get?_update_seq ho fun _=>#[]⟩;refine qaa (seqEpoch_at ho1 rfl ?_);refine qaa (wpAny_newTuple ?_ (by show vs.length<=_;exact hfits));refine qaa (wpAny_newList ?_ (qaK _));refine wpAny_holding ?_;have ho6:(((s.heap.update a (Obj.mapSeq fun _=>(#[]:Array Value))).push (seqObj "tuple" vs.toArray 0)).push (seqObj "list" #[] 0)).get? a=some (seqObj "list" #[] e1) :=
  qab _ (qab _ ho1)
 have tk6:∀k b,TK prog w s.heap k b->TK prog w (((s.heap.update a (Obj.mapSeq fun _=>(#[]:Array Value))).push (seqObj "tuple" vs.toArray 0)).push (seqObj "list" #[] 0)) k b:=by
  rintro k b ⟨o,items,m,hb,hc,r⟩;have hne':b≠a:=by
   rintro rfl;rw[ho] at hb;cases hb;have hc':Value.type "list"=Value.type "tuple":=hc;exact absurd hc' (by decide)
  exact⟨o,items,m,qab _ (qab _ ((qbp _ _ _ _ hne').trans hb)),hc,r⟩
 show wpAny (model prog w) A _ P E { s with heap:=((s.heap.update a (Obj.mapSeq fun _=>(#[]:Array Value))).push (seqObj "tuple" vs.toArray 0)).push (seqObj "list" #[] 0)};have hk6:Lie prog w (((s.heap.update a (Obj.mapSeq fun _=>(#[]:Array Value))).push (seqObj "tuple" vs.toArray 0)).push (seqObj "list" #[] 0)) vs.toArray ks :=
  ⟨hk.1,fun i v k hv hk'=>let ⟨b,e,t⟩:=hk.2 i v k hv hk';⟨b,e,tk6 k b t⟩⟩
 have hsz:vs.toArray.size=vs.length:=by simp
 dsimp only;by_cases h2:vs.toArray.size<2
 ·rw[qah h2,qah h2];refine qaa (qag ?_);rw[StateT.run_pure];refine qaa (qag ?_);dsimp only;refine qaa (seqEpoch_at ho6 rfl ?_);have hz:((vs.toArray.zip vs.toArray).map (·.2))=vs.toArray:=by
   apply qba.mp;simp only[Array.toList_map,Array.toList_zip,List.toList_toArray];exact qci (qai _)
  refine qaa (listUpdate_at ho6 rfl ?_ (qaK _) (by show ((vs.toArray.zip vs.toArray).map (·.2)).size<=_;rw[hz,hsz];lia));simp only[bne_self_eq_false,qaf,if_false];refine qag ?_
  have:=h vs ks hk (List.Perm.refl _) (List.Perm.refl _) (by
   have hl:ks.length<2:=by have:=hk.1;lia
   unfold Ris
   match ks,hl with
   | [],_=>simp
   | [x],_=>simp)
  have e:(arrOf (SortSt.mk' general' (vs.toArray.zip vs.toArray) #[] 7 none)).map (·.2)=vs.toArray:=hz;rw[e];exact this
 ·rw[qan h2,qan h2];refine qaa (ss (s:={ s with heap:=_}) hk6 hne (by lia) ?_);have hps:(pairsOf vs).size=vs.length:=pairsOf_size vs
  refine qaa (wpAny_mono (rB (C:=tcmp prog w A E { s with heap:=((s.heap.update a (Obj.mapSeq fun _=>(#[]:Array Value))).push (seqObj "tuple" vs.toArray 0)).push (seqObj "list" #[] 0)} true)
   (a₀:=pairsOf vs) (st:=SortSt.mk' (tuples' true) (vs.toArray.zip vs.toArray) #[] 7 none)
   (Q:=fun _ st'=>(arrOf st').Perm (pairsOf vs)/\failedOf st'=none/\Srt (tcmp prog w A E { s with heap:=((s.heap.update a (Obj.mapSeq fun _=>(#[]:Array Value))).push (seqObj "tuple" vs.toArray 0)).push (seqObj "list" #[] 0)} true) (arrOf st') 0 (pairsOf vs).size)
   ?_ ⟨Array.Perm.refl _,rfl,rfl⟩ rfl (by lia) (by lia) fun st' a1 a2 a3=>⟨a1,a2,a3⟩) ?_ fun _ _ e=>e)
  ·intro p hp;rw[pairsOf_toList] at hp;obtain⟨q1,q2⟩:=mem_zip_self hp;obtain⟨i,hi⟩:=qaA.mp q2
   obtain⟨k,hk'⟩:∃k,ks[i]?=some k:=⟨_,qas (by
    have h3:=(qad.mp hi).1
    have:=hk.1;lia)⟩
   obtain⟨b,e,t⟩:=hk6.2 i p.1 k (by simpa using hi) hk';exact⟨b,k,e,t⟩
  ·rintro⟨⟨⟩,st'⟩ s' ⟨rfl,hp,hf,hs⟩;dsimp only;refine qaa (seqEpoch_at ho6 rfl ?_);have hz:((arrOf st').map (·.2)).size=vs.length:=by rw[qcQ,hp.size_eq,hps]
   refine qaa (listUpdate_at ho6 rfl ?_ (qaK _) (by show ((arrOf st').map (·.2)).size<=_;rw[hz];lia));rw[hf];simp only[bne_self_eq_false,qaf,if_false];refine qag ?_;have hl:(arrOf st').toList.Perm (vs.zip vs):=by rw[<-pairsOf_toList];exact qbA.mp hp
   have hmem:∀p,p∈(arrOf st').toList->p.1=p.2/\p.1∈vs:=fun p hp'=>mem_zip_self (hl.mem_iff.mp hp');have hv:∀v,v∈vs->∃k b,v=.ref b/\TK prog w s.heap k b/\k∈ks:=fun v hv=>by
    obtain⟨i,hi⟩:=qaA.mp hv
    obtain⟨k,hk'⟩:∃k,ks[i]?=some k:=⟨_,qas (by
     have h3:=(qad.mp hi).1
     have:=hk.1;lia)⟩
    obtain⟨b,e,t⟩:=hk.2 i v k (by simpa using hi) hk';exact⟨k,b,e,t,qaA.mpr ⟨i,hk'⟩⟩
   have hmap:vs.map (tkey prog w s.heap)=ks:=by
    apply qbI;intro i;rw[qaw]
    cases hi:vs[i]? with
    | none =>
     have:=List.getElem?_eq_none_iff.mp hi
     rw[qaR (by have:=hk.1;lia)];rfl
    | some v =>
     obtain⟨k,hk'⟩:∃k,ks[i]?=some k:=⟨_,qas (by
      have h3:=(qad.mp hi).1
      have:=hk.1;lia)⟩
     obtain⟨b,e,t⟩:=hk.2 i v k (by simpa using hi) hk';subst e;rw[hk'];show some (tkey prog w s.heap (.ref b))=some k;rw[gF t]
   have h6eq:∀v,v∈vs->tkey prog w (((s.heap.update a (Obj.mapSeq fun _=>(#[]:Array Value))).push (seqObj "tuple" vs.toArray 0)).push (seqObj "list" #[] 0)) v=tkey prog w s.heap v:=fun v hv'=>by
    obtain⟨k,b,rfl,t,_⟩:=hv v hv';rw[gF t,gF (tk6 k b t)]
   have hout:=h ((arrOf st').toList.map (·.2)) ((arrOf st').toList.map fun p=>tkey prog w s.heap p.1) ?_ ?_ ?_ ?_
   ·have e:((arrOf st').toList.map (·.2)).toArray=(arrOf st').map (·.2):=by apply qba.mp;simp
    rw[e] at hout;exact hout
   ·refine⟨by simp,fun i v k hv' hk'=>?_⟩;rw[qbs,qaw] at hv';rw[qaw] at hk'
    cases hi:(arrOf st').toList[i]? with
    | none=>rw[hi] at hv';cases hv'
    | some p =>
     rw[hi] at hv' hk';cases hv';cases hk';obtain⟨q1,q2⟩:=hmem p (qaV hi);obtain⟨k,b,e,t,_⟩:=hv p.1 q2;refine⟨b,by show p.2=_;rw[<-q1];exact e,?_⟩;show TK prog w s.heap (tkey prog w s.heap p.1) b;rw[e,gF t];exact t
   ·have q:=hl.map (·.2);rw[qci (qai _)] at q;exact q
   ·have q:=hl.map fun p=>tkey prog w s.heap p.1;have e2:(vs.zip vs).map (fun p=>tkey prog w s.heap p.1)=ks:=by
     rw[<-hmap]
     have:(vs.zip vs).map (fun p=>tkey prog w s.heap p.1)=((vs.zip vs).map Prod.fst).map (tkey prog w s.heap):=by rw[qaU];rfl
     rw[this,List.map_fst_zip (qai _)]
    rw[e2] at q;exact q
   ·unfold Ris;rw[qaY,qbq];intro i j hi hj hij;have hi':i<(arrOf st').size:=by simpa using hi
    have hj':j<(arrOf st').size:=by simpa using hj
    have q:=hs i j (qaK _) (qbJ hij) (by rw[<-hp.size_eq];exact hj');rw[aJ (getElem?_pos _ i hi'),aJ (getElem?_pos _ j hj')] at q;have m1:=(hmem (arrOf st')[i] (by simp)).2;have m2:=(hmem (arrOf st')[j] (by simp)).2;have q':bL (tkey prog w (((s.heap.update a (Obj.mapSeq fun _=>(#[]:Array Value))).push (seqObj "tuple" vs.toArray 0)).push (seqObj "list" #[] 0)) (arrOf st')[j].1)
     (tkey prog w (((s.heap.update a (Obj.mapSeq fun _=>(#[]:Array Value))).push (seqObj "tuple" vs.toArray 0)).push (seqObj "list" #[] 0)) (arrOf st')[i].1)=false:=q
    rw[h6eq _ m1,h6eq _ m2] at q';simpa using q'
def eG(ho:h.get? a=some (seqObj "list" vs.toArray n))(out:Array Value):∃c,(sortedHeap h a vs out).get? a=some (seqObj "list" out c):=by
 unfold sortedHeap;obtain⟨e1,ho1⟩:∃e1,(h.update a (Obj.mapSeq fun _=>(#[]:Array Value))).get? a=some (seqObj "list" #[] e1):=⟨_,get?_update_seq ho fun _=>#[]⟩;exact⟨_,get?_update_seq (qab _ (qab _ ho1)) fun _=>out⟩
def d3(hb:b≠a)(ho:h.get? b=some o)(out:Array Value):(sortedHeap h a vs out).get? b=some o:=by
 unfold sortedHeap;rw[qbp _ _ _ _ hb];exact qab _ (qab _ ((qbp _ _ _ _ hb).trans ho))
structure Told (prog:Program) (w:World) (R:Value->Prop) (H0 h h':Heap) (l:Addr) (ks:List (List Int)) (out:List Value) (ks':List (List Int)):Prop where
 ext:Ext h h'
 fresh:h.get? l=none
 size:h.objs.size<=l
 at':∃c,h'.get? l=some (seqObj "list" out.toArray c)
 lie:Lie prog w H0 out.toArray ks'
 perm:ks'.Perm ks
 ris:Ris ks'
 mem:∀v∈out,R v
def qu(hx:Ext H0 s.heap)(hne:∀k∈ks,k≠[])(h66:ks.length<=66)
  (hc:wpAny (model prog w) A.in1 (collect v) (fun vs s1=>∃h' tk ks1,s1={ s with heap:=h',toks:=tk}/\Ext s.heap h'/\s.heap.objs.size<h'.objs.size/\s.toks<=tk/\Lie prog w H0 (List.toArray vs) ks1/\ks1.Perm ks/\∀v∈vs,R v) E s)
  (h:∀h' tk l out ks',Told prog w R H0 s.heap h' l ks out ks'->s.toks<=tk->Q (.ref l) { s with heap:=h',toks:=tk}) :
  wpAny (model prog w) A (call (.builtin "sorted") [v]) Q E s:=by
 refine Calls.call_function_entry kind_sorted plain_sorted entry_sorted (args_sorted1 _) ?_;unfold Builtin.«sorted»;refine qaa (m:=checkCount "sorted" 1 1 _) (qag ?_);refine qaa (wpAny_mono hc (fun vs s1 hq=>?_) fun _ _ e=>e);obtain⟨h1,tk,ks1,rfl,x1,hsz1,htk,lie1,p1,hR⟩:=hq;have hlen:vs.length=ks1.length:=by have:=lie1.1;simpa using this
 have hl66:vs.length<=66:=by rw[hlen,p1.length_eq];exact h66
 refine qaa (wpAny_newList ?_ (by rw[sizeLine_eq];lia));have hoL:(h1.push (seqObj "list" vs.toArray 0)).get? h1.objs.size=some (seqObj "list" vs.toArray 0):=qap _ rfl;have up:∀b o,h1.get? b=some o->(h1.push (seqObj "list" vs.toArray 0)).get? b=some o:=fun b o e=>qab _ e;have lieL:Lie prog w (h1.push (seqObj "list" vs.toArray 0)) vs.toArray ks1:=⟨lie1.1,fun i u k hu hk=>let ⟨b,e,t⟩:=lie1.2 i u k hu hk;⟨b,e,kn (fun c o ho=>up c o (x1 c o (hx c o ho))) t⟩⟩
 refine qaa (wpAny_holding (wpAny_call_entry slot_list_sort ⟨_,hoL,rfl⟩ entry_list_sort
  (yj (s:={ s with heap:=h1.push (seqObj "list" vs.toArray 0),toks:=tk}) hoL lieL (fun k hk=>hne k (p1.mem_iff.mp hk)) hl66 fun out ks' l2 pv p2 r2=>⟨_,rfl,?_⟩) (args_list_sort _)))
 refine qag ⟨_,rfl,?_⟩;have hfresh:s.heap.get? h1.objs.size=none:=by
  cases e:s.heap.get? h1.objs.size with
  | none=>rfl
  | some o=>exact absurd (qal (x1 _ _ e)) (qbc _)
 refine h _ tk h1.objs.size out ks' ⟨fun b o e=>?_,hfresh,qbJ hsz1,eG hoL _,⟨l2.1,fun i u k hu hk=>?_⟩,p2.trans p1,r2,fun v hv=>hR v (pv.mem_iff.mp hv)⟩ htk
 ·have hb:b≠h1.objs.size:=qaF (qal (x1 b o e));exact d3 hb (up b o (x1 b o e)) _
 ·
  obtain⟨b,e,t⟩:=l2.2 i u k hu hk;have hu':out[i]?=some u:=by simpa using hu
  have hmem:u∈vs:=pv.mem_iff.mp (qaV hu');obtain⟨q,hq⟩:=qaA.mp hmem;obtain⟨k1,hk1⟩:∃k1,ks1[q]?=some k1:=⟨_,qas (by have:=(qad.mp hq).1;lia)⟩;obtain⟨b1,e1,t1⟩:=lie1.2 q u k1 (by simpa using hq) hk1;rw[e] at e1;cases e1;have t2:=kn (fun c o ho=>up c o (x1 c o (hx c o ho))) t1
  have:k=k1:=IsTupleKey.inj t t2
  subst this;exact⟨b,e,t1⟩
def wc(hh:A.handled=none)(T:cT prog w (PB H0 R) s.heap S (bA w) ks)(hx:Ext H0 s.heap)(hne:∀k∈ks,k≠[])(h66:ks.length<=66)
  (h:∀h' tk l out ks',Told prog w (fun v=>∃a,v=.ref a/\R a) H0 s.heap h' l ks out ks'->s.toks<=tk->Q (.ref l) { s with heap:=h',toks:=tk}) :
  wpAny (model prog w) A (call (.builtin "sorted") [.ref S]) Q E s :=
 qu hx hne h66 (ui (by simpa using hh) T hx fun h' tk vs ks' a z b c e d=>⟨h',tk,ks',rfl,a,z,b,c,d,e⟩) h
def uf{l:Addr}{vs:List Value}{ks:List (List Int)}{Q:Value->Shared->Prop}(hl:s.heap.IsList l vs.toArray)(hk:Lie prog w s.heap vs.toArray ks)(hne:∀k∈ks,k≠[])(h66:ks.length<=66)
  (h:∀h' tk l out ks',Told prog w (·∈vs) s.heap s.heap h' l ks out ks'->s.toks<=tk->Q (.ref l) { s with heap:=h',toks:=tk}) :
  wpAny (model prog w) A (call (.builtin "sorted") [.ref l]) Q E s:=by
 have hlen:vs.length=ks.length:=by have:=hk.1;simpa using this
 refine qu (R:=(·∈vs)) (H0:=s.heap) (fun b o e=>e) hne h66 (collect_list hl ⟨_,s.toks,ks,rfl,fun b o e=>?_,by rw[qcG,size_push'];exact qbL _,qai _,hk,List.Perm.refl _,fun v hv=>hv⟩ (by rw[sizeLine_eq];lia)) h;have hlt:b<s.heap.objs.size:=qal e;rw[qbp _ _ _ _ (qaF hlt)];exact qab _ e
end
end SortT
namespace SortT
open PySem PyProof.Rows PySem.W
def intO:KeyOrd:=⟨Int,fun a b=>decide (a<b),fun a=>by simp,fun a b c h1 h2=>by simp only[decide_eq_true_eq] at *;lia,fun a b c h=>by simp only[decide_eq_true_eq] at *;lia,fun a b h1 h2=>by simp only[decide_eq_false_iff_not] at *;lia⟩
def iw(h:Heap)(rk:Value->Int)(v:Value):Prop:=∃b o xs m t,v=.ref b/\h.get? b=some o/\o.cls=.type "tuple"/\o.data=.seq xs m/\xs[0]?=some (.int (rk v) t)
section
variable {prog:Program} {w:World} {A:Around} {E:Value→Shared→Prop} {s:Shared} {rk:Value→Int} {vs:List Value}
def tX{v:Value}{Q:Bool->Shared->Prop}(hv:(v == v)=true)(h:Q true s):wpAny (model prog w) A (eqBool v v) Q E s:=by
 unfold eqBool;refine wpAny_holding ?_;rw[qah hv];exact qaa (wpAny_rule (qag h))
def rj{b:Bool}{Q:Bool->Shared->Prop}(h:Q fin s):∀(xs:List Value) (i:Nat),(∀v∈xs,(v == v)=true)->KatLex prog w A b fin Q (xs.zip xs) i s
 | [],_,_=>kat_nil h
 | x::xs,i,hv=>by
  rw[qcs];exact kat_cons (tX (hv x qax) (kat_yes (rj h xs (i+1) fun v z=>hv v (qae _ z))))
def j4:∀{l:List Value} {x y:Value},(l.map rk).Nodup->x∈l->y∈l->rk x=rk y->x=y
 | [],_,_,_,h,_,_=>by cases h
 | a::l,x,y,nd,hx,hy,e=>by
  rw[qau,qbS] at nd;rcases qak.mp hx with q1|q1
  ·rcases qak.mp hy with q2|q2
   ·exact q1.trans q2.symm
   ·exact absurd (qav.mpr ⟨y,q2,e.symm.trans (congrArg rk q1)⟩) nd.1
  ·rcases qak.mp hy with q2|q2
   ·exact absurd (qav.mpr ⟨x,q1,e.trans (congrArg rk q2)⟩) nd.1
   ·exact j4 nd.2 q1 q2 e
def rcmp(prog:Program)(w:World)(A:Around)(E:Value->Shared->Prop)(s:Shared)(hk:∀v∈vs,iw s.heap rk v)(nd:(vs.map rk).Nodup)(hv:∀v:Value,(v == v)=true):Cmp prog w A E s (tuples' true) intO where
 key:=fun p=>rk p.1
 dflt:=(0:Int)
 good:=fun p=>p.1∈vs
 ask:=fun x y st Q gx gy hkd hq=>by
  obtain⟨x1,x2⟩:=x;obtain⟨y1,y2⟩:=y;obtain⟨ax,ox,ix,nx,tx,ex,hox,_,hdx,hix⟩:=hk x1 gx;obtain⟨ay,oy,iy,ny,ty,ey,hoy,_,hdy,hiy⟩:=hk y1 gy;rw[lt'_eq];refine wpS_bind (wpS_get ?_);rw[hkd];have q':Q (some (decide (rk x1<rk y1))) st:=hq;refine wpS_bind (wpS_lift (wpAny_attempt ?_));show wpAny _ _ (keyLt' (tuples' true) x1 y1) _ _ _;by_cases z:rk x1=rk y1
  ·have e:=j4 nd gx gy z;subst e;rw[ex] at ey;cases ey;rw[hox] at hoy;cases hoy;rw[hdx] at hdy;cases hdy;have e0:decide (rk x1<rk x1)=decide (ix.size<ix.size):=by simp
   rw[e0] at q';rw[ex];exact kat_lt hox hdx hox hdx (rj ⟨rfl,wpS_pure q'⟩ _ _ fun v _=>hv v)
  ·rw[ex,ey];refine kat_lt hox hdx hoy hdy ?_;obtain⟨rx,e1⟩:∃r,ix.toList=.int (rk x1) tx::r:=by
    cases e:ix.toList with
    | nil=>rw[<-qar,e] at hix;cases hix
    | cons a r=>rw[<-qar,e] at hix;cases hix;exact⟨r,rfl⟩
   obtain⟨ry,e2⟩:∃r,iy.toList=.int (rk y1) ty::r:=by
    cases e:iy.toList with
    | nil=>rw[<-qar,e] at hiy;cases hiy
    | cons a r=>rw[<-qar,e] at hiy;cases hiy;exact⟨r,rfl⟩
   rw[e1,e2,qcs];refine kat_cons (wpAny_eqBool_int ?_)
   have:(rk x1 == rk y1)=false:=by simpa using z
   rw[this];refine kat_no ?_;exact oneLt_int ⟨rfl,wpS_pure q'⟩
def iw.up{h h':Heap}{v:Value}(k:∀b o,h.get? b=some o->o.cls=.type "tuple"->h'.get? b=some o)(r:iw h rk v):iw h' rk v :=
 let ⟨b,o,xs,m,t,e,g,c,d⟩:=r;⟨b,o,xs,m,t,e,k b o g c,c,d⟩
def re{Q:SortKind->Shared->Prop}(hk:∀v∈vs,iw s.heap rk v)(h1:0<vs.length)(h:Q (tuples' true) s):wpAny (model prog w) A (keyKind' vs.toArray) Q E s:=by
 have key:∀us:List Value,(∀v∈us,iw s.heap rk v)->∃fs:List Value,fs.length=us.length/\KatTups s.heap us fs/\∀v∈fs,∃i t,v=.int i t:=by
  intro us
  induction us with
  | nil=>exact fun _=>⟨[],rfl,KatTups.nil,fun v hv=>by cases hv⟩
  | cons u us ih =>
   intro hall;obtain⟨fs,f1,f2,f3⟩:=ih fun v hv=>hall v (qae _ hv);obtain⟨b,o,xs,m,t,e,g,c,d,f⟩:=hall u qax;rw[e] at f ⊢;refine⟨.int (rk (.ref b)) t::fs,by simp[f1],KatTups.cons g c d f f2,fun v hv=>?_⟩;rcases qak.mp hv with rfl|hv
   ·exact⟨_,_,rfl⟩
   ·exact f3 v hv
 obtain⟨fs,f1,f2,f3⟩:=key vs hk;refine kat_kind (T:=.type "int") f2 (by lia) (fun v hv=>?_) (by decide) h;obtain⟨i,t,rfl⟩:=f3 v hv;exact .now
def wU(hvv:∀v:Value,(v == v)=true)(ho:s.heap.get? a=some (seqObj "list" vs.toArray n))(hk:∀v∈vs,iw s.heap rk v)(nd:(vs.map rk).Nodup)(h66:vs.length<=66)
  (h:∀out:List Value,out.Perm vs->(out.map rk).Pairwise (·<=·)->P (.done (.ret .none)) { s with heap:=sortedHeap s.heap a vs out.toArray}) :
  wpAny (model prog w) A (Builtin.«list.sort» ⟨[.ref a],[]⟩) P E s:=by
 rw[list_sort_plain];have ha:a<s.heap.objs.size:=qal ho;have hfits:vs.length<=sizeLine:=by rw[sizeLine_eq];lia
 refine qaa (listItems_at ho rfl ?_);refine qaa (listUpdate_at ho rfl ?_ (by rw[qaq];exact hfits) (qaK _));obtain⟨e1,ho1⟩:∃e1,(s.heap.update a (Obj.mapSeq fun _=>(#[]:Array Value))).get? a=some (seqObj "list" #[] e1):=⟨_,get?_update_seq ho fun _=>#[]⟩;refine qaa (seqEpoch_at ho1 rfl ?_);refine qaa (wpAny_newTuple ?_ (by show vs.length<=_;exact hfits));refine qaa (wpAny_newList ?_ (qaK _));refine wpAny_holding ?_;have ho6:(((s.heap.update a (Obj.mapSeq fun _=>(#[]:Array Value))).push (seqObj "tuple" vs.toArray 0)).push (seqObj "list" #[] 0)).get? a=some (seqObj "list" #[] e1) :=
  qab _ (qab _ ho1)
 show wpAny (model prog w) A _ P E { s with heap:=((s.heap.update a (Obj.mapSeq fun _=>(#[]:Array Value))).push (seqObj "tuple" vs.toArray 0)).push (seqObj "list" #[] 0)};have hk6:∀v∈vs,iw (((s.heap.update a (Obj.mapSeq fun _=>(#[]:Array Value))).push (seqObj "tuple" vs.toArray 0)).push (seqObj "list" #[] 0)) rk v:=fun v hv=>(hk v hv).up fun b o hb hc=>by
  have hne':b≠a:=by
   rintro rfl;rw[ho] at hb;cases hb;have hc':Value.type "list"=Value.type "tuple":=hc;exact absurd hc' (by decide)
  exact qab _ (qab _ ((qbp _ _ _ _ hne').trans hb))
 have hsz:vs.toArray.size=vs.length:=by simp
 dsimp only;by_cases h2:vs.toArray.size<2
 ·rw[qah h2,qah h2];refine qaa (qag ?_);rw[StateT.run_pure];refine qaa (qag ?_);dsimp only;refine qaa (seqEpoch_at ho6 rfl ?_);have hz:((vs.toArray.zip vs.toArray).map (·.2))=vs.toArray:=by
   apply qba.mp;simp only[Array.toList_map,Array.toList_zip,List.toList_toArray];exact qci (qai _)
  refine qaa (listUpdate_at ho6 rfl ?_ (qaK _) (by show ((vs.toArray.zip vs.toArray).map (·.2)).size<=_;rw[hz,hsz];lia));simp only[bne_self_eq_false,qaf,if_false];refine qag ?_
  have:=h vs (List.Perm.refl _) (by
   match vs,hsz▸h2 with
   | [],_=>simp
   | [x],_=>simp)
  have e:(arrOf (SortSt.mk' general' (vs.toArray.zip vs.toArray) #[] 7 none)).map (·.2)=vs.toArray:=hz;rw[e];exact this
 ·rw[qan h2,qan h2];refine qaa (re (s:={ s with heap:=_}) hk6 (by lia) ?_);have hps:(pairsOf vs).size=vs.length:=pairsOf_size vs
  refine qaa (wpAny_mono (rB (C:=rcmp prog w A E { s with heap:=((s.heap.update a (Obj.mapSeq fun _=>(#[]:Array Value))).push (seqObj "tuple" vs.toArray 0)).push (seqObj "list" #[] 0)} hk6 nd hvv)
   (a₀:=pairsOf vs) (st:=SortSt.mk' (tuples' true) (vs.toArray.zip vs.toArray) #[] 7 none)
   (Q:=fun _ st'=>(arrOf st').Perm (pairsOf vs)/\failedOf st'=none/\Srt (rcmp prog w A E { s with heap:=((s.heap.update a (Obj.mapSeq fun _=>(#[]:Array Value))).push (seqObj "tuple" vs.toArray 0)).push (seqObj "list" #[] 0)} hk6 nd hvv) (arrOf st') 0 (pairsOf vs).size)
   ?_ ⟨Array.Perm.refl _,rfl,rfl⟩ rfl (by lia) (by lia) fun st' a1 a2 a3=>⟨a1,a2,a3⟩) ?_ fun _ _ e=>e)
  ·intro p hp;rw[pairsOf_toList] at hp;obtain⟨q1,q2⟩:=mem_zip_self hp;exact q2
  ·rintro⟨⟨⟩,st'⟩ s' ⟨rfl,hp,hf,hs⟩;dsimp only;refine qaa (seqEpoch_at ho6 rfl ?_);have hz:((arrOf st').map (·.2)).size=vs.length:=by rw[qcQ,hp.size_eq,hps]
   refine qaa (listUpdate_at ho6 rfl ?_ (qaK _) (by show ((arrOf st').map (·.2)).size<=_;rw[hz];lia));rw[hf];simp only[bne_self_eq_false,qaf,if_false];refine qag ?_;have hl:(arrOf st').toList.Perm (vs.zip vs):=by rw[<-pairsOf_toList];exact qbA.mp hp
   have hmem:∀p,p∈(arrOf st').toList->p.1=p.2/\p.1∈vs:=fun p hp'=>mem_zip_self (hl.mem_iff.mp hp');have hout:=h ((arrOf st').toList.map (·.2)) ?_ ?_
   ·have e:((arrOf st').toList.map (·.2)).toArray=(arrOf st').map (·.2):=by apply qba.mp;simp
    rw[e] at hout;exact hout
   ·have q:=hl.map (·.2);rw[qci (qai _)] at q;exact q
   ·rw[qaU,qaY,qbq];intro i j hi hj hij;have hi':i<(arrOf st').size:=by simpa using hi
    have hj':j<(arrOf st').size:=by simpa using hj
    have q:=hs i j (qaK _) (qbJ hij) (by rw[<-hp.size_eq];exact hj');rw[aJ (getElem?_pos _ i hi'),aJ (getElem?_pos _ j hj')] at q;have m1:=(hmem (arrOf st')[i] (by simp)).1;have m2:=(hmem (arrOf st')[j] (by simp)).1;have q':decide (rk (arrOf st')[j].1<rk (arrOf st')[i].1)=false:=q;rw[m1,m2] at q';simp only[decide_eq_false_iff_not] at q';simp only[Function.comp,Array.getElem_toList];lia
def v4{T:String}{p:Addr}{o:Obj}{m:Nat}{Q:List Value->Shared->Prop}(hT:T="list"\/T="tuple")(hp:s.heap.get? p=some o)(hc:o.cls=.type T)(hd:o.data=.seq vs.toArray m)(hz:vs.length<=sizeLine)
  (h:Q vs { s with heap:=(s.heap.push (seqObj "list" #[] 0)).update s.heap.objs.size (Obj.mapSeq (·++vs.toArray))}):wpAny (model prog w) A (collect (.ref p)) Q E s:=by
 have hp':(s.heap.push (seqObj "list" #[] 0)).get? p=some o:=qab _ hp;have h0:(s.heap.push (seqObj "list" #[] 0)).get? s.heap.objs.size=some (seqObj "list" #[] 0):=qap _ rfl;have br:(Value.type T == Value.type "list" || Value.type T == Value.type "tuple")=true:=by rcases hT with rfl|rfl <;> rfl
 unfold collect;refine qaa (wpAny_runValue (codeAny_builtin entry_proto_collect' (qaa (wpAny_newList (qag ⟨Code.quiet_builtin _ (by decide +kernel),codeAny_builtin entry_list_iadd' ?_⟩)))));show wpAny _ _ (Builtin.List.listExtendWith (.ref s.heap.objs.size) (.ref p) _) _ _ { s with heap:=s.heap.push (seqObj "list" #[] 0)};unfold Builtin.List.listExtendWith;refine qaa (wpAny_typeOf (T:=T) ⟨o,hp',hc⟩ ?_);rw[qah (by rw[Bool.or_assoc,br,Bool.or_true])];refine qaa (listItems_at hp' hd (qaa (listItems_at h0 rfl ?_)));rw[qan (by simp)];refine qaa (listUpdate_at h0 rfl (qag ?_) (qaK _) (by show (#[]++vs.toArray).size<=_;simp;lia));show wpAny _ A (load s.heap.objs.size >>= _) _ _ _;refine qaa (wpAny_load (get?_update_seq h0 _) ?_);have e:((#[]:Array Value)++vs.toArray).toList=vs:=by simp
 show wpAny _ _ (pure _) _ _ _;rw[e];exact qag h
def t4{T:String}{p:Addr}{o:Obj}{m:Nat}{Q:Value->Shared->Prop}(hT:T="list"\/T="tuple")(hp:s.heap.get? p=some o)(hc:o.cls=.type T)(hd:o.data=.seq vs.toArray m)(hk:∀v∈vs,iw s.heap rk v)(nd:(vs.map rk).Nodup)(h66:vs.length<=66)
  (h:∀(h':Heap) (l:Addr) (out:List Value),(∀b o',s.heap.get? b=some o'->h'.get? b=some o')->s.heap.objs.size<=l->(∃c,h'.get? l=some (seqObj "list" out.toArray c))->out.Perm vs->(out.map rk).Pairwise (·<=·)->Q (.ref l) { s with heap:=h'}) :
  wpAny (model prog w) A (call (.builtin "sorted") [.ref p]) Q E s:=by
 have hfits:vs.length<=sizeLine:=by rw[sizeLine_eq];lia
 refine Calls.call_function_entry kind_sorted plain_sorted entry_sorted (args_sorted1 _) ?_;unfold Builtin.«sorted»;refine qaa (m:=checkCount "sorted" 1 1 _) (qag (qaa (v4 hT hp hc hd hfits (qaa (wpAny_newList ?_ hfits)))));generalize e1:(s.heap.push (seqObj "list" #[] 0)).update s.heap.objs.size (Obj.mapSeq (·++vs.toArray))=h1;have x1:∀b o,s.heap.get? b=some o->h1.get? b=some o:=fun b o z=>by
  rw[<-e1,qbp _ _ _ _ (qaF (qal z))];exact qab _ z
 have hle:s.heap.objs.size<=h1.objs.size:=by rw[<-e1,qcG,size_push'];exact qbY _
 have hoL:(h1.push (seqObj "list" vs.toArray 0)).get? h1.objs.size=some (seqObj "list" vs.toArray 0):=qap _ rfl;have up:∀b o,h1.get? b=some o->(h1.push (seqObj "list" vs.toArray 0)).get? b=some o:=fun b o e=>qab _ e
 refine qaa (wpAny_holding (wpAny_call_entry slot_list_sort ⟨_,hoL,rfl⟩ entry_list_sort
  (wU (s:={ s with heap:=h1.push (seqObj "list" vs.toArray 0)}) (fun v=>beq_self_eq_true v) hoL (fun v hv=>(hk v hv).up fun b o hb _=>up b o (x1 b o hb)) nd h66 fun out pv r2=>⟨_,rfl,?_⟩) (args_list_sort _)))
 refine qag ⟨_,rfl,h _ h1.objs.size out (fun b o e=>?_) hle (eG hoL _) pv r2⟩;exact d3 (qaF (qal (x1 b o e))) (up b o (x1 b o e)) _
end
end SortT
namespace MM
open PySem PySem.Spec PyProof.Rows L2 SetT SortT
def g9:List PV->Option (List Int)
 | []=>some []
 | .int i::r=>(g9 r).map (i::·)
 | _=>none
def kOf:PV->Option (List Int)
 | .tup xs=>g9 xs
 | _=>none
def gK:List PV->Option (List (List Int))
 | []=>some []
 | x::r=>(match kOf x,gK r with
  | some k,some ks=>some (k::ks)
  | _,_=>none)
def kP(k:List Int):PV:=.tup (k.map .int)
def bH(l:List (List Int)):List (List Int):=l.mergeSort fun x y=>!bL y x
def fF(l:List (List Int)):(bH l).Perm l:=List.mergeSort_perm _ _
def mS(l:List (List Int)):Ris (bH l):=by
 have:=qcA (le:=fun x y=>!bL y x) (l:=l) (fun a b c h1 h2=>by
   simp only[qbG] at h1 h2 ⊢
   exact KeyOrd.kle_trans (O:=lexO) h1 h2) (fun a b=>by
   cases h:bL b a with
   | false=>simp
   | true =>
    have:bL a b=false:=KeyOrd.klt_asymm (O:=lexO) h
    simp[this])
 unfold Ris bH;exact this.imp fun {a b} h=>by simpa using h
def nj(h1:Ris l)(h2:Ris m)(p:l.Perm m):l=m :=
 List.Perm.eq_of_pairwise (fun a b _ _ x y=>iW a b y x) h1 h2 p
def qX:∀{xs:List PV} {k:List Int},g9 xs=some k->xs=k.map .int
 | [],k,h=>by cases h;rfl
 | x::r,k,h=>by
  cases x with
  | int i =>
   unfold g9 at h
   cases hr:g9 r with
   | none=>rw[hr] at h;cases h
   | some kr =>
    rw[hr] at h;cases h;rw[qX hr];rfl
  | _=>cases h
def kOf_eq(h:kOf x=some k):x=kP k:=by
 cases x with
 | tup xs=>unfold kP;rw[qX (show g9 xs=some k from h)]
 | _=>cases h
def oU:∀{xs:List PV} {ks:List (List Int)},gK xs=some ks->xs=ks.map kP
 | [],ks,h=>by cases h;rfl
 | x::r,ks,h=>by
  unfold gK at h
  cases hx:kOf x with
  | none=>rw[hx] at h;cases h
  | some k =>
   cases hr:gK r with
   | none=>rw[hx,hr] at h;cases h
   | some kr =>
    rw[hx,hr] at h;cases h;rw[kOf_eq hx,oU hr];rfl
def TKs(K:qac)(H:Hp)(ys:List V)(ks:List (List Int)):Prop :=
 ys.length=ks.length/\∀(i:Nat) (y:V) (k:List Int),ys[i]?=some y->ks[i]?=some k->∃a,y=.ref a/\SqT K H a (k.map V.int)
def vints{K:qac}{ρ:List Addr}{H:Hp}:∀{k:List Int} {ys:List V},RPs K ρ H (k.map PV.int) ys->ys=k.map V.int
 | [],ys,h=>by cases h;rfl
 | i::k,ys,h=>by
  cases h with
  | cons r t =>
   cases r;rw[vints t];rfl
def o9{K:qac}{ρ:List Addr}{H:Hp}:∀{ks:List (List Int)} {ys:List V},RPs K ρ H (ks.map kP) ys->TKs K H ys ks
 | [],ys,h=>by cases h;exact⟨rfl,fun i y k e=>by simp at e⟩
 | k::ks,ys,h=>by
  cases h with
  | cons r t =>
   obtain⟨l,g⟩:=o9 t;refine⟨by simp[l],fun i y k' e1 e2=>?_⟩
   cases i with
   | zero =>
    simp at e1 e2;subst e1;subst e2
    cases r with
    | tup s1 r1 =>
     rw[vints r1] at s1;exact⟨_,rfl,s1⟩
   | succ i=>exact g i y k' (by simpa using e1) (by simpa using e2)
def oS{K:qac}{ρ:List Addr}{H:Hp}:∀{ks:List (List Int)} {ys:List V},TKs K H ys ks->RPs K ρ H (ks.map kP) ys
 | [],ys,h=>by
  have:ys=[]:=qbK.mp (by have:=h.1;simpa using this)
  subst this;exact .nil
 | k::ks,ys,h=>by
  cases ys with
  | nil=>have:=h.1;simp at this
  | cons y ys =>
   obtain⟨a,rfl,s1⟩:=h.2 0 y k rfl rfl;refine .cons (.tup s1 (RPs.ints k)) (oS ⟨by have:=h.1;simpa using this,fun i y' k' e1 e2=>h.2 (i+1) y' k' (by simpa using e1) (by simpa using e2)⟩)
def mZ:∀{k:List Int} {its:List Value},ar (k.map V.int) its->ItemsAre (intKind prog w) k its
 | [],_,h=>by cases h;exact .nil
 | i::k,_,h=>by
  cases h with
  | cons r t =>
   obtain⟨tk,rfl⟩:=r;exact .cons (intKind_is _ _ _ _) (mZ t)
section
variable {X:Cx} {HM:List (Addr × Obj)} {σ:L2.St} {H:Hp} {s:Shared}
def ng(I:Inv X HM σ H s)(h:SqT X.K H a (k.map V.int)):TK X.prog X.w s.heap k a:=by
 obtain⟨its,rv,⟨o,ho,hc,n,hd⟩,_⟩:=I.tuple h;exact⟨o,its.toArray,n,ho,hc,hd,by simpa using mZ rv⟩
def uW(I:Inv X HM σ H s)(h:TKs X.K H ys ks)(rv:ar ys its):Lie X.prog X.w s.heap its.toArray ks:=by
 refine⟨by simp[<-rv.length,h.1],fun i v k hv hk=>?_⟩;have hi:i<ys.length:=by rw[h.1];exact (qad.mp hk).1
 obtain⟨a,e,s1⟩:=h.2 i ys[i] k (by simp[hi]) hk;obtain⟨u,eu,ru⟩:=rv.get (show ys[i]?=some ys[i] by simp[hi])
 have:v=u:=by
  have h1:its[i]?=some v:=by simpa using hv
  rw[h1] at eu;exact Option.some.inj eu
 subst this;rw[e] at ru;exact⟨a,ru,ng I s1⟩
end
def SPh(prog:Program)(w:World)(S:Addr)(al:List (List Int × Addr))(h:Heap):Prop :=
 ∃o es ep t,h.get? S=some o/\o.ExactSet/\o.data=.set es ep t/\t.dummies=#[]/\(t.mask=7\/t.mask=31\/t.mask=127)/\t.plain=true/\t.led=bA w /\
  WF t.mask t.place (es.map (·.1))/\js t es.size/\es.toList=al.map fun p=>(TH prog w p.1,Value.ref p.2)
def sph_of(T:cT prog w P h S (bA w) ks) :
  ∃al,SPh prog w S al h/\(al.map (·.1)).Perm ks/\∀p∈al,TK prog w h p.1 p.2/\P p.2:=by
 obtain⟨o,es,ep,t,ks',T,hr,hpm,hnd⟩:=T;have key:∀(l:List (Int × Value)) (ls:List (List Int)),l.length=ls.length->(∀(i:Nat) (e:Int × Value) (k:List Int),l[i]?=some e->ls[i]?=some k->∃a,e.2=.ref a/\TK prog w h k a/\e.1=TH prog w k/\P a) ->
   ∃al:List (List Int × Addr),l=al.map (fun p=>(TH prog w p.1,Value.ref p.2))/\al.map (·.1)=ls/\∀p∈al,TK prog w h p.1 p.2/\P p.2:=by
  intro l
  induction l with
  | nil =>
   intro ls hl _
   have:ls=[]:=qbK.mp (by simpa using hl.symm)
   subst this;exact⟨[],rfl,rfl,fun p hp=>by cases hp⟩
  | cons e l ih =>
   intro ls hl g
   cases ls with
   | nil=>simp at hl
   | cons k ls =>
    obtain⟨a,e1,e2,e3,e4⟩:=g 0 e k rfl rfl;obtain⟨al,a1,a2,a3⟩:=ih ls (by simpa using hl) fun i e' k' h1 h2=>g (i+1) e' k' (by simpa using h1) (by simpa using h2);refine⟨(k,a)::al,?_,by simp[a2],fun p hp=>?_⟩
    ·rw[a1,qau];congr 1;obtain⟨x1,x2⟩:=e;simp only at e1 e3;rw[e1,e3]
    ·rcases qak.mp hp with rfl|hp
     ·exact⟨e2,e4⟩
     ·exact a3 p hp
 obtain⟨al,a1,a2,a3⟩:=key es.toList ks' (by rw[qaD];exact T.ents.1) fun i e k h1 h2=>T.ents.2 i e k (by rw[<-qar];exact h1) h2;exact⟨al,⟨o,es,ep,t,T.get,T.ex,T.data,T.dm,T.mask,T.plain,T.led',T.wf,hr,a1⟩,by rw[a2];exact hpm,a3⟩
def tset_of(p:SPh prog w S al h)(hk:∀q∈al,TK prog w h q.1 q.2)(hnd:(al.map (·.1)).Nodup) :
  cT prog w (PB h fun a=>∃k,(k,a)∈al) h S (bA w) (al.map (·.1)):=by
 obtain⟨o,es,ep,t,p1,p2,p3,p4,p5,p6,p7,p8,p9,p10⟩:=p;refine⟨o,es,ep,t,al.map (·.1),⟨p1,p2,p3,p4,p5,p6,p7,p8,?_,fun i e k h1 h2=>?_⟩,p9,List.Perm.refl _,hnd⟩
 ·rw[<-qaD,p10];simp
 ·rw[<-qar,p10,qaw] at h1;rw[qaw] at h2
  cases hi:al[i]? with
  | none=>rw[hi] at h1;cases h1
  | some q =>
   rw[hi] at h1 h2;cases h1;cases h2;have hm:=qaV hi;have t1:=hk q hm;exact⟨q.2,rfl,t1,rfl,let ⟨o',_,_,ho',_⟩:=t1;⟨o',ho'⟩,q.1,hm⟩
def wS(p:SPh prog w S al h1)(k:∀o,h1.get? S=some o->h2.get? S=some o):SPh prog w S al h2:=by
 obtain⟨o,es,ep,t,p1,r⟩:=p;exact⟨o,es,ep,t,k o p1,r⟩
section
variable {X:Cx} {N W G:List Str} {k:Nat}
def xG(hh:X.calm=true)(hr:Room k X.A):bQ X (.type "set") (fun xs H Q=>∃l ys ks,xs=[.ref l]/\SqL X.K H l ys/\TKs X.K H ys ks/\(ded ks).length<=66 /\
  ∀S al,H S=none->(al.map (·.1)).Perm (ded ks)->(∀p∈al,SqT X.K H p.2 (p.1.map V.int))->Q (.ref S) (upd H S (.ext (SPh X.prog X.w S al)))):=by
 intro HM s σ H xs us Q I r ⟨l,ys,ks,e,hq,ht,h66,q⟩;subst e;obtain⟨u,rfl,rx⟩:=dM r;cases rx;obtain⟨its,rv,pl,hz⟩:=I.list hq;have lie:=uW I ht rv;refine qB (I.ok.hd hh) (by have:=hr.units;lia) pl.isList lie h66 fun h' tk T x htk=>?_;obtain⟨al,sp,pm,al2⟩:=sph_of T;have hfr:=I.hok.fresh (qai s.heap.objs.size);obtain⟨o,es,ep,t,ho,rest⟩:=id sp;refine⟨.ref s.heap.objs.size,_,I.laid (o:=.ext (SPh X.prog X.w s.heap.objs.size al)) x (qai _) ⟨sp,⟨o,ho⟩,fun h1 h2 a b=>wS a b⟩,rfl,q _ al hfr pm fun p hp=>?_⟩;obtain⟨t1,⟨_,hm⟩⟩:=al2 p hp;obtain⟨i,hi⟩:=qaA.mp hm;rw[qar] at hi;have hi':its[i]?=some (.ref p.2):=by simpa using hi
 have hlt:i<its.length:=(qad.mp hi').1;have hlt2:i<ys.length:=by rw[rv.length];exact hlt
 have hlt3:i<ks.length:=by rw[<-ht.1];exact hlt2
 obtain⟨a,e,s1⟩:=ht.2 i ys[i] ks[i] (by simp[hlt2]) (by simp[hlt3]);obtain⟨u,eu,ru⟩:=rv.get (show ys[i]?=some ys[i] by simp[hlt2]);rw[hi'] at eu;cases eu;rw[e] at ru;have ea:p.2=a:=by cases ru;rfl
 have t2:=kn x (ng I s1);rw[<-ea] at t2
 have:p.1=ks[i]:=IsTupleKey.inj t1 t2
 rw[this,ea];exact s1
def vh{HM:List (Addr × Obj)}{s:Shared}{σ:L2.St}{H:Hp}{Q:VK}{R:Value->Prop}{h':Heap}{tk:Nat}{l:Addr}{ks ks':List (List Int)}{out:List Value}(I:Inv X HM σ H s)(T:Told X.prog X.w R s.heap s.heap h' l ks out ks')
  (hR:∀v,R v->∃(a:Addr) (k:List Int),v=.ref a/\SqT X.K H a (k.map V.int)) (hz:ks.length<=66)
  (q:∀l ys,H l=none->TKs X.K H ys (bH ks)->Q (.ref l) (upd H l (.lst ys))):EP X HM σ Q (.ref l) { s with heap:=h',toks:=tk}:=by
 have hlt:=T.size;have hks:ks'=bH ks:=nj T.ris (mS ks) (T.perm.trans (fF ks).symm);obtain⟨c,hc⟩:=T.at';have hlen:out.length=ks'.length:=by have:=T.lie.1;simpa using this
 have hout:∀v∈out,∃a,v=.ref a:=fun v hv=>let ⟨a,_,e,_⟩:=hR v (T.mem v hv);⟨a,e⟩;obtain⟨ys,rv,hy⟩:∃ys:List V,ar ys out/\∀y∈ys,∃a,y=.ref a/\Value.ref a∈out:=by
  clear hlen T hR hks hc
  induction out with
  | nil=>exact⟨[],.nil,fun y hy=>by cases hy⟩
  | cons v out ih =>
   obtain⟨a,rfl⟩:=hout v qax;obtain⟨ys,r,g⟩:=ih (fun u hu=>hout u (qae _ hu));refine⟨.ref a::ys,.cons rfl r,fun y hy=>?_⟩;rcases qak.mp hy with rfl|hy
   ·exact⟨a,rfl,qax⟩
   ·obtain⟨b,e,m⟩:=g y hy;exact⟨b,e,qae _ m⟩
 have hks2:TKs X.K H ys ks':=by
  refine⟨by rw[rv.length,hlen],fun i y k hy' hk=>?_⟩;obtain⟨u,eu,ru⟩:=rv.get hy';obtain⟨a,e,m⟩:=hy y (qaV hy');subst e;cases ru;obtain⟨b,k2,e2,s1⟩:=hR _ (T.mem _ m);cases e2;obtain⟨b2,e3,t⟩:=T.lie.2 i (.ref a) k (by simpa using eu) hk;cases e3
  have:k=k2:=IsTupleKey.inj t (ng I s1)
  subst this;exact⟨a,rfl,s1⟩
 have hfr:=I.hok.fresh hlt;refine⟨.ref l,_,I.laid (o:=.lst ys) T.ext hlt (show ObjOk X.prog X.w _ h' l (.lst ys) from⟨?_,out,c,rv,hc⟩),rfl,q l ys hfr (by rw[<-hks];exact hks2)⟩;rw[rv.length,hlen,T.perm.length_eq,sizeLine_eq];lia
def sI(hh:X.calm=true):bQ X (.builtin "sorted") (fun xs H Q=>∃S al,xs=[.ref S]/\H S=some (.ext (SPh X.prog X.w S al))/\(∀p∈al,SqT X.K H p.2 (p.1.map V.int))/\(al.map (·.1)).Nodup/\(∀p∈al,p.1≠[])/\al.length<=66 /\
  ∀l ys,H l=none->TKs X.K H ys (bH (al.map (·.1)))->Q (.ref l) (upd H l (.lst ys))):=by
 intro HM s σ H xs us Q I r ⟨S,al,e,hS,hal,hnd,hne,hz,q⟩;subst e;obtain⟨u,rfl,rx⟩:=dM r;cases rx;obtain⟨sp,_,_⟩:SPh X.prog X.w S al s.heap/\_:=(show ObjOk X.prog X.w H s.heap S (.ext (SPh X.prog X.w S al)) from I.hok S _ hS);have T:=tset_of sp (fun p hp=>ng I (hal p hp)) hnd;refine wc (I.ok.hd hh) T (fun b o e=>e) (fun k hk=>?_) (by simpa using hz) fun h' tk l out ks' td htk=>?_
 ·obtain⟨p,hp,rfl⟩:=qav.mp hk;exact hne p hp
 ·refine vh I td (fun v ⟨a,e,k,hm⟩=>⟨a,k,e,hal (k,a) hm⟩) (by simpa using hz) q
def s0:bQ X (.builtin "sorted") (fun xs H Q=>∃l ys ks,xs=[.ref l]/\SqL X.K H l ys/\TKs X.K H ys ks/\(∀k∈ks,k≠[])/\ks.length<=66 /\
  ∀l' ys',H l'=none->TKs X.K H ys' (bH ks)->Q (.ref l') (upd H l' (.lst ys'))):=by
 intro HM s σ H xs us Q I r ⟨l,ys,ks,e,hq,ht,hne,hz,q⟩;subst e;obtain⟨u,rfl,rx⟩:=dM r;cases rx;obtain⟨its,rv,pl,hz2⟩:=I.list hq;refine uf pl.isList (uW I ht rv) hne hz fun h' tk l' out ks' td htk=>?_;refine vh I td (fun v hv=>?_) hz q;obtain⟨i,hi⟩:=qaA.mp hv;have hlt:i<its.length:=(qad.mp hi).1;have hlt2:i<ys.length:=by rw[rv.length];exact hlt
 have hlt3:i<ks.length:=by rw[<-ht.1];exact hlt2
 obtain⟨a,e,s1⟩:=ht.2 i ys[i] ks[i] (by simp[hlt2]) (by simp[hlt3]);obtain⟨u,eu,ru⟩:=rv.get (show ys[i]?=some ys[i] by simp[hlt2]);rw[hi] at eu;cases eu;rw[e] at ru;exact⟨a,_,ru,s1⟩
def cq(h:MH):PV->Option (List PV)
 | .frl xs=>some xs
 | .loc n=>(match h[n]? with
  | some (.lst xs)=>some xs
  | _=>none)
 | _=>none
def oM{ρ:List Addr}{H:Hp}{h:MH}{x:PV}{y:V}{xs:List PV}{K:qac}{mg:MGl}(rh:RH K mg ρ H h)(r:RP K ρ H x y)(e:cq h x=some xs):∃a zs,y=.ref a/\SqL K H a zs/\RPs K ρ H xs zs:=by
 cases r with
 | frl s r=>cases e;exact⟨_,_,rfl,s.sq,r⟩
 | @loc n a en =>
  obtain⟨o,eo,ro⟩:=rh.obj en;unfold cq at e;dsimp only at e;rw[eo] at e
  cases o with
  | lst zs =>
   cases e;obtain⟨ys,ey,ry⟩:=ro;exact⟨a,ys,rfl,SqL.of ey,ry⟩
  | _=>cases e
 | _=>cases e
def mSS(m:Mx (List PV)):Mx PV:=fun σ h=>(m σ h).bind fun vs h1=>match vs with
 | [x]=>(match (cq h1 x).bind gK with
  | some ks=>if (∀k∈ks,k≠[])/\(ded ks).length<=66 then .ok (.loc h1.length) (h1++[.lst ((bH (ded ks)).map kP)]) else .bad
  | none=>.bad)
 | _=>.bad
def j6(l:List (List Int)):(ded l).Nodup:=by
 have key:∀(m:List (List Int)) (acc:List (List Int)),acc.Nodup->(m.foldl SetT.dL acc).Nodup:=by
  intro m
  induction m with
  | nil=>intro acc h;exact h
  | cons k m ih =>
   intro acc h;refine ih _ ?_;unfold SetT.dL;split
   ·exact h
   ·rename_i hk
    rw[qbU];refine⟨h,by simp,fun x hx y hy=>?_⟩
    have:y=k:=by simpa using hy
    subst this;rintro rfl;exact hk hx
 exact key l [] qcO
def m6(p:l.Perm m):bH l=bH m:=nj (mS l) (mS m) ((fF l).trans (p.trans (fF m).symm))
def sL(g:Good X N W G k){a:Expr}{m:Mx (List PV)}{i j:Nat}{p p' pos pos':Pos}(hi:G[i]?=some "sorted")(hm:X.mg "sorted"=none)(hj:G[j]?=some "set")(hm':X.mg "set"=none)(ha:MA X [a] m)
  (hs:starEach [a] X.env=[(false,eval a X.env)]:=by rfl) (he:starEach [.Call (.Name "set" p') [a] [] pos'] X.env=[(false,eval (.Call (.Name "set" p') [a] [] pos') X.env)]:=by rfl) :
  ME X (.Call (.Name "sorted" p) [.Call (.Name "set" p') [a] [] pos'] [] pos) (mSS m):=by
 have d:=g.dbg _ (qaj _ (az hi));have d':=g.dbg _ (qaj _ (az hj));refine PE.imp (gQ (sI g.calm) (g.gl _ (az hi)) hm PyProof.Rows.Boot.«sorted» (cO (g8 (xG g.calm g.room) (g.gl _ (az hj)) hm' PyProof.Rows.Boot.«set» ha d'.2.2 d'.1 hs rfl) g0 he) d.2.2 d.1 he rfl) fun σ H Q ⟨ρ,σp,h,rs,rh,q⟩=>?_;refine⟨ρ,σp,h,rs,rh,Ful.bind q fun ρ1 H1 x x' h1 ex l1 rh1 rx q1=>?_⟩;clear ex
 cases rx with
 | nil=>exact q1.elim
 | @cons y y' _ _ r1 t1 =>
  cases t1 with
  | cons _ _=>exact q1.elim
  | nil =>
   dsimp only at q1
   cases hl:cq h1 y with
   | none=>rw[hl] at q1;exact q1.elim
   | some xs =>
    rw[hl] at q1
    cases hk:gK xs with
    | none=>simp only[qaX,hk] at q1;exact q1.elim
    | some ks =>
     simp only[qaX,hk] at q1;by_cases z:(∀k∈ks,k≠[])/\(ded ks).length<=66
     ·rw[qah z] at q1;obtain⟨la,zs,rfl,hsq,rzs⟩:=oM rh1 r1 hl;rw[oU hk] at rzs;refine⟨la,zs,ks,rfl,hsq,o9 rzs,z.2,fun S al hS pm hal=>?_⟩;obtain⟨rh2,l2⟩:=rh1.loose hS (.ext (SPh X.prog X.w S al));refine⟨S,al,rfl,bB,fun p hp=>l2.sqt (hal p hp),pm.nodup_iff.mpr (j6 ks),fun p hp=>?_,?_,fun l ys hl2 tk=>?_⟩
      ·have:p.1∈ded ks:=pm.mem_iff.mp (qav.mpr ⟨p,hp,rfl⟩)
       exact z.1 p.1 ((lc _ _).mp this)
      ·have:=pm.length_eq
       rw[qaB] at this;rw[this];exact z.2
      ·rw[m6 pm] at tk;obtain⟨rh3,l3⟩:=rh2.new hl2 (o:=.lst ((bH (ded ks)).map kP)) (ho:=.lst ys) ⟨_,rfl,oS tk⟩;exact q1 _ _ _ (l2.trans l3) rh3 (.loc (by rw[<-rh1.len];simp))
     ·rw[qan z] at q1;exact q1.elim
end
end MM
namespace SeqT
open PySem
abbrev itN(tp:Bool):String:=if tp then "tuple_iterator" else "list_iterator"
abbrev sqN(tp:Bool):String:=if tp then "tuple" else "list"
def SqI(tp:Bool)(h:Heap)(it a:Addr)(i:Nat):Prop:=∃o,h.get? it=some o/\o.cls=.type (itN tp)/\o.data=.fields #[.ref a,.int i 0]
def SqO(tp:Bool)(h:Heap)(a:Addr)(xs:Array Value):Prop:=∃o,h.get? a=some o/\o.cls=.type (sqN tp)/\∃n,o.data=.seq xs n
def SqI.at'(x:SqI tp h it a i)(k:∀o,h.get? it=some o->h'.get? it=some o):SqI tp h' it a i:=let ⟨o,e,r⟩:=x;⟨o,k o e,r⟩
def SqO.at'(x:SqO tp h a xs)(k:∀o,h.get? a=some o->h'.get? a=some o):SqO tp h' a xs:=let ⟨o,e,r⟩:=x;⟨o,k o e,r⟩
def SqI.lt(x:SqI tp h it a i):it<h.objs.size:=let ⟨_,e,_⟩:=x;qal e
section
variable {prog:Program} {w:World} {A:Around} {E:Value→Shared→Prop} {s:Shared}
def g7(hi:SqI tp s.heap it a i)(ho:SqO tp s.heap a xs)(hx:xs[i]?=some x)
  (hQ:∀h',SqI tp h' it a (i+1)->Heap.SameBut it s.heap h'->Q x { s with heap:=h'}):wpAny (model prog w) A (Builtin.SmallTypes.nextOf (.ref it)) Q E s:=by
 cases tp with
 | false=>exact wpAny_nextOf_list_item (show s.heap.IsListIter it a i from hi) (show s.heap.IsList a xs from ho) hx hQ
 | true =>
  obtain⟨o,e,hc,hd⟩:=id hi;obtain⟨ol,hol,_,nl,hdl⟩:=ho;have hT:s.TypeIs (.ref it) "tuple_iterator":=⟨o,e,hc⟩;unfold Builtin.SmallTypes.nextOf;refine qaa (wpAny_callSpecial?_slot (name:=Str.ofString "__next__") hT F.slot_tuple_iterator_next (wpAny_call_entry F.slot_tuple_iterator_next hT F.entry_tuple_iterator_next ?_ (F.args_tuple_iterator_next_1 _)));show wpAny _ _ (field (.ref it) 0 >>= _) _ _ s;refine qaa (wpAny_field e hd (x:=.ref a) rfl ?_);show wpAny _ _ (if (Value.ref a == Value.none)=true then _ else _) _ _ s;rw[qan (show ¬((Value.ref a == Value.none)=true) from qaL)];show wpAny _ _ (field (.ref it) 1 >>= _) _ _ s;refine qaa (wpAny_field e hd (x:=.int i 0) rfl ?_);show wpAny _ _ (seqItems? (.ref a) >>= _) _ _ s;refine qaa (wpAny_seqItems hol hdl ?_);simp only[qbg,hx];refine qaa (wpAny_setField e hd (by simp) (qag ⟨x,rfl,qag (hQ _ ?_ (Heap.SameBut.update ..))⟩));exact⟨_,qbC _ e (Obj.isFreed_of_fields (Obj.data_mapFields hd _)),(Obj.cls_mapFields ..).trans hc,by rw[Obj.data_mapFields hd];simp[rawInt]⟩
def ji(hh:A.handled=none)(hi:SqI tp s.heap it a i)(ho:SqO tp s.heap a xs)(hx:xs[i]?=none)
  (hE:∀h' e,Heap.ExtBut it s.heap h'->(∃o,h'.get? e=some o/\o.cls=.type "StopIteration")->E (.ref e) { s with heap:=h'}):wpAny (model prog w) A (Builtin.SmallTypes.nextOf (.ref it)) Q E s:=by
 cases tp with
 | false=>exact wpAny_nextOf_list_end hh (show s.heap.IsListIter it a i from hi) (show s.heap.IsList a xs from ho) hx hE
 | true =>
  obtain⟨o,e,hc,hd⟩:=id hi;obtain⟨ol,hol,_,nl,hdl⟩:=ho;have hT:s.TypeIs (.ref it) "tuple_iterator":=⟨o,e,hc⟩;unfold Builtin.SmallTypes.nextOf;refine qaa (wpAny_callSpecial?_slot (name:=Str.ofString "__next__") hT F.slot_tuple_iterator_next (wpAny_call_entry F.slot_tuple_iterator_next hT F.entry_tuple_iterator_next ?_ (F.args_tuple_iterator_next_1 _)));show wpAny _ _ (field (.ref it) 0 >>= _) _ _ s;refine qaa (wpAny_field e hd (x:=.ref a) rfl ?_);show wpAny _ _ (if (Value.ref a == Value.none)=true then _ else _) _ _ s;rw[qan (show ¬((Value.ref a == Value.none)=true) from qaL)];show wpAny _ _ (field (.ref it) 1 >>= _) _ _ s;refine qaa (wpAny_field e hd (x:=.int i 0) rfl ?_);show wpAny _ _ (seqItems? (.ref a) >>= _) _ _ s;refine qaa (wpAny_seqItems hol hdl ?_);simp only[qbg,hx];refine qaa (wpAny_rule (qaa (wpAny_setField e hd (by simp) ?_)));show wpAny _ _ (newExc (.type "StopIteration") [] >>= _) _ _ _;refine qaa ?_;simp only[newExc,newTuple];refine qaa (wpAny_newObj_type ?_ (by size_fits));refine qaa (m:=firstArgMember _ _) (wpAny_of_eq (a:=Value.none) (by first | rfl | (simp only[firstArgMember];rfl)) ?_);refine wpAny_newObj_type ?_ (by size_fits);simp only[raiseNew];refine qaa (wpAny_handled ?_);rw[show A.in1.handled=none from hh];refine qaa (qag (wpAny_throw ?_));exact hE _ _ (((Heap.SameBut.update ..).extBut.push _).push _) ⟨_,qap _ rfl,rfl⟩
def iM(ho:SqO tp s.heap a xs)
  (hQ:Q (.ref s.heap.objs.size) { s with heap:=s.heap.push { cls:=.type (itN tp),data:=.fields #[.ref a,.int 0 0]}}):wpAny (model prog w) A (pyIter (.ref a)) Q E s:=by
 cases tp with
 | false=>exact wpAny_pyIter_list (show s.heap.IsList a xs from ho) hQ
 | true=>exact wpAny_pyIter_tuple (show s.heap.IsTuple a xs from ho) hQ
end
def draws(hh:A.handled=none)(tp:Bool)(it a:Addr)(hne:a≠it)(xs:Array Value) :
  Draws prog w A it [it,a] xs.size (fun i v=>xs[i]?=some v) (fun i h=>SqI tp h it a i/\SqO tp h a xs) where
 live:=fun _ _ st=>let ⟨o,ho,_⟩:=st.1;⟨o,ho⟩
 frame:=fun _ _ _ st hk=>⟨st.1.at' fun o e=>hk it (by simp) o e,st.2.at' fun o e=>hk a (by simp) o e⟩
 item:=fun i s Q E hi st hQ=>by
  refine g7 st.1 st.2 (x:=xs[i]) (by simp[hi]) fun h' hit' hs'=>?_;exact hQ _ h' s.toks (by simp[hi]) ⟨hit',st.2.at' fun o e=>(hs'.2 a hne).trans e⟩ hs'
 done:=fun s Q E st hE=>ji hh st.1 st.2 (by simp) hE
def zF(tp:Bool)(a:Addr)(xs:Array Value)(n:Nat)(dct:Option Addr)(sl:Array (Option Value)) :
  Meets (Builtin.«enumerate.__new__» ⟨[.type "enumerate",.ref a],[]⟩) (fun _ R s=>s.heap.get? a=some { cls:=.type (sqN tp),dict:=dct,data:=.seq xs n,slots:=sl} /\
   R (.ok (.ret (.ref (s.heap.push { cls:=.type (itN tp),data:=.fields #[.ref a,.int 0 0]}).objs.size)))
    { s with heap:=(s.heap.push { cls:=.type (itN tp),data:=.fields #[.ref a,.int 0 0]}).push { cls:=.type "enumerate",data:=.fields #[.none,.bool false,.ref s.heap.objs.size,rawInt 0,.none,.none]}}) :=
 .of_wp fun prog w A R s h=>by
  obtain⟨hp,g,d,tk,os⟩:=s;obtain⟨hl,h⟩:=h;have hsub:=sub_enumerate;have hL:SqO tp (Shared.heap ⟨hp,g,d,tk,os⟩) a xs:=⟨_,hl,rfl,n,rfl⟩
  wp_walk using AutoSeq1.wpAny_loadPart' hl
  refine wpAny_stack_any fun st=>qag ?_;split
  ·rename_i c _ _ _ _ _
   cases (c == Value.type "enumerate")
   ·wp_walk using AutoSeq1.wpAny_loadPart' hl,iM hL
    exact⟨_,rfl,h⟩
   ·wp_walk using AutoSeq1.wpAny_loadPart' hl,iM hL
    exact⟨_,rfl,h⟩
  ·wp_walk using AutoSeq1.wpAny_loadPart' hl,iM hL
   exact⟨_,rfl,h⟩
section
variable {prog:Program} {w:World} {A:Around} {E:Value→Shared→Prop} {s:Shared}
def xD(hL:SqO tp s.heap a xs)
  (h:∀h',IsEnum h' (s.heap.objs.size+1) s.heap.objs.size 0 .none->SqI tp h' s.heap.objs.size a 0->h'.objs.size=s.heap.objs.size+2 ->
   (∀b o,s.heap.get? b=some o->h'.get? b=some o)->Q (.ref (s.heap.objs.size+1)) { s with heap:=h'}) :
  wpAny (model prog w) A (call (.type "enumerate") [.ref a]) Q E s:=by
 obtain⟨⟨c,dct,dt,sl⟩,hl,hc,n,hd⟩:=hL;replace hc:c=.type (sqN tp):=hc;replace hd:dt=.seq xs n:=hd;subst hc hd;refine callType_new F.called_enumerate (by decide) (F.typeCall_enumerate_1 _) (F.newCall_enumerate_1 _) (fun obj=>F.args_object_init_2 obj _) F.entry_enumerate_new (zF tp a xs n dct sl) ⟨hl,?_⟩;have hz:(s.heap.push { cls:=.type (itN tp),data:=.fields #[.ref a,.int 0 0]}).objs.size=s.heap.objs.size+1:=qbb ..;show _/\_;rw[hz]
 have he:IsEnum ((s.heap.push { cls:=.type (itN tp),data:=.fields #[.ref a,.int 0 0]}).push
   { cls:=.type "enumerate",data:=.fields #[.none,.bool false,.ref s.heap.objs.size,rawInt 0,.none,.none]}) (s.heap.objs.size+1) s.heap.objs.size 0 .none:=by
  have:=qap (s.heap.push { cls:=.type (itN tp),data:=.fields #[.ref a,.int 0 0]})
   (o:={ cls:=.type "enumerate",data:=.fields #[.none,.bool false,.ref s.heap.objs.size,rawInt 0,.none,.none]}) rfl
  rw[hz] at this;exact this
 exact⟨⟨_,he,rfl⟩,h _ he ⟨_,qab _ (qap _ rfl),rfl,rfl⟩ (by rw[qbb,hz]) fun b o x=>qab _ (qab _ x)⟩
end
section
variable {prog:Program} {w:World} {A:Around} {E:Value→Shared→Prop} {s:Shared} {z TI TO i1 i2 l1 l2:Addr} {t1 t2:Bool} {k1 k2:Nat} {xs ys:Array Value}
def yt{x y a b:Value}{Q:Value->Shared->Prop}(D:ZipApart z TI TO i1 i2 l1 l2)
  (hz:IsZip s.heap z TI TO .none) (hTI:IsPair s.heap TI (.ref i1) (.ref i2)) (hTO:IsPair s.heap TO a b)
  (h1:SqI t1 s.heap i1 l1 k1) (h2:SqI t2 s.heap i2 l2 k2) (hl1:SqO t1 s.heap l1 xs) (hl2:SqO t2 s.heap l2 ys) (hx:xs[k1]?=some x) (hy:ys[k2]?=some y)
  (hQ:∀h',IsZip h' z TI TO (rawInt s.heap.objs.size)->IsPair h' TO x y->SqI t1 h' i1 l1 (k1+1)->SqI t2 h' i2 l2 (k2+1)->IsPair h' s.heap.objs.size x y->h'.objs.size=s.heap.objs.size+1 ->
   (∀c o,c≠z->c≠TO->c≠i1->c≠i2->s.heap.get? c=some o->h'.get? c=some o)->Q (.ref s.heap.objs.size) { s with heap:=h'}) :
  wpAny (model prog w) A (Builtin.«zip.__next__» ⟨[.ref z],[]⟩) (fun fin s'=>∃v,fin=.done (.ret v)/\Q v s') E s:=by
 show wpAny _ _ (field (.ref z) 2 >>= _) _ _ _;refine qaa (wpAny_field hz rfl (x:=.bool false) rfl ?_);show wpAny _ _ (field (.ref z) 3 >>= _) _ _ _;refine qaa (wpAny_field hz rfl (x:=.ref TI) rfl ?_);refine qaa (wpAny_seqItems hTI rfl ?_);show wpAny _ _ (Builtin.SmallTypes.ownedTupleIsFree (.ref z) >>= _) _ _ _;refine qaa ?_;unfold Builtin.SmallTypes.ownedTupleIsFree;refine qaa (wpAny_field hz rfl (x:=.none) rfl (qag ?_));simp only[if_true];refine qaa (wpAny_rule ?_);refine qaa (wpAny_field hz rfl (x:=.ref TO) rfl ?_);refine qaa (wpAny_setField_rec hz (by simp) fun ha hza sa=>?_);replace hza:IsZip ha z TI TO .ellipsis:=hza;replace sa:Heap.SameBut z s.heap ha:=sa;refine qaa ?_;simp only[qcF,List.zipIdx_nil,qcK,qcP];refine qaa (qaa (wpAny_onRaise ?_));show wpAny _ _ (Builtin.SmallTypes.nextOf (.ref i1) >>= _) _ _ _;refine qaa (g7 (s:={ s with heap:=ha}) (h1.at' fun o e=>(sa.2 _ D.i1z).trans e) (hl1.at' fun o e=>(sa.2 _ D.l1z).trans e) hx fun hb h1b sb=>qag ?_);replace sb:Heap.SameBut i1 ha hb:=sb;have TOb:IsPair hb TO a b:=(sb.2 _ D.TOi1).trans ((sa.2 _ D.TOz).trans hTO);refine qaa (wpAny_seqItems TOb rfl ?_);refine qaa (wpAny_updateSeq_pair TOb fun hc TOc sc=>?_);replace TOc:IsPair hc TO x b:=TOc;replace sc:Heap.SameBut TO hb hc:=sc;refine qaa (wpAny_letGo (qag ?_));refine qaa (qaa (wpAny_onRaise ?_));show wpAny _ _ (Builtin.SmallTypes.nextOf (.ref i2) >>= _) _ _ _
 refine qaa (g7 (s:={ s with heap:=hc}) (h2.at' fun o e=>(sc.2 _ D.TOi2.symm).trans ((sb.2 _ D.i12.symm).trans ((sa.2 _ D.i2z).trans e)))
  (hl2.at' fun o e=>(sc.2 _ D.l2TO).trans ((sb.2 _ D.l2i1).trans ((sa.2 _ D.l2z).trans e))) hy fun hd h2d sd=>qag ?_)
 replace sd:Heap.SameBut i2 hc hd:=sd;have TOd:IsPair hd TO x b:=(sd.2 _ D.TOi2).trans TOc;refine qaa (wpAny_seqItems TOd rfl ?_);refine qaa (wpAny_updateSeq_pair TOd fun he TOe se=>?_);replace TOe:IsPair he TO x y:=TOe;replace se:Heap.SameBut TO hd he:=se;refine qaa (wpAny_letGo (qag (qag ?_)));refine qaa (wpAny_seqItems TOe rfl ?_);refine qaa (wpAny_newTuple ?_);have hsz:he.objs.size=s.heap.objs.size:=by rw[se.1,sd.1,sc.1,sb.1,sa.1]
 have hze:IsZip he z TI TO .ellipsis:=(se.2 _ D.TOz.symm).trans ((sd.2 _ D.i2z.symm).trans ((sc.2 _ D.TOz.symm).trans ((sb.2 _ D.i1z.symm).trans hza)));have hke:∀c o,c≠z->c≠TO->c≠i1->c≠i2->s.heap.get? c=some o->he.get? c=some o:=fun c o c1 c2 c3 c4 e =>
  (se.2 _ c2).trans ((sd.2 _ c4).trans ((sc.2 _ c2).trans ((sb.2 _ c3).trans ((sa.2 _ c1).trans e))))
 have h1e:SqI t1 he i1 l1 (k1+1):=h1b.at' fun o e=>(se.2 _ D.TOi1.symm).trans ((sd.2 _ D.i12).trans ((sc.2 _ D.TOi1.symm).trans e));have h2e:SqI t2 he i2 l2 (k2+1):=h2d.at' fun o e=>(se.2 _ D.TOi2.symm).trans e;have hzlt:z<he.objs.size:=qal hze;show wpAny _ _ (Builtin.SmallTypes.ownedTupleHandOut (.ref z) (.ref he.objs.size) >>= _) _ _ _;refine qaa ?_;unfold Builtin.SmallTypes.ownedTupleHandOut;have hzf:IsZip (he.push { cls:=.type "tuple",data:=.seq #[x,y]}) z TI TO .ellipsis:=qab _ hze;refine qaa (wpAny_setField_rec hzf (by simp) fun hg hzg sg=>?_);replace hzg:IsZip hg z TI TO (rawInt he.objs.size):=hzg;refine wpAny_setField_rec hzg (by simp) fun hh hzh sh=>?_;replace hzh:IsZip hh z TI TO (rawInt he.objs.size):=hzh;have up:∀c o,c≠z->he.get? c=some o->hh.get? c=some o:=fun c o c1 e=>(sh.2 _ c1).trans ((sg.2 _ c1).trans (qab _ e));have hTh:IsPair hh he.objs.size x y:=(sh.2 _ (qaT hzlt)).trans ((sg.2 _ (qaT hzlt)).trans (qap _ rfl));have hzs:hh.objs.size=he.objs.size+1:=by rw[sh.1,sg.1,qbb]
 rw[hsz] at hzh hTh hzs;refine qag ⟨_,rfl,?_⟩;show Q (.ref he.objs.size) _;rw[hsz];exact hQ hh hzh (up _ _ D.TOz TOe) (h1e.at' fun o e=>up _ o D.i1z e) (h2e.at' fun o e=>up _ o D.i2z e) hTh hzs fun c o c1 c2 c3 c4 e=>up c o c1 (hke c o c1 c2 c3 c4 e)
def zL(hh:A.handled=none)(D:ZipApart z TI TO i1 i2 l1 l2)
  (hz:IsZip s.heap z TI TO .none) (hTI:IsPair s.heap TI (.ref i1) (.ref i2)) (hTO:IsPair s.heap TO a b)
  (h1:SqI t1 s.heap i1 l1 k1) (h2:SqI t2 s.heap i2 l2 k2) (hl1:SqO t1 s.heap l1 xs) (hl2:SqO t2 s.heap l2 ys) (hend:xs[k1]?=none\/ys[k2]?=none)
  (hE:∀h' e,(∀c o,c≠z->c≠TO->c≠i1->c≠i2->s.heap.get? c=some o->h'.get? c=some o)->(∃o,h'.get? e=some o/\o.cls=.type "StopIteration")->E (.ref e) { s with heap:=h'}) :
  wpAny (model prog w) A (Builtin.«zip.__next__» ⟨[.ref z],[]⟩) Q E s:=by
 show wpAny _ _ (field (.ref z) 2 >>= _) _ _ _;refine qaa (wpAny_field hz rfl (x:=.bool false) rfl ?_);show wpAny _ _ (field (.ref z) 3 >>= _) _ _ _;refine qaa (wpAny_field hz rfl (x:=.ref TI) rfl ?_);refine qaa (wpAny_seqItems hTI rfl ?_);show wpAny _ _ (Builtin.SmallTypes.ownedTupleIsFree (.ref z) >>= _) _ _ _;refine qaa ?_;unfold Builtin.SmallTypes.ownedTupleIsFree;refine qaa (wpAny_field hz rfl (x:=.none) rfl (qag ?_));simp only[if_true];refine qaa (wpAny_rule ?_);refine qaa (wpAny_field hz rfl (x:=.ref TO) rfl ?_);refine qaa (wpAny_setField_rec hz (by simp) fun ha hza sa=>?_);replace hza:IsZip ha z TI TO .ellipsis:=hza;replace sa:Heap.SameBut z s.heap ha:=sa;refine qaa ?_;simp only[qcF,List.zipIdx_nil,qcK,qcP];refine qaa (qaa (wpAny_onRaise ?_));show wpAny _ _ (Builtin.SmallTypes.nextOf (.ref i1) >>= _) _ _ _
 cases hx:xs[k1]? with
 | none =>
  refine qaa (ji (s:={ s with heap:=ha}) hh (h1.at' fun o e=>(sa.2 _ D.i1z).trans e) (hl1.at' fun o e=>(sa.2 _ D.l1z).trans e) hx fun hb e sb he=>?_);obtain⟨oe,hoe,hce⟩:=he;have hzb:IsZip hb z TI TO .ellipsis:=sb _ _ D.i1z.symm hza;have hez:e≠z:=fun q=>by subst q;rw[hzb] at hoe;cases hoe;simp at hce
  exact wpAny_setField_rec hzb (by simp) fun hc _ sc=>hE hc e (fun c o c1 _ c3 _ q=>(sc.2 _ c1).trans (sb _ _ c3 ((sa.2 _ c1).trans q))) ⟨oe,(sc.2 _ hez).trans hoe,hce⟩
 | some x =>
  have hy:ys[k2]?=none:=by
   rcases hend with q|q
   ·rw[hx] at q;cases q
   ·exact q
  refine qaa (g7 (s:={ s with heap:=ha}) (h1.at' fun o e=>(sa.2 _ D.i1z).trans e) (hl1.at' fun o e=>(sa.2 _ D.l1z).trans e) hx fun hb h1b sb=>qag ?_);replace sb:Heap.SameBut i1 ha hb:=sb;have TOb:IsPair hb TO a b:=(sb.2 _ D.TOi1).trans ((sa.2 _ D.TOz).trans hTO);refine qaa (wpAny_seqItems TOb rfl ?_);refine qaa (wpAny_updateSeq_pair TOb fun hc TOc sc=>?_);replace sc:Heap.SameBut TO hb hc:=sc;refine qaa (wpAny_letGo (qag ?_));refine qaa (qaa (wpAny_onRaise ?_));show wpAny _ _ (Builtin.SmallTypes.nextOf (.ref i2) >>= _) _ _ _
  refine qaa (ji (s:={ s with heap:=hc}) hh (h2.at' fun o e=>(sc.2 _ D.TOi2.symm).trans ((sb.2 _ D.i12.symm).trans ((sa.2 _ D.i2z).trans e)))
   (hl2.at' fun o e=>(sc.2 _ D.l2TO).trans ((sb.2 _ D.l2i1).trans ((sa.2 _ D.l2z).trans e))) hy fun hd e sd he=>?_)
  obtain⟨oe,hoe,hce⟩:=he;have hzd:IsZip hd z TI TO .ellipsis:=sd _ _ D.i2z.symm ((sc.2 _ D.TOz.symm).trans ((sb.2 _ D.i1z.symm).trans hza));have hez:e≠z:=fun q=>by subst q;rw[hzd] at hoe;cases hoe;simp at hce
  exact wpAny_setField_rec hzd (by simp) fun hf _ sf=>hE hf e (fun c o c1 c2 c3 c4 q=>(sf.2 _ c1).trans (sd _ _ c4 ((sc.2 _ c2).trans ((sb.2 _ c3).trans ((sa.2 _ c1).trans q))))) ⟨oe,(sf.2 _ hez).trans hoe,hce⟩
def zQ(D:ZipApart z TI TO i1 i2 l1 l2)
  (hz:IsZip s.heap z TI TO .none) (hTI:IsPair s.heap TI (.ref i1) (.ref i2)) (hTO:IsPair s.heap TO a b)
  (h1:SqI t1 s.heap i1 l1 k1) (h2:SqI t2 s.heap i2 l2 k2) (hl1:SqO t1 s.heap l1 xs) (hl2:SqO t2 s.heap l2 ys) (hx:xs[k1]?=some x) (hy:ys[k2]?=some y)
  (hQ:∀h',IsZip h' z TI TO (rawInt s.heap.objs.size)->IsPair h' TO x y->SqI t1 h' i1 l1 (k1+1)->SqI t2 h' i2 l2 (k2+1)->IsPair h' s.heap.objs.size x y->h'.objs.size=s.heap.objs.size+1 ->
   (∀c o,c≠z->c≠TO->c≠i1->c≠i2->s.heap.get? c=some o->h'.get? c=some o)->Q (some (.ref s.heap.objs.size)) { s with heap:=h'}) :
  wpAny (model prog w) A (pyNext (.ref z)) Q E s:=by
 have hT:s.TypeIs (.ref z) "zip":=⟨_,hz,rfl⟩;unfold pyNext
 exact qaa (wpAny_attempt (wpAny_callSpecial?_slot (name:=Str.ofString "__next__") hT F.slot_zip_next
  (wpAny_call_entry F.slot_zip_next hT F.entry_zip_next (yt D hz hTI hTO h1 h2 hl1 hl2 hx hy fun h' q1 q2 q3 q4 q5 q6 q7=>qag (hQ h' q1 q2 q3 q4 q5 q6 q7)) (F.args_zip_next_1 _))))
def zip_end(hh:A.handled=none)(D:ZipApart z TI TO i1 i2 l1 l2)
  (hz:IsZip s.heap z TI TO .none) (hTI:IsPair s.heap TI (.ref i1) (.ref i2)) (hTO:IsPair s.heap TO a b)
  (h1:SqI t1 s.heap i1 l1 k1) (h2:SqI t2 s.heap i2 l2 k2) (hl1:SqO t1 s.heap l1 xs) (hl2:SqO t2 s.heap l2 ys) (hend:xs[k1]?=none\/ys[k2]?=none)
  (hQ:∀h',(∀c o,c≠z->c≠TO->c≠i1->c≠i2->s.heap.get? c=some o->h'.get? c=some o)->Q none { s with heap:=h'}):wpAny (model prog w) A (pyNext (.ref z)) Q E s:=by
 have hT:s.TypeIs (.ref z) "zip":=⟨_,hz,rfl⟩;unfold pyNext
 refine qaa (wpAny_attempt (wpAny_callSpecial?_slot (name:=Str.ofString "__next__") hT F.slot_zip_next
  (wpAny_call_entry F.slot_zip_next hT F.entry_zip_next (zL hh D hz hTI hTO h1 h2 hl1 hl2 hend fun h' e hk he=>?_) (F.args_zip_next_1 _))))
 obtain⟨o,ho,hc⟩:=he;refine qaa (wpAny_isInstance (T:="StopIteration") (b:=true) ⟨o,ho,hc⟩ isSubtype_stop ?_);exact qag (hQ _ hk)
end
abbrev zA(t1:Bool)(h:Heap)(l1:Addr):Heap:=h.push { cls:=.type (itN t1),data:=.fields #[.ref l1,.int 0 0]}
abbrev zB(t1 t2:Bool)(h:Heap)(l1 l2:Addr):Heap:=(zA t1 h l1).push { cls:=.type (itN t2),data:=.fields #[.ref l2,.int 0 0]}
abbrev zC(t1 t2:Bool)(h:Heap)(l1 l2:Addr):Heap:=(zB t1 t2 h l1 l2).push { cls:=.type "tuple",data:=.seq #[.ref h.objs.size,.ref (zA t1 h l1).objs.size]}
abbrev zD(t1 t2:Bool)(h:Heap)(l1 l2:Addr):Heap:=(zC t1 t2 h l1 l2).push { cls:=.type "tuple",data:=.seq #[.none,.none]}
abbrev zE(t1 t2:Bool)(h:Heap)(l1 l2:Addr):Heap:=(zD t1 t2 h l1 l2).push { cls:=.type "zip",data:=.fields #[.none,.bool false,.bool false,.ref (zB t1 t2 h l1 l2).objs.size,.ref (zC t1 t2 h l1 l2).objs.size]}
def zip_new(t1 t2:Bool)(l1 l2:Addr)(xs ys:Array Value) :
  Meets (Builtin.«zip.__new__» ⟨[.type "zip",.ref l1,.ref l2],[]⟩) (fun _ R s=>SqO t1 s.heap l1 xs/\SqO t2 s.heap l2 ys/\R (.ok (.ret (.ref (zD t1 t2 s.heap l1 l2).objs.size))) { s with heap:=zE t1 t2 s.heap l1 l2}) :=
 .of_wp fun prog w A R s h=>by
  obtain⟨hp,g,d,tk,os⟩:=s;obtain⟨hl1,hl2,h⟩:=h;have hsub:=sub_zip;have hL1:SqO t1 (Shared.heap ⟨hp,g,d,tk,os⟩) l1 xs:=hl1;have hL2:SqO t2 (Shared.heap ⟨hp.push { cls:=.type (itN t1),data:=.fields #[.ref l1,.int 0 0]},g,d,tk,os⟩) l2 ys:=hl2.at' fun o e=>qab _ e
  wp_walk using iM hL1,iM hL2
  exact⟨_,rfl,h⟩
section
variable {prog:Program} {w:World} {A:Around} {E:Value→Shared→Prop} {s:Shared}
def zv(hl1:SqO t1 s.heap l1 xs)(hl2:SqO t2 s.heap l2 ys)
  (h:∀h',IsZip h' (s.heap.objs.size+4) (s.heap.objs.size+2) (s.heap.objs.size+3) .none->IsPair h' (s.heap.objs.size+2) (.ref s.heap.objs.size) (.ref (s.heap.objs.size+1)) ->
   IsPair h' (s.heap.objs.size+3) .none .none->SqI t1 h' s.heap.objs.size l1 0->SqI t2 h' (s.heap.objs.size+1) l2 0->h'.objs.size=s.heap.objs.size+5 ->
   (∀c o,s.heap.get? c=some o->h'.get? c=some o)->Q (.ref (s.heap.objs.size+4)) { s with heap:=h'}) :
  wpAny (model prog w) A (call (.type "zip") [.ref l1,.ref l2]) Q E s:=by
 refine callType_new F.called_zip (by decide) (F.typeCall_zip_2 _ _) (F.newCall_zip_2 _ _) (fun obj=>F.args_object_init_3 obj _ _) F.entry_zip_new (zip_new t1 t2 l1 l2 xs ys) ⟨hl1,hl2,?_⟩;have z1:(zA t1 s.heap l1).objs.size=s.heap.objs.size+1:=qbb ..;have z2:(zB t1 t2 s.heap l1 l2).objs.size=s.heap.objs.size+2:=by rw[qbb,z1]
 have z3:(zC t1 t2 s.heap l1 l2).objs.size=s.heap.objs.size+3:=by rw[qbb,z2]
 have z4:(zD t1 t2 s.heap l1 l2).objs.size=s.heap.objs.size+4:=by rw[qbb,z3]
 have z5:(zE t1 t2 s.heap l1 l2).objs.size=s.heap.objs.size+5:=by rw[qbb,z4]
 have g5:(zE t1 t2 s.heap l1 l2).get? (zD t1 t2 s.heap l1 l2).objs.size=some _:=qap _ rfl;have g4:(zE t1 t2 s.heap l1 l2).get? (zC t1 t2 s.heap l1 l2).objs.size=some _:=qab _ (qap _ rfl);have g3:(zE t1 t2 s.heap l1 l2).get? (zB t1 t2 s.heap l1 l2).objs.size=some _:=qab _ (qab _ (qap _ rfl));have g2:(zE t1 t2 s.heap l1 l2).get? (zA t1 s.heap l1).objs.size=some _:=qab _ (qab _ (qab _ (qap _ rfl)));have g1:(zE t1 t2 s.heap l1 l2).get? s.heap.objs.size=some _:=qab _ (qab _ (qab _ (qab _ (qap _ rfl))));show _/\_;rw[z2,z3,z4] at g5;rw[z1,z2] at g3;rw[z3] at g4;rw[z1] at g2;rw[z4]
 exact⟨⟨_,g5,rfl⟩,h _ g5 g3 g4 ⟨_,g1,rfl,rfl⟩ ⟨_,g2,rfl,rfl⟩ z5 fun c o x =>
  qab _ (qab _ (qab _ (qab _ (qab _ x))))⟩
end
end SeqT
namespace MM
open PySem PySem.Spec PyProof.Rows L2 SeqT
def SqB(tp:Bool)(K:qac)(H:Hp)(a:Addr)(ys:List V):Prop:=match tp with
 | true=>SqT K H a ys
 | false=>SqL K H a ys
section
variable {X:Cx} {HM:List (Addr × Obj)} {σ:L2.St} {H:Hp} {s:Shared}
def eJ(I:Inv X HM σ H s)(h:SqB tp X.K H a ys):∃its:List Value,ar ys its/\SqO tp s.heap a its.toArray/\ys.length<=sizeLine:=by
 cases tp with
 | true =>
  obtain⟨its,rv,pl,hz⟩:=I.tuple h;exact⟨its,rv,pl,hz⟩
 | false =>
  obtain⟨its,rv,pl,hz⟩:=I.list h;exact⟨its,rv,pl.isList,hz⟩
def oK(I:Inv X HM σ H s)(h:SqB tp X.K H a xs)(h':SqB tp X.K H a ys):xs=ys:=by
 cases tp with
 | true=>exact I.tuple_inj h h'
 | false=>exact I.list_inj h h'
def i9(I:Inv X HM σ H s){h':Heap}{t':Nat}{ch:List Addr}(hf:∀b∈ch,gM X HM H b)(k:∀b o,b∉ch->s.heap.get? b=some o->h'.get? b=some o) :
  Inv X HM σ H { s with heap:=h',toks:=t'}:=by
 have nit:∀b u,H b=some u->b∉ch:=fun b u e z=>by rw[(hf b z).1] at e;cases e
 refine I.step (g':=s.gens) (d':=s.drawn) (ch:=ch) (fun b hb=>?_) (fun b o _ _ hc e _=>k b o hc e) (fun b o _ _ hc e _=>⟨o.slots,k b o hc e⟩) (fun _ _ _ _ n=>n)
  (fun b o hc e=>⟨o,k b o hc e⟩) (fun _ _ e=>e) (fun _ _ _ e=>e) (fun b ps e=>⟨#[],by rw[e];simp⟩) (fun m hm=>?_) (fun b u e=>?_) I.bare
 ·obtain⟨f0,f1,f2,f3,f4,f5⟩:=hf b hb;exact⟨f3,f1,f4,f5⟩
 ·obtain⟨o,es,ep,ho,r⟩:=hm;exact⟨o,es,ep,k _ o (fun z=>(hf _ z).2.1 rfl) ho,r⟩
 ·refine (I.hok b u e).stay (fun c v hc q=>k c v ?_ q) (fun _ q=>q) fun _ _ q=>q;rcases hc with z|z
  ·rw[z];exact nit b u e
  ·exact nit c _ z
def uZ(I:Inv X HM σ H s){h':Heap}{t':Nat}{ch:List Addr}{ys:List V}{its:List Value}(hf:∀b∈ch,gM X HM H b)(rv:ar ys its)(hz:ys.length<=sizeLine)(hch:s.heap.objs.size∉ch)
  (ht:h'.get? s.heap.objs.size=some { cls:=.type "tuple",data:=.seq its.toArray}) (k:∀b o,b∉ch->s.heap.get? b=some o->h'.get? b=some o) :
  Inv X HM σ (upd H s.heap.objs.size (.tup ys)) { s with heap:=h',toks:=t'}/\(∀b∈ch,(upd H s.heap.objs.size (.tup ys)) b=none)/\H s.heap.objs.size=none:=by
 have hfr:=I.hok.fresh (qai s.heap.objs.size);have hne:∀b∈ch,b≠s.heap.objs.size:=fun b hb z=>hch (by rw[<-z];exact hb);have I1:Inv X HM σ (upd H s.heap.objs.size (.tup ys)) { s with heap:=s.heap.push { cls:=.type "tuple",data:=.seq its.toArray},toks:=s.toks} :=
  I.laid (o:=.tup ys) (fun b u q=>qab _ q) (qai _) ⟨hz,its,rv,_,qap _ rfl,rfl,⟨_,rfl⟩,rfl⟩
 have hup:∀b∈ch,(upd H s.heap.objs.size (.tup ys)) b=none:=fun b hb=>by rw[aQ (hne b hb)];exact (hf b hb).1
 refine⟨?_,hup,hfr⟩;refine i9 (t':=t') I1 (ch:=ch) (fun b hb=>⟨hup b hb,(hf b hb).2⟩) fun b o hb e=>?_;by_cases z:b=s.heap.objs.size
 ·subst z;have e':(s.heap.push { cls:=.type "tuple",data:=.seq its.toArray}).get? s.heap.objs.size=some { cls:=.type "tuple",data:=.seq its.toArray}:=qap _ rfl;rw[show ({ s with heap:=s.heap.push { cls:=.type "tuple",data:=.seq its.toArray},toks:=s.toks}:Shared).heap=s.heap.push { cls:=.type "tuple",data:=.seq its.toArray} from rfl,e'] at e;cases e;exact ht
 ·have e':(s.heap.push { cls:=.type "tuple",data:=.seq its.toArray}).get? b=some o:=e;rw[Heap.get?_push_ne _ _ _ z] at e';exact k b o hb e'
end
def Ite(K:qac)(tp:Bool)(a:Addr):It :=
 ⟨fun i H=>∃ys y,SqB tp K H a ys/\ys[i]?=some y,fun i H x H'=>∃p y,H p=none/\x=.ref p/\H'=upd H p (.tup [.int i,y])/\∀ys,SqB tp K H a ys->ys[i]?=some y,fun i H=>∃ys,SqB tp K H a ys/\ys.length<=i⟩
def xM{P:Program}{w:World}{K:qac}{elts:List Expr}{x1:Nat}{pos:Pos}(tp:Bool)(a e it:Addr)(hei:e≠it)(hae:a≠e)(hai:a≠it) :
  Turn P w K (.Tuple elts x1 pos) (Ite K tp a) [e,it] e (fun i h=>(∃old,IsEnum h e it i old)/\SqI tp h it a i) where
 mem:=by simp
 obj:=fun i h st b hb=>by
  obtain⟨⟨old,he⟩,hi⟩:=st
  have:b=e\/b=it:=by simpa using hb
  rcases this with rfl|rfl
  ·exact⟨_,he,fun v z=>nomatch z⟩
  ·obtain⟨o,ho,hc,hd⟩:=hi;exact⟨o,ho,fun v z=>by rw[hd] at z;cases z⟩
 keep:=fun i h h' st k=>let ⟨⟨old,he⟩,hi⟩:=st;⟨⟨old,k e (by simp) _ he⟩,hi.at' fun o q=>k it (by simp) o q⟩
 item:=by
  intro X hP hw hK hc i HM s σ H E I hf st hg;subst hP hw hK;obtain⟨⟨old,he⟩,hi⟩:=st;obtain⟨ys,y,hq,hy⟩:=hg;obtain⟨its,rv,so,hz⟩:=eJ I hq;obtain⟨u,hu,ru⟩:=rv.get hy;have hlt:i<its.toArray.size:=by
   have:=(qad.mp hu).1
   simpa using this
  have hin:(X.A.in1).handled=none:=by have:=I.ok.hd hc;simpa using this
  refine wpAny_pyNext_enum_itemD (draws hin tp it a hai its.toArray) he ⟨hi,so⟩ hlt hei (by simp[hei,Ne.symm hae]) fun x h1 tk hx ho1 st1 ht1 hz1 hk1=>⟨_,rfl,?_⟩;have hxu:x=u:=by
   have:its.toArray[i]?=some u:=by simpa using hu
   rw[this] at hx;exact (Option.some.inj hx).symm
  subst hxu;refine wpAny_letOwnedTupleGo_enum (s:={ s with heap:=h1,toks:=tk+1}) ho1 fun h2 he2 sb2=>?_;replace sb2:Heap.SameBut e h1 h2:=sb2;have hlte:e<s.heap.objs.size:=qal he;have hlti:it<s.heap.objs.size:=hi.lt;obtain⟨I2,hup,hfr⟩:=uZ (t':=tk+1) (h':=h2) I (ch:=[e,it]) (ys:=[.int i,y]) (its:=[.int i tk,x]) hf (.cons ⟨tk,rfl⟩ (.cons ru .nil)) (by rw[sizeLine_eq];show 2<=_;decide)
   (by simp only[qak,qaW,or_false,not_or];exact⟨qaT hlte,qaT hlti⟩)
   ((sb2.2 _ (qaT hlte)).trans ht1)
   (fun b o hb q=>by
    have h1':b≠e:=fun z=>hb (by simp[z]);have h2':b≠it:=fun z=>hb (by simp[z])
    exact (sb2.2 b h1').trans (hk1 b o h1' h2' q))
  refine⟨.ref s.heap.objs.size,_,I2,rfl,⟨_,y,hfr,rfl,rfl,fun zs hzs=>by rw[oK I hzs hq];exact hy⟩,⟨⟨x,by simpa using he2⟩,?_⟩,hup⟩;exact st1.1.at' fun o q=>(sb2.2 it (Ne.symm hei)).trans q
 done:=by
  intro X hP hw hK hc i HM s σ H E I hf st hg;subst hP hw hK;obtain⟨⟨old,he⟩,hi⟩:=st;obtain⟨ys,hq,hy⟩:=hg;obtain⟨its,rv,so,hz⟩:=eJ I hq;have hin:(X.A.in1).handled=none:=by have:=I.ok.hd hc;simpa using this
  have hlen:=rv.length;have hT:s.TypeIs (.ref e) "enumerate":=⟨_,he,rfl⟩;unfold pyNext;refine qaa (wpAny_attempt (wpAny_callSpecial?_slot (name:=Str.ofString "__next__") hT PySem.F.slot_enumerate_next (wpAny_call_entry PySem.F.slot_enumerate_next hT PySem.F.entry_enumerate_next ?_ (PySem.F.args_enumerate_next_1 _))));show wpAny _ _ (field (.ref e) 2 >>= _) _ _ _;refine qaa (wpAny_field he rfl (x:=.ref it) rfl ?_);refine qaa (ji hin hi so (by simp;ext) fun h1 x he' hx'=>?_);obtain⟨o,ho,hcx⟩:=hx';refine qaa (wpAny_isInstance (T:="StopIteration") (b:=true) ⟨o,ho,hcx⟩ isSubtype_stop ?_);refine qag ⟨rfl,i9 (t':=s.toks) I hf fun b o hb q=>he' b o (fun z=>hb (by simp[z])) q⟩
 self:=fun A i s Q E st h=>let ⟨⟨old,he⟩,_⟩:=st;wpAny_pyIter_enum he h
def Itz(K:qac)(t1 t2:Bool)(a b:Addr):It :=
 ⟨fun i H=>∃xs ys x y,SqB t1 K H a xs/\SqB t2 K H b ys/\xs[i]?=some x/\ys[i]?=some y,
   fun i H v H'=>∃p x y,H p=none/\v=.ref p/\H'=upd H p (.tup [x,y])/\(∀xs,SqB t1 K H a xs->xs[i]?=some x)/\∀ys,SqB t2 K H b ys->ys[i]?=some y,
   fun i H=>∃xs ys,SqB t1 K H a xs/\SqB t2 K H b ys/\(xs.length<=i\/ys.length<=i)⟩
def Af{P:Program}{w:World}{K:qac}{elts:List Expr}{x1:Nat}{pos:Pos}(t1 t2:Bool)(a b z TI TO i1 i2:Addr)(D:ZipApart z TI TO i1 i2 a b) :
  Turn P w K (.Tuple elts x1 pos) (Itz K t1 t2 a b) [z,TI,TO,i1,i2] z (fun i h=>IsZip h z TI TO .none/\IsPair h TI (.ref i1) (.ref i2)/\(∃u v,IsPair h TO u v)/\SqI t1 h i1 a i/\SqI t2 h i2 b i) where
 mem:=by simp
 obj:=fun i h st c hc=>by
  obtain⟨hz,hTI,⟨u,v,hTO⟩,⟨o1,e1,_,d1⟩,⟨o2,e2,_,d2⟩⟩:=st
  have:c=z\/c=TI\/c=TO\/c=i1\/c=i2:=by simpa using hc
  rcases this with rfl|rfl|rfl|rfl|rfl
  ·exact⟨_,hz,fun v z=>nomatch z⟩
  ·exact⟨_,hTI,fun v z=>nomatch z⟩
  ·exact⟨_,hTO,fun v z=>nomatch z⟩
  ·exact⟨o1,e1,fun v z=>by rw[d1] at z;cases z⟩
  ·exact⟨o2,e2,fun v z=>by rw[d2] at z;cases z⟩
 keep:=fun i h h' st k=>let ⟨hz,hTI,⟨u,v,hTO⟩,h1,h2⟩:=st
  ⟨k z (by simp) _ hz,k TI (by simp) _ hTI,⟨u,v,k TO (by simp) _ hTO⟩,h1.at' fun o q=>k i1 (by simp) o q,h2.at' fun o q=>k i2 (by simp) o q⟩
 item:=by
  intro X hP hw hK hc i HM s σ H E I hf st hg;subst hP hw hK;obtain⟨hz,hTI,⟨u,v,hTO⟩,h1,h2⟩:=st;obtain⟨xs,ys,x,y,hq1,hq2,hx,hy⟩:=hg;obtain⟨its1,rv1,so1,hz1⟩:=eJ I hq1;obtain⟨its2,rv2,so2,hz2⟩:=eJ I hq2;obtain⟨u1,hu1,ru1⟩:=rv1.get hx;obtain⟨u2,hu2,ru2⟩:=rv2.get hy;refine zQ D hz hTI hTO h1 h2 so1 so2 (x:=u1) (y:=u2) (by simpa using hu1) (by simpa using hu2) fun ha hza hTOa h1a h2a hTa hsa hka=>⟨_,rfl,?_⟩;refine wpAny_letOwnedTupleGo_zip (s:={ s with heap:=ha}) hza fun hb hzb sb=>?_;replace sb:Heap.SameBut z ha hb:=sb;have l1:z<s.heap.objs.size:=qal hz;have l2:TI<s.heap.objs.size:=qal hTI;have l3:TO<s.heap.objs.size:=qal hTO;have l4:i1<s.heap.objs.size:=h1.lt;have l5:i2<s.heap.objs.size:=h2.lt;have up:∀c o,c≠z->ha.get? c=some o->hb.get? c=some o:=fun c o hc q=>(sb.2 c hc).trans q;obtain⟨I2,hup,hfr⟩:=uZ (t':=s.toks) (h':=hb) I (ch:=[z,TI,TO,i1,i2]) (ys:=[x,y]) (its:=[u1,u2]) hf (.cons ru1 (.cons ru2 .nil)) (by rw[sizeLine_eq];show 2<=_;decide)
   (by simp only[qak,qaW,or_false,not_or];exact⟨qaT l1,qaT l2,qaT l3,qaT l4,qaT l5⟩)
   (up _ _ (qaT l1) hTa)
   (fun c o hc q=>up c o (fun e=>hc (by simp[e])) (hka c o (fun e=>hc (by simp[e])) (fun e=>hc (by simp[e])) (fun e=>hc (by simp[e])) (fun e=>hc (by simp[e])) q))
  refine⟨.ref s.heap.objs.size,_,I2,rfl,⟨_,x,y,hfr,rfl,rfl,fun zs hzs=>by rw[oK I hzs hq1];exact hx,fun zs hzs=>by rw[oK I hzs hq2];exact hy⟩,⟨hzb,?_,⟨_,_,up _ _ D.TOz hTOa⟩,h1a.at' fun o q=>up _ o D.i1z q,h2a.at' fun o q=>up _ o D.i2z q⟩,hup⟩;exact up _ _ D.TIz (hka _ _ D.TIz D.TITO D.TIi1 D.TIi2 hTI)
 done:=by
  intro X hP hw hK hc i HM s σ H E I hf st hg;subst hP hw hK;obtain⟨hz,hTI,⟨u,v,hTO⟩,h1,h2⟩:=st;obtain⟨xs,ys,hq1,hq2,hend⟩:=hg;obtain⟨its1,rv1,so1,hz1⟩:=eJ I hq1;obtain⟨its2,rv2,so2,hz2⟩:=eJ I hq2;have e1:=rv1.length;have e2:=rv2.length;have hT:s.TypeIs (.ref z) "zip":=⟨_,hz,rfl⟩;have hin:(X.A.in1).handled=none:=by have:=I.ok.hd hc;simpa using this
  refine zip_end (I.ok.hd hc) D hz hTI hTO h1 h2 so1 so2 ?_ fun h' hk=>⟨rfl,i9 (t':=s.toks) I hf fun c o hc q=>hk c o (fun e=>hc (by simp[e])) (fun e=>hc (by simp[e])) (fun e=>hc (by simp[e])) (fun e=>hc (by simp[e])) q⟩;rcases hend with q|q
  ·exact .inl (by simp;ext)
  ·exact .inr (by simp;ext)
 self:=fun A i s Q E st h=>wpAny_pyIter_zip st.1 h
def bK(v:PV)(h:MH):Option (Bool × List PV × List (Nat × List PV)):=match v with
 | .loc n=>(match h[n]? with
  | some (.lst xs)=>some (false,xs,[(n,xs)])
  | _=>none)
 | .frl xs=>some (false,xs,[])
 | .tup xs=>some (true,xs,[])
 | _=>none
def tJ{X:Cx}{ρ:List Addr}{H:Hp}{h:MH}{x:PV}{y:V}{tp:Bool}{xs:List PV}{gd:List (Nat × List PV)}(rh:RH X.K X.mg ρ H h)(r:RP X.K ρ H x y)(e:bK x h=some (tp,xs,gd)) :
  ∃a,y=.ref a/\(∃ys,SqB tp X.K H a ys)/\∀ρ' H' h',Le ρ H ρ' H'->RH X.K X.mg ρ' H' h'->(∀p∈gd,h'[p.1]?=some (.lst p.2))->∃ys,SqB tp X.K H' a ys/\RPs X.K ρ' H' xs ys:=by
 cases r with
 | frl s r=>cases e;exact⟨_,rfl,⟨_,s.sq⟩,fun ρ' H' h' l _ _=>⟨_,(l.sqf s).sq,r.le l⟩⟩
 | tup s r=>cases e;exact⟨_,rfl,⟨_,s⟩,fun ρ' H' h' l _ _=>⟨_,l.sqt s,r.le l⟩⟩
 | @loc n a en =>
  obtain⟨o,eo,ro⟩:=rh.obj en;unfold bK at e;dsimp only at e;rw[eo] at e
  cases o with
  | lst zs =>
   cases e;obtain⟨ys,ey,ry⟩:=ro;refine⟨a,rfl,⟨ys,SqL.of ey⟩,fun ρ' H' h' l rh' ok=>?_⟩;obtain⟨ys',ey',ry'⟩:=rh'.at' n a _ (l.get en) (ok (n,xs) (by simp));exact⟨ys',SqL.of ey',ry'⟩
  | _=>cases e
 | _=>cases e
def ib(xs:List PV):List PV:=xs.zipIdx.map fun p=>.tup [.int (p.2:Int),p.1]
def gN(xs ys:List PV):List PV:=(xs.zip ys).map fun p=>.tup [p.1,p.2]
def yz{xs:List PV}{i:Nat}{x:PV}(h:xs[i]?=some x):(ib xs)[i]?=some (.tup [.int (i:Int),x]):=by
 unfold ib;rw[qaw,List.getElem?_zipIdx,h];simp
def qq(xs:List PV):(ib xs).length=xs.length:=by simp[ib]
def tW(xs ys:List PV):(gN xs ys).length=min xs.length ys.length:=by simp[gN]
def yO{xs ys:List PV}{i:Nat}{x y:PV}(h1:xs[i]?=some x)(h2:ys[i]?=some y):(gN xs ys)[i]?=some (.tup [x,y]):=by
 unfold gN;rw[qaw]
 have:(xs.zip ys)[i]?=some (x,y):=by rw[List.getElem?_zip_eq_some];exact⟨h1,h2⟩
 rw[this];rfl
def mItE(m:Mx (List PV)):Mx MIt:=fun σ h=>(m σ h).bind fun vs h1=>match vs with
 | [x]=>(match bK x h1 with
  | some (_,xs,gd)=>.ok ⟨ib xs,gd⟩ h1
  | none=>.bad)
 | _=>.bad
def mItZ(m:Mx (List PV)):Mx MIt:=fun σ h=>(m σ h).bind fun vs h1=>match vs with
 | [x,y]=>(match bK x h1,bK y h1 with
  | some (_,xs,g1),some (_,ys,g2)=>.ok ⟨gN xs ys,g1++g2⟩ h1
  | _,_=>.bad)
 | _=>.bad
section
variable {X:Cx} {N W G:List Str} {k:Nat}
def mi_enum(g:Good X N W G k){elts:List Expr}{x1:Nat}{tp:Pos}{a:Expr}{m:Mx (List PV)}{p pos:Pos}{j:Nat}(hj:G[j]?=some "enumerate")(hm:X.mg "enumerate"=none)(ha:MA X [a] m)
  (hs:starEach [a] X.env=[(false,eval a X.env)]:=by rfl):MI X (.Tuple elts x1 tp) (.Call (.Name "enumerate" p) [a] [] pos) (mItE m):=by
 have d:=g.dbg _ (qaj _ (az hj));intro HM s σ H R I ⟨ρ,σp,h,rs,rh,q⟩;refine wpAny_Call_Name_kw (iD I (g.gl _ (az hj)) hm PyProof.Rows.Boot.«enumerate» ?_ d.2.2 d.1)
 refine PyProof.Rows.callWith_type1 (thn (ha pos HM s σ H (fun vs H1=>∃ρ1 h1 xs,Le ρ H ρ1 H1/\RH X.K X.mg ρ1 H1 h1/\RPs X.K ρ1 H1 xs vs/\Ful X (oV X) σp ρ1 H1 ((match xs with
   | [x]=>(match bK x h1 with | some (_,xs,gd)=>.ok ⟨ib xs,gd⟩ h1 | none=>.bad)
   | _=>.bad:Out MIt)) R) I ⟨ρ,σp,h,rs,rh,Ful.bind q fun ρ1 H1 v v' h1 _ l1 rh1 rv q1=>⟨ρ1,h1,v,l1,rh1,rv,q1⟩⟩) fun us s1 ⟨vs,H1,I1,r1,ρ1,h1,xs,l1,rh1,rv,q1⟩=>?_) hs rfl
 cases rv with
 | nil=>exact q1.elim
 | @cons y y' ys ys' ry t1 =>
  cases t1 with
  | cons _ _=>exact q1.elim
  | nil =>
   dsimp only at q1
   cases hsq:bK y h1 with
   | none=>rw[hsq] at q1;exact q1.elim
   | some z =>
    obtain⟨b,zs,gd⟩:=z;rw[hsq] at q1;obtain⟨ad,rfl,⟨ws,hws⟩,rel⟩:=tJ rh1 ry hsq;obtain⟨u,rfl,rx⟩:=dM r1;cases rx;obtain⟨its,rvv,so,hz⟩:=eJ I1 hws;refine xD so fun h' he hi hsz hk=>?_;have hT:Shared.TypeIs { s1 with heap:=h'} (.ref (s1.heap.objs.size+1)) "enumerate":=⟨_,he,rfl⟩;refine wpAny_pyIter_enum he ?_;have I2:Inv X HM σ H1 { s1 with heap:=h',toks:=s1.toks}:=I1.kept hk;obtain⟨oa,hoa,hca,_⟩:=id so;have hlt:ad<s1.heap.objs.size:=qal hoa;have hfr0:=I1.hok.fresh (qai s1.heap.objs.size);have hfr1:=I1.hok.fresh (qbY s1.heap.objs.size);refine⟨s1.heap.objs.size+1,_,_,_,H1,rfl,I2,xM b ad _ s1.heap.objs.size (qaT (qbL _)) (qaF (qbH hlt)) (qaF hlt),⟨⟨_,he⟩,hi⟩,fun c hc=>?_,?_⟩
    ·have:c=s1.heap.objs.size+1\/c=s1.heap.objs.size:=by simpa using hc
     rcases this with rfl|rfl
     ·have F:=Inv.fpOk I1 (H':=H1) (b:=s1.heap.objs.size+1) (qbY _) hfr1;exact F
     ·exact Inv.fpOk I1 (H':=H1) (qai _) hfr0
    ·refine q1 ρ1 H1 _ (Le.refl _ _) rh1 ?_;intro ρ' H' h2 i l rh' ok;obtain⟨ws',hws',rws⟩:=rel ρ' H' h2 l rh' ok;refine⟨fun hi'=>?_,fun hi'=>⟨ws',hws',by rw[<-rws.length];rw[qq] at hi';exact hi'⟩⟩;rw[qq] at hi';have hx:zs[i]?=some (zs[i]'hi'):=qas hi';obtain⟨w',ew,rw'⟩:=rws.get hx;refine⟨⟨ws',w',hws',ew⟩,fun x' H3 ⟨pp,y2,hp,e1,e2,hall⟩=>?_⟩;subst e1;subst e2;have ey:y2=w':=by
      have:=hall ws' hws'
      rw[ew] at this;exact (Option.some.inj this).symm
     subst ey;obtain⟨rh3,l3⟩:=rh'.tup hp [.int i,y2];exact⟨ρ',_,l3,rh3,yz hx,.tup (SqT.of bB) (.cons (.int _) (.cons (rw'.le l3) .nil))⟩
def mi_zip(g:Good X N W G k){elts:List Expr}{x1:Nat}{tp:Pos}{a b:Expr}{m:Mx (List PV)}{p pos:Pos}{j:Nat}(hj:G[j]?=some "zip")(hm:X.mg "zip"=none)(ha:MA X [a,b] m)
  (hs:starEach [a,b] X.env=(false,eval a X.env)::starEach [b] X.env:=by rfl) (hpl:(backTo pos (starEach [b] X.env)).any (·.1)=false:=by rfl):MI X (.Tuple elts x1 tp) (.Call (.Name "zip" p) [a,b] [] pos) (mItZ m):=by
 have d:=g.dbg _ (qaj _ (az hj));intro HM s σ H R I ⟨ρ,σp,h,rs,rh,q⟩;refine wpAny_Call_Name_kw (iD I (g.gl _ (az hj)) hm PyProof.Rows.Boot.«zip» ?_ d.2.2 d.1)
 refine PyProof.Rows.callWith_type1 (thn (ha pos HM s σ H (fun vs H1=>∃ρ1 h1 xs,Le ρ H ρ1 H1/\RH X.K X.mg ρ1 H1 h1/\RPs X.K ρ1 H1 xs vs/\Ful X (oV X) σp ρ1 H1 ((match xs with
   | [x,y]=>(match bK x h1,bK y h1 with | some (_,xs,g1),some (_,ys,g2)=>.ok ⟨gN xs ys,g1++g2⟩ h1 | _,_=>.bad)
   | _=>.bad:Out MIt)) R) I ⟨ρ,σp,h,rs,rh,Ful.bind q fun ρ1 H1 v v' h1 _ l1 rh1 rv q1=>⟨ρ1,h1,v,l1,rh1,rv,q1⟩⟩) fun us s1 ⟨vs,H1,I1,r1,ρ1,h1,xs,l1,rh1,rv,q1⟩=>?_) hs hpl
 cases rv with
 | nil=>exact q1.elim
 | @cons y y' ys ys' ry t1 =>
  cases t1 with
  | nil=>exact q1.elim
  | @cons v v' vs2 vs2' rv t2 =>
   cases t2 with
   | cons _ _=>exact q1.elim
   | nil =>
    dsimp only at q1
    cases hsq:bK y h1 with
    | none=>rw[hsq] at q1;exact q1.elim
    | some z =>
     obtain⟨b1,zs1,gd1⟩:=z
     cases hsq2:bK v h1 with
     | none=>rw[hsq,hsq2] at q1;exact q1.elim
     | some z2 =>
      obtain⟨b2,zs2,gd2⟩:=z2;rw[hsq,hsq2] at q1;obtain⟨ad1,rfl,⟨ws1,hws1⟩,rel1⟩:=tJ rh1 ry hsq;obtain⟨ad2,rfl,⟨ws2,hws2⟩,rel2⟩:=tJ rh1 rv hsq2
      cases r1 with
      | @cons _ u1 _ us1 ru1 tu1 =>
       cases tu1 with
       | @cons _ u2 _ us2 ru2 tu2 =>
        cases tu2;cases ru1;cases ru2;obtain⟨its1,rvv1,so1,hz1⟩:=eJ I1 hws1;obtain⟨its2,rvv2,so2,hz2⟩:=eJ I1 hws2;refine zv so1 so2 fun h' hz hTI hTO hi1 hi2 hsz hk=>?_;refine wpAny_pyIter_zip hz ?_;have I2:Inv X HM σ H1 { s1 with heap:=h',toks:=s1.toks}:=I1.kept hk;obtain⟨oa1,hoa1,_,_⟩:=id so1;obtain⟨oa2,hoa2,_,_⟩:=id so2;have lt1:ad1<s1.heap.objs.size:=qal hoa1;have lt2:ad2<s1.heap.objs.size:=qal hoa2;have sN:∀(n:Nat),s1.heap.objs.size<=s1.heap.objs.size+n:=fun n=>qcE _ _;have ap:∀(c:Addr) (n:Nat),c<s1.heap.objs.size->c≠s1.heap.objs.size+n:=fun c n hc=>qaF (qaz hc (sN n));have ne':∀(m n:Nat),m≠n->s1.heap.objs.size+m≠s1.heap.objs.size+n:=fun m n hmn e=>hmn (Nat.add_left_cancel e);have D:ZipApart (s1.heap.objs.size+4) (s1.heap.objs.size+2) (s1.heap.objs.size+3) s1.heap.objs.size (s1.heap.objs.size+1) ad1 ad2 :=
         ⟨ne' 2 4 (by decide),ne' 3 4 (by decide),ne' 0 4 (by decide),ne' 1 4 (by decide),ne' 2 3 (by decide),ne' 2 0 (by decide),ne' 2 1 (by decide),ne' 3 0 (by decide),ne' 3 1 (by decide),ne' 0 1 (by decide),
          ap ad1 4 lt1,ap ad1 3 lt1,ap ad1 0 lt1,ap ad1 1 lt1,ap ad2 4 lt2,ap ad2 3 lt2,ap ad2 0 lt2,ap ad2 1 lt2⟩
        refine⟨s1.heap.objs.size+4,_,_,_,H1,rfl,I2,Af b1 b2 ad1 ad2 _ _ _ _ _ D,⟨hz,hTI,⟨_,_,hTO⟩,hi1,hi2⟩,fun c hc=>?_,?_⟩
        ·have F:∀n:Nat,gM X HM H1 (s1.heap.objs.size+n):=fun n=>Inv.fpOk I1 (H':=H1) (sN n) (I1.hok.fresh (sN n))
         have:c=s1.heap.objs.size+4\/c=s1.heap.objs.size+2\/c=s1.heap.objs.size+3\/c=s1.heap.objs.size\/c=s1.heap.objs.size+1:=by simpa using hc
         rcases this with rfl|rfl|rfl|rfl|rfl
         ·exact F 4
         ·exact F 2
         ·exact F 3
         ·exact F 0
         ·exact F 1
        ·refine q1 ρ1 H1 _ (Le.refl _ _) rh1 ?_;intro ρ' H' h2 i l rh' ok;obtain⟨ws1',hws1',rws1⟩:=rel1 ρ' H' h2 l rh' (fun p hp=>ok p (qaG _ hp));obtain⟨ws2',hws2',rws2⟩:=rel2 ρ' H' h2 l rh' (fun p hp=>ok p (qaj _ hp));refine⟨fun hi'=>?_,fun hi'=>⟨ws1',ws2',hws1',hws2',?_⟩⟩
         ·rw[tW] at hi';have hx1:zs1[i]?=some (zs1[i]'(by ext)):=qas (by ext);have hx2:zs2[i]?=some (zs2[i]'(by ext)):=qas (by ext);obtain⟨w1,ew1,rw1⟩:=rws1.get hx1;obtain⟨w2,ew2,rw2⟩:=rws2.get hx2;refine⟨⟨ws1',ws2',w1,w2,hws1',hws2',ew1,ew2⟩,fun x' H3 ⟨pp,y1,y2,hp,e1,e2,hall1,hall2⟩=>?_⟩;subst e1;subst e2;have ey1:y1=w1:=by
           have:=hall1 ws1' hws1'
           rw[ew1] at this;exact (Option.some.inj this).symm
          have ey2:y2=w2:=by
           have:=hall2 ws2' hws2'
           rw[ew2] at this;exact (Option.some.inj this).symm
          subst ey1;subst ey2;obtain⟨rh3,l3⟩:=rh'.tup hp [y1,y2];exact⟨ρ',_,l3,rh3,yO hx1 hx2,.tup (SqT.of bB) (.cons (rw1.le l3) (.cons (rw2.le l3) .nil))⟩
         ·rw[tW] at hi';have a1:=rws1.length;have a2:=rws2.length;ext
end
end MM
namespace MM
open PySem PySem.Spec PyProof.Rows L2 SetT SortT
def fJ:List PV->Option (List Int)
 | []=>some []
 | .int i::r=>(fJ r).map (i::·)
 | _=>none
def fL(l:List Int):List Int:=l.mergeSort fun a b=>decide (a<=b)
def ku(l:List Int):(fL l).Perm l:=List.mergeSort_perm _ _
def yQ(l:List Int):(fL l).Pairwise (·<=·):=by
 have:=qcA (le:=fun a b:Int=>decide (a<=b)) (l:=l) (fun a b c h1 h2=>by
   simp only[decide_eq_true_eq] at h1 h2 ⊢;lia) (fun a b=>by
   simp only[Bool.or_eq_true,decide_eq_true_eq];lia)
 unfold fL;exact this.imp fun {a b} h=>by simpa using h
def ux{l m:List Int}(h1:l.Pairwise (·<=·))(h2:m.Pairwise (·<=·))(p:l.Perm m):l=m :=
 List.Perm.eq_of_pairwise (fun a b _ _ x y=>by lia) h1 h2 p
def o6:∀{xs:List PV} {k:List Int},fJ xs=some k->xs=k.map .int
 | [],k,h=>by cases h;rfl
 | x::r,k,h=>by
  cases x with
  | int i =>
   unfold fJ at h
   cases hr:fJ r with
   | none=>rw[hr] at h;cases h
   | some kr =>
    rw[hr] at h;cases h;rw[o6 hr];rfl
  | _=>cases h
def fSorted(xs:List PV)(h:MH):Out PV:=match xs with
 | [x]=>(match cq h x with
  | some ys=>(match fJ ys with
   | some ns=>if ns.length<64 then .ok (.loc h.length) (h++[.lst ((fL ns).map .int)]) else .bad
   | none=>(match gK ys with
    | some ks=>if (∀k∈ks,k≠[])/\ks.length<=66 then .ok (.loc h.length) (h++[.lst ((bH ks).map kP)]) else .bad
    | none=>.bad))
  | none=>.bad)
 | _=>.bad
def sU:∀{ns:List Int} {its:List Value},ar (ns.map V.int) its->IntsAre its ns
 | [],_,h=>by cases h;exact .nil
 | i::k,_,h=>by
  cases h with
  | cons r t =>
   obtain⟨tk,rfl⟩:=r;exact .cons i tk (sU t)
def mM:∀{ns:List Int} {its:List Value},IntsAre its ns->ar (ns.map V.int) its
 | _,_,.nil=>.nil
 | _,_,.cons n t h=>.cons ⟨t,rfl⟩ (mM h)
section
variable {X:Cx} {N W G:List Str} {k:Nat}
def sX:bQ X (.builtin "sorted") (fun xs H Q=>∃l ns,xs=[.ref l]/\SqL X.K H l (ns.map V.int)/\ns.length<64/\∀l',H l'=none->Q (.ref l') (upd H l' (.lst ((fL ns).map V.int)))):=by
 intro HM s σ H xs us Q I r ⟨l,ns,e,hq,hz,q⟩;subst e;obtain⟨u,rfl,rx⟩:=dM r;cases rx;obtain⟨its,rv,pl,hz2⟩:=I.list hq;have hlen:=rv.length;rw[qaB] at hlen;refine sorted_ints pl.isList (sU rv) (by lia) fun out ns' h1 h2 h3=>?_;have e:ns'=fL ns:=ux h3 (yQ ns) (h2.trans (ku ns).symm);subst e;have hsz:((s.heap.push (seqObj "list" #[] 0)).update s.heap.objs.size (Obj.mapSeq (·++its.toArray))).objs.size=s.heap.objs.size+1:=by rw[qcG,size_push']
 have hoL:(((s.heap.push (seqObj "list" #[] 0)).update s.heap.objs.size (Obj.mapSeq (·++its.toArray))).push (seqObj "list" its.toArray 0)).get? (s.heap.objs.size+1)=some (seqObj "list" its.toArray 0):=by
  rw[<-hsz];exact qap _ rfl
 obtain⟨c,hc⟩:=eG (vs:=its) hoL out;have hlo:out.toList.length=ns.length:=by
  have a1:=(mM h1).length;rw[qaB,(ku ns).length_eq] at a1;exact a1.symm
 refine⟨.ref (s.heap.objs.size+1),_,I.laid (o:=.lst ((fL ns).map V.int)) (t':=s.toks) (fun b o hb=>?_) (qbY _) (show ObjOk X.prog X.w _ _ _ (.lst _) from⟨?_,out.toList,c,mM h1,?_⟩),rfl,q _ (I.hok.fresh (qbY _))⟩
 ·have hlt:b<s.heap.objs.size:=qal hb;unfold sortedAll;refine d3 (qaF (qbH hlt)) ?_ _;refine qab _ ?_;rw[qbp _ _ _ _ (qaF hlt)];exact qab _ hb
 ·rw[qaB,(ku ns).length_eq,sizeLine_eq];lia
 ·unfold sortedAll;rw[hc]
def xh:cp X (.builtin "sorted") fSorted:=by
 intro HM s σ H xs us Q I r ⟨ρ,h,ps,rh,rp,q⟩
 cases rp with
 | nil=>exact q.elim
 | @cons x y _ _ r1 t1 =>
  cases t1 with
  | cons _ _=>exact q.elim
  | nil =>
   unfold fSorted at q;dsimp only at q
   cases hl:cq h x with
   | none=>rw[hl] at q;exact q.elim
   | some zs =>
    rw[hl] at q;dsimp only at q;obtain⟨la,ys,rfl,hsq,rzs⟩:=oM rh r1 hl
    cases hi:fJ zs with
    | some ns =>
     rw[hi] at q;dsimp only at q;by_cases z:ns.length<64
     ·rw[qah z] at q;rw[o6 hi] at rzs;rw[vints rzs] at hsq;refine sX HM s σ H _ us Q I r ⟨la,ns,rfl,hsq,z,fun l hl2=>?_⟩;obtain⟨rh3,l3⟩:=rh.new hl2 (o:=.lst ((fL ns).map .int)) (ho:=.lst ((fL ns).map V.int)) ⟨_,rfl,RPs.ints _⟩;exact q _ _ _ l3 rh3 (.loc (by rw[<-rh.len];simp))
     ·rw[qan z] at q;exact q.elim
    | none =>
     rw[hi] at q;dsimp only at q
     cases hk:gK zs with
     | none=>rw[hk] at q;exact q.elim
     | some ks =>
      rw[hk] at q;dsimp only at q;by_cases z:(∀k∈ks,k≠[])/\ks.length<=66
      ·rw[qah z] at q;rw[oU hk] at rzs;refine s0 HM s σ H _ us Q I r ⟨la,ys,ks,rfl,hsq,o9 rzs,z.1,z.2,fun l ys' hl2 tk=>?_⟩;obtain⟨rh3,l3⟩:=rh.new hl2 (o:=.lst ((bH ks).map kP)) (ho:=.lst ys') ⟨_,rfl,oS tk⟩;exact q _ _ _ l3 rh3 (.loc (by rw[<-rh.len];simp))
      ·rw[qan z] at q;exact q.elim
end
def mss_bad:MSs X b (fun _ _=>.bad):=fun HM s σ H D I ⟨ρ,σp,h,rs,rh,q⟩=>q.elim
end MM
namespace MM
open PySem PySem.Spec PyProof.Rows L2
local instance (priority:=1) cdec26 (p:Prop):Decidable p:=Classical.propDecidable p
def vm(I:Nat->PSt->MH->Prop):∀(xs:List PV) (j:Nat) (σ:PSt) (h:MH),I j σ h->(∀j σ h,I j σ h->it.ok h) ->
  (∀m σ h x,I (j+m) σ h->xs[m]?=some x->∃σ1 h1 σ' h',g x σ h=.nx σ1 h1/\b σ1 h1=.nx σ' h'/\I (j+m+1) σ' h') ->
  ∃σ' h',mGo it g b xs σ h=.nx σ' h'/\I (j+xs.length) σ' h'
 | [],j,σ,h,hI,hok,_=>⟨σ,h,mGo_nil (hok _ _ _ hI),hI⟩
 | x::r,j,σ,h,hI,hok,st=>by
  obtain⟨σ1,h1,σ2,h2,e1,e2,I1⟩:=st 0 σ h x hI rfl;obtain⟨σ3,h3,e3,I3⟩:=vm I r (j+1) σ2 h2 I1 hok fun m σ' h' y q z=>by
   have:=st (m+1) σ' h' y (by rw[show j+(m+1)=j+1+m by lia];exact q) (by simpa using z)
   rw[show j+(m+1)+1=j+1+m+1 by lia] at this;exact this
  refine⟨σ3,h3,?_,by rw[qbj,show j+(r.length+1)=j+1+r.length by lia];exact I3⟩;rw[y9 (hok _ _ _ hI) e1,e2];exact e3
end MM
namespace MM
open PySem PySem.Spec PyProof.Rows L2 SetT SortT
section
variable {h:MH} {i:Int} {xs:List PV} {n:Nat}
def yf(e:h[n]?=some (.lst xs)):aX h (.loc n)=some xs:=by simp[aX,e]
def wm(e:h[n]?=some (.lst xs))(hl:xs.length<1000):b9 n [v] h=.ok .non (h.set n (.lst (xs++[v]))):=by
 have z:1000<=sizeLine:=by decide
 simp only[b9,e];rw[qah (by lia)]
def mMt_loc(em:m σ h=.ok (.loc n) h1)(e:h1[n]?=some (.lst xs)):mMt f m ma σ h=(ma σ h1).bind fun vs h2=>(f n vs h2).ne:=by
 rw[mMt_ap,em];simp[e]
def sA:∀(m:Nat),i7 (List.replicate m (.bl true))=some (List.replicate m true)
 | 0=>rfl
 | m+1=>by
  rw[qaS,qaS];unfold i7;rw[sA m];rfl
def xx(e:h[n]?=some (.lst (List.replicate m (.bl true)))):fAll [.loc n] h=.ok (.bl true) h:=by
 simp[fAll,yf e,sA]
end
def itR1'(em:m σ h=.ok [.int j] h1)(z:-(2 ^ 62)<=j/\j<2 ^ 62):cW m σ h=.ok ⟨bg 0 j.toNat,[]⟩ h1:=by
 rw[Ag,em];simp only[Out.bind_ok];rw[qah z]
def itR1(em:m σ h=.ok [.int (n:Int)] h1)(hn:n<=100000):cW m σ h=.ok ⟨bg 0 n,[]⟩ h1:=by
 have z1:-(2 ^ 62)<=(n:Int):=Int.le_trans (by decide) (Int.natCast_nonneg n);have z2:(n:Int)<2 ^ 62:=Int.lt_of_le_of_lt (Int.ofNat_le.mpr hn) (by decide)
 have:=itR1' em ⟨z1,z2⟩
 rwa [qbg] at this
def int_mk{K:qac}{n:Str}{i:Int}{t:Nat}(e:PySem.W.nsIn K mainGlobals n=some (some (.int i t))):∃t,PySem.W.nsIn K mainGlobals n=some (some (.int i t)):=⟨t,e⟩
def mG:∀(k:List Int),PyData.canLayAll0 (k.map .int)=true/\PyData.depthAll (k.map .int)<=1
 | []=>⟨rfl,by simp[PyData.depthAll]⟩
 | i::k=>by
  obtain⟨a,b⟩:=mG k;constructor
  ·simp[PyData.canLayAll0,PyData.canLay0,a]
  ·simp only[qau,PyData.depthAll,PyData.depth];lia
def qS:∀(ks:List (List Int)),PyData.canLayAll0 (ks.map fun k=>.tuple (k.map .int))=true/\PyData.depthAll (ks.map fun k=>.tuple (k.map .int))<=2
 | []=>⟨rfl,by simp[PyData.depthAll]⟩
 | k::ks=>by
  obtain⟨a,b⟩:=qS ks;obtain⟨c,d⟩:=mG k;constructor
  ·simp[PyData.canLayAll0,PyData.canLay0,a,c]
  ·simp only[qau,PyData.depthAll,PyData.depth];lia
end MM
namespace MM
open PySem PySem.Spec PyProof.Rows L2
local instance (priority:=1) cdec28 (p:Prop):Decidable p:=Classical.propDecidable p
section
variable {X:Cx} {N W G:List Str} {k:Nat}
end
end MM
namespace MM
open PySem PySem.Spec PyProof.Rows L2 PySem.W
local instance (priority:=1) cdec29 (p:Prop):Decidable p:=Classical.propDecidable p
section
variable {X:Cx}
end
end MM
namespace MM
open PySem PySem.Spec PyProof.Rows L2
section
variable {X:Cx} {o e:Expr} {es:List Expr} {name:Str} {apos cpos:Pos} {id:String} {f:Str→List PV→MH→Out PV} {m:Mx PV} {ma:Mx (List PV)}
end
end MM
namespace DcT
open PySem PyProof.Rows
section
variable {prog:Program} {w:World} {A:Around} {E:Value→Shared→Prop} {s:Shared}
def vA:typeLookup (.type "tuple") "keys"=pure none:=by rw[typeLookup_type,builtinLookup_eq_fast];kernel_rfl
def xZ(hx:s.heap.get? a=some o)(hc:o.cls=.type "tuple")(hdat:o.data=.seq xs k)(hd:o.dict=none)(hA:A.handled=none)
  (h:∀h' tk e,Heap.NewExcOf s.heap h' e "AttributeError"->Q none { s with heap:=h',toks:=tk}):wpAny (model prog w) A (getAttr? (.ref a) "keys") Q E s:=by
 obtain⟨c,dct,dat,sl⟩:=o;simp only at hc hdat hd;subst hc hdat hd;obtain⟨hp,g,d,tk,os⟩:=s;have hT:∀tk',(⟨hp,g,d,tk',os⟩:Shared).TypeIs (.ref a) "tuple":=fun _=>⟨_,hx,rfl⟩;have f1:=sub_AttributeError;have f3:=F.slot_tuple_getattribute.lookup;have f4:=F.slot_tuple_getattribute.bind (.ref a);have f5:=am_tuple_getattr_none;unfold getAttr? getAttrBy? getAttrBy
 repeat (any_goals (first | assumption | exact hT _ | ((with_reducible show wpAny _ _ (call (Value.builtin "tuple.__getattribute__") _ _) _ _ _);refine call_meets F.slot_tuple_getattribute (hT _) am_entry_tuple_getattribute (F.args_tuple_getattribute_2 _ _) (meets_getattribute_miss_tuple a xs k sl "keys" _ vA (by decide +kernel) (by decide)) ⟨hx,hA,fun h' tk' e hx'=>?_⟩)|wp_step))
 obtain⟨t',u',he⟩:=hx'.there;show wpAny _ _ (getattributeRaised _ _ _ _ _ _ _) _ _ _;unfold getattributeRaised
 repeat (any_goals (first | assumption | wp_step))
 exact h _ _ _ hx'.of
def lF:entryFor table "dict.update.loop"=some Builtin.«dict.update.loop»:=entryFor_of_tree (by kernel_rfl)
def ft:plainId "dict.update.loop"=true:=by decide +kernel
def Ext(H0 h:Heap):Prop:=∀b o,H0.get? b=some o->h.get? b=some o
def fH{h h':Heap}{d:Addr}{kvs:List (Int × Value)}(T:h.DictOf (intKind prog w) d kvs)(hd:∀o,h.get? d=some o->h'.get? d=some o):h'.DictOf (intKind prog w) d kvs:=by
 obtain⟨o,es,ep,ho,r⟩:=T;exact⟨o,es,ep,hd o ho,r⟩
def wq{kvs:List (Int × Value)}{k:Int}{v:Value}(h:k∉kvs.map (·.1)):stored kvs k v=kvs++[(k,v)]:=by
 unfold stored;rw[qan];intro z;rw[qcj] at z;obtain⟨x,hx,e⟩:=z;exact h (qav.mpr ⟨x,hx,by simpa using e⟩)
def dloop{R:Result->Shared->Prop}{I:Addr}{fp wr:List Addr}{G:Array GenState->Array GenState->Prop}{n:Nat}{P:Nat->Value->Prop}{St:Nat->Shared->Prop}
  (W:WalksS prog w A.in1 I fp wr G n P St) (d:Addr) (hdf:d∉fp) {H0:Heap} (h0d:H0.get? d=none) (h0w:∀b∈wr,H0.get? b=none) (kvs:List (Int × Value)) (hn:kvs.length=n) (hsz:n<=sizeLine) (nd:(kvs.map (·.1)).Nodup)
  (hval:∀i v kv,P i v->kvs[i]?=some kv->∃a t,v=.ref a/\H0.IsTuple a #[.int kv.1 t,kv.2]) :
  ∀(c i:Nat) (s:Shared) (j:Int) (tj:Tok),n - i=c->i<=n->St i s->Ext H0 s.heap->s.heap.DictOf (intKind prog w) d (kvs.take i) ->
   (∀s',Moved (d::wr) G s s'->Ext H0 s'.heap->s'.heap.DictOf (intKind prog w) d kvs->R (.ok (.ret .none)) s') ->
   codeAny (model prog w) A (.builtin "dict.update.loop" ⟨[.ref d,.ref I,.int j tj,.none],[]⟩) R s:=by
 have hdw:d∉wr:=fun h=>hdf (W.sub _ h);have hsub:∀b∈wr,b∈d::wr:=fun b hb=>qae _ hb;have extM:∀{s s':Shared},Moved wr G s s'->Ext H0 s.heap->Ext H0 s'.heap:=fun {s s'} hm x b o e =>
  hm.heap b o (fun hb=>by rw[h0w b hb] at e;cases e) (x b o e)
 intro c
 induction c with
 | zero =>
  intro i s j tj hc hi hst hx hT hRR;have e:i=n:=by ext
  subst e;refine codeAny_builtin lF ?_;rw[Around.under_plainId ft _];show wpAny _ A.in1 (pyNext (.ref I) >>= _) _ _ s;refine qaa (W.done s _ _ hst fun s' hm=>?_);show wpAny _ A.in1 (Builtin.Dict.addKeywords d [] >>= fun _=>ret Value.none) _ _ s';rw[<-hn,qcD] at hT;refine qaa ?_;show wpAny _ A.in1 (pure ()) _ _ s';exact qag (qag (hRR s' (hm.mono hsub) (extM hm hx) (fH hT fun o e=>hm.heap d o hdw e)))
 | succ c ih =>
  intro i s j tj hc hi hst hx hT hRR;have hlt:i<n:=by ext
  refine codeAny_builtin lF ?_;rw[Around.under_plainId ft _];show wpAny _ A.in1 (pyNext (.ref I) >>= _) _ _ s;refine qaa (W.item i s _ _ hlt hst fun v s' hP hst' hm=>?_);obtain⟨kv,hk⟩:∃k,kvs[i]?=some k:=⟨_,qas (by ext)⟩;obtain⟨a,t,rfl,ha⟩:=hval i v kv hP hk;have hx':=extM hm hx;have hT':=fH hT (fun o e=>hm.heap d o hdw e);obtain⟨oa,hoa,hca,na,hda⟩:=ha;have hoa':=hx' a oa hoa;have tya:s'.TypeIs (.ref a) "tuple":=⟨oa,hoa',hca⟩;dsimp only;refine qaa (wpAny_holding (qaa ?_));have hpair:∀(Q:List Value->Shared->Prop) (E:Value->Shared->Prop),Q [.int kv.1 t,kv.2] s'->wpAny (model prog w) A.in1 (Builtin.Dict.pairItems (.ref a)) Q E s':=fun Q E q=>by
   unfold Builtin.Dict.pairItems;refine qaa (wpAny_typeOf tya ?_);obtain⟨hp',g',d',tk',os'⟩:=s';obtain⟨oc,od,oda,osl⟩:=oa;simp only at hca hda;subst hca hda;rw[qah (by decide)]
   repeat (any_goals (first | assumption | wp_step))
  refine wpAny_tryCatch (hpair _ _ ?_);dsimp only;have hlen:(kvs.take i).length<=sizeLine:=by rw[qch];ext
  have hnew:kv.1∉(kvs.take i).map (·.1):=fun z=>by
   obtain⟨x,hx1,ex⟩:=qav.mp z;obtain⟨q,hq⟩:=qaA.mp hx1;rw[List.getElem?_take] at hq
   split at hq
   ·rename_i hqi
    have e1:(kvs.map (·.1))[q]?=some kv.1:=by rw[qaw,hq];simp[ex]
    have e2:(kvs.map (·.1))[i]?=some kv.1:=by rw[qaw,hk];rfl
    have l1:q<(kvs.map (·.1)).length:=(qad.mp e1).1
    have:=(List.getElem?_inj l1 nd).mp (e1.trans e2.symm)
    ext
   ·cases hq
  have htk:kvs.take (i+1)=kvs.take i++[kv]:=by rw[qbO,hk];rfl
  refine wpAny_holding (wpAny_dictSet_pairs (knd:=intKind prog w) (k:=kv.1) (intKind_is prog w kv.1 t) hT' (fun h' hD sb=>?_) hlen);rw[wq hnew,show kvs.take i++[(kv.1,kv.2)]=kvs.take (i+1) from htk.symm] at hD;have hx2:Ext H0 h':=fun q o e=>by
   have hq:q≠d:=by rintro rfl;rw[h0d] at e;cases e
   exact (sb.2 q hq).trans (hx' q o e)
  refine qag ⟨plainId_quiet ft _,ih (i+1) _ _ _ (by ext) hlt (W.frame _ s' _ _ hst' (qbY _) fun b hb o e=>(sb.2 b (fun q:b=d=>hdf (by rw[<-q];exact hb))).trans e) hx2 hD fun s'' hm'' hx3 hT4=>?_⟩;refine hRR s'' (Moved.trans W.gtrans ((hm.mono hsub).then_heap (qbY _) fun b o hb e=>?_) hm'') hx3 hT4;exact (sb.2 b (fun q:b=d=>hb (by rw[q];exact qax))).trans e
set_option maxHeartbeats 3200000 in
theorem nT{a:Addr}{items:Array Value}{kvs:List (Int × Value)}{Q:Value->Shared->Prop}(hh:A.handled=none)(ha:∃o k,s.heap.get? a=some o/\o.cls=.type "tuple"/\o.data=.seq items k/\o.dict=none)
  (hn:kvs.length=items.size) (hsz:items.size<=sizeLine) (nd:(kvs.map (·.1)).Nodup)
  (hval:∀(i:Nat) v kv,items[i]?=some v->kvs[i]?=some kv->∃b t,v=.ref b/\s.heap.IsTuple b #[.int kv.1 t,kv.2])
  (h:∀(h':Heap) (tk:Nat),h'.DictOf (intKind prog w) s.heap.objs.size kvs->Ext s.heap h'->Q (.ref s.heap.objs.size) { s with heap:=h',toks:=tk}) :
  wpAny (model prog w) A (call (.type "dict") [.ref a]) Q E s:=by
 refine callType_codes (Q₁:=fun obj s₁=>obj=.ref s.heap.objs.size/\s₁={ s with heap:=s.heap.push { cls:=.type "dict",data:=.dict #[]}}) F.kt_called_dict (F.kt_typeCall_dict_1 _) F.entry_dict_init (kt_code_dict_new _ ⟨rfl,rfl⟩) ?_;rintro obj s₁ ⟨rfl,rfl⟩;have hnew:(s.heap.push { cls:=.type "dict",data:=.dict #[]}).DictOf (intKind prog w) s.heap.objs.size []:=Heap.DictOf.new s.heap;refine⟨hnew.typeIs,F.args_dict_init_2 _ _,?_⟩;unfold Builtin.«dict.__init__»;refine qaa ?_;unfold Builtin.Dict.selfAndRest;refine qaa (wpAny_notOrdered_dict hnew.typeIs ?_);show wpAny _ _ (pure (s.heap.objs.size,[Value.ref a])) _ _ _;refine qag ?_;show wpAny _ _ (Builtin.Dict.updateFrom "dict.__init__" s.heap.objs.size (.ref a) [] .none) _ _ _;unfold Builtin.Dict.updateFrom;obtain⟨oa,ka,hoa,hca,hda,hdi⟩:=ha;have hoa1:(s.heap.push { cls:=.type "dict",data:=.dict #[]}).get? a=some oa:=qab _ hoa;have hh2:A.in1.in1.handled=none:=by simp[hh]
 refine qaa (wpAny_typeOf (T:="tuple") ⟨oa,hoa1,hca⟩ ?_);rw[qah (by decide)];refine qaa (xZ hoa1 hca hda hdi hh2 fun h1 tk1 e hx=>?_);rw[qah (by rfl)];have x1:Ext s.heap h1:=fun b o eb=>hx.keeps b o (qab _ eb);have hD1:h1.DictOf (intKind prog w) s.heap.objs.size []:=fH hnew fun o eo=>hx.keeps _ o eo;have ht1:h1.IsTuple a items:=⟨oa,x1 a oa hoa,hca,ka,hda⟩;refine qaa (wpAny_rule (qaa (wpAny_pyIter_tuple (s:={ s with heap:=h1,toks:=tk1}) ht1 ?_)));have hd1:s.heap.objs.size<h1.objs.size:=by
  obtain⟨o,_,_,ho,_⟩:=hD1;exact qal ho
 have ha1:a<h1.objs.size:=qal (x1 a oa hoa);have has:a<s.heap.objs.size:=qal hoa;have hnone:∀b,s.heap.objs.size<=b->s.heap.get? b=none:=fun b hb=>by
  cases e:s.heap.get? b with
  | none=>rfl
  | some o=>exact absurd (qal e) (Nat.not_lt.mpr hb)
 refine qag ⟨plainId_quiet ft _,?_⟩
 refine dloop (A:=A.in1) (H0:=s.heap) ((Walks.tuple (A:=A.in1.in1) hh2 h1.objs.size a (qaF ha1) items).toS) s.heap.objs.size (by simp only[qak,qaW,or_false,not_or];exact⟨qaF hd1,qaT has⟩) (hnone _ (qai _)) (fun b hb=>by
   have:b=h1.objs.size:=by simpa using hb
   rw[this];exact hnone _ (qbJ hd1)) kvs hn hsz nd hval items.size 0 _ 0 0 (by ext) (qaK _) ⟨⟨_,qap _ rfl,rfl,rfl⟩,ht1.push _⟩ (fun b o e=>qab _ (x1 b o e)) (fH hD1 fun o e=>qab _ e) ?_
 intro s' hm hx' hT';obtain⟨h',g',d',tk',os'⟩:=s';have eg:g'=s.gens:=hm.gens;have ed:d'=s.drawn:=hm.drawn;have eo:os'=s.os:=hm.os;subst eg;subst ed;subst eo;exact⟨rfl,h h' tk' hT' hx'⟩
end
end DcT
namespace MM
open PySem PySem.Spec PyProof.Rows L2 DcT
local instance (priority:=1) cdec31 (p:Prop):Decidable p:=Classical.propDecidable p
section
variable {X:Cx} {N W G:List Str} {k:Nat}
local instance inhPV:Inhabited PV:=⟨.non⟩
def gU:List PV->Option (List (Int × PV))
 | []=>some []
 | .tup [.int k,v]::r=>(gU r).map ((k,v)::·)
 | _=>none
def dgP(x:PV):Option (List (Int × PV)):=match x with
 | .tup ps=>(match gU ps with
  | some kvs=>if (kvs.map (·.1)).Nodup then some kvs else none
  | none=>none)
 | _=>none
def atK(kvs:List (Int × PV))(i:Int)(d:PV):PV:=((kvs.find? fun kv=>kv.1=i).map (·.2)).getD d
def mDg(m:Mx PV)(ma:Mx (List PV)):Mx PV:=fun σ h=>(m σ h).bind fun x h1=>match dgP x with
 | some kvs=>(ma σ h1).bind fun vs h2=>match vs with
  | [.int i,d]=>.ok (atK kvs i d) h2
  | _=>.bad
 | none=>.bad
def vM{K:qac}{ρ:List Addr}{H:Hp}:∀{xs:List PV} {ys:List V} {us:List Value} {kvs:List (Int × PV)},RPs K ρ H xs ys->ar ys us->gU xs=some kvs ->
  xs.length=kvs.length/\∀(i:Nat) u kv,us[i]?=some u->kvs[i]?=some kv->∃b w,u=.ref b/\SqT K H b [.int kv.1,w]/\RP K ρ H kv.2 w:=by
 intro xs
 induction xs with
 | nil =>
  intro ys us kvs r v e;cases r;cases v;cases e;exact⟨rfl,fun i u kv h=>by simp at h⟩
 | cons x xs ih =>
  intro ys us kvs r v e
  cases r with
  | cons r1 r2 =>
   cases v with
   | cons v1 v2 =>
    unfold gU at e
    split at e
    ·rename_i h;cases h
    ·rename_i k0 v0 r0 h
     injection h with h1 h2
     subst h1 h2;rw[qat] at e;obtain⟨kvs',e1,rfl⟩:=e;obtain⟨hl,hv⟩:=ih r2 v2 e1;refine⟨by simp[hl],fun i u kv h1 h2=>?_⟩
     cases i with
     | zero =>
      simp at h1 h2;subst h1 h2
      cases r1 with
      | tup sq rp =>
       cases rp with
       | cons q1 q2=>cases q2 with
        | cons q3 q4 =>
         cases q4;cases q1;exact⟨_,_,v1,sq,q3⟩
     | succ i =>
      simp at h1 h2;exact hv i u kv h1 h2
    ·cases e
def DgO(X:Cx)(a:Addr)(kvs:List (Int × Value)):HO:=.ext fun h=>h.DictOf (intKind X.prog X.w) a kvs
def dg_rel{P:Program}{w:World}{ρ:List Addr}{K:qac}{H:Hp}{kvs:List (Int × PV)}{vals:List (Int × Value)}(hl:kvs.length=vals.length)
  (hr:∀(i:Nat) a b,kvs[i]?=some a->vals[i]?=some b->a.1=b.1/\∃v,aF v b.2/\RP K ρ H a.2 v) {d:PV} {d':V} {u:Value} (rd:RP K ρ H d d') (ru:aF d' u) (i:Int) :
  ∃v,aF v ((valueAt vals i).getD u)/\RP K ρ H (atK kvs i d) v:=by
 induction kvs generalizing vals with
 | nil =>
  cases vals with
  | nil=>exact⟨d',ru,rd⟩
  | cons _ _=>simp at hl
 | cons a kvs ih =>
  cases vals with
  | nil=>simp at hl
  | cons b vals =>
   obtain⟨e,v,h1,h2⟩:=hr 0 a b rfl rfl;unfold atK valueAt;rw[qcm,qcm];by_cases z:a.1=i
   ·have z':b.1=i:=e▸z;simp only[z,z',decide_true];exact⟨v,h1,h2⟩
   ·have z':¬b.1=i:=fun q=>z (e.trans q);simp only[z,z',decide_false];exact ih (by simpa using hl) fun j a b h1 h2=>hr (j+1) a b (by simpa using h1) (by simpa using h2)
def me_dget(g:Good X N W G k){e a b:Expr}{m:Mx PV}{ma:Mx (List PV)}{j:Nat}{p p1 apos cpos:Pos}(hj:G[j]?=some "dict")(hm:X.mg "dict"=none)(he:ME X e m)(ha:MA X [a,b] ma)
  (h1:starEach [e] X.env=[(false,eval e X.env)]:=by rfl)
  (hbase:attributeBase (.Call (.Name "dict" p) [e] [] p1) "get" X.env (eval (.Call (.Name "dict" p) [e] [] p1) X.env)=eval (.Call (.Name "dict" p) [e] [] p1) X.env:=by rfl)
  (hfew:((backTo cpos (starEach [a,b] X.env)).all (fun x=>!x.1) && (backToKw cpos (keywordEach [] X.env)).all (fun x=>x.1.isSome)
   && decide ([a,b].length+([]:List Keyword).length+(if ([]:List Keyword).isEmpty then 0 else 1)<30))=true:=by rfl)
  (hline:(apos.endLine == cpos.line)=true:=by rfl) (hs:starEach [a,b] X.env=(false,eval a X.env)::starEach [b] X.env:=by rfl) (hplain:(backTo cpos (starEach [b] X.env)).any (·.1)=false:=by rfl) :
  ME X (.Call (.Attribute (.Call (.Name "dict" p) [e] [] p1) "get" apos) [a,b] [] cpos) (mDg m ma):=by
 have d1:=g.dbg _ (qaj _ (az hj));intro HM s σ H Q I ⟨ρ,σp,h,rs,rh,q⟩
 have hc:bQ X (.type "dict") (fun xs H Q=>∃ρ h ps kvs v,xs=[v]/\RH X.K X.mg ρ H h/\RP X.K ρ H (.tup ps) v/\gU ps=some kvs/\(kvs.map (·.1)).Nodup /\
   ∀l o vals,H l=none->o.dict=none->(l == sysModules)=false->kvs.length=vals.length ->
    (∀(i:Nat) a b,kvs[i]?=some a->vals[i]?=some b->a.1=b.1/\∃v,aF v b.2/\RP X.K ρ H a.2 v)->Q (.ref l) (upd H l (.frz o (DgO X l vals)))):=by
  intro HM s σ H xs us Q I r ⟨ρ,h,ps,kvs,v,e,rh,rp,ep,nd,q⟩;subst e;obtain⟨u,rfl,ru⟩:=r.one
  cases rp with
  | tup sq rps =>
   cases ru;obtain⟨its,rv,ht,hz⟩:=I.tupleN sq;obtain⟨hl,hv⟩:=vM rps rv ep;have hli:=rv.length;have hlr:=rps.length;have hall:∀i,i<its.length->∃b t w1,its[i]?=some (.ref b)/\s.heap.IsTuple b #[.int (kvs[i]!).1 t,w1]/\∃w,aF w w1/\RP X.K ρ H (kvs[i]!).2 w:=by
    intro i hi;have hk:i<kvs.length:=by ext
    obtain⟨b,w,e1,e2,e3⟩:=hv i its[i] kvs[i] (by simp[hi]) (by simp[hk]);obtain⟨it2,rv2,ht2,_⟩:=I.tuple e2
    cases rv2 with
    | cons a1 a2=>cases a2 with
     | cons a3 a4 =>
      cases a4;obtain⟨t,rfl⟩:=a1;refine⟨b,t,_,by rw[qas hi,e1],?_,w,a3,?_⟩
      ·rw[getElem!_pos kvs i hk];exact ht2
      ·rw[getElem!_pos kvs i hk];exact e3
   have hch:∃vals:List (Int × Value),vals.length=its.length/\∀i,i<its.length->∃b t w1,vals[i]?=some ((kvs[i]!).1,w1)/\its[i]?=some (.ref b)/\s.heap.IsTuple b #[.int (kvs[i]!).1 t,w1]/\∃w,aF w w1/\RP X.K ρ H (kvs[i]!).2 w:=by
    have:∀n,n<=its.length->∃vals:List (Int × Value),vals.length=n/\∀i,i<n->∃b t w1,vals[i]?=some ((kvs[i]!).1,w1)/\its[i]?=some (.ref b)/\s.heap.IsTuple b #[.int (kvs[i]!).1 t,w1]/\∃w,aF w w1/\RP X.K ρ H (kvs[i]!).2 w:=by
     intro n
     induction n with
     | zero=>exact fun _=>⟨[],rfl,fun i hi=>absurd hi (qcL _)⟩
     | succ n ih =>
      intro hn;obtain⟨vs,e1,e2⟩:=ih (by ext);obtain⟨b,t,w1,f1,f2,f3⟩:=hall n (by ext);refine⟨vs++[((kvs[n]!).1,w1)],by simp[e1],fun i hi=>?_⟩;by_cases z:i<n
      ·obtain⟨b,t,w1,g1,g2⟩:=e2 i z;exact⟨b,t,w1,by rw[qao (by ext)];exact g1,g2⟩
      ·have:i=n:=by ext
       subst this;exact⟨b,t,w1,by rw[qaC (by ext),e1];simp,f1,f2,f3⟩
    exact this _ (qai _)
   obtain⟨vals,hvl,hva⟩:=hch;have hkeys:vals.map (·.1)=kvs.map (·.1):=by
    apply qbI;intro i;by_cases z:i<its.length
    ·obtain⟨_,_,_,g1,_⟩:=hva i z;have hk:i<kvs.length:=by ext
     rw[qaw,qaw,g1,qas hk,getElem!_pos kvs i hk];rfl
    ·rw[qaR (by simp;ext),qaR (by simp;ext)]
   obtain⟨oa,hoa,hca,⟨na,hda⟩,hdi⟩:=ht;refine nT (a:=_) (items:=its.toArray) (kvs:=vals) (I.ok.hd g.calm) ⟨oa,na,hoa,hca,hda,hdi⟩ (by simp[hvl]) (by simp;ext) (hkeys▸nd) (fun i v kv h1 h2=>?_) fun h' tk hD hx=>?_
   ·have z:i<its.length:=by
     have:=(qad.mp h2).1
     ext
    obtain⟨b,t,w1,g1,g2,g3,_⟩:=hva i z;rw[g1] at h2;cases h2
    have:v=.ref b:=by
     have e:its.toArray[i]?=its[i]?:=by simp
     rw[e,g2] at h1;exact (Option.some.inj h1).symm
    exact⟨b,t,this,g3⟩
   ·have hn:H s.heap.objs.size=none:=I.hok.fresh (qai _);obtain⟨o,es,epp,ho,ex,r⟩:=hD;have hbm:=Inv.bigM I;refine⟨.ref s.heap.objs.size,_,I.laid (o:=.frz o (DgO X s.heap.objs.size vals)) hx (qai _) ⟨ho,⟨o,es,epp,ho,ex,r⟩,⟨o,ho⟩,fun h1 h2 hd hk=>fH hd hk⟩,rfl,q _ o vals hn ex.2.1 (beq_eq_false_iff_ne.mpr (qaT hbm)) (by ext) fun i a b h1 h2=>?_⟩;have z:i<its.length:=by
     have:=(qad.mp h2).1
     ext
    obtain⟨b',t,w1,g1,g2,g3,w,g4,g5⟩:=hva i z;rw[g1] at h2;cases h2;have hk:i<kvs.length:=by ext
    rw[qas hk] at h1;cases h1;rw[getElem!_pos kvs i hk] at g5 ⊢;exact⟨rfl,w,g4,g5⟩
  | _=>cases ep
 have hdc:=g8 (x:="dict") (p:=p) (pos:=p1) hc (g.gl _ (az hj)) hm PyProof.Rows.Boot.«dict» (cO he g0 h1) d1.2.2 d1.1 h1 rfl
 refine wpAny_Call_method_late hbase hfew hline rfl (thn (hdc HM s σ H (fun x H1=>∃ρ1 l o vals kvs h1,x=.ref l/\H1 l=some (.frz o (DgO X l vals))/\o.dict=none/\(l == sysModules)=false/\kvs.length=vals.length /\
   (∀(i:Nat) a b,kvs[i]?=some a->vals[i]?=some b->a.1=b.1/\∃v,aF v b.2/\RP X.K ρ1 H1 a.2 v)/\RS X.K ρ1 H1 σp σ/\RH X.K X.mg ρ1 H1 h1 /\
   Ful X (RV' X) σp ρ1 H1 ((ma σp h1).bind fun vs h2=>match vs with | [.int i,d]=>.ok (atK kvs i d) h2 | _=>.bad) Q) I ?_) fun v s1 ⟨x,H1,I1,r1,ρ1,l,o,vals,kvs,h1,ex,hfr,ho,hsys,hlen,hrel,rs1,rh1,q1⟩=>?_)
 ·refine⟨ρ,σp,h,rs,rh,Ful.bind q fun ρ1 H1 x x' h1 hxe l1 rh1 rx q1=>?_⟩;clear hxe
  cases ed:dgP x with
  | none=>rw[ed] at q1;exact q1.elim
  | some kvs =>
   rw[ed] at q1;dsimp only at q1;unfold dgP at ed
   split at ed
   ·rename_i ps
    split at ed
    ·rename_i x1 kvs' ep
     split at ed
     ·rename_i nd
      cases ed;refine⟨ρ1,h1,ps,kvs,x',rfl,rh1,rx,ep,nd,fun l o vals hl ho hsys hlen hrel=>?_⟩;obtain⟨rh2,l2⟩:=rh1.loose hl (.frz o (DgO X l vals));exact⟨ρ1,l,o,vals,kvs,h1,rfl,bB,ho,hsys,hlen,fun i a b e1 e2=>(hrel i a b e1 e2).imp_right fun ⟨v,e3,e4⟩=>⟨v,e3,e4.le l2⟩,rs.le (l1.trans l2),rh2,Ful.le l2 q1⟩
     ·cases ed
    ·cases ed
   ·cases ed
 ·subst ex;cases r1;obtain⟨hg1,hD,_⟩:=(show ObjOk X.prog X.w H1 s1.heap l (.frz o (DgO X l vals)) from I1.hok l _ hfr);have hD:s1.heap.DictOf (intKind X.prog X.w) l vals:=hD;refine⟨"dict","dict.get",PySem.F.plainAttrs_dict,PySem.F.slot_dict_get,PySem.F.type_dict_get,hD.typeIs,fun a e=>by cases e;exact⟨o,hg1,ho⟩,?_⟩
  have hA:=ha cpos HM s1 σ H1 (fun vs' H2=>∃ρ2 i d d',vs'=[.int i,d']/\Le ρ1 H1 ρ2 H2/\RP X.K ρ2 H2 d d'/\∀v,RP X.K ρ2 H2 (atK kvs i d) v->Q v H2) I1 ⟨ρ1,σp,h1,rs1,rh1,Ful.bind q1 fun ρ2 H2 vs vs' h2 hxe l2 rh2 rvs q2=>by
   clear hxe
   split at q2
   ·rename_i i d
    cases rvs with
    | cons a1 a2=>cases a2 with
     | cons a3 a4 =>
      cases a4;cases a1;exact⟨ρ2,i,d,_,rfl,l2,a3,fun v rv=>q2 ρ2 H2 v (Le.refl _ _) rh2 rv⟩
   ·exact q2.elim⟩
  rw[hs] at hA ⊢;refine Calls.callWith_builtin (by show (false || (backTo cpos (starEach [b] X.env)).any (·.1))=false;rw[hplain] <;> rfl) (Calls.evalArgs_plain ?_);refine thn hA fun us s2 ⟨vs,H2,I2,r2,ρ2,i,d,d',ev,l2,rd,q2⟩=>?_;subst ev
  cases r2 with
  | cons b1 b2=>cases b2 with
   | @cons _ u _ _ b3 b4 =>
    cases b4;obtain⟨t,rfl⟩:=b1;obtain⟨hg2,hD2,_⟩:=(show ObjOk X.prog X.w H2 s2.heap l (.frz o (DgO X l vals)) from I2.hok l _ (l2.frz _ _ _ hfr));have hD2:s2.heap.DictOf (intKind X.prog X.w) l vals:=hD2;obtain⟨v,rv,rp⟩:=dg_rel (P:=X.prog) (w:=X.w) hlen (fun i a b e1 e2=>(hrel i a b e1 e2).imp_right fun ⟨v,e3,e4⟩=>⟨v,e3,e4.le l2⟩) rd b3 i;exact call_meetsIn PySem.F.slot_dict_get hD2.typeIs PySem.F.entry_dict_get (PySem.F.args_dict_get_3 _ _ _) (meets_dict_get_default (intKind X.prog X.w) l (intKind_is X.prog X.w i t) hsys u) ⟨_,hD2.mapOf,v,H2,I2.tok _,rv,q2 v rp⟩
@[simp] theorem mDg_ap:mDg m ma σ h=(m σ h).bind fun x h1=>match dgP x with
 | some kvs=>(ma σ h1).bind fun vs h2=>match vs with
  | [.int i,d]=>.ok (atK kvs i d) h2
  | _=>.bad
 | none=>.bad:=rfl
def oH(K:qac)(x:Str)(i j:Int):Prop:=∃(a:Addr) (t t':Tok) (n:Nat) (sl:Array (Option Value)),PySem.W.nsIn K mainGlobals x=some (some (.ref a))/\K.lookup a=some ⟨.type "tuple",none,.seq #[.int i t,.int j t'] n,sl⟩
def TupG(K:qac)(mg:MGl)(x:Str)(i j:Int):Prop:=∃(a:Addr) (t t':Tok) (n:Nat) (sl:Array (Option Value)),mg x=some (.ref a)/\K.lookup a=some ⟨.type "tuple",none,.seq #[.int i t,.int j t'] n,sl⟩
def tupK_mk{K:qac}{x:Str}{i j:Int}{a:Addr}{t t':Tok}{n:Nat}{sl:Array (Option Value)}(h:PySem.W.nsIn K mainGlobals x=some (some (.ref a)))(l:K.lookup a=some ⟨.type "tuple",none,.seq #[.int i t,.int j t'] n,sl⟩):oH K x i j:=⟨a,t,t',n,sl,h,l⟩
def oH.mg{K:qac}{mg:MGl}{base:Heap}{x:Str}{i j:Int}(z:oH K x i j)(kin:K.In base)(ns:base.Ns mainGlobals mg):TupG K mg x i j:=by
 obtain⟨a,t,t',n,sl,h,l⟩:=z;exact⟨a,t,t',n,sl,PySem.W.mg_of kin ns h,l⟩
def yw(g:Good X N W G k){x:Str}{q:Nat}{i j:Int}{pos:Pos}(hj:G[q]?=some x)(hm:TupG X.K X.mg x i j):ME X (.Name x pos) (mC (.tup [.int i,.int j])):=by
 obtain⟨a,t,t',n,sl,hm,hl⟩:=hm;have d:=g.dbg x (qaj _ (az hj));exact PE.imp (uC (v:=.ref a) (g.gl x (az hj)) hm rfl d.1) fun σ H Q ⟨ρ,σp,h,rs,rh,q⟩=>q ρ H _ (Le.refl _ _) rh (.tup (ys:=[.int i,.int j]) (.inr ⟨_,_,n,hl,rfl,⟨rfl,rfl⟩,by show 2<=sizeLine;decide,.cons ⟨t,rfl⟩ (.cons ⟨t',rfl⟩ .nil)⟩) (.cons (.int _) (.cons (.int _) .nil)))
end
end MM
namespace L2
open PySem PySem.Spec PyProof.Rows
section
variable {X:Cx} {e st:Expr} {te:TE} {hi:Option Expr} {th ts:TO} {pos p2:Pos}
end
end L2
namespace MM
open PySem PySem.Spec PyProof.Rows L2
local instance (priority:=1) cdec32 (p:Prop):Decidable p:=Classical.propDecidable p
section
variable {X:Cx} {pos p2:Pos}
end
section
variable {X:Cx} {k:Nat}
end
end MM
namespace MM
open PySem PySem.Spec PyProof.Rows L2 SetT SortT
local instance (priority:=1) cdec34 (p:Prop):Decidable p:=Classical.propDecidable p
def many(ns:List Int):Nat:=(firstMet (fun i=>ns.getD i 0) ns.length).length
def many_le(ns:List Int):many ns<=ns.length:=firstMet_length_le _ _
def IPh(prog:Program)(w:World)(S:Addr)(n:Nat)(h:Heap):Prop:=∃f,h.SetOf (intKind prog w) S f n
def wP{prog:Program}{w:World}{S:Addr}{n:Nat}{h1 h2:Heap}(p:IPh prog w S n h1)(k:∀o,h1.get? S=some o->h2.get? S=some o):IPh prog w S n h2:=by
 obtain⟨f,o,es,ep,t,p1,r⟩:=p;exact⟨f,o,es,ep,t,k o p1,r⟩
section
variable {X:Cx} {N W G:List Str} {k:Nat}
def xo(hh:X.calm=true):bQ X (.type "set") (fun xs H Q=>∃l ns,xs=[.ref l]/\SqL X.K H l (ns.map V.int)/\ns.length<=1000/\∀S,H S=none->Q (.ref S) (upd H S (.ext (IPh X.prog X.w S (many ns))))):=by
 intro HM s σ H xs us Q I r ⟨l,ns,e,hq,hl,q⟩;subst e;obtain⟨u,rfl,rx⟩:=dM r;cases rx;obtain⟨its,rv,pl,hz⟩:=I.list hq;have hlen:its.length=ns.length:=by have:=rv.length;rw[qaB] at this;exact this.symm
 have ia:IntsAre its.toArray.toList ns:=vF rv;have hfr:=I.hok.fresh (qai s.heap.objs.size);refine call_set_list (I.ok.hd hh) pl.isList ia (by rw[qaq,hlen];unfold scanBound;ext) fun h' tk T x=>?_;have es':its.toArray.size=ns.length:=by rw[qaq,hlen]
 rw[es'] at T;have sp:IPh X.prog X.w s.heap.objs.size (many ns) h':=⟨_,T⟩;obtain⟨f,o,es,ep,t,ho,rest⟩:=id sp;exact⟨.ref s.heap.objs.size,_,I.laid (o:=.ext (IPh X.prog X.w s.heap.objs.size (many ns))) (fun b o e=>x b o (qal e) e) (qai _) ⟨sp,⟨o,ho⟩,fun h1 h2 a b=>wP a b⟩,rfl,q _ hfr⟩
def yv:bQ X (.builtin "len") (fun xs H Q=>∃S n,xs=[.ref S]/\H S=some (.ext (IPh X.prog X.w S n))/\n<=1000/\Q (.int n) H):=by
 intro HM s σ H xs us Q I r ⟨S,n,e,hS,hn,q⟩;subst e;obtain⟨u,rfl,rx⟩:=dM r;cases rx;obtain⟨sp,_,_⟩:IPh X.prog X.w S n s.heap/\_:=(show ObjOk X.prog X.w H s.heap S (.ext (IPh X.prog X.w S n)) from I.hok S _ hS);obtain⟨f,o,es,ep,t,p1,p2,p3,p4,p5,p6,p7,p8⟩:=sp;refine call_len_set p1 p2 p3 p7 (by rw[p8];ext) ?_;rw[p8];exact⟨.int n,H,I.kept fun b ob q=>q,⟨_,rfl⟩,q⟩
def mLS(m:Mx (List PV)):Mx PV:=fun σ h=>(m σ h).bind fun xs h1=>match xs with
 | [x]=>(match (cq h1 x).bind fJ with
  | some ns=>if ns.length<=1000 then .ok (.int (many ns)) h1 else .bad
  | none=>.bad)
 | _=>.bad
def yp(g:Good X N W G k){a:Expr}{m:Mx (List PV)}{p p' pos pos':Pos}(i j:Nat)(hm:X.mg "len"=none)(hm':X.mg "set"=none)(ha:MA X [a] m)(hi:G[i]?=some "len":=by rfl)(hj:G[j]?=some "set":=by rfl)
  (hs:starEach [a] X.env=[(false,eval a X.env)]:=by rfl) (he:starEach [.Call (.Name "set" p') [a] [] pos'] X.env=[(false,eval (.Call (.Name "set" p') [a] [] pos') X.env)]:=by rfl) :
  ME X (.Call (.Name "len" p) [.Call (.Name "set" p') [a] [] pos'] [] pos) (mLS m):=by
 have d:=g.dbg _ (qaj _ (az hi));have d':=g.dbg _ (qaj _ (az hj));refine PE.imp (gQ yv (g.gl _ (az hi)) hm PyProof.Rows.Boot.«len» (cO (g8 (xo g.calm) (g.gl _ (az hj)) hm' PyProof.Rows.Boot.«set» ha d'.2.2 d'.1 hs rfl) g0 he) d.2.2 d.1 he rfl) fun σ H Q ⟨ρ,σp,h,rs,rh,q⟩=>?_;refine⟨ρ,σp,h,rs,rh,Ful.bind q fun ρ1 H1 x x' h1 ex l1 rh1 rx q1=>?_⟩;clear ex
 cases rx with
 | nil=>exact q1.elim
 | @cons y y' _ _ r1 t1 =>
  cases t1 with
  | cons _ _=>exact q1.elim
  | nil =>
   dsimp only at q1
   cases hl:cq h1 y with
   | none=>rw[hl] at q1;exact q1.elim
   | some xs =>
    rw[hl] at q1
    cases hk:fJ xs with
    | none=>simp only[qaX,hk] at q1;exact q1.elim
    | some ns =>
     simp only[qaX,hk] at q1;by_cases z:ns.length<=1000
     ·rw[qah z] at q1;obtain⟨la,zs,rfl,hsq,rzs⟩:=oM rh1 r1 hl;rw[o6 hk] at rzs;rw[vints rzs] at hsq;refine⟨la,ns,rfl,hsq,z,fun S hS=>?_⟩;obtain⟨rh2,l2⟩:=rh1.loose hS (.ext (IPh X.prog X.w S (many ns)));exact⟨S,many ns,rfl,bB,qaJ (many_le ns) z,q1 ρ1 _ _ l2 rh2 (.int _)⟩
     ·rw[qan z] at q1;exact q1.elim
end
end MM
namespace L2
open PySem PySem.Spec PyProof.Rows
section
variable {X:Cx} {a:Expr} {ta:TE} {pos:Pos}
end
end L2
namespace MM
open PySem PySem.Spec PyProof.Rows L2
section
variable {X:Cx} {pos:Pos}
end
section
variable {X:Cx}
end
end MM
namespace MM
open PySem PySem.Spec PyProof.Rows L2
local instance (priority:=1) cdec38 (p:Prop):Decidable p:=Classical.propDecidable p
section
variable {X:Cx} {k:Nat}
end
end MM
namespace HT
open PySem PyProof.Rows
section
open PySem.SeqAt
open PySem.AutoSeq1 (wpAny_loadPart')
open PySem.MeetsSeq PySem.MeetsSeq2 PySem.MeetsSeq3
end
section
variable {prog:Program} {w:World} {A:Around} {E:Value→Shared→Prop} {s:Shared}
end
end HT
namespace L2
open PySem PySem.Spec PyProof.Rows
section
variable {X:Cx} {e st:Expr} {te:TE} {ts:TO} {pos p2:Pos}
end
end L2
namespace MM
open PySem PySem.Spec PyProof.Rows L2
local instance (priority:=1) cdec39 (p:Prop):Decidable p:=Classical.propDecidable p
section
variable {X:Cx} {k:Nat} {pos:Pos}
end
end MM
namespace L2
open PySem PySem.Spec PyProof.Rows
section
variable {X:Cx} {a b c d:Expr} {ta tb tc td:TE} {r r' r2:R2} {op op' op2:CmpOp} {pos:Pos}
end
end L2
namespace MM
open PySem PySem.Spec PyProof.Rows L2
local instance (priority:=1) cdec40 (p:Prop):Decidable p:=Classical.propDecidable p
section
variable {X:Cx} {a b c d:Expr} {ma mb mc md:Mx PV} {f g' g2:PV→PV→MH→Out PV} {op op' op2:CmpOp} {pos:Pos} {k:Nat}
def qV:Expr->Bool
 | .Starred _ _=>false
 | _=>true
def qG(h:qV e=true):starEach (e::es) env=(false,eval e env)::starEach es env:=by
 cases e <;> first | rfl | cases h
def ma_con(ha:ME X e m)(hr:MA X es ms)(hp:qV e=true:=by rfl):MA X (e::es) (ac m ms):=af ha hr (qG hp)
structure ME1 (X:Cx) (e:Expr) (m:Mx PV):Prop where
 h:ME X e m
structure MAs (X:Cx) (es:List Expr) (ms:Mx (List PV)):Prop where
 h:MA X es ms
structure MS1 (X:Cx) (st:Stmt) (m:Mst):Prop where
 h:MS X st m
structure MS2 (X:Cx) (st:List Stmt) (m:Mst):Prop where
 h:MSs X st m
section
variable {e:Expr} {es:List Expr} {m ma mb:Mx PV} {ms:Mx (List PV)} {st:Stmt} {rest:List Stmt} {u v:Mst} {f:PV→PV→MH→Out PV} {N W G:List Str} {x:Str}
def bt:MAs X [] mNil:=⟨ah⟩
def av(ha:ME1 X e m)(hr:MAs X es ms)(hp:qV e=true:=by rfl):MAs X (e::es) (ac m ms):=⟨ma_con ha.h hr.h hp⟩
def e_1(h:ME X e m):ME1 X e m:=⟨h⟩
def l_1(h:MAs X es ms):ME1 X (.List es pos) (cZ ms):=⟨kf h.h⟩
def t_1(h:MAs X es ms):ME1 X (.Tuple es j pos) (bP ms):=⟨me_tup h.h⟩
def b_1{op:Operator}{a b:Expr}(ho:OpJ X (binaryOp op) f)(ha:ME1 X a ma)(hb:ME1 X b mb):ME1 X (.BinOp a op b pos) (aj f ma mb):=⟨au ho ha.h hb.h⟩
def i_1(ha:ME1 X a ma)(hb:ME1 X b mb)(hs:kS b:=by exact fun _ _=>rfl):ME1 X (.Subscript a b pos) (aj aA ma mb):=⟨me_ix ha.h hb.h hs⟩
def s_1(h:MS X st u):MS1 X st u:=⟨h⟩
def a_1(g:Good X N W G k)(i:Nat){pos':Pos}(he:ME1 X e m)(hi:N[i]?=some x:=by rfl)(hw:W[i]?=some x:=by rfl)(hs:swapsWith e (some (.Name x pos')) pos.line X.env=pure false:=by rfl) :
  MS1 X (.Assign [.Name x pos'] e pos) (aY i m):=⟨ms_set g i hi hw he.h hs⟩
def r_1(he:ME1 X e m):MS1 X (.Return (some e) pos) (aI m):=⟨ms_ret he.h⟩
def m1n(h:MS1 X st u):MS2 X [st] u:=⟨mss_one h.h⟩
def m1c(h1:MS1 X st u)(h2:MS2 X rest v):MS2 X (st::rest) (aw u v):=⟨zw h1.h h2.h⟩
end
end
section
variable {α β:Type}
def bx(f:α->Int)(x:α):List α->List α
 | []=>[x]
 | y::r=>if f x<=f y then x::y::r else y::bx f x r
def aB(f:α->Int)(l:List α):List α:=l.foldr (bx f) []
def jF(f:α->Int)(x:α):∀l,(bx f x l).Perm (x::l)
 | []=>.refl _
 | y::r=>by
  unfold bx;split
  ·exact .refl _
  ·exact ((jF f x r).cons y).trans (.swap x y r)
def cE(f:α->Int):∀l,(aB f l).Perm l
 | []=>.refl _
 | x::l=>(jF f x (aB f l)).trans ((cE f l).cons x)
def qv(f:α->Int)(x:α):∀l:List α,l.Pairwise (fun a b=>f a<=f b)->(bx f x l).Pairwise (fun a b=>f a<=f b)
 | [],_=>by simp[bx]
 | y::r,h=>by
  have h':=qbv.mp h;unfold bx;split
  ·rename_i z
   refine qbv.mpr ⟨fun a ha=>?_,h⟩;rcases qak.mp ha with q|q
   ·rw[q];exact z
   ·exact Int.le_trans z (h'.1 a q)
  ·rename_i z
   refine qbv.mpr ⟨fun a ha=>?_,qv f x r h'.2⟩;rcases qak.mp ((jF f x r).mem_iff.mp ha) with rfl|ha
   ·lia
   ·exact h'.1 a ha
def kq(f:α->Int):∀l:List α,(aB f l).Pairwise (fun a b=>f a<=f b)
 | []=>.nil
 | x::l=>qv f x _ (kq f l)
def pQ(g:β->α)(f:α->Int)(x:β):∀l:List β,bx f (g x) (l.map g)=(bx (fun b=>f (g b)) x l).map g
 | []=>rfl
 | y::r=>by
  rw[qau];unfold bx;split
  ·rfl
  ·rw[pQ g f x r];rfl
def fC(g:β->α)(f:α->Int):∀l:List β,aB f (l.map g)=(aB (fun b=>f (g b)) l).map g
 | []=>rfl
 | x::l=>by
  show bx f (g x) (aB f (l.map g))=(bx _ x (aB _ l)).map g;rw[fC g f l,pQ]
def lB{f g:α->Int}{x:α}:∀{l:List α},f x=g x->(∀a∈l,f a=g a)->bx f x l=bx g x l
 | [],_,_=>rfl
 | y::r,hx,h=>by
  unfold bx;rw[hx,h y qax,lB hx fun a ha=>h a (qae _ ha)]
def lN{f g:α->Int}:∀{l:List α},(∀a∈l,f a=g a)->aB f l=aB g l
 | [],_=>rfl
 | x::l,h=>by
  have e:=lN (f:=f) (g:=g) (l:=l) fun a ha=>h a (qae _ ha);show bx f x (aB f l)=bx g x (aB g l);rw[e];exact lB (h x qax) fun a ha=>h a (qae _ ((cE g l).mem_iff.mp ha))
def qe{f:α->Int}:∀{l:List α} {x y:α},(l.map f).Nodup->x∈l->y∈l->f x=f y->x=y
 | [],_,_,_,h,_,_=>by cases h
 | a::l,x,y,nd,hx,hy,e=>by
  rw[qau,qbS] at nd;rcases qak.mp hx with q1|q1
  ·rcases qak.mp hy with q2|q2
   ·exact q1.trans q2.symm
   ·exact absurd (qav.mpr ⟨y,q2,e.symm.trans (congrArg f q1)⟩) nd.1
  ·rcases qak.mp hy with q2|q2
   ·exact absurd (qav.mpr ⟨x,q1,e.trans (congrArg f q2)⟩) nd.1
   ·exact qe nd.2 q1 q2 e
def jj{f:α->Int}{l m:List α}(p:m.Perm l)(nd:(l.map f).Nodup)(h:m.Pairwise fun a b=>f a<=f b):m=aB f l :=
 List.Perm.eq_of_pairwise (fun a b ha hb x y=>qe nd (p.mem_iff.mp ha) ((cE f l).mem_iff.mp hb) (by lia)) h (kq f l) (p.trans (cE f l).symm)
end
def qW:PV->Option Int
 | .tup (.int k::_)=>some k
 | _=>none
def rkP(x:PV):Int:=(qW x).getD 0
def rkH(h:Heap)(v:Value):Int:=match v with
 | .ref b=>(match h.get? b with
  | some o=>(match o.data with
   | .seq xs _=>(match (xs[0]?:Option Value) with
    | some (.int k _)=>k
    | _=>0)
   | _=>0)
  | none=>0)
 | _=>0
def fSortR(xs:List PV)(h:MH):Out PV:=match xs with
 | [x]=>(match aX h x with
  | some ys=>if (∀y∈ys,(qW y).isSome=true)/\(ys.map rkP).Nodup/\ys.length<=66 then .ok (.loc h.length) (h++[.lst (aB rkP ys)]) else .bad
  | none=>.bad)
 | _=>.bad
inductive T3 (K:qac) (ρ:List Addr) (H:Hp):List PV->List V->List Value->List (PV × V × Value)->Prop
 | nil:T3 K ρ H [] [] [] []
 | cons {x:PV} {y:V} {u:Value} {xs:List PV} {ys:List V} {us:List Value} {ts:List (PV × V × Value)} (r:RP K ρ H x y) (v:aF y u) (t:T3 K ρ H xs ys us ts):T3 K ρ H (x::xs) (y::ys) (u::us) ((x,y,u)::ts)
section
variable {K:qac} {ρ:List Addr} {H:Hp}
def T3.ex:∀{xs:List PV} {ys:List V} {us:List Value},RPs K ρ H xs ys->ar ys us->∃ts,T3 K ρ H xs ys us ts
 | _,_,_,.nil,.nil=>⟨[],.nil⟩
 | _,_,_,.cons r rs,.cons v vs=>let ⟨ts,t⟩:=T3.ex rs vs;⟨_,.cons r v t⟩
def T3.maps:∀{xs:List PV} {ys:List V} {us:List Value} {ts:List (PV × V × Value)},T3 K ρ H xs ys us ts->xs=ts.map (·.1)/\us=ts.map (·.2.2)/\∀t∈ts,RP K ρ H t.1 t.2.1/\aF t.2.1 t.2.2
 | _,_,_,_,.nil=>⟨rfl,rfl,fun t h=>by cases h⟩
 | _,_,_,_,.cons r v t=>by
  obtain⟨e1,e2,h⟩:=t.maps;refine⟨by rw[e1];rfl,by rw[e2];rfl,fun q hq=>?_⟩;rcases qak.mp hq with rfl|hq
  ·exact⟨r,v⟩
  ·exact h q hq
def xU:∀{ts:List (PV × V × Value)},(∀t∈ts,RP K ρ H t.1 t.2.1/\aF t.2.1 t.2.2)->RPs K ρ H (ts.map (·.1)) (ts.map (·.2.1))/\ar (ts.map (·.2.1)) (ts.map (·.2.2))
 | [],_=>⟨.nil,.nil⟩
 | t::ts,h=>by
  obtain⟨a,b⟩:=xU (ts:=ts) fun q hq=>h q (qae _ hq);obtain⟨c,d⟩:=h t qax;exact⟨.cons c a,.cons d b⟩
end
section
variable {X:Cx}
def tT:cp X (.builtin "sorted") fSortR:=by
 intro HM s σ H xs us Q I r ⟨ρ,h,ps,rh,rp,q⟩
 cases rp with
 | nil=>exact q.elim
 | @cons x y _ _ r1 t1 =>
  cases t1 with
  | cons _ _=>exact q.elim
  | nil =>
   unfold fSortR at q
   cases es:aX h x with
   | none=>simp only[es] at q;exact q.elim
   | some ys =>
    simp only[es] at q;by_cases z:(∀y∈ys,(qW y).isSome=true)/\(ys.map rkP).Nodup/\ys.length<=66
    ·rw[qah z] at q;obtain⟨a,zs,rfl,hsq,rzs⟩:=eZ rh r1 es;obtain⟨u,rfl,rx⟩:=dM r;cases rx;obtain⟨T,o,m,its,hT,ho,hc,hd,rv⟩:∃(T:String) (o:Obj) (m:Nat) (its:List Value),(T="list"\/T="tuple")/\s.heap.get? a=some o/\o.cls=.type T/\o.data=.seq its.toArray m/\ar zs its:=by
      rcases hsq with hq|hq
      ·obtain⟨its,rv,pl,_⟩:=I.list hq;obtain⟨o,ho,hc,n,hd⟩:=pl.isList;exact⟨"list",o,n,its,.inl rfl,ho,hc,hd,rv⟩
      ·obtain⟨its,rv,⟨o,ho,hc,n,hd⟩,_⟩:=I.tuple hq;exact⟨"tuple",o,n,its,.inr rfl,ho,hc,hd,rv⟩
     obtain⟨ts,t3⟩:=T3.ex rzs rv;obtain⟨e1,e2,hm⟩:=t3.maps;have key:∀t∈ts,SortT.iw s.heap (rkH s.heap) t.2.2/\rkP t.1=rkH s.heap t.2.2:=fun t ht=>by
      obtain⟨rp,rl⟩:=hm t ht;have hk:=z.1 t.1 (by rw[e1];exact qav.mpr ⟨t,ht,rfl⟩);obtain⟨t1,t2,t3⟩:=t;dsimp only at rp rl hk ⊢
      cases rp with
      | @tup ps a2 vs sq rps =>
       cases rl
       cases rps with
       | nil=>cases hk
       | @cons p0 v0 _ _ r0 rr =>
        cases r0 with
        | int i =>
         obtain⟨it2,rv2,⟨o2,g2,c2,n2,d2⟩,_⟩:=I.tuple sq
         cases rv2 with
         | cons w0 wr =>
          obtain⟨tk,rfl⟩:=w0;have e:rkH s.heap (.ref a2)=i:=by simp[rkH,g2,d2]
          exact⟨⟨a2,o2,_,n2,tk,rfl,g2,c2,d2,by rw[e];rfl⟩,by rw[e];rfl⟩
        | _=>cases hk
      | _=>cases hk
     have ek:ys.map rkP=its.map (rkH s.heap):=by
      rw[e1,e2,qaU,qaU];exact qcn fun t ht=>(key t ht).2
     have hl:its.length=ys.length:=by rw[e1,e2];simp
     refine SortT.t4 (vs:=its) (rk:=rkH s.heap) hT ho hc hd (fun v hv=>?_) (ek▸z.2.1) (by rw[hl];exact z.2.2) fun h' l out kp hsz ⟨c,hc'⟩ pv ri=>?_
     ·rw[e2] at hv;obtain⟨t,ht,rfl⟩:=qav.mp hv;exact (key t ht).1
     ·have eo:out=aB (rkH s.heap) its:=jj pv (ek▸z.2.1) (qaY.mp ri);have et:aB (fun t:PV × V × Value=>rkP t.1) ts=aB (fun t=>rkH s.heap t.2.2) ts:=lN fun t ht=>(key t ht).2;obtain⟨ra,rb⟩:=xU (K:=X.K) (ρ:=ρ) (H:=H) (ts:=aB (fun t:PV × V × Value=>rkP t.1) ts) fun t ht=>hm t ((cE _ _).mem_iff.mp ht);have s1:aB rkP ys=(aB (fun t:PV × V × Value=>rkP t.1) ts).map (·.1):=by rw[e1,fC]
      have s2:out=(aB (fun t:PV × V × Value=>rkP t.1) ts).map (·.2.2):=by rw[eo,et,e2,fC]
      rw[<-s1] at ra;rw[<-s2] at rb;have lz:((aB (fun t:PV × V × Value=>rkP t.1) ts).map (·.2.1)).length<=sizeLine:=by
       rw[<-ra.length,(cE rkP ys).length_eq,sizeLine_eq];have:=z.2.2;lia
      refine⟨.ref l,_,I.laid (o:=.lst ((aB (fun t:PV × V × Value=>rkP t.1) ts).map (·.2.1))) (t':=s.toks) kp hsz (show ObjOk X.prog X.w _ _ _ (.lst _) from⟨lz,out,c,rb,hc'⟩),rfl,?_⟩;obtain⟨rh3,l3⟩:=rh.new (I.hok.fresh hsz) (o:=.lst (aB rkP ys)) (ho:=.lst ((aB (fun t:PV × V × Value=>rkP t.1) ts).map (·.2.1))) ⟨_,rfl,ra⟩;exact q _ _ _ l3 rh3 (.loc (by rw[<-rh.len];simp))
    ·rw[qan z] at q;exact q.elim
end
end MM
namespace PU
open PySem MM
def ys{α:Type}{a b:α}(h:a=b):a=b:=h
inductive D where
 | non | bl (b:Bool) | int (i:Int) | str (x:Str) | tup (xs:List D) | lst (xs:List D) | dic | exc (c:Str) | pen
abbrev Pen:=Int × Int × Int
abbrev aq:=List (Option D)
def bS(h:MH)(p:Nat)(s:Pen):Prop:=h[p]?=some (.lst [.int s.1,.int s.2.1,.int s.2.2])
inductive RcT (P:List PV->Prop) (v:PV):Prop
 | mk (xs:List PV) (e:v=.tup xs) (r:P xs):RcT P v
inductive RcL (h:MH) (O:List Nat) (P:List PV->Prop) (v:PV):Prop
 | mk (n:Nat) (xs:List PV) (e:v=.loc n) (no:n∉O) (g:h[n]?=some (.lst xs)) (r:P xs):RcL h O P v
inductive RcO (h:MH) (O:List Nat) (o:MO) (v:PV):Prop
 | mk (n:Nat) (e:v=.loc n) (no:n∉O) (g:h[n]?=some o):RcO h O o v
inductive RcC (P:PV->Prop) (Q:List PV->Prop) (vs:List PV):Prop
 | mk (x:PV) (r:List PV) (e:vs=x::r) (a:P x) (b:Q r):RcC P Q vs
mutual
def Rp(p:Nat)(h:MH)(O:List Nat):D->PV->Prop
 | .non,v=>v=.non
 | .bl b,v=>v=.bl b
 | .int i,v=>v=.int i
 | .str x,v=>v=.str x
 | .tup ds,v=>RcT (Rps p h O ds) v
 | .lst ds,v=>RcL h O (Rps p h O ds) v
 | .dic,v=>RcO h O (.dic []) v
 | .exc c,v=>RcO h O (.exc ⟨c,[]⟩) v
 | .pen,v=>v=.loc p
def Rps(p:Nat)(h:MH)(O:List Nat):List D->List PV->Prop
 | [],vs=>vs=[]
 | d::ds,vs=>RcC (Rp p h O d) (Rps p h O ds) vs
end
def aW{h:MH}{n:Nat}{o:MO}(e:h[n]?=some o):n<h.length:=(qad.mp e).1
structure Mv (O:List Nat) (h:MH) (O':List Nat) (h':MH):Prop where
 keep:∀n:Nat,n<h.length->n∉O->h'[n]?=h[n]?
 new:∀o∈O',o∈O\/h.length<=o
def Mv.get{O O':List Nat}{h h':MH}(s:Mv O h O' h'){n:Nat}{o:MO}(e:h[n]?=some o)(no:n∉O):n∉O'/\h'[n]?=some o:=by
 have hl:=aW e;refine⟨fun z=>?_,(s.keep n hl no).trans e⟩;rcases s.new n z with q|q
 ·exact no q
 ·lia
section
variable {p:Nat} {O O':List Nat} {h h':MH}
def Rp.mv(s:Mv O h O' h')(r:Rp p h O d v):Rp p h' O' d v:=by
 refine D.rec (motive_1:=fun d=>∀v,Rp p h O d v->Rp p h' O' d v) (motive_2:=fun ds=>∀vs,Rps p h O ds vs->Rps p h' O' ds vs)
  (fun _ r=>r) (fun _ _ r=>r) (fun _ _ r=>r) (fun _ _ r=>r) (fun ds i _ r=>?_) (fun ds i _ r=>?_) (fun _ r=>?_) (fun _ _ r=>?_) (fun _ r=>r) (fun _ r=>r) (fun _ _ i j _ r=>?_) d v r
 ·obtain⟨xs,e,r⟩:=r;exact⟨xs,e,i _ r⟩
 ·obtain⟨n,xs,e,no,g,r⟩:=r;exact⟨n,xs,e,(s.get g no).1,(s.get g no).2,i _ r⟩
 ·obtain⟨n,e,no,g⟩:=r;exact⟨n,e,(s.get g no).1,(s.get g no).2⟩
 ·obtain⟨n,e,no,g⟩:=r;exact⟨n,e,(s.get g no).1,(s.get g no).2⟩
 ·obtain⟨x,t,e,a,b⟩:=r;exact⟨x,t,e,i _ a,j _ b⟩
def Rps.mv(s:Mv O h O' h')(r:Rps p h O ds vs):Rps p h' O' ds vs:=by
 induction ds generalizing vs with
 | nil=>exact r
 | cons d ds ih=>obtain⟨x,t,e,a,b⟩:=r;exact⟨x,t,e,a.mv s,ih b⟩
def Rps.length(r:Rps p h O ds vs):vs.length=ds.length:=by
 induction ds generalizing vs with
 | nil=>rw[show vs=[] from r];rfl
 | cons d ds ih=>obtain⟨x,t,e,a,b⟩:=r;rw[e,qbj,qbj,ih b]
def Rps.get{ds:List D}{vs:List PV}{i:Nat}{d:D}(r:Rps p h O ds vs)(g:ds[i]?=some d):∃v,vs[i]?=some v/\Rp p h O d v:=by
 induction ds generalizing vs i with
 | nil=>cases g
 | cons d ds ih =>
  obtain⟨x,t,e,a,b⟩:=r;subst e
  cases i with
  | zero=>cases g;exact⟨x,rfl,a⟩
  | succ i=>have z:=@ih t i b g;exact z
def Rps.app(r:Rps p h O ds vs)(s:Rps p h O es ws):Rps p h O (ds++es) (vs++ws):=by
 induction ds generalizing vs with
 | nil=>rw[show vs=[] from r];exact s
 | cons d ds ih=>obtain⟨x,t,e,a,b⟩:=r;subst e;exact⟨x,t++_,rfl,a,ih b⟩
def Rps.take(n:Nat)(r:Rps p h O ds vs):Rps p h O (ds.take n) (vs.take n):=by
 induction ds generalizing vs n with
 | nil=>rw[show vs=[] from r];cases n <;> rfl
 | cons d ds ih =>
  obtain⟨x,t,e,a,b⟩:=r;subst e
  cases n with
  | zero=>rfl
  | succ n=>exact⟨x,t.take n,rfl,a,ih n b⟩
def Rps.drop(n:Nat)(r:Rps p h O ds vs):Rps p h O (ds.drop n) (vs.drop n):=by
 induction ds generalizing vs n with
 | nil=>rw[show vs=[] from r];cases n <;> rfl
 | cons d ds ih =>
  cases n with
  | zero=>exact r
  | succ n=>obtain⟨x,t,e,a,b⟩:=r;subst e;exact ih n b
end
inductive VwO (p:Nat) (h:MH) (L:Nat) (O:List Nat) (d:D) (v:PV):Prop
 | mk (n:Nat) (xs:List PV) (ds:List D) (e:d=.lst ds) (e':v=.loc n) (o:n∈O) (l:L<=n) (g:h[n]?=some (.lst xs)) (r:Rps p h O ds xs):VwO p h L O d v
def Vw(p:Nat)(h:MH)(L:Nat)(O:List Nat)(d:D)(v:PV):Prop:=Rp p h O d v\/VwO p h L O d v
def Vws(p:Nat)(h:MH)(L:Nat)(O:List Nat):List D->List PV->Prop
 | [],vs=>vs=[]
 | d::ds,vs=>RcC (Vw p h L O d) (Vws p h L O ds) vs
inductive FrsI (p:Nat) (L:Nat) (O:List Nat) (h:MH) (ds:List D) (v:PV):Prop
 | mk (n:Nat) (xs:List PV) (e:v=.loc n) (l:L<=n) (g:h[n]?=some (.lst xs)) (r:Rps p h (n::O) ds xs):FrsI p L O h ds v
def Frs(p:Nat)(L:Nat)(O:List Nat)(h:MH)(d:D)(v:PV):Prop:=∀ds,d=.lst ds->FrsI p L O h ds v
structure KB (p:Nat) (h h':MH):Prop where
 len:h.length<=h'.length
 keep:∀n:Nat,n<h.length->n≠p->h'[n]?=h[n]?
def KB.refl(p:Nat)(h:MH):KB p h h:=⟨qai _,fun _ _ _=>rfl⟩
def KB.trans(a:KB p h h1)(b:KB p h1 h2):KB p h h2 :=
 ⟨qaJ a.len b.len,fun n hn hp=>(b.keep n (qaz hn a.len) hp).trans (a.keep n hn hp)⟩
def KB.app(p:Nat)(h g:MH):KB p h (h++g):=⟨by simp,fun n hn _=>qao hn⟩
def KB.mv(k:KB p h h')(hp:p∈O):Mv O h O h' :=
 ⟨fun n hn no=>k.keep n hn fun z=>no (z▸hp),fun o ho=>.inl ho⟩
def bS.app{p:Nat}{h g:MH}{s:Pen}(e:bS h p s):bS (h++g) p s:=by
 unfold bS at *;rw[qao (aW e)];exact e
def Vw.kb{p L:Nat}{h h':MH}{O:List Nat}{d:D}{v:PV}(k:KB p h h')(hp:p∈O)(hL:p<L)(w:Vw p h L O d v):Vw p h' L O d v:=by
 rcases w with r|⟨n,xs,ds,e1,e2,ho,hn,g,r⟩
 ·exact .inl (r.mv (k.mv hp))
 ·exact .inr ⟨n,xs,ds,e1,e2,ho,hn,(k.keep n (aW g) (by lia)).trans g,r.mv (k.mv hp)⟩
inductive PR (α:Type) where
 | ok (a:α) (s:Pen)
 | exc (c:Str) (s:Pen)
 | bad
def PR.bind{α β:Type}(r:PR α)(f:α->Pen->PR β):PR β:=match r with
 | .ok a s=>f a s
 | .exc c s=>.exc c s
 | .bad=>.bad
@[simp] theorem Pb(a:α)(s:Pen)(f:α->Pen->PR β):(PR.ok a s).bind f=f a s:=rfl
@[simp] theorem Pe(c:Str)(s:Pen)(f:α->Pen->PR β):(PR.exc c s).bind f=.exc c s:=rfl
@[simp] theorem Pd(f:α->Pen->PR β):(PR.bad:PR α).bind f=.bad:=rfl
def PR.of{α:Type}(o:Option α)(s:Pen):PR α:=match o with
 | some a=>.ok a s
 | none=>.bad
@[simp] theorem Pf(a:α)(s:Pen):PR.of (some a) s=.ok a s:=rfl
@[simp] theorem Pn(s:Pen):PR.of (none:Option α) s=.bad:=rfl
inductive OkE {α β:Type} (p:Nat) (h:MH) (o:Out β) (a:α) (s:Pen) (R:MH->α->β->Prop):Prop
 | mk (b:β) (h':MH) (e:o=.ok b h') (k:KB p h h') (n:bS h' p s) (r:R h' a b):OkE p h o a s R
inductive OkX {β:Type} (p:Nat) (h:MH) (o:Out β) (c:Str) (s:Pen):Prop
 | mk (h':MH) (e:o=.exc ⟨c,[]⟩ h') (k:KB p h h') (n:bS h' p s):OkX p h o c s
def Ok{α β:Type}(p:Nat)(h:MH)(o:Out β)(r:PR α)(R:MH->α->β->Prop):Prop:=match r with
 | .ok a s=>OkE p h o a s R
 | .exc c s=>OkX p h o c s
 | .bad=>True
def Ok.bind{α β γ δ:Type}{p:Nat}{h:MH}{o:Out β}{r:PR α}{R:MH->α->β->Prop}{f:β->MH->Out δ}{g:α->Pen->PR γ}{S:MH->γ->δ->Prop}(q:Ok p h o r R)
  (k:∀a b h1 s,KB p h h1->bS h1 p s->R h1 a b->Ok p h1 (f b h1) (g a s) S):Ok p h (o.bind f) (r.bind g) S:=by
 cases r with
 | ok a s =>
  obtain⟨b,h1,rfl,kb,pn,rr⟩:=q
  have:=k a b h1 s kb pn rr
  rw[Out.bind_ok,Pb]
  cases e:g a s with
  | ok c s2 =>
   rw[e] at this;obtain⟨d,h2,e2,kb2,pn2,r2⟩:=this;exact⟨d,h2,e2,kb.trans kb2,pn2,r2⟩
  | exc c s2 =>
   rw[e] at this;obtain⟨h2,e2,kb2,pn2⟩:=this;exact⟨h2,e2,kb.trans kb2,pn2⟩
  | bad=>trivial
 | exc c s =>
  obtain⟨h1,rfl,kb,pn⟩:=q;exact⟨h1,rfl,kb,pn⟩
 | bad=>trivial
def Ok.imp{α β:Type}{p:Nat}{h:MH}{o:Out β}{r:PR α}{R S:MH->α->β->Prop}(q:Ok p h o r R)(k:∀h' a b,KB p h h'->R h' a b->S h' a b):Ok p h o r S:=by
 cases r with
 | ok a s=>obtain⟨b,h1,e,kb,pn,rr⟩:=q;exact⟨b,h1,e,kb,pn,k _ _ _ kb rr⟩
 | exc c s=>exact q
 | bad=>trivial
structure SR (p:Nat) (h:MH) (L:Nat) (O:List Nat) (ws:List Nat) (σ:PSt) (env:aq):Prop where
 len:σ.length=env.length
 fz:∀i d,env[i]?=some (some d)->i∉ws->∃v,σ[i]?=some (some v)/\Rp p h O d v
 ow:∀i d,env[i]?=some (some d)->i∈ws->∃n xs ds,d=.lst ds/\σ[i]?=some (some (.loc n))/\n∈O/\L<=n/\h[n]?=some (.lst xs)/\Rps p h O ds xs
structure Cx (p:Nat) (h:MH) (L:Nat) (B O:List Nat) (ws:List Nat) (σ:PSt) (env:aq) (s:Pen):Prop where
 bd:∀o∈O,o<h.length
 sub:∀o∈B,o∈O
 bb:∀o∈B,o<L
 pb:p∈B
 hL:L<=h.length
 pen:bS h p s
 sr:SR p h L O ws σ env
section
variable {p L:Nat} {h h':MH} {B O ws:List Nat} {σ:PSt} {env:aq} {s s':Pen}
def Cx.pO(c:Cx p h L B O ws σ env s):p∈O:=c.sub p c.pb
def Cx.pL(c:Cx p h L B O ws σ env s):p<L:=c.bb p c.pb
def SR.mv{O':List Nat}(m:Mv O h O' h')(hs:∀o∈O,o∈O')(ho:∀n:Nat,n<h.length->L<=n->n∈O->h'[n]?=h[n]?)(r:SR p h L O ws σ env):SR p h' L O' ws σ env :=
 ⟨r.len,fun i d e hi=>let ⟨v,e1,q⟩:=r.fz i d e hi;⟨v,e1,q.mv m⟩,fun i d e hi=>let ⟨n,xs,ds,e1,e2,a,b,g,q⟩:=r.ow i d e hi;⟨n,xs,ds,e1,e2,hs n a,b,(ho n (aW g) b a).trans g,q.mv m⟩⟩
def Cx.kb(c:Cx p h L B O ws σ env s)(k:KB p h h')(pn:bS h' p s'):Cx p h' L B O ws σ env s' :=
 ⟨fun o ho=>qaz (c.bd o ho) k.len,c.sub,c.bb,c.pb,qaJ c.hL k.len,pn,c.sr.mv (k.mv c.pO) (fun _ h=>h) fun n hn hl _=>k.keep n hn (by have:=c.pL;lia)⟩
def Vw.base(w:Vw p h L O d v)(sub:∀o∈B,o∈O)(bb:∀o∈B,o<L):Rp p h B d v:=by
 have m:Mv O h B h:=⟨fun _ _ _=>rfl,fun o ho=>.inl (sub o ho)⟩;rcases w with r|⟨n,xs,ds,rfl,rfl,_,hn,g,r⟩
 ·exact r.mv m
 ·exact⟨n,xs,rfl,fun z=>by have:=bb n z;lia,g,r.mv m⟩
def Vws.base(sub:∀o∈B,o∈O)(bb:∀o∈B,o<L):∀{ds:List D} {vs:List PV},Vws p h L O ds vs->Rps p h B ds vs
 | [],_,r=>r
 | _::_,_,⟨x,t,e,a,b⟩=>⟨x,t,e,a.base sub bb,Vws.base sub bb b⟩
def Frs.rp(f:Frs p L' O h d v)(bd:∀o∈O,o<L')(e:d=.lst ds):Rp p h O d v:=by
 obtain⟨n,xs,e1,hn,g,r⟩:=f ds e;subst e;exact⟨n,xs,e1,fun z=>by have:=bd n z;lia,g,r.mv ⟨fun _ _ _=>rfl,fun o ho=>.inl (qae _ ho)⟩⟩
def Frs.le(f:Frs p L2 O h d v)(hl:L1<=L2):Frs p L1 O h d v:=fun ds e =>
 let ⟨n,xs,e1,hn,g,r⟩:=f ds e;⟨n,xs,e1,qaJ hl hn,g,r⟩
end
abbrev Bd(h:MH)(O:List Nat):Prop:=∀o∈O,o<h.length
inductive Gv (p:Nat) (h:MH) (O:List Nat) (fr:Bool) (o:Out PV) (d:D):Prop
 | mk (v:PV) (g:MH) (e:o=.ok v (h++g)) (r:Rp p (h++g) O d v) (f:fr=true->Frs p h.length O (h++g) d v):Gv p h O fr o d
structure Op1 where
 m:PV->MH->Out PV
 p:D->Option D
 fr:Bool
 ok:∀{q h L O a x d},Bd h O->Vw q h L O a x->p a=some d->Gv q h O fr (m x h) d
structure Op2 where
 m:PV->PV->MH->Out PV
 p:D->D->Option D
 fr:Bool
 ok:∀{q h L O a x b y d},Bd h O->Vw q h L O a x->Vw q h L O b y->p a b=some d->Gv q h O fr (m x y h) d
structure OpN where
 k:List PV->MH->Out PV
 p:List D->Option D
 fr:Bool
 ok:∀{q h L O as xs d},Bd h O->Vws q h L O as xs->p as=some d->Gv q h O fr (k xs h) d
structure Fn where
 m:List PV->MH->Out PV
 p:List D->Pen->PR D
 fr:Bool
 ok:∀{q h O vs ds s},Bd h O->q∈O->bS h q s->Rps q h O ds vs->Ok q h (m vs h) (p ds s) (fun h' d v=>Rp q h' O d v/\(fr=true->Frs q h.length O h' d v))
mutual
def flat:D->Bool
 | .lst _ | .dic | .exc _ | .pen=>false
 | .tup ds=>flats ds
 | _=>true
def flats:List D->Bool
 | []=>true
 | d::ds=>flat d && flats ds
end
section
variable {p:Nat} {h h':MH} {O O':List Nat}
mutual
def Rp.flat:∀{d:D} {v:PV},PU.flat d=true->Rp p h O d v->Rp p h' O' d v
 | .non,_,_,r=>r
 | .bl _,_,_,r=>r
 | .int _,_,_,r=>r
 | .str _,_,_,r=>r
 | .tup ds,_,f,⟨xs,e,r⟩=>⟨xs,e,Rps.flat (by simpa [PU.flat] using f) r⟩
 | .lst ds,_,f,_=>by simp[PU.flat] at f
 | .dic,_,f,_=>by simp[PU.flat] at f
 | .exc _,_,f,_=>by simp[PU.flat] at f
 | .pen,_,f,_=>by simp[PU.flat] at f
def Rps.flat:∀{ds:List D} {vs:List PV},PU.flats ds=true->Rps p h O ds vs->Rps p h' O' ds vs
 | [],_,_,r=>r
 | _::_,_,f,⟨x,t,e,a,b⟩=>⟨x,t,e,Rp.flat (by simp[PU.flats] at f;exact f.1) a,Rps.flat (by simp[PU.flats] at f;exact f.2) b⟩
end
end
structure Xe (ws:List Nat) where
 m:Mx PV
 p:aq->Pen->PR D
 fz:Bool
 fr:Bool
 ok:∀{q h L B O σ env s},Cx q h L B O ws σ env s->Ok q h (m σ h) (p env s) (fun h' d v=>Vw q h' L O d v/\(fz=true->Rp q h' O d v)/\(fr=true->Frs q h.length O h' d v))
structure Xs (ws:List Nat) where
 m:Mx (List PV)
 p:aq->Pen->PR (List D)
 fz:Bool
 ok:∀{q h L B O σ env s},Cx q h L B O ws σ env s->Ok q h (m σ h) (p env s) (fun h' ds vs=>Vws q h' L O ds vs/\(fz=true->Rps q h' O ds vs))
structure Xt (ws:List Nat) where
 m:Mx Bool
 p:aq->Pen->PR Bool
 ok:∀{q h L B O σ env s},Cx q h L B O ws σ env s->Ok q h (m σ h) (p env s) (fun _ a b=>a=b)
noncomputable section
variable {ws:List Nat}
def give{q L:Nat}{h h2:MH}{O:List Nat}{o:Out PV}{d:D}{s:Pen}{fr:Bool}(le:h.length<=h2.length)(pn:bS h2 q s)(g:Gv q h2 O fr o d) :
  Ok q h2 o (.ok d s) (fun h' d v=>Vw q h' L O d v/\(true=true->Rp q h' O d v)/\(fr=true->Frs q h.length O h' d v)):=by
 obtain⟨v,g,e,r,f⟩:=g;exact⟨v,h2++g,e,KB.app _ _ _,pn.app,.inl r,fun _=>r,fun z=>(f z).le le⟩
def ae(i:Nat):Xe ws where
 m:=ag i
 p:=fun env s=>match env[i]? with
  | some (some d)=>.ok d s
  | _=>.bad
 fz:=!ws.contains i
 fr:=false
 ok {q h L B O σ env s} c:=by
  show Ok q h _ (match env[i]? with | some (some d)=>PR.ok d s | _=>.bad) _
  cases e:env[i]? with
  | none=>trivial
  | some o =>
   cases o with
   | none=>trivial
   | some d =>
    by_cases z:i∈ws
    ·obtain⟨n,xs,ds,e1,e2,a,b,g,r⟩:=c.sr.ow i d e z;exact⟨.loc n,h,by simp[ag,e2],KB.refl _ _,c.pen,.inr ⟨n,xs,ds,e1,rfl,a,b,g,r⟩,fun f=>by simp[z] at f,fun f=>by simp at f⟩
    ·obtain⟨v,e1,r⟩:=c.sr.fz i d e z;exact⟨v,h,by simp[ag,e1],KB.refl _ _,c.pen,.inl r,fun _=>r,fun f=>by simp at f⟩
inductive Cn where
 | non | bl (b:Bool) | int (i:Int) | str (x:Str)
def Cn.v:Cn->PV
 | .non=>.non
 | .bl b=>.bl b
 | .int i=>.int i
 | .str x=>.str x
def Cn.d:Cn->D
 | .non=>.non
 | .bl b=>.bl b
 | .int i=>.int i
 | .str x=>.str x
def Cn.rp(c:Cn){q:Nat}{h:MH}{O:List Nat}:Rp q h O c.d c.v:=by cases c <;> rfl
def xC(k:Cn):Xe ws where
 m:=mC k.v
 p:=fun _ s=>.ok k.d s
 fz:=true
 fr:=true
 ok {q h L B O σ env s} c:=⟨k.v,h,rfl,KB.refl _ _,c.pen,.inl k.rp,fun _=>k.rp,fun _ ds e=>by cases k <;> cases e⟩
def ak(o:Op2)(a b:Xe ws):Xe ws where
 m:=aj o.m a.m b.m
 p:=fun env s=>(a.p env s).bind fun x s1=>(b.p env s1).bind fun y s2=>.of (o.p x y) s2
 fz:=true
 fr:=o.fr
 ok {q h L B O σ env s} c:=by
  refine (a.ok c).bind fun x v h1 s1 k1 p1 ⟨w1,_,_⟩=>?_;refine (b.ok (c.kb k1 p1)).bind fun y w h2 s2 k2 p2 ⟨w2,_,_⟩=>?_
  cases e:o.p x y with
  | none=>trivial
  | some d =>
   have c2:=(c.kb k1 p1).kb k2 p2;obtain⟨u,g,e1,r,f⟩:=o.ok c2.bd (w1.kb k2 c.pO c.pL) w2 e;exact give (qaJ k1.len k2.len) p2 ⟨u,g,by rw[e1];rfl,r,f⟩
def xUn(o:Op1)(a:Xe ws):Xe ws where
 m:=mUn o.m a.m
 p:=fun env s=>(a.p env s).bind fun x s1=>.of (o.p x) s1
 fz:=true
 fr:=o.fr
 ok {q h L B O σ env s} c:=by
  refine (a.ok c).bind fun x v h1 s1 k1 p1 ⟨w1,_,_⟩=>?_
  cases e:o.p x with
  | none=>trivial
  | some d =>
   obtain⟨u,g,e1,r,f⟩:=o.ok (c.kb k1 p1).bd w1 e;exact give k1.len p1 ⟨u,g,by rw[e1];rfl,r,f⟩
def xNil:Xs ws where
 m:=mNil
 p:=fun _ s=>.ok [] s
 fz:=true
 ok {q h L B O σ env s} c:=⟨[],h,rfl,KB.refl _ _,c.pen,rfl,fun _=>rfl⟩
def aa(a:Xe ws)(r:Xs ws):Xs ws where
 m:=ac a.m r.m
 p:=fun env s=>(a.p env s).bind fun x s1=>(r.p env s1).bind fun y s2=>.ok (x::y) s2
 fz:=a.fz && r.fz
 ok {q h L B O σ env s} c:=by
  refine (a.ok c).bind fun x v h1 s1 k1 p1 ⟨w1,z1,_⟩=>?_;refine (r.ok (c.kb k1 p1)).bind fun y w h2 s2 k2 p2 ⟨w2,z2⟩=>?_;refine⟨v::w,h2,rfl,KB.refl _ _,p2,⟨v,w,rfl,w1.kb k2 c.pO c.pL,w2⟩,fun f=>?_⟩;rw[qaO] at f;exact⟨v,w,rfl,(z1 f.1).mv (k2.mv c.pO),z2 f.2⟩
def xCb(o:OpN)(a:Xs ws):Xe ws where
 m:=fun σ h=>(a.m σ h).bind o.k
 p:=fun env s=>(a.p env s).bind fun x s1=>.of (o.p x) s1
 fz:=true
 fr:=o.fr
 ok {q h L B O σ env s} c:=by
  refine (a.ok c).bind fun x v h1 s1 k1 p1 ⟨w1,_⟩=>?_
  cases e:o.p x with
  | none=>trivial
  | some d=>exact give k1.len p1 (o.ok (c.kb k1 p1).bd w1 e)
def am(f:Fn)(a:Xs ws)(hz:a.fz=true:=by exact ys rfl):Xe ws where
 m:=ao f.m a.m
 p:=fun env s=>(a.p env s).bind f.p
 fz:=true
 fr:=f.fr
 ok {q h L B O σ env s} c:=by
  refine (a.ok c).bind fun x v h1 s1 k1 p1 ⟨_,z⟩=>?_;have c1:=c.kb k1 p1;refine (f.ok c1.bd c1.pO p1 (z hz)).imp fun h' d v kb ⟨r,fr⟩=>⟨.inl r,fun _=>r,fun z=>(fr z).le k1.len⟩
def lend(d:D):Bool:=match d with
 | .lst ds=>flats ds
 | d=>flat d
def xLend(f:Fn)(a:Xs ws)(hf:f.fr=true:=by exact ys rfl):Xe ws where
 m:=ao f.m a.m
 p:=fun env s=>((a.p env s).bind f.p).bind fun d s=>if lend d=true then .ok d s else .bad
 fz:=true
 fr:=true
 ok {q h L B O σ env s} c:=by
  have key:Ok q h ((a.m σ h).bind f.m) ((a.p env s).bind f.p) (fun h' d v=>Rp q h' B d v/\Frs q h.length B h' d v):=by
   refine (a.ok c).bind fun x v h1 s1 k1 p1 ⟨w,_⟩=>?_;have c1:=c.kb k1 p1;refine (f.ok (fun o ho=>qaz (c1.bb o ho) c1.hL) c1.pb p1 (w.base c1.sub c1.bb)).imp fun h' d v kb ⟨r,fr⟩=>⟨r,(fr hf).le k1.len⟩
  show Ok q h ((a.m σ h).bind f.m) _ _
  cases e:(a.p env s).bind f.p with
  | bad=>trivial
  | exc x s1=>rw[e] at key;exact key
  | ok d s1 =>
   rw[e] at key;obtain⟨v,h',e1,kb,pn,r,fr⟩:=key;rw[Pb];by_cases z:lend d=true
   ·rw[qah z];have f2:Frs q h.length O h' d v:=fun ds ed=>by
     obtain⟨n,xs,a1,a2,a3,a4⟩:=fr ds ed;subst ed;exact⟨n,xs,a1,a2,a3,Rps.flat z a4⟩
    have r2:Rp q h' O d v:=by
     cases d with
     | lst ds=>exact f2.rp c.bd rfl
     | non=>exact r
     | bl b=>exact r
     | int i=>exact r
     | str i=>exact r
     | tup i=>exact Rp.flat z r
     | dic=>cases z
     | exc _=>cases z
     | pen=>cases z
    exact⟨v,h',e1,kb,pn,.inl r2,fun _=>r2,fun _=>f2⟩
   ·rw[qan z];trivial
def d5:100000<=sizeLine:=by decide
def lj(bd:Bd h O)(r:Rps q h O ds xs)(hl:ds.length<=100000):Gv q h O true (newL xs h) (.lst ds):=by
 have hx:=r.length;have m:Mv O h O (h++[MO.lst xs]):=⟨fun n hn _=>qao hn,fun o ho=>.inl ho⟩
 have m2:Mv O h (h.length::O) (h++[MO.lst xs]):=⟨fun n hn _=>qao hn,fun o ho=>by
  rcases qak.mp ho with z|z
  ·exact .inr (by lia)
  ·exact .inl z⟩
 have g:(h++[MO.lst xs])[h.length]?=some (.lst xs):=by simp
 refine⟨.loc h.length,[.lst xs],?_,⟨_,_,rfl,fun z=>by have:=bd _ z;lia,g,r.mv m⟩,fun _ ds' e=>?_⟩
 ·unfold newL;rw[qah];have:=d5;lia
 ·cases e;exact⟨_,_,rfl,qai _,g,r.mv m2⟩
def uE(r:Rps q h O ds xs)(hl:ds.length<=100000):Gv q h O true (newT xs h) (.tup ds):=by
 have hx:=r.length;refine⟨.tup xs,[],?_,?_,fun _ ds' e=>by cases e⟩
 ·unfold newT;rw[qah (by have:=d5;lia)];simp
 ·simpa using ⟨xs,rfl,r⟩
def iq(a:Xs ws)(hz:a.fz=true:=by exact ys rfl):Xe ws where
 m:=cZ a.m
 p:=fun env s=>(a.p env s).bind fun x s1=>if x.length<=100000 then .ok (.lst x) s1 else .bad
 fz:=true
 fr:=true
 ok {q h L B O σ env s} c:=by
  refine (a.ok c).bind fun x v h1 s1 k1 p1 ⟨_,z⟩=>?_;by_cases hl:x.length<=100000
  ·rw[qah hl];exact give k1.len p1 (lj (c.kb k1 p1).bd (z hz) hl)
  ·rw[qan hl];trivial
def bv(a:Xs ws)(hz:a.fz=true:=by exact ys rfl):Xe ws where
 m:=bP a.m
 p:=fun env s=>(a.p env s).bind fun x s1=>if x.length<=100000 then .ok (.tup x) s1 else .bad
 fz:=true
 fr:=true
 ok {q h L B O σ env s} c:=by
  refine (a.ok c).bind fun x v h1 s1 k1 p1 ⟨_,z⟩=>?_;by_cases hl:x.length<=100000
  ·rw[qah hl];exact give k1.len p1 (uE (z hz) hl)
  ·rw[qan hl];trivial
def Vw.bl(w:Vw q h L O (.bl b) v):v=.bl b:=by
 rcases w with r|⟨n,xs,ds,e,_⟩
 ·exact r
 ·cases e
def PR.bl(r:PR D):PR Bool:=r.bind fun d s=>match d with
 | .bl b=>.ok b s
 | _=>.bad
@[simp] theorem Pl:(PR.ok (D.bl b) s).bl=.ok b s:=rfl
def xB(a:Xe ws):Xt ws where
 m:=mB a.m
 p:=fun env s=>(a.p env s).bl
 ok {q h L B O σ env s} c:=by
  refine (a.ok c).bind fun x v h1 s1 k1 p1 ⟨w,_,_⟩=>?_
  cases x with
  | bl b=>rw[w.bl];exact⟨b,h1,rfl,KB.refl _ _,p1,rfl⟩
  | _=>trivial
def bD(a:Xt ws):Xt ws where
 m:=cw a.m
 p:=fun env s=>(a.p env s).bind fun b s=>.ok (!b) s
 ok {q h L B O σ env s} c:=(a.ok c).bind fun x v h1 s1 k1 p1 e=>⟨!v,h1,rfl,KB.refl _ _,p1,by rw[e]⟩
def xAnd(a b:Xt ws):Xt ws where
 m:=mAnd a.m b.m
 p:=fun env s=>(a.p env s).bind fun x s=>if x=true then b.p env s else .ok false s
 ok {q h L B O σ env s} c:=(a.ok c).bind fun x v h1 s1 k1 p1 e=>by
  subst e
  cases x with
  | true=>simpa using b.ok (c.kb k1 p1)
  | false=>exact⟨false,h1,rfl,KB.refl _ _,p1,rfl⟩
def xOr(a b:Xt ws):Xt ws where
 m:=mOr a.m b.m
 p:=fun env s=>(a.p env s).bind fun x s=>if x=true then .ok true s else b.p env s
 ok {q h L B O σ env s} c:=(a.ok c).bind fun x v h1 s1 k1 p1 e=>by
  subst e
  cases x with
  | false=>simpa using b.ok (c.kb k1 p1)
  | true=>exact⟨true,h1,rfl,KB.refl _ _,p1,rfl⟩
def xTrue:Xt ws where
 m:=mTrue
 p:=fun _ s=>.ok true s
 ok {q h L B O σ env s} c:=⟨true,h,rfl,KB.refl _ _,c.pen,rfl⟩
def Ok.after{α β:Type}{p:Nat}{h h1:MH}{o:Out β}{r:PR α}{R:MH->α->β->Prop}(k:KB p h h1)(q:Ok p h1 o r R):Ok p h o r R:=by
 cases r with
 | bad=>trivial
 | exc c2 s2=>obtain⟨h2,a1,a2,a3⟩:=q;exact⟨h2,a1,k.trans a2,a3⟩
 | ok d2 s2=>obtain⟨v2,h2,a1,a2,a3,a4⟩:=q;exact⟨v2,h2,a1,k.trans a2,a3,a4⟩
def giveB(pn:bS h q s):Ok q h (.ok (.bl b) h) (.ok (.bl b) s) (fun h' d v=>Vw q h' L O d v/\(true=true->Rp q h' O d v)/\(true=true->Frs q l O h' d v)) :=
 ⟨.bl b,h,rfl,KB.refl _ _,pn,.inl rfl,fun _=>rfl,fun _ ds e=>by cases e⟩
def blOnly(k:Ok q h o r (fun h' d v=>Vw q h' L O d v/\(fz=true->Rp q h' O d v)/\(fr=true->Frs q l' O h' d v))) :
  Ok q h o (r.bl.bind fun b s=>.ok (.bl b) s) (fun h' d v=>Vw q h' L O d v/\(true=true->Rp q h' O d v)/\(true=true->Frs q l O h' d v)):=by
 cases r with
 | bad=>trivial
 | exc c s=>exact k
 | ok d s =>
  obtain⟨v,h',e,kb,pn,w,_,_⟩:=k
  cases d with
  | bl b=>exact⟨v,h',e,kb,pn,w,fun _=>by rw[w.bl];rfl,fun _ ds e=>by cases e⟩
  | _=>trivial
def cj(a b:Xe ws):Xe ws where
 m:=bZ a.m b.m
 p:=fun env s=>(a.p env s).bl.bind fun x s=>if x=true then (b.p env s).bl.bind fun y s=>.ok (.bl y) s else .ok (.bl false) s
 fz:=true
 fr:=true
 ok {q h L B O σ env s} c:=by
  have k:=a.ok c;show Ok q h ((a.m σ h).bind _) _ _
  cases e:a.p env s with
  | bad=>trivial
  | exc x s1 =>
   rw[e] at k;obtain⟨h1,e1,k1,p1⟩:=k;rw[e1];exact⟨h1,rfl,k1,p1⟩
  | ok d s1 =>
   rw[e] at k;obtain⟨v,h1,e1,k1,p1,w,_,_⟩:=k
   cases d with
   | bl x =>
    rw[w.bl] at e1;rw[e1]
    cases x with
    | true =>
     exact Ok.after k1 (blOnly (l:=h.length) (b.ok (c.kb k1 p1)))
    | false =>
     obtain⟨v2,h2,a1,a2,a3,a4⟩:=giveB (L:=L) (l:=h.length) (O:=O) (b:=false) p1;exact⟨v2,h2,a1,k1.trans a2,a3,a4⟩
   | _=>trivial
def wn(a:Xe ws):Xe ws where
 m:=nJ a.m
 p:=fun env s=>(a.p env s).bl.bind fun x s=>.ok (.bl (!x)) s
 fz:=true
 fr:=true
 ok {q h L B O σ env s} c:=by
  have k:=a.ok c;show Ok q h ((a.m σ h).bind _) _ _
  cases e:a.p env s with
  | bad=>trivial
  | exc x s1 =>
   rw[e] at k;obtain⟨h1,e1,k1,p1⟩:=k;rw[e1];exact⟨h1,rfl,k1,p1⟩
  | ok d s1 =>
   rw[e] at k;obtain⟨v,h1,e1,k1,p1,w,_,_⟩:=k
   cases d with
   | bl x =>
    rw[w.bl] at e1;rw[e1];obtain⟨v2,h2,a1,a2,a3,a4⟩:=giveB (L:=L) (l:=h.length) (O:=O) (b:=!x) p1;exact⟨v2,h2,a1,k1.trans a2,a3,a4⟩
   | _=>trivial
def rQ(f g:Op2)(a b e:Xe ws):Xe ws where
 m:=iC f.m g.m a.m b.m e.m
 p:=fun env s=>(a.p env s).bind fun x s1=>(b.p env s1).bind fun y s2=>match f.p x y with
  | some (.bl t)=>if t=true then (e.p env s2).bind fun z s3=>.of (g.p y z) s3 else .ok (.bl false) s2
  | _=>.bad
 fz:=true
 fr:=false
 ok {q h L B O σ env s} c:=by
  refine (a.ok c).bind fun x v h1 s1 k1 p1 ⟨w1,_,_⟩=>?_;refine (b.ok (c.kb k1 p1)).bind fun y w h2 s2 k2 p2 ⟨w2,_,_⟩=>?_;have c2:=(c.kb k1 p1).kb k2 p2
  cases e1:f.p x y with
  | none=>trivial
  | some d =>
   cases d with
   | bl t =>
    obtain⟨u,gg,e2,r,_⟩:=f.ok c2.bd (w1.kb k2 c.pO c.pL) w2 e1;have hu:u=.bl t:=r;subst hu;rw[e2];have k3:=KB.app q h2 gg;have c3:=c2.kb k3 p2.app
    cases t with
    | true =>
     refine Ok.after k3 ?_;show Ok q (h2++gg) ((e.m σ (h2++gg)).bind _) _ _;refine (e.ok c3).bind fun z u h3 s3 k4 p4 ⟨w3,_,_⟩=>?_
     cases e4:g.p y z with
     | none=>trivial
     | some d =>
      obtain⟨u2,g2,e5,r2,_⟩:=g.ok (c3.kb k4 p4).bd ((w2.kb k3 c.pO c.pL).kb k4 c.pO c.pL) w3 e4;refine⟨u2,h3++g2,by rw[e5];rfl,KB.app _ _ _,p4.app,.inl r2,fun _=>r2,fun f=>by simp at f⟩
    | false=>exact⟨.bl false,h2++gg,rfl,k3,p2.app,.inl rfl,fun _=>rfl,fun f=>by simp at f⟩
   | _=>trivial
end
structure Xi (ws:List Nat) where
 m:Mx MIt
 p:aq->Pen->PR (List D)
 fz:Bool
 ok:∀{q h L B O σ env s},Cx q h L B O ws σ env s->Ok q h (m σ h) (p env s) (fun h' ds it=>Rps q h' O ds it.xs/\(∀g∈it.gd,h'[g.1]?=some (.lst g.2)/\g.1≠q)/\(fz=true->∀g∈it.gd,g.1∉O))
inductive GI (q:Nat) (h:MH) (O:List Nat) (ds as:List D) (xs:List PV) (o:Out MIt):Prop
 | mk (it:MIt) (e:o=.ok it h) (r:Rps q h O ds it.xs) (g:∀g∈it.gd,h[g.1]?=some (.lst g.2)/\g.1≠q) (z:Rps q h O as xs->∀g∈it.gd,g.1∉O):GI q h O ds as xs o
structure OpI where
 k:List PV->MH->Out MIt
 p:List D->Option (List D)
 ok:∀{q h L O as xs ds},q<L->q∈O->Bd h O->Vws q h L O as xs->p as=some ds->GI q h O ds as xs (k xs h)
def D.items:D->Option (List D)
 | .lst ds=>some ds
 | .tup ds=>some ds
 | _=>none
@[simp] theorem items_lst:(D.lst ds).items=some ds:=rfl
@[simp] theorem items_tup:(D.tup ds).items=some ds:=rfl
noncomputable section
variable {ws:List Nat}
def dD(o:OpI)(a:Xs ws):Xi ws where
 m:=fun σ h=>(a.m σ h).bind o.k
 p:=fun env s=>(a.p env s).bind fun x s1=>.of (o.p x) s1
 fz:=a.fz
 ok {q h L B O σ env s} c:=by
  refine (a.ok c).bind fun x v h1 s1 k1 p1 ⟨w,z⟩=>?_
  cases e:o.p x with
  | none=>trivial
  | some ds =>
   obtain⟨it,e1,r,g1,g2⟩:=o.ok c.pL c.pO (c.kb k1 p1).bd w e;exact⟨it,h1,e1,KB.refl _ _,p1,r,g1,fun f=>g2 (z f)⟩
def Vw.seq(hq:q<L)(hO:q∈O)(w:Vw q h L O d v)(e:d.items=some ds):∃xs gd,itAny v h=.ok ⟨xs,gd⟩ h/\Rps q h O ds xs/\(∀g∈gd,h[g.1]?=some (.lst g.2)/\g.1≠q)/\(Rp q h O d v->∀g∈gd,g.1∉O):=by
 have one:∀n xs,h[n]?=some (MO.lst xs)->n≠q->(∀g∈[(n,xs)],h[g.1]?=some (MO.lst g.2)/\g.1≠q):=fun n xs g hn y hy=>by
  have:y=(n,xs):=by simpa using hy
  subst this;exact⟨g,hn⟩
 cases d with
 | lst es =>
  have:es=ds:=by simpa [D.items] using e
  subst this;rcases w with ⟨n,xs,e1,no,g,r⟩|⟨n,xs,es',e0,e1,_,hn,g,r⟩
  ·subst e1;refine⟨xs,[(n,xs)],by simp only[itAny,g],r,one n xs g (fun z=>no (z▸hO)),fun _ y hy=>?_⟩
   have:y=(n,xs):=by simpa using hy
   subst this;exact no
  ·cases e0;subst e1;refine⟨xs,[(n,xs)],by simp only[itAny,g],r,one n xs g (by lia),fun ⟨n',xs',e1,no,_,_⟩ y hy=>?_⟩
   have:y=(n,xs):=by simpa using hy
   subst this;cases e1;exact no
 | tup es =>
  have:es=ds:=by simpa [D.items] using e
  subst this;rcases w with ⟨xs,e1,r⟩|⟨n,xs,es',e0,_⟩
  ·subst e1;exact⟨xs,[],rfl,r,(fun _ hy=>nomatch hy),fun _ _ hy=>nomatch hy⟩
  ·cases e0
 | _=>simp[D.items] at e
def bf(a:Xe ws):Xi ws where
 m:=cC a.m
 p:=fun env s=>(a.p env s).bind fun x s1=>.of x.items s1
 fz:=a.fz
 ok {q h L B O σ env s} c:=by
  refine (a.ok c).bind fun x v h1 s1 k1 p1 ⟨w,z,_⟩=>?_
  cases e:x.items with
  | none=>trivial
  | some ds =>
   obtain⟨xs,gd,e1,r,g1,g2⟩:=w.seq c.pL c.pO e;exact⟨⟨xs,gd⟩,h1,e1,KB.refl _ _,p1,r,g1,fun f=>g2 (z f)⟩
structure Xg (ws:List Nat) where
 m:Mg
 p:D->aq->Option aq
 ok:∀{q h L O σ env d v env'},SR q h L O ws σ env->Rp q h O d v->p d env=some env'->∃σ',m v σ h=.nx σ' h/\SR q h L O ws σ' env'/\∀i∈ws,σ'[i]?=σ[i]?/\env'[i]?=env[i]?
structure Xgs (ws:List Nat) where
 m:Mgs
 p:List D->aq->Option aq
 ok:∀{q h L O σ env ds vs env'},SR q h L O ws σ env->Rps q h O ds vs->p ds env=some env'->∃σ',m vs σ h=.nx σ' h/\SR q h L O ws σ' env'/\∀i∈ws,σ'[i]?=σ[i]?/\env'[i]?=env[i]?
def SR.set(r:SR q h L O ws σ env)(hi:i∉ws)(w:Rp q h O d v):SR q h L O ws (σ.set i (some v)) (env.set i (some d))/\∀j∈ws,(σ.set i (some v))[j]?=σ[j]?/\(env.set i (some d))[j]?=env[j]?:=by
 have ne:∀j∈ws,i≠j:=fun j hj z=>hi (z▸hj);refine⟨⟨by simp[r.len],fun j e hj hw=>?_,fun j e hj hw=>?_⟩,fun j hj=>⟨qam (ne j hj),qam (ne j hj)⟩⟩
 ·by_cases z:i=j
  ·subst z;have hl:i<env.length:=by
    have:=(qad.mp hj).1;simpa using this
   rw[qaE hl] at hj;cases hj;exact⟨v,qaE (by rw[r.len];exact hl),w⟩
  ·rw[qam z] at hj;obtain⟨u,e1,q1⟩:=r.fz j e hj hw;exact⟨u,by rw[qam z];exact e1,q1⟩
 ·rw[qam (ne j hw)] at hj;obtain⟨n,xs,ds,e1,e2,rest⟩:=r.ow j e hj hw;exact⟨n,xs,ds,e1,by rw[qam (ne j hw)];exact e2,rest⟩
def xNm(i:Nat)(hi:ws.contains i=false:=by exact ys rfl):Xg ws where
 m:=gNm i
 p:=fun d env=>some (env.set i (some d))
 ok {q h L O σ env d v env'} r w e:=by
  cases e;have hi':i∉ws:=fun z=>by simp[z] at hi
  obtain⟨a,b⟩:=r.set hi' w;exact⟨_,rfl,a,b⟩
def xGl:Xgs ws where
 m:=gNl
 p:=fun ds env=>match ds with
  | []=>some env
  | _=>none
 ok {q h L O σ env ds vs env'} r w e:=by
  cases ds with
  | nil =>
   cases e
   have:vs=[]:=w
   subst this;exact⟨σ,rfl,r,fun _ _=>⟨rfl,rfl⟩⟩
  | cons _ _=>cases e
def xGc(a:Xg ws)(t:Xgs ws):Xgs ws where
 m:=gCn a.m t.m
 p:=fun ds env=>match ds with
  | d::ds=>(a.p d env).bind fun env1=>t.p ds env1
  | []=>none
 ok {q h L O σ env ds vs env'} r w e:=by
  cases ds with
  | nil=>cases e
  | cons d ds =>
   obtain⟨x,y,rfl,r1,r2⟩:=w;dsimp only at e
   cases e1:a.p d env with
   | none=>rw[e1] at e;cases e
   | some env1 =>
    rw[e1] at e;obtain⟨σ1,f1,s1,k1⟩:=a.ok r r1 e1;obtain⟨σ2,f2,s2,k2⟩:=t.ok s1 r2 e;exact⟨σ2,by show (a.m x σ h).then (t.m y)=_;rw[f1];exact f2,s2,fun i hi=>⟨(k2 i hi).1.trans (k1 i hi).1,(k2 i hi).2.trans (k1 i hi).2⟩⟩
def xGp(t:Xgs ws)(n:Nat):Xg ws where
 m:=gTp t.m n
 p:=fun d env=>match d with
  | .tup ds=>if ds.length=n then t.p ds env else none
  | _=>none
 ok {q h L O σ env d v env'} r w e:=by
  cases d with
  | tup ds =>
   obtain⟨xs,rfl,w⟩:=w;dsimp only at e;by_cases z:ds.length=n
   ·rw[qah z] at e;obtain⟨σ',a,b⟩:=t.ok r w e;exact⟨σ',by show (if xs.length=n then t.m xs σ h else .bad)=_;rw[qah (by rw[w.length];exact z)];exact a,b⟩
   ·rw[qan z] at e;cases e
  | _=>cases e
def cws(nv:Nat)(fm ws:List Nat):List Nat:=((List.range fm.length).filter fun j=>ws.contains (fm.getD j 0)).map (nv+·)
def cenv(nv:Nat)(fm:List Nat)(env:aq):aq:=List.replicate nv none++fm.map fun i=>(env[i]?).getD none
def PR.ne{α:Type}(r:PR α):PR α:=match r with
 | .exc _ _=>.bad
 | r=>r
@[simp] theorem PR.ne_ok(a:α)(s:Pen):(PR.ok a s).ne=.ok a s:=rfl
def cV(g:D->aq->Option aq)(t:aq->Pen->PR Bool)(e:aq->Pen->PR D):List D->aq->Pen->PR (List D)
 | [],_,s=>.ok [] s
 | d::ds,env,s=>match g d env with
  | none=>.bad
  | some env1=>(t env1 s).bind fun b s1=>if b=true then (e env1 s1).bind fun x s2=>(cV g t e ds env1 s2).bind fun r s3=>.ok (x::r) s3 else cV g t e ds env1 s1
def cget{nv:Nat}{fm:List Nat}{α:Type}{env:List (Option α)}{i:Nat}{d:α}(e:(List.replicate nv none++fm.map fun i=>(env[i]?).getD none)[i]?=some (some d)):∃j k,i=nv+j/\fm[j]?=some k/\env[k]?=some (some d):=by
 by_cases z:i<nv
 ·rw[qao (by simpa using z)] at e;simp[z] at e
 ·rw[qaC (by simp;lia)] at e;simp only[qbB,qaw] at e
  cases ek:fm[i - nv]? with
  | none=>rw[ek] at e;cases e
  | some k =>
   rw[ek] at e;simp only[qcd,Option.some.injEq] at e;refine⟨i - nv,k,by lia,ek,?_⟩
   cases z2:env[k]? with
   | none=>rw[z2] at e;cases e
   | some o=>rw[z2] at e;simp at e;rw[e]
def cput{nv:Nat}{fm:List Nat}{α:Type}{σ:List (Option α)}{j k:Nat}{v:α}(e1:fm[j]?=some k)(e2:σ[k]?=some (some v)):(List.replicate nv none++fm.map fun i=>(σ[i]?).getD none)[nv+j]?=some (some v):=by
 rw[qaC (by simp)];simp[e1,e2]
def u0(e:fm[j]?=some k):nv+j∈cws nv fm ws↔k∈ws:=by
 have hj:=(qad.mp e).1;have hk:fm.getD j 0=k:=by simp[List.getD,e]
 unfold cws;rw[qav];constructor
 ·rintro⟨a,ha,hb⟩
  have:a=j:=by lia
  subst this;rw[qbw] at ha
  have:=ha.2
  rw[hk] at this;simpa using this
 ·intro hw;exact⟨j,qbw.mpr ⟨qct.mpr hj,by rw[hk];simpa using hw⟩,rfl⟩
def SR.comp{q:Nat}{h:MH}{L:Nat}{O:List Nat}{σ:PSt}{env:aq}(nv:Nat)(fm:List Nat)(r:SR q h L O ws σ env):SR q h L O (cws nv fm ws) (cSt nv fm σ) (cenv nv fm env):=by
 refine⟨by simp[cSt,cenv],fun i d e hi=>?_,fun i d e hi=>?_⟩
 ·obtain⟨j,k,rfl,e1,e2⟩:=cget e;obtain⟨v,e3,w⟩:=r.fz k d e2 fun z=>hi ((u0 e1).mpr z);exact⟨v,cput e1 e3,w⟩
 ·obtain⟨j,k,rfl,e1,e2⟩:=cget e;obtain⟨n,xs,ds,e0,e3,w⟩:=r.ow k d e2 ((u0 e1).mp hi);exact⟨n,xs,ds,e0,cput e1 e3,w⟩
def cGo_ok(gt:Xg ws')(t:Xt ws')(e:Xe ws')(hz:e.fz=true)(hq:q<h1.length)(gd:∀g∈it.gd,h1[g.1]?=some (.lst g.2)/\g.1≠q) :
  ∀(ds:List D) (xs:List PV) (env:aq) (σ:PSt) (h:MH) (accD:List D) (acc:List PV) (s:Pen) (r:List D) (s':Pen),(∀i∈ws',∀d,env[i]?=some (some d)->∀n,σ[i]?=some (some (.loc n))->n<h1.length)->KB q h1 h->Cx q h L B (h1.length::O) ws' σ env s->Rps q h (h1.length::O) ds xs->h[h1.length]?=some (.lst acc)->Rps q h (h1.length::O) accD acc->accD.length+ds.length<=100000 ->
  cV gt.p t.p e.p ds env s=.ok r s'->∃h' zs,cGo it h1.length gt.m t.m e.m xs σ h=.ok () h'/\KB q h1 h'/\bS h' q s'/\h'[h1.length]?=some (.lst zs)/\Rps q h' (h1.length::O) (accD++r) zs:=by
 intro ds
 induction ds with
 | nil =>
  intro xs env σ h accD acc s r s' on kb c rx ga ra hl ep
  have:xs=[]:=rx
  subst this;cases ep;have ok:it.ok h:=fun g hg=>(kb.keep _ (aW (gd g hg).1) (gd g hg).2).trans (gd g hg).1;exact⟨h,acc,by rw[cGo,qah ok],kb,c.pen,ga,by simpa using ra⟩
 | cons d ds ih =>
  intro xs env σ h accD acc s r s' on kb c rx ga ra hl ep;obtain⟨x,xr,rfl,r1,r2⟩:=rx;have ok:it.ok h:=fun g hg=>(kb.keep _ (aW (gd g hg).1) (gd g hg).2).trans (gd g hg).1;rw[cV] at ep
  cases eg:gt.p d env with
  | none=>rw[eg] at ep;cases ep
  | some env1 =>
   rw[eg] at ep;dsimp only at ep;obtain⟨σ1,f1,sr1,k1⟩:=gt.ok c.sr r1 eg;have on1:∀i∈ws',∀d,env1[i]?=some (some d)->∀n,σ1[i]?=some (some (.loc n))->n<h1.length:=fun i hi d e n z=>on i hi d ((k1 i hi).2▸e) n ((k1 i hi).1▸z);have c1:Cx q h L B (h1.length::O) ws' σ1 env1 s:=⟨c.bd,c.sub,c.bb,c.pb,c.hL,c.pen,sr1⟩;have kt:=t.ok c1
   cases et:t.p env1 s with
   | bad=>rw[et] at ep;cases ep
   | exc _ _=>rw[et] at ep;cases ep
   | ok b s1 =>
    rw[et] at ep kt;obtain⟨b',h2,f2,k2,p2,eb⟩:=kt;subst eb;have c2:=c1.kb k2 p2;have mv2:Mv (h1.length::O) h (h1.length::O) h2:=k2.mv c.pO;have hn:h1.length<h.length:=aW ga;have ga2:h2[h1.length]?=some (.lst acc):=(k2.keep _ hn (by lia)).trans ga;rw[Pb] at ep
    cases b with
    | false =>
     rw[qan (by simp)] at ep;obtain⟨h',zs,a1,a2⟩:=ih xr env1 σ1 h2 accD acc s1 r s' on1 (kb.trans k2) c2 (r2.mv mv2) ga2 (ra.mv mv2) (by simp at hl;lia) ep;refine⟨h',zs,?_,a2⟩;rw[cGo,qah ok,f1];simp only[f2,Out.ne_ok,Out.bind_ok,qaf,if_false];exact a1
    | true =>
     rw[qah rfl] at ep;have ke:=e.ok c2
     cases ee:e.p env1 s1 with
     | bad=>rw[ee] at ep;cases ep
     | exc _ _=>rw[ee] at ep;cases ep
     | ok y s2 =>
      rw[ee] at ep ke;obtain⟨v,h3,f3,k3,p3,_,rv,_⟩:=ke;have rv:=rv hz;have c3:=c2.kb k3 p3;have mv3:Mv (h1.length::O) h2 (h1.length::O) h3:=k3.mv c.pO;have ga3:h3[h1.length]?=some (.lst acc):=(k3.keep _ (aW ga2) (by lia)).trans ga2;have mv4:Mv (h1.length::O) h3 (h1.length::O) (h3.set h1.length (.lst (acc++[v]))) :=
       ⟨fun n hn no=>qam (fun z=>no (by simp[z])),fun o ho=>.inl ho⟩
      have ra3:Rps q h3 (h1.length::O) (accD++[y]) (acc++[v]):=((ra.mv mv2).mv mv3).app ⟨v,[],rfl,rv,rfl⟩;rw[Pb] at ep
      cases er:cV gt.p t.p e.p ds env1 s2 with
      | bad=>rw[er] at ep;cases ep
      | exc _ _=>rw[er] at ep;cases ep
      | ok r' s3 =>
       rw[er] at ep;cases ep;have k03:KB q h1 h3:=(kb.trans k2).trans k3;have c4:Cx q (h3.set h1.length (.lst (acc++[v]))) L B (h1.length::O) ws' σ1 env1 s2:=by
        refine⟨fun o ho=>by simpa using c3.bd o ho,c3.sub,c3.bb,c3.pb,by simpa using c3.hL,?_,?_⟩
        ·unfold bS;rw[qam (by lia)];exact p3
        ·refine⟨c3.sr.len,fun i d e hi=>let ⟨v,e1,q1⟩:=c3.sr.fz i d e hi;⟨v,e1,q1.mv mv4⟩,fun i d e hi=>?_⟩;obtain⟨n,ys,es,b1,b2,b3,b4,b5,b6⟩:=c3.sr.ow i d e hi;have z:=on1 i hi d e n b2;exact⟨n,ys,es,b1,b2,b3,b4,by rw[qam (by lia)];exact b5,b6.mv mv4⟩
       obtain⟨h',zs,a1,a2,a3,a4,a5⟩:=ih xr env1 σ1 (h3.set h1.length (.lst (acc++[v]))) (accD++[y]) (acc++[v]) s2 r' _ on1 ⟨by simpa using k03.len,fun n hn hp=>by rw[qam (by lia)];exact k03.keep n hn hp⟩ c4 (((r2.mv mv2).mv mv3).mv mv4) (qaE (aW ga3)) (ra3.mv mv4) (by simp at hl ⊢;lia) er;refine⟨h',zs,?_,a2,a3,a4,by simpa using a5⟩;rw[cGo,qah ok,f1];simp only[f2,Out.ne_ok,Out.bind_ok,if_true,f3,ga3];rw[qah (by have:=d5;have:=ra.length;simp at hl;lia)];exact a1
def bh(nv:Nat)(fm:List Nat)(i:Xi ws){ws':List Nat}(g:Xg ws')(t:Xt ws')(e:Xe ws')(hw:cws nv fm ws=ws':=by exact ys rfl)(hz:e.fz=true:=by exact ys rfl):Xe ws where
 m:=bz nv fm i.m g.m t.m e.m
 p:=fun env s=>(i.p env s).bind fun ds s1=>if ds.length<=100000 then (match cV g.p t.p e.p ds (cenv nv fm env) s1 with
  | .ok r s2=>.ok (.lst r) s2
  | _=>.bad) else .bad
 fz:=true
 fr:=true
 ok {q h L B O σ env s} c:=by
  subst hw;refine (i.ok c).bind fun ds it h1 s1 k1 p1 ⟨rx,gd,_⟩=>?_;have c1:=c.kb k1 p1;by_cases hl:ds.length<=100000
  ·rw[qah hl]
   cases er:cV g.p t.p e.p ds (cenv nv fm env) s1 with
   | bad=>trivial
   | exc _ _=>trivial
   | ok r s2 =>
    have mv:Mv O h1 (h1.length::O) (h1++[MO.lst []]):=⟨fun n hn _=>qao hn,fun o ho=>by
     rcases qak.mp ho with z|z
     ·exact .inr (by lia)
     ·exact .inl z⟩
    have sr:=(c1.sr.comp nv fm).mv mv (fun o ho=>qae _ ho) fun n hn _ _=>qao hn;have c2:Cx q (h1++[MO.lst []]) L B (h1.length::O) (cws nv fm ws) (cSt nv fm σ) (cenv nv fm env) s1:=by
     refine⟨fun o ho=>?_,fun o ho=>qae _ (c.sub o ho),c.bb,c.pb,by have:=c1.hL;simp;lia,p1.app,sr⟩;rcases qak.mp ho with z|z
     ·subst z;simp
     ·have:=c1.bd o z;simp;lia
    have hq:q<h1.length:=aW p1
    obtain⟨h',zs,a1,a2,a3,a4,a5⟩:=cGo_ok g t e hz (L:=L) (B:=B) (O:=O) hq gd ds it.xs (cenv nv fm env) (cSt nv fm σ) (h1++[MO.lst []]) [] [] s1 r s2 (fun i hi d ed n en=>by
     obtain⟨n',_,_,_,b2,_,_,b5,_⟩:=(c1.sr.comp nv fm).ow i d ed hi;rw[b2] at en;cases en
     exact aW b5) (KB.app _ _ _) c2 (rx.mv mv) (by simp) rfl (by simpa using hl) er
    have f:Frs q h.length O h' (.lst r) (.loc h1.length):=fun ds e=>by
     cases e;exact⟨_,zs,rfl,k1.len,a4,by simpa using a5⟩
    have rr:=f.rp c.bd rfl;exact⟨.loc h1.length,h',by show (cGo _ _ _ _ _ _ _ _).bind _=_;rw[a1];rfl,a2,a3,.inl rr,fun _=>rr,fun _=>f⟩
  ·rw[qan hl];trivial
end
end PU
namespace PU
open PySem MM
local instance (priority:=1) cdecN4 (p:Prop):Decidable p:=Classical.propDecidable p
inductive PS where
 | nx (e:aq) (s:Pen)
 | rt (d:D) (s:Pen)
 | bk (e:aq) (s:Pen)
 | ct (e:aq) (s:Pen)
 | exc (c:Str) (e:aq) (s:Pen)
 | rse (c:Str) (e:aq) (s:Pen)
 | bad
structure Stp (q L:Nat) (h:MH) (O:List Nat) (h':MH) (O':List Nat):Prop where
 len:h.length<=h'.length
 mv:Mv O h O' h'
 sub:∀o∈O,o∈O'
 base:∀n:Nat,n<L->n≠q->h'[n]?=h[n]?
def Stp.refl(q L:Nat)(h:MH)(O:List Nat):Stp q L h O h O:=⟨qai _,⟨fun _ _ _=>rfl,fun _ h=>.inl h⟩,fun _ h=>h,fun _ _ _=>rfl⟩
def Stp.trans(a:Stp q L h O h1 O1)(b:Stp q L h1 O1 h2 O2):Stp q L h O h2 O2:=by
 refine⟨qaJ a.len b.len,⟨fun n hn no=>?_,fun o ho=>?_⟩,fun o ho=>b.sub o (a.sub o ho),fun n hn hq=>(b.base n hn hq).trans (a.base n hn hq)⟩
 ·have n1:n∉O1:=fun z=>by
   rcases a.mv.new n z with q|q
   ·exact no q
   ·lia
  exact (b.mv.keep n (qaz hn a.len) n1).trans (a.mv.keep n hn no)
 ·rcases b.mv.new o ho with z|z
  ·exact a.mv.new o z
  ·exact .inr (qaJ a.len z)
def Dis(ws:List Nat)(σ:PSt)(env:aq):Prop:=∀i j,i∈ws->j∈ws->i≠j->∀d d' n,env[i]?=some (some d)->env[j]?=some (some d')->σ[i]?=some (some (.loc n))->σ[j]?≠some (some (.loc n))
inductive Nxt (q L:Nat) (h:MH) (B O ws:List Nat) (σ':PSt) (h':MH) (env:aq) (s:Pen):Prop
 | mk (O':List Nat) (a:Stp q L h O h' O') (c:Cx q h' L B O' ws σ' env s) (d:Dis ws σ' env):Nxt q L h B O ws σ' h' env s
inductive SNx (q L:Nat) (h:MH) (B O ws:List Nat) (f:PSt->MH->SOut) (o:SOut) (env:aq) (s:Pen):Prop
 | mk (σ':PSt) (h':MH) (e:o=f σ' h') (n:Nxt q L h B O ws σ' h' env s):SNx q L h B O ws f o env s
inductive SRt (q L:Nat) (h:MH) (B:List Nat) (fr:Bool) (o:SOut) (d:D) (s:Pen):Prop
 | mk (v:PV) (h':MH) (e:o=.rt v h') (l:h.length<=h'.length) (b:∀n:Nat,n<L->n≠q->h'[n]?=h[n]?) (p:bS h' q s) (r:Rp q h' B d v) (f:fr=true->Frs q L B h' d v):SRt q L h B fr o d s
def SOk(q L:Nat)(h:MH)(B O ws:List Nat)(fr:Bool)(o:SOut)(r:PS):Prop:=match r with
 | .nx env s=>SNx q L h B O ws .nx o env s
 | .bk env s=>SNx q L h B O ws .bk o env s
 | .ct env s=>SNx q L h B O ws .ct o env s
 | .exc c env s=>SNx q L h B O ws (.exc ⟨c,[]⟩) o env s
 | .rse c env s=>SNx q L h B O ws (.rse ⟨c,[]⟩) o env s
 | .rt d s=>SRt q L h B fr o d s
 | .bad=>True
structure Xd (ws:List Nat) where
 m:Mst
 p:aq->Pen->PS
 fr:Bool
 ok:∀{q h L B O σ env s},Cx q h L B O ws σ env s->Dis ws σ env->SOk q L h B O ws fr (m σ h) (p env s)
def Nxt.after(a:Stp q L h O h1 O1)(n:Nxt q L h1 B O1 ws σ' h' env s):Nxt q L h B O ws σ' h' env s :=
 let ⟨O',b,c,d⟩:=n;⟨O',a.trans b,c,d⟩
def SOk.after(a:Stp q L h O h1 O1)(k:SOk q L h1 B O1 ws fr o r):SOk q L h B O ws fr o r:=by
 cases r with
 | nx env s=>obtain⟨σ',h',e,n⟩:=k;exact⟨σ',h',e,n.after a⟩
 | bk env s=>obtain⟨σ',h',e,n⟩:=k;exact⟨σ',h',e,n.after a⟩
 | ct env s=>obtain⟨σ',h',e,n⟩:=k;exact⟨σ',h',e,n.after a⟩
 | exc c env s=>obtain⟨σ',h',e,n⟩:=k;exact⟨σ',h',e,n.after a⟩
 | rse c env s=>obtain⟨σ',h',e,n⟩:=k;exact⟨σ',h',e,n.after a⟩
 | rt d s=>obtain⟨v,h',e,l,b,r1,r2,r3⟩:=k;exact⟨v,h',e,qaJ a.len l,fun n hn hq=>(b n hn hq).trans (a.base n hn hq),r1,r2,r3⟩
 | bad=>trivial
def SOk.fr(hf:f'=true->f=true)(k:SOk q L h B O ws f o r):SOk q L h B O ws f' o r:=by
 cases r with
 | rt d s=>obtain⟨v,h',e,l,b,p,r,z⟩:=k;exact⟨v,h',e,l,b,p,r,fun y=>z (hf y)⟩
 | nx env s=>exact k
 | bk env s=>exact k
 | ct env s=>exact k
 | exc c env s=>exact k
 | rse c env s=>exact k
 | bad=>trivial
def KB.stp(c:Cx q h L B O ws σ env s)(k:KB q h h'):Stp q L h O h' O :=
 ⟨k.len,k.mv c.pO,fun _ h=>h,fun n hn hq=>k.keep n (qaz hn c.hL) hq⟩
def PR.go{α:Type}(r:PR α)(env:aq)(k:α->aq->Pen->PS):PS:=match r with
 | .ok a s=>k a env s
 | .exc c s=>.exc c env s
 | .bad=>.bad
@[simp] theorem Pg(a:α)(s:Pen)(env:aq)(k:α->aq->Pen->PS):(PR.ok a s).go env k=k a env s:=rfl
@[simp] theorem PR.go_exc(c:Str)(s:Pen)(env:aq)(k:α->aq->Pen->PS):(PR.exc c s:PR α).go env k=.exc c env s:=rfl
@[simp] theorem PR.go_bad(env:aq)(k:α->aq->Pen->PS):(PR.bad:PR α).go env k=.bad:=rfl
theorem SOk.ex{α β:Type}{q L:Nat}{h:MH}{B O ws:List Nat}{fr:Bool}{σ:PSt}{env:aq}{s:Pen}{o:Out β}{r:PR α}{R:MH->α->β->Prop}{f:β->Mst}{g:α->aq->Pen->PS}(c:Cx q h L B O ws σ env s)(d:Dis ws σ env)(k:Ok q h o r R)
  (n:∀a b h1 s1,KB q h h1->Cx q h1 L B O ws σ env s1->R h1 a b->SOk q L h1 B O ws fr (f b σ h1) (g a env s1)) :
  SOk q L h B O ws fr (o.go σ f) (r.go env g):=by
 cases r with
 | ok a s1 =>
  obtain⟨b,h1,rfl,kb,pn,rr⟩:=k;exact (n a b h1 s1 kb (c.kb kb pn) rr).after (kb.stp c)
 | exc x s1 =>
  obtain⟨h1,rfl,kb,pn⟩:=k;exact⟨σ,h1,rfl,O,kb.stp c,c.kb kb pn,d⟩
 | bad=>trivial
noncomputable section
variable {ws:List Nat}
def PS.then(r:PS)(k:aq->Pen->PS):PS:=match r with
 | .nx env s=>k env s
 | r=>r
@[simp] theorem aG:(PS.nx env s).then k=k env s:=rfl
@[simp] theorem then_rt:(PS.rt d s).then k=.rt d s:=rfl
@[simp] theorem then_bk:(PS.bk env s).then k=.bk env s:=rfl
@[simp] theorem then_ct:(PS.ct env s).then k=.ct env s:=rfl
@[simp] theorem zI:(PS.exc c env s).then k=.exc c env s:=rfl
@[simp] theorem zS:(PS.rse c env s).then k=.rse c env s:=rfl
@[simp] theorem zG:PS.bad.then k=.bad:=rfl
def aN(a b:Xd ws):Xd ws where
 m:=aw a.m b.m
 p:=fun env s=>(a.p env s).then b.p
 fr:=a.fr && b.fr
 ok {q h L B O σ env s} c d:=by
  have k:=a.ok c d;show SOk q L h B O ws _ ((a.m σ h).then b.m) _
  cases e:a.p env s with
  | nx env1 s1 =>
   rw[e] at k;obtain⟨σ1,h1,e1,O1,st,c1,d1⟩:=k;rw[e1];exact ((b.ok c1 d1).fr (by simp)).after st
  | rt x s1=>rw[e] at k;obtain⟨v,h',e1,r1,r2,r3,r4,r5⟩:=k;rw[e1];exact SOk.fr (f:=a.fr) (by simp;exact fun h _=>h) (show SOk q L h B O ws a.fr (.rt v h') (.rt x s1) from⟨v,h',rfl,r1,r2,r3,r4,r5⟩)
  | bk env1 s1=>rw[e] at k;obtain⟨σ',h',e1,r⟩:=k;rw[e1];exact⟨σ',h',rfl,r⟩
  | ct env1 s1=>rw[e] at k;obtain⟨σ',h',e1,r⟩:=k;rw[e1];exact⟨σ',h',rfl,r⟩
  | exc x env1 s1=>rw[e] at k;obtain⟨σ',h',e1,r⟩:=k;rw[e1];exact⟨σ',h',rfl,r⟩
  | rse x env1 s1=>rw[e] at k;obtain⟨σ',h',e1,r⟩:=k;rw[e1];exact⟨σ',h',rfl,r⟩
  | bad=>trivial
def xSkip:Xd ws where
 m:=mSkip
 p:=.nx
 fr:=true
 ok {q h L B O σ env s} c d:=⟨σ,h,rfl,O,Stp.refl _ _ _ _,c,d⟩
def ret_go{m:Mx PV}{σ:PSt}{h:MH}:aI m σ h=(m σ h).go σ fun v _ h'=>.rt v h':=by unfold aI;cases m σ h <;> rfl
def aV(e:Xe ws):Xd ws where
 m:=aI e.m
 p:=fun env s=>(e.p env s).go env fun d _ s=>.rt d s
 fr:=e.fr
 ok {q h L B O σ env s} c d:=by
  rw[ret_go];refine SOk.ex (f:=fun v _ h'=>.rt v h') (g:=fun d _ s=>.rt d s) c d (e.ok c) fun x v h1 s1 kb c1 ⟨w,z,f⟩=>?_;refine⟨v,h1,rfl,qai _,fun _ _ _=>rfl,c1.pen,w.base c1.sub c1.bb,fun y=>?_⟩;intro ds ed;obtain⟨n,xs,a1,a2,a3,a4⟩:=f y ds ed
  have:=c.hL
  exact⟨n,xs,a1,by lia,a3,a4.mv ⟨fun _ _ _=>rfl,fun o ho=>.inl (by
   rcases qak.mp ho with z|z
   ·subst z;simp
   ·exact qae _ (c.sub o z))⟩⟩
def xRetO(i:Nat)(hi:ws.contains i=true:=by exact ys rfl):Xd ws where
 m:=aI (ag i)
 p:=fun env s=>match env[i]? with
  | some (some d)=>.rt d s
  | _=>.bad
 fr:=true
 ok {q h L B O σ env s} c d:=by
  show SOk q L h B O ws _ _ (match env[i]? with | some (some d)=>PS.rt d s | _=>.bad)
  cases e:env[i]? with
  | none=>trivial
  | some o =>
   cases o with
   | none=>trivial
   | some x =>
    obtain⟨n,xs,ds,e1,e2,a,b,g,r⟩:=c.sr.ow i x e (by simpa using hi);subst e1
    have m1:Mv O h (n::B) h:=⟨fun _ _ _=>rfl,fun o ho=>.inl (by
     rcases qak.mp ho with z|z
     ·subst z;exact a
     ·exact c.sub o z)⟩
    have f:Frs q L B h (.lst ds) (.loc n):=fun ds' e=>by cases e;exact⟨n,xs,rfl,b,g,r.mv m1⟩
    refine⟨.loc n,h,by simp[aI,ag,e2],qai _,fun _ _ _=>rfl,c.pen,f.rp c.bb rfl,fun _=>f⟩
def vX(e:Xe ws):Xd ws where
 m:=cF e.m
 p:=fun env s=>(e.p env s).go env fun _=>.nx
 fr:=true
 ok {q h L B O σ env s} c d:=SOk.ex (f:=fun _=>mSkip) (g:=fun _=>.nx) c d (e.ok c) fun x v h1 s1 kb c1 _=>⟨σ,h1,rfl,O,Stp.refl _ _ _ _,c1,d⟩
def xIf(t:Xt ws)(a b:Xd ws):Xd ws where
 m:=mIf t.m a.m b.m
 p:=fun env s=>(t.p env s).go env fun x env s=>if x=true then a.p env s else b.p env s
 fr:=a.fr && b.fr
 ok {q h L B O σ env s} c d:=SOk.ex (f:=fun x=>if x=true then a.m else b.m) (g:=fun x env s=>if x=true then a.p env s else b.p env s) c d (t.ok c) fun x v h1 s1 kb c1 e=>by
  subst e
  cases x with
  | true=>exact (a.ok c1 d).fr (by simp;exact fun h _=>h)
  | false=>exact (b.ok c1 d).fr (by simp)
def Dis.keep(d:Dis ws σ env)(k:∀i∈ws,σ'[i]?=σ[i]?/\env'[i]?=env[i]?):Dis ws σ' env':=fun i j hi hj ne x y n a b e=>by
 rw[(k i hi).1] at e;rw[(k i hi).2] at a;rw[(k j hj).2] at b;rw[(k j hj).1];exact d i j hi hj ne x y n a b e
def b8(i:Nat)(e:Xe ws)(hi:ws.contains i=false:=by exact ys rfl)(hz:e.fz=true:=by exact ys rfl):Xd ws where
 m:=aY i e.m
 p:=fun env s=>(e.p env s).go env fun d env s=>.nx (env.set i (some d)) s
 fr:=true
 ok {q h L B O σ env s} c d:=by
  refine SOk.ex (f:=fun v σ h=>.nx (σ.set i (some v)) h) (g:=fun d env s=>.nx (env.set i (some d)) s) c d (e.ok c) fun x v h1 s1 kb c1 ⟨_,z,_⟩=>?_;obtain⟨a,b⟩:=c1.sr.set (i:=i) (fun z=>by simp[z] at hi) (z hz);exact⟨_,h1,rfl,O,Stp.refl _ _ _ _,⟨c1.bd,c1.sub,c1.bb,c1.pb,c1.hL,c1.pen,a⟩,d.keep b⟩
def nq(i:Nat)(e:Xe ws)(hi:ws.contains i=true:=by exact ys rfl)(hz:e.fr=true:=by exact ys rfl):Xd ws where
 m:=aY i e.m
 p:=fun env s=>(e.p env s).go env fun d env s=>match d with
  | .lst ds=>.nx (env.set i (some (.lst ds))) s
  | _=>.bad
 fr:=true
 ok {q h L B O σ env s} c d:=by
  show SOk q L h B O ws _ _ _;have k:=e.ok c;show SOk q L h B O ws _ ((e.m σ h).go σ fun v σ h=>.nx (σ.set i (some v)) h) _
  cases ee:e.p env s with
  | bad=>trivial
  | exc x s1 =>
   rw[ee] at k;obtain⟨h1,e1,kb,pn⟩:=k;rw[e1];exact⟨σ,h1,rfl,O,kb.stp c,c.kb kb pn,d⟩
  | ok x s1 =>
   rw[ee] at k;obtain⟨v,h1,e1,kb,pn,_,_,f⟩:=k;rw[e1]
   cases x with
   | lst ds =>
    obtain⟨n,xs,rfl,hn,g,r⟩:=f hz ds rfl;have c1:=c.kb kb pn;have hi':i∈ws:=by simpa using hi
    have mv:Mv O h (n::O) h1:=⟨fun m hm no=>kb.keep m hm fun z=>no (z▸c.pO),fun o ho=>by
     rcases qak.mp ho with z|z
     ·exact .inr (by lia)
     ·exact .inl z⟩
    have hnO:n∉O:=fun z=>by have:=c.bd n z;lia
    refine⟨σ.set i (some (.loc n)),h1,rfl,n::O,⟨kb.len,mv,fun o ho=>qae _ ho,fun m hm hq=>kb.keep m (qaz hm c.hL) hq⟩,⟨fun o ho=>?_,fun o ho=>qae _ (c.sub o ho),c.bb,c.pb,c1.hL,pn,?_⟩,?_⟩
    ·rcases qak.mp ho with z|z
     ·subst z;exact aW g
     ·exact c1.bd o z
    ·have sr:=c.sr.mv mv (fun o ho=>qae _ ho) fun m hm hl _=>kb.keep m hm (by have:=c.pL;lia);refine⟨by simp[sr.len],fun j x ej hj=>?_,fun j x ej hj=>?_⟩
     ·have ne:i≠j:=fun z=>hj (z▸hi');rw[qam ne] at ej;rw[qam ne];exact sr.fz j x ej hj
     ·by_cases z:i=j
      ·subst z;have hl:i<env.length:=by have:=(qad.mp ej).1;simpa using this
       rw[qaE hl] at ej;cases ej;exact⟨n,xs,ds,rfl,qaE (by rw[sr.len];exact hl),by simp,by have:=c.hL;lia,g,r⟩
      ·rw[qam z] at ej;rw[qam z];exact sr.ow j x ej hj
    ·have old:∀j d,j∈ws->i≠j->(env.set i (some (.lst ds)))[j]?=some (some d)->(σ.set i (some (.loc n)))[j]?≠some (some (.loc n)):=fun j d hj ne ej z=>by
      rw[qam ne] at ej z;obtain⟨n',_,_,_,b2,b3,_⟩:=c.sr.ow j d ej hj;rw[z] at b2;cases b2;exact hnO b3
     intro a b ha hb ne x y m ea eb es;by_cases z1:i=a
     ·subst z1;have hl:i<σ.length:=by have:=(qad.mp es).1;simpa using this
      rw[qaE hl] at es;cases es;exact old b y hb ne eb
     ·by_cases z2:i=b
      ·subst z2;intro z;have hl:i<σ.length:=by have:=(qad.mp z).1;simpa using this
       rw[qaE hl] at z;cases z;exact old a x ha z1 ea es
      ·rw[qam z1] at ea es;rw[qam z2] at eb ⊢;exact d a b ha hb ne x y m ea eb es
   | _=>trivial
def iG(x:Str)(a:Xs ws):Xd ws where
 m:=fy x a.m
 p:=fun env s=>(a.p env s).go env fun ds env s=>if ds.length<=100000 then .rse x env s else .bad
 fr:=true
 ok {q h L B O σ env s} c d:=by
  refine SOk.ex (f:=fun (vs:List PV) σ h=>if vs.length<=sizeLine then .rse ⟨x,[]⟩ σ h else .bad) (g:=fun (ds:List D) env s=>if ds.length<=100000 then .rse x env s else .bad) c d (a.ok c) fun ds vs h1 s1 kb c1 ⟨w,_⟩=>?_;have hl:∀{ds:List D} {vs:List PV},Vws q h1 L O ds vs->vs.length=ds.length:=by
   intro ds
   induction ds with
   | nil=>intro vs w;rw[show vs=[] from w];rfl
   | cons d ds ih=>intro vs w;obtain⟨x,r,e,_,b⟩:=w;rw[e,qbj,qbj,ih b]
  by_cases z:ds.length<=100000
  ·rw[qah z,qah (by have:=d5;rw[hl w];lia)];exact⟨σ,h1,rfl,O,Stp.refl _ _ _ _,c1,d⟩
  ·rw[qan z];trivial
end
end PU
namespace PU
open PySem MM
open L2 (ixN)
local instance (priority:=1) cdecN5 (p:Prop):Decidable p:=Classical.propDecidable p
noncomputable section
variable {ws:List Nat}
def PS.turn(r:PS)(k:aq->Pen->PS):PS:=match r with
 | .nx e s=>k e s
 | .ct e s=>k e s
 | .bk e s=>.nx e s
 | r=>r
@[simp] theorem turn_nx:(PS.nx e s).turn k=k e s:=rfl
@[simp] theorem turn_ct:(PS.ct e s).turn k=k e s:=rfl
@[simp] theorem turn_bk:(PS.bk e s).turn k=.nx e s:=rfl
@[simp] theorem turn_rt:(PS.rt d s).turn k=.rt d s:=rfl
@[simp] theorem yY:(PS.exc c e s).turn k=.exc c e s:=rfl
@[simp] theorem Ac:(PS.rse c e s).turn k=.rse c e s:=rfl
@[simp] theorem turn_bad:PS.bad.turn k=.bad:=rfl
def pGo(g:D->aq->Option aq)(b:aq->Pen->PS):List D->aq->Pen->PS
 | [],env,s=>.nx env s
 | d::ds,env,s=>match g d env with
  | none=>.bad
  | some env1=>(b env1 s).turn (pGo g b ds)
def mGo_ok(g:Xg ws)(b:Xd ws):∀(ds:List D) (xs:List PV) (env:aq) (σ:PSt) (h:MH) (O:List Nat) (s:Pen),Cx q h L B O ws σ env s->Dis ws σ env->Rps q h O ds xs->(∀y∈it.gd,h[y.1]?=some (.lst y.2)/\y.1∉O) ->
  SOk q L h B O ws b.fr (mGo it g.m b.m xs σ h) (pGo g.p b.p ds env s):=by
 intro ds
 induction ds with
 | nil =>
  intro xs env σ h O s c d r gd
  have:xs=[]:=r
  subst this;have ok:it.ok h:=fun y hy=>(gd y hy).1;refine⟨σ,h,by rw[mGo];dsimp only;rw[qah ok],O,Stp.refl _ _ _ _,c,d⟩
 | cons x ds ih =>
  intro xs env σ h O s c d r gd;obtain⟨v,xr,rfl,r1,r2⟩:=r;have ok:it.ok h:=fun y hy=>(gd y hy).1;rw[pGo]
  cases eg:g.p x env with
  | none=>trivial
  | some env1 =>
   obtain⟨σ1,f1,sr,k⟩:=g.ok c.sr r1 eg;have c1:Cx q h L B O ws σ1 env1 s:=⟨c.bd,c.sub,c.bb,c.pb,c.hL,c.pen,sr⟩;have kb:=b.ok c1 (d.keep k)
   have em:mGo it g.m b.m (v::xr) σ h=(match b.m σ1 h with
    | .nx σ2 h2=>mGo it g.m b.m xr σ2 h2
    | .ct σ2 h2=>mGo it g.m b.m xr σ2 h2
    | .bk σ2 h2=>.nx σ2 h2
    | .rt v h2=>.rt v h2
    | .exc e σ2 h2=>.exc e σ2 h2
    | .rse e σ2 h2=>.rse e σ2 h2
    | .bad=>.bad):=by rw[mGo];dsimp only;(rw[qah ok,f1]) <;> rfl
   rw[em];have gd':∀{h2:MH} {O2:List Nat},Stp q L h O h2 O2->∀y∈it.gd,h2[y.1]?=some (.lst y.2)/\y.1∉O2:=fun st y hy=>by
    obtain⟨a,b⟩:=st.mv.get (gd y hy).1 (gd y hy).2;exact⟨b,a⟩
   dsimp only
   cases eb:b.p env1 s with
   | bad=>trivial
   | nx e2 s2 =>
    rw[eb] at kb;obtain⟨σ2,h2,e1,O2,st,c2,d2⟩:=kb;rw[e1];exact (ih xr e2 σ2 h2 O2 s2 c2 d2 (r2.mv st.mv) (gd' st)).after st
   | ct e2 s2 =>
    rw[eb] at kb;obtain⟨σ2,h2,e1,O2,st,c2,d2⟩:=kb;rw[e1];exact (ih xr e2 σ2 h2 O2 s2 c2 d2 (r2.mv st.mv) (gd' st)).after st
   | bk e2 s2=>rw[eb] at kb;obtain⟨σ2,h2,e1,r⟩:=kb;rw[e1];exact⟨σ2,h2,rfl,r⟩
   | exc x e2 s2=>rw[eb] at kb;obtain⟨σ2,h2,e1,r⟩:=kb;rw[e1];exact⟨σ2,h2,rfl,r⟩
   | rse x e2 s2=>rw[eb] at kb;obtain⟨σ2,h2,e1,r⟩:=kb;rw[e1];exact⟨σ2,h2,rfl,r⟩
   | rt x s2=>rw[eb] at kb;obtain⟨v,h2,e1,r1,r2,r3,r4,r5⟩:=kb;rw[e1];exact⟨v,h2,rfl,r1,r2,r3,r4,r5⟩
def eX(i:Xi ws)(g:Xg ws)(b:Xd ws)(hz:i.fz=true:=by exact ys rfl):Xd ws where
 m:=eS i.m g.m b.m
 p:=fun env s=>(i.p env s).go env fun ds env s=>pGo g.p b.p ds env s
 fr:=b.fr
 ok {q h L B O σ env s} c d:=SOk.ex (f:=fun it=>mGo it g.m b.m it.xs) (g:=fun ds env s=>pGo g.p b.p ds env s) c d (i.ok c) fun ds it h1 s1 kb c1 r =>
  mGo_ok g b ds it.xs env σ h1 O s1 c1 d r.1 fun y hy=>⟨(r.2.1 y hy).1,r.2.2 hz y hy⟩
def cU(t:aq->Pen->PR Bool)(b:aq->Pen->PS):Nat->aq->Pen->PS
 | 0,_,_=>.bad
 | n+1,env,s=>(t env s).go env fun x env s=>if x=true then (b env s).turn (cU t b n) else .nx env s
def oO(t:Xt ws)(b:Xd ws):∀(n:Nat) (env:aq) (σ:PSt) (h:MH) (O:List Nat) (s:Pen),Cx q h L B O ws σ env s->Dis ws σ env->SOk q L h B O ws b.fr (bC t.m b.m n σ h) (cU t.p b.p n env s)
 | 0,env,σ,h,O,s,c,d=>trivial
 | n+1,env,σ,h,O,s,c,d=>by
  refine SOk.ex (f:=fun x=>if x=true then (fun σ h=>match b.m σ h with
   | .nx σ2 h2=>bC t.m b.m n σ2 h2
   | .ct σ2 h2=>bC t.m b.m n σ2 h2
   | .bk σ2 h2=>.nx σ2 h2
   | .rt v h2=>.rt v h2
   | .exc e σ2 h2=>.exc e σ2 h2
   | .rse e σ2 h2=>.rse e σ2 h2
   | .bad=>.bad) else mSkip) (g:=fun x env s=>if x=true then (b.p env s).turn (cU t.p b.p n) else .nx env s) c d (t.ok c) fun x v h1 s1 kb c1 e=>?_
  subst e
  cases x with
  | false=>exact⟨σ,h1,rfl,O,Stp.refl _ _ _ _,c1,d⟩
  | true =>
   have k:=b.ok c1 d;rw[qah rfl,qah rfl]
   cases eb:b.p env s1 with
   | bad=>trivial
   | nx e2 s2 =>
    rw[eb] at k;obtain⟨σ2,h2,e1,O2,st,c2,d2⟩:=k;rw[e1];exact (oO t b n e2 σ2 h2 O2 s2 c2 d2).after st
   | ct e2 s2 =>
    rw[eb] at k;obtain⟨σ2,h2,e1,O2,st,c2,d2⟩:=k;rw[e1];exact (oO t b n e2 σ2 h2 O2 s2 c2 d2).after st
   | bk e2 s2=>rw[eb] at k;obtain⟨σ2,h2,e1,r⟩:=k;rw[e1];exact⟨σ2,h2,rfl,r⟩
   | exc x e2 s2=>rw[eb] at k;obtain⟨σ2,h2,e1,r⟩:=k;rw[e1];exact⟨σ2,h2,rfl,r⟩
   | rse x e2 s2=>rw[eb] at k;obtain⟨σ2,h2,e1,r⟩:=k;rw[e1];exact⟨σ2,h2,rfl,r⟩
   | rt x s2=>rw[eb] at k;obtain⟨v,h2,e1,r1,r2,r3,r4,r5⟩:=k;rw[e1];exact⟨v,h2,rfl,r1,r2,r3,r4,r5⟩
def xWh(N:Nat)(t:Xt ws)(b:Xd ws)(hm:∀{σ h n},bC t.m b.m n σ h≠.bad->mWh t.m b.m σ h=bC t.m b.m n σ h):Xd ws where
 m:=mWh t.m b.m
 p:=cU t.p b.p N
 fr:=b.fr
 ok {q h L B O σ env s} c d:=by
  have k:=oO t b N env σ h O s c d;by_cases z:bC t.m b.m N σ h=.bad
  ·rw[z] at k
   cases e:cU t.p b.p N env s with
   | bad=>trivial
   | nx e2 s2=>rw[e] at k;obtain⟨_,_,e1,_⟩:=k;cases e1
   | ct e2 s2=>rw[e] at k;obtain⟨_,_,e1,_⟩:=k;cases e1
   | bk e2 s2=>rw[e] at k;obtain⟨_,_,e1,_⟩:=k;cases e1
   | exc x e2 s2=>rw[e] at k;obtain⟨_,_,e1,_⟩:=k;cases e1
   | rse x e2 s2=>rw[e] at k;obtain⟨_,_,e1,_⟩:=k;cases e1
   | rt x s2=>rw[e] at k;obtain⟨_,_,e1,_⟩:=k;cases e1
  ·rw[hm z];exact k
structure OpM where
 m:Nat->List PV->MH->Out PV
 p:List D->List D->Option (D × List D)
 ok:∀{q:Nat} {h:MH} {O:List Nat} {n:Nat} {xs:List PV} {ds as:List D} {vs:List PV} {d:D} {ds':List D},h[n]?=some (.lst xs)->Rps q h O ds xs->Rps q h O as vs->p ds as=some (d,ds')->∃v xs',m n vs h=.ok v (h.set n (.lst xs'))/\Rps q h O ds' xs'/\Rp q h O d v
def own_set{q h L B O σ env s n xs' ds' i ds}(c:Cx q h L B O ws σ env s)(d:Dis ws σ env)(hi:i∈ws)(e:env[i]?=some (some (D.lst ds)))(es:σ[i]?=some (some (.loc n)))(r:Rps q h O ds' xs') :
  Nxt q L h B O ws σ (h.set n (.lst xs')) (env.set i (some (.lst ds'))) s:=by
 obtain⟨n',xs,ds0,e0,e2,a,b,g,r0⟩:=c.sr.ow i _ e hi;rw[es] at e2;cases e2;have mv:Mv O h O (h.set n (.lst xs')):=⟨fun m hm no=>qam (fun (z:n=m)=>no (z▸a)),fun o ho=>.inl ho⟩;have hp:=c.pL;have il:i<env.length:=(qad.mp e).1;refine⟨O,⟨by simp,mv,fun _ h=>h,fun m hm _=>qam (by lia)⟩,⟨fun o ho=>by simpa using c.bd o ho,c.sub,c.bb,c.pb,by simpa using c.hL,?_,⟨by simp[c.sr.len],fun j x ej hj=>?_,fun j x ej hj=>?_⟩⟩,?_⟩
 ·unfold bS;rw[qam (by lia)];exact c.pen
 ·have ne:i≠j:=fun z=>hj (z▸hi);rw[qam ne] at ej;obtain⟨v,e1,w⟩:=c.sr.fz j x ej hj;exact⟨v,e1,w.mv mv⟩
 ·by_cases z:i=j
  ·subst z;rw[qaE il] at ej;cases ej;exact⟨n,xs',ds',rfl,es,a,b,qaE (aW g),r.mv mv⟩
  ·rw[qam z] at ej;obtain⟨m,ys,es',e1,e3,b3,b4,b5,b6⟩:=c.sr.ow j x ej hj
   have:n≠m:=fun y=>d i j hi hj z _ _ n e ej es (y▸e3)
   exact⟨m,ys,es',e1,e3,b3,b4,by rw[qam this];exact b5,b6.mv mv⟩
 ·intro j k hj hk ne x y m ej ek e1;have up:∀j x,(env.set i (some (D.lst ds')))[j]?=some (some x)->∃x',env[j]?=some (some x'):=fun j x ej=>by
   by_cases z:i=j
   ·subst z;exact⟨_,e⟩
   ·rw[qam z] at ej;exact⟨x,ej⟩
  obtain⟨x',ej'⟩:=up j x ej;obtain⟨y',ek'⟩:=up k y ek;exact d j k hj hk ne x' y' m ej' ek' e1
def mt_ok(o:OpM)(i:Nat)(a:Xs ws)(hi:i∈ws)(hz:a.fz=true){q h L B O σ env s}(c:Cx q h L B O ws σ env s)(d:Dis ws σ env)
  (ea:a.p env s=.ok as s1) (ei:env[i]?=some (some (.lst ds))) (eo:o.p ds as=some (r,ds')):∃v h1 n xs',KB q h h1/\Cx q h1 L B O ws σ env s1/\σ[i]?=some (some (.loc n))/\mMt o.m (ag i) a.m σ h=.ok v (h1.set n (.lst xs'))/\Rps q h1 O ds' xs'/\Rp q h1 O r v:=by
 obtain⟨n,xs,ds0,e0,e2,b1,b2,g,r0⟩:=c.sr.ow i _ ei hi;cases e0;have ka:=a.ok c;rw[ea] at ka;obtain⟨vs,h1,e3,kb,pn,_,rv⟩:=ka;have c1:=c.kb kb pn;have g1:h1[n]?=some (.lst xs):=(kb.keep n (aW g) (by have:=c.pL;lia)).trans g;obtain⟨v,xs',e4,r1,r2⟩:=o.ok g1 (r0.mv (kb.mv c.pO)) (rv hz) eo;refine⟨v,h1,n,xs',kb,c1,e2,?_,r1,r2⟩;have em:ag i σ h=.ok (.loc n) h:=by simp[ag,e2]
 show (ag i σ h).bind _=_;rw[em];simp only[Out.bind_ok,g,e3,e4,Out.ne_ok]
def pMt(o:OpM)(i:Nat)(a:aq->Pen->PR (List D))(env:aq)(s:Pen)(k:D->aq->Pen->PS):PS:=match a env s with
 | .ok as s1=>(match env[i]? with
  | some (some (.lst ds))=>(match o.p ds as with
   | some (r,ds')=>k r (env.set i (some (.lst ds'))) s1
   | none=>.bad)
  | _=>.bad)
 | _=>.bad
def xn(e1:a env s=.ok as s1)(e2:env[i]?=some (some (.lst ds)))(e3:o.p ds as=some (r,ds')):pMt o i a env s k=k r (env.set i (some (.lst ds'))) s1:=by
 simp only[pMt,e1,e2,e3]
def pMt_inv:pMt o i a env s k=.bad\/∃as s1 ds r ds',a env s=.ok as s1/\env[i]?=some (some (.lst ds))/\o.p ds as=some (r,ds')/\pMt o i a env s k=k r (env.set i (some (.lst ds'))) s1:=by
 cases e1:a env s with
 | bad=>left;simp only[pMt,e1]
 | exc _ _=>left;simp only[pMt,e1]
 | ok as s1 =>
  cases e2:env[i]? with
  | none=>left;simp only[pMt,e1,e2]
  | some x =>
   cases x with
   | none=>left;simp only[pMt,e1,e2]
   | some d =>
    cases d with
    | lst ds =>
     cases e3:o.p ds as with
     | none=>left;simp only[pMt,e1,e2,e3]
     | some y=>exact .inr ⟨as,s1,ds,y.1,y.2,rfl,rfl,e3,xn e1 e2 e3⟩
    | _=>left;simp only[pMt,e1,e2]
def xMt(o:OpM)(i:Nat)(a:Xs ws)(hi:ws.contains i=true:=by exact ys rfl)(hz:a.fz=true:=by exact ys rfl):Xd ws where
 m:=cF (mMt o.m (ag i) a.m)
 p:=fun env s=>pMt o i a.p env s fun _=>.nx
 fr:=true
 ok {q h L B O σ env s} c d:=by
  rcases pMt_inv (o:=o) (i:=i) (a:=a.p) (env:=env) (s:=s) (k:=fun _=>.nx) with z|⟨as,s1,ds,r,ds',e1,e2,e3,z⟩
  ·rw[z];trivial
  ·rw[z];have hi':i∈ws:=by simpa using hi
   obtain⟨v,h1,n,xs',kb,c1,es,em,r1,r2⟩:=mt_ok o i a hi' hz c d e1 e2 e3;refine⟨σ,h1.set n (.lst xs'),?_,(own_set c1 d hi' e2 es r1).after (kb.stp c)⟩;unfold cF mEx;rw[em];rfl
def Vw.int(w:Vw q h L O (.int b) v):v=.int b:=by
 rcases w with r|⟨n,xs,ds,e,_⟩
 ·exact r
 ·cases e
def PS.fin(r:PS):PR D:=match r with
 | .nx _ s=>.ok .non s
 | .rt d s=>.ok d s
 | .exc c _ s=>.exc c s
 | .rse c _ s=>.exc c s
 | _=>.bad
@[simp] theorem fin_nx:(PS.nx e s).fin=.ok .non s:=rfl
@[simp] theorem kz:(PS.rt d s).fin=.ok d s:=rfl
@[simp] theorem fin_exc:(PS.exc c e s).fin=.exc c s:=rfl
@[simp] theorem fin_rse:(PS.rse c e s).fin=.exc c s:=rfl
@[simp] theorem fin_bad:PS.bad.fin=.bad:=rfl
def dSt(n:Nat)(ds:List D):aq:=ds.map some++List.replicate (n - ds.length) none
def bO(n np:Nat)(b:Xd ws)(hw:ws.all (fun i=>decide (np<=i))=true:=by exact ys rfl):Fn where
 m:=aS n np b.m
 p:=fun ds s=>if ds.length=np then (b.p (dSt n ds) s).fin else .bad
 fr:=b.fr
 ok {q h O vs ds s} bd hq pn r:=by
  by_cases hl:ds.length=np
  ·rw[qah hl];have hv:vs.length=np:=by rw[r.length];exact hl
   have low:∀i d,(dSt n ds)[i]?=some (some d)->i<np/\ds[i]?=some d:=fun i d e=>by
    by_cases z:i<ds.length
    ·refine⟨by lia,?_⟩;unfold dSt at e;rw[qao (by simpa using z)] at e;simp at e;simpa using e
    ·unfold dSt at e;rw[qaC (by simpa using z)] at e;by_cases y:i - (ds.map some).length<n - ds.length
     ·simp[qbl,y] at e
     ·simp at y e;exact absurd e (by simp[qbl])
   have nw:∀i d,(dSt n ds)[i]?=some (some d)->i∉ws:=fun i d e hi=>by
    have:=(low i d e).1
    rw[qbm] at hw
    have:=hw i hi
    simp at this;lia
   have c:Cx q h h.length O O ws (bG n vs) (dSt n ds) s:=by
    refine⟨bd,fun _ h=>h,bd,hq,qai _,pn,⟨by simp[bG,dSt,r.length],fun i d e _=>?_,fun i d e hi=>absurd hi (nw i d e)⟩⟩;obtain⟨v,ev,rv⟩:=r.get (low i d e).2;refine⟨v,?_,rv⟩;unfold bG;rw[qao (by simpa using (qad.mp ev).1)];simp[ev]
   have k:=b.ok c fun i j hi _ _ d _ _ e=>absurd hi (nw i d e)
   have em:aS n np b.m vs h=(match b.m (bG n vs) h with
    | .nx _ h'=>.ok .non h'
    | .rt v h'=>.ok v h'
    | .exc x _ h'=>.exc x h'
    | .rse x _ h'=>.exc x h'
    | _=>.bad):=by unfold aS;(rw[qah hv]) <;> (cases b.m (bG n vs) h <;> rfl)
   rw[em];have kb:∀{h' O'},Stp q h.length h O h' O'->KB q h h':=fun st=>⟨st.len,fun m hm hq=>st.base m hm hq⟩
   cases e:b.p (dSt n ds) s with
   | nx e1 s1=>rw[e] at k;obtain⟨σ',h',f,O',st,c',_⟩:=k;rw[f];exact⟨.non,h',rfl,kb st,c'.pen,rfl,fun _ ds e=>by cases e⟩
   | exc x e1 s1=>rw[e] at k;obtain⟨σ',h',f,O',st,c',_⟩:=k;rw[f];exact⟨h',rfl,kb st,c'.pen⟩
   | rse x e1 s1=>rw[e] at k;obtain⟨σ',h',f,O',st,c',_⟩:=k;rw[f];exact⟨h',rfl,kb st,c'.pen⟩
   | rt x s1=>rw[e] at k;obtain⟨v,h',f,l,b,p,rr,rs⟩:=k;rw[f];exact⟨v,h',rfl,⟨l,b⟩,p,rr,rs⟩
   | bk e1 s1=>trivial
   | ct e1 s1=>trivial
   | bad=>trivial
  ·rw[qan hl];trivial
def xNone(m:List PV->MH->Out PV):Fn where
 m:=m
 p:=fun _ _=>.bad
 fr:=true
 ok _ _ _ _:=trivial
end
end PU
namespace PU
open PySem MM SetT SortT
open L2 (ixN atI e8)
local instance (priority:=1) cdecN6 (p:Prop):Decidable p:=Classical.propDecidable p
noncomputable section
section
variable {q:Nat} {h:MH} {L:Nat} {O:List Nat} {v:PV}
def Vw.non(w:Vw q h L O .non v):v=.non:=by
 rcases w with r|⟨n,xs,ds,e,_⟩
 ·exact r
 ·cases e
def Vw.str(w:Vw q h L O (.str x) v):v=.str x:=by
 rcases w with r|⟨n,xs,ds,e,_⟩
 ·exact r
 ·cases e
inductive VwL (h:MH) (P:List PV->Prop) (v:PV):Prop
 | mk (n:Nat) (xs:List PV) (e:v=.loc n) (g:h[n]?=some (.lst xs)) (r:P xs):VwL h P v
def Vw.lst(w:Vw q h L O (.lst ds) v):VwL h (Rps q h O ds) v:=by
 rcases w with ⟨n,xs,e,_,g,r⟩|⟨n,xs,ds',e,e1,_,_,g,r⟩
 ·exact⟨n,xs,e,g,r⟩
 ·cases e;exact⟨n,xs,e1,g,r⟩
def Vw.tup(w:Vw q h L O (.tup ds) v):RcT (Rps q h O ds) v:=by
 rcases w with r|⟨n,xs,ds',e,_⟩
 ·exact r
 ·cases e
def gv0(r:Rp q h O d v)(hf:fr=true->∀ds,d≠.lst ds):Gv q h O fr (.ok v h) d :=
 ⟨v,[],by simp,by simpa using r,fun z ds e=>absurd e (hf z ds)⟩
def gvI:Gv q h O fr (.ok (.int i) h) (.int i):=gv0 rfl fun _ _ e=>by cases e
def gvB:Gv q h O fr (.ok (.bl i) h) (.bl i):=gv0 rfl fun _ _ e=>by cases e
def dW(w:Vws q h L O [d] vs):∃x,vs=[x]/\Vw q h L O d x:=by
 obtain⟨x,r,e,a,b⟩:=w
 have:r=[]:=b
 subst this;exact⟨x,e,a⟩
def vws2(w:Vws q h L O [d,d'] vs):∃x y,vs=[x,y]/\Vw q h L O d x/\Vw q h L O d' y:=by
 obtain⟨x,r,e,a,b⟩:=w;obtain⟨y,rfl,c⟩:=dW b;exact⟨x,y,e,a,c⟩
end
def tQ(m:PV->PV->MH->Out PV)(f:Int->Int->D)(g:Int->Int->PV)(hm:∀i j h,m (.int i) (.int j) h=.ok (g i j) h)(hg:∀i j q h O fr,Gv q h O fr (.ok (g i j) h) (f i j)):Op2 where
 m:=m
 p:=fun a b=>match a,b with
  | .int i,.int j=>some (f i j)
  | _,_=>none
 fr:=true
 ok {q h L O a x b y d} bd wa wb e:=by
  cases a with
  | int i =>
   cases b with
   | int j=>cases e;rw[wa.int,wb.int,hm];exact hg i j q h O true
   | _=>cases e
  | _=>cases e
def rW:Op2:=tQ opSub (fun i j=>.int (i - j)) (fun i j=>.int (i - j)) (fun _ _ _=>rfl) fun _ _ _ _ _ _=>gvI
def oLt:Op2:=tQ opLt (fun i j=>.bl (decide (i<j))) (fun i j=>.bl (decide (i<j))) (fun _ _ _=>rfl) fun _ _ _ _ _ _=>gvB
def oLe:Op2:=tQ opLe (fun i j=>.bl (decide (i<=j))) (fun i j=>.bl (decide (i<=j))) (fun _ _ _=>rfl) fun _ _ _ _ _ _=>gvB
def oGt:Op2:=tQ opGt (fun i j=>.bl (decide (j<i))) (fun i j=>.bl (decide (j<i))) (fun _ _ _=>rfl) fun _ _ _ _ _ _=>gvB
def oGe:Op2:=tQ opGe (fun i j=>.bl (decide (j<=i))) (fun i j=>.bl (decide (j<=i))) (fun _ _ _=>rfl) fun _ _ _ _ _ _=>gvB
def gL:Op2 where
 m:=opAdd
 p:=fun a b=>match a,b with
  | .int i,.int j=>some (.int (i+j))
  | .lst x,.lst y=>if x.length+y.length<=100000 then some (.lst (x++y)) else none
  | .tup (a::x),.tup y=>if x.length+1+y.length<=100000 then some (.tup (a::x++y)) else none
  | _,_=>none
 fr:=true
 ok {q h L O a x b y d} bd wa wb e:=by
  cases a with
  | int i =>
   cases b with
   | int j=>cases e;rw[wa.int,wb.int];exact gvI
   | _=>cases e
  | lst x =>
   cases b with
   | lst y =>
    dsimp only at e;by_cases z:x.length+y.length<=100000
    ·rw[qah z] at e;cases e;obtain⟨n,xs,rfl,g,r⟩:=wa.lst;obtain⟨n',ys,rfl,g',r'⟩:=wb.lst;show Gv q h O true (match h[n]?,h[n']? with | some (.lst xs),some (.lst ys)=>newL (xs++ys) h | _,_=>.bad) _;rw[g,g'];exact lj bd (r.app r') (by simpa using z)
    ·rw[qan z] at e;cases e
   | _=>cases e
  | tup x =>
   cases x with
   | nil=>cases b <;> cases e
   | cons a x =>
    cases b with
    | tup y =>
     dsimp only at e;by_cases z:x.length+1+y.length<=100000
     ·rw[qah z] at e;cases e;obtain⟨xs,rfl,r⟩:=wa.tup;obtain⟨ys,rfl,r'⟩:=wb.tup;have ne:xs≠[]:=fun z=>by have:=r.length;simp[z] at this
      show Gv q h O true (if xs≠[] then newT (xs++ys) h else .bad) _;rw[qah ne];exact uE (r.app r') (by simp;lia)
     ·rw[qan z] at e;cases e
    | _=>cases e
  | _=>cases e
def Rps.rep(r:Rps q h O ds xs):∀n,Rps q h O (List.replicate n ds).flatten (List.replicate n xs).flatten
 | 0=>rfl
 | n+1=>by
  rw[qaS,qaS,qbo,qbo];exact r.app (Rps.rep r n)
def oMul:Op2 where
 m:=opMul
 p:=fun a b=>match a,b with
  | .int i,.int j=>if IntMulOk i j then some (.int (i * j)) else none
  | .lst x,.int j=>if (0<=j/\j<=1000)/\((List.replicate j.toNat x).flatten).length<=100000 then some (.lst (List.replicate j.toNat x).flatten) else none
  | _,_=>none
 fr:=true
 ok {q h L O a x b y d} bd wa wb e:=by
  cases a with
  | int i =>
   cases b with
   | int j =>
    dsimp only at e;by_cases z:IntMulOk i j
    ·rw[qah z] at e;cases e;rw[wa.int,wb.int];show Gv q h O true (if IntMulOk i j then .ok (.int (i * j)) h else .bad) _;rw[qah z];exact gvI
    ·rw[qan z] at e;cases e
   | _=>cases e
  | lst x =>
   cases b with
   | int j =>
    dsimp only at e;by_cases z:(0<=j/\j<=1000)/\((List.replicate j.toNat x).flatten).length<=100000
    ·rw[qah z] at e;cases e;obtain⟨n,xs,rfl,g,r⟩:=wa.lst;rw[wb.int];show Gv q h O true (match h[n]? with | some (.lst xs)=>if -(2 ^ 63)<=j/\j<2 ^ 63 then newL (List.flatten (List.replicate j.toNat xs)) h else .bad | _=>.bad) _;rw[g];dsimp only;rw[qah (by lia)];exact lj bd (r.rep _) z.2
    ·rw[qan z] at e;cases e
   | _=>cases e
  | _=>cases e
def oFd:Op2 where
 m:=opFd
 p:=fun a b=>match a,b with
  | .int i,.int j=>if j≠0/\Builtin.divisionGoesByPylong i j=false then some (.int (i.fdiv j)) else none
  | _,_=>none
 fr:=true
 ok {q h L O a x b y d} bd wa wb e:=by
  cases a with
  | int i =>
   cases b with
   | int j =>
    dsimp only at e;by_cases z:j≠0/\Builtin.divisionGoesByPylong i j=false
    ·rw[qah z] at e;cases e;rw[wa.int,wb.int];show Gv q h O true (if j≠0/\Builtin.divisionGoesByPylong i j=false then .ok (.int (i.fdiv j)) h else .bad) _;rw[qah z];exact gvI
    ·rw[qan z] at e;cases e
   | _=>cases e
  | _=>cases e
def kw:Op2 where
 m:=opMod
 p:=fun a b=>match a,b with
  | .int i,.int j=>if j≠0 then some (.int (i.fmod j)) else none
  | _,_=>none
 fr:=true
 ok {q h L O a x b y d} bd wa wb e:=by
  cases a with
  | int i =>
   cases b with
   | int j =>
    dsimp only at e;by_cases z:j≠0
    ·rw[qah z] at e;cases e;rw[wa.int,wb.int];show Gv q h O true (if j≠0 then .ok (.int (i.fmod j)) h else .bad) _;rw[qah z];exact gvI
    ·rw[qan z] at e;cases e
   | _=>cases e
  | _=>cases e
def oPow:Op2 where
 m:=opPow
 p:=fun a b=>match a,b with
  | .int i,.int j=>if e8 i j then some (.int (i ^ j.toNat)) else none
  | _,_=>none
 fr:=true
 ok {q h L O a x b y d} bd wa wb e:=by
  cases a with
  | int i =>
   cases b with
   | int j =>
    dsimp only at e;by_cases z:e8 i j
    ·rw[qah z] at e;cases e;rw[wa.int,wb.int];show Gv q h O true (if e8 i j then .ok (.int (i ^ j.toNat)) h else .bad) _;rw[qah z];exact gvI
    ·rw[qan z] at e;cases e
   | _=>cases e
  | _=>cases e
def oIx:Op2 where
 m:=aA
 p:=fun a b=>match a,b with
  | .lst x,.int j=>atI x j
  | .tup x,.int j=>atI x j
  | _,_=>none
 fr:=false
 ok {q h L O a x b y d} bd wa wb e:=by
  have at':∀{ds:List D} {xs:List PV} {j:Int},Rps q h O ds xs->atI ds j=some d->∃v,atI xs j=some v/\Rp q h O d v:=fun {ds xs j} r e=>by
   unfold atI at e ⊢;rw[r.length]
   cases e1:ixN ds.length j with
   | none=>rw[e1] at e;cases e
   | some k=>rw[e1] at e;exact r.get e
  cases b with
  | int j =>
   rw[wb.int]
   cases a with
   | lst ds =>
    obtain⟨n,xs,rfl,g,r⟩:=wa.lst;obtain⟨v,e1,rv⟩:=at' r e;show Gv q h O false (match h[n]? with | some (.lst xs)=>(match atI xs j with | some v=>.ok v h | none=>.bad) | _=>.bad) _;rw[g];dsimp only;rw[e1];exact gv0 rv fun z=>by cases z
   | tup ds =>
    obtain⟨xs,rfl,r⟩:=wa.tup;obtain⟨v,e1,rv⟩:=at' r e;show Gv q h O false (match atI xs j with | some v=>.ok v h | none=>.bad) _;rw[e1];exact gv0 rv fun z=>by cases z
   | _=>cases e
  | _=>cases a <;> cases e
def oIs(neg:Bool):Op2 where
 m:=pf neg
 p:=fun a b=>match b with
  | .non=>(match a with
   | .non=>some (.bl (!neg))
   | _=>some (.bl neg))
  | .bl b=>(match a with
   | .bl c=>some (.bl (if neg then !(c == b) else c == b))
   | .non=>some (.bl neg)
   | .int _=>some (.bl neg)
   | .str _=>some (.bl neg)
   | .tup _=>some (.bl neg)
   | _=>none)
  | _=>none
 fr:=true
 ok {q h L O a x b y d} bd wa wb e:=by
  have loc:∀{a:D} {x:PV},Vw q h L O a x->(∃ds,a=.lst ds)\/a=.dic\/(∃c,a=.exc c)\/a=.pen->∃n,x=.loc n:=fun {a x} w z=>by
   rcases w with r|⟨n,xs,ds,e,e1,_⟩
   ·rcases z with ⟨ds,rfl⟩|rfl|⟨c,rfl⟩|rfl
    ·obtain⟨n,_,e,_⟩:=r;exact⟨n,e⟩
    ·obtain⟨n,e,_⟩:=r;exact⟨n,e⟩
    ·obtain⟨n,e,_⟩:=r;exact⟨n,e⟩
    ·exact⟨q,r⟩
   ·exact⟨n,e1⟩
  cases b with
  | non =>
   rw[wb.non]
   cases a with
   | non=>cases e;rw[wa.non];exact gvB
   | bl c=>cases e;rw[wa.bl];exact gvB
   | int c=>cases e;rw[wa.int];exact gvB
   | str c=>cases e;rw[wa.str];exact gvB
   | tup c=>cases e;obtain⟨xs,rfl,_⟩:=wa.tup;exact gvB
   | lst c=>cases e;obtain⟨n,rfl⟩:=loc wa (.inl ⟨_,rfl⟩);exact gvB
   | dic=>cases e;obtain⟨n,rfl⟩:=loc wa (.inr (.inl rfl));exact gvB
   | exc c=>cases e;obtain⟨n,rfl⟩:=loc wa (.inr (.inr (.inl ⟨_,rfl⟩)));exact gvB
   | pen=>cases e;obtain⟨n,rfl⟩:=loc wa (.inr (.inr (.inr rfl)));exact gvB
  | bl b =>
   rw[wb.bl]
   cases a with
   | non=>cases e;rw[wa.non];exact gvB
   | bl c=>cases e;rw[wa.bl];exact gvB
   | int c=>cases e;rw[wa.int];exact gvB
   | str c=>cases e;rw[wa.str];exact gvB
   | tup c=>cases e;obtain⟨xs,rfl,_⟩:=wa.tup;exact gvB
   | _=>cases e
  | _=>cases e
mutual
def py:D->Option PyData
 | .non=>some .none
 | .bl b=>some (.bool b)
 | .int i=>some (.int i)
 | .str x=>some (.str x)
 | .tup ds=>(pys ds).map .tuple
 | .lst ds=>(pys ds).map .list
 | _=>none
def pys:List D->Option (List PyData)
 | []=>some []
 | d::ds=>match py d,pys ds with
  | some x,some xs=>some (x::xs)
  | _,_=>none
end
mutual
def dep:D->Nat
 | .tup ds=>1+deps ds
 | .lst ds=>1+deps ds
 | _=>0
def deps:List D->Nat
 | []=>0
 | d::ds=>max (dep d) (deps ds)
end
def uA(d:D):(∀(v:PV) (e:PyData) (n:Nat),Rp q h O d v->py d=some e->dep d<=n->rd n h v=some e):=by
 refine D.rec (motive_1:=fun d=>∀(v:PV) (e:PyData) (n:Nat),Rp q h O d v->py d=some e->dep d<=n->rd n h v=some e)
  (motive_2:=fun ds=>∀(vs:List PV) (es:List PyData) (n:Nat),Rps q h O ds vs->pys ds=some es->deps ds<=n->bR (rd n h) vs=some es)
  (fun v _ n r e _=>?_) (fun b v _ n r e _=>?_) (fun b v _ n r e _=>?_) (fun b v _ n r e _=>?_) (fun ds ih v e n r ep hd=>?_) (fun ds ih v e n r ep hd=>?_) (fun _ _ _ _ e _=>?_) (fun _ _ _ _ _ e _=>?_) (fun _ _ _ _ e _=>?_)
  (fun vs es n r e _=>?_) (fun d ds i1 i2 vs es n r e hd=>?_) d
 ·rw[show v=PV.non from r];cases e;cases n <;> rfl
 ·rw[show v=PV.bl b from r];cases e;cases n <;> rfl
 ·rw[show v=PV.int b from r];cases e;cases n <;> rfl
 ·rw[show v=PV.str b from r];cases e;cases n <;> rfl
 ·obtain⟨xs,ex,r⟩:=r;subst ex;rw[py,qat] at ep;obtain⟨es,e1,rfl⟩:=ep;rw[dep] at hd
  cases n with
  | zero=>lia
  | succ n=>simp only[rd];rw[ih _ _ n r e1 (by lia)];rfl
 ·obtain⟨m,xs,ex,_,g,r⟩:=r;subst ex;rw[py,qat] at ep;obtain⟨es,e1,rfl⟩:=ep;rw[dep] at hd
  cases n with
  | zero=>lia
  | succ n=>simp only[rd,g];rw[ih _ _ n r e1 (by lia)];rfl
 ·simp[py] at e
 ·simp[py] at e
 ·simp[py] at e
 ·rw[show vs=[] from r];rw[pys] at e;cases e;rfl
 ·obtain⟨x,t,ex,a,b⟩:=r;subst ex;rw[deps] at hd;rw[pys] at e
  cases e1:py d with
  | none=>rw[e1] at e;cases e
  | some y =>
   cases e2:pys ds with
   | none=>rw[e1,e2] at e;cases e
   | some ys =>
    rw[e1,e2] at e;cases e;have a1:=i1 _ _ n a e1 (by lia);have b1:=i2 _ _ n b e2 (by lia);simp only[bR,a1,b1]
def rd_ok(r:Rp q h O d v)(ep:py d=some e)(hd:dep d<=n):rd n h v=some e:=uA d v e n r ep hd
def ym(r:Rps q h O ds vs)(ep:pys ds=some es)(hd:deps ds<=n):bR (rd n h) vs=some es:=by
 have:=uA (.tup ds) (.tup vs) (.tuple es) (n+1) (show Rp q h O (.tup ds) (.tup vs) from⟨vs,rfl,r⟩) (by rw[py,ep];rfl) (by rw[dep];lia)
 simp only[rd] at this
 cases z:bR (rd n h) vs with
 | none=>rw[z] at this;cases this
 | some y=>rw[z] at this;cases this;rfl
def ni(w:Vw q h L O d v)(ep:py d=some e)(hd:dep d<=60):rd 60 h v=some e:=by
 rcases w with r|⟨n,xs,ds,rfl,rfl,_,_,g,r⟩
 ·exact rd_ok r ep hd
 ·rw[py,qat] at ep;obtain⟨es,e1,rfl⟩:=ep;rw[dep] at hd;have a1:=ym (n:=59) r e1 (by lia);show (match h[n]? with | some (.lst xs)=>(bR (rd 59 h) xs).map PyData.list | _=>none)=_;rw[g];dsimp only;rw[a1];rfl
def eqD(neg:Bool)(a b:D):Option D:=match py a,py b with
 | some x,some y=>if (dep a<=60/\dep b<=60)/\SeqAt.shaped x=true/\SeqAt.shaped y=true then some (.bl (if neg then !PyData.eqv x y else PyData.eqv x y)) else none
 | _,_=>none
def uX(e:eqD neg a b=some d):∃x y,py a=some x/\py b=some y/\(dep a<=60/\dep b<=60)/\(SeqAt.shaped x=true/\SeqAt.shaped y=true)/\d=.bl (if neg then !PyData.eqv x y else PyData.eqv x y):=by
 unfold eqD at e
 cases e1:py a with
 | none=>rw[e1] at e;cases e
 | some x =>
  cases e2:py b with
  | none=>rw[e1,e2] at e;cases e
  | some y =>
   rw[e1,e2] at e;dsimp only at e;by_cases z:(dep a<=60/\dep b<=60)/\SeqAt.shaped x=true/\SeqAt.shaped y=true
   ·rw[qah z] at e;cases e;exact⟨x,y,rfl,rfl,z.1,z.2,rfl⟩
   ·rw[qan z] at e;cases e
def oEq:Op2 where
 m:=opEq
 p:=eqD false
 fr:=true
 ok {q h L O a x b y d} bd wa wb e:=by
  obtain⟨u,w,e1,e2,hd,hs,rfl⟩:=uX e;unfold opEq;rw[ni wa e1 hd.1,ni wb e2 hd.2];dsimp only;rw[qah hs];exact gvB
def oNe:Op2 where
 m:=opNe
 p:=eqD true
 fr:=true
 ok {q h L O a x b y d} bd wa wb e:=by
  obtain⟨u,w,e1,e2,hd,hs,rfl⟩:=uX e;unfold opNe;rw[ni wa e1 hd.1,ni wb e2 hd.2];dsimp only;rw[qah hs];exact gvB
def Vw.seqOf(w:Vw q h L O d v)(e:d.items=some ds):∃xs,MM.aX h v=some xs/\Rps q h O ds xs:=by
 cases d with
 | lst es=>cases e;obtain⟨n,xs,rfl,g,r⟩:=w.lst;exact⟨xs,by simp[MM.aX,g],r⟩
 | tup es=>cases e;obtain⟨xs,rfl,r⟩:=w.tup;exact⟨xs,rfl,r⟩
 | _=>cases e
def inD(neg:Bool)(a b:D):Option D:=match b.items with
 | some ds=>(match py a,pys ds with
  | some x,some ys=>if (dep a<=60/\deps ds<=60)/\x.canLay0=true/\PyData.canLayAll0 ys=true then some (.bl (if neg then !ys.any (fun e=>PyData.eqv e x) else ys.any (fun e=>PyData.eqv e x))) else none
  | _,_=>none)
 | none=>none
def oIn(neg:Bool):Op2 where
 m:=tw neg
 p:=inD neg
 fr:=true
 ok {q h L O a x b y d} bd wa wb e:=by
  unfold inD at e
  cases e0:b.items with
  | none=>rw[e0] at e;cases e
  | some ds =>
   rw[e0] at e;dsimp only at e
   cases e1:py a with
   | none=>rw[e1] at e;cases e
   | some u =>
    cases e2:pys ds with
    | none=>rw[e1,e2] at e;cases e
    | some us =>
     rw[e1,e2] at e;dsimp only at e;by_cases z:(dep a<=60/\deps ds<=60)/\u.canLay0=true/\PyData.canLayAll0 us=true
     ·rw[qah z] at e;cases e;obtain⟨xs,es,r⟩:=wb.seqOf e0;unfold tw;rw[es,ni wa e1 z.1.1];dsimp only;rw[ym r e2 z.1.2];dsimp only;rw[qah z.2];exact gvB
     ·rw[qan z] at e;cases e
end
noncomputable section
def oNeg:Op1 where
 m:=opNeg
 p:=fun a=>match a with
  | .int i=>some (.int (-i))
  | _=>none
 fr:=true
 ok {q h L O a x d} bd w e:=by
  cases a with
  | int i=>cases e;rw[w.int];exact gvI
  | _=>cases e
def tyD:D->Option String
 | .non=>some "NoneType"
 | .bl _=>some "bool"
 | .int _=>some "int"
 | .str _=>some "str"
 | .tup _=>some "tuple"
 | .lst _=>some "list"
 | .dic=>some "dict"
 | _=>none
def ty_ok(w:Vw q h L O d v)(e:tyD d=some t):tyP h v=some t:=by
 cases d with
 | non=>cases e;rw[w.non];rfl
 | bl b=>cases e;rw[w.bl];rfl
 | int b=>cases e;rw[w.int];rfl
 | str b=>cases e;rw[w.str];rfl
 | tup b=>cases e;obtain⟨xs,rfl,_⟩:=w.tup;rfl
 | lst b=>cases e;obtain⟨n,xs,rfl,g,_⟩:=w.lst;simp[tyP,g]
 | dic =>
  cases e;rcases w with ⟨n,rfl,_,g⟩|⟨n,xs,ds,e,_⟩
  ·simp[tyP,g]
  ·cases e
 | _=>cases e
def cg(Ts:List String):Op1 where
 m:=bw Ts
 p:=fun a=>(tyD a).map fun t=>.bl (Ts.any (ba t))
 fr:=true
 ok {q h L O a x d} bd w e:=by
  rw[qat] at e;obtain⟨t,e1,rfl⟩:=e;unfold bw;rw[ty_ok w e1];exact gvB
def cII(f:List PV->MH->Out PV)(g:Int->Int->Int)(hf:∀i j h,f [.int i,.int j] h=.ok (.int (g i j)) h):OpN where
 k:=fun xs h=>(f xs h).ne
 p:=fun as=>match as with
  | [.int i,.int j]=>some (.int (g i j))
  | _=>none
 fr:=true
 ok {q h L O as xs d} bd w e:=by
  match as,e with
  | [.int i,.int j],e =>
   cases e;obtain⟨x,y,rfl,a,b⟩:=vws2 w;rw[a.int,b.int,hf];exact gvI
def mR:OpN:=cII fMin (fun i j=>if j<i then j else i) fun _ _ _=>rfl
def mw:OpN:=cII fMax (fun i j=>if j>i then j else i) fun _ _ _=>rfl
def cAbs:OpN where
 k:=fun xs h=>(fAbs xs h).ne
 p:=fun as=>match as with
  | [.int i]=>some (.int (if i<0 then -i else i))
  | _=>none
 fr:=true
 ok {q h L O as xs d} bd w e:=by
  match as,e with
  | [.int i],e=>cases e;obtain⟨x,rfl,a⟩:=dW w;rw[a.int];exact gvI
def dY:OpN where
 k:=fun xs h=>(fLen xs h).ne
 p:=fun as=>match as with
  | [.lst ds]=>some (.int ds.length)
  | [.tup ds]=>some (.int ds.length)
  | [.str x]=>if x.length<=sizeLine then some (.int x.length) else none
  | _=>none
 fr:=true
 ok {q h L O as xs d} bd w e:=by
  match as,e with
  | [.lst ds],e =>
   cases e;obtain⟨x,rfl,a⟩:=dW w;obtain⟨n,ys,rfl,g,r⟩:=a.lst;simp only[fLen,g];rw[r.length];exact gvI
  | [.tup ds],e =>
   cases e;obtain⟨x,rfl,a⟩:=dW w;obtain⟨ys,rfl,r⟩:=a.tup;simp only[fLen];rw[r.length];exact gvI
  | [.str x],e =>
   dsimp only at e;by_cases z:x.length<=sizeLine
   ·rw[qah z] at e;cases e;obtain⟨x,rfl,a⟩:=dW w;rw[a.str];simp only[fLen];rw[qah z];exact gvI
   ·rw[qan z] at e;cases e
def jv:OpN where
 k:=fun xs h=>(fList xs h).ne
 p:=fun as=>match as with
  | [d]=>d.items.bind fun ds=>if ds.length<=100000 then some (.lst ds) else none
  | _=>none
 fr:=true
 ok {q h L O as xs d} bd w e:=by
  match as,e with
  | [a],e =>
   obtain⟨x,rfl,wx⟩:=dW w;rw[qaH] at e;obtain⟨ds,e1,e2⟩:=e;obtain⟨xs,e3,r⟩:=wx.seqOf e1;by_cases z:ds.length<=100000
   ·rw[qah z] at e2;cases e2;obtain⟨v,g,e4,r4,r5⟩:=lj bd r z;exact⟨v,g,by simp only[fList,e3];rw[e4];rfl,r4,r5⟩
   ·rw[qan z] at e2;cases e2
def bM:OpN where
 k:=fun xs h=>(fTuple xs h).ne
 p:=fun as=>match as with
  | [d]=>d.items.map .tup
  | _=>none
 fr:=true
 ok {q h L O as xs d} bd w e:=by
  match as,e with
  | [a],e =>
   obtain⟨x,rfl,wx⟩:=dW w;rw[qat] at e;obtain⟨ds,e1,rfl⟩:=e;obtain⟨xs,e3,r⟩:=wx.seqOf e1;simp only[fTuple,e3];exact gv0 ⟨xs,rfl,r⟩ fun _ _ e=>by cases e
def mQ:List D->Option (List Bool)
 | []=>some []
 | .bl b::r=>(mQ r).map (b::·)
 | _=>none
def yB:∀{ds:List D} {xs:List PV} {bs:List Bool},Rps q h O ds xs->mQ ds=some bs->i7 xs=some bs
 | [],_,_,r,e=>by rw[show _=[] from r];cases e;rfl
 | d::ds,_,bs,⟨x,t,ex,a,b⟩,e=>by
  subst ex
  cases d with
  | bl c =>
   rw[show x=PV.bl c from a];rw[mQ,qat] at e;obtain⟨cs,e1,rfl⟩:=e;rw[i7,yB b e1];rfl
  | _=>cases e
def rG:OpN where
 k:=fun xs h=>(fAll xs h).ne
 p:=fun as=>match as with
  | [d]=>(d.items.bind mQ).map fun bs=>.bl (bs.all id)
  | _=>none
 fr:=true
 ok {q h L O as xs d} bd w e:=by
  match as,e with
  | [a],e =>
   obtain⟨x,rfl,wx⟩:=dW w;rw[qat] at e;obtain⟨bs,e1,rfl⟩:=e;rw[qaH] at e1;obtain⟨ds,e1,e2⟩:=e1;obtain⟨xs,e3,r⟩:=wx.seqOf e1;simp only[fAll,e3,qaX,yB r e2];exact gvB
def b7:List D->Option (List Int)
 | []=>some []
 | .int b::r=>(b7 r).map (b::·)
 | _=>none
def gH:∀{ds:List D} {xs:List PV} {bs:List Int},Rps q h O ds xs->b7 ds=some bs->xs=bs.map .int
 | [],_,_,r,e=>by rw[show _=[] from r];cases e;rfl
 | d::ds,_,bs,⟨x,t,ex,a,b⟩,e=>by
  subst ex
  cases d with
  | int c =>
   rw[show x=PV.int c from a];rw[b7,qat] at e;obtain⟨cs,e1,rfl⟩:=e;rw[gH b e1];rfl
  | _=>cases e
def pJ:∀(bs:List Int),fi (bs.map .int)=some bs
 | []=>rfl
 | b::bs=>by rw[qau,fi,pJ bs];rfl
def pS:∀(bs:List Int),g9 (bs.map .int)=some bs
 | []=>rfl
 | b::bs=>by rw[qau,g9,pS bs];rfl
def j8:∀(bs:List Int),fJ (bs.map .int)=some bs
 | []=>rfl
 | b::bs=>by rw[qau,fJ,j8 bs];rfl
def qL(f:List PV->MH->Out PV)(c:List Int->Nat->Nat->Bool)(g:Int->Int->Int)(hf:∀is x h,(aX h x).bind fi=some is->0<is.length->f [x] h=.ok (.int (lq (c is) is)) h)(hg:∀i j h,f [.int i,.int j] h=.ok (.int (g i j)) h):OpN where
 k:=fun xs h=>(f xs h).ne
 p:=fun as=>match as with
  | [d]=>(d.items.bind b7).bind fun is=>if 0<is.length then some (.int (lq (c is) is)) else none
  | [.int i,.int j]=>some (.int (g i j))
  | _=>none
 fr:=true
 ok {q h L O as xs d} bd w e:=by
  match as,e with
  | [a],e =>
   obtain⟨x,rfl,wx⟩:=dW w;rw[qaH] at e;obtain⟨is,e1,e2⟩:=e;rw[qaH] at e1;obtain⟨ds,e1,e3⟩:=e1;obtain⟨xs,e4,r⟩:=wx.seqOf e1;by_cases z:0<is.length
   ·rw[qah z] at e2;cases e2;show Gv q h O true (f [x] h).ne _;rw[hf is x h (by rw[e4,qaX,gH r e3];exact pJ is) z];exact gvI
   ·rw[qan z] at e2;cases e2
  | [.int i,.int j],e =>
   cases e;obtain⟨x,y,rfl,a,b⟩:=vws2 w;rw[a.int,b.int,hg];exact gvI
def qQ:OpN:=qL fMaxS (fun is i j=>decide (is.getD i 0>is.getD j 0)) (fun i j=>if j>i then j else i) (fun is x h e z=>by simp only[fMaxS,e];rw[qah z]) fun i j h=>rfl
def qM:OpN:=qL fMinS (fun is i j=>decide (is.getD i 0<is.getD j 0)) (fun i j=>if j<i then j else i) (fun is x h e z=>by simp only[fMinS,e];rw[qah z]) fun i j h=>rfl
def kD(k:List Int):D:=.tup (k.map .int)
def mP:D->Option (List Int)
 | .tup ds=>b7 ds
 | _=>none
def fo:List D->Option (List (List Int))
 | []=>some []
 | d::ds=>match mP d,fo ds with
  | some k,some ks=>some (k::ks)
  | _,_=>none
def kP_inv(r:Rp q h O d v)(e:mP d=some k):v=kP k:=by
 cases d with
 | tup ds=>obtain⟨xs,rfl,r⟩:=r;rw[gH r e];rfl
 | _=>cases e
def mz:∀{ds:List D} {xs:List PV} {ks:List (List Int)},Rps q h O ds xs->fo ds=some ks->xs=ks.map kP
 | [],_,_,r,e=>by rw[show _=[] from r];cases e;rfl
 | d::ds,_,ks,⟨x,t,ex,a,b⟩,e=>by
  subst ex;rw[fo] at e
  cases e1:mP d with
  | none=>rw[e1] at e;cases e
  | some k =>
   cases e2:fo ds with
   | none=>rw[e1,e2] at e;cases e
   | some ks' =>
    rw[e1,e2] at e;cases e;rw[kP_inv a e1,mz b e2];rfl
def kOf_kP(k:List Int):kOf (kP k)=some k:=pS k
def ki:∀(ks:List (List Int)),gK (ks.map kP)=some ks
 | []=>rfl
 | k::ks=>by rw[qau,gK,kOf_kP,ki ks]
def i5:∀(bs:List Int),Rps q h O (bs.map .int) (bs.map .int)
 | []=>rfl
 | b::bs=>⟨_,_,rfl,rfl,i5 bs⟩
def my:∀(ks:List (List Int)),Rps q h O (ks.map kD) (ks.map kP)
 | []=>rfl
 | b::bs=>⟨_,_,rfl,⟨_,rfl,i5 b⟩,my bs⟩
def Vw.lstOf(w:Vw q h L O (.lst ds) v):∃xs,MM.cq h v=some xs/\Rps q h O ds xs:=by
 obtain⟨n,xs,rfl,g,r⟩:=w.lst;exact⟨xs,by simp[MM.cq,g],r⟩
def gvL(bd:Bd h O)(r:∀h O,Rps q h O ds xs):Gv q h O true (.ok (.loc h.length) (h++[.lst xs])) (.lst ds):=by
 have g:(h++[MO.lst xs])[h.length]?=some (.lst xs):=by simp
 exact⟨_,_,rfl,⟨_,_,rfl,fun z=>by have:=bd _ z;ext,g,r _ _⟩,fun _ ds' e=>by cases e;exact⟨_,_,rfl,qai _,g,r _ _⟩⟩
def nz(ds:List D):Option (List D):=match b7 ds with
 | some ns=>if ns.length<64 then some ((fL ns).map .int) else none
 | none=>(match fo ds with
  | some ks=>if (∀k∈ks,k≠[])/\ks.length<=66 then some ((bH ks).map kD) else none
  | none=>none)
def uY:OpN where
 k:=fun xs h=>(fSorted xs h).ne
 p:=fun as=>match as with
  | [.lst ds]=>(nz ds).map .lst
  | _=>none
 fr:=true
 ok {q h L O as xs d} bd w e:=by
  match as,e with
  | [.lst ds],e =>
   obtain⟨x,rfl,wx⟩:=dW w;obtain⟨ys,e0,r⟩:=wx.lstOf;rw[qat] at e;obtain⟨es,e1,rfl⟩:=e;unfold nz at e1
   cases e2:b7 ds with
   | some ns =>
    rw[e2] at e1;dsimp only at e1;by_cases z:ns.length<64
    ·rw[qah z] at e1;cases e1
     have:fSorted [x] h=.ok (.loc h.length) (h++[.lst ((fL ns).map .int)]):=by
      simp only[fSorted,e0,gH r e2,j8];rw[qah z]
     show Gv q h O true (fSorted [x] h).ne _;rw[this];exact gvL bd fun _ _=>i5 _
    ·rw[qan z] at e1;cases e1
   | none =>
    rw[e2] at e1;dsimp only at e1
    cases e3:fo ds with
    | none=>rw[e3] at e1;cases e1
    | some ks =>
     rw[e3] at e1;dsimp only at e1;by_cases z:(∀k∈ks,k≠[])/\ks.length<=66
     ·rw[qah z] at e1;cases e1;have hy:=mz r e3
      cases ks with
      | nil =>
       have:ds=[]:=by have:=r.length;rw[hy] at this;simpa using this.symm
       subst this;cases e2
      | cons k ks =>
       have:fSorted [x] h=.ok (.loc h.length) (h++[.lst ((bH (k::ks)).map kP)]):=by
        have n1:fJ ((k::ks).map kP)=none:=rfl;simp only[fSorted,e0,hy,n1,ki];rw[qah z]
       show Gv q h O true (fSorted [x] h).ne _;rw[this];exact gvL bd fun _ _=>my _
     ·rw[qan z] at e1;cases e1
def cSS:OpN where
 k:=fun vs h1=>match vs with
  | [x]=>(match (cq h1 x).bind gK with
   | some ks=>if (∀k∈ks,k≠[])/\(ded ks).length<=66 then .ok (.loc h1.length) (h1++[.lst ((bH (ded ks)).map kP)]) else .bad
   | none=>.bad)
  | _=>.bad
 p:=fun as=>match as with
  | [.lst ds]=>(fo ds).bind fun ks=>if (∀k∈ks,k≠[])/\(ded ks).length<=66 then some (.lst ((bH (ded ks)).map kD)) else none
  | _=>none
 fr:=true
 ok {q h L O as xs d} bd w e:=by
  match as,e with
  | [.lst ds],e =>
   obtain⟨x,rfl,wx⟩:=dW w;obtain⟨ys,e0,r⟩:=wx.lstOf;rw[qaH] at e;obtain⟨ks,e1,e2⟩:=e;by_cases z:(∀k∈ks,k≠[])/\(ded ks).length<=66
   ·rw[qah z] at e2;cases e2;simp only[e0,qaX,mz r e1,ki];rw[qah z];exact gvL bd fun _ _=>my _
   ·rw[qan z] at e2;cases e2
def dG(lo:Int)(n:Nat):List D:=(List.range n).map fun (i:Nat)=>D.int (lo+(i:Int))
def rps_rng:Rps q h O (dG lo n) (bg lo n):=by
 have:=i5 (q:=q) (h:=h) (O:=O) ((List.range n).map fun (i:Nat)=>lo+(i:Int))
 rw[qaU,qaU] at this;exact this
def iR1:OpI where
 k:=fun vs h1=>match vs with
  | [.int j]=>if -(2 ^ 62)<=j/\j<2 ^ 62 then .ok ⟨bg 0 j.toNat,[]⟩ h1 else .bad
  | _=>.bad
 p:=fun as=>match as with
  | [.int j]=>if -100000<=j/\j<=100000 then some (dG 0 j.toNat) else none
  | _=>none
 ok {q h L O as xs d} hq hO bd w e:=by
  match as,e with
  | [.int j],e =>
   obtain⟨x,rfl,wx⟩:=dW w;rw[wx.int];dsimp only at e;by_cases z:-100000<=j/\j<=100000
   ·rw[qah z] at e;cases e;dsimp only;rw[qah ⟨by ext,by ext⟩];exact⟨_,rfl,rps_rng,(fun _ hg=>nomatch hg),fun _ _ hg=>nomatch hg⟩
   ·rw[qan z] at e;cases e
def Vw.sqAny(hq:q<L)(hO:q∈O)(w:Vw q h L O d v)(e:d.items=some ds):∃t xs gd,MM.bK v h=some (t,xs,gd)/\Rps q h O ds xs/\(∀g∈gd,h[g.1]?=some (.lst g.2)/\g.1≠q)/\(Rp q h O d v->∀g∈gd,g.1∉O):=by
 obtain⟨xs,gd,e1,r,g1,g2⟩:=w.seq hq hO e
 cases d with
 | lst es =>
  cases e;obtain⟨n,ys,rfl,g,r'⟩:=w.lst;simp only[itAny,g] at e1;cases e1;exact⟨false,xs,[(n,xs)],by simp[MM.bK,g],r',g1,g2⟩
 | tup es =>
  cases e;obtain⟨ys,rfl,r'⟩:=w.tup;simp only[itAny] at e1;cases e1;exact⟨true,_,[],rfl,r',g1,g2⟩
 | _=>cases e
def dO(ds:List D):List D:=ds.zipIdx.map fun p=>.tup [.int (p.2:Int),p.1]
def jB(xs ys:List D):List D:=(xs.zip ys).map fun p=>.tup [p.1,p.2]
def rS:∀{ds:List D} {xs:List PV} (n:Nat),Rps q h O ds xs->Rps q h O ((ds.zipIdx n).map fun p=>.tup [.int (p.2:Int),p.1]) ((xs.zipIdx n).map fun p=>.tup [.int (p.2:Int),p.1])
 | [],_,_,r=>by rw[show _=[] from r];rfl
 | d::ds,_,n,⟨x,t,e,a,b⟩=>by
  subst e;exact⟨_,_,rfl,⟨_,rfl,⟨_,_,rfl,rfl,⟨_,_,rfl,a,rfl⟩⟩⟩,rS (n+1) b⟩
def uH:∀{ds es:List D} {xs ys:List PV},Rps q h O ds xs->Rps q h O es ys->Rps q h O (jB ds es) (gN xs ys)
 | [],_,_,_,r,_=>by rw[show _=[] from r];simp[jB,gN];rfl
 | _::_,[],_,_,r,r'=>by rw[show _=[] from r'];simp[jB,gN];rfl
 | d::ds,e::es,_,_,⟨x,t,e1,a,b⟩,⟨x',t',e1',a',b'⟩=>by
  subst e1 e1';exact⟨_,_,rfl,⟨_,rfl,⟨_,_,rfl,a,⟨_,_,rfl,a',rfl⟩⟩⟩,uH b b'⟩
def iE:OpI where
 k:=fun vs h1=>match vs with
  | [x]=>(match bK x h1 with
   | some (_,xs,gd)=>.ok ⟨ib xs,gd⟩ h1
   | none=>.bad)
  | _=>.bad
 p:=fun as=>match as with
  | [d]=>d.items.map dO
  | _=>none
 ok {q h L O as xs d} hq hO bd w e:=by
  match as,e with
  | [a],e =>
   obtain⟨x,rfl,wx⟩:=dW w;rw[qat] at e;obtain⟨ds,e1,rfl⟩:=e;obtain⟨t,ys,gd,e2,r,g1,g2⟩:=wx.sqAny hq hO e1;refine⟨⟨ib ys,gd⟩,by simp only[e2],rS 0 r,g1,fun z=>g2 ?_⟩;obtain⟨x',r',e3,a,_⟩:=z;cases e3;exact a
def iZ:OpI where
 k:=fun vs h1=>match vs with
  | [x,y]=>(match bK x h1,bK y h1 with
   | some (_,xs,g1),some (_,ys,g2)=>.ok ⟨gN xs ys,g1++g2⟩ h1
   | _,_=>.bad)
  | _=>.bad
 p:=fun as=>match as with
  | [d,e]=>d.items.bind fun xs=>e.items.map fun ys=>jB xs ys
  | _=>none
 ok {q h L O as xs d} hq hO bd w e:=by
  match as,e with
  | [a,b],e =>
   obtain⟨x,y,rfl,wx,wy⟩:=vws2 w;rw[qaH] at e;obtain⟨ds,e1,e⟩:=e;rw[qat] at e;obtain⟨es,e2,rfl⟩:=e;obtain⟨t,ys,gd,f2,r,g1,g2⟩:=wx.sqAny hq hO e1;obtain⟨t',ys',gd',f2',r',g1',g2'⟩:=wy.sqAny hq hO e2;refine⟨⟨gN ys ys',gd++gd'⟩,by simp only[f2,f2'],uH r r',fun g hg=>?_,fun z g hg=>?_⟩
   ·rcases qay.mp hg with z|z
    ·exact g1 g z
    ·exact g1' g z
   ·obtain⟨x',r',e3,a1,x2,r2,e4,a2,_⟩:=z;cases e3;cases e4;rcases qay.mp hg with z|z
    ·exact g2 a1 g z
    ·exact g2' a2 g z
section
variable {ws:List Nat}
end
def iU:OpM where
 m:=b9
 p:=fun ds as=>match as with
  | [a]=>if ds.length<100000 then some (.non,ds++[a]) else none
  | _=>none
 ok {q h O n xs ds as vs d ds'} g r ra e:=by
  match as,e with
  | [a],e =>
   obtain⟨x,t,rfl,a,b⟩:=ra
   have:t=[]:=b
   subst this;dsimp only at e;by_cases z:ds.length<100000
   ·rw[qah z] at e;cases e;refine⟨.non,xs++[x],?_,r.app ⟨x,[],rfl,a,rfl⟩,rfl⟩;simp only[b9,g];rw[qah (by have:=d5;rw[r.length];ext)]
   ·rw[qan z] at e;cases e
def pi:OpM where
 m:=gC
 p:=fun ds as=>match as with
  | [a]=>a.items.bind fun es=>if ds.length+es.length<=100000 then some (.non,ds++es) else none
  | _=>none
 ok {q h O n xs ds as vs d ds'} g r ra e:=by
  match as,e with
  | [a],e =>
   obtain⟨x,t,rfl,w,b⟩:=ra
   have:t=[]:=b
   subst this;rw[qaH] at e;obtain⟨es,e1,e2⟩:=e;by_cases z:ds.length+es.length<=100000
   ·rw[qah z] at e2;cases e2;have hb:=d5
    cases a with
    | lst es' =>
     cases e1;obtain⟨m,ys,rfl,_,g',r'⟩:=w;refine⟨.non,xs++ys,?_,r.app r',rfl⟩;simp only[gC,g,g'];rw[qah (by rw[r.length,r'.length];ext)]
    | tup es' =>
     cases e1;obtain⟨ys,rfl,r'⟩:=w;refine⟨.non,xs++ys,?_,r.app r',rfl⟩;simp only[gC,g];rw[qah (by rw[r.length,r'.length];ext)]
    | _=>cases e1
   ·rw[qan z] at e2;cases e2
def pr:OpM where
 m:=iP
 p:=fun ds as=>match as with
  | [.int i,a]=>if (0<=i/\i<=100000)/\ds.length<100000 then some (.non,ds.take (min i.toNat ds.length)++a::ds.drop (min i.toNat ds.length)) else none
  | _=>none
 ok {q h O n xs ds as vs d ds'} g r ra e:=by
  match as,e with
  | [.int i,a],e =>
   obtain⟨x,t,rfl,hx,y,t',rfl,w,b⟩:=ra
   have:t'=[]:=b
   subst this;rw[show x=PV.int i from hx];dsimp only at e;by_cases z:(0<=i/\i<=100000)/\ds.length<100000
   ·rw[qah z] at e;cases e;refine⟨.non,kg xs i y,?_,?_,rfl⟩
    ·simp only[iP,g];rw[qah ⟨by ext,by have:=d5;rw[r.length];ext⟩]
    ·unfold kg;rw[qan (by ext),r.length];exact (r.take _).app ⟨y,_,rfl,w,r.drop _⟩
   ·rw[qan z] at e;cases e
end
section
variable {ws:List Nat} {env:aq} {s:Pen}
@[simp] theorem aR{d:D}{r:aq}:(ae 0:Xe ws).p (some d::r) s=.ok d s:=rfl
@[simp] theorem aT{i:Nat}{o:Option D}{r:aq}:(ae (i+1):Xe ws).p (o::r) s=(ae i:Xe ws).p r s:=by simp[ae]
theorem xVar_at(e:env[i]?=some (some d)):(ae i:Xe ws).p env s=.ok d s:=by
 show (match env[i]? with | some (some d)=>PR.ok d s | _=>.bad)=_;rw[e]
@[simp] theorem fP:(xC k:Xe ws).p env s=.ok k.d s:=rfl
@[simp] theorem cn_non:Cn.non.d=.non:=rfl
@[simp] theorem cn_bl:(Cn.bl b).d=.bl b:=rfl
@[simp] theorem cG:(Cn.int b).d=.int b:=rfl
@[simp] theorem cn_str:(Cn.str b).d=.str b:=rfl
@[simp] theorem bJ:(ak o a b).p env s=(a.p env s).bind fun x s1=>(b.p env s1).bind fun y s2=>.of (o.p x y) s2:=rfl
@[simp] theorem xUn_p:(xUn o a).p env s=(a.p env s).bind fun x s1=>.of (o.p x) s1:=rfl
@[simp] theorem aO:(xNil:Xs ws).p env s=.ok [] s:=rfl
@[simp] theorem aD:(aa a r).p env s=(a.p env s).bind fun x s1=>(r.p env s1).bind fun y s2=>.ok (x::y) s2:=rfl
@[simp] theorem dr:(xCb o a).p env s=(a.p env s).bind fun x s1=>.of (o.p x) s1:=rfl
@[simp] theorem cQ:(am f a h).p env s=(a.p env s).bind f.p:=rfl
@[simp] theorem xLend_p:(xLend f a h).p env s=((a.p env s).bind f.p).bind fun d s=>if lend d=true then .ok d s else .bad:=rfl
@[simp] theorem kJ:(iq a h).p env s=(a.p env s).bind fun x s1=>if x.length<=100000 then .ok (.lst x) s1 else .bad:=rfl
@[simp] theorem iF:(bv a h).p env s=(a.p env s).bind fun x s1=>if x.length<=100000 then .ok (.tup x) s1 else .bad:=rfl
@[simp] theorem oZ:(xB a).p env s=(a.p env s).bl:=rfl
@[simp] theorem m4:(bD a).p env s=(a.p env s).bind fun b s=>.ok (!b) s:=rfl
@[simp] theorem xAnd_p:(xAnd a b).p env s=(a.p env s).bind fun x s=>if x=true then b.p env s else .ok false s:=rfl
@[simp] theorem xOr_p:(xOr a b).p env s=(a.p env s).bind fun x s=>if x=true then .ok true s else b.p env s:=rfl
@[simp] theorem xTrue_p:(xTrue:Xt ws).p env s=.ok true s:=rfl
@[simp] theorem o3:(cj a b).p env s=(a.p env s).bl.bind fun x s=>if x=true then (b.p env s).bl.bind fun y s=>.ok (.bl y) s else .ok (.bl false) s:=rfl
@[simp] theorem xNotV_p:(wn a).p env s=(a.p env s).bl.bind fun x s=>.ok (.bl (!x)) s:=rfl
@[simp] theorem xChain_p:(rQ f g a b e).p env s=(a.p env s).bind fun x s1=>(b.p env s1).bind fun y s2=>match f.p x y with
  | some (.bl t)=>if t=true then (e.p env s2).bind fun z s3=>.of (g.p y z) s3 else .ok (.bl false) s2
  | _=>.bad:=rfl
@[simp] theorem kB:(dD o a).p env s=(a.p env s).bind fun x s1=>.of (o.p x) s1:=rfl
@[simp] theorem iA:(bf a).p env s=(a.p env s).bind fun x s1=>.of x.items s1:=rfl
@[simp] theorem xNm_p{i:Nat}{h:ws.contains i=false}{d:D}:(xNm i h).p d env=some (env.set i (some d)):=rfl
@[simp] theorem xGl_p:(xGl:Xgs ws).p [] env=some env:=rfl
@[simp] theorem xGc_p:(xGc a t).p (d::ds) env=(a.p d env).bind fun env1=>t.p ds env1:=rfl
@[simp] theorem xGp_p:(xGp t n).p (.tup ds) env=if ds.length=n then t.p ds env else none:=rfl
@[simp] theorem pd{nv:Nat}{fm:List Nat}{i:Xi ws}{ws':List Nat}{g:Xg ws'}{t:Xt ws'}{e:Xe ws'}{hw:cws nv fm ws=ws'}{hz:e.fz=true}:(bh nv fm i g t e hw hz).p env s=(i.p env s).bind fun ds s1=>if ds.length<=100000 then (match cV g.p t.p e.p ds (cenv nv fm env) s1 with
  | .ok r s2=>.ok (.lst r) s2
  | _=>.bad) else .bad:=rfl
@[simp] theorem aK:(aN a b).p env s=(a.p env s).then b.p:=rfl
@[simp] theorem cS:(xSkip:Xd ws).p env s=.nx env s:=rfl
@[simp] theorem dJ:(aV e).p env s=(e.p env s).go env fun d _ s=>.rt d s:=rfl
@[simp] theorem xDrop_p:(vX e).p env s=(e.p env s).go env fun _=>.nx:=rfl
@[simp] theorem cf:(xIf t a b).p env s=(t.p env s).go env fun x env s=>if x=true then a.p env s else b.p env s:=rfl
@[simp] theorem eK:(b8 i e hi hz).p env s=(e.p env s).go env fun d env s=>.nx (env.set i (some d)) s:=rfl
@[simp] theorem kT:(nq i e hi hz).p env s=(e.p env s).go env fun d env s=>match d with
  | .lst ds=>.nx (env.set i (some (.lst ds))) s
  | _=>.bad:=rfl
@[simp] theorem xRaise_p:(iG x a).p env s=(a.p env s).go env fun ds env s=>if ds.length<=100000 then .rse x env s else .bad:=rfl
@[simp] theorem fB:(eX i g b hz).p env s=(i.p env s).go env fun ds env s=>pGo g.p b.p ds env s:=rfl
@[simp] theorem xMt_p:(xMt o i a hi hz).p env s=pMt o i a.p env s fun _=>.nx:=rfl
theorem aZ{hw}(hl:ds.length=np):(bO n np b hw).p ds s=(b.p (dSt n ds) s).fin:=by
 show (if ds.length=np then _ else _)=_;rw[qah hl]
variable {i j:Int} {b:Bool} {x y:List D}
@[simp] theorem oAdd_ii:gL.p (.int i) (.int j)=some (.int (i+j)):=rfl
theorem oAdd_ll(h:x.length+y.length<=100000):gL.p (.lst x) (.lst y)=some (.lst (x++y)):=by
 show (if x.length+y.length<=100000 then _ else _)=_;rw[qah h]
@[simp] theorem oSub_ii:rW.p (.int i) (.int j)=some (.int (i - j)):=rfl
@[simp] theorem oLt_ii:oLt.p (.int i) (.int j)=some (.bl (decide (i<j))):=rfl
@[simp] theorem oLe_ii:oLe.p (.int i) (.int j)=some (.bl (decide (i<=j))):=rfl
@[simp] theorem oGt_ii:oGt.p (.int i) (.int j)=some (.bl (decide (j<i))):=rfl
@[simp] theorem oGe_ii:oGe.p (.int i) (.int j)=some (.bl (decide (j<=i))):=rfl
@[simp] theorem oIx_l:oIx.p (.lst x) (.int j)=atI x j:=rfl
@[simp] theorem gc:oIx.p (.tup x) (.int j)=atI x j:=rfl
theorem uM(h:j≠0):kw.p (.int i) (.int j)=some (.int (i.fmod j)):=by
 show (if j≠0 then _ else _)=_;rw[qah h]
@[simp] theorem oIsi_p:(cg Ts).p d=(tyD d).map fun t=>.bl (Ts.any (ba t)):=rfl
@[simp] theorem ty_non:tyD .non=some "NoneType":=rfl
@[simp] theorem ty_bl:tyD (.bl b)=some "bool":=rfl
@[simp] theorem ty_int:tyD (.int i)=some "int":=rfl
@[simp] theorem ty_str:tyD (.str z)=some "str":=rfl
@[simp] theorem ty_tup:tyD (.tup x)=some "tuple":=rfl
@[simp] theorem ty_lst:tyD (.lst x)=some "list":=rfl
@[simp] theorem ty_dic:tyD .dic=some "dict":=rfl
@[simp] theorem cMin_ii:mR.p [.int i,.int j]=some (.int (if j<i then j else i)):=rfl
@[simp] theorem cMax_ii:mw.p [.int i,.int j]=some (.int (if j>i then j else i)):=rfl
@[simp] theorem cLen_l:dY.p [.lst x]=some (.int x.length):=rfl
@[simp] theorem cLen_t:dY.p [.tup x]=some (.int x.length):=rfl
@[simp] theorem mn:bM.p [.lst x]=some (.tup x):=rfl
@[simp] theorem cTuple_t:bM.p [.tup x]=some (.tup x):=rfl
theorem vI(h:-100000<=i/\i<=100000):iR1.p [.int i]=some (dG 0 i.toNat):=by
 show (if _ then _ else _)=_;rw[qah h]
@[simp] theorem iE_l:iE.p [.lst x]=some (dO x):=rfl
@[simp] theorem iZ_ll:iZ.p [.lst x,.lst y]=some (jB x y):=rfl
@[simp] theorem iZ_tt:iZ.p [.tup x,.tup y]=some (jB x y):=rfl
theorem pG(h:x.length<100000):iU.p x [a]=some (.non,x++[a]):=by
 show (if _ then _ else _)=_;rw[qah h]
def w4(h:x.length+y.length<=100000):pi.p x [.lst y]=some (.non,x++y):=by
 show (if _ then _ else _)=_;rw[qah h]
def xT{a:D}{i:Nat}(h:i<=x.length)(hl:x.length<100000):pr.p x [.int i,a]=some (.non,x.take i++a::x.drop i):=by
 show (if _ then _ else _)=_;rw[qah ⟨by ext,hl⟩,qbg,Nat.min_eq_left h]
end
section
variable {i j:Int} {b c:Bool}
@[simp] theorem eqD_ii:eqD neg (.int i) (.int j)=some (.bl (if neg then !decide (i=j) else decide (i=j))):=by
 simp[eqD,py,dep,SeqAt.shaped,PyData.canLay0,PyData.depth,PyData.eqv,qbr]
@[simp] theorem eqD_bb:eqD neg (.bl b) (.bl c)=some (.bl (if neg then !(b == c) else b == c)):=by
 simp[eqD,py,dep,SeqAt.shaped,PyData.canLay0,PyData.depth,PyData.eqv]
@[simp] theorem oEq_p:oEq.p a d=eqD false a d:=rfl
@[simp] theorem oNe_p:oNe.p a d=eqD true a d:=rfl
@[simp] theorem oIn_p:(oIn neg).p a d=inD neg a d:=rfl
theorem mJ:∀(k:List Int),pys (k.map .int)=some (k.map .int)/\deps (k.map .int)=0
 | []=>⟨rfl,rfl⟩
 | i::k=>by
  obtain⟨a,b⟩:=mJ k;simp[pys,py,a,deps,dep,b]
def tL:∀(ks:List (List Int)),pys (ks.map kD)=some (ks.map fun k=>.tuple (k.map .int))/\deps (ks.map kD)<=1
 | []=>⟨rfl,by simp[deps]⟩
 | k::ks=>by
  obtain⟨a,b⟩:=tL ks;obtain⟨c,d⟩:=mJ k;constructor
  ·simp[pys,kD,py,a,c]
  ·simp only[qau,deps,kD,dep,d];lia
def lC:∀(k k':List Int),PyData.eqvAll (k.map .int) (k'.map .int)=decide (k=k')
 | [],[]=>by simp[PyData.eqvAll]
 | [],_::_=>by simp[PyData.eqvAll]
 | _::_,[]=>by simp[PyData.eqvAll]
 | a::k,b::k'=>by
  simp only[qau,PyData.eqvAll,PyData.eqv,lC k k',qbr];by_cases z:a=b <;> simp[z]
def pI:∀(ks:List (List Int)),(ks.map fun k=>PyData.tuple (k.map .int)).any (fun e=>PyData.eqv e (.tuple (k.map .int)))=decide (k∈ks)
 | []=>by simp
 | y::ys=>by
  rw[qau,qcR,pI ys]
  have:PyData.eqv (.tuple (y.map .int)) (.tuple (k.map .int))=decide (y=k):=by
   simp only[PyData.eqv,lC]
  rw[this];by_cases z:y=k
  ·simp[z]
  ·simp[z,show ¬k=y from fun q=>z q.symm]
def inD_key{neg:Bool}{k:List Int}{d:D}{ks:List (List Int)}(e:d.items=some (ks.map kD)):inD neg (kD k) d=some (.bl (if neg then !decide (k∈ks) else decide (k∈ks))):=by
 obtain⟨a,b⟩:=tL ks;obtain⟨c,f⟩:=mJ k;have pk:py (kD k)=some (.tuple (k.map .int)):=by simp[kD,py,c]
 have hc:(dep (kD k)<=60/\deps (ks.map kD)<=60)/\(PyData.tuple (k.map .int)).canLay0=true/\PyData.canLayAll0 (ks.map fun k=>.tuple (k.map .int))=true:=⟨⟨by simp[kD,dep,f],by lia⟩,by simpa [PyData.canLay0] using (mG k).1,(qS ks).1⟩;unfold inD;rw[e];dsimp only;rw[pk,a];dsimp only;rw[qah hc,pI]
end
@[simp] theorem pGo_nil:pGo g b [] env s=.nx env s:=rfl
theorem sP(e:g d env=some env1):pGo g b (d::ds) env s=(b env1 s).turn (pGo g b ds):=by
 rw[pGo,e]
def d8(I:Nat->aq->Pen->Prop):∀(ds:List D) (j:Nat) (env:aq) (s:Pen),I j env s ->
  (∀m env s d,I (j+m) env s->ds[m]?=some d->∃env1 env' s',g d env=some env1/\b env1 s=.nx env' s'/\I (j+m+1) env' s')->∃env' s',pGo g b ds env s=.nx env' s'/\I (j+ds.length) env' s'
 | [],j,env,s,hI,_=>⟨env,s,rfl,hI⟩
 | d::ds,j,env,s,hI,st=>by
  obtain⟨env1,env2,s2,e1,e2,I2⟩:=st 0 env s d hI rfl;obtain⟨env3,s3,e3,I3⟩:=d8 I ds (j+1) env2 s2 I2 fun m env' s' x q z=>by
   have:=st (m+1) env' s' x (by rw[show j+(m+1)=j+1+m by lia];exact q) (by simpa using z)
   rw[show j+(m+1)+1=j+1+m+1 by lia] at this;exact this
  refine⟨env3,s3,?_,by rw[qbj,show j+(ds.length+1)=j+1+ds.length by lia];exact I3⟩;rw[sP e1,e2];exact e3
def nY(p:D->Bool)(f:D->D):∀(ds:List D) (vs:aq),vs.length=nv ->
  (∀x∈ds,∀vs:aq,vs.length=nv->∃vs':aq,vs'.length=nv/\g x (vs++fr)=some (vs'++fr)/\t (vs'++fr) s=.ok (p x) s/\(p x=true->e (vs'++fr) s=.ok (f x) s))->cV g t e ds (vs++fr) s=.ok ((ds.filter p).map f) s
 | [],vs,hv,body=>rfl
 | x::ds,vs,hv,body=>by
  obtain⟨vs',hv',e1,e2,e3⟩:=body x (by simp) vs hv;have ih:=nY p f ds vs' hv' fun y hy=>body y (qae _ hy);rw[cV,e1];dsimp only;rw[e2]
  cases hp:p x with
  | true=>simp only[Pb,if_true,e3 hp,ih,List.filter_cons_of_pos hp,qau]
  | false=>simp only[Pb,qaf,if_false,ih,List.filter_cons_of_neg (show ¬p x=true by simp[hp])]
def nP{ws ws':List Nat}{env:aq}{s:Pen}{nv:Nat}{fm:List Nat}{i:Xi ws}{g:Xg ws'}{t:Xt ws'}{e:Xe ws'}{hw:cws nv fm ws=ws'}{hz:e.fz=true}{ds:List D}(p:D->Bool)(f:D->D)(ei:i.p env s=.ok ds s)(hl:ds.length<=100000)
  (body:∀x∈ds,∀vs:aq,vs.length=nv->∃vs':aq,vs'.length=nv/\g.p x (vs++fm.map fun i=>(env[i]?).getD none)=some (vs'++fm.map fun i=>(env[i]?).getD none)/\t.p (vs'++fm.map fun i=>(env[i]?).getD none) s=.ok (p x) s/\(p x=true->e.p (vs'++fm.map fun i=>(env[i]?).getD none) s=.ok (f x) s)) :
  (bh nv fm i g t e hw hz).p env s=.ok (.lst ((ds.filter p).map f)) s:=by
 rw[pd,ei,Pb,qah hl];unfold cenv;rw[nY p f ds _ (by simp) body]
def kY{ws ws':List Nat}{env:aq}{s:Pen}{fm:List Nat}{i:Xi ws}{t:Xt ws'}{e:Xe ws'}{ds:List D}(p:D->Bool)(f:D->D)(ei:i.p env s=.ok ds s)(hl:ds.length<=100000)
  (body:∀x∈ds,t.p (some x::fm.map fun i=>(env[i]?).getD none) s=.ok (p x) s/\(p x=true->e.p (some x::fm.map fun i=>(env[i]?).getD none) s=.ok (f x) s)) (h0:ws'.contains 0=false:=by exact ys rfl) (hw:cws 1 fm ws=ws':=by exact ys rfl) (hz:e.fz=true:=by exact ys rfl) :
  (bh 1 fm i (xNm 0 h0) t e hw hz).p env s=.ok (.lst ((ds.filter p).map f)) s :=
 nP p f ei hl fun x hx vs hv=>match vs,hv with
  | [_],_=>⟨[some x],rfl,rfl,body x hx⟩
def qJ{ws ws':List Nat}{env:aq}{s:Pen}{fm:List Nat}{i:Xi ws}{t:Xt ws'}{e:Xe ws'}{ds:List D}(p:D->Bool)(f:D->D)(ei:i.p env s=.ok ds s)(hl:ds.length<=100000)
  (body:∀x∈ds,∃a b,x=.tup [a,b]/\t.p (some a::some b::fm.map fun i=>(env[i]?).getD none) s=.ok (p x) s/\(p x=true->e.p (some a::some b::fm.map fun i=>(env[i]?).getD none) s=.ok (f x) s)) (h0:ws'.contains 0=false:=by exact ys rfl) (h1:ws'.contains 1=false:=by exact ys rfl) (hw:cws 2 fm ws=ws':=by exact ys rfl) (hz:e.fz=true:=by exact ys rfl) :
  (bh 2 fm i (xGp (xGc (xNm 0 h0) (xGc (xNm 1 h1) xGl)) 2) t e hw hz).p env s=.ok (.lst ((ds.filter p).map f)) s :=
 nP p f ei hl fun x hx vs hv=>match vs,hv with
  | [_,_],_=>let ⟨a,b,e,q⟩:=body x hx;⟨[some a,some b],rfl,by subst e;rfl,q⟩
end PU
namespace PU
open PySem MM SetT SortT
open L2 (ixN atI e8)
def de{α:Type}(l:List α):(l.filter fun _=>true)=l:=List.filter_eq_self.mpr (by simp)
def IsT(n:Int)(k:List Int):Prop:=∃a b:Int,k=[a,b]/\0<=a/\a<n/\0<=b/\b<n/\a≠b
def mmK:List Int->List Int
 | [a,b]=>[if b<a then b else a,if b>a then b else a]
 | k=>k
structure WebT (n:Int) (ks:List (List Int)):Prop where
 n0:0<=n
 n12:n<=12
 tie:∀k∈ks,∃a b:Int,k=[a,b]/\0<=a/\a<b/\b<n
 ris:SortT.Ris ks
 nd:ks.Nodup
def allT:List (List Int):=(List.range 12).flatMap fun b=>(List.range b).map fun (a:Nat)=>[(a:Int),(b:Int)]
def yH:allT.length=66:=by decide
def zK(hn:n<=12)(h0:0<=a)(h1:a<b)(h2:b<n):[a,b]∈allT:=by
 unfold allT;rw[List.mem_flatMap];refine⟨b.toNat,by simp;lia,?_⟩;rw[qav];refine⟨a.toNat,by simp;lia,?_⟩;congr 1
 ·lia
 ·congr 1;lia
def len66{n:Int}{ks:List (List Int)}(hn:n<=12)(hk:∀k∈ks,∃a b:Int,k=[a,b]/\0<=a/\a<b/\b<n)(nd:ks.Nodup):ks.length<=66:=by
 rw[<-yH];refine List.Nodup.length_le_of_subset nd fun k hk'=>?_;obtain⟨a,b,rfl,h1,h2,h3⟩:=hk k hk';exact zK hn h1 h2 h3
def kH(h:0<=i):∃n:Nat,i=(n:Int):=⟨i.toNat,by lia⟩
end PU
namespace PU
open PySem MM SetT SortT
open L2 (ixN atI e8)
local instance (priority:=1) cdecN10 (p:Prop):Decidable p:=Classical.propDecidable p
noncomputable section
section
variable {ws:List Nat}
structure OpR where
 m:Nat->List PV->MH->Out PV
 p:List D->List D->Option D
 ok:∀{q:Nat} {h:MH} {L:Nat} {O:List Nat} {n:Nat} {xs:List PV} {ds as:List D} {vs:List PV} {d:D},h[n]?=some (.lst xs)->Rps q h O ds xs->Vws q h L O as vs->p ds as=some d->∃v,m n vs h=.ok v h/\Rp q h O d v/\∀es,d≠.lst es
end
section
variable {ws:List Nat} {env:aq} {s:Pen}
end
end
noncomputable section
section
variable {ws:List Nat}
def xPar(i j:Nat)(a:Xs ws)(hi:ws.contains i=false:=by exact ys rfl)(hj:ws.contains j=false:=by exact ys rfl)(hz:a.fz=true:=by exact ys rfl):Xd ws where
 m:=su i j a.m
 p:=fun env s=>(a.p env s).go env fun ds env s=>match ds with
  | [x,y]=>.nx ((env.set i (some x)).set j (some y)) s
  | _=>.bad
 fr:=true
 ok {q h L B O σ env s} c d:=by
  refine SOk.ex (f:=fun vs σ h=>match vs with | [v,w]=>.nx ((σ.set i (some v)).set j (some w)) h | _=>.bad) (g:=fun ds env s=>match ds with | [x,y]=>.nx ((env.set i (some x)).set j (some y)) s | _=>.bad) c d (a.ok c) fun xs vs h1 s1 kb c1 ⟨_,z⟩=>?_;have z:=z hz
  match xs,z with
  | [],_=>trivial
  | [_],_=>trivial
  | [x,y],z =>
   obtain⟨v,t,rfl,rv,t2⟩:=z;obtain⟨w,t3,rfl,rw',rfl⟩:=t2;obtain⟨a1,b1⟩:=c1.sr.set (i:=i) (fun z=>by simp[z] at hi) rv;obtain⟨a2,b2⟩:=a1.set (i:=j) (fun z=>by simp[z] at hj) rw';exact⟨_,h1,rfl,O,Stp.refl _ _ _ _,⟨c1.bd,c1.sub,c1.bb,c1.pb,c1.hL,c1.pen,a2⟩,(d.keep b1).keep b2⟩
  | _::_::_::_,_=>trivial
variable {env:aq} {s:Pen}
@[simp] theorem xPar_p:(xPar i j a hi hj hz).p env s=(a.p env s).go env fun ds env s=>match ds with
  | [x,y]=>.nx ((env.set i (some x)).set j (some y)) s
  | _=>.bad:=rfl
end
end
noncomputable section
def gI:List D->Option (List (Int × D))
 | []=>some []
 | .tup [.int k,v]::r=>(gI r).map ((k,v)::·)
 | _=>none
def dgD(x:D):Option (List (Int × D)):=match x with
 | .tup ps=>(match gI ps with
  | some kvs=>if (kvs.map (·.1)).Nodup then some kvs else none
  | none=>none)
 | _=>none
def atD(kvs:List (Int × D))(i:Int)(d:D):D:=((kvs.find? fun kv=>kv.1=i).map (·.2)).getD d
def Rkv(q:Nat)(h:MH)(O:List Nat):List (Int × D)->List (Int × PV)->Prop
 | [],r=>r=[]
 | a::t,r=>∃b u,r=b::u/\a.1=b.1/\Rp q h O a.2 b.2/\Rkv q h O t u
def xV:∀{ds:List D} {xs:List PV} {kvs:List (Int × D)},Rps q h O ds xs->gI ds=some kvs->∃ks,gU xs=some ks/\Rkv q h O kvs ks:=by
 intro ds
 induction ds with
 | nil=>intro xs kvs r e;rw[show xs=[] from r];cases e;exact⟨[],rfl,rfl⟩
 | cons d ds ih =>
  intro xs kvs r e;obtain⟨x,t,rfl,r1,r2⟩:=r;unfold gI at e
  split at e
  ·rename_i z;cases z
  ·rename_i k0 v0 r0 z
   injection z with z1 z2
   subst z1 z2;rw[qat] at e;obtain⟨kvs',e1,rfl⟩:=e;obtain⟨ks,e2,e3⟩:=ih r2 e1;obtain⟨us,rfl,a,us1,rfl,ra,b,us2,rfl,rb,rfl⟩:=r1;rw[show a=PV.int k0 from ra];exact⟨(k0,b)::ks,by unfold gU;rw[e2];rfl,_,_,rfl,rfl,rb,e3⟩
  ·cases e
def Rkv.keys:∀{kvs:List (Int × D)} {ks:List (Int × PV)},Rkv q h O kvs ks->ks.map (·.1)=kvs.map (·.1)
 | [],_,r=>by rw[show _=[] from r];rfl
 | a::t,_,⟨b,u,e,e1,_,r⟩=>by rw[e,qau,qau,e1,Rkv.keys r]
def Rkv.mv(m:Mv O h O' h'):∀{kvs:List (Int × D)} {ks:List (Int × PV)},Rkv q h O kvs ks->Rkv q h' O' kvs ks
 | [],_,r=>r
 | a::t,_,⟨b,u,e,e1,e2,r⟩=>⟨b,u,e,e1,e2.mv m,Rkv.mv m r⟩
def Rkv.at:∀{kvs:List (Int × D)} {ks:List (Int × PV)},Rkv q h O kvs ks->(atD kvs i d=d/\atK ks i v=v)\/Rp q h O (atD kvs i d) (atK ks i v)
 | [],_,r=>by rw[show _=[] from r];exact .inl ⟨rfl,rfl⟩
 | a::t,_,⟨b,u,e,e1,e2,r⟩=>by
  subst e;unfold atD atK;rw[qcm,qcm];by_cases z:a.1=i
  ·have z':b.1=i:=e1▸z;simp only[z,z',decide_true];exact .inr e2
  ·have z':¬b.1=i:=fun q=>z (e1.trans q);simp only[z,z',decide_false];exact Rkv.at (i:=i) (d:=d) (v:=v) r
def dg_inv(r:Rp q h O x v)(e:dgD x=some kvs):∃ks,dgP v=some ks/\Rkv q h O kvs ks:=by
 unfold dgD at e
 split at e
 ·rename_i ps
  split at e
  ·rename_i kvs' ep
   split at e
   ·rename_i nd
    cases e;obtain⟨xs,rfl,r⟩:=r;obtain⟨ks,e1,e2⟩:=xV r ep;refine⟨ks,?_,e2⟩;simp only[dgP,e1];rw[qah (by rw[e2.keys];exact nd)]
   ·cases e
  ·cases e
 ·cases e
section
variable {ws:List Nat}
def xDg(a:Xe ws)(as:Xs ws):Xe ws where
 m:=mDg a.m as.m
 p:=fun env s=>(a.p env s).bind fun x s1=>match dgD x with
  | some kvs=>(as.p env s1).bind fun y s2=>match y with
   | [.int i,d]=>.ok (atD kvs i d) s2
   | _=>.bad
  | none=>.bad
 fz:=as.fz
 fr:=false
 ok {q h L B O σ env s} c:=by
  refine (a.ok c).bind fun x v h1 s1 k1 p1 ⟨w,_,_⟩=>?_
  cases ed:dgD x with
  | none=>trivial
  | some kvs =>
   have c1:=c.kb k1 p1;have rx:Rp q h1 O x v:=by
    rcases w with r|⟨n,xs,ds,e,_⟩
    ·exact r
    ·rw[e] at ed;cases ed
   obtain⟨ks,e1,rk⟩:=dg_inv rx ed;rw[e1];dsimp only;refine (as.ok c1).bind fun y vs h2 s2 k2 p2 ⟨w2,z2⟩=>?_;have rk2:=rk.mv (k2.mv c.pO)
   match y,w2,z2 with
   | [.int i,d],w2,z2 =>
    obtain⟨v1,t1,rfl,u1,v2,t2,rfl,u2,rfl⟩:=w2;rw[u1.int];dsimp only;refine⟨_,h2,rfl,KB.refl _ _,p2,?_,fun z=>?_,fun z=>by cases z⟩
    ·rcases rk2.at (i:=i) (d:=d) (v:=v2) with ⟨e3,e4⟩|r
     ·rw[e3,e4];exact u2
     ·exact .inl r
    ·obtain⟨_,_,e5,_,_,_,e6,r6,_⟩:=z2 z;cases e5;cases e6;rcases rk2.at (i:=i) (d:=d) (v:=v2) with ⟨e3,e4⟩|r
     ·rw[e3,e4];exact r6
     ·exact r
   | [],_,_=>trivial
   | [x1],_,_=>cases x1 <;> trivial
   | .non::_::_,_,_=>trivial
   | .bl _::_::_,_,_=>trivial
   | .str _::_::_,_,_=>trivial
   | .tup _::_::_,_,_=>trivial
   | .lst _::_::_,_,_=>trivial
   | .dic::_::_,_,_=>trivial
   | .exc _::_::_,_,_=>trivial
   | .pen::_::_,_,_=>trivial
   | .int _::_::_::_,_,_=>trivial
def xCT(i j:Int):Xe ws where
 m:=mC (.tup [.int i,.int j])
 p:=fun _ s=>.ok (.tup [.int i,.int j]) s
 fz:=true
 fr:=true
 ok {q h L B O σ env s} c:=by
  have r:Rp q h O (.tup [.int i,.int j]) (.tup [.int i,.int j]):=⟨_,rfl,_,_,rfl,rfl,_,_,rfl,rfl,rfl⟩;exact⟨_,h,rfl,KB.refl _ _,c.pen,.inl r,fun _=>r,fun _ ds e=>by cases e⟩
end
end
noncomputable section
variable {ws:List Nat}
end
end PU
namespace MM
open PySem PySem.Spec PyProof.Rows L2
end MM
namespace PU
open PySem MM
end PU
namespace MM
open PySem PySem.Spec PyProof.Rows L2
abbrev CPm(scope sc:Scope)(vars frees:List Str):Prop:=(∀y∈scope.names,y.2=.cell->scope.names.lookup y.1=some .cell)/\(∀y∈scope.names,y.2=.local->scope.names.lookup y.1=some .local)/\(∀x∈vars,scope.names.lookup x=some .local\/scope.names.lookup x=some .cell)/\(∀x∈frees,scope.names.lookup x=some .free)/\(∀y∈scope.names,y.2=.free->y.1∈frees)/\(∀x∈frees,sc.names.lookup x=some .cell)
def vb{X:Cx}{N:List Str}{scope sc:Scope}{vars frees:List Str}{fm:List Nat}(hsc:X.env.scope=sc)(h1:scope.kind=.function)(h7:fm.map (fun i=>N[i]?)=frees.map some)(h:CPm scope sc vars frees):CompOk X N scope vars frees fm :=
 compOk hsc h1 h.1 h.2.1 h.2.2.1 h.2.2.2.1 h.2.2.2.2.1 h7 h.2.2.2.2.2
def ar1{Q:List Value->Prop}(h:∀a0,Q [a0]):∀us,us.length=1->Q us
 | [_],_=>h _
def ar2{Q:List Value->Prop}(h:∀a0 a1,Q [a0,a1]):∀us,us.length=2->Q us
 | [_,_],_=>h _ _
def ar3{Q:List Value->Prop}(h:∀a0 a1 a2,Q [a0,a1,a2]):∀us,us.length=3->Q us
 | [_,_,_],_=>h _ _ _
abbrev Zn(K:qac)(x:Str):Prop:=PySem.W.nsIn K mainGlobals x=some none
abbrev Nn(X:Cx)(x:Str):Prop:=X.mg x=none
abbrev Sc(X:Cx)(s:Stmt):Prop:=X.env.scope=aE s
abbrev Gd(X:Cx)(N G:List Str)(k:Nat):Prop:=Good X N N G k
structure Ba (P:Program) (w:World) (K:qac) (mg:Str->Option Value) (base:Heap):Prop where
 kin:K.In base
 ns:base.Ns mainGlobals mg
structure EE (X:Cx) (P:Program) (w:World) (K:qac) (mg:Str->Option Value) (base:Heap):Prop where
 e1:X.prog=P
 e2:X.w=w
 e3:X.K=K
 e4:X.mg=mg
 e5:X.base=base
 b:Ba P w K mg base
section
variable {P:Program} {w:World} {K:qac} {mg:Str→Option Value} {base:Heap} {X:Cx}
def EE.n(e:EE X P w K mg base){x:Str}(z:Zn K x):Nn X x:=by
 show X.mg x=none;rw[e.e4];exact PySem.W.mg_none_of e.b.kin e.b.ns z
def FnAt.c{x:Str}{ps:List Str}{F:List PV->MH->Out PV}{i j:Nat}(a:FnAt P w K mg base x ps F i)(e:EE X P w K mg base)(h:i<=j:=by decide):Cal X x ps F j :=
 (a.mono h).cal e.e1 e.e2 e.e3 e.e4 e.e5
def fnN{x:Str}{st:Stmt}{N G ps:List Str}{m:Mst}{k:Nat}(b:Ba P w K mg base)(D:DefAt K x st)(hb:∀X:Cx,EE X P w K mg base->Sc X st->Gd X N G k->DefCx X->MSs X (aC st) m)
  (B:lg x st ps:=by first | exact fun _ _ _ _ _ _=>ar1 fun _=>rfl | exact fun _ _ _ _ _ _=>ar2 fun _ _=>rfl | exact fun _ _ _ _ _ _=>ar3 fun _ _ _=>rfl | exact fun _ _ _ _ _ _=>ar4 fun _ _ _ _=>rfl | exact fun _ _ _ _ _ _=>ar5 fun _ _ _ _ _=>rfl)
  (S:FnScope N ps (aE st):=by exact⟨rfl,rfl,rfl,by decide +kernel,rfl,by decide +kernel,by decide +kernel⟩)
  (hl:∀y∈N,(aE st).names.lookup y=some .local\/(aE st).names.lookup y=some .cell:=by decide +kernel) (hgl:∀y∈G,(aE st).names.lookup y=some .globalImplicit:=by decide +kernel)
  (dbg:∀x∈N++G,(x == ("__debug__":Str))=false/\(x == ("__classdict__":Str))=false/\x≠"__name__":=by decide +kernel) :
  FnAt P w K mg base x ps (aS N.length ps.length m) (k+1) :=
 fnAt_M b.kin b.ns D S B hl hgl dbg fun X e1 e2 e3 e4 e5 e6 g dc=>hb X ⟨e1,e2,e3,e4,e5,b⟩ e6 g dc
end
structure YE (Y X:Cx):Prop where
 e1:Y.prog=X.prog
 e2:Y.w=X.w
 e3:Y.K=X.K
 e4:Y.mg=X.mg
 e5:Y.base=X.base
section
variable {X Y:Cx} {N W G:List Str} {k:Nat} {x:Str} {p pos:Pos} {e:Expr} {es:List Expr} {m:Mx (List PV)} {f:List PV→MH→Out PV}
def YE.n(y:YE Y X)(h:X.mg x=none):Y.mg x=none:=y.e4.symm▸h
def YE.c(y:YE Y X){ps:List Str}{F:List PV->MH->Out PV}{i:Nat}(c:Cal X x ps F i):Cal Y x ps F i:=c.at y.e1 y.e2 y.e3 y.e4 y.e5
def kV(g:Good X N W G k)(i:Nat)(hi:N[i]?=some x:=by rfl):ME X (.Name x pos) (ag i):=me_var g i hi
def kNm(g:Good X N W G k)(i:Nat)(hi:N[i]?=some x:=by rfl)(hw:W[i]?=some x:=by rfl):MG X (.Name x pos) (gNm i):=mg_name g i hi hw
def kIx{a b:Expr}{ma mb:Mx PV}(ha:ME X a ma)(hb:ME X b mb)(hs:kS b:=by exact fun _ _=>rfl):ME X (.Subscript a b pos) (aj aA ma mb):=me_ix ha hb hs
def kCm{op:CmpOp}{f:PV->PV->MH->Out PV}{a b:Expr}{ma mb:Mx PV}(ho:OpJ X (compareOp op) f)(ha:ME X a ma)(hb:ME X b mb)(hm:behindInMarks op b=false:=by first | exact nomark _ | rfl):ME X (.Compare a [op] [b] pos) (aj f ma mb):=me_cmp ho ha hb hm
def kTc{op:CmpOp}{f:PV->PV->MH->Out PV}{a b:Expr}{ma mb:Mx PV}(ho:OpJ X (compareOp op) f)(ha:ME X a ma)(hb:ME X b mb)(hm:behindInMarks op b=false:=by first | exact nomark _ | rfl):MT X (.Compare a [op] [b] pos) (mB (aj f ma mb)):=mt_cmp ho ha hb hm
def kCa(g:Good X N W G k)(j:Nat){ps:List Str}{F:List PV->MH->Out PV}(C:Cal X x ps F k)(ha:MA X (e::es) m)(hj:G[j]?=some x:=by rfl)
  (he:starEach (e::es) X.env=(false,eval e X.env)::starEach es X.env:=by rfl) (hpl:(backTo pos (starEach es X.env)).any (·.1)=false:=by rfl):ME X (.Call (.Name x p) (e::es) [] pos) (ao F m):=me_call g hj C ha he hpl
def kCb{id:String}(g:Good X N W G k)(j:Nat)(hc:cp X (.builtin id) f)(hm:X.mg x=none)(hv:bootBuiltins x=some (.builtin id))(ha:MA X (e::es) m)(hj:G[j]?=some x:=by rfl)
  (he:starEach (e::es) X.env=(false,eval e X.env)::starEach es X.env:=by rfl) (hpl:(backTo pos (starEach es X.env)).any (·.1)=false:=by rfl):ME X (.Call (.Name x p) (e::es) [] pos) (mCB f m):=yG g j hj hc hm hv ha he hpl
def kCt{T:String}(g:Good X N W G k)(j:Nat)(hc:cp X (.type T) f)(hm:X.mg x=none)(hv:bootBuiltins x=some (.type T))(ha:MA X (e::es) m)(hj:G[j]?=some x:=by rfl)
  (he:starEach (e::es) X.env=(false,eval e X.env)::starEach es X.env:=by rfl) (hpl:(backTo pos (starEach es X.env)).any (·.1)=false:=by rfl):ME X (.Call (.Name x p) (e::es) [] pos) (mCB f m):=yd g j hj hc hm hv ha he hpl
def kR1{tg a:Expr}(g:Good X N W G k)(j:Nat)(hm:X.mg "range"=none)(ha:MA X [a] m)(hj:G[j]?=some "range":=by rfl)(hs:starEach [a] X.env=[(false,eval a X.env)]:=by rfl):MI X tg (.Call (.Name "range" p) [a] [] pos) (cW m):=yx (g.gl _ (az hj)) hm ha hs
def kEn{elts:List Expr}{x1:Nat}{tp:Pos}{a:Expr}(g:Good X N W G k)(j:Nat)(hm:X.mg "enumerate"=none)(ha:MA X [a] m)(hj:G[j]?=some (("enumerate":String):Str):=by rfl)(hs:starEach [a] X.env=[(false,eval a X.env)]:=by rfl):MI X (.Tuple elts x1 tp) (.Call (.Name "enumerate" p) [a] [] pos) (mItE m):=mi_enum g hj hm ha hs
section
variable {tg iter elt:Expr} {ifs:List Expr} {scope sc:Scope} {mi:Mx MIt} {gt:Mg} {mt:Mx Bool} {me:Mx PV}
def kCp(g:Good X N W G k)(hsc:X.env.scope=sc)(vars frees G':List Str)(fm:List Nat)(hi:MI X tg iter mi)(hY:∀Y:Cx,YE Y X->Good Y (vars++frees) vars G' k->MG Y tg gt/\MTs Y ifs mt/\ME Y elt me)
  (h1:scope.kind=.function:=by rfl) (h7:fm.map (fun i=>N[i]?)=frees.map some:=by rfl) (h:CPm scope sc vars frees:=by decide +kernel)
  (nd:(vars++frees).Nodup:=by decide +kernel) (hgl:∀x∈G',scope.names.lookup x=some .globalImplicit:=by decide +kernel) (dbg:∀x∈(vars++frees)++G',(x == ("__debug__":Str))=false/\(x == ("__classdict__":Str))=false/\x≠"__name__":=by decide +kernel)
  (hs:∀x,foldedSetIterable iter X.env x=pure x:=by exact fun _=>rfl):ME X (.ListComp elt [⟨tg,iter,ifs,0⟩] scope pos) (bz vars.length fm mi gt mt me) :=
 me_comp g (vb hsc h1 h7 h) nd hgl dbg hi (fun Y y1 y2 y3 y4 y5 _ g=>hY Y ⟨y1,y2,y3,y4,y5⟩ g) hs
def kSc{spos py:Pos}{y:Str}(g:Good X N W G k)(hsc:X.env.scope=sc)(i:Nat)(vars frees G':List Str)(fm:List Nat)(hi:MI X tg iter mi)(hY:∀Y:Cx,YE Y X->Good Y (vars++frees) vars G' k->MG Y tg gt/\MTs Y ifs mt/\ME Y elt me)
  (hsw:∀env:Env,env.scope=sc->swapsWith (.ListComp elt [⟨tg,iter,ifs,0⟩] scope pos) (some (.Name y py)) spos.line env=pure true:=by (intro env h;cases env;cases h;rfl))
  (hyi:N[i]?=some y:=by rfl) (hw:W[i]?=some y:=by rfl)
  (h1:scope.kind=.function:=by rfl) (h7:fm.map (fun i=>N[i]?)=frees.map some:=by rfl) (h:CPm scope sc vars frees:=by decide +kernel)
  (nd:(vars++frees).Nodup:=by decide +kernel) (hgl:∀x∈G',scope.names.lookup x=some .globalImplicit:=by decide +kernel) (dbg:∀x∈(vars++frees)++G',(x == ("__debug__":Str))=false/\(x == ("__classdict__":Str))=false/\x≠"__name__":=by decide +kernel)
  (hs:∀x,foldedSetIterable iter X.env x=pure x:=by exact fun _=>rfl):MS X (.Assign [.Name y py] (.ListComp elt [⟨tg,iter,ifs,0⟩] scope pos) spos) (aY i (bz vars.length fm mi gt mt me)) :=
 ms_setC g i hyi hw (hsw X.env hsc) (vb hsc h1 h7 h) nd hgl dbg hi (fun Y y1 y2 y3 y4 y5 _ g=>hY Y ⟨y1,y2,y3,y4,y5⟩ g) hs
end
end
abbrev kj:=@PyProof.Rows.Boot.«abs»
abbrev iT:=@PyProof.Rows.Boot.«min»
abbrev mU:=@PyProof.Rows.Boot.«max»
abbrev xy:=@PyProof.Rows.Boot.«int»
abbrev df:=@PyProof.Rows.Boot.«len»
abbrev cP:=@PyProof.Rows.Boot.«list»
abbrev bi:=@PyProof.Rows.Boot.«tuple»
abbrev ot:=@PyProof.Rows.Boot.«all»
abbrev kE:=@PyProof.Rows.Boot.«sorted»
abbrev vf:=@PyProof.Rows.Boot.«bool»
abbrev kF:=@PySem.F.slot_list_append
abbrev jY:=@PySem.F.type_list_append
abbrev wV:=@PySem.F.slot_list_extend
abbrev xX:=@PySem.F.type_list_extend
abbrev yr:=@PySem.F.slot_list_insert
abbrev xw:=@PySem.F.type_list_insert
end MM
namespace PU
open PySem MM
open L2 (ixN atI e8)
local instance (priority:=1) cdecN15 (p:Prop):Decidable p:=Classical.propDecidable p
noncomputable section
section
variable {ws:List Nat}
end
end
noncomputable section
end
noncomputable section
def cLS:OpN where
 k:=fun vs h1=>match vs with
  | [x]=>(match (cq h1 x).bind fJ with
   | some ns=>if ns.length<=1000 then .ok (.int (many ns)) h1 else .bad
   | none=>.bad)
  | _=>.bad
 p:=fun as=>match as with
  | [.lst ds]=>(b7 ds).bind fun ns=>if ns.length<=1000 then some (.int (many ns)) else none
  | _=>none
 fr:=true
 ok {q h L O as xs d} bd w e:=by
  match as,e with
  | [.lst ds],e =>
   obtain⟨x,rfl,wx⟩:=dW w;obtain⟨zs,e0,r⟩:=wx.lstOf;rw[qaH] at e;obtain⟨ns,e1,e2⟩:=e;by_cases z:ns.length<=1000
   ·rw[qah z] at e2;cases e2;simp only[e0,qaX,gH r e1,j8];rw[qah z];exact gvI
   ·rw[qan z] at e2;cases e2
def cLS_i{ns:List Int}(h:ns.length<=1000):cLS.p [.lst (ns.map .int)]=some (.int (many ns)):=by
 have e:∀ns:List Int,b7 (ns.map .int)=some ns:=fun ns=>by
  induction ns with
  | nil=>rfl
  | cons i k ih=>rw[qau,b7,ih];rfl
 show (b7 (ns.map .int)).bind _=_;rw[e,qaX,qah h]
end
def many_nd{ns:List Int}:many ns=ns.length↔ns.Nodup:=by
 have key:∀j,j<=ns.length->(∀k,k∈PyProof.Rows.firstMet (fun i=>ns.getD i 0) j↔k∈ns.take j)/\((PyProof.Rows.firstMet (fun i=>ns.getD i 0) j).length=j↔(ns.take j).Nodup):=by
  intro j
  induction j with
  | zero=>intro _;simp[PyProof.Rows.firstMet_zero]
  | succ j ih =>
   intro hj;obtain⟨a,b⟩:=ih (by lia);have hj':j<ns.length:=by lia
   have et:ns.take (j+1)=ns.take j++[ns[j]]:=by rw[qbO];simp[hj']
   have eg:ns.getD j 0=ns[j]:=by simp[List.getD,hj']
   have ea:(PyProof.Rows.firstMet (fun i=>ns.getD i 0) j).any (· == ns.getD j 0)=decide (ns[j]∈ns.take j):=by
    rw[Bool.eq_iff_iff,qcj,decide_eq_true_iff,<-a,eg];exact⟨fun ⟨x,hx,e⟩=>by rw[<-eq_of_beq e];exact hx,fun h=>⟨_,h,by simp⟩⟩
   have hle:=PyProof.Rows.firstMet_length_le (fun i=>ns.getD i 0) j;rw[PyProof.Rows.firstMet_succ,et];constructor
   ·intro k
    have:=PyProof.Rows.step_any (PyProof.Rows.firstMet (fun i=>ns.getD i 0) j) (ns.getD j 0) k
    rw[Bool.eq_iff_iff,qcj,Bool.or_eq_true,qcj,decide_eq_true_iff,eg] at this;rw[qay,qcc,<-a];constructor
    ·intro h;rw[eg] at h;rcases this.mp ⟨k,h,by simp⟩ with ⟨x,hx,e⟩|e
     ·rw[<-eq_of_beq e];exact .inl hx
     ·exact .inr e
    ·intro h;obtain⟨x,hx,e⟩:=this.mpr (h.imp (fun h=>⟨k,h,by simp⟩) id);rw[eg,<-eq_of_beq e];exact hx
   ·rw[PyProof.Rows.step_length,ea,qbU];by_cases z:ns[j]∈ns.take j
    ·simp only[z,decide_true,if_true];exact⟨fun h=>by lia,fun h=>absurd rfl (h.2.2 _ z _ (by simp))⟩
    ·simp only[z,decide_false,qaf,if_false];constructor
     ·intro h
      exact⟨b.mp (by lia),by simp,fun x hx y hy e=>z (by
       have:y=ns[j]:=by simpa using hy
       rw[<-this,<-e];exact hx)⟩
     ·intro h
      have:=b.mpr h.1
      lia
 have:=(key ns.length (qai _)).2
 rw[qcD] at this;exact this
end PU
namespace PU
open PySem MM
open L2 (ixN atI e8)
section
variable {ws:List Nat}
end
end PU
namespace PU
open PySem MM L2
end PU
namespace PU
open PySem MM L2
local instance (priority:=1) cdecN22 (p:Prop):Decidable p:=Classical.propDecidable p
noncomputable section
end
end PU
namespace PU
open PySem MM
local instance (priority:=1) cdecN23 (p:Prop):Decidable p:=Classical.propDecidable p
noncomputable section
section
variable {ws:List Nat}
end
end
def dN:D->Option Int
 | .tup (.int k::_)=>some k
 | _=>none
def rkD(d:D):Int:=(dN d).getD 0
section
variable {q:Nat} {h:MH} {O:List Nat}
def uU{d:D}{v:PV}(r:Rp q h O d v)(e:(dN d).isSome=true):qW v=dN d:=by
 cases d with
 | tup ds =>
  cases ds with
  | nil=>cases e
  | cons d0 ds =>
   cases d0 with
   | int k =>
    obtain⟨xs,rfl,x,t,rfl,a,b⟩:=r;rw[show x=.int k from a];rfl
   | _=>cases e
 | _=>cases e
def tK{d:D}{v:PV}(r:Rp q h O d v)(e:rkP v=rkD d):∀{ds:List D} {vs:List PV},Rps q h O ds vs->(∀(i:Nat) a b,ds[i]?=some a->vs[i]?=some b->rkP b=rkD a)->Rps q h O (bx rkD d ds) (bx rkP v vs)
 | [],vs,rs,_=>by
  rw[show vs=[] from rs];exact⟨v,[],rfl,r,rfl⟩
 | d'::ds,vs,rs,hk=>by
  obtain⟨x,t,rfl,a,b⟩:=rs;unfold bx;rw[e,hk 0 d' x rfl rfl];split
  ·exact⟨v,x::t,rfl,r,x,t,rfl,a,b⟩
  ·exact⟨x,_,rfl,a,tK r e b fun i a b h1 h2=>hk (i+1) a b (by simpa using h1) (by simpa using h2)⟩
def xR{ds:List D}{vs:List PV}(r:Rps q h O ds vs)(hk:∀d∈ds,(dN d).isSome=true):(∀v∈vs,(qW v).isSome=true)/\vs.map rkP=ds.map rkD:=by
 induction ds generalizing vs with
 | nil=>rw[show vs=[] from r];exact⟨(fun v h=>by cases h),rfl⟩
 | cons d ds ih =>
  obtain⟨x,t,rfl,a,b⟩:=r;obtain⟨i1,i2⟩:=ih b fun d hd=>hk d (qae _ hd);have e:=uU a (hk d qax);refine⟨fun v hv=>?_,?_⟩
  ·rcases qak.mp hv with rfl|hv
   ·rw[e];exact hk d qax
   ·exact i1 v hv
  ·rw[qau,qau,i2];simp[rkP,rkD,e]
def yI{ds:List D}{vs:List PV}(r:Rps q h O ds vs)(hk:∀d∈ds,(dN d).isSome=true):Rps q h O (aB rkD ds) (aB rkP vs):=by
 induction ds generalizing vs with
 | nil=>rw[show vs=[] from r];exact rfl
 | cons d ds ih =>
  obtain⟨x,t,rfl,a,b⟩:=r;have hk':∀d∈ds,(dN d).isSome=true:=fun d hd=>hk d (qae _ hd);have r2:=ih b hk';show Rps q h O (bx rkD d (aB rkD ds)) (bx rkP x (aB rkP t));have e2:=(xR r2 fun z hz=>hk' z ((cE rkD ds).mem_iff.mp hz)).2;refine tK a (by simp[rkP,rkD,uU a (hk d qax)]) r2 fun i a b h1 h2=>?_
  have:=congrArg (·[i]?) e2
  simpa [h1,h2] using this
end
def jU:OpN where
 k:=fun xs h=>(fSortR xs h).ne
 p:=fun as=>match as with
  | [d]=>d.items.bind fun ds=>if (∀d∈ds,(dN d).isSome=true)/\(ds.map rkD).Nodup/\ds.length<=66 then some (.lst (aB rkD ds)) else none
  | _=>none
 fr:=true
 ok {q h L O as xs d} bd w e:=by
  match as,e with
  | [d0],e =>
   obtain⟨x,rfl,wx⟩:=dW w;dsimp only at e;rw[qaH] at e;obtain⟨ds,e1,e2⟩:=e;by_cases z:(∀d∈ds,(dN d).isSome=true)/\(ds.map rkD).Nodup/\ds.length<=66
   ·rw[qah z] at e2;cases e2;obtain⟨ys,e0,r⟩:=wx.seqOf e1;obtain⟨k1,k2⟩:=xR r z.1
    have:fSortR [x] h=.ok (.loc h.length) (h++[.lst (aB rkP ys)]):=by
     simp only[fSortR,e0];rw[qah ⟨k1,k2▸z.2.1,by rw[r.length];exact z.2.2⟩]
    show Gv q h O true (fSortR [x] h).ne _;rw[this];have r':=yI r z.1;have g:(h++[MO.lst (aB rkP ys)])[h.length]?=some (.lst (aB rkP ys)):=by simp
    have m1:Rps q (h++[MO.lst (aB rkP ys)]) O (aB rkD ds) (aB rkP ys):=r'.mv ⟨fun n hn _=>qao hn,fun o ho=>.inl ho⟩;have m2:Rps q (h++[MO.lst (aB rkP ys)]) (h.length::O) (aB rkD ds) (aB rkP ys):=r'.mv ⟨fun n hn _=>qao hn,fun o ho=>(qak.mp ho).elim (fun z=>.inr (Nat.le_of_eq z.symm)) .inl⟩;exact⟨_,_,rfl,⟨_,_,rfl,fun z=>by have:=bd _ z;lia,g,m1⟩,fun _ ds' e=>by cases e;exact⟨_,_,rfl,qai _,g,m2⟩⟩
   ·rw[qan z] at e2;cases e2
end PU
namespace TupM
open PySem PySem.Builtin
end TupM
namespace L2
open PySem PySem.Spec PyProof.Rows TupM
section
variable {X:Cx}
end
end L2
namespace MM
open PySem PySem.Spec PyProof.Rows L2
local instance (priority:=1) cdec44 (p:Prop):Decidable p:=Classical.propDecidable p
section
variable {X:Cx} {K:qac} {ρ:List Addr} {H:Hp}
end
end MM
namespace PU
open PySem MM
local instance (priority:=1) cdecN44 (p:Prop):Decidable p:=Classical.propDecidable p
end PU
namespace Law
open PySem PySem.Spec PyProof.Rows L2 MM
set_option maxHeartbeats 4000000
noncomputable section
def m_is_whole:Mst:=(aI (bZ (mUn (bw ["int"]) (ag 0)) (nJ (mUn (bw ["bool"]) (ag 0)))))
def cB:List PV->MH->Out PV:=aS 1 1 m_is_whole
def m_is_pair:Mst:=(aI (bZ (mUn (bw ["tuple"]) (ag 0)) (aj opEq (mCB fLen (ac (ag 0) mNil)) (mC (.int 2)))))
def d9:List PV->MH->Out PV:=aS 1 1 m_is_pair
def m_greatest_shared:Mst:=(aw (mWh (mB (aj opNe (ag 1) (mC (.int 0)))) (aw (aY 2 (aj opMod (ag 0) (ag 1)))
 (aw (aY 0 (ag 1))
 (aY 1 (ag 2)))))
 (aI (ag 0)))
def fS:List PV->MH->Out PV:=aS 3 2 m_greatest_shared
def m_is_number:Mst:=(aw (mIf (mOr (cw (mB (ao d9 (ac (ag 0) mNil)))) (mOr (cw (mB (ao cB (ac (aj aA (ag 0) (mC (.int 0))) mNil)))) (cw (mB (ao cB (ac (aj aA (ag 0) (mC (.int 1))) mNil)))))) (aI (mC (.bl false))) mSkip)
 (aI (bZ (aj opGe (aj aA (ag 0) (mC (.int 1))) (mC (.int 1))) (aj opEq (ao fS (ac (mCB fAbs (ac (aj aA (ag 0) (mC (.int 0))) mNil)) (ac (aj aA (ag 0) (mC (.int 1))) mNil))) (mC (.int 1))))))
def lD:List PV->MH->Out PV:=aS 1 1 m_is_number
def m_is_count:Mst:=(aI (bZ (ao cB (ac (ag 0) mNil)) (iC opLe opLe (mC (.int 0)) (ag 0) (mC (.int 12)))))
def gu:List PV->MH->Out PV:=aS 1 1 m_is_count
def m_is_place:Mst:=(aI (bZ (ao cB (ac (ag 1) mNil)) (iC opLe opLt (mC (.int 0)) (ag 1) (ag 0))))
def gv:List PV->MH->Out PV:=aS 2 2 m_is_place
def m_check_place:Mst:=(mIf (cw (mB (ao gv (ac (ag 0) (ac (ag 1) mNil))))) (fy "NoPlace" (ac (mC (.str "this is no place")) mNil)) mSkip)
def fR:List PV->MH->Out PV:=aS 2 2 m_check_place
def m_rising_once:Mst:=(aI (mCB fTuple (ac (mSS (ac (bz 1 [] (cC (ag 0)) (gNm 0) mTrue (bP (ac (mCB fMinS (ac (ag 0) mNil)) (ac (mCB fMaxS (ac (ag 0) mNil)) mNil)))) mNil)) mNil)))
def jS:List PV->MH->Out PV:=aS 1 1 m_rising_once
def m_is_part:Mst:=(aI (bZ (ao d9 (ac (ag 1) mNil)) (bZ (ao gv (ac (ag 0) (ac (aj aA (ag 1) (mC (.int 0))) mNil))) (bZ (ao lD (ac (aj aA (ag 1) (mC (.int 1))) mNil)) (aj opNe (aj aA (ag 1) (mC (.int 1))) (mC (.tup [.int 0,.int 1])))))))
def pK:List PV->MH->Out PV:=aS 2 2 m_is_part
def m_are_parts:Mst:=(aw (mIf (cw (mB (mCB fAll (ac (bz 1 [0] (cC (ag 1)) (gNm 0) mTrue (ao pK (ac (ag 1) (ac (ag 0) mNil)))) mNil)))) (aI (mC (.bl false))) mSkip)
 (aI (aj opEq (mLS (ac (bz 1 [] (cC (ag 1)) (gNm 0) mTrue (aj aA (ag 0) (mC (.int 0)))) mNil)) (mCB fLen (ac (ag 1) mNil)))))
def fu:List PV->MH->Out PV:=aS 2 2 m_are_parts
def m_is_row:Mst:=(aI (bZ (mUn (bw ["tuple"]) (ag 1)) (bZ (ao fu (ac (ag 0) (ac (ag 1) mNil))) (aj opEq (mCB fList (ac (ag 1) mNil)) (mCB fSortR (ac (ag 1) mNil))))))
def sE:List PV->MH->Out PV:=aS 2 2 m_is_row
def m_sheet_of:Mst:=(aw (mIf (cw (mB (ao gu (ac (ag 0) mNil)))) (fy "NoSheet" (ac (mC (.str "a sheet has from 0 to 12 places")) mNil)) mSkip)
 (aw (mIf (mOr (cw (mB (mUn (bw ["list","tuple"]) (ag 1)))) (mB (aj opNe (mCB fLen (ac (ag 1) mNil)) (ag 0)))) (fy "NoSheet" (ac (mC (.str "rows are a list or a tuple of one for each place")) mNil)) mSkip)
 (aw (eS (cC (ag 1)) (gNm 2) (mIf (mOr (cw (mB (mUn (bw ["list","tuple"]) (ag 2)))) (cw (mB (ao fu (ac (ag 0) (ac (ag 2) mNil)))))) (fy "NoSheet" (ac (mC (.str "a row is a list or a tuple of tuples, each of a place and a number")) mNil)) mSkip))
 (aI (bP (ac (ag 0) (ac (mCB fTuple (ac (bz 1 [] (cC (ag 1)) (gNm 0) mTrue (mCB fTuple (ac (mCB fSortR (ac (ag 0) mNil)) mNil))) mNil)) mNil)))))))
def gA:List PV->MH->Out PV:=aS 3 2 m_sheet_of
def m_is_sheet:Mst:=(aw (mIf (mOr (cw (mB (ao d9 (ac (ag 0) mNil)))) (mOr (cw (mB (ao gu (ac (aj aA (ag 0) (mC (.int 0))) mNil)))) (cw (mB (mUn (bw ["tuple"]) (aj aA (ag 0) (mC (.int 1)))))))) (aI (mC (.bl false))) mSkip)
 (aI (bZ (aj opEq (mCB fLen (ac (aj aA (ag 0) (mC (.int 1))) mNil)) (aj aA (ag 0) (mC (.int 0)))) (mCB fAll (ac (bz 1 [0] (cC (aj aA (ag 0) (mC (.int 1)))) (gNm 0) mTrue (ao sE (ac (aj aA (ag 1) (mC (.int 0))) (ac (ag 0) mNil)))) mNil)))))
def nV:List PV->MH->Out PV:=aS 1 1 m_is_sheet
def m_number_at:Mst:=(aw (cF (ao fR (ac (aj aA (ag 0) (mC (.int 0))) (ac (ag 1) mNil))))
 (aw (cF (ao fR (ac (aj aA (ag 0) (mC (.int 0))) (ac (ag 2) mNil))))
 (aI (mDg (aj aA (aj aA (ag 0) (mC (.int 1))) (ag 1)) (ac (ag 2) (ac (mC (.tup [.int 0,.int 1])) mNil))))))
def lL:List PV->MH->Out PV:=aS 3 3 m_number_at
def m_web_of_sheet:Mst:=(aw (aY 1 (cZ mNil))
 (aw (eS (mItE (ac (aj aA (ag 0) (mC (.int 1))) mNil)) (gTp (gCn (gNm 2) (gCn (gNm 3) gNl)) 2) (cF (mMt gC (ag 1) (ac (bz 2 [2] (cC (ag 3)) (gTp (gCn (gNm 0) (gCn (gNm 1) gNl)) 2) (mB (aj opNe (ag 0) (ag 2))) (bP (ac (ag 2) (ac (ag 0) mNil)))) mNil))))
 (aI (bP (ac (aj aA (ag 0) (mC (.int 0))) (ac (ao jS (ac (ag 1) mNil)) mNil))))))
def iQ:List PV->MH->Out PV:=aS 4 1 m_web_of_sheet
def m_l_pen:Mst:=(aw (aY 2 (aj opAdd (aj opMul (mC (.int 7919)) (ag 1)) (mC (.int 11))))
 (aw (mIf (mB (aj opLt (ag 1) (mCB fMin (ac (mCB fLen (ac (ag 0) mNil)) (ac (mC (.int 63)) mNil))))) (aY 2 (aj aA (ag 0) (ag 1))) (mIf (mB (aj opGt (mCB fLen (ac (ag 0) mNil)) (mC (.int 0)))) (aY 2 (aj opAdd (aj opMod (aj aA (ag 0) (aj opMod (ag 1) (mCB fMin (ac (mCB fLen (ac (ag 0) mNil)) (ac (mC (.int 63)) mNil))))) (aj opPow (mC (.int 10)) (mC (.int 15)))) (aj opMul (mC (.int 48271)) (ag 1)))) mSkip))
 (aw (mIf (mB (aj opGe (mCB fAbs (ac (ag 2) mNil)) (aj opPow (mC (.int 10)) (mC (.int 18))))) (aI (cZ (ac (mC (.int 1)) (ac (mCB fAbs (ac (ag 2) mNil)) (ac (mC (.int 0)) mNil))))) mSkip)
 (aI (cZ (ac (mC (.int 0)) (ac (aj opAdd (aj opMod (ag 2) (mC (.int 2147483587))) (aj opMul (mC (.int 40009)) (ag 1))) (ac (mC (.int 0)) mNil))))))))
def gG:List PV->MH->Out PV:=aS 3 2 m_l_pen
def m_l_draw:Mst:=(aw (mAsg (aj opAdd (aj aA (ag 0) (mC (.int 2))) (mC (.int 1))) (gSb (ag 0) (mC (.int 2))))
 (aw (mIf (mB (aj opEq (aj aA (ag 0) (mC (.int 0))) (mC (.int 1)))) (aw (aY 3 (aj opMod (aj aA (ag 0) (mC (.int 1))) (ag 1)))
 (aw (mAsg (aj opFd (aj aA (ag 0) (mC (.int 1))) (ag 1)) (gSb (ag 0) (mC (.int 1))))
 (aI (ag 3)))) mSkip)
 (aw (aY 2 (aj opMod (aj opMul (aj opAdd (aj opAdd (aj aA (ag 0) (mC (.int 1))) (aj opMul (mC (.int 40503)) (aj aA (ag 0) (mC (.int 2))))) (mC (.int 1))) (mC (.int 48271))) (mC (.int 2147483647))))
 (aw (aY 2 (aj opMod (aj opMul (ag 2) (aj opAdd (aj opAdd (aj opMod (ag 2) (mC (.int 65521))) (aj aA (ag 0) (mC (.int 2)))) (mC (.int 3)))) (mC (.int 2147483629))))
 (aI (aj opMod (aj opFd (aj opMod (aj opMul (ag 2) (aj opAdd (aj opMod (ag 2) (mC (.int 8191))) (mC (.int 7)))) (mC (.int 2147483563))) (mC (.int 64))) (ag 1)))))))
def aP:List PV->MH->Out PV:=aS 4 2 m_l_draw
def m_l_lowest:Mst:=(aw (su 2 3 (ac (mCB fAbs (ac (ag 0) mNil)) (ac (mCB fAbs (ac (ag 1) mNil)) mNil)))
 (aw (mWh (mB (aj opGt (ag 3) (mC (.int 0)))) (su 2 3 (ac (ag 3) (ac (aj opMod (ag 2) (ag 3)) mNil))))
 (aw (mIf (mB (aj opLt (ag 1) (mC (.int 0)))) (aY 2 (mUn opNeg (ag 2))) mSkip)
 (aI (bP (ac (aj opFd (ag 0) (ag 2)) (ac (aj opFd (ag 1) (ag 2)) mNil)))))))
def jd:List PV->MH->Out PV:=aS 4 2 m_l_lowest
def ml(F:List PV->MH->Out PV):Mst:=(aw (mIf (mB (aj (pf false) (ag 1) (mC .non))) (aI (aj (pf false) (ag 0) (mC .non))) mSkip)
 (aw (mIf (mB (mUn (bw ["list","tuple"]) (ag 1))) (aw (mIf (mOr (cw (mB (mUn (bw ["list","tuple"]) (ag 0)))) (mB (aj opNe (mUn (bw ["list"]) (ag 0)) (mUn (bw ["list"]) (ag 1))))) (aI (mC (.bl false))) mSkip)
 (aI (bZ (aj opEq (mCB fLen (ac (ag 0) mNil)) (mCB fLen (ac (ag 1) mNil))) (mCB fAll (ac (bz 2 [] (mItZ (ac (ag 0) (ac (ag 1) mNil))) (gTp (gCn (gNm 0) (gCn (gNm 1) gNl)) 2) mTrue (ao F (ac (ag 0) (ac (ag 1) mNil)))) mNil))))) mSkip)
 (aI (bZ (mUn (bw ["int"]) (ag 0)) (bZ (nJ (mUn (bw ["bool"]) (ag 0))) (aj opEq (ag 0) (ag 1)))))))
def jD:Nat->List PV->MH->Out PV
 | 0=>aS 2 2 (fun _ _=>.bad)
 | n+1=>aS 2 2 (ml (jD n))
def dZ:List PV->MH->Out PV:=jD 8
def m_l_number:Mst:=(aw (aY 1 (ao aP (ac (ag 0) (ac (mC (.int 8)) mNil))))
 (aw (mIf (mB (aj opEq (ag 1) (mC (.int 7)))) (aI (ao jd (ac (aj opAdd (aj opSub (ao aP (ac (ag 0) (ac (aj opSub (aj opMul (mC (.int 2)) (aj opPow (mC (.int 10)) (mC (.int 6)))) (mC (.int 1))) mNil))) (aj opPow (mC (.int 10)) (mC (.int 6)))) (mC (.int 1))) (ac (aj opAdd (mC (.int 1)) (ao aP (ac (ag 0) (ac (aj opSub (aj opPow (mC (.int 10)) (mC (.int 6))) (mC (.int 1))) mNil)))) mNil)))) mSkip)
 (aI (ao jd (ac (aj opSub (ao aP (ac (ag 0) (ac (mC (.int 13)) mNil))) (mC (.int 6))) (ac (aj opAdd (mC (.int 1)) (ao aP (ac (ag 0) (ac (aj aA (cZ (ac (mC (.int 1)) (ac (mC (.int 1)) (ac (mC (.int 5)) mNil)))) (aj opMod (ag 1) (mC (.int 3)))) mNil)))) mNil))))))
def oj:List PV->MH->Out PV:=aS 2 1 m_l_number
def m_l_many:Mst:=(aw (mIf (mB (aj opEq (ao aP (ac (ag 0) (ac (mC (.int 16)) mNil))) (mC (.int 15)))) (aI (mC (.int 12))) mSkip)
 (aI (aj aA (cZ (ac (mC (.int 4)) (ac (mC (.int 3)) (ac (mC (.int 5)) (ac (mC (.int 2)) (ac (mC (.int 6)) (ac (mC (.int 1)) (ac (mC (.int 0)) (ac (mC (.int 3)) mNil))))))))) (ao aP (ac (ag 0) (ac (mC (.int 8)) mNil))))))
def rK:List PV->MH->Out PV:=aS 1 1 m_l_many
def m_l_rows:Mst:=(aw (aY 2 (aj opAdd (mC (.int 1)) (ao aP (ac (ag 0) (ac (mC (.int 4)) mNil)))))
 (aw (aY 3 (cZ mNil))
 (aw (eS (cW (ac (ag 1) mNil)) (gNm 4) (aw (aY 5 (bz 1 [0,2] (cW (ac (ag 1) mNil)) (gNm 0) (mB (aj opEq (ao aP (ac (ag 1) (ac (ag 2) mNil))) (mC (.int 0)))) (bP (ac (ag 0) (ac (ao oj (ac (ag 1) mNil)) mNil)))))
 (cF (mMt b9 (ag 3) (ac (mCB fTuple (ac (bz 2 [] (cC (ag 5)) (gTp (gCn (gNm 0) (gCn (gNm 1) gNl)) 2) (mB (aj opNe (aj aA (ag 1) (mC (.int 0))) (mC (.int 0)))) (bP (ac (ag 0) (ac (ag 1) mNil)))) mNil)) mNil)))))
 (aI (mCB fTuple (ac (ag 3) mNil))))))
def rT:List PV->MH->Out PV:=aS 6 2 m_l_rows
def m_l_turned:Mst:=(aw (aY 2 (cZ mNil))
 (aw (eS (cC (ag 1)) (gNm 3) (cF (mMt iP (ag 2) (ac (ao aP (ac (ag 0) (ac (aj opAdd (mCB fLen (ac (ag 2) mNil)) (mC (.int 1))) mNil))) (ac (ag 3) mNil)))))
 (aw (mIf (mB (aj opEq (ao aP (ac (ag 0) (ac (mC (.int 2)) mNil))) (mC (.int 1)))) (aI (mCB fTuple (ac (ag 2) mNil))) mSkip)
 (aI (ag 2)))))
def oJ:List PV->MH->Out PV:=aS 4 2 m_l_turned
def m_l_ties_of:Mst:=(aw (aY 1 (cZ mNil))
 (aw (eS (mItE (ac (aj aA (ag 0) (mC (.int 1))) mNil)) (gTp (gCn (gNm 2) (gCn (gNm 3) gNl)) 2) (eS (cC (ag 3)) (gTp (gCn (gNm 4) (gCn (gNm 5) gNl)) 2) (mIf (mAnd (mB (aj opNe (ag 2) (ag 4))) (mB (aj (tw true) (bP (ac (mCB fMin (ac (ag 2) (ac (ag 4) mNil))) (ac (mCB fMax (ac (ag 2) (ac (ag 4) mNil))) mNil))) (ag 1)))) (cF (mMt b9 (ag 1) (ac (bP (ac (mCB fMin (ac (ag 2) (ac (ag 4) mNil))) (ac (mCB fMax (ac (ag 2) (ac (ag 4) mNil))) mNil))) mNil))) mSkip)))
 (aI (mCB fSorted (ac (ag 1) mNil)))))
def lM:List PV->MH->Out PV:=aS 6 1 m_l_ties_of
def m_l_numbers_right:Mst:=(aw (eS (cW (ac (aj aA (ag 0) (mC (.int 0))) mNil)) (gNm 1) (eS (cW (ac (aj aA (ag 0) (mC (.int 0))) mNil)) (gNm 2) (aw (aY 3 (aj opAdd (bz 2 [2] (cC (aj aA (aj aA (ag 0) (mC (.int 1))) (ag 1))) (gTp (gCn (gNm 0) (gCn (gNm 1) gNl)) 2) (mB (aj opEq (ag 0) (ag 2))) (ag 1)) (cZ (ac (bP (ac (mC (.int 0)) (ac (mC (.int 1)) mNil))) mNil))))
 (mIf (cw (mB (ao dZ (ac (ao lL (ac (ag 0) (ac (ag 1) (ac (ag 2) mNil)))) (ac (aj aA (ag 3) (mC (.int 0))) mNil))))) (aI (mC (.bl false))) mSkip))))
 (aI (mC (.bl true))))
def fZ:List PV->MH->Out PV:=aS 4 1 m_l_numbers_right
def m_l_right:Mst:=(aw (aY 1 (ao rK (ac (ag 0) mNil)))
 (aw (aY 2 (bP (ac (ag 1) (ac (ao rT (ac (ag 0) (ac (ag 1) mNil))) mNil))))
 (aw (aY 3 (bz 1 [0] (cC (aj aA (ag 2) (mC (.int 1)))) (gNm 0) mTrue (ao oJ (ac (ag 1) (ac (ag 0) mNil)))))
 (aw (aY 4 (bz 1 [] (cC (ag 3)) (gNm 0) mTrue (mCB fList (ac (ag 0) mNil))))
 (aw (mIf (mB (aj opEq (ao aP (ac (ag 0) (ac (mC (.int 2)) mNil))) (mC (.int 1)))) (aY 6 (ao gA (ac (ag 1) (ac (mCB fTuple (ac (ag 3) mNil)) mNil)))) (aY 6 (ao gA (ac (ag 1) (ac (ag 3) mNil)))))
 (aw (mIf (mOr (cw (mB (ao dZ (ac (ag 6) (ac (ag 2) mNil))))) (mB (aj opNe (bz 1 [] (cC (ag 3)) (gNm 0) mTrue (mCB fList (ac (ag 0) mNil))) (ag 4)))) (aI (mC (.bl false))) mSkip)
 (aw (eS (cW (ac (ag 1) mNil)) (gNm 5) (mIf (mB (mUn (bw ["list"]) (aj aA (ag 3) (ag 5)))) (cF (mMt b9 (aj aA (ag 3) (ag 5)) (ac (bP (ac (mC (.int 0)) (ac (bP (ac (mC (.int 1)) (ac (mC (.int 1)) mNil))) mNil))) mNil))) mSkip))
 (aw (mIf (mOr (cw (mB (ao dZ (ac (ag 6) (ac (ag 2) mNil))))) (mOr (mB (aj (pf true) (ao nV (ac (ag 6) mNil)) (mC (.bl true)))) (cw (mB (ao dZ (ac (ao gA (ac (ag 1) (ac (aj aA (ag 6) (mC (.int 1))) mNil))) (ac (ag 2) mNil))))))) (aI (mC (.bl false))) mSkip)
 (aI (bZ (ao fZ (ac (ag 6) mNil)) (ao dZ (ac (ao iQ (ac (ag 6) mNil)) (ac (bP (ac (ag 1) (ac (mCB fTuple (ac (ao lM (ac (ag 2) mNil)) mNil)) mNil))) mNil)))))))))))))
def eA:List PV->MH->Out PV:=aS 7 1 m_l_right
def m_law:Mst:=(aI (mCB fAll (ac (bz 1 [0] (cW (ac (mCB fMax (ac (mC (.int 1)) (ac (mCB fMin (ac (mCB fLen (ac (ag 0) mNil)) (ac (mC (.int 16)) mNil))) mNil))) mNil)) (gNm 0) mTrue (ao eA (ac (ao gG (ac (ag 1) (ac (ag 0) mNil))) mNil))) mNil)))
def f_law:List PV->MH->Out PV:=aS 1 1 m_law
end
end Law
namespace Law
open PySem MM PU
open L2 (ixN atI e8)
set_option maxHeartbeats 4000000
noncomputable section
def jp:Xd []:=(aV (cj (xUn (cg ["int"]) (ae 0)) (wn (xUn (cg ["bool"]) (ae 0)))))
def dz:Fn:=bO 1 1 jp
def um{ds:List D}{s:Pen}(h:ds.length=1):dz.p ds s=(jp.p (dSt 1 ds) s).fin:=aZ h
def jZ:Xd []:=(aV (cj (xUn (cg ["tuple"]) (ae 0)) (ak oEq (xCb dY (aa (ae 0) xNil)) (xC (.int 2)))))
def d6:Fn:=bO 1 1 jZ
def vV{ds:List D}{s:Pen}(h:ds.length=1):d6.p ds s=(jZ.p (dSt 1 ds) s).fin:=aZ h
def dE:Xd []:=(aN (xWh 400 (xB (ak oNe (ae 1) (xC (.int 0)))) (aN (b8 2 (ak kw (ae 0) (ae 1)))
 (aN (b8 0 (ae 1))
 (b8 1 (ae 2)))) m9)
 (aV (ae 0)))
def dA:Fn:=bO 3 2 dE
def kK{ds:List D}{s:Pen}(h:ds.length=2):dA.p ds s=(dE.p (dSt 3 ds) s).fin:=aZ h
def iz:Xd []:=(aN (xIf (xOr (bD (xB (am d6 (aa (ae 0) xNil)))) (xOr (bD (xB (am dz (aa (ak oIx (ae 0) (xC (.int 0))) xNil)))) (bD (xB (am dz (aa (ak oIx (ae 0) (xC (.int 1))) xNil)))))) (aV (xC (.bl false))) xSkip)
 (aV (cj (ak oGe (ak oIx (ae 0) (xC (.int 1))) (xC (.int 1))) (ak oEq (am dA (aa (xCb cAbs (aa (ak oIx (ae 0) (xC (.int 0))) xNil)) (aa (ak oIx (ae 0) (xC (.int 1))) xNil))) (xC (.int 1))))))
def iu:Fn:=bO 1 1 iz
def si{ds:List D}{s:Pen}(h:ds.length=1):iu.p ds s=(iz.p (dSt 1 ds) s).fin:=aZ h
def jE:Xd []:=(aV (cj (am dz (aa (ae 0) xNil)) (rQ oLe oLe (xC (.int 0)) (ae 0) (xC (.int 12)))))
def dq:Fn:=bO 1 1 jE
def uo{ds:List D}{s:Pen}(h:ds.length=1):dq.p ds s=(jE.p (dSt 1 ds) s).fin:=aZ h
def jJ:Xd []:=(aV (cj (am dz (aa (ae 1) xNil)) (rQ oLe oLt (xC (.int 0)) (ae 1) (ae 0))))
def f8:Fn:=bO 2 2 jJ
def uc{ds:List D}{s:Pen}(h:ds.length=2):f8.p ds s=(jJ.p (dSt 2 ds) s).fin:=aZ h
def fI:Xd []:=(xIf (bD (xB (am f8 (aa (ae 0) (aa (ae 1) xNil))))) (iG "NoPlace" (aa (xC (.str "this is no place")) xNil)) xSkip)
def dR:Fn:=bO 2 2 fI
def oW{ds:List D}{s:Pen}(h:ds.length=2):dR.p ds s=(fI.p (dSt 2 ds) s).fin:=aZ h
def fM:Xd []:=(aV (xCb bM (aa (xCb cSS (aa (bh 1 [] (bf (ae 0)) (ws':=[]) (xNm 0) xTrue (bv (aa (xCb qM (aa (ae 0) xNil)) (aa (xCb qQ (aa (ae 0) xNil)) xNil)))) xNil)) xNil)))
def fO:Fn:=bO 1 1 fM
def oX{ds:List D}{s:Pen}(h:ds.length=1):fO.p ds s=(fM.p (dSt 1 ds) s).fin:=aZ h
def kM:Xd []:=(aV (cj (am d6 (aa (ae 1) xNil)) (cj (am f8 (aa (ae 0) (aa (ak oIx (ae 1) (xC (.int 0))) xNil))) (cj (am iu (aa (ak oIx (ae 1) (xC (.int 1))) xNil)) (ak oNe (ak oIx (ae 1) (xC (.int 1))) (xCT 0 1))))))
def hU:Fn:=bO 2 2 kM
def wG{ds:List D}{s:Pen}(h:ds.length=2):hU.p ds s=(kM.p (dSt 2 ds) s).fin:=aZ h
def ig:Xd []:=(aN (xIf (bD (xB (xCb rG (aa (bh 1 [0] (bf (ae 1)) (ws':=[]) (xNm 0) xTrue (am hU (aa (ae 1) (aa (ae 0) xNil)))) xNil)))) (aV (xC (.bl false))) xSkip)
 (aV (ak oEq (xCb cLS (aa (bh 1 [] (bf (ae 1)) (ws':=[]) (xNm 0) xTrue (ak oIx (ae 0) (xC (.int 0)))) xNil)) (xCb dY (aa (ae 1) xNil)))))
def dI:Fn:=bO 2 2 ig
def rF{ds:List D}{s:Pen}(h:ds.length=2):dI.p ds s=(ig.p (dSt 2 ds) s).fin:=aZ h
def mj:Xd []:=(aV (cj (xUn (cg ["tuple"]) (ae 1)) (cj (am dI (aa (ae 0) (aa (ae 1) xNil))) (ak oEq (xCb jv (aa (ae 1) xNil)) (xCb jU (aa (ae 1) xNil))))))
def jI:Fn:=bO 2 2 mj
def xY{ds:List D}{s:Pen}(h:ds.length=2):jI.p ds s=(mj.p (dSt 2 ds) s).fin:=aZ h
def jy:Xd []:=(aN (xIf (bD (xB (am dq (aa (ae 0) xNil)))) (iG "NoSheet" (aa (xC (.str "a sheet has from 0 to 12 places")) xNil)) xSkip)
 (aN (xIf (xOr (bD (xB (xUn (cg ["list","tuple"]) (ae 1)))) (xB (ak oNe (xCb dY (aa (ae 1) xNil)) (ae 0)))) (iG "NoSheet" (aa (xC (.str "rows are a list or a tuple of one for each place")) xNil)) xSkip)
 (aN (eX (bf (ae 1)) (xNm 2) (xIf (xOr (bD (xB (xUn (cg ["list","tuple"]) (ae 2)))) (bD (xB (am dI (aa (ae 0) (aa (ae 2) xNil)))))) (iG "NoSheet" (aa (xC (.str "a row is a list or a tuple of tuples, each of a place and a number")) xNil)) xSkip))
 (aV (bv (aa (ae 0) (aa (xCb bM (aa (bh 1 [] (bf (ae 1)) (ws':=[]) (xNm 0) xTrue (xCb bM (aa (xCb jU (aa (ae 0) xNil)) xNil))) xNil)) xNil)))))))
def bF:Fn:=bO 3 2 jy
def uq{ds:List D}{s:Pen}(h:ds.length=2):bF.p ds s=(jy.p (dSt 3 ds) s).fin:=aZ h
def iY:Xd []:=(aN (xIf (xOr (bD (xB (am d6 (aa (ae 0) xNil)))) (xOr (bD (xB (am dq (aa (ak oIx (ae 0) (xC (.int 0))) xNil)))) (bD (xB (xUn (cg ["tuple"]) (ak oIx (ae 0) (xC (.int 1)))))))) (aV (xC (.bl false))) xSkip)
 (aV (cj (ak oEq (xCb dY (aa (ak oIx (ae 0) (xC (.int 1))) xNil)) (ak oIx (ae 0) (xC (.int 0)))) (xCb rG (aa (bh 1 [0] (bf (ak oIx (ae 0) (xC (.int 1)))) (ws':=[]) (xNm 0) xTrue (am jI (aa (ak oIx (ae 1) (xC (.int 0))) (aa (ae 0) xNil)))) xNil)))))
def gk:Fn:=bO 1 1 iY
def ue{ds:List D}{s:Pen}(h:ds.length=1):gk.p ds s=(iY.p (dSt 1 ds) s).fin:=aZ h
def ik:Xd []:=(aN (vX (am dR (aa (ak oIx (ae 0) (xC (.int 0))) (aa (ae 1) xNil))))
 (aN (vX (am dR (aa (ak oIx (ae 0) (xC (.int 0))) (aa (ae 2) xNil))))
 (aV (xDg (ak oIx (ak oIx (ae 0) (xC (.int 1))) (ae 1)) (aa (ae 2) (aa (xCT 0 1) xNil))))))
def fx:Fn:=bO 3 3 ik
def sJ{ds:List D}{s:Pen}(h:ds.length=3):fx.p ds s=(ik.p (dSt 3 ds) s).fin:=aZ h
def eR:Xd [1]:=(aN (nq 1 (iq xNil))
 (aN (eX (dD iE (aa (ak oIx (ae 0) (xC (.int 1))) xNil)) (xGp (xGc (xNm 2) (xGc (xNm 3) xGl)) 2) (xMt pi 1 (aa (bh 2 [2] (bf (ae 3)) (ws':=[]) (xGp (xGc (xNm 0) (xGc (xNm 1) xGl)) 2) (xB (ak oNe (ae 0) (ae 2))) (bv (aa (ae 2) (aa (ae 0) xNil)))) xNil)))
 (aV (bv (aa (ak oIx (ae 0) (xC (.int 0))) (aa (xLend fO (aa (ae 1) xNil)) xNil))))))
def fb:Fn:=bO 4 1 eR
def oo{ds:List D}{s:Pen}(h:ds.length=1):fb.p ds s=(eR.p (dSt 4 ds) s).fin:=aZ h
def o5{h:MH}{p:Nat}{o:MO}(hp:p<h.length):(h.set p o)[p]?=some o:=qaE hp
def ix2:ixN 3 2=some 2:=uL (n:=3) (m:=2) (by decide)
def ix1:ixN 3 1=some 1:=uL (n:=3) (m:=1) (by decide)
def iN(s:Pen)(size:Int)(hs:0<size)(hl:size.natAbs.log2<9000):∃x:Int × Int,(0<=x.1/\x.1<size)/\∀(h:MH) (p:Nat),bS h p s->aP [.loc p,.int size] h=.ok (.int x.1) (h.set p (.lst [.int s.1,.int x.2,.int (s.2.2+1)])):=by
 obtain⟨m,c,t⟩:=s;have hs0:size≠0:=by ext
 have st:∀n:Int,0<=n.fmod size/\n.fmod size<size:=fun n=>by
  rw[qbn n (by ext)];exact⟨qbT n hs0,qbD n hs⟩
 by_cases hm:m=1
 ·subst hm;refine⟨(c.fmod size,c.fdiv size),st c,fun h p e=>?_⟩;have e:h[p]?=some (.lst [.int 1,.int c,.int t]):=e;have hp:p<h.length:=(qad.mp e).1;have e2:(h.set p (.lst [.int 1,.int c,.int (t+1)]))[p]?=some (.lst [.int 1,.int c,.int (t+1)]):=o5 hp;unfold aP;refine (iL (by rfl)).trans ?_;unfold m_l_draw;simp[bG,List.replicate,gJ e,mL e,ix2,gJ e2,eT hs0,u8 hs0 hl,mL e2,ix1]
 ·have big:∀n k:Int,0<k->0<=n.fmod k/\n.fmod k<k:=fun n k hk=>by
   rw[qbn n (by ext)];exact⟨qbT n (by ext),qbD n hk⟩
  generalize ea:((c+40503 * (t+1)+1) * 48271).fmod 2147483647=A;have b1:=big ((c+40503 * (t+1)+1) * 48271) 2147483647 (by decide);rw[ea] at b1;generalize eb:(A * (A.fmod 65521+(t+1)+3)).fmod 2147483629=C;have b2:=big (A * (A.fmod 65521+(t+1)+3)) 2147483629 (by decide);rw[eb] at b2;refine⟨((((C * (C.fmod 8191+7)).fmod 2147483563).fdiv 64).fmod size,c),st _,fun h p e=>?_⟩;have e:h[p]?=some (.lst [.int m,.int c,.int t]):=e;have hp:p<h.length:=(qad.mp e).1;have e2:(h.set p (.lst [.int m,.int c,.int (t+1)]))[p]?=some (.lst [.int m,.int c,.int (t+1)]):=o5 hp;have c1:-(2 ^ 64)<A/\A<2 ^ 64:=by ext
  have c2:-(2 ^ 64)<C/\C<2 ^ 64:=by ext
  have k1:∀{i:Int} {h:MH},opMul (.int 40503) (.int i) h=.ok (.int (40503 * i)) h:=gD (by decide);have k2:∀{i:Int} {h:MH},opMul (.int i) (.int 48271) h=.ok (.int (i * 48271)) h:=opMul_r (by decide);unfold aP;refine (iL (by rfl)).trans ?_;unfold m_l_draw;simp[bG,List.replicate,gJ e,mL e,ix2,gJ e2,hm,k1,k2,eT,ea,gD c1,eb,gD c2,u8 (show (64:Int)≠0 by decide) (show (64:Int).natAbs.log2<9000 by decide +kernel),eT hs0]
open Classical in
def lw(s:Pen)(size:Int):Int × Int:=if z:0<size/\size.natAbs.log2<9000 then (iN s size z.1 z.2).choose else (0,0)
def nN(ds:List D):Option Int:=match ds with
 | [.pen,.int i]=>some i
 | _=>none
def vH{ds:List D}{i:Int}(e:nN ds=some i):ds=[.pen,.int i]:=by
 unfold nN at e
 split at e
 ·cases e;rfl
 ·cases e
open Classical in
def aL:Fn where
 m:=aP
 p:=fun ds s=>match nN ds with
  | some size=>if 0<size/\size.natAbs.log2<9000 then .ok (.int (lw s size).1) (s.1,(lw s size).2,s.2.2+1) else .bad
  | none=>.bad
 fr:=true
 ok {q h O vs ds s} bd hq pn r:=by
  cases e:nN ds with
  | none=>trivial
  | some size =>
   have:=vH e
   subst this;dsimp only;by_cases z:0<size/\size.natAbs.log2<9000
   ·rw[qah z];obtain⟨x,t,rfl,hx,y,t',rfl,hy,ht⟩:=r;rw[show x=PV.loc q from hx,show y=PV.int size from hy,show t'=[] from ht];have k:=(iN s size z.1 z.2).choose_spec.2 h q pn;have ed:lw s size=(iN s size z.1 z.2).choose:=by unfold lw;rw[dif_pos z]
    rw[<-ed] at k;refine⟨_,_,k,⟨by simp,fun n hn hp=>qam (Ne.symm hp)⟩,o5 (aW pn),rfl,fun _ ds e=>by cases e⟩
   ·rw[qan z];trivial
open Classical in
theorem cM{s:Pen}{size:Int}(hs:0<size)(hl:size<=2000000000):∃d s',0<=d/\d<size/\aL.p [.pen,.int size] s=.ok (.int d) s':=by
 have hlog:size.natAbs.log2<9000:=by
  have h1:size.natAbs<=2000000000:=by ext
  have h2:size.natAbs.log2<31:=(Nat.log2_lt (by ext)).mpr (by ext);ext
 have z:0<size/\size.natAbs.log2<9000:=⟨hs,hlog⟩;have ed:lw s size=(iN s size z.1 z.2).choose:=by unfold lw;rw[dif_pos z]
 have k:=(iN s size z.1 z.2).choose_spec.1;rw[<-ed] at k;exact⟨_,_,k.1,k.2,by show (if 0<size/\size.natAbs.log2<9000 then _ else _)=_;rw[qah z]⟩
def jc:Xd []:=(aN (xPar 2 3 (aa (xCb cAbs (aa (ae 0) xNil)) (aa (xCb cAbs (aa (ae 1) xNil)) xNil)))
 (aN (xWh 400 (xB (ak oGt (ae 3) (xC (.int 0)))) (xPar 2 3 (aa (ae 3) (aa (ak kw (ae 2) (ae 3)) xNil))) m9)
 (aN (xIf (xB (ak oLt (ae 1) (xC (.int 0)))) (b8 2 (xUn oNeg (ae 2))) xSkip)
 (aV (bv (aa (ak oFd (ae 0) (ae 2)) (aa (ak oFd (ae 1) (ae 2)) xNil)))))))
def f9:Fn:=bO 4 2 jc
def ud{ds:List D}{s:Pen}(h:ds.length=2):f9.p ds s=(jc.p (dSt 4 ds) s).fin:=aZ h
def jH(F:Fn):Xd []:=(aN (xIf (xB (ak (oIs false) (ae 1) (xC .non))) (aV (ak (oIs false) (ae 0) (xC .non))) xSkip)
 (aN (xIf (xB (xUn (cg ["list","tuple"]) (ae 1))) (aN (xIf (xOr (bD (xB (xUn (cg ["list","tuple"]) (ae 0)))) (xB (ak oNe (xUn (cg ["list"]) (ae 0)) (xUn (cg ["list"]) (ae 1))))) (aV (xC (.bl false))) xSkip)
 (aV (cj (ak oEq (xCb dY (aa (ae 0) xNil)) (xCb dY (aa (ae 1) xNil))) (xCb rG (aa (bh 2 [] (dD iZ (aa (ae 0) (aa (ae 1) xNil))) (ws':=[]) (xGp (xGc (xNm 0) (xGc (xNm 1) xGl)) 2) xTrue (am F (aa (ae 0) (aa (ae 1) xNil)))) xNil))))) xSkip)
 (aV (cj (xUn (cg ["int"]) (ae 0)) (cj (wn (xUn (cg ["bool"]) (ae 0))) (ak oEq (ae 0) (ae 1)))))))
def eY:Nat->Fn
 | 0=>xNone (aS 2 2 fun _ _=>.bad)
 | n+1=>bO 2 2 (jH (eY n))
def pV{n:Nat}{ds:List D}{s:Pen}(h:ds.length=2):(eY (n+1)).p ds s=((jH (eY n)).p (dSt 2 ds) s).fin:=aZ h
def cD:Fn:=eY 8
def f7:Xd []:=(aN (b8 1 (am aL (aa (ae 0) (aa (xC (.int 8)) xNil))))
 (aN (xIf (xB (ak oEq (ae 1) (xC (.int 7)))) (aV (am f9 (aa (ak gL (ak rW (am aL (aa (ae 0) (aa (ak rW (ak oMul (xC (.int 2)) (ak oPow (xC (.int 10)) (xC (.int 6)))) (xC (.int 1))) xNil))) (ak oPow (xC (.int 10)) (xC (.int 6)))) (xC (.int 1))) (aa (ak gL (xC (.int 1)) (am aL (aa (ae 0) (aa (ak rW (ak oPow (xC (.int 10)) (xC (.int 6))) (xC (.int 1))) xNil)))) xNil)))) xSkip)
 (aV (am f9 (aa (ak rW (am aL (aa (ae 0) (aa (xC (.int 13)) xNil))) (xC (.int 6))) (aa (ak gL (xC (.int 1)) (am aL (aa (ae 0) (aa (ak oIx (iq (aa (xC (.int 1)) (aa (xC (.int 1)) (aa (xC (.int 5)) xNil)))) (ak kw (ae 1) (xC (.int 3)))) xNil)))) xNil))))))
def cA:Fn:=bO 2 1 f7
def lR{ds:List D}{s:Pen}(h:ds.length=1):cA.p ds s=(f7.p (dSt 2 ds) s).fin:=aZ h
def mO:Xd []:=(aN (xIf (xB (ak oEq (am aL (aa (ae 0) (aa (xC (.int 16)) xNil))) (xC (.int 15)))) (aV (xC (.int 12))) xSkip)
 (aV (ak oIx (iq (aa (xC (.int 4)) (aa (xC (.int 3)) (aa (xC (.int 5)) (aa (xC (.int 2)) (aa (xC (.int 6)) (aa (xC (.int 1)) (aa (xC (.int 0)) (aa (xC (.int 3)) xNil))))))))) (am aL (aa (ae 0) (aa (xC (.int 8)) xNil))))))
def mm:Fn:=bO 1 1 mO
def xl{ds:List D}{s:Pen}(h:ds.length=1):mm.p ds s=(mO.p (dSt 1 ds) s).fin:=aZ h
def mI:Xd [3]:=(aN (b8 2 (ak gL (xC (.int 1)) (am aL (aa (ae 0) (aa (xC (.int 4)) xNil)))))
 (aN (nq 3 (iq xNil))
 (aN (eX (dD iR1 (aa (ae 1) xNil)) (xNm 4) (aN (b8 5 (bh 1 [0,2] (dD iR1 (aa (ae 1) xNil)) (ws':=[]) (xNm 0) (xB (ak oEq (am aL (aa (ae 1) (aa (ae 2) xNil))) (xC (.int 0)))) (bv (aa (ae 0) (aa (am cA (aa (ae 1) xNil)) xNil)))))
 (xMt iU 3 (aa (xCb bM (aa (bh 2 [] (bf (ae 5)) (ws':=[]) (xGp (xGc (xNm 0) (xGc (xNm 1) xGl)) 2) (xB (ak oNe (ak oIx (ae 1) (xC (.int 0))) (xC (.int 0)))) (bv (aa (ae 0) (aa (ae 1) xNil)))) xNil)) xNil))))
 (aV (xCb bM (aa (ae 3) xNil))))))
def mF:Fn:=bO 6 2 mI
def yk{ds:List D}{s:Pen}(h:ds.length=2):mF.p ds s=(mI.p (dSt 6 ds) s).fin:=aZ h
def i0:Xd [2]:=(aN (nq 2 (iq xNil))
 (aN (eX (bf (ae 1)) (xNm 3) (xMt pr 2 (aa (am aL (aa (ae 0) (aa (ak gL (xCb dY (aa (ae 2) xNil)) (xC (.int 1))) xNil))) (aa (ae 3) xNil))))
 (aN (xIf (xB (ak oEq (am aL (aa (ae 0) (aa (xC (.int 2)) xNil))) (xC (.int 1)))) (aV (xCb bM (aa (ae 2) xNil))) xSkip)
 (xRetO 2))))
def du:Fn:=bO 4 2 i0
def uw{ds:List D}{s:Pen}(h:ds.length=2):du.p ds s=(i0.p (dSt 4 ds) s).fin:=aZ h
def ip:Xd [1]:=(aN (nq 1 (iq xNil))
 (aN (eX (dD iE (aa (ak oIx (ae 0) (xC (.int 1))) xNil)) (xGp (xGc (xNm 2) (xGc (xNm 3) xGl)) 2) (eX (bf (ae 3)) (xGp (xGc (xNm 4) (xGc (xNm 5) xGl)) 2) (xIf (xAnd (xB (ak oNe (ae 2) (ae 4))) (xB (ak (oIn true) (bv (aa (xCb mR (aa (ae 2) (aa (ae 4) xNil))) (aa (xCb mw (aa (ae 2) (aa (ae 4) xNil))) xNil))) (ae 1)))) (xMt iU 1 (aa (bv (aa (xCb mR (aa (ae 2) (aa (ae 4) xNil))) (aa (xCb mw (aa (ae 2) (aa (ae 4) xNil))) xNil))) xNil)) xSkip)))
 (aV (xCb uY (aa (ae 1) xNil)))))
def io:Fn:=bO 6 1 ip
def sT{ds:List D}{s:Pen}(h:ds.length=1):io.p ds s=(ip.p (dSt 6 ds) s).fin:=aZ h
def dB:Xd []:=(aN (eX (dD iR1 (aa (ak oIx (ae 0) (xC (.int 0))) xNil)) (xNm 1) (eX (dD iR1 (aa (ak oIx (ae 0) (xC (.int 0))) xNil)) (xNm 2) (aN (b8 3 (ak gL (bh 2 [2] (bf (ak oIx (ak oIx (ae 0) (xC (.int 1))) (ae 1))) (ws':=[]) (xGp (xGc (xNm 0) (xGc (xNm 1) xGl)) 2) (xB (ak oEq (ae 0) (ae 2))) (ae 1)) (iq (aa (bv (aa (xC (.int 0)) (aa (xC (.int 1)) xNil))) xNil))))
 (xIf (bD (xB (am cD (aa (am fx (aa (ae 0) (aa (ae 1) (aa (ae 2) xNil)))) (aa (ak oIx (ae 3) (xC (.int 0))) xNil))))) (aV (xC (.bl false))) xSkip))))
 (aV (xC (.bl true))))
def dC:Fn:=bO 4 1 dB
def kG{ds:List D}{s:Pen}(h:ds.length=1):dC.p ds s=(dB.p (dSt 4 ds) s).fin:=aZ h
def qP:Xd []:=(aN (b8 1 (am mm (aa (ae 0) xNil)))
 (aN (b8 2 (bv (aa (ae 1) (aa (am mF (aa (ae 0) (aa (ae 1) xNil))) xNil))))
 (aN (b8 3 (bh 1 [0] (bf (ak oIx (ae 2) (xC (.int 1)))) (ws':=[]) (xNm 0) xTrue (am du (aa (ae 1) (aa (ae 0) xNil)))))
 (aN (b8 4 (bh 1 [] (bf (ae 3)) (ws':=[]) (xNm 0) xTrue (xCb jv (aa (ae 0) xNil))))
 (aN (xIf (xB (ak oEq (am aL (aa (ae 0) (aa (xC (.int 2)) xNil))) (xC (.int 1)))) (b8 6 (am bF (aa (ae 1) (aa (xCb bM (aa (ae 3) xNil)) xNil)))) (b8 6 (am bF (aa (ae 1) (aa (ae 3) xNil)))))
 (xIf (xOr (bD (xB (am cD (aa (ae 6) (aa (ae 2) xNil))))) (xB (ak oNe (bh 1 [] (bf (ae 3)) (ws':=[]) (xNm 0) xTrue (xCb jv (aa (ae 0) xNil))) (ae 4)))) (aV (xC (.bl false))) xSkip))))))
def oi:Xd []:=(aN (xIf (xOr (bD (xB (am cD (aa (ae 6) (aa (ae 2) xNil))))) (xOr (xB (ak (oIs true) (am gk (aa (ae 6) xNil)) (xC (.bl true)))) (bD (xB (am cD (aa (am bF (aa (ae 1) (aa (ak oIx (ae 6) (xC (.int 1))) xNil))) (aa (ae 2) xNil))))))) (aV (xC (.bl false))) xSkip)
 (aV (cj (am dC (aa (ae 6) xNil)) (am cD (aa (am fb (aa (ae 6) xNil)) (aa (bv (aa (ae 1) (aa (xCb bM (aa (am io (aa (ae 2) xNil)) xNil)) xNil))) xNil))))))
end
end Law
namespace Law
open PySem MM PU SetT SortT
open L2 (ixN atI e8)
set_option maxHeartbeats 1000000
abbrev nD(t b:Int):D:=.tup [.int t,.int b]
def i6(ha:0<=a)(hb:0<=b):Int.gcd b (a % b)=Int.gcd a b:=by
 obtain⟨m,rfl⟩:=qcB ha;obtain⟨n,rfl⟩:=qcB hb;show Nat.gcd n (m % n)=Nat.gcd m n;rw[Nat.gcd_comm m n,Nat.gcd_rec n m,Nat.gcd_comm]
def sG(hb:0<b):kw.p (.int a) (.int b)=some (.int (a % b)):=by
 rw[uM (by ext),qbn _ (by ext)]
def oFd_pos(hb:0<b)(hl:b.natAbs.log2<9000):oFd.p (.int a) (.int b)=some (.int (a / b)):=by
 show (if b≠0/\Builtin.divisionGoesByPylong a b=false then _ else _)=_;rw[qah ⟨by ext,PyProof.noPylong_of_log2 hl⟩,Int.fdiv_eq_ediv_of_nonneg _ (by ext)]
def oMul_r(h:b.natAbs<2 ^ 64):oMul.p (.int a) (.int b)=some (.int (a * b)):=by
 exact qah (IntMulOk.of_right (intBits_le_64 (by ext) (by ext)))
def abs_nn:(if a<0 then -a else a)=(a.natAbs:Int):=by split <;> ext
def xI:cAbs.p [.int a]=some (.int (a.natAbs:Int)):=by
 show some (D.int (if a<0 then -a else a))=_;rw[abs_nn]
def xWh_p{ws:List Nat}{N:Nat}{t:Xt ws}{b:Xd ws}(hm:∀{σ h n},bC t.m b.m n σ h≠.bad->mWh t.m b.m σ h=bC t.m b.m n σ h){env:aq}{s:Pen}:(xWh N t b hm).p env s=cU t.p b.p N env s:=rfl
def tO{b r:Int}(h0:0<r)(h1:r<b):0<=b % r/\b % r<r/\2 * (b % r)<b:=by
 have a1:=qbT b (show r≠0 by ext);have a2:=qbD b h0;have a3:=Int.mul_ediv_add_emod b r;have a4:1<=b / r:=by rw[qcJ h0];ext
 have a5:r * 1<=r * (b / r):=Int.mul_le_mul_of_nonneg_left a4 (by ext);ext
def d7(h:0<=a):((Int.gcd a 0:Nat):Int)=a:=by rw[Int.gcd_zero_right];ext
abbrev lowT:Xt []:=xB (ak oGt (ae 3) (xC (.int 0)))
abbrev lowB:Xd []:=xPar 2 3 (aa (ae 3) (aa (ak kw (ae 2) (ae 3)) xNil))
def low1(hb:0<b):cU lowT.p lowB.p (n+1) [x,y,some (.int a),some (.int b)] s=cU lowT.p lowB.p n [x,y,some (.int b),some (.int (a % b))] s:=by
 rw[cU];simp[sG hb,hb,PR.bl]
def low0:cU lowT.p lowB.p (n+1) [x,y,some (.int a),some (.int 0)] s=.nx [x,y,some (.int a),some (.int 0)] s:=by
 rw[cU];simp[PR.bl]
def low_run{x y:Option D}{s:Pen}:∀(k n:Nat) (a b:Int),0<=a->0<=b->b<2 ^ k->2 * k+1<=n->cU lowT.p lowB.p n [x,y,some (.int a),some (.int b)] s=.nx [x,y,some (.int (Int.gcd a b)),some (.int 0)] s:=by
 intro k
 induction k with
 | zero =>
  intro n a b ha hb hk hn;obtain⟨m,rfl⟩:∃m,n=m+1:=⟨n - 1,by ext⟩
  have:b=0:=by simp at hk;ext
  subst this;rw[low0,d7 ha]
 | succ k ih =>
  intro n a b ha hb hk hn;obtain⟨m,rfl⟩:∃m,n=m+1+1:=⟨n - 2,by ext⟩;by_cases e:b=0
  ·subst e;rw[low0,d7 ha]
  ·have hb':0<b:=by ext
   rw[low1 hb',<-i6 ha hb];have r0:=qbT a e;have r1:=qbD a hb';generalize a % b=r at r0 r1 ⊢;by_cases er:r=0
   ·subst er;rw[low0,d7 hb]
   ·obtain⟨h0,h1,h2⟩:=tO (b:=b) (r:=r) (by ext) r1;rw[low1 (by ext),<-i6 hb r0];refine ih m r (b % r) r0 h0 ?_ (by ext);rw[Int.pow_succ] at hk;ext
abbrev gsT:Xt []:=xB (ak oNe (ae 1) (xC (.int 0)))
abbrev gsB:Xd []:=aN (b8 2 (ak kw (ae 0) (ae 1))) (aN (b8 0 (ae 1)) (b8 1 (ae 2)))
def gs1(hb:0<b):cU gsT.p gsB.p (n+1) [some (.int a),some (.int b),z] s=cU gsT.p gsB.p n [some (.int b),some (.int (a % b)),some (.int (a % b))] s:=by
 rw[cU];simp[sG hb,show ¬b=0 by ext,PR.bl]
def gs0:cU gsT.p gsB.p (n+1) [some (.int a),some (.int 0),z] s=.nx [some (.int a),some (.int 0),z] s:=by
 rw[cU];simp[PR.bl]
def gs_run{s:Pen}:∀(k n:Nat) (a b:Int) (z:Option D),0<=a->0<=b->b<2 ^ k->2 * k+1<=n->∃z',cU gsT.p gsB.p n [some (.int a),some (.int b),z] s=.nx [some (.int (Int.gcd a b)),some (.int 0),z'] s:=by
 intro k
 induction k with
 | zero =>
  intro n a b z ha hb hk hn;obtain⟨m,rfl⟩:∃m,n=m+1:=⟨n - 1,by ext⟩
  have:b=0:=by simp at hk;ext
  subst this;exact⟨z,by rw[gs0,d7 ha]⟩
 | succ k ih =>
  intro n a b z ha hb hk hn;obtain⟨m,rfl⟩:∃m,n=m+1+1:=⟨n - 2,by ext⟩;by_cases e:b=0
  ·subst e;exact⟨z,by rw[gs0,d7 ha]⟩
  ·have hb':0<b:=by ext
   rw[gs1 hb',<-i6 ha hb];have r0:=qbT a e;have r1:=qbD a hb';generalize a % b=r at r0 r1 ⊢;by_cases er:r=0
   ·subst er;exact⟨_,by rw[gs0,d7 hb]⟩
   ·obtain⟨h0,h1,h2⟩:=tO (b:=b) (r:=r) (by ext) r1;rw[gs1 (by ext),<-i6 hb r0];refine ih m r (b % r) _ r0 h0 ?_ (by ext);rw[Int.pow_succ] at hk;ext
def gs_p{a b:Int}{s:Pen}(ha:0<=a)(hb:0<=b)(hk:b<2 ^ 190):dA.p [.int a,.int b] s=.ok (.int (Int.gcd a b)) s:=by
 rw[kK (by rfl)];unfold dE;obtain⟨z',q⟩:=gs_run (s:=s) 190 400 a b none ha hb hk (by ext);have e0:dSt 3 [D.int a,.int b]=[some (.int a),some (.int b),none]:=rfl;rw[e0,aK];rw[xWh_p m9];refine (congrArg (fun z:PS=>(z.then _).fin) q).trans ?_;simp
def wX(hb:0<b):0<(Nat.gcd t.natAbs b.natAbs:Int)/\(t / (Nat.gcd t.natAbs b.natAbs:Int)).natAbs<=t.natAbs/\1<=b / (Nat.gcd t.natAbs b.natAbs:Int)/\b / (Nat.gcd t.natAbs b.natAbs:Int)<=b:=by
 have e:((b.natAbs:Int))=b:=by ext
 have h1:(Nat.gcd t.natAbs b.natAbs:Int) ∣ b:=by
  have:=Int.gcd_dvd_right (t.natAbs:Int) (b.natAbs:Int)
  rw[qcC] at this
  rwa [e] at this
 have h0:0<(Nat.gcd t.natAbs b.natAbs:Int):=by
  have:0<Nat.gcd t.natAbs b.natAbs:=qcw _ (by ext)
  ext
 generalize (Nat.gcd t.natAbs b.natAbs:Int)=g at h0 h1 ⊢;refine⟨h0,?_,?_,Int.ediv_le_self _ (by ext)⟩
 ·rcases Int.lt_or_le t 0 with z|z
  ·have a1:t / g<0:=Int.ediv_neg_of_neg_of_pos z h0;have a2:t<=t / g:=by
    rw[qcJ h0]
    have:t * g<=t * 1:=Int.mul_le_mul_of_nonpos_left (by ext) (by ext)
    ext
   ext
  ·have a1:0<=t / g:=Int.ediv_nonneg z (by ext);have a2:t / g<=t:=Int.ediv_le_self _ z;ext
 ·obtain⟨c,rfl⟩:=h1;rw[Int.mul_ediv_cancel_left _ (by ext)]
  have:0<g * c:=hb
  rcases Int.lt_or_le 0 c with z|z
  ·ext
  ·have:=Int.mul_nonpos_of_nonneg_of_nonpos (a:=g) (b:=c) (by ext) z
   ext
def log_of{b:Int}{k:Nat}(hk:0<k)(h:b.natAbs<2 ^ k):b.natAbs.log2<k:=by
 rcases Nat.eq_zero_or_pos b.natAbs with e|e
 ·rw[e];simpa using hk
 ·exact (Nat.log2_lt (by ext)).mpr h
def gcd_log{t b:Int}(hb:0<b)(hk:b<2 ^ 190):(Nat.gcd t.natAbs b.natAbs:Int).natAbs.log2<9000:=by
 have h:Nat.gcd t.natAbs b.natAbs ∣ b.natAbs:=Nat.gcd_dvd_right _ _;have h2:=Nat.le_of_dvd (by ext) h;have h3:b.natAbs<2 ^ 190:=by
  have e:((b.natAbs:Int))=b:=by ext
  have:((b.natAbs:Nat):Int)<((2 ^ 190:Nat):Int):=by rw[e];simpa using hk
  exact Int.ofNat_lt.mp this
 refine log_of (k:=9000) (by decide) ?_;rw[Int.natAbs_natCast];exact qcq (Nat.lt_of_le_of_lt h2 h3) (Nat.pow_lt_pow_right (by decide) (by decide))
def gcd1(hb:0<b):Int.gcd (t / (Nat.gcd t.natAbs b.natAbs:Int)) (b / (Nat.gcd t.natAbs b.natAbs:Int))=1:=by
 have h:0<Int.gcd t b:=qcw _ (by ext);have e:(Nat.gcd t.natAbs b.natAbs:Int)=(Int.gcd t b:Int):=rfl;rw[e];exact Int.gcd_ediv_gcd_ediv_gcd h
structure Num (t b:Int):Prop where
 t6:t.natAbs<=1000000
 b1:1<=b
 b6:b<=1000000
 g1:Int.gcd t b=1
local macro_rules | `(tactic| simp! [$a,*]) => `(tactic| simp only [$a,*, PU.aG])
def sO{t b:Int}{s:Pen}(hb:0<b)(hk:b<=1000000)(ht:t.natAbs<=1000000):∃t' b':Int,f9.p [.int t,.int b] s=.ok (nD t' b') s/\Num t' b':=by
 obtain⟨h0,h1,h2,h3⟩:=wX (t:=t) hb;have hk2:b<2 ^ 190:=Int.lt_of_le_of_lt hk (by decide +kernel);refine⟨_,_,?_,by ext,h2,by ext,gcd1 hb⟩;have hk':(b.natAbs:Int)<2 ^ 190:=by rw[show ((b.natAbs:Int))=b by ext];exact hk2
 rw[ud (by rfl)];unfold jc;have e0:dSt 4 [D.int t,.int b]=[some (.int t),some (.int b),none,none]:=rfl;have q:=low_run (x:=some (.int t)) (y:=some (.int b)) (s:=s) 190 400 (t.natAbs:Int) (b.natAbs:Int) (by ext) (by ext) hk' (by ext);rw[e0];simp![aK,xPar_p,aD,aO,dr,aR,aT,Pb,xI,Pf,Pg,qaM,qaN];rw[xWh_p m9];refine (congrArg (fun z:PS=>(z.then _).fin) q).trans ?_;rw[qcC];simp[PR.bl,show ¬b<0 by ext,oFd_pos h0 (gcd_log hb hk2),nD]
def p6:oPow.p (.int 10) (.int 6)=some (.int 1000000):=qah ⟨by decide,by decide,by decide⟩
def zU:∃t b s',cA.p [.pen] s=.ok (nD t b) s'/\Num t b:=by
 obtain⟨w,s1,w0,w1,q1⟩:=cM (s:=s) (size:=8) (by decide) (by decide);by_cases z:w=7
 ·subst z;obtain⟨a,s2,a0,a1,q2⟩:=cM (s:=s1) (size:=2 * 1000000 - 1) (by decide) (by decide);obtain⟨b,s3,b0,b1,q3⟩:=cM (s:=s2) (size:=1000000 - 1) (by decide) (by decide);obtain⟨t',b',q4,h⟩:=sO (t:=a - 1000000+1) (b:=1+b) (s:=s3) (by ext) (by ext) (by ext);refine⟨t',b',s3,?_,h⟩;rw[lR (by rfl)];unfold f7;rw[show dSt 2 [D.pen]=[some .pen,none] from rfl];have m2:oMul.p (.int 2) (.int 1000000)=some (.int (2 * 1000000)):=oMul_r (by decide);simp[q1,PR.bl,p6,m2] at q2 q3 ⊢;simp[q2,q3,q4]
 ·obtain⟨a,s2,a0,a1,q2⟩:=cM (s:=s1) (size:=13) (by decide) (by decide);obtain⟨m,em,m0,m1⟩:∃m:Int,atI [D.int 1,.int 1,.int 5] (w.fmod 3)=some (.int m)/\0<m/\m<=5:=by
   have f0:0<=w.fmod 3/\w.fmod 3<3:=by rw[qbn _ (by decide)];ext
   obtain e|e | e:w.fmod 3=0\/w.fmod 3=1\/w.fmod 3=2:=by ext
   ·rw[e];exact⟨1,rfl,by decide,by decide⟩
   ·rw[e];exact⟨1,rfl,by decide,by decide⟩
   ·rw[e];exact⟨5,rfl,by decide,by decide⟩
  obtain⟨b,s3,b0,b1,q3⟩:=cM (s:=s2) (size:=m) m0 (by ext);obtain⟨t',b',q4,h⟩:=sO (t:=a - 6) (b:=1+b) (s:=s3) (by ext) (by ext) (by ext);refine⟨t',b',s3,?_,h⟩;rw[lR (by rfl)];unfold f7;rw[show dSt 2 [D.pen]=[some .pen,none] from rfl];have m3:kw.p (.int w) (.int 3)=some (.int (w.fmod 3)):=uM (by decide);simp[q1,PR.bl,z,q2,m3,em,q3,q4]
def Kd(d:D):Prop:=∃t,tyD d=some t
def isI:D->Bool
 | .int _=>true
 | _=>false
def plB(n:Int):D->Bool
 | .int i=>decide (0<=i) && decide (i<n)
 | _=>false
def eM:D->Bool
 | .int i=>decide (0<=i) && decide (i<=12)
 | _=>false
def prB:D->Bool
 | .tup [_,_]=>true
 | _=>false
def sm:List D->Bool
 | [.int _,.int b]=>decide (b<2 ^ 190)
 | _=>true
mutual
def gd:D->Bool
 | .exc _ | .pen=>false
 | .lst ds=>gds ds
 | .tup ds=>gds ds && sm ds
 | _=>true
def gds:List D->Bool
 | []=>true
 | d::ds=>gd d && gds ds
end
def bo(h:gd d=true):Kd d:=by
 cases d <;> first | exact⟨_,rfl⟩ | (simp[gd] at h)
def cN:∀{ds:List D},gds ds=true->∀x∈ds,gd x=true
 | [],_,x,hx=>by cases hx
 | d::ds,h,x,hx=>by
  simp only[gds,qaO] at h;rcases qak.mp hx with rfl|hx
  ·exact h.1
  ·exact cN h.2 x hx
def nG:∀{ds:List D},(∀x∈ds,gd x=true)->gds ds=true
 | [],_=>by simp[gds]
 | d::ds,h=>by simp only[gds,qaO];exact⟨h d (by simp),nG fun x hx=>h x (qae _ hx)⟩
def gP(h:gd (.tup ds)=true):gds ds=true/\sm ds=true:=by simpa [gd] using h
def gd_lst(h:gd (.lst ds)=true):gds ds=true:=by simpa [gd] using h
def cv(h:Kd d):dz.p [d] s=.ok (.bl (isI d)) s:=by
 rw[um (by rfl)];unfold jp;obtain⟨t,ht⟩:=h;cases d <;> first | (cases ht;done) | (simp[dSt,ba,isI,tyD];done) | (simp[dSt,ba,isI,tyD] at ht ⊢)
def kZ(h:Kd d):f8.p [.int n,d] s=.ok (.bl (plB n d)) s:=by
 rw[uc (by rfl)];unfold jJ
 cases d with
 | int i=>by_cases z:0<=i <;> simp[dSt,cv h,isI,plB,z]
 | _=>simp[dSt,cv h,isI,plB]
def lb(h:Kd d):dq.p [d] s=.ok (.bl (eM d)) s:=by
 rw[uo (by rfl)];unfold jE
 cases d with
 | int i=>by_cases z:0<=i <;> simp[dSt,cv h,isI,eM,z]
 | _=>simp[dSt,cv h,isI,eM]
def len2:decide ((ds.length:Int)=2)=prB (.tup ds):=by
 match ds with
 | []=>rfl
 | [_]=>rfl
 | [_,_]=>rfl
 | _::_::_::r =>
  simp[prB];ext
def cz(h:Kd d):d6.p [d] s=.ok (.bl (prB d)) s:=by
 rw[vV (by rfl)];unfold jZ;obtain⟨t,ht⟩:=h
 cases d with
 | tup ds=>simp[dSt,ba,tyD,len2]
 | _=>first | (cases ht;done) | (simp[dSt,ba,tyD,prB];done) | (simp[dSt,ba,tyD,prB] at ht ⊢)
def oP(h:prB d=true):∃x y,d=.tup [x,y]:=by
 match d,h with
 | .tup [x,y],_=>exact⟨x,y,rfl⟩
def vu(h:isI d=true):∃i:Int,d=.int i:=by
 match d,h with
 | .int i,_=>exact⟨i,rfl⟩
def plB_inv(h:plB n d=true):∃i:Int,d=.int i/\0<=i/\i<n:=by
 match d,h with
 | .int i,h=>exact⟨i,rfl,by simpa [plB] using h⟩
def eE:D->Bool
 | .tup [.int t,.int b]=>decide (1<=b) && decide (Int.gcd t b=1)
 | _=>false
def numB_no(h:prB d=false):eE d=false:=by
 unfold eE;split
 ·cases h
 ·rfl
def xS(h:eE (.tup [x,y])=true):isI x=true/\isI y=true:=by
 unfold eE at h
 split at h
 ·rename_i a b e
  injection e with e
  injection e with e1 e2
  injection e2 with e2
  subst e1;subst e2;exact⟨rfl,rfl⟩
 ·cases h
def at0{x y:D}:atI [x,y] 0=some x:=rfl
def at1{x y:D}:atI [x,y] 1=some y:=rfl
def sR(h:gd d=true):iu.p [d] s=.ok (.bl (eE d)) s:=by
 rw[si (by rfl)];unfold iz;rw[show dSt 1 [d]=[some d] from rfl,aK,cf]
 cases z:prB d with
 | false=>simp[cz (bo h),z,numB_no z,PR.bl]
 | true =>
  obtain⟨x,y,rfl⟩:=oP z;obtain⟨h1,h2⟩:=gP h;have hx:=bo (cN h1 x (by simp));have hy:=bo (cN h1 y (by simp))
  cases zx:isI x with
  | false =>
   have:eE (.tup [x,y])=false:=qcx.mpr fun q=>by rw[(xS q).1] at zx;cases zx
   simp[cz (bo h),z,PR.bl,at0,at1,cv hx,zx,this]
  | true =>
   cases zy:isI y with
   | false =>
    have:eE (.tup [x,y])=false:=qcx.mpr fun q=>by rw[(xS q).2] at zy;cases zy
    simp[cz (bo h),z,PR.bl,at0,at1,cv hx,cv hy,zx,zy,this]
   | true =>
    obtain⟨t,rfl⟩:=vu zx;obtain⟨b,rfl⟩:=vu zy;have hb:b<2 ^ 190:=by simpa [sm] using h2
    by_cases z1:1<=b
    ·have g:=gs_p (a:=(t.natAbs:Int)) (b:=b) (s:=s) (by ext) (by ext) hb;have e:Int.gcd (t.natAbs:Int) b=Int.gcd t b:=by simp[Int.gcd]
     rw[e] at g;simp[cz (bo h),z,PR.bl,at0,at1,cv hx,cv hy,zx,zy,xI,g,z1,eE];ext
    ·simp[cz (bo h),z,PR.bl,at0,at1,cv hx,cv hy,zx,zy,z1,eE]
def zrB:D->Bool
 | .tup [.int t,.int b]=>decide (t=0) && decide (b=1)
 | _=>false
def dw(n:Int):D->Bool
 | .tup [x,y]=>plB n x && (eE y && !zrB y)
 | _=>false
def zO(h:prB d=false):dw n d=false:=by
 unfold dw;split
 ·cases h
 ·rfl
def rV(h:eE d=true):∃t b:Int,d=nD t b/\1<=b/\Int.gcd t b=1:=by
 unfold eE at h
 split at h
 ·rename_i t b;simp at h;exact⟨t,b,rfl,h.1,h.2⟩
 ·cases h
def ne_zero:eqD true (nD t b) (nD 0 1)=some (.bl (!zrB (nD t b))):=by
 simp[eqD,py,pys,dep,deps,SeqAt.shaped,PyData.canLay0,PyData.canLayAll0,PyData.depth,PyData.depthAll,PyData.eqv,PyData.eqvAll,zrB,qbr]
def xCT_p:(xCT i j:Xe ws).p env s=.ok (nD i j) s:=rfl
def part_k(h:gd d=true):hU.p [.int n,d] s=.ok (.bl (dw n d)) s:=by
 rw[wG (by rfl)];unfold kM;rw[show dSt 2 [D.int n,d]=[some (.int n),some d] from rfl]
 cases z:prB d with
 | false=>simp[cz (bo h),z,zO z,PR.bl]
 | true =>
  obtain⟨x,y,rfl⟩:=oP z;obtain⟨h1,h2⟩:=gP h;have hx:=cN h1 x (by simp);have hy:=cN h1 y (by simp)
  cases zx:plB n x with
  | false=>simp[cz (bo h),z,PR.bl,at0,kZ (bo hx),zx,dw]
  | true =>
   cases zy:eE y with
   | false=>simp[cz (bo h),z,PR.bl,at0,at1,kZ (bo hx),zx,sR hy,zy,dw]
   | true =>
    obtain⟨t,b,rfl,b1,g1⟩:=rV zy;simp[cz (bo h),z,PR.bl,at0,at1,kZ (bo hx),zx,sR hy,zy,dw,oNe,ne_zero,xCT_p]
abbrev Prt:=Int × Int × Int
def prtD(p:Prt):D:=.tup [.int p.1,nD p.2.1 p.2.2]
def vd:∀(bs:List Bool),mQ (bs.map .bl)=some bs
 | []=>rfl
 | b::bs=>by rw[qau,mQ,vd bs];rfl
def vO{ds:List D}{f:D->Bool}:rG.p [.lst (ds.map fun x=>.bl (f x))]=some (.bl (ds.all f)):=by
 show ((some (ds.map fun x=>D.bl (f x))).bind mQ).map _=_
 have:(ds.map fun x=>D.bl (f x))=(ds.map f).map .bl:=by rw[qaU];rfl
 rw[this,qaX,vd,qcd,List.all_map];rfl
def xO(h:dw n d=true):∃p:Prt,d=prtD p/\0<=p.1/\p.1<n:=by
 unfold dw at h
 split at h
 ·rename_i x y
  rw[qaO,qaO] at h;obtain⟨i,rfl,h0,h1⟩:=plB_inv h.1;obtain⟨t,b,rfl,_⟩:=rV h.2.1;exact⟨(i,t,b),rfl,h0,h1⟩
 ·cases h
def hX:∀{ds:List D},ds.all (dw n)=true->∃ps:List Prt,ds=ps.map prtD
 | [],_=>⟨[],rfl⟩
 | d::ds,h=>by
  rw[qcy,qaO] at h;obtain⟨ps,rfl⟩:=hX h.2;obtain⟨p,rfl,_⟩:=xO h.1;exact⟨p::ps,rfl⟩
def ndB(ds:List D):Bool:=decide ((ds.map rkD).Nodup)
def bj(n:Int)(ds:List D):Bool:=ds.all (dw n) && ndB ds
def jX(ps:List Prt):(ps.map prtD).map rkD=ps.map (·.1):=by rw[qaU];rfl
def oY{n:Int}{d:D}{ds:List D}{s:Pen}(e:d.items=some ds)(hl:ds.length<=1000)(h:gds ds=true):dI.p [.int n,d] s=.ok (.bl (bj n ds)) s:=by
 rw[rF (by rfl)];unfold ig;rw[show dSt 2 [D.int n,d]=[some (.int n),some d] from rfl,aK,cf];have q:=kY (ws:=[]) (ws':=[]) (env:=[some (.int n),some d]) (s:=s) (fm:=[0]) (i:=bf (ae 1)) (t:=xTrue) (e:=(am hU (aa (ae 1) (aa (ae 0) xNil)))) (ds:=ds) (fun _=>true) (fun x=>.bl (dw n x)) (by simp[e]) (by ext) (fun x hx=>⟨rfl,fun _=>by simp[part_k (cN h x hx)]⟩);rw[de] at q;rw[m4,oZ,dr,aD,q];simp only[Pb,aO,vO,Pf,Pl]
 cases z:ds.all (dw n) with
 | false=>simp[bj,z]
 | true =>
  obtain⟨ps,rfl⟩:=hX z
  have q2:=kY (ws:=[]) (ws':=[]) (env:=[some (.int n),some d]) (s:=s) (fm:=[]) (i:=bf (ae 1)) (t:=xTrue) (e:=(ak oIx (ae 0) (xC (.int 0)))) (ds:=ps.map prtD) (fun _=>true) (fun x=>.int (rkD x)) (by simp[e]) (by ext) (fun x hx=>⟨rfl,fun _=>by
   obtain⟨p,_,rfl⟩:=qav.mp hx
   simp[prtD,at0,rkD,dN]⟩)
  rw[de] at q2;have e3:(ps.map prtD).map (fun x=>D.int (rkD x))=(ps.map (·.1)).map .int:=by rw[qaU,qaU];rfl
  rw[e3] at q2;have e4:dY.p [d]=some (.int ((ps.map prtD).length:Int)):=by
   cases d with
   | lst es=>cases e;rfl
   | tup es=>cases e;rfl
   | _=>cases e
  simp![qbf,Pg,qaf,if_false,cS,dJ,bJ,dr,aD,q2,Pb,aO,cLS_i (ns:=ps.map (·.1)) (by simpa using hl),Pf,aT,aR,e4];have e5:decide ((many (ps.map (·.1)):Int)=((ps.map prtD).length:Int))=ndB (ps.map prtD):=by
   unfold ndB;rw[jX];refine decide_eq_decide.mpr ?_;rw[<-many_nd];simp;ext
  rw[qaB] at e5;simp[bj,z,oEq,e5]
def iX:∀(ps qs:List Prt),PyData.eqvAll (ps.map fun p=>PyData.tuple [.int p.1,.tuple [.int p.2.1,.int p.2.2]]) (qs.map fun p=>PyData.tuple [.int p.1,.tuple [.int p.2.1,.int p.2.2]])=decide (ps=qs)
 | [],[]=>by simp[PyData.eqvAll]
 | [],_::_=>by simp[PyData.eqvAll]
 | _::_,[]=>by simp[PyData.eqvAll]
 | p::ps,q::qs=>by
  obtain⟨a,b,c⟩:=p;obtain⟨x,y,z⟩:=q;rw[qau,qau,PyData.eqvAll,iX ps qs];by_cases e:ps=qs <;> simp[PyData.eqv,PyData.eqvAll,qbr,e,and_assoc]
def oR:∀ps:List Prt,pys (ps.map prtD)=some (ps.map fun p=>PyData.tuple [.int p.1,.tuple [.int p.2.1,.int p.2.2]])
 | []=>by simp[pys]
 | p::ps=>by rw[qau,pys,oR ps];simp[prtD,py,pys]
def jq:∀ps:List Prt,deps (ps.map prtD)<=3
 | []=>by simp[deps]
 | p::ps=>by have:=jq ps;rw[qau,deps];simp[prtD,dep,deps];ext
def kW:∀ps:List Prt,PyData.canLayAll0 (ps.map fun p=>PyData.tuple [.int p.1,.tuple [.int p.2.1,.int p.2.2]])=true
 | []=>by simp[PyData.canLayAll0]
 | p::ps=>by rw[qau,PyData.canLayAll0,kW ps];simp[PyData.canLay0,PyData.canLayAll0]
def k7:∀ps:List Prt,PyData.depthAll (ps.map fun p=>PyData.tuple [.int p.1,.tuple [.int p.2.1,.int p.2.2]])<=3
 | []=>by simp[PyData.depthAll]
 | p::ps=>by have:=k7 ps;rw[qau,PyData.depthAll];simp[PyData.depth,PyData.depthAll];ext
def eqD_prt{ps qs:List Prt}:eqD false (.lst (ps.map prtD)) (.lst (qs.map prtD))=some (.bl (decide (ps=qs))):=by
 have h1:=jq ps;have h2:=jq qs;have h3:=k7 ps;have h4:=k7 qs;simp only[eqD,py,oR,qcd];rw[qah ⟨⟨by simp[dep];ext,by simp[dep];ext⟩,by simp[SeqAt.shaped,PyData.canLay0,kW,PyData.depth];ext,by simp[SeqAt.shaped,PyData.canLay0,kW,PyData.depth];ext⟩];simp[PyData.eqv,iX]
def pu(ds:List D):Bool:=decide ((ds.map rkD).Pairwise (·<=·))
def kL(n:Int):D->Bool
 | .tup ds=>bj n ds && pu ds
 | _=>false
open Classical in
theorem uQ(e:d.items=some ds)(h:bj n ds=true)(hl:ds.length<=66):jU.p [d]=some (.lst (aB rkD ds)):=by
 unfold bj at h;rw[qaO] at h;obtain⟨ps,rfl⟩:=hX h.1;show d.items.bind _=_;rw[e,qaX,qah ⟨fun d hd=>by obtain⟨p,_,rfl⟩:=qav.mp hd;rfl,by have:=h.2;unfold ndB at this;simpa using this,hl⟩]
def tN(e:d.items=some ds)(hl:ds.length<=100000):jv.p [d]=some (.lst ds):=by
 show d.items.bind _=_;rw[e,qaX,qah hl]
def row_k{n:Int}{d:D}{s:Pen}(h:gd d=true)(hl:∀ds,d=.tup ds->ds.length<=66):jI.p [.int n,d] s=.ok (.bl (kL n d)) s:=by
 rw[xY (by rfl)];unfold mj;rw[show dSt 2 [D.int n,d]=[some (.int n),some d] from rfl];obtain⟨t,ht⟩:=bo h
 cases d with
 | tup ds =>
  have hl':=hl ds rfl;have pk:=oY (n:=n) (d:=.tup ds) (ds:=ds) (s:=s) rfl (by ext) (gP h).1
  cases z:bj n ds with
  | false=>simp[ba,tyD,PR.bl,pk,z,kL]
  | true =>
   have sr:=uQ (d:=.tup ds) rfl z hl';obtain⟨ps,rfl⟩:=hX (by unfold bj at z;rw[qaO] at z;exact z.1);have s1:aB rkD (ps.map prtD)=(aB (fun p:Prt=>p.1) ps).map prtD:=by rw[fC];rfl
   have nd:(ps.map fun p:Prt=>p.1).Nodup:=by
    unfold bj ndB at z;rw[qaO,jX] at z;simpa using z.2
   have s2:pu (ps.map prtD)=decide (ps=aB (fun p:Prt=>p.1) ps):=by
    unfold pu;rw[jX];refine decide_eq_decide.mpr ⟨fun e=>jj (.refl _) nd (qaY.mp e),fun e=>?_⟩;rw[e];exact qaY.mpr (kq _ _)
   have cl:jv.p [.tup (ps.map prtD)]=some (.lst (ps.map prtD)):=tN rfl (by ext);simp[ba,tyD,PR.bl,pk,z,kL,sr,s1,oEq,eqD_prt,s2,cl]
 | _=>first | (cases ht;done) | (simp[ba,tyD,PR.bl,kL];done) | (simp[ba,tyD,PR.bl,kL] at ht ⊢)
def shB:D->Bool
 | .tup [.int c,.tup rs]=>eM (.int c) && (decide ((rs.length:Int)=c) && rs.all (kL c))
 | _=>false
def rsOk(d:D):Prop:=∀c rs,d=.tup [c,.tup rs]->rs.length<=1000/\∀r∈rs,∀ds,r=.tup ds->ds.length<=66
def shB_no(h:prB d=false):shB d=false:=by
 unfold shB;split
 ·cases h
 ·rfl
def shB_c(h:shB (.tup [x,y])=true):eM x=true/\∃rs,y=.tup rs:=by
 unfold shB at h
 split at h
 ·rename_i c rs e
  injection e with e
  injection e with e1 e2
  injection e2 with e2
  subst e1;subst e2;rw[qaO] at h;exact⟨h.1,rs,rfl⟩
 ·cases h
def zX(h:eM d=true):∃i:Int,d=.int i/\0<=i/\i<=12:=by
 match d,h with
 | .int i,h=>exact⟨i,rfl,by simpa [eM] using h⟩
def sheet_k{d:D}{s:Pen}(h:gd d=true)(hr:rsOk d):gk.p [d] s=.ok (.bl (shB d)) s:=by
 rw[ue (by rfl)];unfold iY;rw[show dSt 1 [d]=[some d] from rfl,aK,cf]
 cases z:prB d with
 | false=>simp[cz (bo h),z,PR.bl,shB_no z]
 | true =>
  obtain⟨x,y,rfl⟩:=oP z;have hx:=cN (gP h).1 x (by simp);have hy:=cN (gP h).1 y (by simp)
  cases zx:eM x with
  | false =>
   have:shB (.tup [x,y])=false:=qcx.mpr fun q=>by rw[(shB_c q).1] at zx;cases zx
   simp[cz (bo h),z,PR.bl,at0,lb (bo hx),zx,this]
  | true =>
   obtain⟨c,rfl,c0,c1⟩:=zX zx;obtain⟨t,ht⟩:=bo hy
   cases y with
   | tup rs =>
    obtain⟨hl,hrs⟩:=hr _ _ rfl;have q:=kY (ws:=[]) (ws':=[]) (env:=[some (.tup [.int c,.tup rs])]) (s:=s) (fm:=[0]) (i:=bf (ak oIx (ae 0) (xC (.int 1)))) (t:=xTrue) (e:=(am jI (aa (ak oIx (ae 1) (xC (.int 0))) (aa (ae 0) xNil)))) (ds:=rs) (fun _=>true) (fun x=>.bl (kL c x)) (by simp[at1]) (by ext) (fun x hx=>⟨rfl,fun _=>by simp[at0,row_k (n:=c) (cN (gP hy).1 x hx) (hrs x hx)]⟩);rw[de] at q;have tst:(xOr (bD (xB (am d6 (aa (ae 0) xNil)))) (xOr (bD (xB (am dq (aa (ak oIx (ae 0) (xC (.int 0))) xNil)))) (bD (xB (xUn (cg ["tuple"]) (ak oIx (ae 0) (xC (.int 1))))))):Xt []).p [some (.tup [.int c,.tup rs])] s=.ok false s:=by
     simp[cz (bo h),z,PR.bl,at0,at1,lb (bo hx),zx,ba,tyD]
    rw[tst];simp![Pg,qaf,if_false,cS,dJ,o3];have ln:(ak oEq (xCb dY (aa (ak oIx (ae 0) (xC (.int 1))) xNil)) (ak oIx (ae 0) (xC (.int 0))):Xe []).p [some (.tup [.int c,.tup rs])] s=.ok (.bl (decide ((rs.length:Int)=c))) s:=by simp[at0,at1,oEq]
    rw[ln,Pl,Pb];by_cases zl:(rs.length:Int)=c
    ·rw[dr,aD,q];simp[zl,vO,shB,zx,PR.bl]
    ·simp[zl,shB]
   | _=>first | (cases ht;done) | (simp[cz (bo h),z,PR.bl,at0,at1,lb (bo hx),zx,ba,tyD,shB];done) | (simp[gd] at hy)
def okR(n:Int):D->Bool
 | .lst ds=>bj n ds
 | .tup ds=>bj n ds
 | _=>false
def Rk(d:D):Prop:=gd d=true/\∀ds,d.items=some ds->ds.length<=66
abbrev soB:Xd []:=xIf (xOr (bD (xB (xUn (cg ["list","tuple"]) (ae 2)))) (bD (xB (am dI (aa (ae 0) (aa (ae 2) xNil)))))) (iG "NoSheet" (aa (xC (.str "a row is a list or a tuple of tuples, each of a place and a number")) xNil)) xSkip
def so_body(h:Rk r):soB.p [some (.int n),some d,some r] s=if okR n r=true then .nx [some (.int n),some d,some r] s else .rse "NoSheet" [some (.int n),some d,some r] s:=by
 rw[cf];obtain⟨h1,h2⟩:=h;obtain⟨t,ht⟩:=bo h1
 cases r with
 | lst ds =>
  have pk:=oY (n:=n) (d:=.lst ds) (ds:=ds) (s:=s) rfl (by have:=h2 ds rfl;ext) (gd_lst h1);cases z:bj n ds <;> simp[ba,tyD,PR.bl,pk,z,okR]
 | tup ds =>
  have pk:=oY (n:=n) (d:=.tup ds) (ds:=ds) (s:=s) rfl (by have:=h2 ds rfl;ext) (gP h1).1;cases z:bj n ds <;> simp[ba,tyD,PR.bl,pk,z,okR]
 | _=>first | (cases ht;done) | (simp[ba,tyD,PR.bl,okR];done) | (simp[gd] at h1)
def vk:∀(rs:List D) (z:Option D),(∀r∈rs,Rk r)->(rs.all (okR n)=true->∃z',pGo (xNm 2:Xg []).p soB.p rs [some (.int n),some d,z] s=.nx [some (.int n),some d,z'] s)/\(rs.all (okR n)=false->∃e,pGo (xNm 2:Xg []).p soB.p rs [some (.int n),some d,z] s=.rse "NoSheet" e s)
 | [],z,_=>⟨fun _=>⟨_,rfl⟩,fun h=>by cases h⟩
 | r::rs,z,h=>by
  have e1:(xNm 2:Xg []).p r [some (.int n),some d,z]=some [some (.int n),some d,some r]:=rfl;rw[sP e1,so_body (h r (by simp)),qcy]
  cases zo:okR n r with
  | false=>exact⟨fun q=>by simp at q,fun _=>⟨[some (.int n),some d,some r],by simp⟩⟩
  | true =>
   have ih:=vk (n:=n) (d:=d) (s:=s) rs (some r) fun x hx=>h x (qae _ hx);simpa using ih
def so_head(hn:eM (.int n)=true)(e:d.items=some ds)(hl:(ds.length:Int)=n):bF.p [.int n,d] s=((pGo (xNm 2:Xg []).p soB.p ds [some (.int n),some d,none] s).then
  (aV (bv (aa (ae 0) (aa (xCb bM (aa (bh 1 [] (bf (ae 1)) (ws':=[]) (xNm 0) xTrue (xCb bM (aa (xCb jU (aa (ae 0) xNil)) xNil))) xNil)) xNil))):Xd []).p).fin:=by
 rw[uq (by rfl)];unfold jy;rw[show dSt 3 [D.int n,d]=[some (.int n),some d,none] from rfl,aK,cf];have t1:(bD (xB (am dq (aa (ae 0) xNil))):Xt []).p [some (.int n),some d,none] s=.ok false s:=by simp[lb (d:=.int n) ⟨_,rfl⟩,hn,PR.bl]
 have t2:(xOr (bD (xB (xUn (cg ["list","tuple"]) (ae 1)))) (xB (ak oNe (xCb dY (aa (ae 1) xNil)) (ae 0))):Xt []).p [some (.int n),some d,none] s=.ok false s:=by
  cases d with
  | lst es=>cases e;simp[ba,tyD,PR.bl,hl]
  | tup es=>cases e;simp[ba,tyD,PR.bl,hl]
  | _=>cases e
 rw[t1];simp![Pg,qaf,if_false,cS];rw[aK,cf,t2];simp![Pg,qaf,if_false,cS];rw[aK,fB,iA,aT,aR,Pb,e];rfl
def so_ok(hn:eM (.int n)=true)(e:d.items=some rs)(hl:(rs.length:Int)=n)(h:∀r∈rs,Rk r)(hb:rs.all (okR n)=true) :
  bF.p [.int n,d] s=.ok (.tup [.int n,.tup (rs.map fun r=>.tup (aB rkD (r.items.getD [])))]) s:=by
 obtain⟨z',q⟩:=(vk (n:=n) (d:=d) (s:=s) rs none h).1 hb;have hle:rs.length<=12:=by
  have:n<=12:=by
   simp[eM] at hn;exact hn.2
  ext
 rw[so_head hn e hl,q,PU.aG,dJ,iF]
 have c:=kY (ws:=[]) (ws':=[]) (env:=[some (.int n),some d,z']) (s:=s) (fm:=[]) (i:=bf (ae 1)) (t:=xTrue) (e:=(xCb bM (aa (xCb jU (aa (ae 0) xNil)) xNil))) (ds:=rs) (fun _=>true) (fun r=>.tup (aB rkD (r.items.getD []))) (by simp[e]) (by ext) (fun x hx=>⟨rfl,fun _=>by
  have ok:=qbm.mp hb x hx;obtain⟨ds,ei,hp⟩:∃ds,x.items=some ds/\bj n ds=true:=by
   cases x with
   | lst ds=>exact⟨ds,rfl,ok⟩
   | tup ds=>exact⟨ds,rfl,ok⟩
   | _=>cases ok
  simp[uQ ei hp ((h x hx).2 ds ei),ei]⟩)
 rw[de] at c;rw[aD,aR,Pb,aD,dr,aD,c];simp
structure Rw (n:Int) (ps:List Prt):Prop where
 ris:ps.Pairwise fun p q=>p.1<q.1
 len:ps.length<=12
 mem:∀p∈ps,0<=p.1/\p.1<n/\Num p.2.1 p.2.2/\p.2.1≠0
abbrev rwD(ps:List Prt):D:=.tup (ps.map prtD)
def rngD_c(lo:Int)(c:Nat):dG lo (c+1)=.int lo::dG (lo+1) c:=by
 unfold dG;rw[qcH,qau,qaU];refine congr (congrArg _ (by simp)) (qcn fun i _=>?_);show D.int _=D.int _;congr 1;simp;ext
def oN(k0:0<k)(k4:k<=4):∀(c:Nat) (lo:Int) (z:Option D) (s:Pen),∃(ps:List Prt) (s':Pen),cV (xNm 0:Xg []).p (xB (ak oEq (am aL (aa (ae 1) (aa (ae 2) xNil))) (xC (.int 0))):Xt []).p (bv (aa (ae 0) (aa (am cA (aa (ae 1) xNil)) xNil)):Xe []).p (dG lo c) [z,some .pen,some (.int k)] s=.ok (ps.map prtD) s' /\
  ps.Pairwise (fun p q=>p.1<q.1)/\ps.length<=c/\∀p∈ps,lo<=p.1/\p.1<lo+c/\Num p.2.1 p.2.2
 | 0,lo,z,s=>⟨[],s,rfl,.nil,by simp,by simp⟩
 | c+1,lo,z,s=>by
  obtain⟨d,s1,d0,d1,q1⟩:=cM (s:=s) (size:=k) k0 (by ext);have e1:(xNm 0:Xg []).p (.int lo) [z,some .pen,some (.int k)]=some [some (.int lo),some .pen,some (.int k)]:=rfl;have e2:(xB (ak oEq (am aL (aa (ae 1) (aa (ae 2) xNil))) (xC (.int 0))):Xt []).p [some (.int lo),some .pen,some (.int k)] s=.ok (decide (d=0)) s1:=by
   simp[q1,oEq,PR.bl]
  rw[rngD_c,cV,e1];dsimp only;rw[e2,Pb];by_cases zd:d=0
  ·obtain⟨t,b,s2,q2,nm⟩:=zU (s:=s1);obtain⟨ps,s3,q3,ri,le,me⟩:=oN k0 k4 c (lo+1) (some (.int lo)) s2;have e3:(bv (aa (ae 0) (aa (am cA (aa (ae 1) xNil)) xNil)):Xe []).p [some (.int lo),some .pen,some (.int k)] s1=.ok (prtD (lo,t,b)) s2:=by
    simp[q2,prtD]
   refine⟨(lo,t,b)::ps,s3,by rw[decide_eq_true zd,qah rfl,e3,Pb,q3,Pb];rfl,qbv.mpr ⟨fun p hp=>by have:=(me p hp).1;show lo<p.1;ext,ri⟩,by simp;ext,fun p hp=>?_⟩;rcases qak.mp hp with rfl|hp
   ·exact⟨by simp,by show lo<_;ext,nm⟩
   ·have:=me p hp;exact⟨by ext,by ext,this.2.2⟩
  ·obtain⟨ps,s3,q3,ri,le,me⟩:=oN k0 k4 c (lo+1) (some (.int lo)) s1;refine⟨ps,s3,by rw[decide_eq_false zd,qan (by simp),q3],ri,by ext,fun p hp=>?_⟩
   have:=me p hp;exact⟨by ext,by ext,this.2.2⟩
def lv(e1:a.p env s=.ok as s1)(e2:env[i]?=some (some (.lst ds)))(e3:o.p ds as=some (r,ds')):(xMt o i a hi hz).p env s=.nx (env.set i (some (.lst ds'))) s1:=by
 rw[xMt_p,xn e1 e2 e3]
abbrev drB:Xd [3]:=(aN (b8 5 (bh 1 [0,2] (dD iR1 (aa (ae 1) xNil)) (ws':=[]) (xNm 0) (xB (ak oEq (am aL (aa (ae 1) (aa (ae 2) xNil))) (xC (.int 0)))) (bv (aa (ae 0) (aa (am cA (aa (ae 1) xNil)) xNil)))))
 (xMt iU 3 (aa (xCb bM (aa (bh 2 [] (bf (ae 5)) (ws':=[]) (xGp (xGc (xNm 0) (xGc (xNm 1) xGl)) 2) (xB (ak oNe (ak oIx (ae 1) (xC (.int 0))) (xC (.int 0)))) (bv (aa (ae 0) (aa (ae 1) xNil)))) xNil)) xNil)))
def dr_turn(n0:0<=n)(n5:n<=12)(k0:0<k)(k4:k<=4)(hl:rs.length<=100):∃ps z5' s',Rw n ps/\drB.p [some .pen,some (.int n),some (.int k),some (.lst (rs.map rwD)),z4,z5] s=.nx [some .pen,some (.int n),some (.int k),some (.lst ((rs++[ps]).map rwD)),z4,z5'] s':=by
 obtain⟨ps,s1,q1,ri,le,me⟩:=oN k0 k4 n.toNat 0 none s;have c1:(bh 1 [0,2] (dD iR1 (aa (ae 1) xNil)) (ws':=[]) (xNm 0) (xB (ak oEq (am aL (aa (ae 1) (aa (ae 2) xNil))) (xC (.int 0)))) (bv (aa (ae 0) (aa (am cA (aa (ae 1) xNil)) xNil))):Xe [3]).p [some .pen,some (.int n),some (.int k),some (.lst (rs.map rwD)),z4,z5] s=.ok (.lst (ps.map prtD)) s1:=by
  rw[pd,kB,aD,aT,aR,Pb,aO,Pb,Pb,vI (by ext),Pf,Pb,qah (by unfold dG;simp;ext)];rw[show cenv 1 [0,2] [some D.pen,some (.int n),some (.int k),some (.lst (rs.map rwD)),z4,z5]=[none,some .pen,some (.int k)] from rfl,q1]
 have c2:=qJ (ws:=[3]) (ws':=[]) (env:=[some .pen,some (.int n),some (.int k),some (.lst (rs.map rwD)),z4,some (.lst (ps.map prtD))]) (s:=s1) (fm:=[]) (i:=bf (ae 5)) (t:=xB (ak oNe (ak oIx (ae 1) (xC (.int 0))) (xC (.int 0)))) (e:=bv (aa (ae 0) (aa (ae 1) xNil))) (ds:=ps.map prtD) (fun d=>!(match d with | .tup [_,.tup [.int t,_]]=>decide (t=0) | _=>false)) id (by simp[D.items]) (by simp;ext) (fun x hx=>by
  obtain⟨p,_,rfl⟩:=qav.mp hx;refine⟨_,_,rfl,?_,fun _=>?_⟩
  ·simp[at0,oNe,PR.bl];rfl
  ·simp[prtD])
 have e2:((ps.map prtD).filter (fun d=>!(match d with | .tup [_,.tup [.int t,_]]=>decide (t=0) | _=>false))).map id=(ps.filter fun p=>!decide (p.2.1=0)).map prtD:=by
  rw[List.map_id,qcM];rfl
 rw[e2] at c2;have lf:=qcg (fun p:Prt=>!decide (p.2.1=0)) ps;refine⟨(ps.filter fun p=>!decide (p.2.1=0)),some (.lst (ps.map prtD)),s1,⟨ri.filter _,by ext,fun p hp=>?_⟩,?_⟩
 ·obtain⟨hp,hz⟩:=qbw.mp hp
  have:=me p hp
  exact⟨by ext,by ext,this.2.2,by simpa using hz⟩
 ·rw[aK,eK,c1,Pg];simp![qaM,qaN];rw[lv (s1:=s1) (as:=[rwD (ps.filter fun p=>!decide (p.2.1=0))]) (ds:=rs.map rwD) (ds':=(rs++[ps.filter fun p=>!decide (p.2.1=0)]).map rwD) (r:=.non) (by rw[aD,dr,aD,c2];rfl) rfl (by rw[pG (by simp;ext)];simp)];rfl
def rows_p(n0:0<=n)(n5:n<=12):∃(rs:List (List Prt)) (s':Pen),mF.p [.pen,.int n] s=.ok (.tup (rs.map rwD)) s'/\(rs.length:Int)=n/\∀ps∈rs,Rw n ps:=by
 obtain⟨k,s1,k0,k1,q1⟩:=cM (s:=s) (size:=4) (by ext) (by ext);obtain⟨env',s',e,rs,z4,z5,rfl,hl,hr⟩:=d8 (g:=(xNm 4:Xg [3]).p) (b:=drB.p)
  (fun j env _=>∃rs z4 z5,env=[some .pen,some (.int n),some (.int (1+k)),some (.lst (rs.map rwD)),z4,z5]/\rs.length=j/\∀ps∈rs,Rw n ps) (dG 0 n.toNat) 0 [some .pen,some (.int n),some (.int (1+k)),some (.lst []),none,none] s1 ⟨[],none,none,rfl,rfl,by simp⟩ (fun j env s' d ⟨rs,z4,z5,hE,hl,hr⟩ hd=>by
   subst hE;have hj:j<n.toNat:=by have:=(qad.mp hd).1;simpa [dG] using this
   obtain⟨ps,y5,s2,hps,e⟩:=dr_turn (rs:=rs) (z4:=some d) (z5:=z5) (s:=s') n0 n5 (k:=1+k) (by ext) (by ext) (by ext)
   exact⟨_,_,s2,rfl,e,_,_,_,rfl,by simp[hl],fun x hx=>by
    rcases qay.mp hx with hx|hx
    ·exact hr x hx
    ·rw[qcc.mp hx];exact hps⟩)
 refine⟨rs,s',?_,by rw[hl];simp[dG];ext,hr⟩;rw[yk (by rfl)];unfold mI;rw[show dSt 6 [D.pen,D.int n]=[some .pen,some (.int n),none,none,none,none] from rfl,aK,eK];simp![bJ,cQ,aD,aT,aR,Pb,fP,cG,aO,q1,oAdd_ii,Pf,Pg,qaM,qaN];rw[aK,kT,kJ,aO,Pb,qah (by decide),Pg];simp![qaM,qaN];rw[aK,fB,kB,aD,aT,aR,Pb,aO,Pb,Pb,vI (by ext),Pf,Pg];refine (congrArg (fun z:PS=>(z.then _).fin) e).trans ?_;rw[PU.aG];simp
def at_mem{ds:List D}{i:Int}(h0:0<=i)(h1:i<(ds.length:Int)):∃d,atI ds i=some d/\d∈ds:=by
 obtain⟨k,rfl⟩:=kH h0;have hk:k<ds.length:=by ext
 exact⟨ds[k],L2.dv (by simp[hk]),qbN hk⟩
def many_p{s:Pen}:∃(n:Int) (s':Pen),mm.p [.pen] s=.ok (.int n) s'/\0<=n/\n<=12:=by
 obtain⟨a,s1,a0,a1,qa⟩:=cM (s:=s) (size:=16) (by ext) (by ext);obtain⟨b,s2,b0,b1,qb⟩:=cM (s:=s1) (size:=8) (by ext) (by ext);rw[xl (by rfl)];unfold mO;rw[show dSt 1 [D.pen]=[some .pen] from rfl,aK,cf];have t:(xB (ak oEq (am aL (aa (ae 0) (aa (xC (.int 16)) xNil))) (xC (.int 15))):Xt []).p [some .pen] s=.ok (decide (a=15)) s1:=by simp[qa,PR.bl]
 rw[t,Pg];by_cases z:a=15
 ·exact⟨12,s1,by simp[z],by ext,by ext⟩
 ·obtain⟨d,ed,md⟩:=at_mem (ds:=[.int 4,.int 3,.int 5,.int 2,.int 6,.int 1,.int 0,.int 3]) b0 (by simp;ext)
  have:∃n:Int,d=.int n/\0<=n/\n<=12:=by
   simp only[qak,qaW,or_false] at md;rcases md with rfl|rfl|rfl|rfl|rfl|rfl|rfl|rfl <;> exact⟨_,rfl,by ext,by ext⟩
  obtain⟨n,rfl,n0,n1⟩:=this;have l:(iq (aa (xC (.int 4)) (aa (xC (.int 3)) (aa (xC (.int 5)) (aa (xC (.int 2)) (aa (xC (.int 6)) (aa (xC (.int 1)) (aa (xC (.int 0)) (aa (xC (.int 3)) xNil)))))))):Xe []).p [some .pen] s1=.ok (.lst [.int 4,.int 3,.int 5,.int 2,.int 6,.int 1,.int 0,.int 3]) s1:=by simp
  refine⟨n,s2,?_,n0,n1⟩;rw[decide_eq_false z,qan (by simp),cS,PU.aG,dJ,bJ,l];simp[qb,ed]
def Hd(ds:List D)(d:D):Prop:=∃es,(d=.lst es\/d=.tup es)/\es.Perm ds
def yZ{ds:List D}{s:Pen}(hl:ds.length<=12):∃d s',du.p [.pen,.tup ds] s=.ok d s'/\Hd ds d:=by
 obtain⟨env',s1,e,es,z,rfl,hp⟩:=d8 (g:=(xNm 3:Xg [2]).p) (b:=(xMt pr 2 (aa (am aL (aa (ae 0) (aa (ak gL (xCb dY (aa (ae 2) xNil)) (xC (.int 1))) xNil))) (aa (ae 3) xNil)):Xd [2]).p)
  (fun j env _=>∃es z,env=[some .pen,some (.tup ds),some (.lst es),z]/\es.Perm (ds.take j)) ds 0 [some .pen,some (.tup ds),some (.lst []),none] s ⟨[],none,rfl,by simp⟩ (fun j env s' d ⟨es,z,hE,hp⟩ hd=>by
   subst hE;have hj:j<ds.length:=(qad.mp hd).1;have le:es.length=j:=by rw[hp.length_eq,qch];ext
   obtain⟨k,s2,k0,k1,qk⟩:=cM (s:=s') (size:=(es.length:Int)+1) (by ext) (by ext);obtain⟨i,rfl⟩:=kH k0;refine⟨_,[some .pen,some (.tup ds),some (.lst (es.take i++d::es.drop i)),some d],s2,rfl,?_,_,_,rfl,?_⟩
   ·rw[lv (s1:=s2) (as:=[.int (i:Int),d]) (ds:=es) (ds':=es.take i++d::es.drop i) (r:=.non) (by simp[qk]) rfl (xT (by ext) (by ext))];rfl
   ·rw[show 0+j+1=j+1 by ext,qbO,hd];rw[show 0+j=j by ext] at hp;have p1:(es.take i++d::es.drop i).Perm (d::es):=by
     refine qbM.trans ?_;rw[qbk]
    refine p1.trans ((hp.cons d).trans ?_)
    exact (qcf (l₁:=ds.take j) (l₂:=[d])).symm)
 have hp:es.Perm ds:=by simpa using hp
 obtain⟨k,s2,k0,k1,qk⟩:=cM (s:=s1) (size:=2) (by ext) (by ext);have t:(xB (ak oEq (am aL (aa (ae 0) (aa (xC (.int 2)) xNil))) (xC (.int 1))):Xt [2]).p [some .pen,some (.tup ds),some (.lst es),z] s1=.ok (decide (k=1)) s2:=by simp[qk,PR.bl]
 rw[uw (by rfl)];unfold i0;rw[show dSt 4 [D.pen,.tup ds]=[some .pen,some (.tup ds),none,none] from rfl,aK,kT,kJ,aO,Pb,qah (by decide),Pg];simp![qaM,qaN];rw[aK,fB,iA,aT,aR,Pb,show (D.tup ds).items=some ds from rfl,Pf,Pg];have goal:∀o:PS,o=.nx [some .pen,some (.tup ds),some (.lst es),z] s1->∃d s',((o.then (aN (xIf (xB (ak oEq (am aL (aa (ae 0) (aa (xC (.int 2)) xNil))) (xC (.int 1)))) (aV (xCb bM (aa (ae 2) xNil))) xSkip) (xRetO 2):Xd [2]).p).fin)=.ok d s'/\Hd ds d:=fun o eo=>by
  subst eo;rw[PU.aG,aK,cf,t,Pg];by_cases zk:k=1
  ·exact⟨.tup es,s2,by simp[zk],es,.inr rfl,hp⟩
  ·exact⟨.lst es,s2,by rw[decide_eq_false zk];rfl,es,.inl rfl,hp⟩
 exact goal _ e
inductive F2 {α β:Type} (R:α->β->Prop):List α->List β->Prop
 | nil:F2 R [] []
 | cons {a b as bs}:R a b->F2 R as bs->F2 R (a::as) (b::bs)
def lO:∀(rs:List D) (z:Option D) (s:Pen),(∀r∈rs,∃ds,r=.tup ds/\ds.length<=12)->∃hs s',cV (xNm 0:Xg []).p (xTrue:Xt []).p (am du (aa (ae 1) (aa (ae 0) xNil)):Xe []).p rs [z,some .pen] s=.ok hs s'/\F2 (fun r d=>Hd (r.items.getD []) d) rs hs
 | [],z,s,_=>⟨[],s,rfl,.nil⟩
 | r::rs,z,s,h=>by
  obtain⟨ds,rfl,hl⟩:=h r (by simp);obtain⟨d,s1,q1,hd⟩:=yZ (s:=s) hl;obtain⟨hs,s2,q2,f2⟩:=lO rs (some (.tup ds)) s1 fun x hx=>h x (qae _ hx);have e1:(xNm 0:Xg []).p (.tup ds) [z,some .pen]=some [some (.tup ds),some .pen]:=rfl;have e3:(am du (aa (ae 1) (aa (ae 0) xNil)):Xe []).p [some (.tup ds),some .pen] s=.ok d s1:=by simp[q1]
  refine⟨d::hs,s2,?_,.cons hd f2⟩;rw[cV,e1];dsimp only;rw[show (xTrue:Xt []).p [some (.tup ds),some .pen] s=.ok true s from rfl,Pb,qah rfl,e3,Pb,q2,Pb]
def vS(p:es.Perm ds)(h:bj n ds=true):bj n es=true:=by
 unfold bj ndB at h ⊢;rw[qaO] at h ⊢;refine⟨qbm.mpr fun x hx=>qbm.mp h.1 x (p.mem_iff.mp hx),?_⟩;have h2:(ds.map rkD).Nodup:=by simpa using h.2
 exact decide_eq_true ((p.map rkD).nodup_iff.mpr h2)
def tP(h:Rw n ps):bj n (ps.map prtD)=true/\pu (ps.map prtD)=true:=by
 have ri:(ps.map fun p:Prt=>p.1).Pairwise (·<·):=qaY.mpr h.ris;refine⟨?_,?_⟩
 ·unfold bj;rw[qaO];refine⟨qbm.mpr fun x hx=>?_,?_⟩
  ·obtain⟨p,hp,rfl⟩:=qav.mp hx;obtain⟨h0,h1,h2,h3⟩:=h.mem p hp;have hb:=h2.b1;have hg:=h2.g1;simp[prtD,dw,plB,eE,zrB,h0,h1,hb,hg,h3]
  ·unfold ndB;rw[jX];exact decide_eq_true (ri.imp fun h=>by ext)
 ·unfold pu;rw[jX];exact decide_eq_true (ri.imp fun h=>by ext)
def sS(p:es.Perm (ps.map prtD)):∃qs:List Prt,es=qs.map prtD/\qs.Perm ps:=by
 have hm:∀x∈es,∃q,x=prtD q:=fun x hx=>by
  obtain⟨q,_,rfl⟩:=qav.mp (p.mem_iff.mp hx);exact⟨q,rfl⟩
 obtain⟨qs,rfl⟩:∃qs:List Prt,es=qs.map prtD:=by
  clear p
  induction es with
  | nil=>exact⟨[],rfl⟩
  | cons x es ih =>
   obtain⟨q,rfl⟩:=hm x (by simp);obtain⟨qs,rfl⟩:=ih fun y hy=>hm y (qae _ hy);exact⟨q::qs,rfl⟩
 refine⟨qs,rfl,?_⟩;have k:∀q:Prt,(fun d:D=>match d with | .tup [.int i,.tup [.int t,.int b]]=>(i,t,b) | _=>(0,0,0)) (prtD q)=q:=fun q=>rfl
 have:=p.map (fun d:D=>match d with | .tup [.int i,.tup [.int t,.int b]]=>((i,t,b):Prt) | _=>(0,0,0))
 rw[qaU,qaU] at this;simpa [Function.comp_def,prtD] using this
def y0(h:Rw n ps)(p:es.Perm (ps.map prtD)):aB rkD es=ps.map prtD:=by
 obtain⟨qs,rfl,pq⟩:=sS p;have ri:(ps.map fun p:Prt=>p.1).Pairwise (·<·):=qaY.mpr h.ris;have s1:aB rkD (qs.map prtD)=(aB (fun p:Prt=>p.1) qs).map prtD:=by rw[fC];rfl
 have nd:(qs.map fun p:Prt=>p.1).Nodup:=(pq.map _).nodup_iff.mpr (ri.imp fun h=>by ext);rw[s1,<-jj pq.symm nd (qaY.mp (ri.imp fun h=>by ext))]
def gd_prt(h:Num p.2.1 p.2.2):gd (prtD p)=true:=by
 have:=h.b6
 simp[prtD,gd,gds,sm];ext
def uK(h:Rw n ps):gds (ps.map prtD)=true:=nG fun x hx=>by
 obtain⟨p,hp,rfl⟩:=qav.mp hx;exact gd_prt (h.mem p hp).2.2.1
def uz(h:∀x∈es,∃q,x=prtD q):sm es=true:=by
 unfold sm;split
 ·rename_i a b
  obtain⟨q,e⟩:=h (.int a) (by simp);cases e
 ·rfl
def qO(h:Rw n ps)(hd:Hd (ps.map prtD) d):Rk d/\okR n d=true/\∃qs:List Prt,(d=.lst (qs.map prtD)\/d=.tup (qs.map prtD))/\d.items=some (qs.map prtD)/\qs.Perm ps:=by
 obtain⟨es,e,p⟩:=hd;obtain⟨qs,rfl,pq⟩:=sS p;have g:gds (qs.map prtD)=true:=nG fun x hx=>cN (uK h) x (p.mem_iff.mp hx);have l:(qs.map prtD).length<=66:=by have:=h.len;rw[p.length_eq,qaB];ext
 have sm1:sm (qs.map prtD)=true:=uz fun x hx=>by obtain⟨q,_,rfl⟩:=qav.mp hx;exact⟨q,rfl⟩
 have pp:=vS p (tP h).1;rcases e with rfl|rfl
 ·exact⟨⟨by simp[gd,g],fun ds e=>by cases e;exact l⟩,pp,qs,.inl rfl,rfl,pq⟩
 ·exact⟨⟨by simp[gd,g,sm1],fun ds e=>by cases e;exact l⟩,pp,qs,.inr rfl,rfl,pq⟩
def mY{α β:Type}{R:α->β->Prop}{as:List α}{bs:List β}(h:F2 R as bs):∀b∈bs,∃a∈as,R a b:=by
 induction h with
 | nil=>simp
 | cons r _ ih =>
  intro b hb;rcases qak.mp hb with rfl|hb
  ·exact⟨_,by simp,r⟩
  ·obtain⟨a,ha,hr⟩:=ih b hb;exact⟨a,qae _ ha,hr⟩
def rE{α β:Type}{R:α->β->Prop}{as:List α}{bs:List β}(h:F2 R as bs):bs.length=as.length:=by
 induction h with
 | nil=>rfl
 | cons _ _ ih=>simp[ih]
def f2_map{n:Int}{rs:List (List Prt)}{hs:List D}(hr:∀ps∈rs,Rw n ps)(h:F2 (fun r d=>Hd (r.items.getD []) d) (rs.map rwD) hs):(hs.map fun r=>D.tup (aB rkD (r.items.getD [])))=rs.map rwD:=by
 induction rs generalizing hs with
 | nil=>cases h;rfl
 | cons ps rs ih =>
  rw[qau] at h ⊢
  cases h with
  | cons r f =>
   rw[qau,ih (fun x hx=>hr x (qae _ hx)) f];obtain⟨es,e,p⟩:=r
   have:aB rkD es=ps.map prtD:=y0 (hr ps (by simp)) p
   rcases e with rfl|rfl
   ·show D.tup (aB rkD es)::_=_;rw[this]
   ·show D.tup (aB rkD es)::_=_;rw[this]
def qj{n:Int}{rs:List (List Prt)}{hs:List D}{d:D}{s:Pen}(n0:0<=n)(n12:n<=12)(hn:(rs.length:Int)=n)(hr:∀ps∈rs,Rw n ps)(h:F2 (fun r d=>Hd (r.items.getD []) d) (rs.map rwD) hs)(e:d.items=some hs):bF.p [.int n,d] s=.ok (.tup [.int n,.tup (rs.map rwD)]) s:=by
 have hk:∀r∈hs,Rk r/\okR n r=true:=fun r hm=>by
  obtain⟨a,ha,hh⟩:=mY h r hm;obtain⟨ps,hp,rfl⟩:=qav.mp ha
  have:=qO (hr ps hp) hh
  exact⟨this.1,this.2.1⟩
 rw[so_ok (rs:=hs) (by simp[eM];ext) e (by rw[rE h,qaB];exact hn) (fun r hm=>(hk r hm).1) (qbm.mpr fun r hm=>(hk r hm).2),f2_map hr h]
def smO(k:Nat)(d:D):Prop:=∀s,(eY k).p [d,d] s=.ok (.bl true) s
def iH:smO (k+1) (.int i):=fun s=>by
 rw[pV (by rfl)];unfold jH;simp[dSt,ba,PR.bl,oIs]
def eN(hl:ds.length<=1000)(h:∀x∈ds,smO k x):smO (k+1) (.tup ds):=fun s=>by
 rw[pV (by rfl)];unfold jH;rw[show dSt 2 [D.tup ds,.tup ds]=[some (.tup ds),some (.tup ds)] from rfl]
 have c:=qJ (ws:=[]) (ws':=[]) (env:=[some (.tup ds),some (.tup ds)]) (s:=s) (fm:=[]) (i:=dD iZ (aa (ae 0) (aa (ae 1) xNil))) (t:=xTrue) (e:=am (eY k) (aa (ae 0) (aa (ae 1) xNil))) (ds:=jB ds ds) (fun _=>true) (fun _=>.bl true) (by simp) (by simp[jB];ext) (fun x hx=>by
  obtain⟨p,hp,rfl⟩:=qav.mp hx;have e:p.1=p.2:=by
   have:=qcb hp
   rw[List.zip_eq_zipWith,List.zipWith_self] at hp;obtain⟨x,_,rfl⟩:=qav.mp hp;rfl
  have h1:=h p.1 (qcb hp).1 s;rw[<-e]
  exact⟨_,_,rfl,rfl,fun _=>by simp[h1]⟩)
 rw[de] at c;have ca:rG.p [.lst ((jB ds ds).map fun _=>.bl true)]=some (.bl true):=by
  rw[vO (f:=fun _=>true)];simp
 have t1:(xB (ak (oIs false) (ae 1) (xC .non)):Xt []).p [some (.tup ds),some (.tup ds)] s=.ok false s:=rfl;have t2:(xB (xUn (cg ["list","tuple"]) (ae 1)):Xt []).p [some (.tup ds),some (.tup ds)] s=.ok true s:=by simp[ba,PR.bl]
 have t3:(xOr (bD (xB (xUn (cg ["list","tuple"]) (ae 0)))) (xB (ak oNe (xUn (cg ["list"]) (ae 0)) (xUn (cg ["list"]) (ae 1)))):Xt []).p [some (.tup ds),some (.tup ds)] s=.ok false s:=by simp[ba,PR.bl]
 rw[aK,cf,t1];simp![Pg,qaf,if_false,cS];rw[aK,cf,t2];simp only[Pg,if_true];rw[aK,cf,t3];simp![Pg,qaf,if_false,cS];rw[dJ,o3];have ln:(ak oEq (xCb dY (aa (ae 0) xNil)) (xCb dY (aa (ae 1) xNil)):Xe []).p [some (.tup ds),some (.tup ds)] s=.ok (.bl true) s:=by simp
 rw[ln,Pl,Pb,qah rfl,dr,aD,c];simp only[Pb,aO,ca,Pf];rfl
def sm_prt:smO (k+3) (prtD p):=eN (by simp) fun x hx=>by
 simp only[qak,qaW,or_false] at hx;rcases hx with rfl|rfl
 ·exact iH
 ·exact eN (by simp) fun x hx=>by
   simp only[qak,qaW,or_false] at hx;rcases hx with rfl|rfl <;> exact iH
def xg{n:Int}{rs:List (List Prt)}{s:Pen}(hl:rs.length<=12)(hr:∀ps∈rs,Rw n ps):cD.p [.tup [.int n,.tup (rs.map rwD)],.tup [.int n,.tup (rs.map rwD)]] s=.ok (.bl true) s:=by
 refine eN (k:=7) (by simp) (fun x hx=>?_) s;simp only[qak,qaW,or_false] at hx;rcases hx with rfl|rfl
 ·exact iH
 ·refine eN (k:=6) (by rw[qaB];ext) fun x hx=>?_;obtain⟨ps,hp,rfl⟩:=qav.mp hx;refine eN (k:=5) (by rw[qaB];have:=(hr ps hp).len;ext) fun x hx=>?_;obtain⟨p,_,rfl⟩:=qav.mp hx;exact sm_prt
def is_rows{n:Int}{rs:List (List Prt)}{s:Pen}(n0:0<=n)(n12:n<=12)(hn:(rs.length:Int)=n)(hr:∀ps∈rs,Rw n ps):gk.p [.tup [.int n,.tup (rs.map rwD)]] s=.ok (.bl true) s:=by
 have hm:∀x∈rs.map rwD,gd x=true/\(∀b,x≠.int b)/\∀ds,x=.tup ds->ds.length<=66:=fun x hx=>by
  obtain⟨ps,hp,rfl⟩:=qav.mp hx;have sm1:sm (ps.map prtD)=true:=uz fun x hx=>by obtain⟨q,_,rfl⟩:=qav.mp hx;exact⟨q,rfl⟩
  exact⟨by simp[gd,uK (hr ps hp),sm1],⟨fun b e=>(by cases e),fun ds e=>(by cases e;rw[qaB];have:=(hr ps hp).len;ext)⟩⟩
 have s1:sm (rs.map rwD)=true:=by
  unfold sm;split
  ·rename_i a b e
   exact absurd rfl ((hm (.int a) (by rw[e];simp)).2.1 a)
  ·rfl
 have g:gd (.tup [.int n,.tup (rs.map rwD)])=true:=by
  simp only[gd,gds,nG fun x hx=>(hm x hx).1,s1,Bool.and_true];rfl
 rw[sheet_k g fun c rs' e=>by cases e;exact⟨by rw[qaB];ext,fun r hr=>(hm r hr).2.2⟩]
 have:shB (.tup [.int n,.tup (rs.map rwD)])=true:=by
  show (eM (.int n) && (decide (((rs.map rwD).length:Int)=n) && (rs.map rwD).all (kL n)))=true;rw[qaO,qaO];refine⟨by simp[eM];ext,decide_eq_true (by rw[qaB];exact hn),qbm.mpr fun x hx=>?_⟩;obtain⟨ps,hp,rfl⟩:=qav.mp hx;obtain⟨h1,h2⟩:=tP (hr ps hp);show (bj n _ && pu _)=true;rw[h1,h2];rfl
 rw[this]
def kN(qs:List Prt):PyData:=.list (qs.map fun p=>PyData.tuple [.int p.1,.tuple [.int p.2.1,.int p.2.2]])
def lY:∀L:List (List Prt),PyData.eqvAll (L.map kN) (L.map kN)=true
 | []=>by simp[PyData.eqvAll]
 | qs::L=>by rw[qau,PyData.eqvAll,lY L];simp[kN,PyData.eqv,iX]
def sH:∀L:List (List Prt),pys (L.map fun qs=>.lst (qs.map prtD))=some (L.map kN)
 | []=>by simp[pys]
 | qs::L=>by rw[qau,pys,sH L,py,oR];rfl
def pZ:∀L:List (List Prt),deps (L.map fun qs=>.lst (qs.map prtD))<=10
 | []=>by simp[deps]
 | qs::L=>by have:=pZ L;have:=jq qs;rw[qau,deps,dep];ext
def mD:∀L:List (List Prt),PyData.canLayAll0 (L.map kN)=true
 | []=>by simp[PyData.canLayAll0]
 | qs::L=>by rw[qau,PyData.canLayAll0,mD L];simp[kN,PyData.canLay0,kW]
def rn:∀L:List (List Prt),PyData.depthAll (L.map kN)<=10
 | []=>by simp[PyData.depthAll]
 | qs::L=>by have:=rn L;have:=k7 qs;rw[qau,PyData.depthAll];simp[kN,PyData.depth];ext
def ne_rows{L:List (List Prt)}:eqD true (.lst (L.map fun qs=>.lst (qs.map prtD))) (.lst (L.map fun qs=>.lst (qs.map prtD)))=some (.bl false):=by
 have h1:=pZ L;have h3:=rn L;simp only[eqD,py,sH,qcd];rw[qah ⟨⟨by simp[dep];ext,by simp[dep];ext⟩,by simp[SeqAt.shaped,PyData.canLay0,mD,PyData.depth];ext,by simp[SeqAt.shaped,PyData.canLay0,mD,PyData.depth];ext⟩];simp[PyData.eqv,lY]
abbrev preE(n:Int)(rs:List (List Prt))(hs ks:List D)(z5:Option D):aq:=[some .pen,some (.int n),some (.tup [.int n,.tup (rs.map rwD)]),some (.lst hs),some (.lst ks),z5,some (.tup [.int n,.tup (rs.map rwD)])]
def hs_rows{n:Int}{rs:List (List Prt)}{hs:List D}(hr:∀ps∈rs,Rw n ps)(h:F2 (fun r d=>Hd (r.items.getD []) d) (rs.map rwD) hs):∃L:List (List Prt),(hs.map fun d=>D.lst (d.items.getD []))=L.map (fun qs=>.lst (qs.map prtD)):=by
 have hm:=mY h;clear h
 induction hs with
 | nil=>exact⟨[],rfl⟩
 | cons d hs ih =>
  obtain⟨a,ha,hh⟩:=hm d (by simp);obtain⟨ps,hp,rfl⟩:=qav.mp ha;obtain⟨_,_,qs,_,e,_⟩:=qO (hr ps hp) hh;obtain⟨L,eL⟩:=ih fun b hb=>hm b (qae _ hb);exact⟨qs::L,by rw[qau,qau,eL,e];rfl⟩
def pre_p{s:Pen}:∃(n:Int) (rs:List (List Prt)) (hs ks:List D) (s':Pen),qP.p [some .pen,none,none,none,none,none,none] s=.nx (preE n rs hs ks none) s'/\0<=n/\n<=12/\(rs.length:Int)=n/\(∀ps∈rs,Rw n ps)/\F2 (fun r d=>Hd (r.items.getD []) d) (rs.map rwD) hs:=by
 obtain⟨n,s1,q1,n0,n12⟩:=many_p (s:=s);obtain⟨rs,s2,q2,hn,hr⟩:=rows_p (s:=s1) n0 n12;have hlen:(rs.map rwD).length<=12:=by rw[qaB];ext
 obtain⟨hs,s3,q3,f2⟩:=lO (rs.map rwD) none s2 fun r hm=>by
  obtain⟨ps,hp,rfl⟩:=qav.mp hm;exact⟨_,rfl,by rw[qaB];exact (hr ps hp).len⟩
 obtain⟨k,s4,k0,k1,q4⟩:=cM (s:=s3) (size:=2) (by ext) (by ext);obtain⟨L,eL⟩:=hs_rows hr f2;have lh:hs.length<=12:=by rw[rE f2];exact hlen
 have v2:∀{x y:D} {s:Pen},(if [x,y].length<=100000 then PR.ok (D.tup [x,y]) s else .bad)=.ok (.tup [x,y]) s:=fun {x y s}=>qah (by simp);have cL:∀(env:aq) (s:Pen),env[3]?=some (some (.lst hs))->(bh 1 [] (bf (ae 3)) (ws':=[]) (xNm 0) xTrue (xCb jv (aa (ae 0) xNil)):Xe []).p env s=.ok (.lst (L.map fun qs=>.lst (qs.map prtD))) s:=fun env s he=>by
  have ei:(bf (ae 3):Xi []).p env s=.ok hs s:=by
   rw[iA];show ((match env[3]? with | some (some d)=>PR.ok d s | _=>.bad).bind _)=_;rw[he];rfl
  have c:=kY (ws:=[]) (ws':=[]) (env:=env) (s:=s) (fm:=[]) (i:=bf (ae 3)) (t:=xTrue) (e:=xCb jv (aa (ae 0) xNil)) (ds:=hs) (fun _=>true) (fun d=>.lst (d.items.getD [])) ei (by ext) (fun x hx=>⟨rfl,fun _=>by
   obtain⟨a,ha,hh⟩:=mY f2 x hx;obtain⟨ps,hp,rfl⟩:=qav.mp ha;obtain⟨_,_,qs,_,e,pq⟩:=qO (hr ps hp) hh
   have:=(hr ps hp).len
   have l2:(qs.map prtD).length<=100000:=by rw[qaB,pq.length_eq];ext
   simp[tN e l2,e]⟩)
  rw[de,eL] at c;exact c
 have so:=fun d (e:d.items=some hs) s=>qj (s:=s) (d:=d) n0 n12 hn hr f2 e;have sm:=fun s=>xg (n:=n) (s:=s) (rs:=rs) (by ext) hr;refine⟨n,rs,hs,(L.map fun qs=>.lst (qs.map prtD)),s4,?_,n0,n12,hn,hr,f2⟩;unfold qP;rw[aK,eK];simp![cQ,aD,aT,aR,Pb,aO,q1,Pg,qaM,qaN];rw[aK,eK];simp![iF,cQ,aD,aT,aR,Pb,aO,q2,v2,Pg,qaM,qaN];rw[aK,eK];have c3:(bh 1 [0] (bf (ak oIx (ae 2) (xC (.int 1)))) (ws':=[]) (xNm 0) xTrue (am du (aa (ae 1) (aa (ae 0) xNil))):Xe []).p [some .pen,some (.int n),some (.tup [.int n,.tup (rs.map rwD)]),none,none,none,none] s2=.ok (.lst hs) s3:=by
  rw[pd,iA];simp only[bJ,aT,aR,fP,cG,Pb,gc,at1,Pf];rw[show (D.tup (rs.map rwD)).items=some (rs.map rwD) from rfl,Pf,Pb,qah (by ext)];refine (congrArg (fun z:PR (List D)=>(match z with | .ok r s2=>PR.ok (D.lst r) s2 | _=>.bad)) q3).trans ?_;rfl
 rw[c3,Pg];simp![qaM,qaN];rw[aK,eK,cL _ _ rfl,Pg];simp![qaM,qaN];have t5:(xB (ak oEq (am aL (aa (ae 0) (aa (xC (.int 2)) xNil))) (xC (.int 1))):Xt []).p [some .pen,some (.int n),some (.tup [.int n,.tup (rs.map rwD)]),some (.lst hs),some (.lst (L.map fun qs=>.lst (qs.map prtD))),none,none] s3=.ok (decide (k=1)) s4:=by simp[q4,PR.bl]
 have s5:(xIf (xB (ak oEq (am aL (aa (ae 0) (aa (xC (.int 2)) xNil))) (xC (.int 1)))) (b8 6 (am bF (aa (ae 1) (aa (xCb bM (aa (ae 3) xNil)) xNil)))) (b8 6 (am bF (aa (ae 1) (aa (ae 3) xNil)))):Xd []).p [some .pen,some (.int n),some (.tup [.int n,.tup (rs.map rwD)]),some (.lst hs),some (.lst (L.map fun qs=>.lst (qs.map prtD))),none,none] s3=.nx (preE n rs hs (L.map fun qs=>.lst (qs.map prtD)) none) s4:=by
  rw[cf,t5,Pg];by_cases zk:k=1
  ·rw[decide_eq_true zk,qah rfl,eK];simp only[cQ,aD,aT,aR,dr,mn,Pf,Pb,aO,so (.tup hs) rfl,Pg,qaM,qaN]
  ·rw[decide_eq_false zk,qan (by simp),eK];simp only[cQ,aD,aT,aR,Pb,aO,so (.lst hs) rfl,Pg,qaM,qaN]
 rw[aK,s5,PU.aG,cf];simp only[xOr_p,m4,oZ,bJ,cQ,aD,aT,aR,Pb,aO,sm,Pl,qbf,qaf,if_false];rw[cL _ _ rfl];simp only[Pb,oNe_p,ne_rows,Pf,Pl,Pg,qaf,if_false,cS]
def sm_n:smO (k+2) (nD t b):=eN (by simp) fun x hx=>by
 simp only[qak,qaW,or_false] at hx;rcases hx with rfl|rfl <;> exact iH
def fg(ps:List Prt)(j:Int):D:=((ps.find? fun p=>decide (p.1=j)).map fun p=>nD p.2.1 p.2.2).getD (nD 0 1)
def pX:∀ps:List Prt,gI (ps.map prtD)=some (ps.map fun p=>(p.1,nD p.2.1 p.2.2))
 | []=>rfl
 | p::ps=>by rw[qau,prtD,gI,pX ps];rfl
def dg_row(h:Rw n ps):dgD (rwD ps)=some (ps.map fun p=>(p.1,nD p.2.1 p.2.2)):=by
 show (match gI (ps.map prtD) with | some kvs=>_ | none=>none)=_;rw[pX];dsimp only;rw[qah];rw[qaU];exact qaY.mpr (h.ris.imp fun h=>by simp only[Function.comp];ext)
def at_row:atD (ps.map fun p=>(p.1,nD p.2.1 p.2.2)) j (nD 0 1)=fg ps j:=by
 unfold atD fg;rw[List.find?_map,Option.map_map];congr 2
def zh:cD.p [fg ps j,fg ps j] s=.ok (.bl true) s:=by
 have:∃t b,fg ps j=nD t b:=by
  unfold fg
  cases ps.find? fun p=>decide (p.1=j) with
  | none=>exact⟨_,_,rfl⟩
  | some p=>exact⟨_,_,rfl⟩
 obtain⟨t,b,e⟩:=this;rw[e];exact sm_n (k:=6) s
def head_at:atI ((ps.filter fun p=>decide (p.1=j)).map (fun p=>nD p.2.1 p.2.2)++[nD 0 1]) 0=some (fg ps j):=by
 unfold fg;rw[<-List.head?_filter]
 cases ps.filter fun p=>decide (p.1=j) with
 | nil=>rfl
 | cons p r=>exact L2.dv (j:=0) (by simp)
def xP{rs:List (List Prt)}{i:Nat}(hi:i<rs.length):atI (rs.map rwD) (i:Int)=some (rwD rs[i]):=L2.dv (by simp[hi])
abbrev nrB:Xd []:=(aN (b8 3 (ak gL (bh 2 [2] (bf (ak oIx (ak oIx (ae 0) (xC (.int 1))) (ae 1))) (ws':=[]) (xGp (xGc (xNm 0) (xGc (xNm 1) xGl)) 2) (xB (ak oEq (ae 0) (ae 2))) (ae 1)) (iq (aa (bv (aa (xC (.int 0)) (aa (xC (.int 1)) xNil))) xNil))))
 (xIf (bD (xB (am cD (aa (am fx (aa (ae 0) (aa (ae 1) (aa (ae 2) xNil)))) (aa (ak oIx (ae 3) (xC (.int 0))) xNil))))) (aV (xC (.bl false))) xSkip))
def ut{n:Int}{rs:List (List Prt)}{i j:Nat}{s:Pen}(hn:(rs.length:Int)=n)(hr:∀ps∈rs,Rw n ps)(hi:i<rs.length)(hj:j<rs.length):fx.p [.tup [.int n,.tup (rs.map rwD)],.int (i:Int),.int (j:Int)] s=.ok (fg rs[i] (j:Int)) s:=by
 have good:∀k:Nat,k<rs.length->dR.p [.int n,.int (k:Int)] s=.ok .non s:=fun k hk=>by
  rw[oW (by rfl)];unfold fI
  have:plB n (.int (k:Int))=true:=by simp[plB];ext
  simp[dSt,kZ (d:=.int (k:Int)) ⟨_,rfl⟩,this]
 rw[sJ (by rfl)];unfold ik;rw[show dSt 3 [D.tup [.int n,.tup (rs.map rwD)],.int (i:Int),.int (j:Int)]=[some (.tup [.int n,.tup (rs.map rwD)]),some (.int (i:Int)),some (.int (j:Int))] from rfl];have dg:(xDg (ak oIx (ak oIx (ae 0) (xC (.int 1))) (ae 1)) (aa (ae 2) (aa (xCT 0 1) xNil)):Xe []).p [some (.tup [.int n,.tup (rs.map rwD)]),some (.int (i:Int)),some (.int (j:Int))] s=.ok (fg rs[i] (j:Int)) s:=by
  show (PR.bind _ fun x s1=>match dgD x with | some kvs=>_ | none=>_)=_;simp only[bJ,aT,aR,fP,cG,Pb,gc,at1,Pf,xP hi,dg_row (hr _ (qbN hi)),aD,xCT_p,aO,at_row]
 simp![aK,xDrop_p,cQ,aD,bJ,aT,aR,fP,cG,Pb,gc,at0,Pf,aO,good i hi,good j hj,Pg,dJ,dg,PU.kz]
def nr_turn{n:Int}{rs:List (List Prt)}{i j:Nat}{z:Option D}{s:Pen}(hn:(rs.length:Int)=n)(hr:∀ps∈rs,Rw n ps)(hi:i<rs.length)(hj:j<rs.length):∃z',nrB.p [some (.tup [.int n,.tup (rs.map rwD)]),some (.int (i:Int)),some (.int (j:Int)),z] s=.nx [some (.tup [.int n,.tup (rs.map rwD)]),some (.int (i:Int)),some (.int (j:Int)),z'] s:=by
 have lr:=(hr _ (qbN hi)).len
 have c:=qJ (ws:=[]) (ws':=[]) (env:=[some (.tup [.int n,.tup (rs.map rwD)]),some (.int (i:Int)),some (.int (j:Int)),z]) (s:=s) (fm:=[2]) (i:=bf (ak oIx (ak oIx (ae 0) (xC (.int 1))) (ae 1))) (t:=xB (ak oEq (ae 0) (ae 2))) (e:=ae 1) (ds:=rs[i].map prtD) (fun d=>decide (rkD d=(j:Int))) (fun d=>match d with | .tup [_,y]=>y | d=>d) (by
  simp only[iA,bJ,aT,aR,fP,cG,Pb,gc,at1,Pf,xP hi];rfl) (by rw[qaB];ext) (fun x hx=>by
  obtain⟨p,_,rfl⟩:=qav.mp hx
  exact⟨_,_,rfl,by simp[PR.bl,rkD,dN,prtD];congr,fun _=>by simp[prtD]⟩)
 have ec:((rs[i].map prtD).filter (fun d=>decide (rkD d=(j:Int)))).map (fun d=>match d with | .tup [_,y]=>y | d=>d)=(rs[i].filter fun p=>decide (p.1=(j:Int))).map (fun p=>nD p.2.1 p.2.2):=by
  rw[qcM,qaU];rfl
 rw[ec] at c;have lf:=qcg (fun p:Prt=>decide (p.1=(j:Int))) rs[i];have ad:gL.p (.lst ((rs[i].filter fun p=>decide (p.1=(j:Int))).map (fun p=>nD p.2.1 p.2.2))) (.lst [nD 0 1])=some (.lst ((rs[i].filter fun p=>decide (p.1=(j:Int))).map (fun p=>nD p.2.1 p.2.2)++[nD 0 1])):=oAdd_ll (by simp;ext);have v2:∀{x y:D} {s:Pen},(if [x,y].length<=100000 then PR.ok (D.tup [x,y]) s else .bad)=.ok (.tup [x,y]) s:=fun {x y s}=>qah (by simp);have u1:∀{x:D} {s:Pen},(if [x].length<=100000 then PR.ok (D.lst [x]) s else .bad)=.ok (.lst [x]) s:=fun {x s}=>qah (by simp);refine⟨some (.lst ((rs[i].filter fun p=>decide (p.1=(j:Int))).map (fun p=>nD p.2.1 p.2.2)++[nD 0 1])),?_⟩;rw[aK,eK,bJ,c];simp![Pb,kJ,iF,aD,fP,cG,aO,v2,u1,ad,Pf,Pg,qaM,qaN];rw[cf];simp only[m4,oZ,cQ,aD,aT,aR,Pb,aO,ut hn hr hi hj,bJ,fP,cG,oIx_l,head_at,Pf,zh,Pl,qbf,Pg,qaf,if_false,cS]
def rL(h:(dG 0 c)[i]?=some x):x=.int (i:Int)/\i<c:=by
 unfold dG at h;rw[qaw,qat] at h;obtain⟨k,hk,rfl⟩:=h;obtain⟨a,b⟩:=qad.mp hk;simp at a b;subst b;exact⟨by simp,a⟩
def xz{n:Int}{rs:List (List Prt)}{s:Pen}(n0:0<=n)(n12:n<=12)(hn:(rs.length:Int)=n)(hr:∀ps∈rs,Rw n ps):dC.p [.tup [.int n,.tup (rs.map rwD)]] s=.ok (.bl true) s:=by
 have rg:∀(env:aq),env[0]?=some (some (.tup [.int n,.tup (rs.map rwD)]))->(dD iR1 (aa (ak oIx (ae 0) (xC (.int 0))) xNil):Xi []).p env s=.ok (dG 0 n.toNat) s:=fun env he=>by
  have xv:(ae 0:Xe []).p env s=.ok (.tup [.int n,.tup (rs.map rwD)]) s:=by
   show (match env[0]? with | some (some d)=>PR.ok d s | _=>.bad)=_;rw[he]
  rw[kB,aD,bJ,xv];simp only[Pb,fP,cG,gc,at0,Pf,aO];rw[vI (by ext),Pf]
 have inner:∀(i:Nat) (z2 z3:Option D),i<rs.length->∃y2 y3,(eX (dD iR1 (aa (ak oIx (ae 0) (xC (.int 0))) xNil)) (xNm 2) nrB:Xd []).p [some (.tup [.int n,.tup (rs.map rwD)]),some (.int (i:Int)),z2,z3] s=.nx [some (.tup [.int n,.tup (rs.map rwD)]),some (.int (i:Int)),y2,y3] s:=fun i z2 z3 hi=>by
  obtain⟨env',s',e,y2,y3,rfl,rfl⟩:=d8 (g:=(xNm 2:Xg []).p) (b:=nrB.p) (fun _ env s'=>∃z2 z3,env=[some (.tup [.int n,.tup (rs.map rwD)]),some (.int (i:Int)),z2,z3]/\s'=s) (dG 0 n.toNat) 0 [some (.tup [.int n,.tup (rs.map rwD)]),some (.int (i:Int)),z2,z3] s ⟨z2,z3,rfl,rfl⟩ (fun m env s' d ⟨z2,z3,hE,hs⟩ hd=>by
   subst hE;obtain⟨rfl,hm⟩:=rL hd;obtain⟨z',q⟩:=nr_turn (j:=m) (z:=z3) (s:=s') hn hr hi (by ext)
   exact⟨_,_,s',rfl,q,_,_,rfl,hs⟩)
  refine⟨y2,y3,?_⟩;rw[fB,rg _ rfl,Pg];exact e
 obtain⟨env',s',e,y1,y2,y3,rfl,rfl⟩:=d8 (g:=(xNm 1:Xg []).p) (b:=(eX (dD iR1 (aa (ak oIx (ae 0) (xC (.int 0))) xNil)) (xNm 2) nrB:Xd []).p) (fun _ env s'=>∃z1 z2 z3,env=[some (.tup [.int n,.tup (rs.map rwD)]),z1,z2,z3]/\s'=s) (dG 0 n.toNat) 0 [some (.tup [.int n,.tup (rs.map rwD)]),none,none,none] s ⟨none,none,none,rfl,rfl⟩ (fun m env s' d ⟨z1,z2,z3,hE,hs⟩ hd=>by
   subst hE;subst hs;obtain⟨rfl,hm⟩:=rL hd;obtain⟨y2,y3,q⟩:=inner m z2 z3 (by ext)
   exact⟨_,_,s',rfl,q,_,_,_,rfl,rfl⟩)
 rw[kG (by rfl)];unfold dB;rw[show dSt 4 [D.tup [.int n,.tup (rs.map rwD)]]=[some (.tup [.int n,.tup (rs.map rwD)]),none,none,none] from rfl,aK,fB,rg _ rfl,Pg];refine (congrArg (fun z:PS=>(z.then _).fin) e).trans ?_;rw[PU.aG];rfl
abbrev KsOf(d:D)(ks:List (List Int)):Prop:=d.items=some (ks.map kD)
def kI:∀(ks:List (List Int)),fo (ks.map kD)=some ks
 | []=>rfl
 | k::ks=>by
  have:mP (kD k)=some k:=by
   show b7 (k.map .int)=some k
   induction k with
   | nil=>rfl
   | cons i k ih=>rw[qau,b7,ih];rfl
  rw[qau,fo,this,kI ks]
open Classical in
theorem cSS_k(h:(∀k∈ks,k≠[])/\(SetT.ded ks).length<=66):cSS.p [.lst (ks.map kD)]=some (.lst ((bH (SetT.ded ks)).map kD)):=by
 show (fo (ks.map kD)).bind _=_;rw[kI,qaX,qah h]
def minS_2:qM.p [.tup [.int a,.int b]]=some (.int (if b<a then b else a)):=by
 simp[qM,qL,D.items,b7,lq,argBest]
 split <;> simp
def maxS_2:qQ.p [.tup [.int a,.int b]]=some (.int (if b>a then b else a)):=by
 simp[qQ,qL,D.items,b7,lq,argBest]
 split <;> simp
def yC(e:KsOf d ks)(hk:∀k∈ks,IsT n k)(hl:ks.length<=100000)(hd:(SetT.ded (ks.map mmK)).length<=66) :
  fO.p [d] s=.ok (.tup ((bH (SetT.ded (ks.map mmK))).map kD)) s:=by
 rw[oX (by rfl)];unfold fM
 have q:=kY (ws:=[]) (ws':=[]) (env:=dSt 1 [d]) (s:=s) (fm:=[]) (i:=bf (ae 0)) (t:=xTrue) (e:=(bv (aa (xCb qM (aa (ae 0) xNil)) (aa (xCb qQ (aa (ae 0) xNil)) xNil)))) (ds:=ks.map kD) (fun _=>true) (fun x=>match mP x with | some k=>kD (mmK k) | none=>.non) (by simp[dSt,e]) (by simpa using hl) (fun x hx=>by
   obtain⟨k,hk',rfl⟩:=qav.mp hx;obtain⟨a,b,rfl,_⟩:=hk k hk';refine⟨rfl,fun _=>?_⟩
   simp[kD,minS_2,maxS_2,mP,b7,mmK])
 have e2:(((ks.map kD).filter fun _=>true).map fun x=>match mP x with | some k=>kD (mmK k) | none=>.non)=(ks.map mmK).map kD:=by
  rw[de,qaU,qaU];refine qcn fun k hk'=>?_;obtain⟨a,b,rfl,_⟩:=hk k hk';rfl
 rw[e2] at q
 have q2:=cSS_k (ks:=ks.map mmK) ⟨fun k hk'=>by
  obtain⟨k',hk'',rfl⟩:=qav.mp hk';obtain⟨a,b,rfl,_⟩:=hk k' hk''
  simp[mmK],hd⟩
 rw[dJ,dr,aD,dr,aD,q];simp only[Pb,aO,q2,Pf,mn,Pg,PU.kz]
def eI(i:Int)(ps:List Prt):List (List Int):=(ps.filter fun p=>!decide (p.1=i)).map fun p=>[i,p.1]
def bX(rs:List (List Prt)):Nat->List (List Int)
 | 0=>[]
 | j+1=>bX rs j++eI (j:Int) (rs.getD j [])
def vp{n:Int}{i:Nat}{ps:List Prt}(h:Rw n ps)(hi:(i:Int)<n):∀k∈eI (i:Int) ps,IsT n k:=fun k hk=>by
 obtain⟨p,hp,rfl⟩:=qav.mp hk;obtain⟨hp,hz⟩:=qbw.mp hp;have hz:¬p.1=(i:Int):=by simpa using hz
 obtain⟨h0,h1,_⟩:=h.mem p hp;exact⟨(i:Int),p.1,rfl,by ext,hi,h0,h1,fun e=>hz e.symm⟩
def k6{n:Int}{rs:List (List Prt)}(hr:∀ps∈rs,Rw n ps){j:Nat}(hj:j<rs.length):rs.getD j []=rs[j]/\Rw n rs[j]:=⟨by simp[List.getD,hj],hr _ (qbN hj)⟩
def gB{n:Int}{rs:List (List Prt)}(hn:(rs.length:Int)=n)(hr:∀ps∈rs,Rw n ps):∀j,j<=rs.length->∀k∈bX rs j,IsT n k
 | 0,_,k,hk=>by cases hk
 | j+1,hj,k,hk=>by
  rcases qay.mp hk with hk|hk
  ·exact gB hn hr j (by ext) k hk
  ·obtain⟨e,w⟩:=k6 hr (j:=j) (by ext);rw[e] at hk;exact vp w (by ext) k hk
def rN(h:Rw n ps):(eI i ps).length<=12:=by
 unfold eI;rw[qaB];exact qaJ (qcg _ _) h.len
def l0{n:Int}{rs:List (List Prt)}(hr:∀ps∈rs,Rw n ps):∀j,j<=rs.length->(bX rs j).length<=12 * j
 | 0,_=>by simp[bX]
 | j+1,hj=>by
  obtain⟨e,w⟩:=k6 hr (j:=j) (by ext)
  have:=l0 hr j (by ext)
  have:=rN (i:=(j:Int)) w
  rw[bX,qaQ,e];ext
def qK(h:IsT n k):∃a b:Int,mmK k=[a,b]/\0<=a/\a<b/\b<n:=by
 obtain⟨a,b,rfl,h1,h2,h3,h4,h5⟩:=h;refine⟨_,_,rfl,?_,?_,?_⟩ <;> split <;> (try split) <;> ext
def w5{n:Int}{ks:List (List Int)}(h12:n<=12)(ht:∀k∈ks,IsT n k):(SetT.ded (ks.map mmK)).length<=66 :=
 len66 h12 (fun k hk=>by
  obtain⟨k',hk',rfl⟩:=qav.mp ((SetT.lc k _).mp hk)
  exact qK (ht k' hk')) (j6 _)
def rZ{rs:List (List Prt)}{j:Nat}{d:D}(h:(dO (rs.map rwD))[j]?=some d):∃hj:j<rs.length,d=.tup [.int (j:Int),rwD rs[j]]:=by
 unfold dO at h;rw[qaw,qat] at h;obtain⟨p,hp,rfl⟩:=h;rw[List.getElem?_zipIdx,qat] at hp;obtain⟨x,hx,rfl⟩:=hp;obtain⟨hj,e⟩:=qad.mp hx;rw[qaB] at hj;refine⟨hj,?_⟩;rw[<-e,List.getElem_map];simp
abbrev shD(n:Int)(rs:List (List Prt)):D:=.tup [.int n,.tup (rs.map rwD)]
def en_p:(dD iE (aa (ak oIx (ae 0) (xC (.int 1))) xNil):Xi ws).p (some (shD n rs)::some (.lst t)::z2::[z3]) s=.ok (dO (rs.map rwD)) s:=by
 rw[kB,aD,bJ,aR];simp only[Pb,fP,cG,gc,at1,Pf,aO];rfl
def xj{ks:List (List Int)}:lend (.tup (ks.map kD))=true:=by
 have fk:flats (ks.map kD)=true:=by
  induction ks with
  | nil=>simp[flats]
  | cons k ks ih =>
   rw[qau,flats,ih,Bool.and_true];show flats (k.map .int)=true;clear ih
   induction k with
   | nil=>simp[flats]
   | cons i k ih=>simp[flats,flat,ih]
 simp[lend,flat,fk]
def tY{n:Int}{rs:List (List Prt)}{s:Pen}(n0:0<=n)(n12:n<=12)(hn:(rs.length:Int)=n)(hr:∀ps∈rs,Rw n ps):fb.p [shD n rs] s=.ok (.tup [.int n,.tup ((bH (SetT.ded ((bX rs rs.length).map mmK))).map kD)]) s:=by
 obtain⟨env',s',e,z2,z3,rfl,rfl⟩:=d8 (g:=(xGp (xGc (xNm 2) (xGc (xNm 3) xGl)) 2:Xg [1]).p) (b:=(xMt pi 1 (aa (bh 2 [2] (bf (ae 3)) (ws':=[]) (xGp (xGc (xNm 0) (xGc (xNm 1) xGl)) 2) (xB (ak oNe (ae 0) (ae 2))) (bv (aa (ae 2) (aa (ae 0) xNil)))) xNil):Xd [1]).p)
  (fun j env s'=>∃z2 z3,env=[some (shD n rs),some (.lst ((bX rs j).map kD)),z2,z3]/\s'=s) (dO (rs.map rwD)) 0 [some (shD n rs),some (.lst []),none,none] s ⟨none,none,rfl,rfl⟩ (fun j env s' d ⟨z2,z3,hE,hs⟩ hd=>by
   subst hE;subst hs;rw[show 0+j=j by ext];obtain⟨hj,rfl⟩:=rZ hd;obtain⟨er,w⟩:=k6 hr hj;have lr:=w.len;have lt:=l0 hr j (by ext)
   have c:=qJ (ws:=[1]) (ws':=[]) (env:=[some (shD n rs),some (.lst ((bX rs j).map kD)),some (.int (j:Int)),some (rwD rs[j])]) (s:=s') (fm:=[2]) (i:=bf (ae 3)) (t:=xB (ak oNe (ae 0) (ae 2))) (e:=bv (aa (ae 2) (aa (ae 0) xNil))) (ds:=rs[j].map prtD) (fun d=>!decide (rkD d=(j:Int))) (fun d=>.tup [.int (j:Int),.int (rkD d)]) (by simp[D.items]) (by rw[qaB];ext) (fun x hx=>by
    obtain⟨p,_,rfl⟩:=qav.mp hx
    exact⟨_,_,rfl,by simp[PR.bl,rkD,dN,prtD];congr,fun _=>by simp[rkD,dN,prtD]⟩)
   have ec:((rs[j].map prtD).filter (fun d=>!decide (rkD d=(j:Int)))).map (fun d=>D.tup [.int (j:Int),.int (rkD d)])=(eI (j:Int) rs[j]).map kD:=by
    unfold eI;rw[qcM,qaU,qaU];rfl
   rw[ec] at c;have l2:=rN (i:=(j:Int)) w;refine⟨[some (shD n rs),some (.lst ((bX rs j).map kD)),some (.int (j:Int)),some (rwD rs[j])],[some (shD n rs),some (.lst ((bX rs (j+1)).map kD)),some (.int (j:Int)),some (rwD rs[j])],s',rfl,?_,_,_,rfl,rfl⟩;rw[lv (s1:=s') (as:=[.lst ((eI (j:Int) rs[j]).map kD)]) (ds:=(bX rs j).map kD) (ds':=(bX rs (j+1)).map kD) (r:=.non) (by rw[aD,c];rfl) rfl (by rw[w4 (by simp;ext),bX,er,qco])]
   rfl)
 have lt:=l0 hr rs.length (qai _);have ti:=gB hn hr rs.length (qai _);have r:=yC (n:=n) (d:=.lst ((bX rs rs.length).map kD)) (s:=s') rfl ti (by ext) (w5 n12 ti);rw[show 0+(dO (rs.map rwD)).length=rs.length by simp[dO]] at e;have v2:∀{x y:D} {s:Pen},(if [x,y].length<=100000 then PR.ok (D.tup [x,y]) s else .bad)=.ok (.tup [x,y]) s:=fun {x y s}=>qah (by simp);rw[oo (by rfl)];unfold eR;rw[show dSt 4 [shD n rs]=[some (shD n rs),none,none,none] from rfl,aK,kT,kJ,aO,Pb,qah (by decide),Pg];simp![qaM,qaN];rw[aK,fB,en_p,Pg];refine (congrArg (fun z:PS=>(z.then _).fin) e).trans ?_;rw[PU.aG];have ld:lend (.tup ((bH (SetT.ded ((bX rs rs.length).map mmK))).map kD))=true:=xj;simp only[dJ,iF,aD,bJ,aT,aR,fP,cG,Pb,gc,at0,Pf,xLend_p,aO,r,ld,if_true,v2,Pg,PU.kz]
def Tc(acc M:List (List Int)):Prop:=acc.Nodup/\∀k,k∈acc↔k∈M.map mmK
def xH(h:Tc acc M)(n12:n<=12)(hM:∀k∈M,IsT n k):acc.length<=66 :=
 len66 n12 (fun k hk=>by
  obtain⟨k',hk',rfl⟩:=qav.mp ((h.2 k).mp hk)
  exact qK (hM k' hk')) h.1
abbrev ttB:Xd [1]:=(xIf (xAnd (xB (ak oNe (ae 2) (ae 4))) (xB (ak (oIn true) (bv (aa (xCb mR (aa (ae 2) (aa (ae 4) xNil))) (aa (xCb mw (aa (ae 2) (aa (ae 4) xNil))) xNil))) (ae 1)))) (xMt iU 1 (aa (bv (aa (xCb mR (aa (ae 2) (aa (ae 4) xNil))) (aa (xCb mw (aa (ae 2) (aa (ae 4) xNil))) xNil))) xNil)) xSkip)
abbrev ttE(S:D)(acc:List (List Int))(i:Int)(z3 z4 z5:Option D):aq:=[some S,some (.lst (acc.map kD)),some (.int i),z3,z4,z5]
def tt_turn(h:Tc acc M)(hl:acc.length<=100):∃acc',ttB.p (ttE S acc i z3 (some (.int j)) z5) s=.nx (ttE S acc' i z3 (some (.int j)) z5) s/\Tc acc' (M++if j=i then [] else [[i,j]]):=by
 have v2:∀{x y:D} {s:Pen},(if [x,y].length<=100000 then PR.ok (D.tup [x,y]) s else .bad)=.ok (.tup [x,y]) s:=fun {x y s}=>qah (by simp);by_cases z:i=j
 ·subst z;refine⟨acc,?_,by simpa using h⟩;rw[cf];simp[PR.bl]
 ·have zj:¬j=i:=fun e=>z e.symm;have kk:D.tup [.int (if j<i then j else i),.int (if j>i then j else i)]=kD (mmK [i,j]):=rfl;have tp:∀s,(bv (aa (xCb mR (aa (ae 2) (aa (ae 4) xNil))) (aa (xCb mw (aa (ae 2) (aa (ae 4) xNil))) xNil)):Xe [1]).p (ttE S acc i z3 (some (.int j)) z5) s=.ok (kD (mmK [i,j])) s:=fun s=>by
   simp only[iF,aD,dr,aT,aR,Pb,aO,cMin_ii,cMax_ii,Pf,v2];rfl
  have ii:inD true (kD (mmK [i,j])) (.lst (acc.map kD))=some (.bl (!decide (mmK [i,j]∈acc))):=inD_key (d:=.lst (acc.map kD)) rfl;have tst:(xAnd (xB (ak oNe (ae 2) (ae 4))) (xB (ak (oIn true) (bv (aa (xCb mR (aa (ae 2) (aa (ae 4) xNil))) (aa (xCb mw (aa (ae 2) (aa (ae 4) xNil))) xNil))) (ae 1))):Xt [1]).p (ttE S acc i z3 (some (.int j)) z5) s=.ok (!decide (mmK [i,j]∈acc)) s:=by
   rw[xAnd_p,oZ,bJ];simp only[aT,aR,Pb,oNe_p,eqD_ii,decide_eq_false z,qcv,if_true,Pf,Pl,oZ,bJ,tp,oIn_p,ii]
  rw[cf,tst,Pg,qan zj];by_cases m:mmK [i,j]∈acc
  ·refine⟨acc,by simp[m],h.1,fun k=>?_⟩;rw[qco,qay,h.2 k];constructor
   ·exact .inl
   ·rintro (q|q)
    ·exact q
    ·have:k=mmK [i,j]:=by simpa using q
     subst this;exact (h.2 _).mp m
  ·refine⟨acc++[mmK [i,j]],?_,?_,fun k=>?_⟩
   ·rw[decide_eq_false m,qcv,qah rfl];rw[lv (s1:=s) (as:=[kD (mmK [i,j])]) (ds:=acc.map kD) (ds':=(acc++[mmK [i,j]]).map kD) (r:=.non) (by rw[aD,tp];rfl) rfl (by rw[pG (by simp;ext)];simp)];rfl
   ·refine qbU.mpr ⟨h.1,by simp,fun a ha b hb=>?_⟩;rw[qcc.mp hb];rintro rfl;exact m ha
   ·rw[qco,qay,qay,h.2 k];simp
def yh{i:Int}{ps:List Prt}{m:Nat}{p:Prt}(e:ps[m]?=some p):eI i (ps.take (m+1))=eI i (ps.take m)++if p.1=i then [] else [[i,p.1]]:=by
 unfold eI;rw[qbO,e,List.filter_append,qco];by_cases z:p.1=i <;> simp[z]
def tt_row{n:Int}{S:D}{acc M:List (List Int)}{i:Nat}{ps:List Prt}{z4 z5:Option D}{s:Pen}(n12:n<=12)(hi:(i:Int)<n)(hp:Rw n ps)(hM:∀k∈M,IsT n k)(h:Tc acc M):∃acc' y4 y5,(eX (bf (ae 3)) (xGp (xGc (xNm 4) (xGc (xNm 5) xGl)) 2) ttB:Xd [1]).p (ttE S acc (i:Int) (some (rwD ps)) z4 z5) s=.nx (ttE S acc' (i:Int) (some (rwD ps)) y4 y5) s/\Tc acc' (M++eI (i:Int) ps):=by
 obtain⟨env',s',e,acc',y4,y5,rfl,rfl,h'⟩:=d8 (g:=(xGp (xGc (xNm 4) (xGc (xNm 5) xGl)) 2:Xg [1]).p) (b:=ttB.p)
  (fun m env s'=>∃acc' z4 z5,env=ttE S acc' (i:Int) (some (rwD ps)) z4 z5/\s'=s/\Tc acc' (M++eI (i:Int) (ps.take m))) (ps.map prtD) 0 (ttE S acc (i:Int) (some (rwD ps)) z4 z5) s ⟨acc,z4,z5,rfl,rfl,by simpa [eI] using h⟩ (fun m env s' d ⟨acc',z4,z5,hE,hs,h'⟩ hd=>by
   subst hE;rw[show 0+m=m by ext] at h' ⊢;rw[qaw,qat] at hd;obtain⟨p,ep,rfl⟩:=hd;have la:=xH (n:=n) h' n12 fun k hk=>by
    rcases qay.mp hk with hk|hk
    ·exact hM k hk
    ·refine vp hp hi k ?_;unfold eI at hk ⊢;obtain⟨q,hq,rfl⟩:=qav.mp hk;obtain⟨h1,h2⟩:=qbw.mp hq;exact qav.mpr ⟨q,qbw.mpr ⟨List.mem_of_mem_take h1,h2⟩,rfl⟩
   obtain⟨acc2,q,h2⟩:=tt_turn (S:=S) (i:=(i:Int)) (j:=p.1) (z3:=some (rwD ps)) (z5:=some (nD p.2.1 p.2.2)) (s:=s') h' (by ext);refine⟨_,_,s',rfl,q,_,_,_,rfl,hs,?_⟩;rw[yh ep,<-qbd]
   exact h2)
 refine⟨acc',y4,y5,?_,by simpa using h'⟩;rw[fB,iA,aT,aT,aT,aR,Pb,show (rwD ps).items=some (ps.map prtD) from rfl,Pf,Pg];exact e
def yL(h:∀k∈ks,k≠[])(hl:ks.length<=66):uY.p [.lst (ks.map kD)]=some (.lst ((bH ks).map kD)):=by
 show (nz (ks.map kD)).map D.lst=_
 cases ks with
 | nil=>simp[nz,b7,fL,bH]
 | cons k ks =>
  have e1:b7 ((k::ks).map kD)=none:=rfl;unfold nz;rw[e1];dsimp only;rw[kI];dsimp only;rw[qah ⟨h,hl⟩];rfl
def xa(n12:n<=12)(hn:(rs.length:Int)=n)(hr:∀ps∈rs,Rw n ps):io.p [shD n rs] s=.ok (.lst ((bH (SetT.ded ((bX rs rs.length).map mmK))).map kD)) s:=by
 obtain⟨env',s',e,acc,z2,z3,z4,z5,rfl,rfl,h⟩:=d8 (g:=(xGp (xGc (xNm 2) (xGc (xNm 3) xGl)) 2:Xg [1]).p) (b:=(eX (bf (ae 3)) (xGp (xGc (xNm 4) (xGc (xNm 5) xGl)) 2) ttB:Xd [1]).p)
  (fun j env s'=>∃acc z2 z3 z4 z5,env=[some (shD n rs),some (.lst (acc.map kD)),z2,z3,z4,z5]/\s'=s/\Tc acc (bX rs j)) (dO (rs.map rwD)) 0 [some (shD n rs),some (.lst []),none,none,none,none] s ⟨[],none,none,none,none,rfl,rfl,.nil,by simp[bX]⟩ (fun j env s' d ⟨acc,z2,z3,z4,z5,hE,hs,h⟩ hd=>by
   subst hE;rw[show 0+j=j by ext] at h ⊢;obtain⟨hj,rfl⟩:=rZ hd;obtain⟨er,w⟩:=k6 hr hj;obtain⟨acc',y4,y5,q,h'⟩:=tt_row (S:=shD n rs) (z4:=z4) (z5:=z5) (s:=s') (i:=j) n12 (by ext) w (gB hn hr j (by ext)) h;refine⟨_,_,s',rfl,q,_,_,_,_,_,rfl,hs,?_⟩;rw[bX,er]
   exact h')
 rw[show 0+(dO (rs.map rwD)).length=rs.length by simp[dO]] at h;have la:=xH (n:=n) h n12 (gB hn hr rs.length (qai _));have pm:acc.Perm (SetT.ded ((bX rs rs.length).map mmK)):=(qcp h.1 (j6 _)).mpr fun k=>by rw[SetT.lc];exact h.2 k
 have sk:=yL (ks:=acc) (fun k hk=>by
  obtain⟨k',hk',rfl⟩:=qav.mp ((h.2 k).mp hk);obtain⟨a,b,e,_⟩:=qK (gB hn hr rs.length (qai _) k' hk')
  rw[e];simp) la
 rw[m6 pm] at sk;rw[sT (by rfl)];unfold ip;rw[show dSt 6 [shD n rs]=[some (shD n rs),none,none,none,none,none] from rfl,aK,kT,kJ,aO,Pb,qah (by decide),Pg];simp![qaM,qaN];have en:(dD iE (aa (ak oIx (ae 0) (xC (.int 1))) xNil):Xi [1]).p [some (shD n rs),some (.lst []),none,none,none,none] s'=.ok (dO (rs.map rwD)) s':=by
  rw[kB,aD,bJ,aR];simp only[Pb,fP,cG,gc,at1,Pf,aO];rfl
 rw[aK,fB,en,Pg];refine (congrArg (fun z:PS=>(z.then _).fin) e).trans ?_;rw[PU.aG];simp only[dJ,dr,aD,aT,aR,Pb,aO,sk,Pf,Pg,PU.kz]
def sm_key(h:k.length<=1000):smO (m+2) (kD k):=eN (by rw[qaB];exact h) fun x hx=>by
 obtain⟨i,_,rfl⟩:=qav.mp hx;exact iH
def post_p(n0:0<=n)(n12:n<=12)(hn:(rs.length:Int)=n)(hr:∀ps∈rs,Rw n ps):oi.p [some .pen,some (.int n),some (shD n rs),z3,z4,z5,some (shD n rs)] s=.rt (.bl true) s:=by
 have sm:=xg (n:=n) (s:=s) (rs:=rs) (by ext) hr;have ir:=is_rows (s:=s) n0 n12 hn hr;have nb:=xz (s:=s) n0 n12 hn hr
 have so:bF.p [.int n,.tup (rs.map rwD)] s=.ok (shD n rs) s:=qj n0 n12 hn hr (hs:=rs.map rwD) (by
  clear sm ir nb hn
  induction rs with
  | nil=>exact .nil
  | cons ps rs ih=>exact .cons ⟨ps.map prtD,.inr rfl,.refl _⟩ (ih fun x hx=>hr x (qae _ hx))) rfl
 have wb:=tY (s:=s) n0 n12 hn hr;have tb:=xa (s:=s) n12 hn hr;have ti:=gB hn hr rs.length (qai _);have ln:(SetT.ded ((bX rs rs.length).map mmK)).length<=66:=w5 n12 ti;have sw:cD.p [.tup [.int n,.tup ((bH (SetT.ded ((bX rs rs.length).map mmK))).map kD)],.tup [.int n,.tup ((bH (SetT.ded ((bX rs rs.length).map mmK))).map kD)]] s=.ok (.bl true) s:=by
  refine eN (k:=7) (by simp) (fun x hx=>?_) s;simp only[qak,qaW,or_false] at hx;rcases hx with rfl|rfl
  ·exact iH
  ·refine eN (k:=6) (by rw[qaB,(fF _).length_eq];ext) fun x hx=>?_;obtain⟨k,hk,rfl⟩:=qav.mp hx;obtain⟨k',hk',rfl⟩:=qav.mp ((SetT.lc k _).mp ((fF _).mem_iff.mp hk));obtain⟨a,b,e,_⟩:=qK (ti k' hk');rw[e];exact sm_key (m:=4) (by simp)
 have v2:∀{x y:D} {s:Pen},(if [x,y].length<=100000 then PR.ok (D.tup [x,y]) s else .bad)=.ok (.tup [x,y]) s:=fun {x y s}=>qah (by simp);have is1:(oIs true).p (.bl true) (.bl true)=some (.bl false):=rfl;unfold oi;rw[aK,cf];simp![xOr_p,m4,oZ,bJ,cQ,aD,aT,aR,Pb,aO,sm,Pl,qbf,qaf,if_false,ir,fP,cn_bl,cG,is1,Pf,gc,at1,so,Pg,cS];simp only[dJ,o3,cQ,aD,aT,aR,Pb,aO,nb,Pl,if_true,wb,iF,dr,tb,mn,Pf,v2,sw,Pg]
def wI(h:x∈bg lo c):∃i:Int,x=.int i/\lo<=i/\i<lo+c:=by
 unfold bg at h;obtain⟨k,hk,rfl⟩:=qav.mp h;rw[qct] at hk;exact⟨_,rfl,by ext,by ext⟩
def wz(h:(bg lo c)[i]?=some x):x=.int (lo+i)/\i<c:=by
 unfold bg at h;rw[qaw,qat] at h;obtain⟨k,hk,rfl⟩:=h
 have:=qad.mp hk
 obtain⟨a,b⟩:=this;simp at a b;subst b;exact⟨rfl,a⟩
def v5(h:(bg 0 c)[i]?=some x):x=.int (i:Int)/\i<c:=by
 have:=wz h;simpa using this
def fG:aw (aw a b) c=aw a (aw b c):=by
 funext σ h;rw[eU,eU,eU];cases a σ h <;> rfl
abbrev lpM:Mst:=eS (cW (ac (ag 1) mNil)) (gNm 5) (mIf (mB (mUn (bw ["list"]) (aj aA (ag 3) (ag 5)))) (cF (mMt b9 (aj aA (ag 3) (ag 5)) (ac (bP (ac (mC (.int 0)) (ac (bP (ac (mC (.int 1)) (ac (mC (.int 1)) mNil))) mNil))) mNil))) mSkip)
def zb:m_l_right=aw qP.m (aw lpM oi.m):=by
 show _=aw (aw _ (aw _ (aw _ (aw _ (aw _ _))))) _;rw[fG,fG,fG,fG,fG];rfl
def Hs(L a3:Nat)(c:Nat)(g:MH)(v:PV):Prop:=(∃ys,v=.tup ys)\/∃a ys,v=.loc a/\L<=a/\a≠a3/\g[a]?=some (.lst ys)/\ys.length<=12+c
structure Lp (h1:MH) (L p a3:Nat) (xs:List PV) (c:Nat) (g:MH):Prop where
 len:L<=g.length
 keep:∀m:Nat,m<L->g[m]?=h1[m]?
 at3:g[a3]?=some (.lst xs)
 hs:∀v∈xs,Hs L a3 c g v
def uy{h:MH}{n:Nat}{o o':MO}(e:h[n]?=some o'):(h.set n o)[n]?=some o:=qaE (qad.mp e).1
def lp_turn{h1 g:MH}{L p a3 c m:Nat}{xs:List PV}{x0 x1 x2 x4 x6:Option PV}(I:Lp h1 L p a3 xs c g)(hm:m<xs.length)(hc:c<=100):∃g',mIf (mB (mUn (bw ["list"]) (aj aA (ag 3) (ag 5)))) (cF (mMt b9 (aj aA (ag 3) (ag 5)) (ac (bP (ac (mC (.int 0)) (ac (bP (ac (mC (.int 1)) (ac (mC (.int 1)) mNil))) mNil))) mNil))) mSkip [x0,x1,x2,some (.loc a3),x4,some (.int (m:Int)),x6] g=.nx [x0,x1,x2,some (.loc a3),x4,some (.int (m:Int)),x6] g'/\Lp h1 L p a3 xs (c+1) g':=by
 have ix:aj aA (ag 3) (ag 5) [x0,x1,x2,some (.loc a3),x4,some (.int (m:Int)),x6] g=.ok xs[m] g:=by
  have:atI xs (m:Int)=some xs[m]:=L2.dv (by simp[hm])
  simp only[mBin_ap,mVar_s,mVar_0,Out.bind_ok,gJ I.at3,this,zp,Out.ne_ok]
 rcases I.hs xs[m] (qbN hm) with ⟨ys,e⟩|⟨a,ys,e,ha,h3,ga,la⟩
 ·refine⟨g,?_,I.len,I.keep,I.at3,fun v hv=>?_⟩
  ·have ty:bw ["list"] (.tup ys) g=.ok (.bl false) g:=rfl;rw[e] at ix;rw[xt,mB_ap,yi,ix,Out.bind_ok,ty];rfl
  ·rcases I.hs v hv with h|⟨a,ys,e1,e2,e3,e4,e5⟩
   ·exact .inl h
   ·exact .inr ⟨a,ys,e1,e2,e3,e4,by ext⟩
 ·rw[e] at ix;have ty:bw ["list"] (.loc a) g=.ok (.bl true) g:=by simp only[bw,tyP,ga];rfl
  have ap:=wm (v:=.tup [.int 0,.tup [.int 1,.int 1]]) ga (by ext);refine⟨g.set a (.lst (ys++[.tup [.int 0,.tup [.int 1,.int 1]]])),?_,by rw[List.length_set];exact I.len,fun m hm=>?_,?_,fun v hv=>?_⟩
  ·rw[xt,mB_ap,yi,ix,Out.bind_ok,ty];simp only[Out.ne_ok,Out.bind_ok,aH,if_true];rw[yM,mMt_loc ix ga];simp only[tF,mTup_ap,mC_ap,vy,Out.bind_ok,newT_2,ap,Out.ne_ok,aH,zP]
  ·rw[qam (by ext)];exact I.keep m hm
  ·rw[qam h3];exact I.at3
  ·rcases I.hs v hv with h|⟨a',zs,e1,e2,e3,e4,e5⟩
   ·exact .inl h
   ·by_cases z:a'=a
    ·subst z;rw[ga] at e4;cases e4;exact .inr ⟨a',_,e1,e2,e3,uy ga,by simp;ext⟩
    ·exact .inr ⟨a',zs,e1,e2,e3,by rw[qam (fun q=>z q.symm)];exact e4,by ext⟩
def pz:∀ps:List Prt,flats (ps.map prtD)=true
 | []=>by simp[flats]
 | p::ps=>by rw[qau,flats,pz ps];simp[prtD,flat,flats]
def qx:∀rs:List (List Prt),flats (rs.map rwD)=true
 | []=>by simp[flats]
 | ps::rs=>by rw[qau,flats,qx rs];simp[flat,pz]
def vi:flat (shD n rs)=true:=by simp[flat,flats,qx]
def seven{σ:PSt}(h:σ.length=7):∃a0 a1 a2 a3 a4 a5 a6,σ=[a0,a1,a2,a3,a4,a5,a6]:=by
 match σ,h with
 | [b0,b1,b2,b3,b4,b5,b6],_=>exact⟨b0,b1,b2,b3,b4,b5,b6,rfl⟩
def wL(pn:bS h p s):∃h',eA [.loc p] h=.ok (.bl true) h'/\∀n:Nat,n<h.length->n≠p->h'[n]?=h[n]?:=by
 have hp:p<h.length:=aW pn;obtain⟨n,rs,hs,ks,s1,q1,n0,n12,hn,hr,f2⟩:=pre_p (s:=s);have mr:∀o,o∈List.range h.length↔o<h.length:=fun o=>qct;have c0:PU.Cx p h h.length (List.range h.length) (List.range h.length) [] [some (.loc p),none,none,none,none,none,none] [some .pen,none,none,none,none,none,none] s:=by
  refine⟨fun o ho=>(mr o).mp ho,fun _ h=>h,fun o ho=>(mr o).mp ho,(mr p).mpr hp,qai _,pn,⟨rfl,fun i d e _=>?_,fun i d e hi=>by cases hi⟩⟩
  match i,e with
  | 0,e=>cases e;exact⟨_,rfl,rfl⟩
  | 1,e=>cases e
  | 2,e=>cases e
  | 3,e=>cases e
  | 4,e=>cases e
  | 5,e=>cases e
  | 6,e=>cases e
  | k+7,e=>simp at e
 have k:=qP.ok c0 fun i j hi=>by cases hi
 rw[q1] at k;obtain⟨σ1,h1,e1,O',st,cx,_⟩:=k;obtain⟨b0,b1,b2,b3,b4,b5,b6,rfl⟩:=seven cx.sr.len;obtain⟨v0,w0,r0⟩:=cx.sr.fz 0 .pen rfl (by simp);obtain⟨v1,w1,r1⟩:=cx.sr.fz 1 (.int n) rfl (by simp);obtain⟨v2,w2,r2⟩:=cx.sr.fz 2 (shD n rs) rfl (by simp);obtain⟨v3,w3,r3⟩:=cx.sr.fz 3 (.lst hs) rfl (by simp);obtain⟨v6,w6,r6⟩:=cx.sr.fz 6 (shD n rs) rfl (by simp);cases w0;cases w1;cases w2;cases w3;cases w6;have r0:v0=.loc p:=r0;have r1:v1=.int n:=r1;subst r0;subst r1;obtain⟨a3,xs,rfl,no3,g3,rx⟩:=r3;have big:∀a,a∉O'->h.length<=a:=fun a ha=>Nat.le_of_not_lt fun q=>ha (st.sub a ((mr a).mpr q));have lx:xs.length=hs.length:=rx.length;have lh:hs.length=rs.length:=by rw[rE f2,qaB]
 have hv:∀v∈xs,Hs h.length a3 0 h1 v:=fun v hv=>by
  obtain⟨i,hi,e⟩:=List.mem_iff_getElem.mp hv;have hi':i<hs.length:=by ext
  obtain⟨w,ew,rw'⟩:=rx.get (qas hi')
  have:w=v:=by
   rw[qas hi] at ew;cases ew;exact e
  subst this;obtain⟨b,hb,hh⟩:=mY f2 hs[i] (qbN hi');obtain⟨ps,hps,rfl⟩:=qav.mp hb;obtain⟨_,_,qs,ed,_,pq⟩:=qO (hr ps hps) hh;rcases ed with ed|ed
  ·rw[ed] at rw';obtain⟨a,ys,rfl,no,ga,ry⟩:=rw';refine .inr ⟨a,ys,rfl,big a no,fun z=>?_,ga,by rw[ry.length,qaB,pq.length_eq];have:=(hr ps hps).len;ext⟩;subst z;rw[g3] at ga;cases ga;have hq:i<qs.length:=by have:=ry.length;rw[qaB] at this;ext
   obtain⟨w,ew',rp⟩:=ry.get (i:=i) (d:=prtD qs[i]) (by simp[hq]);rw[ew] at ew';cases ew';obtain⟨zs,ez,_⟩:=rp;cases ez
  ·rw[ed] at rw';obtain⟨ys,rfl,_⟩:=rw';exact .inl ⟨ys,rfl⟩
 obtain⟨c,hc⟩:=kH n0;subst hc;have cn:c=rs.length:=by ext
 have it:cW (ac (ag 1) mNil) [some (.loc p),some (.int (c:Int)),some v2,some (.loc a3),b4,b5,some v6] h1=.ok ⟨bg 0 c,[]⟩ h1:=itR1 rfl (by ext);obtain⟨σ2,h2,e2,z,hσ,I2⟩:=vm (it:=⟨bg 0 c,[]⟩) (g:=gNm 5) (b:=mIf (mB (mUn (bw ["list"]) (aj aA (ag 3) (ag 5)))) (cF (mMt b9 (aj aA (ag 3) (ag 5)) (ac (bP (ac (mC (.int 0)) (ac (bP (ac (mC (.int 1)) (ac (mC (.int 1)) mNil))) mNil))) mNil))) mSkip)
  (fun j σ g=>∃z,σ=[some (.loc p),some (.int (c:Int)),some v2,some (.loc a3),b4,z,some v6]/\Lp h1 h.length p a3 xs j g) (bg 0 c) 0 [some (.loc p),some (.int (c:Int)),some v2,some (.loc a3),b4,b5,some v6] h1 ⟨b5,rfl,st.len,fun _ _=>rfl,g3,hv⟩ (fun _ _ _ _=>vq.mpr trivial) (fun m σ g x ⟨z,eσ,I⟩ hx=>by
   subst eσ;obtain⟨rfl,hm⟩:=v5 hx;rw[show 0+m=m by ext] at I ⊢;obtain⟨g',q,I'⟩:=lp_turn (m:=m) (x0:=some (.loc p)) (x1:=some (.int (c:Int))) (x2:=some v2) (x4:=b4) (x6:=some v6) I (by ext) (by ext)
   exact⟨_,_,_,g',rfl,q,_,rfl,I'⟩)
 subst hσ;have pn2:bS h2 p s1:=(I2.keep p hp).trans cx.pen;have c2:PU.Cx p h2 h.length (List.range h.length) (List.range h.length) [] [some (.loc p),some (.int (c:Int)),some v2,some (.loc a3),b4,z,some v6] [some .pen,some (.int (c:Int)),some (shD (c:Int) rs),none,none,none,some (shD (c:Int) rs)] s1:=by
  refine⟨fun o ho=>qaz ((mr o).mp ho) I2.len,fun _ h=>h,fun o ho=>(mr o).mp ho,(mr p).mpr hp,I2.len,pn2,⟨rfl,fun i d e _=>?_,fun i d e hi=>by cases hi⟩⟩
  match i,e with
  | 0,e=>cases e;exact⟨_,rfl,rfl⟩
  | 1,e=>cases e;exact⟨_,rfl,rfl⟩
  | 2,e=>cases e;exact⟨_,rfl,Rp.flat vi r2⟩
  | 3,e=>cases e
  | 4,e=>cases e
  | 5,e=>cases e
  | 6,e=>cases e;exact⟨_,rfl,Rp.flat vi r6⟩
  | k+7,e=>simp at e
 have k2:=oi.ok c2 fun i j hi=>by cases hi
 rw[post_p n0 n12 hn hr] at k2;obtain⟨v,h3,e3,_,kb,_,rv,_⟩:=k2;rw[show v=PV.bl true from rv] at e3;refine⟨h3,?_,fun m hm hne=>?_⟩
 ·unfold eA;rw[iL (by rfl),zb,show bG 7 [PV.loc p]=[some (.loc p),none,none,none,none,none,none] from rfl,eU,e1,MM.aG,eU];have el:lpM [some (.loc p),some (.int (c:Int)),some v2,some (.loc a3),b4,b5,some v6] h1=.nx [some (.loc p),some (.int (c:Int)),some v2,some (.loc a3),b4,z,some v6] h2:=by
   unfold lpM;rw[mFor_ap,it,aH];exact e2
  rw[el,MM.aG,e3];rfl
 ·rw[kb m hm hne,I2.keep m hm];exact st.base m hm hne
def uV{ns:List Int}{k:Nat}(hk:k<ns.length):atI (ns.map PV.int) (k:Int)=some (.int ns[k]):=L2.dv (by simp[hk])
def rR:opPow (.int 10) (.int 18) h=.ok (.int (10 ^ 18)) h:=tE (by decide)
def zN:opPow (.int 10) (.int 15) h=.ok (.int (10 ^ 15)) h:=tE (by decide)
def zW{h:MH}{ns:List Int}{k:Nat}(hk:k<64):∃m c:Int,gG [.frl (ns.map .int),.int k] h=.ok (.loc h.length) (h++[.lst [.int m,.int c,.int 0]]):=by
 unfold gG;have k1:∀{i:Int} {h:MH},opMul (.int 7919) (.int i) h=.ok (.int (7919 * i)) h:=gD (by decide);have k2:∀{i:Int} {h:MH},opMul (.int 48271) (.int i) h=.ok (.int (48271 * i)) h:=gD (by decide);have k3:∀{i:Int} {h:MH},opMul (.int 40009) (.int i) h=.ok (.int (40009 * i)) h:=gD (by decide);have n3:∀{a b c:PV} {h:MH},newL [a,b,c] h=.ok (.loc h.length) (h++[.lst [a,b,c]]):=vU (by simp)
 have fin:∀cell:Int,∃m c:Int,(aw (mIf (mB (aj opGe (mCB fAbs (ac (ag 2) mNil)) (aj opPow (mC (.int 10)) (mC (.int 18))))) (aI (cZ (ac (mC (.int 1)) (ac (mCB fAbs (ac (ag 2) mNil)) (ac (mC (.int 0)) mNil))))) mSkip)
   (aI (cZ (ac (mC (.int 0)) (ac (aj opAdd (aj opMod (ag 2) (mC (.int 2147483587))) (aj opMul (mC (.int 40009)) (ag 1))) (ac (mC (.int 0)) mNil)))))) [some (.frl (ns.map .int)),some (.int k),some (.int cell)] h=.rt (.loc h.length) (h++[.lst [.int m,.int c,.int 0]]):=fun cell=>by
  by_cases z:(10:Int) ^ 18<=(if cell<0 then -cell else cell)
  ·exact⟨1,(if cell<0 then -cell else cell),by simp[rR,n3,z,-Int.reducePow]⟩
  ·exact⟨0,cell.fmod 2147483587+40009 * k,by simp[rR,n3,z,k3,eT,-Int.reducePow]⟩
 have fin':∀cell:Int,∃m c:Int,((aw (mIf (mB (aj opGe (mCB fAbs (ac (ag 2) mNil)) (aj opPow (mC (.int 10)) (mC (.int 18))))) (aI (cZ (ac (mC (.int 1)) (ac (mCB fAbs (ac (ag 2) mNil)) (ac (mC (.int 0)) mNil))))) mSkip)
   (aI (cZ (ac (mC (.int 0)) (ac (aj opAdd (aj opMod (ag 2) (mC (.int 2147483587))) (aj opMul (mC (.int 40009)) (ag 1))) (ac (mC (.int 0)) mNil)))))) [some (.frl (ns.map .int)),some (.int k),some (.int cell)] h).fin=.ok (.loc h.length) (h++[.lst [.int m,.int c,.int 0]]):=fun cell=>by
  obtain⟨m,c,q⟩:=fin cell;exact⟨m,c,by rw[q];rfl⟩
 have lift:∀cell:Int,(aw (aY 2 (aj opAdd (aj opMul (mC (.int 7919)) (ag 1)) (mC (.int 11))))
 (mIf (mB (aj opLt (ag 1) (mCB fMin (ac (mCB fLen (ac (ag 0) mNil)) (ac (mC (.int 63)) mNil))))) (aY 2 (aj aA (ag 0) (ag 1))) (mIf (mB (aj opGt (mCB fLen (ac (ag 0) mNil)) (mC (.int 0)))) (aY 2 (aj opAdd (aj opMod (aj aA (ag 0) (aj opMod (ag 1) (mCB fMin (ac (mCB fLen (ac (ag 0) mNil)) (ac (mC (.int 63)) mNil))))) (aj opPow (mC (.int 10)) (mC (.int 15)))) (aj opMul (mC (.int 48271)) (ag 1)))) mSkip))) [some (.frl (ns.map .int)),some (.int k),none] h=.nx [some (.frl (ns.map .int)),some (.int k),some (.int cell)] h ->
   ∃m c:Int,aS 3 2 m_l_pen [.frl (ns.map .int),.int k] h=.ok (.loc h.length) (h++[.lst [.int m,.int c,.int 0]]):=fun cell q=>by
  obtain⟨m,c,q2⟩:=fin' cell;refine⟨m,c,(iL (by rfl)).trans ?_⟩;rw[<-q2];unfold m_l_pen;simp only[eU] at q ⊢;have e0:bG 3 [PV.frl (ns.map .int),PV.int k]=[some (.frl (ns.map .int)),some (.int k),none]:=rfl;rw[e0];generalize (aY 2 (aj opAdd (aj opMul (mC (.int 7919)) (ag 1)) (mC (.int 11)))) [some (.frl (ns.map .int)),some (.int k),none] h=o1 at q ⊢
  cases o1 with
  | nx σ1 h1 =>
   simp only[MM.aG,eU] at q ⊢;rw[q];rfl
  | _=>cases q
 have hlim:∃lim:Nat,(if (63:Int)<(ns.length:Int) then (63:Int) else (ns.length:Int))=(lim:Int)/\lim<=ns.length/\(0<ns.length->0<lim):=by
  by_cases z:(63:Int)<(ns.length:Int)
  ·exact⟨63,by rw[qah z];rfl,by ext,by ext⟩
  ·exact⟨ns.length,by rw[qan z],by ext,by ext⟩
 obtain⟨lim,el,hl1,hl2⟩:=hlim;by_cases h1:k<lim
 ·refine lift (ns[k]'(by ext)) ?_;simp[k1,el,h1,uV (show k<ns.length by ext)]
 ·by_cases h0:0<ns.length
  ·have hm0:(lim:Int)≠0:=by have:=hl2 h0;ext
   have hj:k % lim<ns.length:=qaz (Nat.mod_lt _ (hl2 h0)) hl1;have ej:(k:Int).fmod (lim:Int)=((k % lim:Nat):Int):=by rw[qbn _ (by ext)];rfl
   refine lift ((ns[k % lim]'hj).fmod (10 ^ 15)+48271 * k) ?_;have p0:((10:Int) ^ 15)≠0:=by decide
   have a1:=uV hj;rw[Int.natCast_emod] at a1;simp[k1,el,h1,h0,eT hm0,ej,a1,zN,eT p0,k2,-Int.reducePow]
  ·have h0':ns=[]:=qbK.mp (by ext);refine lift (7919 * k+11) ?_;have z:¬((k:Int)<(lim:Int)):=by ext
   simp[k1,el,z,h0]
def sD{ns:List Int}{it:MIt}{n:Nat}(hi:∀h,it.ok h):∀(xs:List PV) (m:Nat) (z:Option PV) (h:MH),(∀x∈xs,∃k:Nat,x=.int (k:Int)/\k<64)->h[n]?=some (.lst (List.replicate m (.bl true)))->m+xs.length<=100->∃h',cGo it n (gNm 0) mTrue (ao eA (ac (ao gG (ac (ag 1) (ac (ag 0) mNil))) mNil)) xs [z,some (.frl (ns.map .int))] h=.ok () h'/\h'[n]?=some (.lst (List.replicate (m+xs.length) (.bl true)))
 | [],m,z,h,hx,e,hl=>⟨h,cGo_nil (hi h),e⟩
 | x::xs,m,z,h,hx,e,hl=>by
  have hl':m+(xs.length+1)<=100:=hl;obtain⟨k,rfl,hk⟩:=hx x (by simp);obtain⟨a,b,qp⟩:=zW (h:=h) (ns:=ns) (k:=k) hk;obtain⟨h3,qr,kb⟩:=wL (h:=h++[.lst [.int a,.int b,.int 0]]) (p:=h.length) (s:=(a,b,0)) (by show (h++[MO.lst [.int a,.int b,.int 0]])[h.length]?=some (.lst [.int a,.int b,.int 0]);exact app_0);have hn:n<h.length:=(qad.mp e).1;have e3:h3[n]?=some (.lst (List.replicate m (.bl true))):=by
   rw[kb n (by simp;ext) (by ext)];exact app_l e
  obtain⟨h',q,e'⟩:=sD (ns:=ns) hi xs (m+1) (some (.int (k:Int))) (h3.set n (.lst (List.replicate m (.bl true)++[.bl true]))) (fun y hy=>hx y (qae _ hy)) (by rw[uy e3,List.replicate_succ']) (by ext);refine⟨h',?_,by rw[e',qbj,show m+1+xs.length=m+(xs.length+1) by ext]⟩;rw[cGo_yes (σ:=[z,some (.frl (ns.map .int))]) (σ1:=[some (.int (k:Int)),some (.frl (ns.map .int))]) (h1:=h) (h2:=h) (v:=.bl true) (h3:=h3) (ys:=List.replicate m (.bl true)) (hi h) rfl rfl (by simp -implicitDefEqProofs [qp,qr]) e3 (by simp;ext)];exact q
def law_true(ns:List Int)(hn:ns.length<=63):∃h',f_law [.frl (ns.map .int)] []=.ok (.bl true) h':=by
 unfold f_law;rw[iL (by rfl)];unfold m_law;obtain⟨c,hc,ec⟩:∃c:Nat,c<=63/\(ac (mCB fMax (ac (mC (.int 1)) (ac (mCB fMin (ac (mCB fLen (ac (ag 0) mNil)) (ac (mC (.int 16)) mNil))) mNil))) mNil) [some (.frl (ns.map .int))] []=.ok [.int (c:Int)] []:=by
  have e:(ac (mCB fMax (ac (mC (.int 1)) (ac (mCB fMin (ac (mCB fLen (ac (ag 0) mNil)) (ac (mC (.int 16)) mNil))) mNil))) mNil) [some (.frl (ns.map .int))] []=.ok [.int (if (if (16:Int)<(ns.length:Int) then 16 else (ns.length:Int))>1 then (if (16:Int)<(ns.length:Int) then 16 else (ns.length:Int)) else 1)] []:=by
   simp -implicitDefEqProofs
  have hi:0<=(if (if (16:Int)<(ns.length:Int) then 16 else (ns.length:Int))>1 then (if (16:Int)<(ns.length:Int) then 16 else (ns.length:Int)) else 1)/\(if (if (16:Int)<(ns.length:Int) then 16 else (ns.length:Int))>1 then (if (16:Int)<(ns.length:Int) then 16 else (ns.length:Int)) else 1)<=63:=by
   constructor <;> (repeat' split) <;> ext
  generalize (if (if (16:Int)<(ns.length:Int) then 16 else (ns.length:Int))>1 then (if (16:Int)<(ns.length:Int) then 16 else (ns.length:Int)) else 1)=i at e hi;obtain⟨c,rfl⟩:=kH hi.1;exact⟨c,by ext,e⟩
 have it:=itR1 ec (by ext)
 obtain⟨h7,q7,e7⟩:=sD (ns:=ns) (it:=⟨bg 0 c,[]⟩) (n:=0) (fun _=>vq.mpr trivial) (bg 0 c) 0 none [.lst []] (fun x hx=>by
  obtain⟨i,rfl,h0,hi⟩:=wI hx;obtain⟨k,rfl⟩:=kH h0
  exact⟨k,rfl,by ext⟩) rfl (by rw[MM.nR];ext)
 have cm:bz 1 [0] (cW (ac (mCB fMax (ac (mC (.int 1)) (ac (mCB fMin (ac (mCB fLen (ac (ag 0) mNil)) (ac (mC (.int 16)) mNil))) mNil))) mNil)) (gNm 0) mTrue (ao eA (ac (ao gG (ac (ag 1) (ac (ag 0) mNil))) mNil)) [some (.frl (ns.map .int))] []=.ok (.loc 0) h7:=by
  rw[Ab,it,Out.bind_ok];refine (congrArg (fun o:Out Unit=>o.bind _) q7).trans ?_;rfl
 have al:=xx e7;refine⟨h7,?_⟩;rw[show bG 1 [PV.frl (ns.map .int)]=[some (.frl (ns.map .int))] from rfl,mRet_ap,mCB_ap,tF,cm,Out.bind_ok,vy,Out.bind_ok,Out.bind_ok,al];rfl
end Law
namespace Law
open PySem PySem.Spec PyProof.Rows L2 MM
set_option maxHeartbeats 4000000
def top(i:Nat):Stmt:=PySem.Challenge.pw_fewfills_k27_sheets_made.main.body.getD i (.Pass ⟨0,0,0,0⟩)
structure Cl (K:qac) (mg:MGl):Prop where
 r_NoPlace:∃C,ExcK K mg "NoPlace" C
 r_NoSheet:∃C,ExcK K mg "NoSheet" C
def ClK(K:qac):Prop:=∀(mg:MGl) (base:Heap),K.In base->base.Ns mainGlobals mg->Cl K mg
def clK_mk{K:qac}{C_NoPlace:Addr}{C_NoSheet:Addr}
  (a_NoPlace:PySem.W.nsIn K mainGlobals "NoPlace"=some (some (.ref C_NoPlace)))
  (a_NoSheet:PySem.W.nsIn K mainGlobals "NoSheet"=some (some (.ref C_NoSheet)))
  (e_NoPlace:PySem.W.excIn K C_NoPlace bmVE "ValueError.__new__"=true)
  (e_NoSheet:PySem.W.excIn K C_NoSheet bmVE "ValueError.__new__"=true)
  (ga_NoPlace:PySem.W.findIn K (.ref C_NoPlace) "__getattribute__"=some (some (.builtin "BaseException.__getattribute__")))
  (cl_NoPlace:PySem.W.findIn K (.ref C_NoPlace) "__class__"=some (some (.builtin "object.__class__")))
  (gt_NoPlace:PySem.W.findIn K (.ref C_NoPlace) "__getattr__"=some none)
  (mo_NoPlace:PySem.W.mroIn K C_NoPlace (.type "object")=some true)
  (mb_NoPlace:PySem.W.mroIn K C_NoPlace (.type "BaseException")=some true)
  (ga_NoSheet:PySem.W.findIn K (.ref C_NoSheet) "__getattribute__"=some (some (.builtin "BaseException.__getattribute__")))
  (cl_NoSheet:PySem.W.findIn K (.ref C_NoSheet) "__class__"=some (some (.builtin "object.__class__")))
  (gt_NoSheet:PySem.W.findIn K (.ref C_NoSheet) "__getattr__"=some none)
  (mo_NoSheet:PySem.W.mroIn K C_NoSheet (.type "object")=some true)
  (mb_NoSheet:PySem.W.mroIn K C_NoSheet (.type "BaseException")=some true)
   :ClK K:=fun mg base kin ns=>by
 have g_NoPlace:=PySem.W.mg_of kin ns a_NoPlace;have g_NoSheet:=PySem.W.mg_of kin ns a_NoSheet;exact⟨⟨_,g_NoPlace,e_NoPlace⟩,⟨_,g_NoSheet,e_NoSheet⟩⟩
abbrev gh:Stmt:=top 6
abbrev nK:List Str:=["thing"]
abbrev nF:List Str:=["isinstance","int","bool"]
abbrev gw:List Str:=["thing"]
def vQ(hsc:Sc X gh)(g:Gd X nK nF k)(dc:DefCx X)(n6:Nn X "isinstance")(n2:Nn X "bool")(n5:Nn X "int"):MSs X (aC gh) m_is_whole :=
 (MS2.h (m1n (r_1 (e_1 (bU (dH g (i:=0) (j:=1) rfl n6 rfl n5 xy vx (kV g 0)) (cY (xm (dH g (i:=0) (j:=2) rfl n6 rfl n2 vf rP (kV g 0)))))))))
abbrev ie:Stmt:=top 7
abbrev qt:List Str:=["thing"]
abbrev pR:List Str:=["isinstance","tuple","len"]
abbrev ic:List Str:=["thing"]
def yc(hsc:Sc X ie)(g:Gd X qt pR k)(dc:DefCx X)(n7:Nn X "len")(n6:Nn X "isinstance")(n14:Nn X "tuple"):MSs X (aC ie) m_is_pair :=
 (MS2.h (m1n (r_1 (e_1 (bU (dH g (i:=0) (j:=1) rfl n6 rfl n14 bi da (kV g 0)) (cY (kCm (cX g.room) (kCb g 2 db n7 df (af (kV g 0) ah)) ai)))))))
abbrev cr:Stmt:=top 8
abbrev fY:List Str:=["a","b","rest"]
abbrev fW:List Str:=[]
abbrev fT:List Str:=["a","b"]
def lA(hsc:Sc X cr)(g:Gd X fY fW k)(dc:DefCx X):MSs X (aC cr) m_greatest_shared :=
 (MS2.h (m1c (s_1 (rC g (kTc (hG g.room) (kV g 1) ai) (MS2.h (m1c (a_1 g 2 (e_1 (au cu (kV g 0) (kV g 1))))
 (m1c (a_1 g 0 (e_1 (kV g 1)))
 (m1n (a_1 g 1 (e_1 (kV g 2)))))))))
 (m1n (r_1 (e_1 (kV g 0))))))
abbrev fe:Stmt:=top 9
abbrev lG:List Str:=["thing"]
abbrev lI:List Str:=["is_pair","is_whole","greatest_shared","abs"]
abbrev lU:List Str:=["thing"]
def t8(hsc:Sc X fe)(g:Gd X lG lI k)(dc:DefCx X)(c2:Cal X "greatest_shared" fT fS k)(c0:Cal X "is_whole" gw cB k)(c1:Cal X "is_pair" ic d9 k)(n0:Nn X "abs"):MSs X (aC fe) m_is_number :=
 (MS2.h (m1c (s_1 (bn (MW.mt (fw (bI (bq (kCa g 0 c1 (af (kV g 0) ah)))) (fw (bI (bq (kCa g 1 c0 (af (kIx (kV g 0) ai) ah)))) (gZ (bI (bq (kCa g 1 c0 (af (kIx (kV g 0) ai) ah)))))))) (MS2.h (m1n (r_1 (e_1 gp)))) aU))
 (m1n (r_1 (e_1 (bU (kCm oj_ge (kIx (kV g 0) ai) ai) (cY (kCm (cX g.room) (kCa g 2 c2 (af (kCb g 3 kA n0 kj (af (kIx (kV g 0) ai) ah)) (af (kIx (kV g 0) ai) ah))) ai))))))))
abbrev gr:Stmt:=top 12
abbrev nc:List Str:=["thing"]
abbrev nh:List Str:=["is_whole","MOST_PLACES"]
abbrev jk:List Str:=["thing"]
def wA(hsc:Sc X gr)(g:Gd X nc nh k)(dc:DefCx X)(c0:Cal X "is_whole" gw cB k)(v_MOST_PLACES:∃t,X.mg "MOST_PLACES"=some (.int 12 t)):MSs X (aC gr) m_is_count :=
 (MS2.h (m1n (r_1 (e_1 (bU (kCa g 0 c0 (af (kV g 0) ah)) (cY (tH wJ wJ ai (kV g 0) (me_glI g (j:=1) rfl v_MOST_PLACES))))))))
abbrev gn:Stmt:=top 13
abbrev oE:List Str:=["n","thing"]
abbrev oq:List Str:=["is_whole"]
abbrev i8:List Str:=["n","thing"]
def wl(hsc:Sc X gn)(g:Gd X oE oq k)(dc:DefCx X)(c0:Cal X "is_whole" gw cB k):MSs X (aC gn) m_is_place :=
 (MS2.h (m1n (r_1 (e_1 (bU (kCa g 0 c0 (af (kV g 1) ah)) (cY (tH wJ wE ai (kV g 1) (kV g 0))))))))
abbrev dS:Stmt:=top 14
abbrev jM:List Str:=["n","thing"]
abbrev jP:List Str:=["is_place","NoPlace"]
abbrev jL:List Str:=["n","thing"]
def qI(hsc:Sc X dS)(g:Gd X jM jP k)(dc:DefCx X)(c5:Cal X "is_place" i8 gv k)(cl:Cl X.K X.mg):MSs X (aC dS) m_check_place :=
 (MS2.h (m1n (s_1 (bn (bI (bq (kCa g 0 c5 (af (kV g 0) (af (kV g 1) ah))))) (MS2.h (m1n (s_1 (hJ g (j:=1) rfl cl.r_NoPlace (af oA ah))))) aU))))
abbrev dQ:Stmt:=top 15
abbrev jO:List Str:=["pairs"]
abbrev jN:List Str:=["tuple","sorted","set"]
abbrev jK:List Str:=["pairs"]
def qD(hsc:Sc X dQ)(g:Gd X jO jN k)(dc:DefCx X)(n13:Nn X "sorted")(n12:Nn X "set")(n9:Nn X "max")(n10:Nn X "min")(n14:Nn X "tuple"):MSs X (aC dQ) m_rising_once :=
 (MS2.h (m1n (r_1 (e_1 (kCt g 0 dj n14 bi (af (sL g (i:=1) (j:=2) rfl n13 rfl n12 (af (kCp g hsc ["pair"] [] ["min","max"] [] (cc (kV g 0)) fun Y y g=>⟨(kNm g 0),cR,(ME1.h (t_1 (av (e_1 (kCb g 0 (cj_minS g) (y.n n10) iT (af (kV g 0) ah))) (av (e_1 (kCb g 1 (cj_maxS g) (y.n n9) mU (af (kV g 0) ah))) bt))))⟩) ah)) ah))))))
abbrev g6:Stmt:=top 17
abbrev pM:List Str:=["n","thing"]
abbrev pT:List Str:=["is_pair","is_place","is_number","NOUGHT"]
abbrev pB:List Str:=["n","thing"]
def xA(hsc:Sc X g6)(g:Gd X pM pT k)(dc:DefCx X)(c3:Cal X "is_number" lU lD k)(c5:Cal X "is_place" i8 gv k)(c1:Cal X "is_pair" ic d9 k)(v_NOUGHT:TupG X.K X.mg "NOUGHT" 0 1):MSs X (aC g6) m_is_part :=
 (MS2.h (m1n (r_1 (e_1 (bU (kCa g 0 c1 (af (kV g 1) ah)) (bU (kCa g 1 c5 (af (kV g 0) (af (kIx (kV g 1) ai) ah))) (bU (kCa g 2 c3 (af (kIx (kV g 1) ai) ah)) (cY (kCm (hG g.room) (kIx (kV g 1) ai) (yw g (q:=3) rfl v_NOUGHT))))))))))
abbrev fh:Stmt:=top 18
abbrev lV:List Str:=["n","things"]
abbrev lQ:List Str:=["all","len","set"]
abbrev im:List Str:=["n","things"]
def uv(hsc:Sc X fh)(g:Gd X lV lQ k)(dc:DefCx X)(c8:Cal X "is_part" pB pK k)(n7:Nn X "len")(n12:Nn X "set")(n1:Nn X "all"):MSs X (aC fh) m_are_parts :=
 (MS2.h (m1c (s_1 (bn (bI (bq (kCb g 0 (nC g) n1 ot (af (kCp g hsc ["thing"] ["n"] ["is_part"] [0] (cc (kV g 1)) fun Y y g=>⟨(kNm g 0),cR,(kCa g 0 (y.c c8) (af (kV g 1) (af (kV g 0) ah)))⟩) ah)))) (MS2.h (m1n (r_1 (e_1 gp)))) aU))
 (m1n (r_1 (e_1 (kCm (cX g.room) (yp g 1 2 n7 n12 (af (kCp g hsc ["part"] [] [] [] (cc (kV g 1)) fun Y y g=>⟨(kNm g 0),cR,(kIx (kV g 0) ai)⟩) ah)) (kCb g 1 db n7 df (af (kV g 1) ah))))))))
abbrev jz:Stmt:=top 19
abbrev qZ:List Str:=["n","thing"]
abbrev rM:List Str:=["isinstance","tuple","are_parts","list","sorted"]
abbrev rY:List Str:=["n","thing"]
def yJ(hsc:Sc X jz)(g:Gd X qZ rM k)(dc:DefCx X)(c9:Cal X "are_parts" im fu k)(n8:Nn X "list")(n13:Nn X "sorted")(n6:Nn X "isinstance")(n14:Nn X "tuple"):MSs X (aC jz) m_is_row :=
 (MS2.h (m1n (r_1 (e_1 (bU (dH g (i:=0) (j:=1) rfl n6 rfl n14 bi da (kV g 1)) (bU (kCa g 2 c9 (af (kV g 0) (af (kV g 1) ah))) (cY (kCm (cX g.room) (kCt g 3 pj n8 cP (af (kV g 1) ah)) (kCb g 4 tT n13 kE (af (kV g 1) ah))))))))))
abbrev f6:Stmt:=top 20
abbrev nI:List Str:=["n","rows","row"]
abbrev mV:List Str:=["is_count","NoSheet","isinstance","list","tuple","len","are_parts"]
abbrev nM:List Str:=["n","rows"]
def wo(hsc:Sc X f6)(g:Gd X nI mV k)(dc:DefCx X)(c9:Cal X "are_parts" im fu k)(c4:Cal X "is_count" jk gu k)(n13:Nn X "sorted")(n14:Nn X "tuple")(n6:Nn X "isinstance")(n8:Nn X "list")(n7:Nn X "len")(cl:Cl X.K X.mg):MSs X (aC f6) m_sheet_of :=
 (MS2.h (m1c (s_1 (bn (bI (bq (kCa g 0 c4 (af (kV g 0) ah)))) (MS2.h (m1n (s_1 (hJ g (j:=1) rfl cl.r_NoSheet (af oA ah))))) aU))
 (m1c (s_1 (bn (MW.mt (fw (bI (bq (ll g (i:=2) (j:=3) (j':=4) rfl n6 rfl n8 cP dX rfl n14 bi da (kV g 1)))) (gZ (kTc (hG g.room) (kCb g 5 db n7 df (af (kV g 1) ah)) (kV g 0))))) (MS2.h (m1n (s_1 (hJ g (j:=1) rfl cl.r_NoSheet (af oA ah))))) aU))
 (m1c (s_1 (eB g (cc (kV g 1)) (kNm g 2) (MS2.h (m1n (s_1 (bn (MW.mt (fw (bI (bq (ll g (i:=2) (j:=3) (j':=4) rfl n6 rfl n8 cP dX rfl n14 bi da (kV g 2)))) (gZ (bI (bq (kCa g 6 c9 (af (kV g 0) (af (kV g 2) ah)))))))) (MS2.h (m1n (s_1 (hJ g (j:=1) rfl cl.r_NoSheet (af oA ah))))) aU))))))
 (m1n (r_1 (t_1 (av (e_1 (kV g 0)) (av (e_1 (kCt g 4 dj n14 bi (af (kCp g hsc ["row"] [] ["tuple","sorted"] [] (cc (kV g 1)) fun Y y g=>⟨(kNm g 0),cR,(kCt g 0 dj (y.n n14) bi (af (kCb g 1 tT (y.n n13) kE (af (kV g 0) ah)) ah))⟩) ah))) bt)))))))))
abbrev gi:Stmt:=top 21
abbrev om:List Str:=["thing"]
abbrev nZ:List Str:=["is_pair","is_count","isinstance","tuple","len","all"]
abbrev nS:List Str:=["thing"]
def vP(hsc:Sc X gi)(g:Gd X om nZ k)(dc:DefCx X)(c10:Cal X "is_row" rY sE k)(c4:Cal X "is_count" jk gu k)(c1:Cal X "is_pair" ic d9 k)(n1:Nn X "all")(n7:Nn X "len")(n6:Nn X "isinstance")(n14:Nn X "tuple"):MSs X (aC gi) m_is_sheet :=
 (MS2.h (m1c (s_1 (bn (MW.mt (fw (bI (bq (kCa g 0 c1 (af (kV g 0) ah)))) (fw (bI (bq (kCa g 1 c4 (af (kIx (kV g 0) ai) ah)))) (gZ (bI (bq (dH g (i:=2) (j:=3) rfl n6 rfl n14 bi da (kIx (kV g 0) ai)))))))) (MS2.h (m1n (r_1 (e_1 gp)))) aU))
 (m1n (r_1 (e_1 (bU (kCm (cX g.room) (kCb g 4 db n7 df (af (kIx (kV g 0) ai) ah)) (kIx (kV g 0) ai)) (cY (kCb g 5 (nC g) n1 ot (af (kCp g hsc ["row"] ["thing"] ["is_row"] [0] (cc (kIx (kV g 0) ai)) fun Y y g=>⟨(kNm g 0),cR,(kCa g 0 (y.c c10) (af (kIx (kV g 1) ai) (af (kV g 0) ah)))⟩) ah)))))))))
abbrev fv:Stmt:=top 22
abbrev lP:List Str:=["sheet","i","j"]
abbrev lT:List Str:=["check_place","dict","NOUGHT"]
abbrev lH:List Str:=["sheet","i","j"]
def t9(hsc:Sc X fv)(g:Gd X lP lT k)(dc:DefCx X)(c6:Cal X "check_place" jL fR k)(n3:Nn X "dict")(v_NOUGHT:TupG X.K X.mg "NOUGHT" 0 1):MSs X (aC fv) m_number_at :=
 (MS2.h (m1c (s_1 (eO (kCa g 0 c6 (af (kIx (kV g 0) ai) (af (kV g 1) ah)))))
 (m1c (s_1 (eO (kCa g 0 c6 (af (kIx (kV g 0) ai) (af (kV g 2) ah)))))
 (m1n (r_1 (e_1 (me_dget g (j:=1) rfl n3 (kIx (kIx (kV g 0) ai) (kV g 1)) (af (kV g 2) (af (yw g (q:=2) rfl v_NOUGHT) ah)))))))))
abbrev dn:Stmt:=top 23
abbrev iS:List Str:=["sheet","ties","i","row"]
abbrev iK:List Str:=["enumerate","rising_once"]
abbrev iR:List Str:=["sheet"]
def pc(hsc:Sc X dn)(g:Gd X iS iK k)(dc:DefCx X)(c7:Cal X "rising_once" jK jS k)(n4:Nn X "enumerate"):MSs X (aC dn) m_web_of_sheet :=
 (MS2.h (m1c (a_1 g 1 (e_1 (kf ah)))
 (m1c (s_1 (eB g (kEn g 0 n4 (af (kIx (kV g 0) ai) ah)) (gR g (bu (kNm g 2) (bu (kNm g 3) eV))) (MS2.h (m1n (s_1 (eO (nX wV xX wY (kV g 1) (af (kCp g hsc ["j","number"] ["i"] [] [2] (cc (kV g 3)) fun Y y g=>⟨(gR g (bu (kNm g 0) (bu (kNm g 1) eV))),(lm (kTc (hG g.room) (kV g 0) (kV g 2))),(ME1.h (t_1 (av (e_1 (kV g 2)) (av (e_1 (kV g 0)) bt))))⟩) ah))))))))
 (m1n (r_1 (t_1 (av (e_1 (kIx (kV g 0) ai)) (av (e_1 (kCa g 1 c7 (af (kV g 1) ah))) bt))))))))
abbrev lu:Stmt:=top 25
abbrev uP:List Str:=["_law_script","_law_k","_law_cell"]
abbrev va:List Str:=["min","len","abs"]
abbrev vg:List Str:=["_law_script","_law_k"]
def b_l_pen(hsc:Sc X lu)(g:Gd X uP va k)(dc:DefCx X)(n0:Nn X "abs")(n7:Nn X "len")(n10:Nn X "min"):MSs X (aC lu) m_l_pen :=
 (MS2.h (m1c (a_1 g 2 (e_1 (au bW (au fD ai (kV g 1)) ai)))
 (m1c (s_1 (bn (kTc wE (kV g 1) (kCb g 0 (j0 g) n10 iT (af (kCb g 1 db n7 df (af (kV g 0) ah)) (af ai ah)))) (MS2.h (m1n (a_1 g 2 (e_1 (kIx (kV g 0) (kV g 1)))))) (MS2.h (m1n (s_1 (bn (kTc oj_gt (kCb g 1 db n7 df (af (kV g 0) ah)) ai) (MS2.h (m1n (a_1 g 2 (e_1 (au bW (au cu (kIx (kV g 0) (au cu (kV g 1) (kCb g 0 (j0 g) n10 iT (af (kCb g 1 db n7 df (af (kV g 0) ah)) (af ai ah))))) (au kC ai ai)) (au fD ai (kV g 1))))))) aU))))))
 (m1c (s_1 (bn (kTc oj_ge (kCb g 2 kA n0 kj (af (kV g 2) ah)) (au kC ai ai)) (MS2.h (m1n (r_1 (l_1 (av (e_1 ai) (av (e_1 (kCb g 2 kA n0 kj (af (kV g 2) ah))) (av (e_1 ai) bt))))))) aU))
 (m1n (r_1 (l_1 (av (e_1 ai) (av (e_1 (au bW (au cu (kV g 2) ai) (au fD ai (kV g 1)))) (av (e_1 ai) bt))))))))))
abbrev jt:Stmt:=top 26
abbrev rH:List Str:=["_law_pen_here","_law_size","_law_number_here","_law_drawn"]
abbrev sV:List Str:=[]
abbrev eW:List Str:=["_law_pen_here","_law_size"]
def zH(hsc:Sc X jt)(g:Gd X rH sV k)(dc:DefCx X):MSs X (aC jt) m_l_draw :=
 (MS2.h (m1c (s_1 (yo (au bW (kIx (kV g 0) ai) ai) (xW (kV g 0) ai)))
 (m1c (s_1 (bn (kTc (cX g.room) (kIx (kV g 0) ai) ai) (MS2.h (m1c (a_1 g 3 (e_1 (au cu (kIx (kV g 0) ai) (kV g 1))))
 (m1c (s_1 (yo (au qN (kIx (kV g 0) ai) (kV g 1)) (xW (kV g 0) ai)))
 (m1n (r_1 (e_1 (kV g 3))))))) aU))
 (m1c (a_1 g 2 (e_1 (au cu (au fD (au bW (au bW (kIx (kV g 0) ai) (au fD ai (kIx (kV g 0) ai))) ai) ai) ai)))
 (m1c (a_1 g 2 (e_1 (au cu (au fD (kV g 2) (au bW (au bW (au cu (kV g 2) ai) (kIx (kV g 0) ai)) ai)) ai)))
 (m1n (r_1 (e_1 (au cu (au qN (au cu (au fD (kV g 2) (au bW (au cu (kV g 2) ai) ai)) ai) ai) (kV g 1))))))))))
abbrev gz:Stmt:=top 27
abbrev nB:List Str:=["_law_top","_law_bottom","_law_one","_law_other"]
abbrev nU:List Str:=["abs"]
abbrev nE:List Str:=["_law_top","_law_bottom"]
def vK(hsc:Sc X gz)(g:Gd X nB nU k)(dc:DefCx X)(n0:Nn X "abs"):MSs X (aC gz) m_l_lowest :=
 (MS2.h (m1c (s_1 (xf g 2 3 rfl rfl (by decide) (af (kCb g 0 kA n0 kj (af (kV g 0) ah)) (af (kCb g 0 kA n0 kj (af (kV g 1) ah)) ah)) (by rw[hsc];rfl) (by rw[hsc];rfl) (by revert hsc;unfold Sc;generalize X.env=env;intro h;cases env;cases h;rfl)))
 (m1c (s_1 (rC g (kTc oj_gt (kV g 3) ai) (MS2.h (m1n (s_1 (xf g 2 3 rfl rfl (by decide) (af (kV g 3) (af (au cu (kV g 2) (kV g 3)) ah)) (by rw[hsc];rfl) (by rw[hsc];rfl) (by revert hsc;unfold Sc;generalize X.env=env;intro h;cases env;cases h;rfl)))))))
 (m1c (s_1 (bn (kTc wE (kV g 1) ai) (MS2.h (m1n (a_1 g 2 (e_1 (me_un uj_neg (kV g 2)))))) aU))
 (m1n (r_1 (t_1 (av (e_1 (au qN (kV g 0) (kV g 2))) (av (e_1 (au qN (kV g 1) (kV g 2))) bt)))))))))
abbrev gO:Stmt:=top 28
abbrev mE:List Str:=["_law_found","_law_due"]
abbrev mf:List Str:=["isinstance","list","tuple","len","all","zip","int","bool"]
abbrev ju:List Str:=["_law_found","_law_due"]
def yP(hsc:Sc X gO)(g:Gd X mE mf k)(dc:DefCx X)(c18:Cal X "_law_same" ju F k)(n6:Nn X "isinstance")(n2:Nn X "bool")(n5:Nn X "int")(n8:Nn X "list")(n14:Nn X "tuple")(n15:Nn X "zip")(n1:Nn X "all")(n7:Nn X "len"):MSs X (aC gO) (ml F) :=
 (MS2.h (m1c (s_1 (bn (kTc oj_is (kV g 1) ye) (MS2.h (m1n (r_1 (e_1 (kCm oj_is (kV g 0) ye))))) aU))
 (m1c (s_1 (bn (bq (ll g (i:=0) (j:=1) (j':=2) rfl n6 rfl n8 cP dX rfl n14 bi da (kV g 1))) (MS2.h (m1c (s_1 (bn (MW.mt (fw (bI (bq (ll g (i:=0) (j:=1) (j':=2) rfl n6 rfl n8 cP dX rfl n14 bi da (kV g 0)))) (gZ (kTc (hG g.room) (dH g (i:=0) (j:=1) rfl n6 rfl n8 cP dX (kV g 0)) (dH g (i:=0) (j:=1) rfl n6 rfl n8 cP dX (kV g 1)))))) (MS2.h (m1n (r_1 (e_1 gp)))) aU))
 (m1n (r_1 (e_1 (bU (kCm (cX g.room) (kCb g 3 db n7 df (af (kV g 0) ah)) (kCb g 3 db n7 df (af (kV g 1) ah))) (cY (kCb g 4 (nC g) n1 ot (af (kCp g hsc ["_law_one","_law_other"] [] ["_law_same"] [] (mi_zip g (j:=5) rfl n15 (af (kV g 0) (af (kV g 1) ah))) fun Y y g=>⟨(gR g (bu (kNm g 0) (bu (kNm g 1) eV))),cR,(kCa g 0 (y.c c18) (af (kV g 0) (af (kV g 1) ah)))⟩) ah))))))))) aU))
 (m1n (r_1 (e_1 (bU (dH g (i:=0) (j:=6) rfl n6 rfl n5 xy vx (kV g 0)) (bU (xm (dH g (i:=0) (j:=7) rfl n6 rfl n2 vf rP (kV g 0))) (cY (kCm (cX g.room) (kV g 0) (kV g 1)))))))))))
def qm{K:qac}{k:Nat}(b:Ba P w K mg base)(D:DefAt K "_law_same" gO)(z6:Zn K "isinstance")(z2:Zn K "bool")(z5:Zn K "int")(z8:Zn K "list")(z14:Zn K "tuple")(z15:Zn K "zip")(z1:Zn K "all")(z7:Zn K "len"):∀n:Nat,FnAt P w K mg base "_law_same" ju (jD n) (k+n+1)
 | 0=>fnN (N:=mE) (G:=mf) (m:=fun _ _=>.bad) b D fun X e h g d=>mss_bad
 | n+1=>fnN (N:=mE) (G:=mf) (k:=k+n+1) (m:=ml (jD n)) b D fun X e h g d=>yP h g d ((qm b D z6 z2 z5 z8 z14 z15 z1 z7 n).c e (qai _)) (e.n z6) (e.n z2) (e.n z5) (e.n z8) (e.n z14) (e.n z15) (e.n z1) (e.n z7)
abbrev gm:Stmt:=top 29
abbrev nL:List Str:=["_law_pen_here","_law_way"]
abbrev oz:List Str:=["_law_draw","_law_lowest"]
abbrev oC:List Str:=["_law_pen_here"]
def vW(hsc:Sc X gm)(g:Gd X nL oz k)(dc:DefCx X)(c16:Cal X "_law_draw" eW aP k)(c17:Cal X "_law_lowest" nE jd k):MSs X (aC gm) m_l_number :=
 (MS2.h (m1c (a_1 g 1 (e_1 (kCa g 0 c16 (af (kV g 0) (af ai ah)))))
 (m1c (s_1 (bn (kTc (cX g.room) (kV g 1) ai) (MS2.h (m1n (r_1 (e_1 (kCa g 1 c17 (af (au bW (au nt (kCa g 0 c16 (af (kV g 0) (af (au nt (au fD ai (au kC ai ai)) ai) ah))) (au kC ai ai)) ai) (af (au bW ai (kCa g 0 c16 (af (kV g 0) (af (au nt (au kC ai ai) ai) ah)))) ah))))))) aU))
 (m1n (r_1 (e_1 (kCa g 1 c17 (af (au nt (kCa g 0 c16 (af (kV g 0) (af ai ah))) ai) (af (au bW ai (kCa g 0 c16 (af (kV g 0) (af (kIx (ME1.h (l_1 (av (e_1 ai) (av (e_1 ai) (av (e_1 ai) bt))))) (au cu (kV g 1) ai)) ah)))) ah)))))))))
abbrev i4:Stmt:=top 30
abbrev tR:List Str:=["_law_pen_here"]
abbrev tS:List Str:=["_law_draw"]
abbrev sW:List Str:=["_law_pen_here"]
def yV(hsc:Sc X i4)(g:Gd X tR tS k)(dc:DefCx X)(c16:Cal X "_law_draw" eW aP k):MSs X (aC i4) m_l_many :=
 (MS2.h (m1c (s_1 (bn (kTc (cX g.room) (kCa g 0 c16 (af (kV g 0) (af ai ah))) ai) (MS2.h (m1n (r_1 (e_1 ai)))) aU))
 (m1n (r_1 (i_1 (l_1 (av (e_1 ai) (av (e_1 ai) (av (e_1 ai) (av (e_1 ai) (av (e_1 ai) (av (e_1 ai) (av (e_1 ai) (av (e_1 ai) bt))))))))) (e_1 (kCa g 0 c16 (af (kV g 0) (af ai ah)))))))))
abbrev jw:Stmt:=top 31
abbrev tI:List Str:=["_law_pen_here","_law_n","_law_some","_law_rows_here","_law_i","_law_row"]
abbrev sY:List Str:=["_law_draw","range","tuple"]
abbrev tV:List Str:=["_law_pen_here","_law_n"]
def y7(hsc:Sc X jw)(g:Gd X tI sY k)(dc:DefCx X)(c16:Cal X "_law_draw" eW aP k)(c19:Cal X "_law_number" oC oj k)(n14:Nn X "tuple")(n11:Nn X "range"):MSs X (aC jw) m_l_rows :=
 (MS2.h (m1c (a_1 g 2 (e_1 (au bW ai (kCa g 0 c16 (af (kV g 0) (af ai ah))))))
 (m1c (a_1 g 3 (e_1 (kf ah)))
 (m1c (s_1 (eB g (kR1 g 1 n11 (af (kV g 1) ah)) (kNm g 4) (MS2.h (m1c (s_1 (kSc g hsc 5 ["_law_j"] ["_law_pen_here","_law_some"] ["_law_number","_law_draw"] [0,2] (kR1 g 1 n11 (af (kV g 1) ah)) fun Y y g=>⟨(kNm g 0),(lm (kTc (cX g.room) (kCa g 1 (y.c c16) (af (kV g 1) (af (kV g 2) ah))) ai)),(ME1.h (t_1 (av (e_1 (kV g 0)) (av (e_1 (kCa g 0 (y.c c19) (af (kV g 1) ah))) bt))))⟩))
 (m1n (s_1 (eO (nX kF jY kl (kV g 3) (af (kCt g 2 dj n14 bi (af (kCp g hsc ["_law_j","_law_number_here"] [] [] [] (cc (kV g 5)) fun Y y g=>⟨(gR g (bu (kNm g 0) (bu (kNm g 1) eV))),(lm (kTc (hG g.room) (kIx (kV g 1) ai) ai)),(ME1.h (t_1 (av (e_1 (kV g 0)) (av (e_1 (kV g 1)) bt))))⟩) ah)) ah)))))))))
 (m1n (r_1 (e_1 (kCt g 2 dj n14 bi (af (kV g 3) ah)))))))))
abbrev gs:Stmt:=top 32
abbrev nA:List Str:=["_law_pen_here","_law_row","_law_found","_law_part"]
abbrev m8:List Str:=["_law_draw","len","tuple"]
abbrev oG:List Str:=["_law_pen_here","_law_row"]
def wR(hsc:Sc X gs)(g:Gd X nA m8 k)(dc:DefCx X)(c16:Cal X "_law_draw" eW aP k)(n14:Nn X "tuple")(n7:Nn X "len"):MSs X (aC gs) m_l_turned :=
 (MS2.h (m1c (a_1 g 2 (e_1 (kf ah)))
 (m1c (s_1 (eB g (cc (kV g 1)) (kNm g 3) (MS2.h (m1n (s_1 (eO (nX yr xw w9 (kV g 2) (af (kCa g 0 c16 (af (kV g 0) (af (au bW (kCb g 1 db n7 df (af (kV g 2) ah)) ai) ah))) (af (kV g 3) ah)))))))))
 (m1c (s_1 (bn (kTc (cX g.room) (kCa g 0 c16 (af (kV g 0) (af ai ah))) ai) (MS2.h (m1n (r_1 (e_1 (kCt g 2 dj n14 bi (af (kV g 2) ah)))))) aU))
 (m1n (r_1 (e_1 (kV g 2))))))))
abbrev fj:Stmt:=top 33
abbrev lW:List Str:=["_law_sheet","_law_ties","_law_i","_law_row","_law_j","_law_number_here"]
abbrev lJ:List Str:=["enumerate","min","max","sorted"]
abbrev lS:List Str:=["_law_sheet"]
def uk(hsc:Sc X fj)(g:Gd X lW lJ k)(dc:DefCx X)(n13:Nn X "sorted")(n4:Nn X "enumerate")(n9:Nn X "max")(n10:Nn X "min"):MSs X (aC fj) m_l_ties_of :=
 (MS2.h (m1c (a_1 g 1 (e_1 (kf ah)))
 (m1c (s_1 (eB g (kEn g 0 n4 (af (kIx (kV g 0) ai) ah)) (gR g (bu (kNm g 2) (bu (kNm g 3) eV))) (MS2.h (m1n (s_1 (eB g (cc (kV g 3)) (gR g (bu (kNm g 4) (bu (kNm g 5) eV))) (MS2.h (m1n (s_1 (bn (MW.mt (mw_and (kTc (hG g.room) (kV g 2) (kV g 4)) (mw_and1 (kTc (oj_in g.room true) (ME1.h (t_1 (av (e_1 (kCb g 1 (j0 g) n10 iT (af (kV g 2) (af (kV g 4) ah)))) (av (e_1 (kCb g 2 (tt g) n9 mU (af (kV g 2) (af (kV g 4) ah)))) bt)))) (kV g 1))))) (MS2.h (m1n (s_1 (eO (nX kF jY kl (kV g 1) (af (ME1.h (t_1 (av (e_1 (kCb g 1 (j0 g) n10 iT (af (kV g 2) (af (kV g 4) ah)))) (av (e_1 (kCb g 2 (tt g) n9 mU (af (kV g 2) (af (kV g 4) ah)))) bt)))) ah)))))) aU))))))))))
 (m1n (r_1 (e_1 (kCb g 3 xh n13 kE (af (kV g 1) ah))))))))
abbrev ck:Stmt:=top 34
abbrev fV:List Str:=["_law_sheet","_law_i","_law_j","_law_due"]
abbrev fX:List Str:=["range","_law_same","number_at"]
abbrev fU:List Str:=["_law_sheet"]
def ly(hsc:Sc X ck)(g:Gd X fV fX k)(dc:DefCx X)(c13:Cal X "number_at" lH lL k)(c18:Cal X "_law_same" ju dZ k)(n11:Nn X "range"):MSs X (aC ck) m_l_numbers_right :=
 (MS2.h (m1c (s_1 (eB g (kR1 g 0 n11 (af (kIx (kV g 0) ai) ah)) (kNm g 1) (MS2.h (m1n (s_1 (eB g (kR1 g 0 n11 (af (kIx (kV g 0) ai) ah)) (kNm g 2) (MS2.h (m1c (a_1 g 3 (b_1 bW (e_1 (kCp g hsc ["_law_at","_law_number_here"] ["_law_j"] [] [2] (cc (kIx (kIx (kV g 0) ai) (kV g 1))) fun Y y g=>⟨(gR g (bu (kNm g 0) (bu (kNm g 1) eV))),(lm (kTc (cX g.room) (kV g 0) (kV g 2))),(kV g 1)⟩)) (l_1 (av (t_1 (av (e_1 ai) (av (e_1 ai) bt))) bt))))
 (m1n (s_1 (bn (bI (bq (kCa g 1 c18 (af (kCa g 2 c13 (af (kV g 0) (af (kV g 1) (af (kV g 2) ah)))) (af (kIx (kV g 3) ai) ah))))) (MS2.h (m1n (r_1 (e_1 gp)))) aU)))))))))))
 (m1n (r_1 (e_1 gp)))))
abbrev hZ:Stmt:=top 35
abbrev pH:List Str:=["_law_pen_here","_law_n","_law_due","_law_handed","_law_kept","_law_at","_law_found"]
abbrev pN:List Str:=["_law_many","_law_rows","_law_draw","sheet_of","tuple","_law_same","range","isinstance","list","is_sheet","_law_numbers_right","web_of_sheet","_law_ties_of"]
abbrev qg:List Str:=["_law_pen_here"]
def xL(hsc:Sc X hZ)(g:Gd X pH pN k)(dc:DefCx X)(c23:Cal X "_law_ties_of" lS lM k)(c14:Cal X "web_of_sheet" iR iQ k)(c18:Cal X "_law_same" ju dZ k)(c24:Cal X "_law_numbers_right" fU fZ k)(c11:Cal X "sheet_of" nM gA k)(c12:Cal X "is_sheet" nS nV k)(c16:Cal X "_law_draw" eW aP k)(c22:Cal X "_law_turned" oG oJ k)(c21:Cal X "_law_rows" tV rT k)(c20:Cal X "_law_many" sW rK k)(n14:Nn X "tuple")(n11:Nn X "range")(n6:Nn X "isinstance")(n8:Nn X "list"):MSs X (aC hZ) m_l_right :=
 (MS2.h (m1c (a_1 g 1 (e_1 (kCa g 0 c20 (af (kV g 0) ah))))
 (m1c (a_1 g 2 (t_1 (av (e_1 (kV g 1)) (av (e_1 (kCa g 1 c21 (af (kV g 0) (af (kV g 1) ah)))) bt))))
 (m1c (s_1 (kSc g hsc 3 ["_law_row"] ["_law_pen_here"] ["_law_turned"] [0] (cc (kIx (kV g 2) ai)) fun Y y g=>⟨(kNm g 0),cR,(kCa g 0 (y.c c22) (af (kV g 1) (af (kV g 0) ah)))⟩))
 (m1c (s_1 (kSc g hsc 4 ["_law_row"] [] ["list"] [] (cc (kV g 3)) fun Y y g=>⟨(kNm g 0),cR,(kCt g 0 pj (y.n n8) cP (af (kV g 0) ah))⟩))
 (m1c (s_1 (bn (kTc (cX g.room) (kCa g 2 c16 (af (kV g 0) (af ai ah))) ai) (MS2.h (m1n (a_1 g 6 (e_1 (kCa g 3 c11 (af (kV g 1) (af (kCt g 4 dj n14 bi (af (kV g 3) ah)) ah))))))) (MS2.h (m1n (a_1 g 6 (e_1 (kCa g 3 c11 (af (kV g 1) (af (kV g 3) ah)))))))))
 (m1c (s_1 (bn (MW.mt (fw (bI (bq (kCa g 5 c18 (af (kV g 6) (af (kV g 2) ah))))) (gZ (kTc (hG g.room) (kCp g hsc ["_law_row"] [] ["list"] [] (cc (kV g 3)) fun Y y g=>⟨(kNm g 0),cR,(kCt g 0 pj (y.n n8) cP (af (kV g 0) ah))⟩) (kV g 4))))) (MS2.h (m1n (r_1 (e_1 gp)))) aU))
 (m1c (s_1 (eB g (kR1 g 6 n11 (af (kV g 1) ah)) (kNm g 5) (MS2.h (m1n (s_1 (bn (bq (dH g (i:=7) (j:=8) rfl n6 rfl n8 cP dX (kIx (kV g 3) (kV g 5)))) (MS2.h (m1n (s_1 (eO (nX kF jY kl (kIx (kV g 3) (kV g 5)) (af (ME1.h (t_1 (av (e_1 ai) (av (t_1 (av (e_1 ai) (av (e_1 ai) bt))) bt)))) ah)))))) aU))))))
 (m1c (s_1 (bn (MW.mt (fw (bI (bq (kCa g 5 c18 (af (kV g 6) (af (kV g 2) ah))))) (fw (kTc oj_isn (kCa g 9 c12 (af (kV g 6) ah)) gp) (gZ (bI (bq (kCa g 5 c18 (af (kCa g 3 c11 (af (kV g 1) (af (kIx (kV g 6) ai) ah))) (af (kV g 2) ah))))))))) (MS2.h (m1n (r_1 (e_1 gp)))) aU))
 (m1n (r_1 (e_1 (bU (kCa g 10 c24 (af (kV g 6) ah)) (cY (kCa g 5 c18 (af (kCa g 11 c14 (af (kV g 6) ah)) (af (ME1.h (t_1 (av (e_1 (kV g 1)) (av (e_1 (kCt g 4 dj n14 bi (af (kCa g 12 c23 (af (kV g 2) ah)) ah))) bt)))) ah)))))))))))))))))
abbrev nu:Stmt:=top 36
abbrev N_law:List Str:=["_law_script"]
abbrev G_law:List Str:=["all","range","max","min","len"]
abbrev P_law:List Str:=["_law_script"]
def b_law(hsc:Sc X nu)(g:Gd X N_law G_law k)(dc:DefCx X)(c15:Cal X "_law_pen" vg gG k)(c25:Cal X "_law_right" qg eA k)(n11:Nn X "range")(n7:Nn X "len")(n10:Nn X "min")(n9:Nn X "max")(n1:Nn X "all"):MSs X (aC nu) m_law :=
 (MS2.h (m1n (r_1 (e_1 (kCb g 0 (nC g) n1 ot (af (kCp g hsc ["_law_k"] ["_law_script"] ["_law_right","_law_pen"] [0] (kR1 g 1 n11 (af (kCb g 2 (tt g) n9 mU (af ai (af (kCb g 3 (j0 g) n10 iT (af (kCb g 4 db n7 df (af (kV g 0) ah)) (af ai ah))) ah))) ah)) fun Y y g=>⟨(kNm g 0),cR,(kCa g 0 (y.c c25) (af (kCa g 1 (y.c c15) (af (kV g 1) (af (kV g 0) ah))) ah))⟩) ah))))))
def bi_law:lg "law" nu P_law:=fun _ _ _ _ _ _=>ar1 fun _=>rfl
def all_fn{K:qac}(b:Ba P w K mg base)
  (D0:DefAt K "is_whole" gh)
  (D1:DefAt K "is_pair" ie)
  (D2:DefAt K "greatest_shared" cr)
  (D3:DefAt K "is_number" fe)
  (D4:DefAt K "is_count" gr)
  (D5:DefAt K "is_place" gn)
  (D6:DefAt K "check_place" dS)
  (D7:DefAt K "rising_once" dQ)
  (D8:DefAt K "is_part" g6)
  (D9:DefAt K "are_parts" fh)
  (D10:DefAt K "is_row" jz)
  (D11:DefAt K "sheet_of" f6)
  (D12:DefAt K "is_sheet" gi)
  (D13:DefAt K "number_at" fv)
  (D14:DefAt K "web_of_sheet" dn)
  (D15:DefAt K "_law_pen" lu)
  (D16:DefAt K "_law_draw" jt)
  (D17:DefAt K "_law_lowest" gz)
  (D18:DefAt K "_law_same" gO)
  (D19:DefAt K "_law_number" gm)
  (D20:DefAt K "_law_many" i4)
  (D21:DefAt K "_law_rows" jw)
  (D22:DefAt K "_law_turned" gs)
  (D23:DefAt K "_law_ties_of" fj)
  (D24:DefAt K "_law_numbers_right" ck)
  (D25:DefAt K "_law_right" hZ)
  (D26:DefAt K "law" nu)
  (z0:Zn K "abs")
  (z1:Zn K "all")
  (z2:Zn K "bool")
  (z3:Zn K "dict")
  (z4:Zn K "enumerate")
  (z5:Zn K "int")
  (z6:Zn K "isinstance")
  (z7:Zn K "len")
  (z8:Zn K "list")
  (z9:Zn K "max")
  (z10:Zn K "min")
  (z11:Zn K "range")
  (z12:Zn K "set")
  (z13:Zn K "sorted")
  (z14:Zn K "tuple")
  (z15:Zn K "zip")
  (y_MOST_PLACES:∃t,PySem.W.nsIn K mainGlobals "MOST_PLACES"=some (some (.int 12 t)))
  (y_NOUGHT:oH K "NOUGHT" 0 1)
  (cl:Cl K mg)
   :FnAt P w K mg base "law" P_law f_law 12:=by
 have v_MOST_PLACES:∃t,mg "MOST_PLACES"=some (.int 12 t):=let ⟨t,e⟩:=y_MOST_PLACES;⟨t,PySem.W.mg_of b.kin b.ns e⟩;have v_NOUGHT:=y_NOUGHT.mg b.kin b.ns;have a0:=fnN (k:=0) (N:=nK) (G:=nF) (ps:=gw) b D0 fun X e h g d=>vQ h g d (e.n z6) (e.n z2) (e.n z5);have a1:=fnN (k:=0) (N:=qt) (G:=pR) (ps:=ic) b D1 fun X e h g d=>yc h g d (e.n z7) (e.n z6) (e.n z14);have a2:=fnN (k:=0) (N:=fY) (G:=fW) (ps:=fT) b D2 fun X e h g d=>lA h g d;have a3:=fnN (k:=1) (N:=lG) (G:=lI) (ps:=lU) b D3 fun X e h g d=>t8 h g d (a2.c e) (a0.c e) (a1.c e) (e.n z0);have a4:=fnN (k:=1) (N:=nc) (G:=nh) (ps:=jk) b D4 fun X e h g d=>wA h g d (a0.c e) (e.e4▸v_MOST_PLACES);have a5:=fnN (k:=1) (N:=oE) (G:=oq) (ps:=i8) b D5 fun X e h g d=>wl h g d (a0.c e);have a6:=fnN (k:=2) (N:=jM) (G:=jP) (ps:=jL) b D6 fun X e h g d=>qI h g d (a5.c e) (e.e3▸e.e4▸cl);have a7:=fnN (k:=0) (N:=jO) (G:=jN) (ps:=jK) b D7 fun X e h g d=>qD h g d (e.n z13) (e.n z12) (e.n z9) (e.n z10) (e.n z14);have a8:=fnN (k:=2) (N:=pM) (G:=pT) (ps:=pB) b D8 fun X e h g d=>xA h g d (a3.c e) (a5.c e) (a1.c e) (e.e3▸e.e4▸v_NOUGHT);have a9:=fnN (k:=3) (N:=lV) (G:=lQ) (ps:=im) b D9 fun X e h g d=>uv h g d (a8.c e) (e.n z7) (e.n z12) (e.n z1);have a10:=fnN (k:=4) (N:=qZ) (G:=rM) (ps:=rY) b D10 fun X e h g d=>yJ h g d (a9.c e) (e.n z8) (e.n z13) (e.n z6) (e.n z14);have a11:=fnN (k:=4) (N:=nI) (G:=mV) (ps:=nM) b D11 fun X e h g d=>wo h g d (a9.c e) (a4.c e) (e.n z13) (e.n z14) (e.n z6) (e.n z8) (e.n z7) (e.e3▸e.e4▸cl);have a12:=fnN (k:=5) (N:=om) (G:=nZ) (ps:=nS) b D12 fun X e h g d=>vP h g d (a10.c e) (a4.c e) (a1.c e) (e.n z1) (e.n z7) (e.n z6) (e.n z14);have a13:=fnN (k:=3) (N:=lP) (G:=lT) (ps:=lH) b D13 fun X e h g d=>t9 h g d (a6.c e) (e.n z3) (e.e3▸e.e4▸v_NOUGHT);have a14:=fnN (k:=1) (N:=iS) (G:=iK) (ps:=iR) b D14 fun X e h g d=>pc h g d (a7.c e) (e.n z4);have a15:=fnN (k:=0) (N:=uP) (G:=va) (ps:=vg) b D15 fun X e h g d=>b_l_pen h g d (e.n z0) (e.n z7) (e.n z10);have a16:=fnN (k:=0) (N:=rH) (G:=sV) (ps:=eW) b D16 fun X e h g d=>zH h g d;have a17:=fnN (k:=0) (N:=nB) (G:=nU) (ps:=nE) b D17 fun X e h g d=>vK h g d (e.n z0);have a18:=qm (P:=P) (w:=w) (k:=0) b D18 z6 z2 z5 z8 z14 z15 z1 z7 8;have a19:=fnN (k:=1) (N:=nL) (G:=oz) (ps:=oC) b D19 fun X e h g d=>vW h g d (a16.c e) (a17.c e);have a20:=fnN (k:=1) (N:=tR) (G:=tS) (ps:=sW) b D20 fun X e h g d=>yV h g d (a16.c e);have a21:=fnN (k:=2) (N:=tI) (G:=sY) (ps:=tV) b D21 fun X e h g d=>y7 h g d (a16.c e) (a19.c e) (e.n z14) (e.n z11);have a22:=fnN (k:=1) (N:=nA) (G:=m8) (ps:=oG) b D22 fun X e h g d=>wR h g d (a16.c e) (e.n z14) (e.n z7);have a23:=fnN (k:=0) (N:=lW) (G:=lJ) (ps:=lS) b D23 fun X e h g d=>uk h g d (e.n z13) (e.n z4) (e.n z9) (e.n z10);have a24:=fnN (k:=9) (N:=fV) (G:=fX) (ps:=fU) b D24 fun X e h g d=>ly h g d (a13.c e) (a18.c e) (e.n z11);have a25:=fnN (k:=10) (N:=pH) (G:=pN) (ps:=qg) b D25 fun X e h g d=>xL h g d (a23.c e) (a14.c e) (a18.c e) (a24.c e) (a11.c e) (a12.c e) (a16.c e) (a22.c e) (a21.c e) (a20.c e) (e.n z14) (e.n z11) (e.n z6) (e.n z8);have a26:=fnN (k:=11) (N:=N_law) (G:=G_law) (ps:=P_law) b D26 fun X e h g d=>b_law h g d (a15.c e) (a25.c e) (e.n z11) (e.n z7) (e.n z10) (e.n z9) (e.n z1);exact a26
end Law
namespace PySem.W.Fast
def tw16327673026891452393:=0
def tw2363006497230416924:=0
def tw46221817855568583:=0
def tw7679356735724242785:=0
def tw15880060949325394409:=0
def tw10239405951400121234:=0
def tw3062758347494742108:=0
def tw3285315652626465937:=0
def tw8826189458391487015:=0
def tw9737349420546473107:=0
def tw7012005232089099066:=0
def tw12284080748589094962:=0
def tw11916303078167847377:=0
def tw14862202880781977635:=0
def tw2534799964685312159:=0
def tw12198281682698892779:=0
def tw8286851530105040647:=0
def tw7305850702592197962:=0
def tw3970465693001623519:=0
def tw16970267358965661489:=0
def tw2326336808699165426:=0
def tw2579967729309602461:=0
def tw5563996400629329306:=0
def tw18097177390892335895:=0
def tw13118313657713082362:=0
def tw16252669236679617469:=0
def tw110820978933853457:=0
def tw1920597979013695282:=0
def tw7484154604487774951:=0
def tw3928988744616363453:=0
def tw14945462908989127015:=0
def tw7587804074332164913:=0
def tw9952355475295930956:=0
def tw5908322790787483732:=0
def tw1429816578436746833:=0
def tw17640263105754530715:=0
def tw5224941292679643951:=0
def tw1167360217014443696:=0
def tw10902000316972670064:=0
def tw71520813539995111:=0
def tw16962309056026298035:=0
def tw5972246359762767622:=0
def tw4320690626654265603:=0
def tw9967400207746839447:=0
def tw4078199576331000754:=0
def tw10827074548537161437:=0
def tw14837303310220604805:=0
def tw15493450401845647903:=0
def tw13715848329360336280:=0
def tw7142729806414340021:=0
def tw12573402025720127401:=0
def tw3640527143137088377:=0
def tw12385039545688651677:=0
def tw15332020292780631698:=0
def tw12159906800139026408:=0
def tw12560842700220738418:=0
def tw14234346737393885152:=0
def tw4568410230167274619:=0
def tw243013462012847180:=0
def tw1150633471414116939:=0
def tw5038867052542126986:=0
def tw10728095480503178316:=0
def tw2363656730179110601:=0
def tw7986086031875203729:=0
def tw8630372949275253740:=0
def tw8196843016683717900:=0
end PySem.W.Fast
open PySem PySem.W PyProof.Rows
local macro_rules | `(tactic| and_intros) => `(tactic| (dsimp only [L2.KOf]; first | k_is | (refine' MM.defAt_mk ?a ?l ?c ?k; (case a => k_is); (case l => k_is); (case c => k_is); (case k => k_is))))
set_option maxRecDepth 100000 in
set_option maxHeartbeats 0 in
theorem PySem.Challenge.cw_fewfills_k27_sheets_made_holds : PySem.Challenge.rw_fewfills_k27_sheets_made.Holds := by
  w_on; o_law; k_head; (case hw=>w_witness2)
  k_fill
  refine MM.walk_M (l:=PySem.Challenge.rw_fewfills_k27_sheets_made) (k:=12) (x:="_law_script") (F:=Law.f_law) rfl rfl ⟨rfl,by decide,by decide,rfl⟩ (fun w h Y=>PySem.W.kIn_of Y) ?F Law.law_true
  case F=>
    intro w mg fa h KX G hmg
    have Dlaw:MM.DefAt (L2.KOf KX) "law" Law.nu:=by and_intros
    have D0:MM.DefAt (L2.KOf KX) "is_whole" Law.gh:=by and_intros
    have D1:MM.DefAt (L2.KOf KX) "is_pair" Law.ie:=by and_intros
    have D2:MM.DefAt (L2.KOf KX) "greatest_shared" Law.cr:=by and_intros
    have D3:MM.DefAt (L2.KOf KX) "is_number" Law.fe:=by and_intros
    have D4:MM.DefAt (L2.KOf KX) "is_count" Law.gr:=by and_intros
    have D5:MM.DefAt (L2.KOf KX) "is_place" Law.gn:=by and_intros
    have D6:MM.DefAt (L2.KOf KX) "check_place" Law.dS:=by and_intros
    have D7:MM.DefAt (L2.KOf KX) "rising_once" Law.dQ:=by and_intros
    have D8:MM.DefAt (L2.KOf KX) "is_part" Law.g6:=by and_intros
    have D9:MM.DefAt (L2.KOf KX) "are_parts" Law.fh:=by and_intros
    have D10:MM.DefAt (L2.KOf KX) "is_row" Law.jz:=by and_intros
    have D11:MM.DefAt (L2.KOf KX) "sheet_of" Law.f6:=by and_intros
    have D12:MM.DefAt (L2.KOf KX) "is_sheet" Law.gi:=by and_intros
    have D13:MM.DefAt (L2.KOf KX) "number_at" Law.fv:=by and_intros
    have D14:MM.DefAt (L2.KOf KX) "web_of_sheet" Law.dn:=by and_intros
    have D15:MM.DefAt (L2.KOf KX) "_law_pen" Law.lu:=by and_intros
    have D16:MM.DefAt (L2.KOf KX) "_law_draw" Law.jt:=by and_intros
    have D17:MM.DefAt (L2.KOf KX) "_law_lowest" Law.gz:=by and_intros
    have D18:MM.DefAt (L2.KOf KX) "_law_same" Law.gO:=by and_intros
    have D19:MM.DefAt (L2.KOf KX) "_law_number" Law.gm:=by and_intros
    have D20:MM.DefAt (L2.KOf KX) "_law_many" Law.i4:=by and_intros
    have D21:MM.DefAt (L2.KOf KX) "_law_rows" Law.jw:=by and_intros
    have D22:MM.DefAt (L2.KOf KX) "_law_turned" Law.gs:=by and_intros
    have D23:MM.DefAt (L2.KOf KX) "_law_ties_of" Law.fj:=by and_intros
    have D24:MM.DefAt (L2.KOf KX) "_law_numbers_right" Law.ck:=by and_intros
    have D25:MM.DefAt (L2.KOf KX) "_law_right" Law.hZ:=by and_intros
    have Z26:PySem.W.nsIn (L2.KOf KX) mainGlobals "abs" = some none:=by and_intros
    have Z27:PySem.W.nsIn (L2.KOf KX) mainGlobals "all" = some none:=by and_intros
    have Z28:PySem.W.nsIn (L2.KOf KX) mainGlobals "bool" = some none:=by and_intros
    have Z29:PySem.W.nsIn (L2.KOf KX) mainGlobals "dict" = some none:=by and_intros
    have Z30:PySem.W.nsIn (L2.KOf KX) mainGlobals "enumerate" = some none:=by and_intros
    have Z31:PySem.W.nsIn (L2.KOf KX) mainGlobals "int" = some none:=by and_intros
    have Z32:PySem.W.nsIn (L2.KOf KX) mainGlobals "isinstance" = some none:=by and_intros
    have Z33:PySem.W.nsIn (L2.KOf KX) mainGlobals "len" = some none:=by and_intros
    have Z34:PySem.W.nsIn (L2.KOf KX) mainGlobals "list" = some none:=by and_intros
    have Z35:PySem.W.nsIn (L2.KOf KX) mainGlobals "max" = some none:=by and_intros
    have Z36:PySem.W.nsIn (L2.KOf KX) mainGlobals "min" = some none:=by and_intros
    have Z37:PySem.W.nsIn (L2.KOf KX) mainGlobals "range" = some none:=by and_intros
    have Z38:PySem.W.nsIn (L2.KOf KX) mainGlobals "set" = some none:=by and_intros
    have Z39:PySem.W.nsIn (L2.KOf KX) mainGlobals "sorted" = some none:=by and_intros
    have Z40:PySem.W.nsIn (L2.KOf KX) mainGlobals "tuple" = some none:=by and_intros
    have Z41:PySem.W.nsIn (L2.KOf KX) mainGlobals "zip" = some none:=by and_intros
    have YMOST_PLACES:∃ t,PySem.W.nsIn (L2.KOf KX) mainGlobals "MOST_PLACES" = some (some (.int 12 t)):=by
      dsimp only [L2.KOf]
      refine' MM.int_mk ?h
      (case h=>k_is)
    have YNOUGHT:MM.oH (L2.KOf KX) "NOUGHT" 0 1:=by
      dsimp only [L2.KOf]
      refine' MM.tupK_mk ?h ?l
      (case h=>k_is)
      (case l=>k_is)
    have CL:Law.ClK (L2.KOf KX):=by
      dsimp only [L2.KOf]
      refine' Law.clK_mk ?p0 ?p1 ?p2 ?p3 ?p4 ?p5 ?p6 ?p7 ?p8 ?p9 ?p10 ?p11 ?p12 ?p13
      (case p0=>k_is)
      (case p1=>k_is)
      (case p2=>k_exc)
      (case p3=>k_exc)
      (case p4=>k_is)
      (case p5=>k_is)
      (case p6=>k_is)
      (case p7=>k_is)
      (case p8=>k_is)
      (case p9=>k_is)
      (case p10=>k_is)
      (case p11=>k_is)
      (case p12=>k_is)
      (case p13=>k_is)
    exact MM.head_M Dlaw Law.bi_law hmg KX G fun base kb nb=>Law.all_fn ⟨kb,nb⟩ D0 D1 D2 D3 D4 D5 D6 D7 D8 D9 D10 D11 D12 D13 D14 D15 D16 D17 D18 D19 D20 D21 D22 D23 D24 D25 Dlaw Z26 Z27 Z28 Z29 Z30 Z31 Z32 Z33 Z34 Z35 Z36 Z37 Z38 Z39 Z40 Z41 YMOST_PLACES YNOUGHT (CL _ _ kb nb)
