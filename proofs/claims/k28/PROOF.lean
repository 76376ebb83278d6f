import PyProof.Rows.All
import Wide.All
import OpenK.AllK
import Wide.FinOn
import Lean
import PyProof.EqAt
import PyProof.EqKinds
import PyProof.TupleCall
import PyProof.ReprRoads
import PyProof.FitsInt
import PyProof.FitsBits
import PyProof.Rows.IntMath
import PyProof.ConsumeWalk
import PyProof.WalkInts
import PyProof.ListRange
import PySem.SetTable
import PyProof.SetKind
import PyProof.TupleKey
import PyProof.DictKinds
import PyProof.IsRules
import PyProof.Rows.SetFrom
import PyProof.CollectIter
import PyProof.ForAny
import PyProof.Rows.SortRuns
import PyProof.Rows.SortKey
import KE.KSortTup
import PyProof.ZipIter
import PyProof.Draws
import PyProof.EnumMake
import PyProof.TupleIter
import PyProof.P3Eq
import PyProof.StrCalls2
import PyProof.StrCalls3
import PyProof.FString
import PyProof.AttrMissHeap
import PyProof.DictUpdate
import PyProof.DictRoads
import KE.KDictOf
import PyProof.Walks
import PyProof.SetRoads
import PyProof.Rows.SeqMore
import PyProof.CallFns
import PyProof.StrOps
import PyProof.Rows.Chain
import PyProof.Rows.TupDisplay
import PyProof.ListMulRoad
import PyProof.FactsAll.tuple_2
import PySem.Challenge.RW_fewfills_k28_no_sheets
set_option Elab.async false
set_option bootstrap.genMatcherCode false
set_option compiler.extract_closed false
set_option linter.all false
set_option maxRecDepth 100000
open PySem
abbrev qaa:=@wpAny_bind
abbrev qab:=@PySem.W.Frag
abbrev qac:=@Heap.get?_push_of_some
abbrev qad:=@List.mem_append_right
abbrev qae:=@if_pos
abbrev qaf:=@List.getElem?_eq_some_iff
abbrev qag:=@Bool.false_eq_true
abbrev qah:=@List.getElem?_set_ne
abbrev qai:=@Nat.le_refl
abbrev qaj:=@List.mem_cons
abbrev qak:=@List.getElem?_append_left
abbrev qal:=@List.mem_cons_of_mem
abbrev qam:=@Heap.lt_size
abbrev qan:=@wpAny_pure
abbrev qao:=@if_neg
abbrev qap:=@List.mem_append
abbrev qaq:=@List.set_cons_succ
abbrev qar:=@List.set_cons_zero
abbrev qas:=@List.size_toArray
abbrev qat:=@List.getElem?_set_self
abbrev qau:=@Nat.lt_of_lt_of_le
abbrev qav:=@Heap.get?_push_size
abbrev qaw:=@List.getElem?_append_right
abbrev qax:=@Nat.le_trans
abbrev qay:=@List.mem_append_left
abbrev qaz:=@List.mem_map
abbrev qaA:=@Option.map_eq_some_iff
abbrev qaB:=@List.not_mem_nil
abbrev qaC:=@List.mem_cons_self
abbrev qaD:=@Array.getElem?_toList
abbrev qaE:=@List.map_cons
abbrev qaF:=@List.length_map
abbrev qaG:=@Bool.and_eq_true
abbrev qaH:=@List.append_assoc
abbrev qaI:=@List.extract_eq_take_drop
abbrev qaJ:=@List.getElem?_eq_getElem
abbrev qaK:=@List.getElem?_map
abbrev qaL:=@Nat.ne_of_lt
abbrev qaM:=@List.lookup_cons
abbrev qaN:=@Bool.false_ne_true
abbrev qaO:=@List.replicate_succ
abbrev qaP:=@Nat.zero_le
abbrev qaQ:=@Nat.lt_irrefl
abbrev qaR:=@List.mem_singleton
abbrev qaS:=@Array.toList_append
abbrev qaT:=@Array.getElem?_eq_some_iff
abbrev qaU:=@Bool.not_true
abbrev qaV:=@Array.toList_inj
abbrev qaW:=@Array.length_toList
abbrev qaX:=@List.mem_iff_getElem?
abbrev qaY:=@List.getElem?_eq_none
abbrev qaZ:=@List.getElem?_replicate
abbrev qba:=@List.length_append
abbrev qbb:=@Option.bind_eq_some_iff
abbrev qbc:=@List.pairwise_cons
abbrev qbd:=@List.length_cons
abbrev qbe:=@List.map_map
abbrev qbf:=@Int.fmod_eq_emod_of_nonneg
abbrev qbg:=@List.flatten_cons
abbrev qbh:=@Array.toList_push
abbrev qbi:=@Heap.size_push
abbrev qbj:=@Nat.ne_of_gt
abbrev qbk:=@Nat.zero_add
abbrev qbl:=@Option.bind_some
abbrev qbm:=@List.mem_of_getElem?
abbrev qbn:=@List.pairwise_map
abbrev qbo:=@List.append_nil
abbrev qbp:=@Array.size_push
abbrev qbq:=@List.drop_eq_nil_of_le
abbrev qbr:=@List.all_eq_true
abbrev qbs:=@List.length_replicate
abbrev qbt:=@Bool.beq_eq_decide_eq
abbrev qbu:=@List.contains_iff_mem
abbrev qbv:=@Bool.eq_false_iff
abbrev qbw:=@List.length_eq_zero_iff
abbrev qbx:=@List.length_take
abbrev qby:=@Int.emod_lt_of_pos
abbrev qbz:=@List.mem_filter
abbrev qbA:=@List.nodup_cons
abbrev qbB:=@Bool.not_eq_true'
abbrev qbC:=@Array.perm_iff_toList_perm
abbrev qbD:=@Array.toList_extract
abbrev qbE:=@List.pairwise_iff_getElem
abbrev qbF:=@Heap.get?_update_ne
abbrev qbG:=@Nat.le_of_lt
abbrev qbH:=@List.getElem?_take_of_lt
abbrev qbI:=@List.mem_filterMap
abbrev qbJ:=@List.of_mem_zip
abbrev qbK:=@Option.map_some
abbrev qbL:=@List.getElem?_cons_succ
abbrev qbM:=@Int.emod_nonneg
abbrev qbN:=@List.take_of_length_le
abbrev qbO:=@Array.getElem?_extract
abbrev qbP:=@Array.size_append
abbrev qbQ:=@Bool.not_false
abbrev qbR:=@List.take_succ
abbrev qbS:=@List.take_append_drop
abbrev qbT:=@List.any_eq_true
abbrev qbU:=@Array.toList_reverse
abbrev qbV:=@Array.getElem?_setIfInBounds
abbrev qbW:=@List.filterMap_cons
abbrev qbX:=@List.find?_cons
abbrev qbY:=@List.map_congr_left
abbrev qbZ:=@Array.getElem?_eq_none_iff
abbrev qca:=@List.map_nil
abbrev qcb:=@Nat.lt_trans
abbrev qcc:=@List.getElem?_drop
abbrev qcd:=@Bool.not_eq_false'
abbrev qce:=@List.drop_eq_getElem_cons
abbrev qcf:=@List.nodup_append
abbrev qcg:=@Int.toNat_natCast
abbrev qch:=@Nat.gcd_pos_of_pos_right
abbrev qci:=@List.all_cons
abbrev qcj:=@List.filter_cons_of_pos
abbrev qck:=@List.filter_cons_of_neg
abbrev qcl:=@Int.eq_ofNat_of_zero_le
abbrev qcm:=@Int.gcd_natCast_natCast
abbrev qcn:=@List.getElem?_cons_zero
abbrev qco:=@List.length_drop
abbrev qcp:=@Option.getD_some
abbrev qcq:=@List.perm_middle
abbrev qcr:=@List.zipIdx_cons
abbrev qcs:=@List.getElem_mem
abbrev qct:=@Heap.get?_update_other
abbrev qcu:=@List.range_succ_eq_map
abbrev qcv:=@Int.le_ediv_iff_mul_le
abbrev qcw:=@Heap.get?_update_self
abbrev qcx:=@Nat.mul_comm
abbrev qcy:=@List.forIn_cons
abbrev qcz:=@List.perm_append_comm
abbrev qcA:=@List.length_filter_le
abbrev qcB:=@List.mem_range
abbrev qcC:=@List.forIn_nil
noncomputable section
local macro_rules | `(tactic| ext) => `(tactic| omega)
namespace L2
open PySem PySem.Spec PyProof.Rows
abbrev Key:=Sum Int Str
def keyIs:Key->Value->Bool
 | .inl k,v=>Value.isInt k v
 | .inr x,v=>Value.isStrOf x v
def keyH(w:World):Key->Int
 | .inl k=>hashInt k
 | .inr x=>hashStr w x
def cq:∀{k:Key} {v:Value},keyIs k v=true->(∃i t,k=Sum.inl i/\v=Value.int i t)\/(∃x t,k=Sum.inr x/\v=Value.str x t)
 | .inl i,v,h=>by
  obtain⟨t,e⟩:=Value.isInt_shape (k:=i) (v:=v) h;exact .inl ⟨i,t,rfl,e⟩
 | .inr x,v,h=>by
  obtain⟨t,e⟩:=Value.isStrOf_shape (x:=x) (v:=v) h;exact .inr ⟨x,t,rfl,e⟩
def key_ll(a b:Int):decide ((Sum.inl a:Key)=Sum.inl b)=(a == b):=by
 by_cases e:a=b
 ·subst e;simp
 ·have h:¬(Sum.inl a:Key)=Sum.inl b:=fun q=>e (Sum.inl.inj q);rw[decide_eq_false h];exact (beq_eq_false_iff_ne.mpr e).symm
def key_rr(a b:Str):decide ((Sum.inr a:Key)=Sum.inr b)=decide (a=b):=by
 by_cases e:a=b
 ·subst e;simp
 ·have h:¬(Sum.inr a:Key)=Sum.inr b:=fun q=>e (Sum.inr.inj q);rw[decide_eq_false h,decide_eq_false e]
def key_lr(a:Int)(b:Str):decide ((Sum.inl a:Key)=Sum.inr b)=false:=decide_eq_false (fun q=>nomatch q)
def key_rl(a:Str)(b:Int):decide ((Sum.inr a:Key)=Sum.inl b)=false:=decide_eq_false (fun q=>nomatch q)
def uI(prog:Program)(w:World):PySem.KeyKind prog w Key where
 is:=keyIs
 hash:=keyH w
 inj:=fun v a b ha hb=>by
  rcases cq ha with ⟨i,t,rfl,rfl⟩|⟨x,t,rfl,rfl⟩
  ·rcases cq hb with ⟨j,u,rfl,e⟩|⟨y,u,rfl,e⟩
   ·injection e with e1 _;rw[e1]
   ·exact nomatch e
  ·rcases cq hb with ⟨j,u,rfl,e⟩|⟨y,u,rfl,e⟩
   ·exact nomatch e
   ·injection e with e1 _;rw[e1]
 byValue:=fun k v h=>by
  rcases cq h with ⟨i,t,rfl,rfl⟩|⟨x,t,rfl,rfl⟩ <;> rfl
 pyHash:=fun hv h=>by
  rcases cq hv with ⟨i,t,rfl,rfl⟩|⟨x,t,rfl,rfl⟩
  ·exact wpAny_pyHash_int h
  ·exact wpAny_pyHash_str h
 eqBool:=fun hu hv h=>by
  rcases cq hu with ⟨i,t,rfl,rfl⟩|⟨x,t,rfl,rfl⟩
  ·rcases cq hv with ⟨j,u,rfl,rfl⟩|⟨y,u,rfl,rfl⟩
   ·rw[key_ll] at h;exact wpAny_eqBool_int h
   ·rw[key_lr] at h;exact SeqAt.EqAt.int_str i t y u _ _ _ _ h
  ·rcases cq hv with ⟨j,u,rfl,rfl⟩|⟨y,u,rfl,rfl⟩
   ·rw[key_rl] at h;exact SeqAt.EqAt.str_int x t j u _ _ _ _ h
   ·rw[key_rr] at h;exact wpAny_eqBool_str h
 «strs»:=fun k x t v h=>by
  rcases cq h with ⟨i,u,rfl,e⟩|⟨y,u,rfl,e⟩
  ·exact nomatch e
  ·injection e with e1 _
   subst e1;cases v <;> rfl
inductive V where
 | non | bl (b:Bool) | int (i:Int) | str (x:Str) | byt (b:Array UInt8) | flt (b:UInt64) | ref (a:Addr) | ty (n:String)
 deriving DecidableEq
def aR:V->Value->Prop
 | .non,u=>u=Value.none
 | .bl b,u=>u=Value.bool b
 | .int i,u=>∃t,u=Value.int i t
 | .str x,u=>∃t,u=Value.str x t
 | .byt b,u=>∃t,u=Value.bytes b t
 | .flt b,u=>∃t,u=Value.float b t
 | .ref a,u=>u=Value.ref a
 | .ty n,u=>u=Value.type n
abbrev aF:List V->List Value->Prop:=Paired aR
def aF.length(r:aF xs us):xs.length=us.length:=Paired.length r
def aF.get{xs:List V}{us:List Value}{i:Nat}{x:V}(r:aF xs us)(e:xs[i]?=some x):∃u,us[i]?=some u/\aR x u:=by
 induction r generalizing i with
 | nil=>cases e
 | cons r t ih =>
  cases i with
  | zero=>cases e;exact⟨_,rfl,r⟩
  | succ i=>have z:=@ih i e;exact z
def aF.set(r:aR x u)(i:Nat)(q:aF xs us):aF (xs.set i x) (us.set i u):=by
 induction q generalizing i with
 | nil=>exact .nil
 | cons a t ih =>
  cases i with
  | zero=>exact .cons r t
  | succ i=>exact .cons a (ih i)
def aF.append(r:aF xs us)(s:aF ys ws):aF (xs++ys) (us++ws):=by
 induction r with
 | nil=>exact s
 | cons r t ih=>exact .cons r ih
def aF.take(n:Nat)(r:aF xs us):aF (xs.take n) (us.take n):=by
 induction r generalizing n with
 | nil=>cases n <;> exact .nil
 | cons a t ih =>
  cases n with
  | zero=>exact .nil
  | succ n=>exact .cons a (ih n)
def aF.drop(n:Nat)(r:aF xs us):aF (xs.drop n) (us.drop n):=by
 induction r generalizing n with
 | nil=>cases n <;> exact .nil
 | cons a t ih =>
  cases n with
  | zero=>exact .cons a t
  | succ n=>exact ih n
def RelO:Option V->Option Value->Prop
 | some v,some u=>aR v u
 | none,none=>True
 | _,_=>False
def KV{κ:Type}:List (κ × V)->List (κ × Value)->Prop:=Paired fun (p:κ × V) (q:κ × Value)=>p.1=q.1/\aR p.2 q.2
def kV:Key->V
 | .inl i=>.int i
 | .inr x=>.str x
inductive HO where
 | lst (xs:List V)
 | tup (xs:List V)
 | dK (kvs:List (Key × V)) | dT (kvs:List (List Key × V))
 | set (S:Int->Bool) (n:Nat)
 | ins (C dx:Addr) (fs:List (Str × V))
 | own (x:Addr)
 | xd (fs:List (Str × V))
 | met (f x:Addr)
 | rng (lo hi:Int)
 | frz (o:Obj) (u:HO)
 | tbl (ps:Array Value)
 | ext (φ:Heap->Prop)
abbrev Hp:=Addr->Option HO
def upd(H:Hp)(a:Addr)(o:HO):Hp:=fun b=>if b=a then some o else H b
def bC:upd H a o a=some o:=by unfold upd;rw[qae rfl]
def aV(h:b≠a):upd H a o b=H b:=by unfold upd;rw[qao h]
def bK{H:Hp}{a b:Addr}{o:HO}(h:H a=some o)(h':H b=none):a≠b:=by
 intro e;subst e;rw[h] at h';cases h'
def gG(h:Heap)(a:Addr)(its:Array Value):Prop:=∃o,h.get? a=some o/\o.cls=.type "tuple"/\(∃n,o.data=.seq its n)/\o.dict=none
def gG.tup(t:gG h a its):IsTup h a its:=let ⟨o,e,c,d,_⟩:=t;⟨o,e,c,d⟩
def gG.lt(t:gG h a its):a<h.objs.size:=t.tup.lt
def gG.new(h:Heap)(its:Array Value):gG (h.push { cls:=.type "tuple",data:=.seq its}) h.objs.size its:=⟨_,qav h rfl,rfl,⟨_,rfl⟩,rfl⟩
section
variable (P:Program) (w:World)
def ObjOk(H:Hp)(h:Heap)(a:Addr):HO->Prop
 | .lst xs=>xs.length<=sizeLine/\∃(its:List Value) (n:Nat),aF xs its/\h.get? a=some { cls:=.type "list",data:=.seq its.toArray n}
 | .tup xs=>xs.length<=sizeLine/\∃its:List Value,aF xs its/\gG h a its.toArray
 | .dK kvs=>kvs.length<=sizeLine/\(a == sysModules)=false/\∃vs,KV kvs vs/\h.DictOf (uI P w) a vs
 | .dT kvs=>kvs.length<=sizeLine/\(a == sysModules)=false/\∃xs:List (List Key × Addr × Value),
   Paired (fun (p:List Key × V) (q:List Key × Addr × Value)=>p.1=q.1/\H q.2.1=some (.tup (p.1.map kV))/\aR p.2 q.2.2) kvs xs /\
   ∃o es ep,h.get? a=some o/\o.ExactDict/\o.data=.dict es ep/\es.toList=xs.map (entryOfKey (tupleKind (uI P w)))/\(xs.map (·.1)).Nodup
 | .set S n=>h.SetOf (intKind P w) a S n
 | .ins C dx fs=>H dx=some (.own a)/\fs.length<=1000/\dx≠a/\h.get? a=some (PySem.W.instObj C dx) /\
   ∃mA,h.Ns1 dx mA/\(∀f,RelO (fs.lookup f) (mA f))/\PySem.Within mA (fs.map (·.1))
 | .own _=>∃o,h.get? a=some o
 | .xd fs=>∃mA,h.Ns1 a mA/\∀f,RelO (fs.lookup f) (mA f)
 | .rng lo hi=>∃t u v,h.get? a=some { cls:=.type "range",data:=.fields #[.int lo t,.int hi u,.int 1 v]}
 | .frz o u=>h.get? a=some o/\ObjOk H h a u
 | .tbl ps=>h.get? a=some { cls:=.none,data:=.fields ps}
 | .met f x=>h.get? a=some (PySem.W.methodObj (.ref f) (.ref x))
 | .ext φ=>φ h/\(∃o,h.get? a=some o)/\∀h1 h2:Heap,φ h1->(∀o,h1.get? a=some o->h2.get? a=some o)->φ h2
def HOk(H:Hp)(h:Heap):Prop:=∀a o,H a=some o->ObjOk P w H h a o
end
section
variable {P:Program} {w:World} {H H':Hp} {h h':Heap} {a:Addr} {o:HO}
def ObjOk.lt(x:ObjOk P w H h a o):a<h.objs.size:=by
 cases o with
 | lst xs=>obtain⟨_,_,_,_,e⟩:=x;exact qam e
 | tup xs=>obtain⟨_,_,_,p⟩:=x;exact p.lt
 | dK kvs=>obtain⟨_,_,_,_,o,_,_,e,_⟩:=x;exact qam e
 | dT kvs=>obtain⟨_,_,_,_,o,_,_,e,_⟩:=x;exact qam e
 | set S n=>obtain⟨o,_,_,_,e,_⟩:=x;exact qam e
 | ins C dx fs=>obtain⟨_,_,_,e,_⟩:=x;exact qam e
 | own y=>obtain⟨_,e⟩:=x;exact qam e
 | xd fs=>obtain⟨_,⟨_,_,_,e,_⟩,_⟩:=x;exact qam e
 | rng lo hi=>obtain⟨_,_,_,e⟩:=x;exact qam e
 | frz ob u=>obtain⟨e,_⟩:=x;exact qam e
 | tbl ps=>exact qam (show h.get? a=some _ from x)
 | met f y=>exact qam (show h.get? a=some _ from x)
 | ext φ=>obtain⟨_,⟨_,e⟩,_⟩:=x;exact qam e
def Paired.mapP{α β:Type}{F G:α->β->Prop}{l₁:List α}{l₂:List β}(r:Paired F l₁ l₂)(f:∀a b,F a b->G a b):Paired G l₁ l₂:=by
 induction r with
 | nil=>exact .nil
 | cons r t ih=>exact .cons (f _ _ r) ih
def ObjOk.stay(x:ObjOk P w H h a o)(k:∀b u,(b=a\/H b=some (.own a))->h.get? b=some u->h'.get? b=some u)
  (ho:∀b,H b=some (.own a)->H' b=some (.own a)) (ht:∀b xs,H b=some (.tup xs)->H' b=some (.tup xs)):ObjOk P w H' h' a o:=by
 induction o with
 | lst xs=>obtain⟨z,its,n,r,e⟩:=x;exact⟨z,its,n,r,k _ _ (.inl rfl) e⟩
 | tup xs=>obtain⟨z,its,r,ob,e,c⟩:=x;exact⟨z,its,r,ob,k _ _ (.inl rfl) e,c⟩
 | dK kvs=>obtain⟨z,y,vs,r,ob,es,ep,e,c⟩:=x;exact⟨z,y,vs,r,ob,es,ep,k _ _ (.inl rfl) e,c⟩
 | dT kvs =>
  obtain⟨z,y,xs,r,ob,es,ep,e,c⟩:=x;exact⟨z,y,xs,Paired.mapP r fun p q z=>⟨z.1,ht _ _ z.2.1,z.2.2⟩,ob,es,ep,k _ _ (.inl rfl) e,c⟩
 | set S n=>obtain⟨ob,es,ep,t,e,c⟩:=x;exact⟨ob,es,ep,t,k _ _ (.inl rfl) e,c⟩
 | ins C dx fs =>
  obtain⟨d,z,ne,e,mA,⟨od,es,ep,e2,c⟩,r⟩:=x;exact⟨ho _ d,z,ne,k _ _ (.inl rfl) e,mA,⟨od,es,ep,k _ _ (.inr d) e2,c⟩,r⟩
 | own y=>obtain⟨ob,e⟩:=x;exact⟨ob,k _ _ (.inl rfl) e⟩
 | xd fs=>obtain⟨mA,⟨od,es,ep,e,c⟩,r⟩:=x;exact⟨mA,⟨od,es,ep,k _ _ (.inl rfl) e,c⟩,r⟩
 | rng lo hi=>obtain⟨t,u,v,e⟩:=x;exact⟨t,u,v,k _ _ (.inl rfl) e⟩
 | frz ob u ih=>obtain⟨e,q⟩:=x;exact⟨k _ _ (.inl rfl) e,ih q⟩
 | tbl ps =>
  have e:h.get? a=some { cls:=.none,data:=.fields ps}:=x;show h'.get? a=some { cls:=.none,data:=.fields ps};exact k a _ (.inl rfl) e
 | met f y =>
  have e:h.get? a=some (PySem.W.methodObj (.ref f) (.ref y)):=x;show h'.get? a=some (PySem.W.methodObj (.ref f) (.ref y));exact k a _ (.inl rfl) e
 | ext φ=>obtain⟨p,⟨o,e⟩,st⟩:=x;exact⟨st _ _ p fun o q=>k _ _ (.inl rfl) q,⟨o,k _ _ (.inl rfl) e⟩,st⟩
def HOk.lt(x:HOk P w H h)(e:H a=some o):a<h.objs.size:=(x a o e).lt
def HOk.fresh(x:HOk P w H h)(e:h.objs.size<=a):H a=none:=by
 cases q:H a with
 | none=>rfl
 | some u=>exact absurd (qau (x.lt q) e) (qaQ _)
def HOk.kept(x:HOk P w H h)(k:∀b u,h.get? b=some u->h'.get? b=some u):HOk P w H h':=fun a o e =>
 (x a o e).stay (fun b u _ q=>k b u q) (fun _ q=>q) fun _ _ q=>q
def HOk.laid(x:HOk P w H h)(k:∀b u,h.get? b=some u->h'.get? b=some u)(hp:h.objs.size<=a)(new:ObjOk P w (upd H a o) h' a o):HOk P w (upd H a o) h':=fun b u e=>by
 have hn:=x.fresh hp;by_cases hb:b=a
 ·subst hb;rw[bC] at e;cases e;exact new
 ·rw[aV hb] at e;exact (x b u e).stay (fun c v _ q=>k c v q) (fun c q=>by rw[aV (bK q hn)];exact q) fun c xs q=>by rw[aV (bK q hn)];exact q
end
def Rd(H:Hp)(a:Addr)(u:HO):Prop:=H a=some u\/∃o,H a=some (.frz o u)
def Rd.ok(r:Rd H a u)(x:HOk P w H h):ObjOk P w H h a u:=by
 rcases r with r|⟨o,r⟩
 ·exact x a u r
 ·obtain⟨_,q⟩:=x a _ r;exact q
def Mut:Option HO->Prop
 | some (.lst _)=>True
 | some (.dK _)=>True
 | some (.dT _)=>True
 | some (.set _ _)=>True
 | some (.ins _ _ _)=>True
 | some (.ext _)=>True
 | _=>False
section
variable {P:Program} {w:World} {H:Hp} {h h':Heap} {x e:Addr} {o':HO}
def HOk.write(ok:HOk P w H h)(mu:Mut (H x))(he:e=x\/H e=some (.own x))(k:∀b u,b≠e->h.get? b=some u->h'.get? b=some u)(heo:∃u,h'.get? e=some u)
  (new:ObjOk P w (upd H x o') h' x o'):HOk P w (upd H x o') h':=fun b u q=>by
 have nown:∀c y,H c=some (.own y)->c≠x:=fun c y r z=>by subst z;rw[r] at mu;exact mu
 have ntup:∀c xs,H c=some (.tup xs)->c≠x:=fun c xs r z=>by subst z;rw[r] at mu;exact mu
 by_cases hb:b=x
 ·subst hb;rw[bC] at q;cases q;exact new
 ·rw[aV hb] at q;by_cases hbe:b=e
  ·have q':H b=some (.own x):=by
    rcases he with z|z
    ·exact absurd (hbe.trans z) hb
    ·rw[hbe];exact z
   rw[q] at q';cases q';obtain⟨v,hv⟩:=heo;exact⟨v,by rw[hbe];exact hv⟩
  ·refine (ok b u q).stay (fun c v hc r=>k c v ?_ r) (fun c r=>by rw[aV (nown c b r)];exact r) fun c xs r=>by rw[aV (ntup c xs r)];exact r
   rcases hc with rfl|hc
   ·exact hbe
   ·rintro rfl;rcases he with z|z
    ·exact nown c b hc z
    ·rw[hc] at z;cases z;exact hb rfl
end
structure Un (fs ex:List Addr) (H H':Hp) (h h':Heap):Prop where
 keep:∀b o,h.get? b=some o->H b=none->b∉fs->b∉ex->h'.get? b=some o
 slot:∀b o,h.get? b=some o->H b=none->b∈fs->b∉ex->∃sl,h'.get? b=some { o with slots:=sl}
 free:∀b o,h.get? b=some o->H b=none->b∉ex->H' b=none
 there:∀b o,h.get? b=some o->b∉ex->∃o',h'.get? b=some o'
 tups:∀b xs,H b=some (.tup xs)->H' b=some (.tup xs)
 frzs:∀b o u,H b=some (.frz o u)->H' b=some (.frz o u)
 tbls:∀b ps,H b=some (.tbl ps)->∃more,H' b=some (.tbl (ps++more))
section
variable {fs fs' ex ex':List Addr} {H H1 H2:Hp} {h h1 h2 h':Heap} {a x e:Addr} {o:HO}
def Un.any(u:Un fs ex H H1 h h1)(q:h.get? b=some ob)(n:H b=none)(hx:b∉ex):∃sl,h1.get? b=some { ob with slots:=sl}:=by
 by_cases hb:b∈fs
 ·exact u.slot b ob q n hb hx
 ·exact⟨ob.slots,u.keep b ob q n hb hx⟩
def Un.kept(k:∀b u,h.get? b=some u->h'.get? b=some u):Un fs ex H H h h' :=
 ⟨fun b ob q _ _ _=>k b ob q,fun b ob q _ _ _=>⟨ob.slots,k b ob q⟩,fun _ _ _ n _=>n,fun b ob q _=>⟨ob,k b ob q⟩,fun _ _ q=>q,fun _ _ _ q=>q,fun _ ps q=>⟨#[],by rw[q];simp⟩⟩
def Un.refl:Un fs ex H H h h:=Un.kept fun _ _ q=>q
def Un.laid(k:∀b u,h.get? b=some u->h'.get? b=some u)(hp:h.objs.size<=a)(hn:H a=none):Un fs ex H (upd H a o) h h' where
 keep:=fun b u q _ _ _=>k b u q
 slot:=fun b u q _ _ _=>⟨u.slots,k b u q⟩
 free:=fun b u q n _=>by rw[aV (qaL (qau (qam q) hp))];exact n
 there:=fun b u q _=>⟨u,k b u q⟩
 tups:=fun b xs q=>by rw[aV (bK q hn)];exact q
 frzs:=fun b u xs q=>by rw[aV (bK q hn)];exact q
 tbls:=fun b ps q=>⟨#[],by rw[aV (bK q hn),q];simp⟩
def Un.write(mu:Mut (H x))(he:e=x\/H e=some (.own x))(k:∀b u,b≠e->h.get? b=some u->h'.get? b=some u)(heo:∃u,h'.get? e=some u):Un fs ex H (upd H x o) h h':=by
 have hx:∀b,H b=none->b≠x:=fun b n z=>by subst z;rw[n] at mu;exact mu
 have hb:∀b,H b=none->b≠e:=fun b n z=>by
  subst z;rcases he with r|r
  ·exact hx b n r
  ·rw[n] at r;cases r
 have hm:∀b u,H b=some u->¬Mut (some u)->b≠x:=fun b u q nm z=>by subst z;rw[q] at mu;exact nm mu
 refine⟨fun b u q n _ _=>k b u (hb b n) q,fun b u q n _ _=>⟨u.slots,k b u (hb b n) q⟩,fun b u q n _=>by rw[aV (hx b n)];exact n,fun b u q _=>?_,
  fun b xs q=>by rw[aV (hm b _ q fun z=>z)];exact q,fun b u xs q=>by rw[aV (hm b _ q fun z=>z)];exact q,fun b ps q=>⟨#[],by rw[aV (hm b _ q fun z=>z),q];simp⟩⟩
 by_cases hbe:b=e
 ·subst hbe;exact heo
 ·exact⟨u,k b u hbe q⟩
end
def trk(h:Heap)(H:Hp):List Addr:=(List.range h.objs.size).filter fun a=>(H a).isSome
def kh(h:Heap)(H:Hp):Heap:=PySem.W.hideAll h (trk h H)
def xW(h:Heap)(H:Hp):(kh h H).objs.size=h.objs.size:=PySem.W.hideAll_size _ _
def zp(e:h.get? b=some o)(n:H b=none):(kh h H).get? b=some o :=
 PySem.W.hideAll_get _ e fun hm=>by
  have q:(H b).isSome=true:=(qbz.mp hm).2;rw[n] at q;simp at q
def of_hidT(e:(kh h H).get? b=some o):h.get? b=some o/\H b=none:=by
 have e':h.get? b=some o:=PySem.W.of_hideAll (trk h H) e;refine⟨e',?_⟩
 cases q:H b with
 | none=>rfl
 | some x =>
  have hm:b∈trk h H:=qbz.mpr ⟨qcB.mpr (qam e'),by simp[q]⟩;have z:(kh h H).get? b=none:=PySem.W.hideAll_none (trk h H) hm;rw[z] at e;cases e
structure Mod (K:qab) (mg:Str->Option Value) (base:Heap):Prop where
 kin:K.In base
 glob:base.Ns mainGlobals mg
 blt:∃mb,base.Ns builtinsNs mb/\∀x:Str,x≠"__name__"->mb x=bootBuiltins x
 nolimit:base.NoLimit
structure Cx where
 prog:Program
 w:World
 K:qab
 mg:Str->Option Value
 base:Heap
 A:Around
 N:List Str
 s₀:Shared
 H₀:Hp
 env:Env
 outer:List Env
 stack:List Env
 ex:List Addr
 fn:Str->Bool
 calm:Bool
 pn:List (Addr × Obj)
 xe:Value->Shared->Prop
def frs(l:List Env):List Addr:=l.filterMap (·.frame)
abbrev Cx.fs(X:Cx):List Addr:=frs X.outer
def Vis(sc:Scope)(x:Str):Prop:=sc.names.lookup x=some .local\/sc.names.lookup x=some .cell\/sc.names.lookup x=some .free
def Loc(sc:Scope)(x:Str):Prop:=sc.names.lookup x=some .local\/sc.names.lookup x=some .cell
def Look(env:Env)(h:Heap)(m:Str->Option Value)(x:Str)(u:Value):Prop :=
 (env.kindOf x=some .local/\m x=some u)\/((env.kindOf x=some .cell\/env.kindOf x=some .free)/\∃c,env.cells.lookup x=some c/\h.IsCell c (some u))
structure Cx.Ok (X:Cx):Prop where
 mod:Mod X.K X.mg X.base
 kind:X.env.scope.kind=.function
 glob:X.env.globals=mainGlobals
 blt:X.env.builtins=builtinsNs
 above:X.s₀.heap.objs.size<=X.env.locals
 inj:∀x y c,X.env.cells.lookup x=some c->X.env.cells.lookup y=some c->x=y
 has:∀x,(X.env.kindOf x=some .cell\/X.env.kindOf x=some .free)->∃c,X.env.cells.lookup x=some c
 cab:∀x c,X.fn x=true->X.env.cells.lookup x=some c->X.s₀.heap.objs.size<=c
 hd:X.calm=true->X.A.handled=none
 frames:X.A.frames=some X.stack
 stk:X.stack=X.outer\/(X.stack=X.env::X.outer/\X.env.frame=some X.env.locals)
 exf:∀b∈X.ex,b≠X.env.locals/\∀x c,X.env.cells.lookup x=some c->c≠b
 bs:∀b o,X.base.get? b=some o->X.s₀.heap.get? b=some o/\X.H₀ b=none
 bsz:X.base.objs.size<=X.s₀.heap.objs.size
 noex:∀b o,X.base.get? b=some o->b∉X.ex
 exfs:∀b∈X.ex,b∉X.fs
 funs:X.s₀.heap.FunFrames X.base X.outer
 frf:∀b∈X.fs,X.H₀ b=none
structure Inv (X:Cx) (G6:List (Addr × Obj)) (σ:List (Option V)) (H:Hp) (s:Shared):Prop where
 ok:X.Ok
 os:s.os=X.s₀.os
 bare:AllBare s.gens
 base:Un X.fs X.ex X.H₀ H X.s₀.heap s.heap
 loc:∃m,s.heap.Ns X.env.locals m/\∀(i:Nat) (x:Str) (v:V),X.N[i]?=some x->σ[i]?=some (some v)->Vis X.env.scope x->∃u,aR v u/\Look X.env s.heap m x u
 cell:∀x c,X.env.cells.lookup x=some c->∃v,s.heap.IsCell c v
 free:H X.env.locals=none
 freeC:∀x c,X.env.cells.lookup x=some c->H c=none
 pin:∀p∈X.pn++G6,s.heap.get? p.1=some p.2/\H p.1=none/\p.1≠X.env.locals/\p.1∉X.fs/\∀v,p.2.data≠.cell v
 hok:HOk X.prog X.w H s.heap
 len:σ.length=X.N.length
section
variable {X:Cx} {G6:List (Addr × Obj)} {σ:List (Option V)} {H H':Hp} {s:Shared} {h':Heap}
def Cx.Ok.nofr(ok:X.Ok)(e:X.base.get? b=some o):b∉X.fs:=fun hb=>by
 have:=(ok.funs.mem hb).1
 rw[e] at this;cases this
def Inv.bs(I:Inv X G6 σ H s):∀b o,X.base.get? b=some o->s.heap.get? b=some o/\H b=none:=fun b o e =>
 ⟨I.base.keep b o (I.ok.bs b o e).1 (I.ok.bs b o e).2 (I.ok.nofr e) (I.ok.noex b o e),I.base.free b o (I.ok.bs b o e).1 (I.ok.bs b o e).2 (I.ok.noex b o e)⟩
def Inv.bk(I:Inv X G6 σ H s):∀b o,X.base.get? b=some o->s.heap.get? b=some o:=fun b o e=>(I.bs b o e).1
def Inv.mod(I:Inv X G6 σ H s):Mod X.K X.mg X.base:=I.ok.mod
def Inv.kIn(I:Inv X G6 σ H s):X.K.In s.heap:=I.ok.mod.kin.keeps I.bk
def Inv.lt(I:Inv X G6 σ H s):X.env.locals<s.heap.objs.size:=let ⟨_,hn,_⟩:=I.loc;hn.lt
def Inv.sz(I:Inv X G6 σ H s):X.s₀.heap.objs.size<=s.heap.objs.size:=qax I.ok.above (qbG I.lt)
def Inv.nofs(I:Inv X G6 σ H s){a:Addr}(h:s.heap.objs.size<=a):a∉X.fs:=fun hb=>by
 obtain⟨_,o,ho,_⟩:=I.ok.funs.mem hb;exact absurd (qau (qam ho) (qax I.sz h)) (qaQ _)
def Inv.cne(I:Inv X G6 σ H s):∀x c,X.env.cells.lookup x=some c->c≠X.env.locals:=fun x c e z=>by
 obtain⟨v,o,ho,hd⟩:=I.cell x c e;obtain⟨m,⟨o',es,ep,ho',hd',_⟩,_⟩:=I.loc;rw[z,ho'] at ho;cases ho;rw[hd'] at hd;cases hd
def Inv.funs(I:Inv X G6 σ H s):s.heap.FunFrames X.base X.outer:=by
 have all:∀(l:List Env),(∀b∈frs l,b∈X.fs)->X.s₀.heap.FunFrames X.base l->s.heap.FunFrames X.base l:=by
  intro l
  induction l with
  | nil=>intro _ _;trivial
  | cons env r ih =>
   intro hs hl;obtain⟨hk,⟨L,o,hf,hn,ho,hd⟩,hr⟩:=hl;have hL:L∈X.fs:=hs L (by unfold frs;rw[qbW,hf];exact qaC);obtain⟨sl,e⟩:=I.base.slot L o ho (I.ok.frf L hL) hL fun z=>I.ok.exfs L z hL;exact⟨hk,⟨L,_,hf,hn,e,hd⟩,ih (fun b hb=>hs b (by unfold frs;rw[qbW,hf];exact qal _ hb)) hr⟩
 exact all X.outer (fun _ hb=>hb) I.ok.funs
def Inv.stack(I:Inv X G6 σ H s):s.heap.FunFrames X.base X.stack:=by
 rcases I.ok.stk with e|⟨e,hf⟩
 ·rw[e];exact I.funs
 ·rw[e];obtain⟨m,hn,_⟩:=I.loc;refine .cons (by rw[I.ok.kind];decide) hf hn ?_ I.funs;exact Heap.get?_none_of_le (qax I.ok.bsz I.ok.above)
def Inv.stkSub(I:Inv X G6 σ H s):∀b∈frs X.stack,b∈X.env.locals::X.fs:=fun b hb=>by
 rcases I.ok.stk with e|⟨e,hf⟩
 ·rw[e] at hb;exact qal _ hb
 ·rw[e] at hb;unfold frs at hb;rw[qbW,hf] at hb;exact hb
def Inv.stkFree(I:Inv X G6 σ H s):∀b∈frs X.stack,H b=none:=fun b hb=>by
 rcases qaj.mp (I.stkSub b hb) with e|hb
 ·rw[e];exact I.free
 ·obtain⟨_,o,ho,_⟩:=I.ok.funs.mem hb;exact I.base.free b o ho (I.ok.frf b hb) fun z=>I.ok.exfs b z hb
def Inv.step{g':Array GenState}{t':Nat}{d':Drawn}{ch:List Addr}(I:Inv X G6 σ H s)
  (hch:∀b∈ch,(b∈X.ex\/X.s₀.heap.objs.size<=b)/\b≠X.env.locals/\(∀x c,X.env.cells.lookup x=some c->c≠b)/\∀p∈X.pn++G6,p.1≠b)
  (keep:∀b o,b≠X.env.locals->b∉X.fs->b∉ch->s.heap.get? b=some o->H b=none->h'.get? b=some o)
  (slot:∀b o,b≠X.env.locals->b∈X.fs->b∉ch->s.heap.get? b=some o->H b=none->∃sl,h'.get? b=some { o with slots:=sl}) (free:∀b o,b∉ch->s.heap.get? b=some o->H b=none->H' b=none)
  (there:∀b o,b∉ch->s.heap.get? b=some o->∃o',h'.get? b=some o')
  (tups:∀b xs,H b=some (.tup xs)->H' b=some (.tup xs)) (frzs:∀b o u,H b=some (.frz o u)->H' b=some (.frz o u)) (tbls:∀b ps,H b=some (.tbl ps)->∃more,H' b=some (.tbl (ps++more)))
  (ns:∀m,s.heap.Ns X.env.locals m->h'.Ns X.env.locals m) (hok:HOk X.prog X.w H' h') (hg:AllBare g') :
  Inv X G6 σ H' { s with heap:=h',gens:=g',drawn:=d',toks:=t'}:=by
 have neL:∀b o,X.s₀.heap.get? b=some o->b≠X.env.locals:=fun b o e=>qaL (qau (qam e) I.ok.above);have neC:∀b o,X.s₀.heap.get? b=some o->b∉X.ex->b∉ch:=fun b o e hx hb=>by
  rcases (hch b hb).1 with z|z
  ·exact hx z
  ·exact absurd (qau (qam e) z) (qaQ _)
 have cellK:∀x c,X.env.cells.lookup x=some c->∀v,s.heap.IsCell c v->h'.IsCell c v:=fun x c e v ⟨o,ho,hd⟩=>by
  have nch:c∉ch:=fun z=>(hch c z).2.2.1 x c e rfl;by_cases hc:c∈X.fs
  ·obtain⟨sl,q⟩:=slot c o (I.cne x c e) hc nch ho (I.freeC x c e);exact⟨_,q,hd⟩
  ·exact⟨o,keep c o (I.cne x c e) hc nch ho (I.freeC x c e),hd⟩
 refine⟨I.ok,I.os,hg,⟨fun b o e n hb hx=>?_,fun b o e n hb hx=>?_,fun b o e n hx=>?_,fun b o e hx=>?_,fun b xs e=>tups b xs (I.base.tups b xs e),fun b o xs e=>frzs b o xs (I.base.frzs b o xs e),fun b ps e=>?_⟩,?_,fun x c e=>?_,?_,fun x c e=>?_,fun p hp=>?_,hok,I.len⟩
 ·exact keep b o (neL b o e) hb (neC b o e hx) (I.base.keep b o e n hb hx) (I.base.free b o e n hx)
 ·obtain⟨sl,e1⟩:=I.base.slot b o e n hb hx;obtain⟨sl',e2⟩:=slot b _ (neL b o e) hb (neC b o e hx) e1 (I.base.free b o e n hx);exact⟨sl',e2⟩
 ·obtain⟨o',e1⟩:=I.base.there b o e hx;exact free b o' (neC b o e hx) e1 (I.base.free b o e n hx)
 ·obtain⟨o',e1⟩:=I.base.there b o e hx;exact there b o' (neC b o e hx) e1
 ·obtain⟨m1,e1⟩:=I.base.tbls b ps e;obtain⟨m2,e2⟩:=tbls b _ e1;exact⟨m1++m2,by rw[e2,Array.append_assoc]⟩
 ·obtain⟨m,hn,hl⟩:=I.loc;refine⟨m,ns m hn,fun i x v e1 e2 e3=>?_⟩;obtain⟨u,r,l⟩:=hl i x v e1 e2 e3;refine⟨u,r,?_⟩;rcases l with l|⟨k,c,e,z⟩
  ·exact .inl l
  ·exact .inr ⟨k,c,e,cellK x c e _ z⟩
 ·obtain⟨v,z⟩:=I.cell x c e;exact⟨v,cellK x c e v z⟩
 ·obtain⟨m,⟨o,_,_,ho,_⟩,_⟩:=I.loc;exact free _ o (fun z=>(hch _ z).2.1 rfl) ho I.free
 ·obtain⟨v,o,ho,hd⟩:=I.cell x c e;exact free c o (fun z=>(hch c z).2.2.1 x c e rfl) ho (I.freeC x c e)
 ·obtain⟨e,n,ne,nf,d⟩:=I.pin p hp;have nch:p.1∉ch:=fun z=>(hch p.1 z).2.2.2 p hp rfl;exact⟨keep p.1 p.2 ne nf nch e n,free p.1 p.2 nch e n,ne,nf,d⟩
def Inv.un{t':Nat}(I:Inv X G6 σ H s)(u:Un X.fs [] H H' s.heap h')(hok:HOk X.prog X.w H' h'):Inv X G6 σ H' { s with heap:=h',toks:=t'}:=by
 obtain⟨m,⟨o,es,ep,ho,r⟩,_⟩:=id I.loc;obtain⟨sl,hL⟩:=u.any ho I.free (by simp)
 exact I.step (g':=s.gens) (d':=s.drawn) (ch:=[]) (fun _ z=>nomatch z) (fun b o _ hb _ e n=>u.keep b o e n hb (by simp)) (fun b o _ hb _ e n=>u.slot b o e n hb (by simp)) (fun b o _ e n=>u.free b o e n (by simp)) (fun b o _ e=>u.there b o e (by simp)) u.tups u.frzs u.tbls (fun m' hm=>by
  obtain⟨o',es',ep',ho',r'⟩:=hm;rw[ho] at ho';cases ho'
  exact⟨_,es',ep',hL,r'⟩) hok I.bare
def Inv.call{g':Array GenState}{t':Nat}{d':Drawn}{ch:List Addr}(I:Inv X G6 σ H s)(u:Un (frs X.stack) ch H H' s.heap h')(hok:HOk X.prog X.w H' h')(hg:AllBare g')
  (hch:∀b∈ch,(b∈X.ex\/X.s₀.heap.objs.size<=b)/\b≠X.env.locals/\(∀x c,X.env.cells.lookup x=some c->c≠b)/\∀p∈X.pn++G6,p.1≠b) :
  Inv X G6 σ H' { s with heap:=h',gens:=g',drawn:=d',toks:=t'}:=by
 obtain⟨m,⟨o,es,ep,ho,r⟩,_⟩:=id I.loc;obtain⟨sl,hL⟩:=u.any ho I.free fun z=>(hch _ z).2.1 rfl
 exact I.step (ch:=ch) hch (fun b o hL hb hc e n=>u.keep b o e n (fun z=>(qaj.mp (I.stkSub b z)).elim hL hb) hc) (fun b o _ _ hc e n=>u.any e n hc) (fun b o hc e n=>u.free b o e n hc) (fun b o hc e=>u.there b o e hc) u.tups u.frzs u.tbls (fun m' hm=>by
  obtain⟨o',es',ep',ho',r'⟩:=hm;rw[ho] at ho';cases ho'
  exact⟨_,es',ep',hL,r'⟩) hok hg
def Inv.turned{t':Nat}{it:Addr}(I:Inv X G6 σ H s)(k:∀b o,b≠it->s.heap.get? b=some o->h'.get? b=some o)(hn:H it=none)(hL:it≠X.env.locals)
  (h1:it∈X.ex\/X.s₀.heap.objs.size<=it) (h2:∀x c,X.env.cells.lookup x=some c->c≠it) (h3:∀p∈X.pn++G6,p.1≠it):Inv X G6 σ H { s with heap:=h',toks:=t'}:=by
 have nit:∀b u,H b=some u->b≠it:=fun b u e z=>by rw[z,hn] at e;cases e
 refine I.step (g':=s.gens) (d':=s.drawn) (ch:=[it]) (fun b hb=>?_) (fun b o _ _ hc e _=>k b o (fun z=>hc (by simp[z])) e) (fun b o _ _ hc e _=>⟨o.slots,k b o (fun z=>hc (by simp[z])) e⟩) (fun _ _ _ _ n=>n)
  (fun b o hc e=>⟨o,k b o (fun z=>hc (by simp[z])) e⟩) (fun _ _ e=>e) (fun _ _ _ e=>e) (fun b ps e=>⟨#[],by rw[e];simp⟩) (fun m hm=>?_) (fun b u e=>?_) I.bare
 ·have e:b=it:=by simpa using hb
  subst e;exact⟨h1,hL,h2,h3⟩
 ·obtain⟨o,es,ep,ho,r⟩:=hm;exact⟨o,es,ep,k _ o (Ne.symm hL) ho,r⟩
 ·refine (I.hok b u e).stay (fun c v hc q=>k c v ?_ q) (fun _ q=>q) fun _ _ q=>q;rcases hc with z|z
  ·rw[z];exact nit b u e
  ·exact nit c _ z
def Inv.tok(I:Inv X G6 σ H s)(t:Nat):Inv X G6 σ H { s with toks:=t}:=I.un (h':=s.heap) (t':=t) Un.refl I.hok
def Inv.kept(I:Inv X G6 σ H s)(k:∀b u,s.heap.get? b=some u->h'.get? b=some u):Inv X G6 σ H { s with heap:=h',toks:=t'}:=I.un (Un.kept k) (I.hok.kept k)
def Inv.laid{a:Addr}{o:HO}{t':Nat}(I:Inv X G6 σ H s)(k:∀b u,s.heap.get? b=some u->h'.get? b=some u)(hp:s.heap.objs.size<=a)(new:ObjOk X.prog X.w (upd H a o) h' a o) :
  Inv X G6 σ (upd H a o) { s with heap:=h',toks:=t'}:=I.un (Un.laid k hp (I.hok.fresh hp)) (I.hok.laid k hp new)
def Inv.write(I:Inv X G6 σ H s)(mu:Mut (H x))(he:e=x\/H e=some (.own x))(k:∀b u,b≠e->s.heap.get? b=some u->h'.get? b=some u)(heo:∃u,h'.get? e=some u)
  (new:ObjOk X.prog X.w (upd H x o) h' x o):Inv X G6 σ (upd H x o) { s with heap:=h',toks:=t'}:=I.un (Un.write mu he k heo) (I.hok.write mu he k heo new)
def Inv.pins_of(I:Inv X G6 σ H s)(h:∀p∈pins',s.heap.get? p.1=some p.2/\H p.1=none/\p.1≠X.env.locals/\p.1∉X.fs/\∀v,p.2.data≠.cell v):Inv X pins' σ H s :=
 ⟨I.ok,I.os,I.bare,I.base,I.loc,I.cell,I.free,I.freeC,fun p hp=>(qap.mp hp).elim (fun z=>I.pin p (qay _ z)) (h p),I.hok,I.len⟩
def m8{N:List Str}(hN:N.Nodup){i j:Nat}{x:Str}(a:N[i]?=some x)(b:N[j]?=some x):i=j:=by
 obtain⟨h1,e1⟩:=qaf.mp a;obtain⟨h2,e2⟩:=qaf.mp b;exact (List.getElem_inj hN).mp (e1.trans e2.symm)
def xQ{M:Model}{A:Around}{E:Value->Shared->Prop}{i:Nat}{x:Str}{v:V}{u:Value}{Q:Unit->Shared->Prop}(I:Inv X G6 σ H s)(hN:X.N.Nodup)(hi:X.N[i]?=some x)(hx:Loc X.env.scope x)(r:aR v u)
  (h:∀s',Inv X G6 (σ.set i (some v)) H s'->(∃a,Heap.SameBut a s.heap s'.heap/\(a=X.env.locals\/X.env.cells.lookup x=some a))->Q () s') (hf:X.fn x=true\/X.env.scope.names.lookup x=some .local:=by first | exact .inl rfl | exact .inr rfl | assumption):wpAny M A (storeName X.env x u) Q E s:=by
 obtain⟨m,hn,hl⟩:=id I.loc;have hcls:(X.env.scope.kind == .class || (X.env.scope.kind == .module && X.env.locals != X.env.globals))=false:=by rw[I.ok.kind];rfl
 have hiσ:i<σ.length:=by rw[I.len];exact (qaf.mp hi).1
 have cne:=I.cne;have tracked:∀{a:Addr} {h':Heap},(∃o,s.heap.get? a=some o/\H a=none)->Heap.SameBut a s.heap h'->HOk X.prog X.w H h':=fun {a h'} ha hs b ob e=>by
  obtain⟨_,_,hfree⟩:=ha;refine (I.hok b ob e).stay (fun c w' hc q=>(hs.2 c ?_).trans q) (fun _ q=>q) fun _ _ q=>q;rintro rfl;rcases hc with rfl|hc
  ·rw[hfree] at e;cases e
  ·rw[hfree] at hc;cases hc
 rcases hx with hk|hk
 ·refine wpAny_storeName_local hk hn (fun h' hn' hs=>?_) hcls;obtain⟨oL,_,_,hoL,_⟩:=id hn;refine h _ ⟨I.ok,I.os,I.bare,⟨fun b o e n hb hx=>?_,fun b o e n hb hx=>?_,I.base.free,fun b o e hx=>?_,I.base.tups,I.base.frzs,I.base.tbls⟩,⟨_,hn',fun j y v' e1 e2 e3=>?_⟩,fun y c e=>?_,I.free,I.freeC,fun p hp=>?_,tracked ⟨oL,hoL,I.free⟩ hs,by simpa using I.len⟩ ⟨_,hs,.inl rfl⟩
  ·exact (hs.2 b (qaL (qau (qam e) I.ok.above))).trans (I.base.keep b o e n hb hx)
  ·obtain⟨sl,e1⟩:=I.base.slot b o e n hb hx;exact⟨sl,(hs.2 b (qaL (qau (qam e) I.ok.above))).trans e1⟩
  ·obtain⟨o',e1⟩:=I.base.there b o e hx;exact⟨o',(hs.2 b (qaL (qau (qam e) I.ok.above))).trans e1⟩
  ·by_cases hj:j=i
   ·subst hj;rw[hi] at e1;cases e1;rw[qat hiσ] at e2;cases e2;exact⟨u,r,.inl ⟨hk,by simp⟩⟩
   ·rw[qah (Ne.symm hj)] at e2;obtain⟨u',r',q⟩:=hl j y v' e1 e2 e3;refine⟨u',r',?_⟩;rcases q with ⟨k,e⟩|⟨k,c,e,z⟩
    ·refine .inl ⟨k,?_⟩
     have:y≠x:=fun e=>hj (m8 hN e1 (e▸hi))
     simp[this,e]
    ·exact .inr ⟨k,c,e,z.sameBut hs (cne y c e)⟩
  ·obtain⟨w',z⟩:=I.cell y c e;exact⟨w',z.sameBut hs (cne y c e)⟩
  ·obtain⟨e,n,ne,nf,d⟩:=I.pin p hp;exact⟨(hs.2 p.1 ne).trans e,n,ne,nf,d⟩
 ·have hfn:X.fn x=true:=by
   rcases hf with z|z
   ·exact z
   ·rw[z] at hk;cases hk
  obtain⟨c,hc⟩:=I.ok.has x (.inl hk);obtain⟨w',z⟩:=I.cell x c hc;refine wpAny_storeName_cell I.ok.kind hk hc z (fun h' hc' hs=>?_);obtain⟨oc,hoc,hocd⟩:=id z;refine h { s with heap:=h'} ⟨I.ok,I.os,I.bare,⟨fun b o e n hb hx=>?_,fun b o e n hb hx=>?_,I.base.free,fun b o e hx=>?_,I.base.tups,I.base.frzs,I.base.tbls⟩,⟨m,hn.sameBut hs (Ne.symm (cne x c hc)),fun j y v' e1 e2 e3=>?_⟩,fun y c' e=>?_,I.free,I.freeC,fun p hp=>?_,tracked ⟨oc,hoc,I.freeC x c hc⟩ hs,by simpa using I.len⟩ ⟨c,hs,.inr hc⟩
  ·exact (hs.2 b (qaL (qau (qam e) (I.ok.cab x c hfn hc)))).trans (I.base.keep b o e n hb hx)
  ·obtain⟨sl,e1⟩:=I.base.slot b o e n hb hx;exact⟨sl,(hs.2 b (qaL (qau (qam e) (I.ok.cab x c hfn hc)))).trans e1⟩
  ·obtain⟨o',e1⟩:=I.base.there b o e hx;exact⟨o',(hs.2 b (qaL (qau (qam e) (I.ok.cab x c hfn hc)))).trans e1⟩
  ·by_cases hj:j=i
   ·subst hj;rw[hi] at e1;cases e1;rw[qat hiσ] at e2;cases e2;exact⟨u,r,.inr ⟨.inl hk,c,hc,hc'⟩⟩
   ·rw[qah (Ne.symm hj)] at e2;obtain⟨u',r',q⟩:=hl j y v' e1 e2 e3;refine⟨u',r',?_⟩;rcases q with q|⟨k,c',e,z'⟩
    ·exact .inl q
    ·refine .inr ⟨k,c',e,z'.sameBut hs ?_⟩;rintro rfl;exact hj (m8 hN e1 (I.ok.inj _ _ _ e hc▸hi))
  ·by_cases hcc:c'=c
   ·subst hcc;exact⟨_,hc'⟩
   ·obtain⟨w2,z2⟩:=I.cell y c' e;exact⟨w2,z2.sameBut hs hcc⟩
  ·obtain⟨e,n,ne,nf,d⟩:=I.pin p hp;refine⟨(hs.2 p.1 ?_).trans e,n,ne,nf,d⟩;intro q;rw[q,hoc] at e;have q':oc=p.2:=Option.some.inj e;exact d w' (by rw[<-q'];exact hocd)
def iw(I:Inv X G6 σ H s)(hN:X.N.Nodup)(hi:X.N[i]?=some x)(hx:Loc X.env.scope x)(r:aR v u)
  (h:∀s',Inv X G6 (σ.set i (some v)) H s'->Q () s') (hf:X.fn x=true\/X.env.scope.names.lookup x=some .local:=by first | exact .inl rfl | exact .inr rfl | assumption):wpAny M A (storeName X.env x u) Q E s :=
 xQ I hN hi hx r (fun s' I' _=>h s' I') hf
def Inv.call'(I:Inv X G6 σ H s)(ho:s'.os=s.os)(u:Un (frs X.stack) ch H H' s.heap s'.heap)(hok:HOk X.prog X.w H' s'.heap)(hg:AllBare s'.gens)
  (hch:∀b∈ch,(b∈X.ex\/X.s₀.heap.objs.size<=b)/\b≠X.env.locals/\(∀x c,X.env.cells.lookup x=some c->c≠b)/\∀p∈X.pn++G6,p.1≠b):Inv X G6 σ H' s':=by
 obtain⟨h',g',d',t',o'⟩:=s';have e:o'=s.os:=ho;subst e;exact I.call (g':=g') (t':=t') (d':=d') u hok hg hch
end
abbrev XK:=Value->Option Addr->Hp->Prop
abbrev St:=List (Option V)
abbrev VK:=V->Hp->Prop
abbrev TE:=St->Hp->VK->Prop
abbrev TT:=St->Hp->(Bool->Hp->Prop)->Prop
abbrev TA:=St->Hp->(List V->Hp->Prop)->Prop
structure Ends where
 nx:St->Hp->Prop
 rt:VK
 bk:St->Hp->Prop:=fun _ _=>False
 ct:St->Hp->Prop:=fun _ _=>False
abbrev TS:=Ends->St->Hp->Prop
inductive EP (X:Cx) (G6:List (Addr × Obj)) (σ:St) (Q:VK) (u:Value) (s':Shared):Prop
 | mk (v:V) (H':Hp) (i:Inv X G6 σ H' s') (r:aR v u) (q:Q v H'):EP X G6 σ Q u s'
inductive TP (X:Cx) (G6:List (Addr × Obj)) (σ:St) (Q:Bool->Hp->Prop) (b:Bool) (s':Shared):Prop
 | mk (H':Hp) (i:Inv X G6 σ H' s') (q:Q b H'):TP X G6 σ Q b s'
inductive AP (X:Cx) (G6:List (Addr × Obj)) (σ:St) (Q:List V->Hp->Prop) (us:List Value) (s':Shared):Prop
 | mk (vs:List V) (H':Hp) (i:Inv X G6 σ H' s') (r:aF vs us) (q:Q vs H'):AP X G6 σ Q us s'
inductive SN (X:Cx) (G6:List (Addr × Obj)) (Q:St->Hp->Prop) (s':Shared):Prop
 | mk (σ':St) (H':Hp) (i:Inv X G6 σ' H' s') (q:Q σ' H'):SN X G6 Q s'
inductive SR (X:Cx) (G6:List (Addr × Obj)) (Q:VK) (u:Value) (s':Shared):Prop
 | mk (v:V) (σ':St) (H':Hp) (i:Inv X G6 σ' H' s') (r:aR v u) (q:Q v H'):SR X G6 Q u s'
def SP(X:Cx)(G6:List (Addr × Obj))(D:Ends)(f:Flow)(s':Shared):Prop :=
 match f with
 | .next=>SN X G6 D.nx s'
 | .brk=>SN X G6 D.bk s'
 | .cont=>SN X G6 D.ct s'
 | .ret u=>SR X G6 D.rt u s'
def PE(X:Cx)(e:Expr)(t:TE):Prop :=
 ∀(G6:List (Addr × Obj)) (s:Shared) (σ:St) (H:Hp) (Q:VK),Inv X G6 σ H s->t σ H Q->wpAny (model X.prog X.w) X.A (eval e X.env) (EP X G6 σ Q) X.xe s
def PT(X:Cx)(e:Expr)(t:TT):Prop :=
 ∀(G6:List (Addr × Obj)) (s:Shared) (σ:St) (H:Hp) (Q:Bool->Hp->Prop),Inv X G6 σ H s->t σ H Q->wpAny (model X.prog X.w) X.A (isTrue e X.env (eval e X.env)) (TP X G6 σ Q) X.xe s
def PW(X:Cx)(e:Expr)(t:TT):Prop :=
 ∀(whole:Sem Value) (G6:List (Addr × Obj)) (s:Shared) (σ:St) (H:Hp) (Q:Bool->Hp->Prop),Inv X G6 σ H s->t σ H Q->wpAny (model X.prog X.w) X.A (isTrue e X.env whole) (TP X G6 σ Q) X.xe s
def PW.pt(h:PW X e t):PT X e t:=h _
def PA(X:Cx)(es:List Expr)(t:TA):Prop :=
 ∀(pos:Pos) (G6:List (Addr × Obj)) (s:Shared) (σ:St) (H:Hp) (Q:List V->Hp->Prop),Inv X G6 σ H s->t σ H Q->wpAny (model X.prog X.w) X.A (spliced (backTo pos (starEach es X.env))) (AP X G6 σ Q) X.xe s
def PS(X:Cx)(st:Stmt)(t:TS):Prop :=
 ∀(G6:List (Addr × Obj)) (s:Shared) (σ:St) (H:Hp) (D:Ends),Inv X G6 σ H s->t D σ H->wpAny (model X.prog X.w) X.A (exec st X.env) (SP X G6 D) X.xe s
def PSs(X:Cx)(st:List Stmt)(t:TS):Prop :=
 ∀(G6:List (Addr × Obj)) (s:Shared) (σ:St) (H:Hp) (D:Ends),Inv X G6 σ H s->t D σ H->wpAny (model X.prog X.w) X.A (execs st X.env) (SP X G6 D) X.xe s
def thn(h:wpAny M A t Q E s)(hQ:∀a s,Q a s->Q' a s):wpAny M A t Q' E s:=wpAny_mono h hQ fun _ _ x=>x
section
variable {X:Cx}
def tVar(i:Nat):TE:=fun σ H Q=>∃v,σ[i]?=some (some v)/\Q v H
def tC(v:V):TE:=fun _ H Q=>Q v H
def xx{i:Nat}{x:Str}{pos:Pos}(hN:X.N[i]?=some x)(hv:Vis X.env.scope x)(hd:(x == ("__debug__":Str))=false:=by decide)(hcd:(x == ("__classdict__":Str))=false:=by decide):PE X (.Name x pos) (tVar i):=by
 intro G6 s σ H Q I h;obtain⟨v,e,h⟩:=h;obtain⟨m,hn,hl⟩:=I.loc;obtain⟨u,r,l⟩:=hl i x v hN e hv;have fin:EP X G6 σ Q u s:=⟨v,H,I,r,h⟩;rcases l with ⟨hk,hm⟩|⟨hk,c,hc,hcell⟩
 ·exact wpAny_Name (wpAny_loadName_local I.ok.kind hk hn hm fin) hd
 ·rcases hk with hk|hk
  ·exact wpAny_Name (wpAny_loadName_cell I.ok.kind hk hc hcell fin) hd
  ·exact wpAny_Name (wpAny_loadName_free I.ok.kind hk hc hcell fin hcd) hd
def pe_int{i j pos}:PE X (.Constant (.int i) j pos) (tC (.int i)):=fun _ _ _ H _ I h=>wpAny_Constant_int ⟨.int i,H,I.tok _,⟨_,rfl⟩,h⟩
def pe_bl{b j pos}:PE X (.Constant (.bool b) j pos) (tC (.bl b)):=fun _ _ _ H _ I h=>Constant_bool ⟨.bl b,H,I,rfl,h⟩
def pe_non{j pos}:PE X (.Constant .none j pos) (tC .non):=fun _ _ _ H _ I h=>Constant_none ⟨.non,H,I,rfl,h⟩
def pe_str{x j pos}:PE X (.Constant (.str x) j pos) (tC (.str x)):=fun _ _ _ H _ I h=>Calls.Constant_str ⟨.str x,H,I.tok _,⟨_,rfl⟩,h⟩
def Gl(X:Cx)(x:Str):Prop:=X.env.kindOf x=some .globalImplicit
def pN{E:Value->Shared->Prop}{G6:List (Addr × Obj)}{s:Shared}{σ:St}{H:Hp}{x:Str}{u:Value}{pos:Pos}{Q:Value->Shared->Prop}(I:Inv X G6 σ H s)(hg:Gl X x)(hm:X.mg x=some u)(h:Q u s)
  (hd:(x == ("__debug__":Str))=false:=by decide):wpAny (model X.prog X.w) X.A (eval (.Name x pos) X.env) Q E s :=
 Calls.Name_function_global I.ok.kind hg (Calls.loadGlobal_global (by rw[I.ok.glob];exact I.mod.glob.keeps I.bk) hm h) hd
def kZ{E:Value->Shared->Prop}{G6:List (Addr × Obj)}{s:Shared}{σ:St}{H:Hp}{x:Str}{u:Value}{pos:Pos}{Q:Value->Shared->Prop}(I:Inv X G6 σ H s)(hg:Gl X x)(hm:X.mg x=none)(hv:bootBuiltins x=some u)(h:Q u s)
  (hn:x≠"__name__":=by decide) (hd:(x == ("__debug__":Str))=false:=by decide):wpAny (model X.prog X.w) X.A (eval (.Name x pos) X.env) Q E s:=by
 obtain⟨mb,h1,h2⟩:=I.mod.blt;exact Calls.Name_function_global I.ok.kind hg (Calls.loadGlobal_builtin (by rw[I.ok.glob];exact I.mod.glob.keeps I.bk) hm (by rw[I.ok.blt];exact h1.keeps I.bk) ((h2 x hn).trans hv) h) hd
def lR(hg:Gl X x)(hm:X.mg x=some u)(r:aR v u)(hd:(x == ("__debug__":Str))=false:=by decide):PE X (.Name x pos) (tC v) :=
 fun _ _ _ H _ I h=>pN I hg hm ⟨v,H,I,r,h⟩ hd
def mm{x:Str}{v:V}{u:Value}{pos:Pos}(hg:Gl X x)(hm:X.mg x=none)(hv:bootBuiltins x=some u)(r:aR v u)(hn:x≠"__name__":=by decide)(hd:(x == ("__debug__":Str))=false:=by decide):PE X (.Name x pos) (tC v) :=
 fun _ _ _ H _ I h=>kZ I hg hm hv ⟨v,H,I,r,h⟩ hn hd
variable {a b:Expr} {ta tb:TE} {pos:Pos}
def tB(t:TE):TT:=fun σ H Q=>t σ H fun x H1=>∃c,x=.bl c/\Q c H1
def pt_val(h:PE X e t)(he:∀whole,isTrue e X.env whole=(do let v <-whole;standAt e.pos;holding [v] (truthy v)):=by intro _;rfl):PT X e (tB t):=by
 intro G6 s σ H Q I hw;refine isTrue_plain (thn (h G6 s σ H _ I hw) fun v s1 ⟨x,H1,I1,r1,q1⟩=>?_) (he _);obtain⟨d,rfl,q⟩:=q1;cases r1;exact wpAny_truthy_bool ⟨H1,I1,q⟩
variable {tA tB':TT} {rest:List Expr}
def tAnd(t u:TT):TT:=fun σ H Q=>t σ H fun c H1=>if c=true then u σ H1 Q else Q false H1
def tOr(t u:TT):TT:=fun σ H Q=>t σ H fun c H1=>if c=true then Q true H1 else u σ H1 Q
def tNot(t:TT):TT:=fun σ H Q=>t σ H fun c H1=>Q (!c) H1
def pw_and1(ha:PT X a tA):PW X (.BoolOp .And [a] pos) tA:=by
 intro wh G6 s σ H Q I h;refine isTrue_and (thn (ha G6 s σ H Q I h) fun c s1 e=>?_)
 cases c with
 | true=>exact isTrue_and_nil e
 | false=>exact e
def pw_or1(ha:PT X a tA):PW X (.BoolOp .Or [a] pos) tA:=by
 intro wh G6 s σ H Q I h;refine isTrue_or (thn (ha G6 s σ H Q I h) fun c s1 e=>?_)
 cases c with
 | false=>exact isTrue_or_nil e
 | true=>exact e
def pw_and(ha:PT X a tA)(hb:PW X (.BoolOp .And (b::rest) pos) tB'):PW X (.BoolOp .And (a::b::rest) pos) (tAnd tA tB'):=by
 intro wh G6 s σ H Q I h;refine isTrue_and (thn (ha G6 s σ H _ I h) fun c s1 ⟨H1,I1,q1⟩=>?_)
 cases c with
 | true=>exact hb wh G6 s1 σ H1 Q I1 q1
 | false=>exact⟨H1,I1,q1⟩
def pw_or(ha:PT X a tA)(hb:PW X (.BoolOp .Or (b::rest) pos) tB'):PW X (.BoolOp .Or (a::b::rest) pos) (tOr tA tB'):=by
 intro wh G6 s σ H Q I h;refine isTrue_or (thn (ha G6 s σ H _ I h) fun c s1 ⟨H1,I1,q1⟩=>?_)
 cases c with
 | true=>exact⟨H1,I1,q1⟩
 | false=>exact hb wh G6 s1 σ H1 Q I1 q1
def pt_not(ha:PT X a tA):PT X (.UnaryOp .Not a pos) (tNot tA):=by
 intro G6 s σ H Q I h;exact isTrue_not (thn (ha G6 s σ H (fun c H1=>Q (!c) H1) I h) fun _ _ ⟨H1,I1,q⟩=>⟨H1,I1,q⟩)
def tAndV(ta tb:TE):TE:=fun σ H Q=>ta σ H fun x H1=>∃c,x=.bl c/\if c=true then tb σ H1 Q else Q (.bl false) H1
def tNotV(ta:TE):TE:=fun σ H Q=>ta σ H fun x H1=>∃c,x=.bl c/\Q (.bl (!c)) H1
def pe_one{op}(h:PE X a t):PE X (.BoolOp op [a] pos) t:=fun G6 s σ H Q I hw=>BoolOp_one (h G6 s σ H Q I hw)
def pe_and(ha:PE X a ta)(hb:PE X (.BoolOp .And (b::rest) pos) tb):PE X (.BoolOp .And (a::b::rest) pos) (tAndV ta tb):=by
 intro G6 s σ H Q I h;refine BoolOp_and (thn (ha G6 s σ H _ I h) fun v s1 ⟨x,H1,I1,r1,q1⟩=>?_);obtain⟨c,rfl,q1⟩:=q1;cases r1;refine wpAny_truthy_bool ?_
 cases c with
 | true=>exact hb G6 s1 σ H1 Q I1 q1
 | false=>exact⟨.bl false,H1,I1,rfl,q1⟩
def pe_not(ha:PE X a ta):PE X (.UnaryOp .Not a pos) (tNotV ta):=by
 intro G6 s σ H Q I h;refine UnaryOp_ (thn (ha G6 s σ H _ I h) fun v s1 ⟨x,H1,I1,r1,q1⟩=>?_);obtain⟨c,rfl,q1⟩:=q1;cases r1;exact not_of (wpAny_truthy_bool ⟨.bl (!c),H1,I1,rfl,q1⟩)
end
def SqL(K:qab)(H:Hp)(a:Addr)(xs:List V):Prop :=
 Rd H a (.lst xs) \/
  ∃(o:Obj) (its:Array Value) (n:Nat),K.lookup a=some o/\o.cls=.type "list"/\o.dict=none/\o.data=.seq its n/\its.size<=sizeLine/\aF xs its.toList
def SqT(K:qab)(H:Hp)(a:Addr)(xs:List V):Prop :=
 Rd H a (.tup xs) \/
  ∃(o:Obj) (its:Array Value) (n:Nat),K.lookup a=some o/\o.cls=.type "tuple"/\(o.data=.seq its n/\o.dict=none)/\its.size<=sizeLine/\aF xs its.toList
def absV:Value->Option V
 | .none=>some .non
 | .bool b=>some (.bl b)
 | .int i _=>some (.int i)
 | .str x _=>some (.str x)
 | .bytes b _=>some (.byt b)
 | .float b _=>some (.flt b)
 | .ref a=>some (.ref a)
 | .type n=>some (.ty n)
 | _=>none
def aR.abs(r:aR x u):absV u=some x:=by
 cases x with
 | non=>cases r;rfl
 | bl _=>cases r;rfl
 | int _=>obtain⟨t,rfl⟩:=r;rfl
 | str _=>obtain⟨t,rfl⟩:=r;rfl
 | byt _=>obtain⟨t,rfl⟩:=r;rfl
 | flt _=>obtain⟨t,rfl⟩:=r;rfl
 | ref _=>cases r;rfl
 | ty _=>cases r;rfl
def aR.inj(r:aR x u)(q:aR y u):x=y:=Option.some.inj (r.abs.symm.trans q.abs)
def aF.inj(r:aF xs us)(q:aF ys us):xs=ys:=by
 induction r generalizing ys with
 | nil=>cases q;rfl
 | cons r t ih=>cases q with | cons r' t'=>rw[r.inj r',ih t']
section
variable {X:Cx} {G6:List (Addr × Obj)} {σ:St} {H:Hp} {s:Shared} {a:Addr} {xs ys:List V}
def SqL.of{K:qab}(h:H a=some (.lst xs)):SqL K H a xs:=.inl (.inl h)
def SqT.of{K:qab}(h:H a=some (.tup xs)):SqT K H a xs:=.inl (.inl h)
def Inv.list(I:Inv X G6 σ H s)(h:SqL X.K H a xs):∃its:List Value,aF xs its/\PlainL s.heap a its.toArray/\xs.length<=sizeLine:=by
 rcases h with h|⟨o,its,n,hk,hc,hd,hs,hz,r⟩
 ·obtain⟨z,its,n,r,e⟩:=h.ok I.hok;exact⟨its,r,⟨_,n,e,rfl,rfl,rfl⟩,z⟩
 ·refine⟨its.toList,r,⟨o,n,I.kIn a o hk,hc,hd,by simpa using hs⟩,?_⟩;have e:=r.length;simp only[qaW] at e;ext
def Inv.tupleN(I:Inv X G6 σ H s)(h:SqT X.K H a xs):∃its:List Value,aF xs its/\gG s.heap a its.toArray/\xs.length<=sizeLine:=by
 rcases h with h|⟨o,its,n,hk,hc,hs,hz,r⟩
 ·obtain⟨z,its,r,p⟩:=h.ok I.hok;exact⟨its,r,p,z⟩
 ·refine⟨its.toList,r,⟨o,I.kIn a o hk,hc,⟨n,by simpa using hs.1⟩,hs.2⟩,?_⟩;have e:=r.length;simp only[qaW] at e;ext
def Inv.tuple(I:Inv X G6 σ H s)(h:SqT X.K H a xs):∃its:List Value,aF xs its/\IsTup s.heap a its.toArray/\xs.length<=sizeLine :=
 let ⟨its,r,p,z⟩:=I.tupleN h
 ⟨its,r,p.tup,z⟩
def Inv.list_inj(I:Inv X G6 σ H s)(h:SqL X.K H a xs)(h':SqL X.K H a ys):xs=ys:=by
 obtain⟨its,r,⟨o,n,e,_,_,d⟩,_⟩:=I.list h;obtain⟨its',r',⟨o',n',e',_,_,d'⟩,_⟩:=I.list h';rw[e] at e';cases e';rw[d] at d';injection d' with d1 _
 have:its=its':=by simpa using congrArg Array.toList d1
 subst this;exact r.inj r'
def Inv.tuple_inj(I:Inv X G6 σ H s)(h:SqT X.K H a xs)(h':SqT X.K H a ys):xs=ys:=by
 obtain⟨its,r,⟨o,e,_,n,d⟩,_⟩:=I.tuple h;obtain⟨its',r',⟨o',e',_,n',d'⟩,_⟩:=I.tuple h';rw[e] at e';cases e';rw[d] at d';injection d' with d1 _
 have:its=its':=by simpa using congrArg Array.toList d1
 subst this;exact r.inj r'
end
section
variable {X:Cx} {G6:List (Addr × Obj)} {σ:St} {H:Hp} {s:Shared} {E:Value→Shared→Prop}
end
section
variable {X:Cx} {st:Stmt} {rest:List Stmt} {t u:TS} {e:Expr} {te:TE} {pos:Pos}
def tNext:TS:=fun D σ H=>D.nx σ H
def tSeq(t u:TS):TS:=fun D σ H=>t { D with nx:=u D} σ H
def pss_nil:PSs X [] tNext:=fun _ _ σ H _ I h=>wpAny_execs_nil ⟨σ,H,I,h⟩
def yW(h1:PS X st t)(h2:PSs X rest u):PSs X (st::rest) (tSeq t u):=by
 intro G6 s σ H D I h;refine wpAny_execs_cons (thn (h1 G6 s σ H { D with nx:=u D} I h) fun f s1 q=>?_)
 cases f with
 | next =>
  obtain⟨σ',H',I',q⟩:=q;exact h2 G6 s1 σ' H' D I' q
 | ret v=>exact q
 | brk=>exact q
 | cont=>exact q
def vn(h1:PS X st t):PSs X [st] t:=by
 intro G6 s σ H D I h;refine wpAny_execs_cons (thn (h1 G6 s σ H D I h) fun f s1 q=>?_)
 cases f with
 | next=>exact wpAny_execs_nil q
 | ret v=>exact q
 | brk=>exact q
 | cont=>exact q
def Inv.quiet{G6:List (Addr × Obj)}{σ:St}{H:Hp}{s:Shared}(I:Inv X G6 σ H s):interactive X.env=false:=by simp[interactive,I.ok.kind]
def tDrop(te:TE):TS:=fun D σ H=>te σ H fun _ H1=>D.nx σ H1
def ps_expr(he:PE X e te)(hs:swapsWith e none pos.line X.env=pure false:=by rfl):PS X (.Expr e pos) (tDrop te):=by
 intro G6 s σ H D I h;exact wpAny_Expr_any (thn (he G6 s σ H _ I h) fun v s1 ⟨x,H1,I1,r1,q1⟩=>⟨σ,H1,I1,q1⟩) I.quiet hs
def tRet(te:TE):TS:=fun D σ H=>te σ H D.rt
def ps_ret(he:PE X e te):PS X (.Return (some e) pos) (tRet te):=by
 intro G6 s σ H D I h;exact wpAny_Return_some (thn (he G6 s σ H _ I h) fun v s1 ⟨x,H1,I1,r1,q1⟩=>⟨x,σ,H1,I1,r1,q1⟩)
def tIfS(c:TT)(t u:TS):TS:=fun D σ H=>c σ H fun b H1=>if b=true then t D σ H1 else u D σ H1
def ps_if(hc:PT X c tc)(ha:PSs X a t)(hb:PSs X b u):PS X (.If c a b pos) (tIfS tc t u):=by
 intro G6 s σ H D I h;refine wpAny_If (thn (hc G6 s σ H _ I h) fun d s1 ⟨H1,I1,q1⟩=>?_)
 cases d with
 | true=>exact ha G6 s1 σ H1 D I1 q1
 | false=>exact hb G6 s1 σ H1 D I1 q1
end
abbrev TG:=V->St->Hp->(St->Hp->Prop)->Prop
abbrev TGs:=List V->St->Hp->(St->Hp->Prop)->Prop
def PG(X:Cx)(target:Expr)(t:TG):Prop :=
 ∀(G6:List (Addr × Obj)) (s:Shared) (σ:St) (H:Hp) (v:V) (u:Value) (Q:St->Hp->Prop),Inv X G6 σ H s->aR v u->t v σ H Q ->
  wpAny (model X.prog X.w) X.A (assign target X.env u) (fun _ s'=>SN X G6 Q s') X.xe s
def PGs(X:Cx)(ts:List Expr)(t:TGs):Prop :=
 ∀(G6:List (Addr × Obj)) (s:Shared) (σ:St) (H:Hp) (vs:List V) (us:List Value) (Q:St->Hp->Prop),Inv X G6 σ H s->aF vs us->t vs σ H Q ->
  wpAny (model X.prog X.w) X.A (assignInOrder ((assignEach ts X.env).map (·.2)) us) (fun _ s'=>SN X G6 Q s') X.xe s
abbrev TSet:=V->V->V->Hp->(Hp->Prop)->Prop
inductive SE (X:Cx) (G6:List (Addr × Obj)) (σ:St) (Q:Hp->Prop) (s':Shared):Prop
 | mk (H':Hp) (i:Inv X G6 σ H' s') (q:Q H'):SE X G6 σ Q s'
def PSet(X:Cx)(t:TSet):Prop :=
 ∀(G6:List (Addr × Obj)) (s:Shared) (σ:St) (H:Hp) (o i v:V) (ov iv u:Value) (Q:Hp->Prop),Inv X G6 σ H s->aR o ov->aR i iv->aR v u->t o i v H Q ->
  wpAny (model X.prog X.w) X.A (setItem ov iv u) (fun _ s'=>SE X G6 σ Q s') X.xe s
section
variable {X:Cx} {pos:Pos}
def gName(i:Nat):TG:=fun v σ H Q=>Q (σ.set i (some v)) H
def vc(hN:X.N.Nodup)(hi:X.N[i]?=some x)(hx:Loc X.env.scope x)(hf:X.fn x=true\/X.env.scope.names.lookup x=some .local:=by first | exact .inl rfl | exact .inr rfl | assumption):PG X (.Name x pos) (gName i):=by
 intro G6 s σ H v u Q I r h;exact wpAny_assign_Name (iw I hN hi hx r (fun s' I'=>⟨_,H,I',h⟩) hf)
def gNil:TGs:=fun vs σ H Q=>vs=[]/\Q σ H
def gCons(t:TG)(u:TGs):TGs:=fun vs σ H Q=>∃v r,vs=v::r/\t v σ H fun σ' H'=>u r σ' H' Q
def pgs_nil:PGs X [] gNil:=by
 intro G6 s σ H vs us Q I r h;obtain⟨e,h⟩:=h;subst e;cases r;exact assignInOrder_nil ⟨σ,H,I,h⟩
def zm(h1:PG X e t)(h2:PGs X es u)
  (hs:(assignEach (e::es) X.env).map (·.2)=assign e X.env::(assignEach es X.env).map (·.2):=by rfl):PGs X (e::es) (gCons t u):=by
 intro G6 s σ H vs us Q I r h;obtain⟨v,vr,e1,h⟩:=h;subst e1
 cases r with
 | cons r rr =>
  rw[hs];refine assignInOrder_cons (thn (h1 G6 s σ H _ _ _ I r h) fun _ s1 ⟨σ1,H1,I1,q1⟩=>?_);exact h2 G6 s1 σ1 H1 _ _ Q I1 rr q1
def gTup(K:qab)(n:Nat)(t:TGs):TG:=fun v σ H Q=>∃a xs,v=.ref a/\SqT K H a xs/\xs.length=n/\t xs σ H Q
def pg_tup{es:List Expr}{k:Nat}{t:TGs}{n:Nat}(hc:X.calm=true)(h:PGs X es t)
  (hn:(assignEach es X.env).length=n:=by rfl) (hst:(assignEach es X.env).findIdx? (·.1)=none:=by rfl):PG X (.Tuple es k pos) (gTup X.K n t):=by
 intro G6 s σ H v u Q I r hw;obtain⟨a,xs,e1,hq,hl,hw⟩:=hw;subst e1;cases r;obtain⟨its,rv,ht,hz⟩:=I.tuple hq;refine assign_Tuple_tuple (I.ok.hd hc) ht (by simp[hn,<-hl,rv.length]) hst fun h' hx=>?_;have I1:Inv X G6 σ H { s with heap:=h'}:=I.kept (t':=s.toks) fun b o e=>hx b o (qaL (qam e)) e;exact h G6 _ σ H xs _ Q I1 (by simpa using rv) hw
def gSub(to ti:TE)(t:TSet):TG:=fun v σ H Q=>to σ H fun o H1=>ti σ H1 fun i H2=>t o i v H2 fun H3=>Q σ H3
def pg_sub(ho:PE X o to)(hi:PE X i ti)(hs:PSet X t)
  (ha:∀v,assign (.Subscript o i pos) X.env v=(do
   let ov <-holding [v] (eval o X.env)
   let iv <-holding [v,ov] (eval i X.env)
   standAt pos
   holding [v,ov,iv] (setItem ov iv v)
   release [v,ov,iv] []):=by intro _;rfl):PG X (.Subscript o i pos) (gSub to ti t):=by
 intro G6 s σ H v u Q I r h;rw[ha];refine qaa (wpAny_holding (thn (ho G6 s σ H _ I h) fun ov s1 ⟨x,H1,I1,r1,q1⟩=>?_));refine qaa (wpAny_holding (thn (hi G6 s1 σ H1 _ I1 q1) fun iv s2 ⟨y,H2,I2,r2,q2⟩=>?_));refine qaa (wpAny_standAt (qaa (wpAny_holding (thn (hs G6 s2 σ H2 x y v ov iv u _ I2 r1 r2 r q2) fun _ s3 ⟨H3,I3,q3⟩=>?_))));exact wpAny_release ⟨σ,H3,I3,q3⟩
def tAsg(te:TE)(g:TG):TS:=fun D σ H=>te σ H fun x H1=>g x σ H1 D.nx
def ps_asg(he:PE X e te)(hg:PG X tg g)(hs:swapsWithSole [tg] e pos.line X.env=pure false:=by rfl)(hw:swappedStores [tg] e X.env=pure none:=by rfl)
  (h1:(assignEach [tg] X.env).map (·.2)=[assign tg X.env]:=by rfl):PS X (.Assign [tg] e pos) (tAsg te g):=by
 intro G6 s σ H D I h;refine wpAny_Assign_stores (thn (he G6 s σ H _ I h) fun v s1 ⟨x,H1,I1,r1,q1⟩=>?_) hs hw;rw[h1];exact thn (hg G6 s1 σ H1 x v _ I1 r1 q1) fun _ s2 q=>q
def xl(hN:X.N.Nodup)(hi:X.N[i]?=some x)(hx:Loc X.env.scope x)(he:PE X e te)(hs:swapsWith e (some (.Name x pos')) pos.line X.env=pure false:=by rfl)(hf:X.fn x=true\/X.env.scope.names.lookup x=some .local:=by first | exact .inl rfl | exact .inr rfl | assumption) :
  PS X (.Assign [.Name x pos'] e pos) (tAsg te (gName i)):=by
 intro G6 s σ H D I h;refine wpAny_Assign_Name (thn (he G6 s σ H _ I h) fun v s1 ⟨y,H1,I1,r1,q1⟩=>?_) hs;exact iw I1 hN hi hx r1 (fun s2 I2=>⟨_,H1,I2,q1⟩) hf
def tPar(i j:Nat)(ta:TA):TS:=fun D σ H=>ta σ H fun vs H1=>∃v w,vs=[v,w]/\D.nx ((σ.set i (some v)).set j (some w)) H1
def ps_par{kt k2 pt2}(hc:X.calm=true)(hN:X.N.Nodup)(hi:X.N[i]?=some x)(hj:X.N[j]?=some y)(hij:i≠j)
  (hx:X.env.scope.names.lookup x=some .local) (hy:X.env.scope.names.lookup y=some .local) (ha:PA X [a,b] ta)
  (hw:swappedStores [.Tuple [.Name x px,.Name y py] kt pt] (.Tuple [a,b] k2 pt2) X.env=pure (some [x,y]))
  (hs:swapsWithSole [.Tuple [.Name x px,.Name y py] kt pt] (.Tuple [a,b] k2 pt2) pos.line X.env=pure false:=by rfl) :
  PS X (.Assign [.Tuple [.Name x px,.Name y py] kt pt] (.Tuple [a,b] k2 pt2) pos) (tPar i j ta):=by
 intro G6 s σ H D I h;rw[exec_Assign_arm];refine qaa (wpAny_standAt ?_);rw[hs];refine qaa (qan ?_);rw[qao (by decide)];refine qaa (Tuple_ (thn (ha _ G6 s σ H _ I h) fun us s1 ⟨vs,H1,I1,r1,q1⟩=>?_));obtain⟨v,w,e1,q1⟩:=q1;subst e1;obtain⟨u1,u2,rfl,rv,rw'⟩:∃u1 u2,us=[u1,u2]/\aR v u1/\aR w u2:=by
  cases r1 with
  | cons p q =>
   cases q with
   | cons p' q' =>
    cases q';exact⟨_,_,rfl,p,p'⟩
 refine wpAny_newObj_type ?_ (by show 2<=sizeLine;decide);have I2:Inv X G6 σ H1 { s1 with heap:=s1.heap.push { cls:=.type "tuple",data:=.seq [u1,u2].toArray}}:=I1.kept (t':=s1.toks) fun b o e=>qac _ e;rw[hw];refine qaa (qan ?_);show wpAny (model X.prog X.w) X.A (do rule "assign.swapped-stores";let items <-unpackItems (.ref s1.heap.objs.size) 2 none;assignInOrder [fun v=>bindName X.env y v,fun v=>bindName X.env x v] items.reverse;pure Flow.next) _ _ _;refine qaa (wpAny_rule (qaa (unpackItems_tuple (items:=#[u1,u2]) (I.ok.hd hc) (IsTup.new s1.heap _) fun h' hx'=>?_)));have I3:=I2.kept (h':=h') (t':=s1.toks) fun b o e=>hx' b o (qaL (qam e)) e;show wpAny _ _ (assignInOrder [fun v=>bindName X.env y v,fun v=>bindName X.env x v] [u2,u1] >>= fun _=>pure Flow.next) _ _ _;refine qaa (assignInOrder_cons (wpAny_bindName (iw I3 hN hj (.inl hy) rw' (fun s2 I4=>?_) (.inr hy))));refine assignInOrder_cons (wpAny_bindName (iw I4 hN hi (.inl hx) rv (fun s3 I5=>assignInOrder_nil (qan ?_)) (.inr hx)));rw[List.set_comm _ _ (Ne.symm hij)] at I5;exact⟨_,H1,I5,q1⟩
def tWhile(c:TT)(tb:TS):TS:=fun D σ H=>∃W:Nat->St->Hp->Prop,(∃m,W m σ H)/\∀m σ H,W m σ H ->
 c σ H fun b H1=>if b=true then ∃N:St->Hp->Prop,(∀σ' H',N σ' H'->∃m',m'<m/\W m' σ' H')/\tb { D with nx:=N,ct:=N,bk:=D.nx} σ H1 else D.nx σ H1
def yh(hp:PassesOwn (model X.prog X.w) X.A X.env X.xe)(hc:PT X c tc)(hb:PSs X body tb):PS X (.While c body [] pos) (tWhile tc tb):=by
 intro G6 s σ H D I h;obtain⟨W,⟨m0,w0⟩,turn⟩:=h;refine wpAny_While (codeAny_whileLoop (fun n s'=>∃σ' H',Inv X G6 σ' H' s'/\W n σ' H') ?_ m0 ⟨σ,H,I,w0⟩);rintro n s1 ⟨σ1,H1,I1,w1⟩;refine wpAny_passesOwn hp (thn (hc G6 s1 σ1 H1 _ I1 (turn n σ1 H1 w1)) fun b s2 ⟨H2,I2,q2⟩=>?_)
 cases b with
 | true =>
  obtain⟨N,hN,q2⟩:=q2;rw[qae rfl];refine wpAny_passesOwn hp (thn (hb G6 s2 σ1 H2 _ I2 q2) fun f s3 q3=>?_)
  cases f with
  | next =>
   obtain⟨σ3,H3,I3,n3⟩:=q3;obtain⟨m',hm,w3⟩:=hN σ3 H3 n3;exact⟨m',hm,σ3,H3,I3,w3⟩
  | cont =>
   obtain⟨σ3,H3,I3,n3⟩:=q3;obtain⟨m',hm,w3⟩:=hN σ3 H3 n3;exact⟨m',hm,σ3,H3,I3,w3⟩
  | brk=>exact q3
  | ret v=>exact q3
 | false =>
  rw[qao qaN];exact wpAny_execs_nil ⟨σ1,H2,I2,q2⟩
end
structure It where
 go:Nat->Hp->Prop
 yld:Nat->Hp->V->Hp->Prop
 stop:Nat->Hp->Prop
def iH(X:Cx)(G6:List (Addr × Obj))(H:Hp)(b:Addr):Prop :=
 H b=none/\b≠X.env.locals/\b∉X.fs/\(b∈X.ex\/X.s₀.heap.objs.size<=b)/\(∀x c,X.env.cells.lookup x=some c->c≠b)/\∀p∈X.pn++G6,p.1≠b
def Inv.fpOk{X:Cx}{G6:List (Addr × Obj)}{σ:St}{H H':Hp}{s:Shared}{b:Addr}(I:Inv X G6 σ H s)(hb:s.heap.objs.size<=b)(hn:H' b=none):iH X G6 H' b:=by
 refine⟨hn,qbj (qau I.lt hb),I.nofs hb,.inr (qax I.sz hb),fun x c e z=>?_,fun p hp z=>?_⟩
 ·obtain⟨v,q⟩:=I.cell x c e;exact absurd (qau q.lt (by rw[z];exact hb)) (qaQ _)
 ·exact absurd (qau (qam (I.pin p hp).1) (by rw[z];exact hb)) (qaQ _)
inductive TIt (X:Cx) (G6:List (Addr × Obj)) (σ:St) (u:Value) (Y:V->Hp->Prop) (n:Heap->Prop) (fp:List Addr) (s2:Shared):Prop
 | mk (x:V) (H':Hp) (i:Inv X G6 σ H' s2) (r:aR x u) (y:Y x H') (t:n s2.heap) (f:∀b∈fp,H' b=none):TIt X G6 σ u Y n fp s2
structure Turn (P:Program) (w:World) (K:qab) (tg:Expr) (J:It) (fp:List Addr) (it:Addr) (tn:Nat->Heap->Prop):Prop where
 mem:it∈fp
 obj:∀i h,tn i h->∀b∈fp,∃o,h.get? b=some o/\∀v,o.data≠.cell v
 keep:∀i h h',tn i h->(∀b∈fp,∀o,h.get? b=some o->h'.get? b=some o)->tn i h'
 item:∀(X:Cx),X.prog=P->X.w=w->X.K=K->X.calm=true->∀(i:Nat) (G6:List (Addr × Obj)) (s:Shared) (σ:St) (H:Hp) (E:Value->Shared->Prop),Inv X G6 σ H s->(∀b∈fp,iH X G6 H b)->tn i s.heap->J.go i H ->
  wpAny (model P w) X.A (pyNext (.ref it)) (fun r s1=>∃u,r=some u /\
   wpAny (model P w) X.A (letOwnedTupleGo tg (.ref it) u) (fun _ s2=>TIt X G6 σ u (J.yld i H) (tn (i+1)) fp s2) E s1) E s
 done:∀(X:Cx),X.prog=P->X.w=w->X.K=K->X.calm=true->∀(i:Nat) (G6:List (Addr × Obj)) (s:Shared) (σ:St) (H:Hp) (E:Value->Shared->Prop),Inv X G6 σ H s->(∀b∈fp,iH X G6 H b)->tn i s.heap->J.stop i H ->
  wpAny (model P w) X.A (pyNext (.ref it)) (fun r s1=>r=none/\Inv X G6 σ H s1) E s
 self:∀(A:Around) (i:Nat) (s:Shared) (Q:Value->Shared->Prop) (E:Value->Shared->Prop),tn i s.heap->Q (.ref it) s->wpAny (model P w) A (pyIter (.ref it)) Q E s
abbrev TI:=St->Hp->(It->Hp->Prop)->Prop
inductive PIE (X:Cx) (G6:List (Addr × Obj)) (σ:St) (tg:Expr) (R:It->Hp->Prop) (itv:Value) (s2:Shared):Prop
 | mk (it:Addr) (fp:List Addr) (tn:Nat->Heap->Prop) (J:It) (H':Hp) (e:itv=.ref it) (i:Inv X G6 σ H' s2) (t:Turn X.prog X.w X.K tg J fp it tn) (n:tn 0 s2.heap) (f:∀b∈fp,iH X G6 H' b) (r:R J H'):PIE X G6 σ tg R itv s2
def PI(X:Cx)(tg iter:Expr)(wi:TI):Prop :=
 ∀(G6:List (Addr × Obj)) (s:Shared) (σ:St) (H:Hp) (R:It->Hp->Prop),Inv X G6 σ H s->wi σ H R ->
  wpAny (model X.prog X.w) X.A (eval iter X.env) (fun v s1=>wpAny (model X.prog X.w) X.A (pyIter v) (PIE X G6 σ tg R) X.xe s1) X.xe s
def vG(ho:s.heap.get? it=some o)(hc:o.cls=.type n)(hd:o.data=.fields vs)
  (hn:["enumerate","zip","dict_itemiterator","dict_reverseitemiterator","odict_iterator","itertools.zip_longest","itertools.pairwise"].contains n=false) (hQ:Q () s):wpAny M A (letOwnedTupleGo tg (.ref it) u) Q E s:=by
 unfold letOwnedTupleGo;cases tg <;> first
  | exact qan hQ
  | (cases u <;> first
    | exact qan hQ
    | (refine qaa (wpAny_load ho ?_)
       rw[hc,hd];show wpAny M A (if (["enumerate","zip","dict_itemiterator","dict_reverseitemiterator","odict_iterator","itertools.zip_longest","itertools.pairwise"].contains n && vs[0]? == some (rawInt _))=true then _ else _) Q E s;rw[qao (by intro h;rw[hn,Bool.false_and] at h;cases h)]
       exact qan hQ))
def Itl(K:qab)(a:Addr):It :=
 ⟨fun i H=>∃xs x,SqL K H a xs/\xs[i]?=some x,fun i H x H'=>H'=H/\∀xs,SqL K H a xs->xs[i]?=some x,fun i H=>∃xs,SqL K H a xs/\xs.length<=i⟩
def Itt(K:qab)(a:Addr):It :=
 ⟨fun i H=>∃xs x,SqT K H a xs/\xs[i]?=some x,fun i H x H'=>H'=H/\∀xs,SqT K H a xs->xs[i]?=some x,fun i H=>∃xs,SqT K H a xs/\xs.length<=i⟩
def Itr(lo:Int)(n:Nat):It:=⟨fun i _=>i<n,fun i H x H'=>H'=H/\x=.int (lo+i),fun i _=>n<=i⟩
def xH{P:Program}{w:World}{K:qab}{tg:Expr}(a it:Addr):Turn P w K tg (Itl K a) [it] it (fun i h=>h.IsListIter it a i) where
 mem:=by simp
 obj:=fun i h st b hb=>by
  have e:b=it:=by simpa using hb
  subst e;obtain⟨o,e,c,d⟩:=st;exact⟨o,e,fun v z=>by rw[d] at z;cases z⟩
 keep:=fun i h h' st k=>st.at fun o e=>k it (by simp) o e
 item:=by
  intro X hP hw hK hc i G6 s σ H E I hf st hg;subst hP hw hK;obtain⟨xs,x,hq,hx⟩:=hg;obtain⟨its,rv,p,hz⟩:=I.list hq;obtain⟨u,hu,ru⟩:=rv.get hx;obtain⟨f0,f1,f2,f3,f4,f5⟩:=hf it (by simp);refine wpAny_pyNext_list_item st p.isList (x:=u) (by simpa using hu) fun h' st' sb=>?_;have I1:Inv X G6 σ H { s with heap:=h'}:=I.turned (t':=s.toks) (fun b o hb e=>(sb.2 b hb).trans e) f0 f1 f3 f4 f5;obtain⟨o,e,c,d⟩:=id st';exact⟨u,rfl,vG (s:={ s with heap:=h'}) e c d (by decide) ⟨x,H,I1,ru,⟨rfl,fun ys hy=>by rw[I.list_inj hy hq];exact hx⟩,st',fun b hb=>(hf b hb).1⟩⟩
 done:=by
  intro X hP hw hK hc i G6 s σ H E I hf st hg;subst hP hw hK;obtain⟨xs,hq,hx⟩:=hg;obtain⟨its,rv,p,hz⟩:=I.list hq;obtain⟨f0,f1,f2,f3,f4,f5⟩:=hf it (by simp);have hl:=rv.length;exact wpAny_pyNext_list_end (I.ok.hd hc) st p.isList (by simp;ext) fun h' eb=>⟨rfl,I.turned (t':=s.toks) (fun b o hb e=>eb b o hb e) f0 f1 f3 f4 f5⟩
 self:=fun _ _ _ _ _ st h=>wpAny_pyIter_listiter st h
def vX{P:Program}{w:World}{K:qab}{tg:Expr}(a it:Addr):Turn P w K tg (Itt K a) [it] it (fun i h=>h.IsTupleIter it a i) where
 mem:=by simp
 obj:=fun i h st b hb=>by
  have e:b=it:=by simpa using hb
  subst e;obtain⟨o,e,c,d⟩:=st;exact⟨o,e,fun v z=>by rw[d] at z;cases z⟩
 keep:=fun i h h' st k=>st.at fun o e=>k it (by simp) o e
 item:=by
  intro X hP hw hK hc i G6 s σ H E I hf st hg;subst hP hw hK;obtain⟨xs,x,hq,hx⟩:=hg;obtain⟨its,rv,p,hz⟩:=I.tuple hq;obtain⟨u,hu,ru⟩:=rv.get hx;obtain⟨f0,f1,f2,f3,f4,f5⟩:=hf it (by simp);refine wpAny_pyNext_tuple_item st (show s.heap.IsTuple a its.toArray from p) (x:=u) (by simpa using hu) fun h' st' sb=>?_;have I1:Inv X G6 σ H { s with heap:=h'}:=I.turned (t':=s.toks) (fun b o hb e=>(sb.2 b hb).trans e) f0 f1 f3 f4 f5;obtain⟨o,e,c,d⟩:=id st';exact⟨u,rfl,vG (s:={ s with heap:=h'}) e c d (by decide) ⟨x,H,I1,ru,⟨rfl,fun ys hy=>by rw[I.tuple_inj hy hq];exact hx⟩,st',fun b hb=>(hf b hb).1⟩⟩
 done:=by
  intro X hP hw hK hc i G6 s σ H E I hf st hg;subst hP hw hK;obtain⟨xs,hq,hx⟩:=hg;obtain⟨its,rv,p,hz⟩:=I.tuple hq;obtain⟨f0,f1,f2,f3,f4,f5⟩:=hf it (by simp);have hl:=rv.length;exact wpAny_pyNext_tuple_end (I.ok.hd hc) st (show s.heap.IsTuple a its.toArray from p) (by simp;ext) fun h' eb=>⟨rfl,I.turned (t':=s.toks) (fun b o hb e=>eb b o hb e) f0 f1 f3 f4 f5⟩
 self:=fun _ _ _ _ _ st h=>wpAny_pyIter_tupleiter st h
def wH{P:Program}{w:World}{K:qab}{tg:Expr}(it:Addr)(lo:Int)(n:Nat):Turn P w K tg (Itr lo n) [it] it (fun i h=>IsRangeIter h it (lo+(i:Nat) * 1) ((n:Int) - (i:Nat)) 1) where
 mem:=by simp
 obj:=fun i h st b hb=>by
  have e:b=it:=by simpa using hb
  subst e
  exact⟨_,st,fun v z=>by
   have z':Data.fields _=Data.cell v:=z
   cases z'⟩
 keep:=fun i h h' st k=>k it (by simp) _ st
 item:=by
  intro X hP hw hK hc i G6 s σ H E I hf st hg;subst hP hw hK;obtain⟨f0,f1,f2,f3,f4,f5⟩:=hf it (by simp);have W:=Walks.range (prog:=X.prog) (w:=X.w) (I.ok.hd hc) it lo 1 n;refine W.item i s _ _ hg st fun v h' tk hv st' kk=>?_;obtain⟨t,rfl⟩:=hv;have I1:Inv X G6 σ H { s with heap:=h',toks:=tk}:=I.turned (fun b o hb e=>kk b o (by simpa using hb) e) f0 f1 f3 f4 f5;refine⟨_,rfl,vG (s:={ s with heap:=h',toks:=tk}) (n:="range_iterator") st' rfl rfl (by decide) ⟨.int (lo+i),H,I1,⟨t,?_⟩,⟨rfl,rfl⟩,st',fun b hb=>(hf b hb).1⟩⟩;rw[Int.mul_one]
 done:=by
  intro X hP hw hK hc i G6 s σ H E I hf st hg;subst hP hw hK;obtain⟨f0,f1,f2,f3,f4,f5⟩:=hf it (by simp);exact wpAny_pyNext_range_end (I.ok.hd hc) st (by have:n<=i:=hg;ext) fun h' eb=>⟨rfl,I.turned (t':=s.toks) (fun b o hb e=>eb b o hb e) f0 f1 f3 f4 f5⟩
 self:=fun _ _ _ _ _ st h=>wpAny_pyIter_rangeiter st h
section
variable {X:Cx} {tg:Expr}
def iList(K:qab)(tl:TE):TI:=fun σ H R=>tl σ H fun x H1=>∃a,x=.ref a/\(∃xs,SqL K H1 a xs)/\R (Itl K a) H1
def iTup(K:qab)(tl:TE):TI:=fun σ H R=>tl σ H fun x H1=>∃a,x=.ref a/\(∃xs,SqT K H1 a xs)/\R (Itt K a) H1
def pi_list{l:Expr}{tl:TE}(hl:PE X l tl):PI X tg l (iList X.K tl):=by
 intro G6 s σ H R I h;refine thn (hl G6 s σ H _ I h) fun v s1 ⟨x,H1,I1,r1,q1⟩=>?_;obtain⟨a,e,⟨xs,hq⟩,q⟩:=q1;subst e;cases r1;obtain⟨its,rv,p,hz⟩:=I1.list hq;refine wpAny_pyIter_list p.isList ?_;refine⟨s1.heap.objs.size,[s1.heap.objs.size],_,_,H1,rfl,I1.kept (t':=s1.toks) fun b o e=>qac _ e,xH a _,⟨_,qav _ rfl,rfl,rfl⟩,fun b hb=>?_,q⟩;have e:b=s1.heap.objs.size:=by simpa using hb
 subst e;exact I1.fpOk (qai _) (I1.hok.fresh (qai _))
def pi_tup{l:Expr}{tl:TE}(hl:PE X l tl):PI X tg l (iTup X.K tl):=by
 intro G6 s σ H R I h;refine thn (hl G6 s σ H _ I h) fun v s1 ⟨x,H1,I1,r1,q1⟩=>?_;obtain⟨a,e,⟨xs,hq⟩,q⟩:=q1;subst e;cases r1;obtain⟨its,rv,p,hz⟩:=I1.tuple hq;refine wpAny_pyIter_tuple (show s1.heap.IsTuple a its.toArray from p) ?_;refine⟨s1.heap.objs.size,[s1.heap.objs.size],_,_,H1,rfl,I1.kept (t':=s1.toks) fun b o e=>qac _ e,vX a _,⟨_,qav _ rfl,rfl,rfl⟩,fun b hb=>?_,q⟩;have e:b=s1.heap.objs.size:=by simpa using hb
 subst e;exact I1.fpOk (qai _) (I1.hok.fresh (qai _))
def yT{G6:List (Addr × Obj)}{σ:St}{H:Hp}{s:Shared}{R:It->Hp->Prop}{E:Value->Shared->Prop}{lo hi:Int}{t u v:Tok}{tk:Nat}(I:Inv X G6 σ H s)(h1:-(2 ^ 62)<=lo)(h2:lo<2 ^ 62)(h3:-(2 ^ 62)<=hi)(h4:hi<2 ^ 62)
  (q:R (Itr lo (hi - lo).toNat) H):wpAny (model X.prog X.w) X.A (pyIter (.ref s.heap.objs.size)) (PIE X G6 σ tg R) E { s with heap:=s.heap.push { cls:=.type "range",data:=.fields #[.int lo t,.int hi u,.int 1 v]},toks:=tk}:=by
 refine wpAny_pyIter_range (IsRange.new ..) (small_one h1 h2 h3 h4) ?_;have I1:Inv X G6 σ H { s with heap:=s.heap.push { cls:=.type "range",data:=.fields #[.int lo t,.int hi u,.int 1 v]},toks:=tk}:=I.kept fun b o e=>qac _ e
 refine⟨(s.heap.push { cls:=.type "range",data:=.fields #[.int lo t,.int hi u,.int 1 v]}).objs.size,[(s.heap.push { cls:=.type "range",data:=.fields #[.int lo t,.int hi u,.int 1 v]}).objs.size],_,_,H,rfl,
  I1.kept (t':=tk) fun b o e=>qac _ e,wH _ lo (hi - lo).toNat,?_,fun b hb=>?_,q⟩
 ·have e1:lo+((0:Nat):Int) * 1=lo:=by simp
  have e2:(((hi - lo).toNat:Nat):Int) - ((0:Nat):Int)=Builtin.Range.rangeSize lo hi 1:=by rw[rangeSize_one];split <;> ext
  show IsRangeIter _ _ (lo+((0:Nat):Int) * 1) ((((hi - lo).toNat:Nat):Int) - ((0:Nat):Int)) 1;rw[e1,e2];exact qav _ rfl
 ·have e:b=(s.heap.push { cls:=.type "range",data:=.fields #[.int lo t,.int hi u,.int 1 v]}).objs.size:=by simpa using hb
  subst e;exact I1.fpOk (qai _) (I1.hok.fresh (qai _))
def iRng1(ta:TA):TI:=fun σ H R=>ta σ H fun vs H1=>∃j:Int,vs=[.int j] /\ -(2 ^ 62)<=j/\j<2 ^ 62/\R (Itr 0 j.toNat) H1
def x9{a:Expr}{ta:TA}{p pos:Pos}(hg:Gl X "range")(hm:X.mg "range"=none)(ha:PA X [a] ta)(hs:starEach [a] X.env=[(false,eval a X.env)]:=by rfl):PI X tg (.Call (.Name "range" p) [a] [] pos) (iRng1 ta):=by
 intro G6 s σ H R I h;refine Call_ (kZ I hg hm boot_range (PyProof.Rows.callWith_type1 (thn (ha pos G6 s σ H _ I h) fun us s1 ⟨vs,H1,I1,r1,q1⟩=>?_) hs rfl));obtain⟨j,e,q1,q2,q⟩:=q1;subst e
 cases r1 with
 | cons r rr =>
  cases rr;obtain⟨t,rfl⟩:=r;exact call_range_1 (yT I1 (by ext) (by ext) q1 q2 (by simpa using q))
def tFor(wi:TI)(g:TG)(tb:TS):TS:=fun D σ H=>wi σ H fun J H1=>∃W:Nat->Nat->St->Hp->Prop,(∃m,W 0 m σ H1)/\∀i m σ H,W i m σ H ->
 (J.stop i H/\D.nx σ H)\/(J.go i H/\∃N:St->Hp->Prop,(∀σ' H',N σ' H'->∃m',m'<m/\W (i+1) m' σ' H')/\∀x H',J.yld i H x H'->g x σ H' fun σ2 H2=>tb { D with nx:=N,ct:=N,bk:=D.nx} σ2 H2)
def kW(fp:List Addr)(h:Heap):List (Addr × Obj):=fp.filterMap fun b=>(h.get? b).map fun o=>(b,o)
def hX(hb:b∈fp)(e:h.get? b=some o):(b,o)∈kW fp h:=qbI.mpr ⟨b,hb,by rw[e];rfl⟩
def xg(hp:p∈kW fp h):p.1∈fp/\h.get? p.1=some p.2:=by
 obtain⟨b,hb,e⟩:=qbI.mp hp
 cases q:h.get? b with
 | none=>rw[q] at e;cases e
 | some o =>
  rw[q] at e;have e':(b,o)=p:=Option.some.inj e;subst e';exact⟨hb,q⟩
def Inv.pinned{G6:List (Addr × Obj)}{σ:St}{H:Hp}{s:Shared}{fp:List Addr}(I:Inv X G6 σ H s)(hf:∀b∈fp,iH X G6 H b)(ho:∀b∈fp,∃o,s.heap.get? b=some o/\∀v,o.data≠.cell v):Inv X (G6++kW fp s.heap) σ H s :=
 I.pins_of fun p hp=>(qap.mp hp).elim (fun z=>I.pin p (qad _ z)) fun z=>by
  obtain⟨hb,e⟩:=xg z;obtain⟨f0,f1,f2,_⟩:=hf p.1 hb;obtain⟨o,e',d⟩:=ho p.1 hb;rw[e] at e';cases e';exact⟨e,f0,f1,f2,d⟩
def Inv.unpinned{G6 pl:List (Addr × Obj)}{σ:St}{H:Hp}{s:Shared}(I:Inv X (G6++pl) σ H s):Inv X G6 σ H s:=I.pins_of fun p hp=>I.pin p (qad _ (qay _ hp))
def ps_for(hp:PassesOwn (model X.prog X.w) X.A X.env X.xe)(hc:X.calm=true)(hi:PI X tg iter wi)(hg:PG X tg g)(hb:PSs X body tb)
  (hs:∀x,foldedSetIterable iter X.env x=pure x:=by intro _;rfl):PS X (.For tg iter body [] pos) (tFor wi g tb):=by
 intro G6 s σ H D I h;refine wpAny_For (thn (hi G6 s σ H _ I h) fun v s1 h1=>thn h1 fun itv s2 h2=>?_) hs;obtain⟨it,fp,tn,J,H2,e,I2,T,st2,f2,W,⟨m0,w0⟩,turn⟩:=h2;subst e;have stat:∀{H':Hp},(∀b∈fp,H' b=none)->∀b∈fp,iH X G6 H' b:=fun hn b hb=>⟨hn b hb,(f2 b hb).2⟩;refine codeAny_forLoop_any (fun n s'=>∃i σ' H',Inv X G6 σ' H' s'/\tn i s'.heap/\(∀b∈fp,H' b=none)/\W i n σ' H') ?_ m0 ⟨0,σ,H2,I2,st2,fun b hb=>(f2 b hb).1,w0⟩;rintro n s3 ⟨i,σ3,H3,I3,st3,fr3,w3⟩;rcases turn i n σ3 H3 w3 with ⟨stop,qn⟩|⟨go,N,hN,step⟩
 ·refine wpAny_passesOwn hp (thn (T.done X rfl rfl rfl hc i G6 s3 σ3 H3 X.xe I3 (stat fr3) st3 stop) fun r s4 ⟨hr,I4⟩=>?_);subst hr;exact wpAny_execs_nil ⟨σ3,H3,I4,qn⟩
 ·refine wpAny_passesOwn hp (thn (T.item X rfl rfl rfl hc i G6 s3 σ3 H3 X.xe I3 (stat fr3) st3 go) fun r s4 ⟨u,hr,h4⟩=>?_);subst hr;refine wpAny_passesOwn hp (thn h4 fun _ s5 ⟨x,H5,I5,r5,y5,st5,fr5⟩=>?_);have I5':=I5.pinned (stat fr5) (T.obj _ _ st5);refine wpAny_passesOwn hp (thn (hg _ s5 σ3 H5 x u _ I5' r5 (step x H5 y5)) fun _ s6 ⟨σ6,H6,I6,q6⟩=>?_);refine wpAny_passesOwn hp (thn (hb _ s6 σ6 H6 _ I6 q6) fun f s7 q7=>?_);have again:∀{σ7:St} {H7:Hp},Inv X (G6++kW fp s5.heap) σ7 H7 s7->N σ7 H7->∃m,m<n/\∃i σ' H',Inv X G6 σ' H' s7/\tn i s7.heap/\(∀b∈fp,H' b=none)/\W i m σ' H':=fun {σ7 H7} I7 n7=>by
   obtain⟨m',hm,w7⟩:=hN σ7 H7 n7;refine⟨m',hm,i+1,σ7,H7,I7.unpinned,T.keep _ _ _ st5 fun b hb o e=>(I7.pin (b,o) (qad _ (qad _ (hX hb e)))).1,fun b hb=>?_,w7⟩;obtain⟨o,e,d⟩:=T.obj _ _ st5 b hb;exact (I7.pin (b,o) (qad _ (qad _ (hX hb e)))).2.1
  cases f with
  | next=>obtain⟨σ7,H7,I7,n7⟩:=q7;exact again I7 n7
  | cont=>obtain⟨σ7,H7,I7,n7⟩:=q7;exact again I7 n7
  | brk=>obtain⟨σ7,H7,I7,q7⟩:=q7;exact⟨σ7,H7,I7.unpinned,q7⟩
  | ret v=>obtain⟨x7,σ7,H7,I7,r7,q7⟩:=q7;exact⟨x7,σ7,H7,I7.unpinned,r7,q7⟩
end
abbrev R2:=V->V->Hp->VK->Prop
def OpR(X:Cx)(f:Value->Value->Sem Value)(r:R2):Prop :=
 ∀(G6:List (Addr × Obj)) (s:Shared) (σ:St) (H:Hp) (x y:V) (v u:Value) (Q:VK),Inv X G6 σ H s->aR x v->aR y u->r x y H Q ->
  wpAny (model X.prog X.w) X.A (f v u) (EP X G6 σ Q) X.xe s
def UnR(X:Cx)(f:Value->Sem Value)(r:V->Hp->VK->Prop):Prop :=
 ∀(G6:List (Addr × Obj)) (s:Shared) (σ:St) (H:Hp) (x:V) (v:Value) (Q:VK),Inv X G6 σ H s->aR x v->r x H Q ->
  wpAny (model X.prog X.w) X.A (f v) (EP X G6 σ Q) X.xe s
def cA(X:Cx)(f:Value)(r:List V->Hp->VK->Prop):Prop :=
 ∀(G6:List (Addr × Obj)) (s:Shared) (σ:St) (H:Hp) (xs:List V) (us:List Value) (Q:VK),Inv X G6 σ H s->aF xs us->r xs H Q ->
  wpAny (model X.prog X.w) X.A (call f us) (EP X G6 σ Q) X.xe s
def tOp(r:R2)(ta tb:TE):TE:=fun σ H Q=>ta σ H fun x H1=>tb σ H1 fun y H2=>r x y H2 Q
def tUn(r:V->Hp->VK->Prop)(ta:TE):TE:=fun σ H Q=>ta σ H fun x H1=>r x H1 Q
def rI(C:Int->Int->Prop)(g:Int->Int->V):R2:=fun x y H Q=>∃i j,x=.int i/\y=.int j/\C i j/\Q (g i j) H
def rI0(g:Int->Int->V):R2:=fun x y H Q=>∃i j,x=.int i/\y=.int j/\Q (g i j) H
def rU(g:Int->V):V->Hp->VK->Prop:=fun x H Q=>∃i,x=.int i/\Q (g i) H
section
variable {X:Cx} {a b c:Expr} {ta tb tc:TE} {pos:Pos}
def binT(ha:PE X a ta)(hb:PE X b tb){G6:List (Addr × Obj)}{s:Shared}{σ:St}{H:Hp}{R:V->V->Hp->Prop}(I:Inv X G6 σ H s)
  (h:ta σ H fun x H1=>tb σ H1 fun y H2=>R x y H2) {Q:Value->Shared->Prop} {f:Value->Value->Sem Value}
  (hf:∀v u s2 x y H2,Inv X G6 σ H2 s2->aR x v->aR y u->R x y H2->wpAny (model X.prog X.w) X.A (f v u) Q X.xe s2) :
  wpAny (model X.prog X.w) X.A (eval a X.env) (fun v s₁=>wpAny (model X.prog X.w) X.A (eval b X.env) (fun u s₂=>wpAny (model X.prog X.w) X.A (f v u) Q X.xe s₂) X.xe s₁) X.xe s:=by
 refine thn (ha G6 s σ H _ I h) fun v s1 ⟨x,H1,I1,r1,q1⟩=>?_;refine thn (hb G6 s1 σ H1 _ I1 q1) fun u s2 ⟨y,H2,I2,r2,q2⟩=>?_;exact hf v u s2 x y H2 I2 r1 r2 q2
def pe_op{op:Operator}{r:R2}(ho:OpR X (binaryOp op) r)(ha:PE X a ta)(hb:PE X b tb):PE X (.BinOp a op b pos) (tOp r ta tb):=by
 intro G6 s σ H Q I h;exact wpAny_BinOp (binT ha hb I h fun v u s2 x y H2 I2 rx ry q=>ho G6 s2 σ H2 x y v u Q I2 rx ry q)
def pe_un(ho:UnR X (unaryOp op) r)(ha:PE X a ta):PE X (.UnaryOp op a pos) (tUn r ta):=by
 intro G6 s σ H Q I h;exact UnaryOp_ (thn (ha G6 s σ H _ I h) fun v s1 ⟨x,H1,I1,r1,q1⟩=>ho G6 s1 σ H1 x v Q I1 r1 q1)
def opI{f:Value->Value->Sem Value}{C:Int->Int->Prop}{g:Int->Int->Int}
  (rule:∀(i j:Int) (t u:Tok) (s:Shared) (Q:Value->Shared->Prop) (E:Value->Shared->Prop),C i j->Q (.int (g i j) s.toks) { s with toks:=s.toks+1}->wpAny (model X.prog X.w) X.A (f (.int i t) (.int j u)) Q E s) :
  OpR X f (rI C fun i j=>.int (g i j)):=by
 intro G6 s σ H x y v u Q I rx ry h;obtain⟨i,j,rfl,rfl,hc,q⟩:=h;obtain⟨t,rfl⟩:=rx;obtain⟨t',rfl⟩:=ry;exact rule i j t t' s _ _ hc ⟨.int (g i j),H,I.tok _,⟨_,rfl⟩,q⟩
def opI0{f:Value->Value->Sem Value}{g:Int->Int->Int}
  (rule:∀(i j:Int) (t u:Tok) (s:Shared) (Q:Value->Shared->Prop) (E:Value->Shared->Prop),Q (.int (g i j) s.toks) { s with toks:=s.toks+1}->wpAny (model X.prog X.w) X.A (f (.int i t) (.int j u)) Q E s) :
  OpR X f (rI0 fun i j=>.int (g i j)):=by
 intro G6 s σ H x y v u Q I rx ry h;obtain⟨i,j,rfl,rfl,q⟩:=h;obtain⟨t,rfl⟩:=rx;obtain⟨t',rfl⟩:=ry;exact rule i j t t' s _ _ ⟨.int (g i j),H,I.tok _,⟨_,rfl⟩,q⟩
def opB0{f:Value->Value->Sem Value}{g:Int->Int->Bool}
  (rule:∀(i j:Int) (t u:Tok) (s:Shared) (Q:Value->Shared->Prop) (E:Value->Shared->Prop),Q (.bool (g i j)) s->wpAny (model X.prog X.w) X.A (f (.int i t) (.int j u)) Q E s) :
  OpR X f (rI0 fun i j=>.bl (g i j)):=by
 intro G6 s σ H x y v u Q I rx ry h;obtain⟨i,j,rfl,rfl,q⟩:=h;obtain⟨t,rfl⟩:=rx;obtain⟨t',rfl⟩:=ry;exact rule i j t t' s _ _ ⟨.bl (g i j),H,I,rfl,q⟩
def fP(i j:Int):Prop:=0<=j/\j<=1000000/\i.natAbs<2 ^ 64
def op_add:OpR X (binaryOp .Add) (rI0 fun i j=>.int (i+j)):=opI0 fun _ _ _ _ _ _ _ q=>add_int q
def op_sub:OpR X (binaryOp .Sub) (rI0 fun i j=>.int (i - j)):=opI0 fun _ _ _ _ _ _ _ q=>sub_int q
def op_pow:OpR X (binaryOp .Pow) (rI fP fun i j=>.int (i ^ j.toNat)):=opI fun _ _ _ _ _ _ _ hc q=>pow_int_small hc.1 hc.2.1 hc.2.2 q
def unI{f:Value->Sem Value}{g:Int->Int}
  (rule:∀(i:Int) (t:Tok) (s:Shared) (Q:Value->Shared->Prop) (E:Value->Shared->Prop),Q (.int (g i) s.toks) { s with toks:=s.toks+1}->wpAny (model X.prog X.w) X.A (f (.int i t)) Q E s) :
  UnR X f (rU fun i=>.int (g i)):=by
 intro G6 s σ H x v Q I rx h;obtain⟨i,rfl,q⟩:=h;obtain⟨t,rfl⟩:=rx;exact rule i t s _ _ ⟨.int (g i),H,I.tok _,⟨_,rfl⟩,q⟩
def un_neg:UnR X (unaryOp .USub) (rU fun i=>.int (-i)):=unI fun _ _ _ _ _ q=>neg_int q
def wS{G6:List (Addr × Obj)}{σ:St}{H:Hp}{s:Shared}{Q:VK}{k k':Bool}(I:Inv X G6 σ H s)(q:Q (.bl k) H)(e:k=k'):EP X G6 σ Q (.bool k') s:=by
 subst e;exact⟨.bl k,H,I,rfl,q⟩
def op_lt:OpR X (compareOp .Lt) (rI0 fun i j=>.bl (decide (i<j))):=opB0 fun _ _ _ _ _ _ _ q=>lt_int q
def op_le:OpR X (compareOp .LtE) (rI0 fun i j=>.bl (decide (i<=j))):=opB0 fun _ _ _ _ _ _ _ q=>le_int q
def op_gt:OpR X (compareOp .Gt) (rI0 fun i j=>.bl (decide (j<i))):=opB0 fun _ _ _ _ _ _ _ q=>gt_int q
def op_ge:OpR X (compareOp .GtE) (rI0 fun i j=>.bl (decide (j<=i))):=opB0 fun _ _ _ _ _ _ _ q=>ge_int q
def op_isN:OpR X (compareOp .Is) (fun x y H Q=>y=.non/\Q (.bl (decide (x=.non))) H):=by
 intro G6 s σ H x y v u Q I rx ry h;obtain⟨rfl,q⟩:=h;cases ry;refine is_none_gen (wS I q ?_);cases x <;> first
  | (cases rx;rfl)
  | (obtain⟨t,rfl⟩:=rx;rfl)
def op_notN:OpR X (compareOp .IsNot) (fun x y H Q=>y=.non/\Q (.bl (!decide (x=.non))) H):=by
 intro G6 s σ H x y v u Q I rx ry h;obtain⟨rfl,q⟩:=h;cases ry;refine isnot_none_gen (wS I q ?_);cases x <;> first
  | (cases rx;rfl)
  | (obtain⟨t,rfl⟩:=rx;rfl)
def nomark(b:Expr)(h:op≠.In:=by decide)(h2:op≠.NotIn:=by decide):behindInMarks op b=false:=by
 have e1:(op == CmpOp.In)=false:=by cases op <;> first | rfl | exact absurd rfl h
 have e2:(op == CmpOp.NotIn)=false:=by cases op <;> first | rfl | exact absurd rfl h2
 cases b <;> simp[behindInMarks,e1,e2]
def pe_cmpR{op:CmpOp}{r:R2}(ho:OpR X (compareOp op) r)(ha:PE X a ta)(hb:PE X b tb)(hm:behindInMarks op b=false):PE X (.Compare a [op] [b] pos) (tOp r ta tb):=by
 intro G6 s σ H Q I h;exact wpAny_Compare1 (binT ha hb I h fun v u s2 x y H2 I2 rx ry q=>ho G6 s2 σ H2 x y v u Q I2 rx ry q) hm
def tTest(t:TE):TT:=fun σ H Q=>t σ H fun x H'=>∃k,x=.bl k/\Q k H'
def pt_cmpR(ho:OpR X (compareOp op) r)(ha:PE X a ta)(hb:PE X b tb)(hm:behindInMarks op b=false):PT X (.Compare a [op] [b] pos) (tTest (tOp r ta tb)):=by
 intro G6 s σ H Q I h
 refine wpAny_isTrue_Compare1 (thn (ha G6 s σ H _ I h) fun v s1 ⟨x,H1,I1,r1,q1⟩=>thn (hb G6 s1 σ H1 _ I1 q1) fun u s2 ⟨y,H2,I2,r2,q2⟩ =>
  thn (ho G6 s2 σ H2 x y v u _ I2 r1 r2 q2) fun c s3 ⟨z,H3,I3,r3,k,e,q3⟩=>?_) hm
 subst e;cases r3;exact wpAny_truthy_bool ⟨H3,I3,q3⟩
def wY(r r':R2)(ta tb tc:TE):TE:=fun σ H Q=>ta σ H fun x H1=>tb σ H1 fun y H2=>r x y H2 fun z H3=>∃k,z=.bl k /\
 (if k=true then tc σ H3 fun w' H4=>r' y w' H4 Q else Q (.bl false) H3)
def yJ(ho:OpR X (compareOp op) r)(ho':OpR X (compareOp op') r')(ha:PE X a ta)(hb:PE X b tb)(hc:PE X c tc)
  (hm:lastMarks [op,op'] [b,c]=false:=by with_unfolding_all rfl):PE X (.Compare a [op,op'] [b,c] pos) (wY r r' ta tb tc):=by
 intro G6 s σ H Q I h
 refine Compare_chain (thn (ha G6 s σ H _ I h) fun v s1 ⟨x,H1,I1,r1,q1⟩=>chain_link (thn (hb G6 s1 σ H1 _ I1 q1) fun u s2 ⟨y,H2,I2,r2,q2⟩ =>
  thn (ho G6 s2 σ H2 x y v u _ I2 r1 r2 q2) fun d s3 ⟨z,H3,I3,r3,k,e,q3⟩=>?_)) hm
 subst e;cases r3;refine wpAny_truthy_bool ?_
 cases k with
 | false=>exact ite_ff ⟨.bl false,H3,I3,rfl,q3⟩
 | true=>exact ite_tt (chain_last (thn (hc G6 s3 σ H3 _ I3 q3) fun w' s4 ⟨z',H4,I4,r4,q4⟩=>ho' G6 s4 σ H4 y z' u w' Q I4 r2 r4 q4))
def k7:(sizeLine:Nat)<2 ^ 63:=by rw[sizeLine_eq];decide
def wf:OpR X (binaryOp .Add) (fun x y H Q=>∃i j,x=.str i/\y=.str j/\i.length+j.length<=sizeLine/\Q (.str (i++j)) H):=by
 intro G6 s σ H x y v u Q I rx ry h;obtain⟨i,j,rfl,rfl,hz,q⟩:=h;obtain⟨t,rfl⟩:=rx;obtain⟨t',rfl⟩:=ry;exact add_str (fun t' tk=>⟨.str (i++j),H,I.tok _,⟨_,rfl⟩,q⟩) hz
def gc(r:aF [x] us):∃u,us=[u]/\aR x u:=by
 cases r with
 | cons r1 r2=>cases r2;exact⟨_,rfl,r1⟩
def vals2(r:aF [x,y] us):∃u w',us=[u,w']/\aR x u/\aR y w':=by
 cases r with
 | cons r1 r2 =>
  cases r2 with
  | cons r3 r4=>cases r4;exact⟨_,_,rfl,r1,r3⟩
def zk:cA X (.builtin "abs") (fun xs H Q=>∃i,xs=[.int i]/\Q (.int (if i<0 then -i else i)) H):=by
 intro G6 s σ H xs us Q I r h;obtain⟨i,rfl,q⟩:=h;obtain⟨u,rfl,t,rfl⟩:=gc r;exact call_abs_int fun u tk=>⟨.int (if i<0 then -i else i),H,I.tok _,⟨_,rfl⟩,q⟩
def xb(hc:X.calm=true):cA X (.builtin "max") (fun xs H Q=>∃i j,xs=[.int i,.int j]/\Q (.int (if j>i then j else i)) H):=by
 intro G6 s σ H xs us Q I r h;obtain⟨i,j,rfl,q⟩:=h;obtain⟨u,w',rfl,⟨t,rfl⟩,⟨t',rfl⟩⟩:=vals2 r;refine max_two_ints (I.ok.hd hc) fun h' tk k=>⟨_,H,I.kept k,?_,q⟩;by_cases hj:j>i
 ·rw[qae hj,qae hj];exact⟨_,rfl⟩
 ·rw[qao hj,qao hj];exact⟨_,rfl⟩
def wV(hc:X.calm=true):cA X (.builtin "min") (fun xs H Q=>∃i j,xs=[.int i,.int j]/\Q (.int (if j<i then j else i)) H):=by
 intro G6 s σ H xs us Q I r h;obtain⟨i,j,rfl,q⟩:=h;obtain⟨u,w',rfl,⟨t,rfl⟩,⟨t',rfl⟩⟩:=vals2 r;refine min_two_ints (I.ok.hd hc) fun h' tk k=>⟨_,H,I.kept k,?_,q⟩;by_cases hj:j<i
 ·rw[qae hj,qae hj];exact⟨_,rfl⟩
 ·rw[qao hj,qao hj];exact⟨_,rfl⟩
def qA:cA X (.type "int") (fun xs H Q=>(∃i,xs=[.int i]/\Q (.int i) H)\/∃k,xs=[.bl k]/\Q (.int (if k then 1 else 0)) H):=by
 intro G6 s σ H xs us Q I r h;rcases h with ⟨i,rfl,q⟩|⟨k,rfl,q⟩
 ·obtain⟨u,rfl,t,rfl⟩:=gc r;exact call_int_int ⟨.int i,H,I,⟨_,rfl⟩,q⟩
 ·obtain⟨u,rfl,r1⟩:=gc r;cases r1;exact call_int_bool ⟨.int (if k then 1 else 0),H,I.tok _,⟨_,rfl⟩,q⟩
def tq:cA X (.type "str") (fun xs H Q=>∃i,xs=[.int i]/\i.natAbs.log2<1920/\Q (.str (toString i)) H):=by
 intro G6 s σ H xs us Q I r h;obtain⟨i,rfl,hz,q⟩:=h;obtain⟨u,rfl,t,rfl⟩:=gc r;exact PySem.P.str_of_int hz ⟨.str _,H,I.tok _,⟨_,rfl⟩,q⟩
def LenV(K:qab)(x:V)(H:Hp)(n:Nat):Prop :=
 match x with
 | .str y=>y.length<=sizeLine/\n=y.length
 | .byt y=>y.size<=sizeLine/\n=y.size
 | .ref p=>(∃xs,SqL K H p xs/\n=xs.length)\/∃xs,SqT K H p xs/\n=xs.length
 | _=>False
def kc:cA X (.builtin "len") (fun xs H Q=>∃x n,xs=[x]/\LenV X.K x H n/\Q (.int n) H):=by
 intro G6 s σ H xs us Q I r h;obtain⟨x,n,rfl,e,q⟩:=h;obtain⟨u,rfl,rx⟩:=gc r;have hl:=k7;have hs:sizeLine=16777216:=sizeLine_eq
 cases x with
 | str y =>
  obtain⟨t,rfl⟩:=rx;obtain⟨hy,e'⟩:y.length<=sizeLine/\n=y.length:=e;subst e';exact len_str (by ext) ⟨.int _,H,I.tok _,⟨_,rfl⟩,q⟩
 | byt y =>
  obtain⟨t,rfl⟩:=rx;obtain⟨hy,e'⟩:y.size<=sizeLine/\n=y.size:=e;subst e';exact PySem.W.len_bytes (by ext) ⟨.int _,H,I.tok _,⟨_,rfl⟩,q⟩
 | ref p =>
  cases rx;have e':(∃xs,SqL X.K H p xs/\n=xs.length)\/∃xs,SqT X.K H p xs/\n=xs.length:=e;rcases e' with ⟨xs,hx,e'⟩|⟨xs,hx,e'⟩
  ·subst e';obtain⟨its,r',pl,hz⟩:=I.list hx;have hlen:=r'.length;exact Calls.call_len_list pl.isList (by simp only[qas];ext) ⟨.int xs.length,H,I.tok _,⟨_,by simp only[qas];rw[hlen]⟩,q⟩
  ·subst e';obtain⟨its,r',pl,hz⟩:=I.tuple hx;have hlen:=r'.length;exact len_tuple pl (by simp only[qas];ext) ⟨.int xs.length,H,I.tok _,⟨_,by simp only[qas];rw[hlen]⟩,q⟩
 | _=>exact (show False from e).elim
end
section
variable {prog:Program} {w:World} {A:Around} {E:Value→Shared→Prop} {s:Shared} {K:qab} {x dx C f:Addr} {mA:Str→Option Value} {name:Str} {v:Value}
end
section
variable {P:Program} {w:World} {H H':Hp} {h h':Heap} {a C dx:Addr} {fs fs':List (Str × V)}
end
section
variable {X:Cx} {G6:List (Addr × Obj)} {σ:St} {H:Hp} {s:Shared} {a C dx:Addr} {fs:List (Str × V)} {f:Str} {v:V} {A:Around} {E:Value→Shared→Prop}
end
section
variable {X:Cx} {o e value:Expr} {f:Str} {pos pos' tpos:Pos} {ta tv:TE}
end
section
variable {X:Cx} {G6:List (Addr × Obj)} {σ:St} {H:Hp} {s:Shared} {A:Around} {E:Value→Shared→Prop} {Q:Value→Shared→Prop} {c:Value} {b:Bool}
end
structure Room (k:Nat) (A:Around):Prop where
 hd:A.handled=none
 dp:A.depth+3 * k+5<recursionLimit
 un:A.units+16 * k+200<cLine
 gd:A.guards=some []
def Room.mono(r:Room k A)(h:j<=k):Room j A:=⟨r.hd,by have:=r.dp;ext,by have:=r.un;ext,r.gd⟩
def Room.deeper(r:Room (k+1) A)(env:Env):Room k (A.deeper env) :=
 ⟨r.hd,by have:=r.dp;show A.depth+1+3 * k+5<_;ext,by have:=r.un;show A.units+3+16 * k+200<_;ext,r.gd⟩
def Room.depth(r:Room k A):A.depth<recursionLimit:=by have:=r.dp;ext
def Room.units(r:Room k A):A.units+64<cLine:=by have:=r.un;ext
def tNil:TA:=fun _ H Q=>Q [] H
def tCons(ta:TE)(tr:TA):TA:=fun σ H Q=>ta σ H fun x H1=>tr σ H1 fun xs H2=>Q (x::xs) H2
section
variable {X:Cx} {e:Expr} {es:List Expr} {te:TE} {t:TA} {pos:Pos}
def eY:PA X [] tNil:=fun _ _ _ _ H Q I h=>Calls.spliced_nil ⟨[],H,I,.nil,h⟩
def bR(ha:PE X e te)(hr:PA X es t)(hs:starEach (e::es) X.env=(false,eval e X.env)::starEach es X.env:=by rfl):PA X (e::es) (tCons te t):=by
 intro pos G6 s σ H Q I h;rw[hs];show wpAny _ _ (spliced ((false,eval e X.env)::backTo pos (starEach es X.env))) _ _ s;refine Calls.spliced_cons (thn (ha G6 s σ H _ I h) fun u s1 ⟨x,H1,I1,r1,q1⟩=>?_);exact thn (hr pos G6 s1 σ H1 _ I1 q1) fun us s2 ⟨xs,H2,I2,r2,q2⟩=>⟨x::xs,H2,I2,.cons r1 r2,q2⟩
def tTup(t:TA):TE:=fun σ H Q=>t σ H fun xs H1=>xs.length<=sizeLine/\∀p,H1 p=none->Q (.ref p) (upd H1 p (.tup xs))
def tLst(t:TA):TE:=fun σ H Q=>t σ H fun xs H1=>xs.length<=sizeLine/\∀p,H1 p=none->Q (.ref p) (upd H1 p (.lst xs))
def rN{x1}(h:PA X es t):PE X (.Tuple es x1 pos) (tTup t):=by
 intro G6 s σ H Q I hq;refine wpAny_Tuple_spliced (thn (h pos G6 s σ H _ I hq) fun us s1 ⟨xs,H1,I1,r,z,q⟩=>⟨by rw[<-r.length];exact z,?_⟩);have hf:H1 s1.heap.objs.size=none:=I1.hok.fresh (qai _);refine⟨.ref s1.heap.objs.size,upd H1 s1.heap.objs.size (.tup xs),I1.laid (t':=s1.toks) (fun b u e=>qac _ e) (qai _) ?_,rfl,q _ hf⟩;exact⟨z,us,r,⟨_,qav _ rfl,rfl,⟨_,rfl⟩,rfl⟩⟩
def pe_lst(h:PA X es t):PE X (.List es pos) (tLst t):=by
 intro G6 s σ H Q I hq;refine wpAny_List_spliced (thn (h pos G6 s σ H _ I hq) fun us s1 ⟨xs,H1,I1,r,z,q⟩=>⟨by rw[<-r.length];exact z,?_⟩);have hf:H1 s1.heap.objs.size=none:=I1.hok.fresh (qai _);refine⟨.ref s1.heap.objs.size,upd H1 s1.heap.objs.size (.lst xs),I1.laid (t':=s1.toks) (fun b u e=>qac _ e) (qai _) ?_,rfl,q _ hf⟩;exact⟨z,us,0,r,qav _ rfl⟩
end
abbrev Sp:=List V->Hp->VK->XK->Prop
abbrev CXT:=List Env->Hp->Shared->XK->Value->Shared->Prop
structure Env0 (P:Program) (w:World) (K:qab) (mg:Str->Option Value) (base:Heap) (A:Around) (outer:List Env) (s:Shared) (H:Hp):Prop where
 frames:A.frames=some outer
 mod:Mod K mg base
 bs:∀b o,base.get? b=some o->s.heap.get? b=some o/\H b=none
 bsz:base.objs.size<=s.heap.objs.size
 funs:s.heap.FunFrames base outer
 frf:∀b∈frs outer,H b=none
 hok:HOk P w H s.heap
 bare:AllBare s.gens
inductive CE (outer:List Env) (P:Program) (w:World) (H:Hp) (s:Shared) (Q:VK) (u:Value) (s':Shared):Prop
 | mk (v:V) (H':Hp) (o:s'.os=s.os) (b:AllBare s'.gens) (n:Un (frs outer) [] H H' s.heap s'.heap) (k:HOk P w H' s'.heap) (r:aR v u) (q:Q v H'):CE outer P w H s Q u s'
def CR(CX:CXT)(outer:List Env)(P:Program)(w:World)(H:Hp)(s:Shared)(Q:VK)(E:XK)(r:Result)(s':Shared):Prop :=
 match r with
 | .ok (.ret u)=>CE outer P w H s Q u s'
 | .ok _=>False
 | .error e=>CX outer H s E e s'
structure FnOk (P:Program) (w:World) (K:qab) (mg:Str->Option Value) (base:Heap) (CX:CXT) (k:Nat) (f:Addr) (fd:FuncData) (ps:List Str) (sp:Sp):Prop where
 len:∀vs H Q E,sp vs H Q E->vs.length=ps.length
 run:∀(A:Around) (outer:List Env) (s:Shared) (H:Hp) (args:Args) (us:List Value) (vs:List V) (Q:VK) (E:XK),Room k A->Env0 P w K mg base A outer s H->BindsTo s fd args (ps.zip us)->aF vs us->sp vs H Q E ->
  codeAny (model P w) A (.call (.ref f) args) (CR CX outer P w H s Q E) s
def FnOk.mono{P:Program}{w:World}{K:qab}{mg:Str->Option Value}{base:Heap}{CX:CXT}{j k:Nat}{f:Addr}{fd:FuncData}{ps:List Str}{sp:Sp}(F:FnOk P w K mg base CX j f fd ps sp)(h:j<=k) :
  FnOk P w K mg base CX k f fd ps sp:=⟨F.len,fun A outer s H args us vs Q E hr=>F.run A outer s H args us vs Q E (hr.mono h)⟩
def FnOk.imp{P:Program}{w:World}{K:qab}{mg:Str->Option Value}{base:Heap}{CX:CXT}{k:Nat}{f:Addr}{fd:FuncData}{ps:List Str}{sp sp':Sp}(F:FnOk P w K mg base CX k f fd ps sp)
  (h:∀vs H Q E,sp' vs H Q E->sp vs H Q E):FnOk P w K mg base CX k f fd ps sp' :=
 ⟨fun vs H Q E q=>F.len vs H Q E (h _ _ _ _ q),fun A outer s H args us vs Q E hr he hb hv hs=>F.run A outer s H args us vs Q E hr he hb hv (h _ _ _ _ hs)⟩
section
variable {X:Cx} {G6:List (Addr × Obj)} {σ:St} {H:Hp} {s s':Shared}
def Inv.env0(I:Inv X G6 σ H s):Env0 X.prog X.w X.K X.mg X.base X.A X.stack s H :=
 ⟨I.ok.frames,I.ok.mod,I.bs,qax I.ok.bsz I.sz,I.stack,I.stkFree,I.hok,I.bare⟩
def Inv.after(I:Inv X G6 σ H s)(h:CE X.stack X.prog X.w H s Q u s'):EP X G6 σ Q u s':=by
 obtain⟨v,H',os,bare,un,hok,r,q⟩:=h;obtain⟨hh,g,d,t,os'⟩:=s';obtain rfl:os'=s.os:=os;exact⟨v,H',I.call (h':=hh) (g':=g) (d':=d) (t':=t) (ch:=[]) un hok bare (fun b z=>absurd z (by simp)),r,q⟩
end
def oI(K:qab)(fd:FuncData)(ps:List Str)(ds:List Value):Prop :=
 ∀(s:Shared) (us:List Value),K.In s.heap->(us++ds).length=ps.length->BindsTo s fd ⟨us,[]⟩ (ps.zip (us++ds))
def oI.all{K:qab}{fd:FuncData}{ps:List Str}(h:∀us:List Value,us.length=ps.length->bindArgs fd ⟨us,[]⟩=pure (ps.zip us)):oI K fd ps []:=fun s us _ hl=>by
 rw[qbo] at hl ⊢;exact .of_eq (h us hl)
section
variable {X:Cx} {CX:CXT} {k:Nat} {f C:Addr} {fd:FuncData} {ps:List Str} {sp:Sp} {dvs:List V} {ds:List Value} {E:XK} {x m:Str} {p pos apos:Pos} {e o:Expr} {es:List Expr} {ta:TE} {t:TA}
end
section
variable {X:Cx} {CX:CXT} {k:Nat} {f C:Addr} {fd:FuncData} {ps ks:List Str} {sp:Sp} {E:XK} {x m:Str} {p pos apos kpos:Pos} {e o:Expr} {es:List Expr} {kws:List Keyword} {te ta:TE} {t tk:TA} {nm:Option Str} {g:List Value→List Value→List Value} {gV:List V→List V→List V}
end
structure FnScope (N P:List Str) (sc:Scope):Prop where
 kind:sc.kind=.function
 co:sc.isCoroutine=false
 gen:sc.isGenerator=false
 nd:N.Nodup
 pre:N.take P.length=P
 par:∀x∈P,sc.names.lookup x=some .local\/sc.names.lookup x=some .cell
 nofree:∀y∈sc.names,y.2≠.free
def qC{kindOf:Str->Option NameKind}{x:Str}:∀{binds:List (Str × Value)} {m:Str->Option Value},(∀v,(x,v)∉binds)->bindL kindOf binds m x=m x
 | [],_,_=>rfl
 | (n,v)::r,m,h=>by
  unfold bindL;rw[qC fun w hw=>h w (qal _ hw)];split
  ·have:x≠n:=by rintro rfl;exact h v qaC
   simp[this]
  ·rfl
def pY{kindOf:Str->Option NameKind}{x:Str}:∀{binds:List (Str × Value)} {m:Str->Option Value},(∀v,(x,v)∉binds)->bindC kindOf binds m x=m x
 | [],_,_=>rfl
 | (n,v)::r,m,h=>by
  unfold bindC;rw[pY fun w hw=>h w (qal _ hw)];split
  ·rfl
  ·have:x≠n:=by rintro rfl;exact h v qaC
   simp[this]
def ql{kindOf:Str->Option NameKind}{x:Str}{v:Value}:∀{P:List Str} {vs:List Value} {i:Nat} {m:Str->Option Value},P.Nodup->P[i]?=some x->vs[i]?=some v->kindOf x=some .local ->
  bindL kindOf (P.zip vs) m x=some v
 | [],_,_,_,_,h,_,_=>by simp at h
 | _::_,[],_,_,_,_,h,_=>by simp at h
 | p::P,w::vs,0,m,nd,h1,h2,hk=>by
  simp at h1 h2;subst h1;subst h2;show bindL kindOf ((p,w)::P.zip vs) m p=_;unfold bindL;rw[qC fun v hv=>(qbA.mp nd).1 (qbJ hv).1,qae hk];simp
 | p::P,w::vs,i+1,m,nd,h1,h2,hk=>by
  show bindL kindOf ((p,w)::P.zip vs) m x=_;unfold bindL;exact ql (i:=i) (qbA.mp nd).2 (by simpa using h1) (by simpa using h2) hk
def qF{kindOf:Str->Option NameKind}{x:Str}{v:Value}:∀{P:List Str} {vs:List Value} {i:Nat} {m:Str->Option Value},P.Nodup->P[i]?=some x->vs[i]?=some v->kindOf x≠some .local ->
  bindC kindOf (P.zip vs) m x=some v
 | [],_,_,_,_,h,_,_=>by simp at h
 | _::_,[],_,_,_,_,h,_=>by simp at h
 | p::P,w::vs,0,m,nd,h1,h2,hk=>by
  simp at h1 h2;subst h1;subst h2;show bindC kindOf ((p,w)::P.zip vs) m p=_;unfold bindC;rw[pY fun v hv=>(qbA.mp nd).1 (qbJ hv).1,qao hk];simp
 | p::P,w::vs,i+1,m,nd,h1,h2,hk=>by
  show bindC kindOf ((p,w)::P.zip vs) m x=_;unfold bindC;exact qF (i:=i) (qbA.mp nd).2 (by simpa using h1) (by simpa using h2) hk
def start(N:List Str)(vs:List V):St:=vs.map some++List.replicate (N.length - vs.length) none
def ss(CX:CXT)(P:Program)(w:World)(K:qab)(mg:Str->Option Value)(base:Heap)(N:List Str)(qual:Str)(scope:Scope)(f:Addr)(cd:Value)(A:Around)(outer:List Env)(s:Shared)(H:Hp)(E:XK):Cx where
 prog:=P
 w:=w
 K:=K
 mg:=mg
 base:=base
 A:=A.deeper (envOfC qual scope s.heap.objs.size f cd)
 N:=N
 s₀:=s
 H₀:=H
 env:=envOfC qual scope s.heap.objs.size f cd
 outer:=outer
 stack:=envOfC qual scope s.heap.objs.size f cd::outer
 ex:=[]
 calm:=true
 fn:=fun _=>true
 pn:=[]
 xe:=fun e s'=>wpAny (model P w) (A.deeper (envOfC qual scope s.heap.objs.size f cd)) (leaving (envOfC qual scope s.heap.objs.size f cd) e) (fun _ s''=>CX outer H s E e s'') (fun e' s''=>CX outer H s E e' s'') s'
def rZ{sc:Scope}{n:Nat}{x:Str}(h:sc.names.lookup x=some .cell):∃c,(cellsFrom n sc.names []).lookup x=some c:=by
 have q:=PySem.W.cellsFrom_some sc.names n [] (.inl h);exact Option.isSome_iff_exists.mp q
def xV{CX:CXT}{P:Program}{w:World}{K:qab}{mg:Str->Option Value}{base:Heap}{N ps:List Str}{qual:Str}{scope:Scope}{f:Addr}{cd:Value}{A:Around}{outer:List Env}{s s1:Shared}{H:Hp}{E:XK}{us:List Value}{vs:List V}
  (S:FnScope N ps scope) (hd:A.handled=none) (e0:Env0 P w K mg base A outer s H) (hl:vs.length=ps.length) (r:aF vs us)
  (x:InCallC s s.heap.objs.size (bindL (envOfC qual scope s.heap.objs.size f cd).kindOf (ps.zip us) fun _=>none) (cellsFrom (s.heap.objs.size+1) scope.names []) (bindC (envOfC qual scope s.heap.objs.size f cd).kindOf (ps.zip us) fun _=>none) s1) :
  Inv (ss CX P w K mg base N qual scope f cd A outer s H E) [] (start N vs) H s1:=by
 have hpl:ps.length<=N.length:=by have:=congrArg List.length S.pre;rw[qbx] at this;ext
 obtain⟨h1,tk,rfl,hk⟩:=x.done;have noA:∀b:Addr,b∉(ss CX P w K mg base N qual scope f cd A outer s H E).ex:=fun b z=>absurd (show b∈([]:List Addr) from z) (by simp)
 refine⟨⟨e0.mod,S.kind,rfl,rfl,qai _,fun y z c h1 h2=>?_,fun y hy=>?_,fun y c _ h=>?_,fun _=>hd,Around.frames_deeper e0.frames,.inr ⟨rfl,rfl⟩,fun b z=>absurd z (noA b),e0.bs,e0.bsz,fun b _ _=>noA b,fun b z=>absurd z (noA b),e0.funs,e0.frf⟩,
  rfl,e0.bare,Un.kept hk,⟨_,x.toInCall.ns,fun i y v h1 h2 h3=>?_⟩,fun y c h=>⟨_,x.cell y c h⟩,e0.hok.fresh (qai _),fun y c h=>?_,fun p hp=>absurd (show p∈([]:List (Addr × Obj)) from hp) (by simp),e0.hok.kept hk,?_⟩
 ·exact name_of_addr x.apart (PySem.mem_of_lookup h1) (PySem.mem_of_lookup h2)
 ·have hy:scope.names.lookup y=some .cell\/scope.names.lookup y=some .free:=hy;rcases hy with hy|hy
  ·exact rZ hy
  ·exact absurd rfl (S.nofree _ (PySem.mem_of_lookup hy))
 ·exact qbG (x.above y c (PySem.mem_of_lookup h))
 ·have hi:i<vs.length:=by
   unfold start at h2;by_cases hi:i<vs.length
   ·exact hi
   ·rw[qaw (by simpa using hi)] at h2;rw[qaZ] at h2
    split at h2 <;> cases h2
  have ha:vs[i]?=some v:=by
   unfold start at h2;rw[qak (by simpa using hi),qaK] at h2
   cases e:vs[i]? with
   | none=>rw[e] at h2;cases h2
   | some a=>rw[e] at h2;cases h2;rfl
  obtain⟨u,hu,rv⟩:=r.get ha;have hp:ps[i]?=some y:=by
   rw[<-S.pre,qbH (by ext)];exact h1
  have ndP:ps.Nodup:=by rw[<-S.pre];exact S.nd.sublist (List.take_sublist _ _)
  refine⟨u,rv,?_⟩;rcases S.par y (qbm hp) with k|k
  ·exact .inl ⟨k,ql ndP hp hu k⟩
  ·obtain⟨c,e⟩:=rZ (n:=s.heap.objs.size+1) k;refine .inr ⟨.inl k,c,e,?_⟩;have q:=x.cell y c e;rw[qF ndP hp hu (by show scope.names.lookup y≠_;rw[k];decide)] at q;exact q
 ·exact e0.hok.fresh (qbG (x.above y c (PySem.mem_of_lookup h)))
 ·unfold start;show _=N.length;rw[qba,qaF,qbs];ext
def fn_of{CX:CXT}{P:Program}{w:World}{K:qab}{mg:Str->Option Value}{base:Heap}{k:Nat}{f:Addr}{name qual:Str}{params:Arguments}{body:List Stmt}{scope:Scope}{dV kV doc pm cdv ct oc:Value}{an od:Option Addr}
  {osl:Array (Option Value)} {N ps:List Str} {sp:Sp} (lk:K.lookup f=some ⟨oc,od,.func (PySem.W.fnOf name qual params body scope dV kV doc pm an cdv ct),osl⟩) (hcd:PySem.W.codeIn K cdv qual=true) (S:FnScope N ps scope)
  (len:∀vs H Q E,sp vs H Q E->vs.length=ps.length)
  (hbody:∀(A:Around) (outer:List Env) (s:Shared) (H:Hp) (vs:List V) (Q:VK) (E:XK),Room k (A.deeper (envOfC qual scope s.heap.objs.size f cdv))->sp vs H Q E ->
   ∃t,PSs (ss CX P w K mg base N qual scope f cdv A outer s H E) body t/\t { nx:=fun _ H'=>Q .non H',rt:=Q} (start N vs) H) :
  FnOk P w K mg base CX (k+1) f (PySem.W.fnOf name qual params body scope dV kV doc pm an cdv ct) ps sp:=by
 refine⟨len,fun A outer s H args us vs Q E hr e0 hb r hsp=>?_⟩;have hl:=len _ _ _ _ hsp;have KX:K.In s.heap:=e0.mod.kin.keeps fun b o e=>(e0.bs b o e).1;have lim:s.heap.NoLimit:=e0.mod.nolimit.keeps fun b o e=>(e0.bs b o e).1;have hkind:∀y∈ps.zip us,scope.names.lookup y.1=some .local\/(scope.names.lookup y.1=some .cell/\((cellsFrom (s.heap.objs.size+1) scope.names []).lookup y.1).isSome=true):=fun ⟨n,v⟩ hy=>by
  rcases S.par n (qbJ hy).1 with q|q
  ·exact .inl q
  ·exact .inr ⟨q,PySem.W.cellsFrom_some _ _ _ (.inl q)⟩
 refine codeAny_call_function hr.depth (KX _ _ lk) rfl S.co S.gen rfl (PySem.W.codeRec_of KX hcd) (hb _ _ _ _ ?_);refine wpAny_newFunctionEnv_cells S.kind hkind fun env he s1 x=>?_;subst he;refine⟨lim.keeps x.toInCall.keep,codeAny_func ?_⟩;obtain⟨t,ht,hq⟩:=hbody A outer s H vs Q E (hr.deeper _) hsp;have I:Inv (ss CX P w K mg base N qual scope f cdv A outer s H E) [] (start N vs) H s1:=xV S hr.hd e0 hl r x;refine wpAny_mono (ht [] s1 (start N vs) H _ I hq) (fun fl s' hs=>?_) fun e s' hs=>hs;have fin:∀{σ':St} {H':Hp} {v:V} {u:Value},Inv (ss CX P w K mg base N qual scope f cdv A outer s H E) [] σ' H' s'->aR v u->Q v H'->CE outer P w H s Q u s' :=
  fun {σ' H' v u} J rv q=>⟨v,H',J.os,J.bare,J.base,J.hok,rv,q⟩
 cases fl with
 | ret u =>
  obtain⟨v,σ',H',J,rv,q⟩:=hs;exact fin J rv q
 | next =>
  obtain⟨σ',H',J,q⟩:=hs;exact fin (v:=V.non) (u:=Value.none) J rfl q
 | brk =>
  obtain⟨_,_,_,q⟩:=hs;exact False.elim q
 | cont =>
  obtain⟨_,_,_,q⟩:=hs;exact False.elim q
section
variable {X:Cx} {x:Str} {p pos:Pos} {e:Expr} {es:List Expr} {t:TA} {id T:String} {r:List V→Hp→VK→Prop}
def tCB(r:List V->Hp->VK->Prop)(t:TA):TE:=fun σ H Q=>t σ H fun vs H1=>r vs H1 Q
def fy(hc:cA X (.builtin id) r)(hg:Gl X x)(hm:X.mg x=none)(hv:bootBuiltins x=some (.builtin id))(ha:PA X (e::es) t)(hn:x≠"__name__":=by decide)(hdb:(x == ("__debug__":Str))=false:=by decide)
  (he:starEach (e::es) X.env=(false,eval e X.env)::starEach es X.env:=by rfl) (hpl:(backTo pos (starEach es X.env)).any (·.1)=false:=by rfl):PE X (.Call (.Name x p) (e::es) [] pos) (tCB r t):=by
 intro G6 s σ H Q I h;refine wpAny_Call_Name_kw (kZ I hg hm hv ?_ hn hdb);exact PyProof.Rows.callWith_builtin1 (thn (ha pos G6 s σ H _ I h) fun us s1 ⟨vs,H1,I1,r1,q1⟩=>hc G6 s1 σ H1 vs us Q I1 r1 q1) he hpl
def kS(hc:cA X (.type T) r)(hg:Gl X x)(hm:X.mg x=none)(hv:bootBuiltins x=some (.type T))(ha:PA X (e::es) t)(hn:x≠"__name__":=by decide)(hdb:(x == ("__debug__":Str))=false:=by decide)
  (he:starEach (e::es) X.env=(false,eval e X.env)::starEach es X.env:=by rfl) (hpl:(backTo pos (starEach es X.env)).any (·.1)=false:=by rfl):PE X (.Call (.Name x p) (e::es) [] pos) (tCB r t):=by
 intro G6 s σ H Q I h;refine wpAny_Call_Name_kw (kZ I hg hm hv ?_ hn hdb);exact PyProof.Rows.callWith_type1 (thn (ha pos G6 s σ H _ I h) fun us s1 ⟨vs,H1,I1,r1,q1⟩=>hc G6 s1 σ H1 vs us Q I1 r1 q1) he hpl
end
end L2
namespace HT
open PySem PyProof.Rows
section
open PySem.SeqAt
open PySem.AutoSeq1 (wpAny_loadPart')
open PySem.MeetsSeq PySem.MeetsSeq2 PySem.MeetsSeq3
end
section
variable {prog:Program} {w:World} {A:Around} {E:Value→Shared→Prop} {s:Shared}
def cat_tup(ht:IsTup s.heap t vs.toArray)(hb:IsTup s.heap b ws.toArray)(hv:vs≠[])
  (h1:ws=[]->Q (.ref t) s) (h2:ws≠[]->Q (.ref s.heap.objs.size) { s with heap:=s.heap.push { cls:=.type "tuple",data:=.seq (vs++ws).toArray}})
  (hsz:vs.length+ws.length<=sizeLine):wpAny (model prog w) A (binaryOp .Add (.ref t) (.ref b)) Q E s:=by
 obtain⟨⟨cls,dd,data,sl⟩,ho,hc,n,hd⟩:=id ht;obtain⟨⟨cls2,dd2,data2,sl2⟩,ho2,hc2,n2,hd2⟩:=id hb;simp only at hc hd hc2 hd2;subst hc hd hc2 hd2;have e:vs.toArray++ws.toArray=(vs++ws).toArray:=by simp
 by_cases hw:ws=[]
 ·exact concat_meets ⟨_,ho,rfl⟩ ⟨_,ho2,rfl⟩ noFill_tuple_add seq_tuple_add PySem.F.slot_tuple_add PySem.F.entry_tuple_add (PySem.F.args_tuple_add_2 _ _)
   (tuple_addW1 t b vs.toArray ws.toArray n n2 dd dd2 sl sl2 (by simpa using hv) (by simp[hw])) ⟨ho,ho2,h1 hw⟩
 ·refine concat_meets ⟨_,ho,rfl⟩ ⟨_,ho2,rfl⟩ noFill_tuple_add seq_tuple_add PySem.F.slot_tuple_add PySem.F.entry_tuple_add (PySem.F.args_tuple_add_2 _ _)
   (tuple_addW2 t b vs.toArray ws.toArray n n2 dd dd2 sl sl2 (by simpa using hv) (by simpa using hw) (by rw[qas,qas];exact hsz)) ⟨ho,ho2,?_⟩
  rw[e];exact h2 hw
def sIx(n d:Nat):Option Int->Nat
 | none=>d
 | some v=>if v<0 then (v+(n:Int)).toNat else min v.toNat n
def sIx_le(n d:Nat)(hd:d<=n)(o:Option Int):sIx n d o<=n:=by
 cases o with
 | none=>exact hd
 | some v =>
  show (if v<0 then (v+(n:Int)).toNat else min v.toNat n)<=n;by_cases hv:v<0
  ·rw[qae hv];ext
  ·rw[qao hv];exact Nat.min_le_right _ _
def uG(v:Int)(n d:Nat):(if v<0 then max (v+(n:Int)) 0 else min v (n:Int))=((sIx n d (some v):Nat):Int):=by
 show (if v<0 then max (v+(n:Int)) 0 else min v (n:Int))=(((if v<0 then (v+(n:Int)).toNat else min v.toNat n):Nat):Int);by_cases hv:v<0
 ·simp only[qae hv];ext
 ·simp only[qao hv];ext
def v5(lo hi:Option Int)(n:Nat):Builtin.Slice.sliceAdjust lo hi 1 (n:Int)=(((sIx n 0 lo:Nat):Int),((sIx n n hi:Nat):Int)):=by
 have h1:¬((1:Int)<0):=by ext
 unfold Builtin.Slice.sliceAdjust;simp only[h1,if_false];refine Prod.ext ?_ ?_
 ·cases lo with
  | none=>rfl
  | some v=>exact uG v n 0
 ·cases hi with
  | none=>rfl
  | some v=>exact uG v n n
def vV(i j:Nat):Builtin.Slice.slicePlaces (i:Int) (j:Int) 1=j - i:=by
 unfold Builtin.Slice.slicePlaces;have h1:(1:Int)>0:=by ext
 simp only[h1,if_true,Int.ediv_one]
 split <;> ext
def o4(p:IsPart v o)(h:Q o s):wpAny (model prog w) A (Builtin.Slice.slicePartIndex v) Q E s:=by
 cases p with
 | none=>exact slicePart_none h
 | int i t=>exact slicePart_int h
def io{sl:Addr}{vl vu:Value}{lo hi:Option Int}{n:Nat}{Q:Int × Int × Nat->Shared->Prop}(hs:s.heap.IsSliceOf sl vl vu .none)(pl:IsPart vl lo)(pu:IsPart vu hi)
  (h:Q (((sIx n 0 lo:Nat):Int),1,sIx n n hi - sIx n 0 lo) s):wpAny (model prog w) A (Builtin.Slice.sliceApplied (.ref sl) (pure (n:Int))) Q E s:=by
 obtain⟨os,hos,hcs,hds⟩:=id hs;unfold Builtin.Slice.sliceApplied Builtin.Slice.sliceFields;refine qaa (qaa (wpAny_field hos hds (x:=vl) rfl (qaa (wpAny_field hos hds (x:=vu) rfl (qaa (wpAny_field hos hds (x:=.none) rfl (qan ?_)))))));refine qaa (slicePart_none ?_);show wpAny _ _ (if ((1:Int) == 0)=true then _ else _) _ _ s;rw[qao (by decide)];refine qaa (o4 pl (qaa (o4 pu (qaa (qan ?_)))));show wpAny _ _ (match Builtin.Slice.sliceAdjust lo hi 1 (n:Int) with | (lo,hi)=>pure (lo,(1:Int),Builtin.Slice.slicePlaces lo hi 1)) _ _ s;rw[v5 lo hi n];show wpAny _ _ (pure (((sIx n 0 lo:Nat):Int),(1:Int),Builtin.Slice.slicePlaces ((sIx n 0 lo:Nat):Int) ((sIx n n hi:Nat):Int) 1)) _ _ s;rw[vV];exact qan h
def zr(xs:Array Value)(i k:Nat):((List.range k).filterMap fun (m:Nat)=>xs[((i:Int)+(m:Int) * 1).toNat]?).toArray=((xs.toList.drop i).take k).toArray:=by
 have e:(fun (m:Nat)=>xs[((i:Int)+(m:Int) * 1).toNat]?)=fun m=>xs[i+m]?:=by
  funext m
  have:((i:Int)+(m:Int) * 1).toNat=i+m:=by ext
  rw[this]
 rw[e]
 have:=pick_run xs i k
 rw[List.filterMap_map] at this;have e2:((fun x=>xs[x]?)∘fun x=>i+x)=fun m=>xs[i+m]?:=rfl;rw[e2] at this;rw[this]
def mw{t sl:Addr}{items:Array Value}{vl vu:Value}{lo hi:Option Int}{Q:Value->Shared->Prop}(ht:IsTup s.heap t items)(hs:s.heap.IsSliceOf sl vl vu .none)(pl:IsPart vl lo)(pu:IsPart vu hi)
  (hw:¬(sIx items.size 0 lo=0/\sIx items.size items.size hi=items.size))
  (h:Q (.ref s.heap.objs.size) { s with heap:=s.heap.push { cls:=.type "tuple",data:=.seq ((items.toList.drop (sIx items.size 0 lo)).take (sIx items.size items.size hi - sIx items.size 0 lo)).toArray}})
  (hsz:items.size<=sizeLine):wpAny (model prog w) A (getItem (.ref t) (.ref sl)) Q E s:=by
 have htake:sizeOk (.seq ((items.toList.drop (sIx items.size 0 lo)).take (sIx items.size items.size hi - sIx items.size 0 lo)).toArray):=by
  show ((items.toList.drop (sIx items.size 0 lo)).take (sIx items.size items.size hi - sIx items.size 0 lo)).toArray.size<=sizeLine;rw[qas,qbx,qco,qaW];ext
 have hj:sIx items.size items.size hi<=items.size:=sIx_le _ _ (qai _) hi;obtain⟨os,hos,hcs,hds⟩:=id hs;have hTs:s.TypeIs (.ref sl) "slice":=⟨os,hos,hcs⟩;unfold getItem
 try with_reducible refine wpAny_holding ?_
 first | refine qaa (qan ?_) | skip
 refine qaa (wpAny_sequenceKey ht.typeIs (by decide) ?_)
 refine qaa (wpAny_callSpecial?_slot (name:=Str.ofString "__getitem__") ht.typeIs PyProof.Rows.slot_tuple_getitem
  (wpAny_call_entry PyProof.Rows.slot_tuple_getitem ht.typeIs entry_tuple_getitem ?_ (args_tuple_getitem _ _)))
 show wpAny _ _ (Builtin.Tuple.tupleItemsOf (.ref t) >>= _) _ _ s;refine qaa (tupleItemsOf_ ht ?_);refine qaa (wpAny_typeOf hTs ?_);rw[qae (by decide)];refine qaa (io hs pl pu ?_);have hno:¬((((sIx items.size 0 lo:Nat):Int) == 0 && (1:Int) == 1 && (sIx items.size items.size hi - sIx items.size 0 lo) == items.size)=true):=by
  intro q;rw[qaG,qaG] at q;have q1:((sIx items.size 0 lo:Nat):Int)=0:=eq_of_beq q.1.1;have q2:sIx items.size items.size hi - sIx items.size 0 lo=items.size:=eq_of_beq q.2;exact hw ⟨by ext,by ext⟩
 show wpAny _ _ (if (((sIx items.size 0 lo:Nat):Int) == 0 && (1:Int) == 1 && (sIx items.size items.size hi - sIx items.size 0 lo) == items.size)=true then _ else _) _ _ s;rw[qao hno,zr]
 first
  | exact qaa (m:=Builtin.Tuple.tupleExact _) (wpAny_newObj_type (qan ⟨_,rfl,qan h⟩) htake)
  | exact qaa (m:=Builtin.Tuple.tupleExact _) (wpAny_newObj_type (qaa (qan (qan ⟨_,rfl,qan h⟩))) htake)
  | exact qaa (qaa (m:=Builtin.Tuple.tupleExact _) (wpAny_newObj_type (qan (qan ⟨_,rfl,qan h⟩)) htake))
  | exact qaa (qaa (m:=Builtin.Tuple.tupleExact _) (wpAny_newObj_type (qan ⟨_,rfl,qan h⟩) htake))
end
end HT
namespace L2
open PySem PySem.Spec PyProof.Rows
abbrev TO:=St->Hp->(Option Int->Hp->Prop)->Prop
def PO(X:Cx)(e:Option Expr)(t:TO):Prop :=
 ∀(G6:List (Addr × Obj)) (s:Shared) (σ:St) (H:Hp) (Q:Option Int->Hp->Prop),Inv X G6 σ H s->t σ H Q ->
  wpAny (model X.prog X.w) X.A (evalPart e X.env) (fun u s'=>∃o H',Inv X G6 σ H' s'/\IsPart u o/\Q o H') X.xe s
def tNoPart:TO:=fun _ H Q=>Q none H
def tPart(t:TE):TO:=fun σ H Q=>t σ H fun x H1=>∃i,x=.int i/\Q (some i) H1
def wJ:∀{us:List Value},aF (ns.map V.int) us->IntsAre us ns:=by
 induction ns with
 | nil=>intro us r;rw[qca] at r;cases r;exact .nil
 | cons n ns ih =>
  intro us r;rw[qaE] at r
  cases r with
  | cons r1 r2 =>
   obtain⟨t,e⟩:=r1;subst e;exact .cons n t (ih r2)
section
variable {X:Cx} {e:Expr} {te:TE} {lo hi:Option Expr} {tl th:TO} {pos p2:Pos}
def po_none:PO X none tNoPart:=by
 intro G6 s σ H Q I h;rw[evalPart_none];exact qan ⟨none,H,I,.none,h⟩
def po_some(h:PE X e te):PO X (some e) (tPart te):=by
 intro G6 s σ H Q I hw;rw[evalPart_some];refine thn (h G6 s σ H _ I hw) fun u s1 ⟨x,H1,I1,r1,q1⟩=>?_;obtain⟨i,rfl,q⟩:=q1;obtain⟨t,rfl⟩:=r1;exact⟨some i,H1,I1,.int i t,q⟩
def SlR(X:Cx)(r:V->Option Int->Option Int->Hp->VK->Prop):Prop :=
 ∀(G6:List (Addr × Obj)) (s:Shared) (σ:St) (H:Hp) (x:V) (v vl vu:Value) (lo hi:Option Int) (sl:Addr) (Q:VK),Inv X G6 σ H s->aR x v->s.heap.IsSliceOf sl vl vu .none->IsPart vl lo->IsPart vu hi->r x lo hi H Q ->
  ∃T id,typeLookup (.type T) "__getitem__"=pure (some (.builtin id))/\s.TypeIs v T/\wpAny (model X.prog X.w) X.A (getItem v (.ref sl)) (EP X G6 σ Q) X.xe s
def tSl(r:V->Option Int->Option Int->Hp->VK->Prop)(te:TE)(tl th:TO):TE:=fun σ H Q=>te σ H fun x H1=>tl σ H1 fun l H2=>th σ H2 fun u H3=>r x l u H3 Q
def si(hr:SlR X r)(he:PE X e te)(hl:PO X lo tl)(hu:PO X hi th):PE X (.Subscript e (.Slice lo hi none p2) pos) (tSl r te tl th):=by
 intro G6 s σ H Q I h;refine Subscript_ (thn (he G6 s σ H _ I h) fun v s1 ⟨x,H1,I1,r1,q1⟩=>?_);refine wpAny_Slice (thn (hl G6 s1 σ H1 _ I1 q1) fun vl s2 ⟨l,H2,I2,pl,q2⟩=>thn (hu G6 s2 σ H2 _ I2 q2) fun vu s3 ⟨u,H3,I3,pu,q3⟩=>?_);rw[evalPart_none];refine qan ?_;have I4:Inv X G6 σ H3 { s3 with heap:=s3.heap.push { cls:=.type "slice",data:=.fields #[vl,vu,.none]}}:=I3.kept (t':=s3.toks) fun b ob q=>qac _ q;obtain⟨T,id,hT,ht,hg⟩:=hr G6 { s3 with heap:=s3.heap.push { cls:=.type "slice",data:=.fields #[vl,vu,.none]}} σ H3 x v vl vu l u s3.heap.objs.size Q I4 r1 (Heap.IsSliceOf.new ..) pl pu q3;show wpAny (model X.prog X.w) X.A (subscriptTail e (.Slice lo hi none p2) v (.ref s3.heap.objs.size)) (EP X G6 σ Q) X.xe { s3 with heap:=s3.heap.push { cls:=.type "slice",data:=.fields #[vl,vu,.none]}};exact tail_any (ops:=[.ref s3.heap.objs.size,v]) ht hT hg (by with_unfolding_all rfl)
def gF(xs:List V)(lo hi:Option Int):List V:=(xs.drop (HT.sIx xs.length 0 lo)).take (HT.sIx xs.length xs.length hi - HT.sIx xs.length 0 lo)
def mJ(xs:List V)(lo hi:Option Int):(gF xs lo hi).length<=xs.length:=by
 unfold gF;rw[qbx,qco];ext
def rSlT(K:qab):V->Option Int->Option Int->Hp->VK->Prop:=fun x lo hi H Q=>∃a xs,x=.ref a/\SqT K H a xs /\
 ¬(HT.sIx xs.length 0 lo=0/\HT.sIx xs.length xs.length hi=xs.length)/\∀p,H p=none->Q (.ref p) (upd H p (.tup (gF xs lo hi)))
def xh:SlR X (rSlT X.K):=by
 intro G6 s σ H x v vl vu lo hi sl Q I rx hs pl pu h;obtain⟨a,xs,rfl,hx,hw,q⟩:=h;cases rx;obtain⟨its,r,ht,hz⟩:=I.tuple hx;have hlen:its.toArray.size=xs.length:=by rw[qas];exact r.length.symm
 refine⟨"tuple",_,PyProof.Rows.slot_tuple_getitem.lookup,ht.typeIs,?_⟩;refine HT.mw ht hs pl pu (by rw[hlen];exact hw) ?_ (by rw[hlen];exact hz);rw[hlen];refine⟨.ref s.heap.objs.size,_,I.laid (t':=s.toks) (o:=.tup (gF xs lo hi)) (fun b ob q=>qac _ q) (qai _) ?_,rfl,q _ (I.hok.fresh (qai _))⟩;exact⟨qax (mJ xs lo hi) hz,_,(r.drop (HT.sIx xs.length 0 lo)).take (HT.sIx xs.length xs.length hi - HT.sIx xs.length 0 lo),gG.new _ _⟩
def rCatT(K:qab):R2:=fun x y H Q=>∃a b xs ys,x=.ref a/\y=.ref b/\SqT K H a xs/\SqT K H b ys/\xs≠[]/\xs.length+ys.length<=sizeLine /\
 (ys=[]->Q (.ref a) H)/\(ys≠[]->∀p,H p=none->Q (.ref p) (upd H p (.tup (xs++ys))))
def aF.nil_iff(r:aF xs us):us=[]↔xs=[]:=by
 cases r with
 | nil=>simp
 | cons _ _=>simp
def op_catT:OpR X (binaryOp .Add) (rCatT X.K):=by
 intro G6 s σ H x y v u Q I rx ry h;obtain⟨a,b,xs,ys,rfl,rfl,ha,hb,hx,hz,q1,q2⟩:=h;cases rx;cases ry;obtain⟨its,r1,p1,_⟩:=I.tuple ha;obtain⟨its2,r2,p2,_⟩:=I.tuple hb;refine HT.cat_tup p1 p2 (fun z=>hx (r1.nil_iff.mp z)) (fun z=>⟨.ref a,H,I,rfl,q1 (r2.nil_iff.mp z)⟩) (fun z=>?_) (by rw[<-r1.length,<-r2.length];exact hz);refine⟨.ref s.heap.objs.size,_,I.laid (t':=s.toks) (o:=.tup (xs++ys)) (fun b ob q=>qac _ q) (qai _) ?_,rfl,q2 (fun w=>z (r2.nil_iff.mpr w)) _ (I.hok.fresh (qai _))⟩;exact⟨by rw[qba];exact hz,_,r1.append r2,gG.new _ _⟩
end
def ixN(n:Nat)(i:Int):Option Nat:=if 0<=i then (if i<n then some i.toNat else none) else if -(n:Int)<=i then some (i+n).toNat else none
def atI{α:Type}(xs:List α)(i:Int):Option α:=(ixN xs.length i).bind fun j=>xs[j]?
def u7(h:ixN n i=some j):seqIndex? i n=some j/\j<n /\ -(n:Int)<=i/\i<n:=by
 unfold ixN at h;by_cases h0:0<=i
 ·rw[qae h0] at h;by_cases h1:i<n
  ·rw[qae h1] at h;have e:i.toNat=j:=Option.some.inj h;exact⟨by rw[seqIndex_of h0 h1,e],by ext,by ext,h1⟩
  ·rw[qao h1] at h;cases h
 ·rw[qao h0] at h;by_cases h1:-(n:Int)<=i
  ·rw[qae h1] at h;have e:(i+n).toNat=j:=Option.some.inj h;exact⟨by rw[seqIndex_neg (by ext) h1,e],by ext,h1,by ext⟩
  ·rw[qao h1] at h;cases h
def pR(h:atI xs i=some v):∃j,seqIndex? i xs.length=some j/\xs[j]?=some v/\j<xs.length /\ -(xs.length:Int)<=i/\i<xs.length:=by
 unfold atI at h
 cases e:ixN xs.length i with
 | none=>rw[e] at h;cases h
 | some j =>
  rw[e] at h;obtain⟨h1,h2,h3,h4⟩:=u7 e;exact⟨j,h1,h,h2,h3,h4⟩
def ij{α:Type}{xs:List α}{j:Nat}{v:α}(h:xs[j]?=some v):atI xs (j:Int)=some v:=by
 have hj:j<xs.length:=(qaf.mp h).1;have e:ixN xs.length (j:Int)=some j:=by
  unfold ixN;rw[qae (by ext),qae (by ext)];simp
 unfold atI;rw[e];exact h
def mq(b:Expr):Prop:=∀o i,subscripted b false o i=operate [o,i] (getItem o i)
def IxR(X:Cx)(r:R2):Prop :=
 ∀(value slice:Expr) (G6:List (Addr × Obj)) (s:Shared) (σ:St) (H:Hp) (x y:V) (v u:Value) (Q:VK),Inv X G6 σ H s->aR x v->aR y u->r x y H Q ->
  subscripted slice false v u=operate [v,u] (getItem v u)->wpAny (model X.prog X.w) X.A (subscriptTail value slice v u) (EP X G6 σ Q) X.xe s
def MtR(X:Cx)(id:String)(r:V->List V->Hp->VK->Prop):Prop :=
 ∀(G6:List (Addr × Obj)) (s:Shared) (σ:St) (H:Hp) (x:V) (xs:List V) (v:Value) (us:List Value) (Q:VK),Inv X G6 σ H s->aR x v->aF xs us->r x xs H Q ->
  wpAny (model X.prog X.w) X.A (call (.builtin id) (v::us)) (EP X G6 σ Q) X.xe s
section
variable {X:Cx} {a b:Expr} {ta tb:TE} {pos:Pos}
def IxR.or(h:IxR X r)(h':IxR X r'):IxR X (fun x y H Q=>r x y H Q\/r' x y H Q):=by
 intro value slice G6 s σ H x y v u Q I rx ry q hs;rcases q with q|q
 ·exact h value slice G6 s σ H x y v u Q I rx ry q hs
 ·exact h' value slice G6 s σ H x y v u Q I rx ry q hs
def pe_ix{r:R2}(hr:IxR X r)(ha:PE X a ta)(hb:PE X b tb)(hs:mq b):PE X (.Subscript a b pos) (tOp r ta tb):=by
 intro G6 s σ H Q I h;exact Subscript_ (binT ha hb I h fun v u s2 x y H2 I2 rx ry q=>hr a b G6 s2 σ H2 x y v u Q I2 rx ry q (hs _ _))
def rIxL(K:qab):R2:=fun x y H Q=>∃p xs i v,x=.ref p/\y=.int i/\SqL K H p xs/\atI xs i=some v/\Q v H
def rIxT(K:qab):R2:=fun x y H Q=>∃p xs i v,x=.ref p/\y=.int i/\SqT K H p xs/\atI xs i=some v/\Q v H
def rIxS:R2:=fun x y H Q=>∃z i c,x=.str z/\y=.int i/\z.length<=sizeLine/\atI z.cps.toList i=some c/\Q (.str ⟨#[c]⟩) H
def ix_list:IxR X (rIxL X.K):=by
 intro value slice G6 s σ H x y v u Q I rx ry h hs;obtain⟨p,xs,i,z,rfl,rfl,hq,he,q⟩:=h;cases rx;obtain⟨t,rfl⟩:=ry;obtain⟨its,r,pl,hz⟩:=I.list hq;obtain⟨j,h1,h2,h3,h4,h5⟩:=pR he;obtain⟨w,ew,rw'⟩:=r.get h2;have hl:=r.length;have hn:=k7;have fin:EP X G6 σ Q w s:=⟨z,H,I,rw',q⟩;by_cases h0:0<=i
 ·have hj:i.toNat=j:=by
   rw[seqIndex_of h0 h5] at h1;exact Option.some.inj h1
  exact item_listR pl.isList h0 (by ext) (by rw[hj];simpa using ew) fin hs
 ·have hj:(i+(its.toArray.size:Int)).toNat=j:=by
   rw[seqIndex_neg (by ext) h4] at h1;rw[qas,<-hl];exact Option.some.inj h1
  exact subscriptTail_builtinR (x:=w) pl.isList.typeIs slot_list_getitem.lookup
   (wpAny_getItem_list_neg (Q:=fun r s'=>r=w/\EP X G6 σ Q r s') pl.isList (by ext) (by rw[qas] <;> ext) (by ext) (by rw[hj];simpa using ew) ⟨rfl,fin⟩) hs
def ix_tup:IxR X (rIxT X.K):=by
 intro value slice G6 s σ H x y v u Q I rx ry h hs;obtain⟨p,xs,i,z,rfl,rfl,hq,he,q⟩:=h;cases rx;obtain⟨t,rfl⟩:=ry;obtain⟨its,r,pl,hz⟩:=I.tuple hq;obtain⟨j,h1,h2,h3,h4,h5⟩:=pR he;obtain⟨w,ew,rw'⟩:=r.get h2;have hl:=r.length;have hn:=k7;have fin:EP X G6 σ Q w s:=⟨z,H,I,rw',q⟩;exact subscriptTail_builtinR (x:=w) pl.typeIs slot_tuple_getitem.lookup
  (getItem_tuple (j:=j) (Q:=fun r s'=>r=w/\EP X G6 σ Q r s') pl (by ext) (by ext) (by rw[qas,<-hl];exact h1) (by simpa using ew) ⟨rfl,fin⟩) hs
def ix_str:IxR X rIxS:=by
 intro value slice G6 s σ H x y v u Q I rx ry h hs;obtain⟨z,i,c,rfl,rfl,hz,he,q⟩:=h;obtain⟨t,rfl⟩:=rx;obtain⟨t',rfl⟩:=ry;obtain⟨j,h1,h2,h3,h4,h5⟩:=pR he;have hl:z.cps.toList.length=z.length:=by simp[Str.length]
 rw[hl] at h1 h4 h5;have hn:=k7
 exact tail_any (typeIs_str s z t) slot_str_getitem.lookup (getItem_str (c:=c) (by
  have e1:decide (i < -(2 ^ 63:Int))=false:=decide_eq_false (by ext);have e2:decide (i>=2 ^ 63)=false:=decide_eq_false (by ext)
  rw[e1,e2,Bool.or_false]) (by rw[h1];simpa using h2) ⟨.str ⟨#[c]⟩,H,I.tok _,⟨_,rfl⟩,q⟩) hs
def rIx(K:qab):R2:=fun x y H Q=>rIxL K x y H Q\/rIxT K x y H Q\/rIxS x y H Q
def ix_seq:IxR X (rIx X.K):=ix_list.or (ix_tup.or ix_str)
def wg(its:List Value)(n j:Nat)(u:Value):Obj.mapSeq (·.setIfInBounds j u) { cls:=.type "list",data:=.seq its.toArray n}={ cls:=.type "list",data:=.seq (its.set j u).toArray n}:=by
 simp[Obj.mapSeq]
def Inv.lst{G6:List (Addr × Obj)}{σ:St}{H:Hp}{s:Shared}{p:Addr}{xs:List V}(I:Inv X G6 σ H s)(h:H p=some (.lst xs)) :
  ∃(its:List Value) (n:Nat),aF xs its/\s.heap.get? p=some { cls:=.type "list",data:=.seq its.toArray n}/\xs.length<=sizeLine:=by
 obtain⟨z,its,n,r,e⟩:=I.hok p _ h;exact⟨its,n,r,e,z⟩
def Inv.lstUpd{G6:List (Addr × Obj)}{σ:St}{H:Hp}{s:Shared}{p:Addr}{xs ys:List V}{its its':List Value}{n n':Nat}{f:Obj->Obj}(I:Inv X G6 σ H s)(h:H p=some (.lst xs))
  (ho:s.heap.get? p=some { cls:=.type "list",data:=.seq its.toArray n}) (hf:f { cls:=.type "list",data:=.seq its.toArray n}={ cls:=.type "list",data:=.seq its'.toArray n'}) (r:aF ys its') (hz:ys.length<=sizeLine) (t:Nat) :
  Inv X G6 σ (upd H p (.lst ys)) { s with heap:=s.heap.update p f,toks:=t}:=by
 have e:(s.heap.update p f).get? p=some { cls:=.type "list",data:=.seq its'.toArray n'}:=by
  rw[qcw f ho (by rw[hf] <;> rfl),hf]
 refine I.write (x:=p) (e:=p) (by rw[h];trivial) (.inl rfl) (fun b u hb q=>(qct _ _ (Ne.symm hb)).trans q) ⟨_,e⟩ ?_;exact⟨hz,its',n',r,e⟩
def rSetL:V->V->V->Hp->(Hp->Prop)->Prop:=fun o i v H Q=>∃p xs k j,o=.ref p/\i=.int k/\H p=some (.lst xs)/\ixN xs.length k=some j/\Q (upd H p (.lst (xs.set j v)))
def zw:PSet X rSetL:=by
 intro G6 s σ H o i v ov iv u Q I ro ri rv h;obtain⟨p,xs,k,j,rfl,rfl,hp,hj,q⟩:=h;cases ro;obtain⟨t,rfl⟩:=ri;obtain⟨its,n,r,ho,hz⟩:=I.lst hp;obtain⟨h1,h2,h3,h4⟩:=u7 hj;have hl:=r.length;have hn:=k7;have I':Inv X G6 σ (upd H p (.lst (xs.set j v))) { s with heap:=s.heap.update p (Obj.mapSeq (·.setIfInBounds j u))} :=
  I.lstUpd hp ho (wg its n j u) (r.set rv j) (by rw[List.length_set];exact hz) s.toks
 by_cases h0:0<=k
 ·have hk:k.toNat=j:=by
   rw[seqIndex_of h0 h4] at h1;exact Option.some.inj h1
  exact PySem.W.ki_setAt ho h0 (by ext) (by rw[qas,<-hl];exact h4) (by rw[hk];exact⟨_,I',q⟩)
 ·have hk:(k+(its.toArray.size:Int)).toNat=j:=by
   rw[seqIndex_neg (by ext) h3] at h1;rw[qas,<-hl];exact Option.some.inj h1
  exact PySem.W.ki_setBack ho (by ext) (by rw[qas,<-hl];exact h3) (by ext) (by rw[hk];exact⟨_,I',q⟩)
def rA(lo hi:Option Int)(n:Nat):(sliceBounds lo hi none n).1=((HT.sIx n 0 lo:Nat):Int)/\(sliceBounds lo hi none n).2.1=((HT.sIx n n hi:Nat):Int)/\(sliceBounds lo hi none n).2.2=1:=by
 refine⟨?_,?_,rfl⟩
 ·cases lo with
  | none=>simp[sliceBounds,HT.sIx]
  | some i =>
   simp only[sliceBounds,HT.sIx,Option.getD_none,show (1:Int)>0 by decide,if_true];by_cases h:i<0
   ·simp only[h,if_true] <;> ext
   ·simp only[h,if_false] <;> ext
 ·cases hi with
  | none=>simp[sliceBounds,HT.sIx]
  | some i =>
   simp only[sliceBounds,HT.sIx,Option.getD_none,show (1:Int)>0 by decide,if_true];by_cases h:i<0
   ·simp only[h,if_true] <;> ext
   ·simp only[h,if_false] <;> ext
def qP(its:List Value)(lo hi:Option Int):slicePick its.toArray lo hi none=((its.drop (HT.sIx its.length 0 lo)).take (HT.sIx its.length its.length hi - HT.sIx its.length 0 lo)).toArray:=by
 obtain⟨h1,h2,h3⟩:=rA lo hi its.toArray.size;unfold slicePick;rw[h1,h2,h3];simp only[sliceRange_one,pick_run,qas] <;> rfl
def rSlL(K:qab):V->Option Int->Option Int->Hp->VK->Prop:=fun x lo hi H Q=>∃a xs,x=.ref a/\SqL K H a xs/\∀p,H p=none->Q (.ref p) (upd H p (.lst (gF xs lo hi)))
def vi:SlR X (rSlL X.K):=by
 intro G6 s σ H x v vl vu lo hi sl Q I rx hs pl pu h;obtain⟨a,xs,rfl,hx,q⟩:=h;cases rx;obtain⟨its,r,ht,hz⟩:=I.list hx;have hlen:=r.length;refine⟨"list",_,slot_list_getitem.lookup,ht.isList.typeIs,?_⟩;refine wpAny_getItem_list_slice ht.isList hs pl pu .none (by simp) ?_ (by rw[qas] <;> ext);rw[qP,<-hlen];refine⟨.ref s.heap.objs.size,_,I.laid (t':=s.toks) (o:=.lst (gF xs lo hi)) (fun b ob q=>qac _ q) (qai _) ?_,rfl,q _ (I.hok.fresh (qai _))⟩;exact⟨qax (mJ xs lo hi) hz,_,0,(r.drop (HT.sIx xs.length 0 lo)).take (HT.sIx xs.length xs.length hi - HT.sIx xs.length 0 lo),qav _ rfl⟩
def rC:cA X (.type "list") (fun xs H Q=>∃p ys,xs=[.ref p]/\(SqL X.K H p ys\/SqT X.K H p ys)/\∀l,H l=none->Q (.ref l) (upd H l (.lst ys))):=by
 intro G6 s σ H xs us Q I r h;obtain⟨p,ys,rfl,hq,q⟩:=h;obtain⟨u,rfl,rx⟩:=gc r;cases rx;have fin:∀(its:List Value),aF ys its->ys.length<=sizeLine->∀(h':Heap) (c':Nat),(∀b o',s.heap.get? b=some o'->h'.get? b=some o') ->
   h'.get? s.heap.objs.size=some { cls:=.type "list",dict:=none,data:=.seq its.toArray c',slots:=#[]}->EP X G6 σ Q (.ref s.heap.objs.size) { s with heap:=h'}:=fun its r' hz h' c' kp e =>
  ⟨.ref s.heap.objs.size,_,I.laid (t':=s.toks) kp (qai _) (show ObjOk X.prog X.w _ h' _ (.lst ys) from⟨hz,its,c',r',e⟩),rfl,q _ (I.hok.fresh (qai _))⟩
 rcases hq with hq|hq
 ·obtain⟨its,r',pl,hz⟩:=I.list hq;have hlen:=r'.length;obtain⟨o,ho,hc,n,hd⟩:=pl.isList;exact call_list_seq p (.inl rfl) ho hc hd (fun h' c' kp e=>fin its r' hz h' c' kp e) (by simp only[qas] <;> ext)
 ·obtain⟨its,r',pl,hz⟩:=I.tuple hq;have hlen:=r'.length;obtain⟨o,ho,hc,n,hd⟩:=pl;exact call_list_seq p (.inr rfl) ho hc hd (fun h' c' kp e=>fin its r' hz h' c' kp e) (by simp only[qas] <;> ext)
def kJ:cA X (.type "tuple") (fun xs H Q=>∃p ys,xs=[.ref p]/\((SqL X.K H p ys/\∀l,H l=none->Q (.ref l) (upd H l (.tup ys)))\/(SqT X.K H p ys/\Q (.ref p) H))):=by
 intro G6 s σ H xs us Q I r h;obtain⟨p,ys,rfl,h⟩:=h;obtain⟨u,rfl,rx⟩:=gc r;cases rx;rcases h with ⟨hq,q⟩|⟨hq,q⟩
 ·obtain⟨its,r',pl,hz⟩:=I.list hq;have hlen:=r'.length;refine call_tuple_list pl.isList (fun h' kp=>?_) (by simp only[qas] <;> ext);have I1:Inv X G6 σ H { s with heap:=h'}:=I.kept (t':=s.toks) kp;have I2:Inv X G6 σ (upd H h'.objs.size (.tup ys)) { s with heap:=h'.push { cls:=.type "tuple",data:=.seq its.toArray}} :=
   I1.laid (t':=s.toks) (fun b o e=>qac _ e) (qai _) (show ObjOk X.prog X.w _ _ _ (.tup ys) from⟨hz,its,r',gG.new _ _⟩)
  exact⟨.ref h'.objs.size,_,I2,rfl,q _ (I1.hok.fresh (qai _))⟩
 ·obtain⟨its,r',pl,hz⟩:=I.tuple hq;exact call_tuple_same pl ⟨.ref p,H,I,rfl,q⟩
def tyV(K:qab)(T:String)(x:V)(H:Hp):Prop:=match x with
 | .str _=>T="str"
 | .int _=>T="int"
 | .ref p=>(T="list"/\∃xs,SqL K H p xs)\/(T="tuple"/\∃o,K.lookup p=some o/\o.cls=.type "tuple"/\o.dict=none) \/
   (T="dict"/\((∃kvs,H p=some (.dK kvs))\/∃kvs,H p=some (.dT kvs)))\/(T="set"/\∃S n,H p=some (.set S n))
 | _=>False
def tyV_is{G6:List (Addr × Obj)}{σ:St}{H:Hp}{s:Shared}{T:String}{x:V}{v:Value}(I:Inv X G6 σ H s)(r:aR x v)(ty:tyV X.K T x H) :
  s.TypeIs v T/\∀a,v=.ref a->∃ob,s.heap.get? a=some ob/\ob.dict=none:=by
 cases x with
 | str z =>
  obtain⟨t,rfl⟩:=r;cases (show T="str" from ty);exact⟨typeIs_str s z t,fun _ e=>nomatch e⟩
 | int i =>
  obtain⟨t,rfl⟩:=r;cases (show T="int" from ty);exact⟨typeIs_int s i t,fun _ e=>nomatch e⟩
 | ref p =>
  cases r;rcases ty with ⟨rfl,xs,hq⟩|⟨rfl,o,hk,hc,hd⟩|⟨rfl,hk⟩|⟨rfl,S,n,hk⟩
  ·obtain⟨its,_,pl,_⟩:=I.list hq;refine⟨pl.isList.typeIs,fun a e=>?_⟩;cases e;obtain⟨o,n,e,c,hd,_⟩:=pl;exact⟨o,e,hd⟩
  ·refine⟨⟨o,I.kIn p o hk,hc⟩,fun a e=>?_⟩;cases e;exact⟨o,I.kIn _ o hk,hd⟩
  ·have z:∃o,s.heap.get? p=some o/\o.ExactDict:=by
    rcases hk with ⟨kvs,hk⟩|⟨kvs,hk⟩
    ·obtain⟨_,_,_,_,o,_,_,e,ex,_⟩:=I.hok p _ hk;exact⟨o,e,ex⟩
    ·obtain⟨_,_,_,_,o,_,_,e,ex,_⟩:=I.hok p _ hk;exact⟨o,e,ex⟩
   obtain⟨o,e,ex⟩:=z;refine⟨⟨o,e,ex.1⟩,fun a e2=>?_⟩;cases e2;exact⟨o,e,ex.2.1⟩
  ·obtain⟨o,_,_,_,e,ex,_⟩:=I.hok p _ hk;refine⟨⟨o,e,ex.1⟩,fun a e2=>?_⟩;cases e2;exact⟨o,e,ex.2.1⟩
 | _=>exact False.elim ty
def tBM(K:qab)(T:String)(r:V->List V->Hp->VK->Prop)(to:TE)(t:TA):TE:=fun σ H Q=>to σ H fun x H1=>tyV K T x H1/\t σ H1 fun xs H2=>r x xs H2 Q
variable {o e:Expr} {es:List Expr} {to:TE} {t:TA} {name:Str} {apos cpos:Pos} {T id:String} {r:V→List V→Hp→VK→Prop}
def pe_bm(pa:PlainAttrs T)(slot:Slot T name id)(hty:typeOf (.builtin id)=pure (.type "method_descriptor"))(hm:MtR X id r)(ho:PE X o to)(ha:PA X (e::es) t)
  (hbase:attributeBase o name X.env (eval o X.env)=eval o X.env:=by rfl)
  (hfew:((backTo cpos (starEach (e::es) X.env)).all (fun x=>!x.1) && (backToKw cpos (keywordEach [] X.env)).all (fun x=>x.1.isSome)
   && decide ((e::es).length+([]:List Keyword).length+(if ([]:List Keyword).isEmpty then 0 else 1)<30))=true:=by rfl)
  (hline:(apos.endLine == cpos.line)=true:=by rfl) (hs:starEach (e::es) X.env=(false,eval e X.env)::starEach es X.env:=by rfl) (hplain:(backTo cpos (starEach es X.env)).any (·.1)=false:=by rfl) :
  PE X (.Call (.Attribute o name apos) (e::es) [] cpos) (tBM X.K T r to t):=by
 intro G6 s σ H Q I h;refine wpAny_Call_method_late hbase hfew hline rfl (thn (ho G6 s σ H _ I h) fun v s1 ⟨x,H1,I1,r1,ty,q1⟩=>?_);obtain⟨h1,h2⟩:=tyV_is I1 r1 ty;refine⟨T,id,pa,slot,hty,h1,h2,?_⟩;have hA:=ha cpos G6 s1 σ H1 _ I1 q1;rw[hs] at hA ⊢;refine Calls.callWith_builtin (by show (false || (backTo cpos (starEach es X.env)).any (·.1))=false;rw[hplain] <;> rfl) (Calls.evalArgs_plain ?_);exact thn hA fun us s2 ⟨vs,H2,I2,r2,q2⟩=>hm G6 s2 σ H2 x vs v us Q I2 r1 r2 q2
end
def MtM(X:Cx)(id:String)(r:V->List V->Hp->VK->Prop):Prop :=
 ∀(G6:List (Addr × Obj)) (s:Shared) (σ:St) (H:Hp) (x:V) (xs:List V) (v:Value) (us:List Value) (Q:VK),Inv X G6 σ H s->aR x v->aF xs us->r x xs H Q ->
  wpAny (model X.prog X.w) X.A (call (.builtin id) (v::us)) (EP X G6 σ Q) X.xe s
def aF.zero(h:aF [] us):us=[]:=by cases h;rfl
def aF.one(h:aF [x] us):∃u,us=[u]/\aR x u:=by
 cases h with|cons r t=>exact⟨_,by rw[aF.zero t],r⟩
def aF.rep(h:aF xs us):∀k:Nat,aF (List.replicate k xs).flatten (List.replicate k us).flatten
 | 0=>.nil
 | k+1=>by
  rw[qaO,qaO,qbg,qbg];exact aF.append h (aF.rep h k)
def kP(its:List Value):∀(k:Nat) (acc:List Value),
  List.foldl (fun x1 x2=>x1++x2) acc.toArray (List.replicate k its.toArray)=(acc++(List.replicate k its).flatten).toArray
 | 0,acc=>by simp
 | k+1,acc=>by
  have e:acc.toArray++its.toArray=(acc++its).toArray:=by simp
  have e2:(acc++its)++(List.replicate k its).flatten=acc++(List.replicate (k+1) its).flatten:=by
   rw[qaO,qbg,qaH]
  rw[<-e2,<-kP its k (acc++its),<-e,qaO,List.foldl_cons]
section
variable {X:Cx} {G6:List (Addr × Obj)} {σ:St} {H:Hp} {s:Shared} {l b:Addr} {xs ys zs:List V}
def Inv.lset{its its':List Value}{n:Nat}{f:Array Value->Array Value}{t':Nat}(I:Inv X G6 σ H s)(hH:H l=some (.lst xs))
  (e:s.heap.get? l=some { cls:=.type "list",data:=.seq its.toArray n}) (hf:f its.toArray=its'.toArray) (hv:aF ys its') (hz:ys.length<=sizeLine) :
  Inv X G6 σ (upd H l (.lst ys)) { s with heap:=s.heap.update l (Obj.mapSeq f),toks:=t'}:=by
 have q:=PySem.IsL.update e f;rw[hf] at q;refine I.write (x:=l) (e:=l) (by rw[hH];exact trivial) (.inl rfl) (fun b' u hb hu=>(qct s.heap (Obj.mapSeq f) (Ne.symm hb)).trans hu) ⟨_,q⟩ ?_;exact⟨hz,its',_,hv,q⟩
def Inv.lnew(I:Inv X G6 σ H s)(hv:aF ys its)(hz:ys.length<=sizeLine) :
  Inv X G6 σ (upd H s.heap.objs.size (.lst ys)) { s with heap:=s.heap.push { cls:=.type "list",data:=.seq its.toArray},toks:=t'} :=
 I.laid (fun _ _ q=>qac _ q) (qai _) ⟨hz,its,0,hv,qav _ rfl⟩
def Inv.fresh(I:Inv X G6 σ H s):H s.heap.objs.size=none:=I.hok.fresh (qai _)
def Inv.lstM(I:Inv X G6 σ H s)(hH:H l=some (.lst xs)):xs.length<=sizeLine/\∃(its:List Value) (n:Nat),aF xs its/\xs.length=its.length/\s.heap.get? l=some { cls:=.type "list",data:=.seq its.toArray n}:=by
 obtain⟨z,its,n,r,e⟩:=I.hok l _ hH;exact⟨z,its,n,r,r.length,e⟩
def yq(h:n<=sizeLine):Builtin.List.listTooLong n=false:=by
 unfold Builtin.List.listTooLong;exact decide_eq_false (by ext)
end
section
variable {X:Cx}
def rAppend:V->List V->Hp->VK->Prop:=fun x vs H Q=>∃l xs y,x=.ref l/\vs=[y]/\H l=some (.lst xs)/\xs.length<sizeLine/\Q .non (upd H l (.lst (xs++[y])))
def qw:MtM X "list.append" rAppend:=by
 intro G6 s σ H x vs v us Q I rx rv h;obtain⟨l,xs,y,rfl,rfl,hH,hz,q⟩:=h;cases rx;obtain⟨u,rfl,ru⟩:=rv.one;obtain⟨z,its,n,r,hl,e⟩:=I.lstM hH;refine call_meets F.slot_list_append ⟨_,e,rfl⟩ F.entry_list_append (F.args_list_append_2 _ _) (PySem.list_append l its.toArray n u (by rw[qas];ext)) ⟨e,?_⟩;refine⟨.non,_,I.lset (its':=its++[u]) hH e (by simp) (r.append (.cons ru .nil)) ?_,rfl,q⟩;rw[qba,List.length_singleton];ext
def rCat:R2:=fun x y H Q=>∃l b xs zs,x=.ref l/\y=.ref b/\H l=some (.lst xs)/\H b=some (.lst zs)/\xs.length+zs.length<=sizeLine/\∀p,H p=none->Q (.ref p) (upd H p (.lst (xs++zs)))
def op_cat:OpR X (binaryOp .Add) rCat:=by
 intro G6 s σ H x y v u Q I rx ry h;obtain⟨l,b,xs,zs,rfl,rfl,hH,hB,hz,q⟩:=h;cases rx;cases ry;obtain⟨z,its,n,r,hl,e⟩:=I.lstM hH;obtain⟨z2,its2,n2,r2,hl2,e2⟩:=I.lstM hB;refine PySem.P.add_list e e2 ?_ (by rw[qas,qas];ext);have ea:its.toArray++its2.toArray=(its++its2).toArray:=by simp
 rw[ea];exact⟨.ref _,_,I.lnew (t':=s.toks) (r.append r2) (by rw[qba];ext),rfl,q _ I.fresh⟩
def rRep:R2:=fun x y H Q=>∃l k xs,x=.ref l/\y=.int k/\H l=some (.lst xs) /\ -(2 ^ 63)<=k/\k<2 ^ 63/\xs.length * k.toNat<=sizeLine /\
 ∀p,H p=none->Q (.ref p) (upd H p (.lst (List.replicate k.toNat xs).flatten))
def lU{α:Type}(xs:List α)(k:Nat):(List.replicate k xs).flatten.length=k * xs.length:=by
 induction k with
 | zero=>simp
 | succ k ih=>rw[qaO,qbg,qba,ih,Nat.succ_mul,Nat.add_comm]
def op_rep:OpR X (binaryOp .Mult) rRep:=by
 intro G6 s σ H x y v u Q I rx ry h;obtain⟨l,k,xs,rfl,rfl,hH,h1,h2,hz,q⟩:=h;cases rx;obtain⟨t,rfl⟩:=ry;obtain⟨z,its,n,r,hl,e⟩:=I.lstM hH;have hlen:its.toArray.size * k.toNat<=sizeLine:=by rw[qas,<-hl];exact hz
 have hcap:¬its.toArray.size * k.toNat>(2 ^ 63 - 1) / 8:=by
  have:(sizeLine:Nat)<=(2 ^ 63 - 1) / 8:=by decide
  ext
 have hfit:¬(!Builtin.List.listFitsIndex k)=true:=by
  rw[fitsIndex_both h1 h2];exact qaN
 have hlong:¬Builtin.List.listTooLong (its.toArray.size * k.toNat)=true:=by
  rw[yq hlen];exact qaN
 have hnew:List.foldl (fun x1 x2=>x1++x2) #[] (List.replicate (if its.toArray.isEmpty=true then 0 else k.toNat) its.toArray)=(List.replicate k.toNat its).flatten.toArray:=by
  have f0:∀m:Nat,List.foldl (fun x1 x2=>x1++x2) #[] (List.replicate m its.toArray)=(List.replicate m its).flatten.toArray:=fun m=>by
   have:=kP its m []
   rw[List.nil_append] at this;exact this
  rw[f0]
  cases its with
  | nil=>simp
  | cons a r'=>rw[qao (by simp)]
 refine wpAny_binaryOp_repeat_ref (T:="list") (U:="int") (by decide) ⟨_,e,rfl⟩ (fun s'=>typeIs_int s' k t) noFill_list_mul F.fills_int_mul F.slot_int_rmul repeat_list F.slot_int_index.lookup
  (call_meets F.slot_int_rmul (typeIs_int s k t) F.entry_int_rmul (F.args_int_rmul_2 _ _) (int___rmul___int_list k t l its.toArray n)
   ⟨e,rfl,⟨_,e,rfl⟩,call_meets F.slot_list_mul ⟨_,e,rfl⟩ F.entry_list_mul (F.args_list_mul_2 _ _) (AutoListH.list___mul___list_int_3 l its.toArray n k t hfit hcap hlong) ⟨e,?_⟩⟩)
 rw[hnew];exact⟨.ref _,_,I.lnew (t':=s.toks) (r.rep k.toNat) (by rw[lU,qcx];exact hz),rfl,q _ I.fresh⟩
end
section
variable {prog:Program} {w:World} {A:Around} {E:Value→Shared→Prop} {s:Shared}
end
section
variable {X:Cx}
end
end L2
namespace Att
open PySem PySem.W PySem.Calls PyProof.Rows
def nJ:∀(ns:List Int) (vs:List Value),WellAll P h vs (ns.map WData.int)->IntsAre vs ns:=by
 intro ns
 induction ns with
 | nil =>
  intro vs w;rw[qca] at w;cases w;exact .nil
 | cons n ns ih =>
  intro vs w;rw[qaE] at w
  cases w with
  | cons a b =>
   cases a;exact .cons _ _ (ih _ b)
def wW{l:OpenLaw}{n:Nat}(hn:l.most=some n){P:Params}{h:Heap}{args:List WData}{vals:List Value}
  (hpre:l.row.toRowW.claim.pre args=true) (hwl:WellAll P h vals args) :
  ∃a vs ns,vals=[Value.ref a]/\args=[WData.list (ns.map WData.int)]/\h.get? a=some { cls:=.type "list",data:=.seq vs.toArray}/\IntsAre vs ns/\ns.length<=n:=by
 have hsh:WShape.hasAll [] args [.list .int]=true:=(pre_splitW hpre).1;have hc:l.pre.holds [] { args:=args}=true:=(pre_splitW hpre).2;obtain⟨d,r,rfl,h1,h2⟩:=hasAllW_cons hsh;obtain rfl:=hasAllW_nil h2;obtain⟨xs,rfl,h3⟩:=hasW_list h1;obtain⟨ns,rfl⟩:=items_int h3;have hlen:ns.length<=n:=by
  unfold OpenLaw.pre at hc;have h4:(WTm.not (.lt (.lit (.int (n:Int))) (.len (.arg 0)))).holds [] { args:=[.list (ns.map .int)]}=true:=by
   have h4:=(holds_andW hc).1;rw[hn] at h4;exact h4
  have h5:=condW_of h4 (w_not (w_lt w_lit (w_len_list (w_arg rfl))));rw[qaF] at h5;refine Nat.le_of_not_lt fun q=>?_;have q':(n:Int)<((ns.length:Nat):Int):=by ext
  first
   | (rw[decide_eq_true q'] at h5;exact absurd h5 (by decide))
   | (simp at h5;ext)
 cases hwl with
 | cons w1 w2 =>
  cases w2
  cases w1 with
  | list ho hall=>exact⟨_,_,ns,rfl,rfl,ho,nJ ns _ hall,hlen⟩
def xD(l:OpenLaw)(args:List WData):l.row.toRowW.claim.post args (.bool true) args=true :=
 postW_of (r:=l.row.toRowW) (X:=(true == true))
  (show WShape.has [] (.bool true) .bool=true by first | rfl | decide | simp[WShape.has,WShape.arms,WShape.armsAll])
  (show (WTm.eq .res (.lit (.bool true))).value [] { args:=args,res:=some (.bool true),after:=args}=some (.bool (true == true)) from w_eq_bool (w_res rfl) w_lit) rfl
def uu{l:OpenLaw}{n:Nat}{q:Program}{loose:List Str}{XP:(Str->Option Value)->Heap->Prop}{YP:World->Heap->Prop}{d:DefRec}
  (hn:l.most=some n) (hdf:d.params.defaults=[])
  (call:∀(w:World) (s₀ s₁:Shared) (mg mb:Str->Option Value) (fa:Addr) (o:Obj) (pm cd doc:Value) (a:Addr) (vs:List Value) (ns:List Int),
   Ground q loose [] XP w s₀ mg mb s₁.heap->YP w s₁.heap ->
   s₁.heap.get? fa=some o->o.data=.func (docDef d.name d.params d.body d.scope pm cd doc)->s₁.heap.CodeRec cd d.name->mg d.name=some (.ref fa) ->
   s₁.heap.get? a=some { cls:=.type "list",data:=.seq vs.toArray}->IntsAre vs ns->ns.length<=n->s₁.gens=#[] ->
   codeAny (model l.prog w) callerA (.call (.ref fa) ⟨[.ref a],[]⟩) (fun r s'=>r=.ok (.ret (.bool true))/\OldK s₁.heap s'.heap/\s'.os=s₁.os/\AllBare s'.gens) s₁) :
  WalkO q loose XP YP l.row.toRowW d [] (fun f vs=>PySem.call f vs):=by
 intro w s₀ s₁ mg mb G Y fa o pm cd doc dV kV ho hd hcd hD hmg hg args vals as hpre hlay hrd hwl hlo;obtain rfl:dV=.none:=Dflts.none hD hdf;obtain rfl:kV=.none:=Dflts.noKw hD;obtain⟨a,vs,ns,rfl,rfl,hobj,hints,hlen⟩:=wW hn hpre hwl;refine enter_call (codeAny_mono (call w s₀ s₁ mg mb fa o pm cd doc a vs ns G Y ho (fd_plain hd) hcd hmg hobj hints hlen hg) fun r s' hq=>?_);obtain⟨rfl,h2,h3,h4⟩:=hq;exact⟨.inl ⟨.bool true,.bool true,[],rfl,fun _=>rfl,.bool true,xD l _,fun _=>⟨List.Pairwise.nil,fun _ hm=>(nomatch hm)⟩⟩,h2,h3,h4⟩
section
variable {prog:Program} {w:World} {A:Around} {E:Value→Shared→Prop} {s:Shared} {K:Frag}
end
end Att
namespace L2
open PySem PySem.Spec PyProof.Rows
def qf:∀{vs:List Value} {ns:List Int},IntsAre vs ns->aF (ns.map V.int) vs
 | _,_,.nil=>.nil
 | _,_,.cons n t h=>.cons ⟨t,rfl⟩ (qf h)
def Only(H:Hp):Prop:=∀b,H b=none\/∃o xs,H b=some (.frz o (.lst xs))
def yN{P:Program}{w:World}{K:qab}{mg mb:Str->Option Value}{CX:CXT}{k:Nat}{fa a:Addr}{fd:FuncData}{x:Str}{sp:Sp}{s₁:Shared}{vs:List Value}{ns:List Int}
  (KX:K.In s₁.heap) (hns:s₁.heap.Ns mainGlobals mg) (hb:s₁.heap.Ns builtinsNs mb) (hbb:∀x:Str,x≠"__name__"->mb x=bootBuiltins x) (hlim:s₁.heap.NoLimit) (hg:s₁.gens=#[])
  (ha:s₁.heap.get? a=some { cls:=.type "list",data:=.seq vs.toArray}) (hi:IntsAre vs ns) (hl:ns.length<=sizeLine) (hr:Room k callerA)
  (F:∀base:Heap,K.In base->base.Ns mainGlobals mg->FnOk P w K mg base CX k fa fd [x] sp) (hbind:∀(s:Shared) (u:Value),BindsTo s fd ⟨[u],[]⟩ [(x,u)])
  (hsp:∀H:Hp,Only H->SqL K H a (ns.map V.int)->sp [.ref a] H (fun v _=>v=.bl true) fun _ _ _=>False)
  (hCX:∀H e s',CX [] H s₁ (fun _ _ _=>False) e s'->False) :
  codeAny (model P w) callerA (.call (.ref fa) ⟨[.ref a],[]⟩) (fun r s'=>r=.ok (.ret (.bool true))/\OldK s₁.heap s'.heap/\s'.os=s₁.os/\AllBare s'.gens) s₁:=by
 have rv:=qf hi;have lenV:=hi.length;have core:∀H:Hp,Only H->SqL K H a (ns.map V.int)->HOk P w H s₁.heap->(∀b,H b≠none->b=a)->(H a≠none->K.lookup a=none) ->
   codeAny (model P w) callerA (.call (.ref fa) ⟨[.ref a],[]⟩) (fun r s'=>r=.ok (.ret (.bool true))/\OldK s₁.heap s'.heap/\s'.os=s₁.os/\AllBare s'.gens) s₁:=by
  intro H hO hS hok hA hK;have base_of:∀{b:Addr} {o:Obj},s₁.heap.get? b=some o->H b=none->(kh s₁.heap H).get? b=some o:=fun e n=>zp e n;have noA:∀{b:Addr} {o:Obj} {es:Array DictEntry} {ep:Nat},s₁.heap.get? b=some o->o.data=.dict es ep->H b=none:=fun {b o es ep} e d=>by
   cases q:H b with
   | none=>rfl
   | some u =>
    have e':b=a:=hA b (by rw[q];simp);subst e';rw[ha] at e;cases e;have d':Data.seq vs.toArray _=Data.dict es ep:=d;cases d'
  have nsK:∀{b:Addr} {m:Str->Option Value},s₁.heap.Ns b m->(kh s₁.heap H).Ns b m:=fun {b m} ⟨o,es,ep,e,d,r⟩=>⟨o,es,ep,base_of e (noA e d),d,r⟩
  have hKb:K.In (kh s₁.heap H):=fun b o e=>base_of (KX b o e) (by
   cases q:H b with
   | none=>rfl
   | some u =>
    have e':b=a:=hA b (by rw[q];simp);subst e'
    rw[hK (by rw[q];simp)] at e;cases e)
  have hM:Mod K mg (kh s₁.heap H):=⟨hKb,nsK hns,⟨mb,nsK hb,hbb⟩,let ⟨mc,h1,h2⟩:=hlim;⟨mc,nsK h1,h2⟩⟩;have e0:Env0 P w K mg (kh s₁.heap H) callerA [] s₁ H:=⟨rfl,hM,fun b o e=>of_hidT e,Nat.le_of_eq (xW _ _),trivial,fun b hb=>absurd (show b∈([]:List Addr) from hb) (by simp),hok,.of_eq hg⟩;refine codeAny_mono ((F _ hKb (nsK hns)).run callerA [] s₁ H ⟨[.ref a],[]⟩ [.ref a] [.ref a] _ _ hr e0 (hbind s₁ (.ref a)) (.cons rfl .nil) (hsp H hO hS)) fun r s' h=>?_
  cases r with
  | error e=>exact (hCX H e s' h).elim
  | ok fl =>
   cases fl with
   | next=>exact False.elim h
   | brk=>exact False.elim h
   | cont=>exact False.elim h
   | ret u =>
    obtain⟨v,H',os,bare,un,hok',r',q⟩:=h;have q':v=.bl true:=q;subst q';obtain rfl:u=Value.bool true:=r';refine⟨rfl,OldK.of_keep fun b o e=>?_,os,bare⟩
    cases q:H b with
    | none=>exact un.keep b o e q (by intro z;exact absurd (show b∈([]:List Addr) from z) (by simp)) (by simp)
    | some u =>
     rcases hO b with z|⟨ob,xs,z⟩
     ·rw[q] at z;cases z
     ·have z2:=un.frzs b ob _ z;obtain⟨e1,_⟩:=hok b _ z;obtain⟨e2,_⟩:=hok' b _ z2;rw[e] at e1;cases e1;exact e2
 cases hk:K.lookup a with
 | some o =>
  have e:=KX a o hk;rw[ha] at e;cases e;refine core (fun _=>none) (fun _=>.inl rfl) (.inr ⟨_,vs.toArray,_,hk,rfl,rfl,rfl,by rw[qas,lenV];exact hl,by simpa using rv⟩) (fun b u z=>by have z':(none:Option HO)=some u:=z;cases z') (fun b z=>absurd rfl z) fun z=>absurd rfl z
 | none =>
  refine core (fun b=>if b=a then some (.frz { cls:=.type "list",data:=.seq vs.toArray} (.lst (ns.map V.int))) else none) (fun b=>?_) (.inl (.inr ⟨{ cls:=.type "list",data:=.seq vs.toArray},qae rfl⟩)) (fun b u z=>?_) (fun b z=>?_) fun _=>hk
  ·by_cases hb:b=a
   ·exact .inr ⟨_,_,qae hb⟩
   ·exact .inl (qao hb)
  ·by_cases hb:b=a
   ·have z':=(qae hb).symm.trans z;cases z';subst hb;exact⟨ha,by rw[qaF];exact hl,vs,_,rv,ha⟩
   ·have z':=(qao hb).symm.trans z;cases z'
  ·by_cases hb:b=a
   ·exact hb
   ·exact absurd (qao hb) z
abbrev KOf{K:qab}{h:Heap}(_:K.In h):qab:=K
def walk_of{l:PySem.W.OpenLaw}{n k:Nat}{q:Program}{loose:List Str}{XP:(Str->Option Value)->Heap->Prop}{YP:World->Heap->Prop}{d:DefRec}{K:Params->qab}{CX:World->CXT}{sp:World->Sp}{x:Str}
  (hn:l.most=some n) (hn2:n<=sizeLine) (hdf:d.params.defaults=[]) (hr:Room k callerA)
  (hY:∀(w:World) (h:Heap),YP w h->(K w.params).In h)
  (F:∀(w:World) (mg:Str->Option Value) (fa:Addr) (h:Heap),(K w.params).In h->h.Ns mainGlobals mg->mg d.name=some (.ref fa) ->
   ∃fd:FuncData,(∀(s:Shared) (u:Value),BindsTo s fd ⟨[u],[]⟩ [(x,u)]) /\
    ∀base:Heap,(K w.params).In base->base.Ns mainGlobals mg->FnOk l.prog w (K w.params) mg base (CX w) k fa fd [x] (sp w))
  (hsp:∀(w:World) (H:Hp) (a:Addr) (ns:List Int),ns.length<=n->Only H->SqL (K w.params) H a (ns.map V.int)->sp w [.ref a] H (fun v _=>v=.bl true) fun _ _ _=>False)
  (hCX:∀(w:World) (H:Hp) (s:Shared) (e:Value) (s':Shared),CX w [] H s (fun _ _ _=>False) e s'->False) :
  PySem.W.WalkO q loose XP YP l.row.toRowW d [] (fun f vs=>PySem.call f vs):=by
 refine Att.uu hn hdf fun w s₀ s₁ mg mb fa o pm cd doc a vs ns G Y ho hd hcd hmg hobj hints hlen hg=>?_;have KX:=hY w _ Y;obtain⟨fd,hb,hF⟩:=F w mg fa _ KX G.T.g hmg;exact yN KX G.T.g G.T.b G.T.builtins G.T.nolimit hg hobj hints (qax hlen hn2) hr hF hb (fun H hO hS=>hsp w H a ns hlen hO hS) fun H e s'=>hCX w H s₁ e s'
def ic(s:Stmt):Arguments:=match s with
 | .FunctionDef _ a _ _ _ _ _ _ _ _=>a
 | _=>{ posonlyargs:=[],args:=[],vararg:=none,kwonlyargs:=[],kw_defaults:=[],kwarg:=none,defaults:=[]}
def aH(s:Stmt):List Stmt:=match s with
 | .FunctionDef _ _ b _ _ _ _ _ _ _=>b
 | _=>[]
def aQ(s:Stmt):Scope:=match s with
 | .FunctionDef _ _ _ _ _ _ sc _ _ _=>sc
 | _=>{ kind:=.function,names:=[],isGenerator:=false,isCoroutine:=false}
structure Fun (K:qab) (x qual:Str) (st:Stmt) (f:Addr) (fd:FuncData):Prop where
 ex:∃(oc:Value) (od:Option Addr) (kV doc pm:Value) (an:Option Addr) (cdv ct:Value) (osl:Array (Option Value)),
  fd=PySem.W.fnOf x qual (ic st) (aH st) (aQ st) .none kV doc pm an cdv ct/\K.lookup f=some ⟨oc,od,.func fd,osl⟩/\PySem.W.codeIn K cdv qual=true
 kp:PySem.W.keepIn K (.ref f)=true
section
variable {P:Program} {w:World} {K:qab} {mg:Str→Option Value} {base:Heap}
def Fun.binds{x qual:Str}{st:Stmt}{f:Addr}{fd:FuncData}{ps:List Str}(F:Fun K x qual st f fd)
  (h:∀(kV doc pm:Value) (an:Option Addr) (cdv ct:Value) (us:List Value),us.length=ps.length->bindArgs (PySem.W.fnOf x qual (ic st) (aH st) (aQ st) .none kV doc pm an cdv ct) ⟨us,[]⟩=pure (ps.zip us)):oI K fd ps []:=by
 obtain⟨oc,od,kV,doc,pm,an,cdv,ct,osl,rfl,lk,hcd⟩:=F.ex;exact .all (h kV doc pm an cdv ct)
def fun_mk{x qual:Str}{st:Stmt}{f:Addr}{oc:Value}{od an:Option Addr}{osl:Array (Option Value)}{kV doc pm cdv ct:Value}(l:K.lookup f=some ⟨oc,od,.func (PySem.W.fnOf x qual (ic st) (aH st) (aQ st) .none kV doc pm an cdv ct),osl⟩)
  (c:PySem.W.codeIn K cdv qual=true) (k:PySem.W.keepIn K (.ref f)=true):Fun K x qual st f (PySem.W.fnOf x qual (ic st) (aH st) (aQ st) .none kV doc pm an cdv ct):=⟨⟨oc,od,kV,doc,pm,an,cdv,ct,osl,rfl,l,c⟩,k⟩
end
section
variable {X:Cx}
end
end L2
namespace MM
open PySem PySem.Spec PyProof.Rows L2
inductive PV where
 | non | bl (b:Bool) | int (i:Int) | str (x:Str) | tup (xs:List PV) | frl (xs:List PV) | loc (n:Nat)
structure MExc where
 cls:Str
 fs:List (Str × PV):=[]
inductive MO where
 | lst (xs:List PV)
 | dic (kvs:List (PV × PV))
 | exc (x:MExc)
abbrev MH:=List MO
abbrev PSt:=List (Option PV)
inductive Out (α:Type) where
 | ok (a:α) (h:MH)
 | exc (x:MExc) (h:MH)
 | bad
def Out.bind{α β:Type}(o:Out α)(f:α->MH->Out β):Out β:=match o with
 | .ok a h=>f a h
 | .exc x h=>.exc x h
 | .bad=>.bad
@[simp] theorem Out.bind_ok(a:α)(h:MH)(f:α->MH->Out β):(Out.ok a h).bind f=f a h:=rfl
@[simp] theorem Out.bind_exc(x:MExc)(h:MH)(f:α->MH->Out β):(Out.exc x h).bind f=.exc x h:=rfl
@[simp] theorem Out.bind_bad(f:α->MH->Out β):(Out.bad:Out α).bind f=.bad:=rfl
inductive SOut where
 | nx (σ:PSt) (h:MH)
 | rt (v:PV) (h:MH)
 | bk (σ:PSt) (h:MH)
 | ct (σ:PSt) (h:MH)
 | exc (x:MExc) (σ:PSt) (h:MH)
 | rse (x:MExc) (σ:PSt) (h:MH)
 | bad
def Out.ne{α:Type}(o:Out α):Out α:=match o with
 | .exc _ _=>.bad
 | o=>o
@[simp] theorem Out.ne_ok(a:α)(h:MH):(Out.ok a h).ne=.ok a h:=rfl
@[simp] theorem Out.ne_bad:(Out.bad:Out α).ne=.bad:=rfl
@[simp] theorem Out.ne_ne(o:Out α):o.ne.ne=o.ne:=by cases o <;> rfl
def SqF(K:qab)(H:Hp)(a:Addr)(ys:List V):Prop :=
 (∃o,H a=some (.frz o (.lst ys))) \/
  ∃(o:Obj) (its:Array Value) (n:Nat),K.lookup a=some o/\o.cls=.type "list"/\o.dict=none/\o.data=.seq its n/\its.size<=sizeLine/\aF ys its.toList
def SqF.sq{K:qab}{H:Hp}{a:Addr}{ys:List V}(h:SqF K H a ys):SqL K H a ys:=by
 rcases h with h|h
 ·exact .inl (.inr h)
 ·exact .inr h
mutual
inductive RP (K:qab) (ρ:List Addr) (H:Hp):PV->V->Prop where
 | non:RP K ρ H .non .non
 | bl (b:Bool):RP K ρ H (.bl b) (.bl b)
 | int (i:Int):RP K ρ H (.int i) (.int i)
 | str (x:Str):RP K ρ H (.str x) (.str x)
 | tup {xs:List PV} {a:Addr} {ys:List V} (s:SqT K H a ys) (r:RPs K ρ H xs ys):RP K ρ H (.tup xs) (.ref a)
 | frl {xs:List PV} {a:Addr} {ys:List V} (s:SqF K H a ys) (r:RPs K ρ H xs ys):RP K ρ H (.frl xs) (.ref a)
 | loc {n:Nat} {a:Addr} (e:ρ[n]?=some a):RP K ρ H (.loc n) (.ref a)
inductive RPs (K:qab) (ρ:List Addr) (H:Hp):List PV->List V->Prop where
 | nil:RPs K ρ H [] []
 | cons {x:PV} {y:V} {xs:List PV} {ys:List V} (r:RP K ρ H x y) (t:RPs K ρ H xs ys):RPs K ρ H (x::xs) (y::ys)
end
structure Le (ρ:List Addr) (H:Hp) (ρ':List Addr) (H':Hp):Prop where
 pre:∃m,ρ'=ρ++m
 tup:∀a xs,H a=some (.tup xs)->H' a=some (.tup xs)
 frz:∀a o u,H a=some (.frz o u)->H' a=some (.frz o u)
def Le.refl(ρ:List Addr)(H:Hp):Le ρ H ρ H:=⟨⟨[],by simp⟩,fun _ _ h=>h,fun _ _ _ h=>h⟩
def Le.trans(a:Le ρ H ρ1 H1)(b:Le ρ1 H1 ρ2 H2):Le ρ H ρ2 H2:=by
 obtain⟨m,e⟩:=a.pre;obtain⟨m',e'⟩:=b.pre;exact⟨⟨m++m',by rw[e',e,qaH]⟩,fun c xs h=>b.tup c xs (a.tup c xs h),fun c o u h=>b.frz c o u (a.frz c o u h)⟩
def Le.get{ρ ρ':List Addr}{H H':Hp}(l:Le ρ H ρ' H'){n:Nat}{a:Addr}(e:ρ[n]?=some a):ρ'[n]?=some a:=by
 obtain⟨m,e'⟩:=l.pre;rw[e',qak (qaf.mp e).1];exact e
def Le.sqt{K:qab}{ρ ρ':List Addr}{H H':Hp}(l:Le ρ H ρ' H'){a:Addr}{xs:List V}(h:SqT K H a xs):SqT K H' a xs:=by
 rcases h with (h|⟨o,h⟩)|h
 ·exact .inl (.inl (l.tup _ _ h))
 ·exact .inl (.inr ⟨o,l.frz _ _ _ h⟩)
 ·exact .inr h
def Le.sqf{K:qab}{ρ ρ':List Addr}{H H':Hp}(l:Le ρ H ρ' H'){a:Addr}{xs:List V}(h:SqF K H a xs):SqF K H' a xs:=by
 rcases h with ⟨o,h⟩|h
 ·exact .inl ⟨o,l.frz _ _ _ h⟩
 ·exact .inr h
section
variable {K:qab} {ρ ρ':List Addr} {H H':Hp}
def RP.le(l:Le ρ H ρ' H'){x:PV}{y:V}(r:RP K ρ H x y):RP K ρ' H' x y :=
 RP.rec (motive_1:=fun x y _=>RP K ρ' H' x y) (motive_2:=fun x y _=>RPs K ρ' H' x y) .non .bl .int .str (fun s _ i=>.tup (l.sqt s) i) (fun s _ i=>.frl (l.sqf s) i) (fun e=>.loc (l.get e)) .nil (fun _ _ a b=>.cons a b) r
def RPs.le(l:Le ρ H ρ' H')(r:RPs K ρ H xs ys):RPs K ρ' H' xs ys:=by
 induction xs generalizing ys with
 | nil=>cases r;exact .nil
 | cons x xs ih=>cases r with | cons a t=>exact .cons (a.le l) (ih t)
def RPs.length(r:RPs K ρ H xs ys):xs.length=ys.length:=by
 induction xs generalizing ys with
 | nil=>cases r;rfl
 | cons x xs ih=>cases r with | cons a t=>exact congrArg (·+1) (ih t)
def RPs.get{xs:List PV}{ys:List V}{i:Nat}{x:PV}(r:RPs K ρ H xs ys)(e:xs[i]?=some x):∃y,ys[i]?=some y/\RP K ρ H x y:=by
 induction xs generalizing ys i with
 | nil=>cases e
 | cons x xs ih =>
  cases r with
  | cons a t =>
   cases i with
   | zero=>cases e;exact⟨_,rfl,a⟩
   | succ i=>have z:=@ih _ i t e;exact z
def RPs.set(r:RP K ρ H x u)(i:Nat)(q:RPs K ρ H xs us):RPs K ρ H (xs.set i x) (us.set i u):=by
 induction xs generalizing us i with
 | nil=>cases q;exact .nil
 | cons x xs ih =>
  cases q with
  | cons a t =>
   cases i with
   | zero=>exact .cons r t
   | succ i=>exact .cons a (ih i t)
def RPs.append(r:RPs K ρ H xs us)(s:RPs K ρ H ys ws):RPs K ρ H (xs++ys) (us++ws):=by
 induction xs generalizing us with
 | nil=>cases r;exact s
 | cons x xs ih=>cases r with | cons a t=>exact .cons a (ih t)
def RPs.take(n:Nat)(r:RPs K ρ H xs us):RPs K ρ H (xs.take n) (us.take n):=by
 induction n generalizing xs us with
 | zero=>exact .nil
 | succ n ih =>
  cases xs with
  | nil=>cases r;exact .nil
  | cons x xs=>cases r with | cons a t=>exact .cons a (ih t)
def RPs.drop(n:Nat)(r:RPs K ρ H xs us):RPs K ρ H (xs.drop n) (us.drop n):=by
 induction n generalizing xs us with
 | zero=>exact r
 | succ n ih =>
  cases xs with
  | nil=>cases r;exact .nil
  | cons x xs=>cases r with | cons a t=>exact ih t
def RPs.ints:∀(ns:List Int),RPs K ρ H (ns.map PV.int) (ns.map V.int)
 | []=>.nil
 | n::r=>.cons (.int n) (RPs.ints r)
end
def hW(a C:Addr)(h:Heap):Prop:=∃o vs,h.get? a=some o/\o.cls=.ref C/\o.data=.fields vs
abbrev MGl:=Str->Option Value
def RO(K:qab)(mg:MGl)(ρ:List Addr)(H:Hp)(a:Addr):MO->Option HO->Prop
 | .lst xs,oh=>∃ys,oh=some (.lst ys)/\RPs K ρ H xs ys
 | .dic kvs,oh=>kvs=[]/\oh=some (.dK [])
 | .exc x,oh=>x.fs=[]/\∃C,mg x.cls=some (.ref C)/\oh=some (.ext (hW a C))
structure RH (K:qab) (mg:MGl) (ρ:List Addr) (H:Hp) (h:MH):Prop where
 len:ρ.length=h.length
 nd:ρ.Nodup
 at':∀(n:Nat) (a:Addr) (o:MO),ρ[n]?=some a->h[n]?=some o->RO K mg ρ H a o (H a)
def RO.le{K:qab}{mg:MGl}{ρ ρ':List Addr}{H H':Hp}{a:Addr}(l:Le ρ H ρ' H'){o:MO}{oh:Option HO}(r:RO K mg ρ H a o oh):RO K mg ρ' H' a o oh:=by
 cases o with
 | lst xs=>obtain⟨ys,e,r⟩:=r;exact⟨ys,e,r.le l⟩
 | dic kvs=>exact r
 | exc x=>exact r
def RO.some{K:qab}{mg:MGl}{ρ:List Addr}{H:Hp}{a:Addr}{o:MO}{oh:Option HO}(r:RO K mg ρ H a o oh):oh≠none:=by
 cases o with
 | lst xs=>obtain⟨ys,e,_⟩:=r;rw[e];simp
 | dic kvs=>obtain⟨_,e⟩:=r;rw[e];simp
 | exc x=>obtain⟨_,C,_,e⟩:=r;rw[e];simp
def RO.plain{K:qab}{mg:MGl}{ρ:List Addr}{H:Hp}{a:Addr}{o:MO}{oh:Option HO}(r:RO K mg ρ H a o oh):(∀xs,oh≠Option.some (.tup xs))/\∀p u,oh≠Option.some (.frz p u):=by
 cases o with
 | lst xs=>obtain⟨ys,e,_⟩:=r;rw[e];exact⟨(fun _ z=>nomatch z),(fun _ _ z=>nomatch z)⟩
 | dic kvs=>obtain⟨_,e⟩:=r;rw[e];exact⟨(fun _ z=>nomatch z),(fun _ _ z=>nomatch z)⟩
 | exc x=>obtain⟨_,C,_,e⟩:=r;rw[e];exact⟨(fun _ z=>nomatch z),(fun _ _ z=>nomatch z)⟩
section
variable {K:qab} {mg:MGl} {ρ:List Addr} {H:Hp} {h:MH}
def RH.obj(r:RH K mg ρ H h){n:Nat}{a:Addr}(e:ρ[n]?=some a):∃o,h[n]?=some o/\RO K mg ρ H a o (H a):=by
 have hn:n<h.length:=by rw[<-r.len];exact (qaf.mp e).1
 exact⟨h[n],by simp[hn],r.at' n a _ e (by simp[hn])⟩
def RH.new(r:RH K mg ρ H h){p:Addr}(hp:H p=none){o:MO}{ho:HO}(hn:RO K mg ρ H p o (some ho)):RH K mg (ρ++[p]) (upd H p ho) (h++[o])/\Le ρ H (ρ++[p]) (upd H p ho):=by
 have hne:∀n a,ρ[n]?=some a->a≠p:=fun n a e z=>by
  obtain⟨o',_,q⟩:=r.obj e;rw[z,hp] at q;exact q.some rfl
 have l:Le ρ H (ρ++[p]) (upd H p ho):=⟨⟨[p],rfl⟩,fun a xs e=>by rw[aV (bK e hp)];exact e,fun a ob u e=>by rw[aV (bK e hp)];exact e⟩;refine⟨⟨by simp[r.len],?_,fun n a o' e1 e2=>?_⟩,l⟩
 ·rw[qcf];refine⟨r.nd,by simp,fun a ha b hb=>?_⟩;obtain⟨n,e⟩:=qaX.mp ha;have hb':b=p:=by simpa using hb
  rw[hb'];exact hne n a e
 ·by_cases hlt:n<ρ.length
  ·rw[qak hlt] at e1;rw[qak (by rw[<-r.len];exact hlt)] at e2;rw[aV (hne n a e1)];exact (r.at' n a o' e1 e2).le l
  ·rw[qaw (by lia)] at e1;rw[qaw (by rw[<-r.len];lia)] at e2;have hn0:n - ρ.length=0:=by
    rcases Nat.eq_zero_or_pos (n - ρ.length) with z|z
    ·exact z
    ·rw[qaY (by simp;lia)] at e1;cases e1
   rw[hn0] at e1;have hn1:n - h.length=0:=by have:=r.len;lia
   rw[hn1] at e2;simp at e1 e2;subst e1;subst e2;rw[bC];exact hn.le l
def RH.put(r:RH K mg ρ H h){n:Nat}{a:Addr}(e:ρ[n]?=some a){o:MO}{ho:HO}(hn:RO K mg ρ H a o (some ho)):RH K mg ρ (upd H a ho) (h.set n o)/\Le ρ H ρ (upd H a ho):=by
 obtain⟨o0,_,q⟩:=r.obj e;obtain⟨q1,q2⟩:=q.plain
 have l:Le ρ H ρ (upd H a ho):=⟨⟨[],by simp⟩,fun b xs z=>by
   have:b≠a:=by rintro rfl;exact q1 _ z
   rw[aV this];exact z,fun b ob u z=>by
   have:b≠a:=by rintro rfl;exact q2 _ _ z
   rw[aV this];exact z⟩
 refine⟨⟨by simp[r.len],r.nd,fun m b o' e1 e2=>?_⟩,l⟩;by_cases hm:m=n
 ·subst hm;rw[e] at e1;cases e1;rw[bC]
  have:m<h.length:=by rw[<-r.len];exact (qaf.mp e).1
  rw[qat this] at e2;cases e2;exact hn.le l
 ·rw[qah (fun z=>hm z.symm)] at e2;have hb:b≠a:=by
   rintro rfl;have h1:=qaf.mp e;have h2:=qaf.mp e1;obtain⟨l1,g1⟩:=h1;obtain⟨l2,g2⟩:=h2;exact hm ((List.getElem_inj r.nd).mp (g2.trans g1.symm))
  rw[aV hb];exact (r.at' m b o' e1 e2).le l
def RH.tup(r:RH K mg ρ H h){p:Addr}(hp:H p=none)(ys:List V):RH K mg ρ (upd H p (.tup ys)) h/\Le ρ H ρ (upd H p (.tup ys)):=by
 have hne:∀n a,ρ[n]?=some a->a≠p:=fun n a e z=>by
  obtain⟨o',_,q⟩:=r.obj e;rw[z,hp] at q;exact q.some rfl
 have l:Le ρ H ρ (upd H p (.tup ys)):=⟨⟨[],by simp⟩,fun a xs e=>by rw[aV (bK e hp)];exact e,fun a ob u e=>by rw[aV (bK e hp)];exact e⟩;exact⟨⟨r.len,r.nd,fun n a o e1 e2=>by rw[aV (hne n a e1)];exact (r.at' n a o e1 e2).le l⟩,l⟩
end
def RS(K:qab)(ρ:List Addr)(H:Hp)(σp:PSt)(σ:L2.St):Prop :=
 σ.length=σp.length/\∀(i:Nat) (v:PV),σp[i]?=some (some v)->∃v',σ[i]?=some (some v')/\RP K ρ H v v'
def RS.le{K:qab}{ρ ρ':List Addr}{H H':Hp}{σp:PSt}{σ:L2.St}(l:Le ρ H ρ' H')(r:RS K ρ H σp σ):RS K ρ' H' σp σ :=
 ⟨r.1,fun i v e=>by obtain⟨v',e',q⟩:=r.2 i v e;exact⟨v',e',q.le l⟩⟩
def RS.set{K:qab}{ρ:List Addr}{H:Hp}{σp:PSt}{σ:L2.St}(r:RS K ρ H σp σ)(i:Nat){v:PV}{v':V}(q:RP K ρ H v v'):RS K ρ H (σp.set i (some v)) (σ.set i (some v')):=by
 refine⟨by simp[r.1],fun j u e=>?_⟩;by_cases hj:j=i
 ·subst hj;by_cases hl:j<σp.length
  ·rw[qat hl] at e;cases e;exact⟨v',qat (by rw[r.1];exact hl),q⟩
  ·rw[qaY (by simp;lia)] at e;cases e
 ·rw[qah (fun z=>hj z.symm)] at e;obtain⟨u',e',q'⟩:=r.2 j u e;exact⟨u',by rw[qah (fun z=>hj z.symm)];exact e',q'⟩
def Cov(B:Heap)(fs:List Addr)(h:Heap):Prop:=∀b o,h.get? b=some o->b∉fs->∃ob,B.get? b=some ob
def Fly(l:List Env)(H:Hp)(lim:Heap)(C ea:Addr)(h:Heap):Prop :=
 ∃B t,Heap.FlyingW B l ea (.ref C) (.ref t) h/\(∀b o,H b=some o->∃ob,B.get? b=some ob)/\Cov B (frs l) lim/\H ea=none
structure Bears (X:Cx) (h:Heap):Prop where
 old:∀b o,X.s₀.heap.get? b=some o->b∉X.ex->∃o',h.get? b=some o'
 cell:∀x c,X.env.cells.lookup x=some c->∃o,h.get? c=some o
 pin:∀p∈X.pn,∃o,h.get? p.1=some o
def Inv.bears{X:Cx}{G6:List (Addr × Obj)}{σ:L2.St}{H:Hp}{s:Shared}(I:Inv X G6 σ H s):Bears X s.heap :=
 ⟨fun b o e n=>I.base.there b o e n,fun x c e=>let ⟨_,o,eo,_⟩:=I.cell x c e;⟨o,eo⟩,fun p hp=>⟨_,(I.pin p (qay _ hp)).1⟩⟩
def XP(X:Cx)(σp:PSt)(ρ:List Addr)(H:Hp)(x:MExc)(h:MH):Prop:=∀(ea C:Addr) (ρ':List Addr) (H':Hp) (σ':L2.St) (s':Shared) (lim:Heap),x.fs=[]->X.mg x.cls=some (.ref C)->Le ρ H ρ' H'->RH X.K X.mg ρ' H' h->RS X.K ρ' H' σp σ' ->
 Inv X [] σ' H' s'->Bears X lim->Fly X.stack H' lim C ea s'.heap->X.xe (.ref ea) s'
def XM(X:Cx)(σp:PSt)(ρ:List Addr)(H:Hp)(x:MExc)(h:MH):Prop:=∀(ea C:Addr) (ρ':List Addr) (H':Hp) (σ':L2.St) (s':Shared) (h0:Heap) (args:List Value),x.fs=[]->X.mg x.cls=some (.ref C)->Le ρ H ρ' H'->RH X.K X.mg ρ' H' h->RS X.K ρ' H' σp σ' ->
 Inv X [] σ' H' { s' with heap:=h0}->Heap.MadeExcOf h0 s'.heap ea (.ref C) args->X.xe (.ref ea) s'
def XP.le(l:Le ρ H ρ' H')(q:XP X σp ρ H x h):XP X σp ρ' H' x h :=
 fun ea C ρ2 H2 σ2 s2 lim e1 e2 l2=>q ea C ρ2 H2 σ2 s2 lim e1 e2 (l.trans l2)
def XM.le(l:Le ρ H ρ' H')(q:XM X σp ρ H x h):XM X σp ρ' H' x h :=
 fun ea C ρ2 H2 σ2 s2 lim args e1 e2 l2=>q ea C ρ2 H2 σ2 s2 lim args e1 e2 (l.trans l2)
abbrev Rl(α β:Type):=List Addr->Hp->α->β->Prop
def Ful{α β:Type}(X:Cx)(R:Rl α β)(σp:PSt)(ρ:List Addr)(H:Hp)(o:Out α)(Q:β->Hp->Prop):Prop:=match o with
 | .ok v h'=>∀ρ' H' v',Le ρ H ρ' H'->RH X.K X.mg ρ' H' h'->R ρ' H' v v'->Q v' H'
 | .exc x h'=>XP X σp ρ H x h'
 | .bad=>False
def iF{α β:Type}(X:Cx)(R:Rl α β)(ρ:List Addr)(H:Hp)(o:Out α)(Q:β->Hp->Prop):Prop:=match o with
 | .ok v h'=>∀ρ' H' v',Le ρ H ρ' H'->RH X.K X.mg ρ' H' h'->R ρ' H' v v'->Q v' H'
 | _=>False
def Ful.zero(f:Ful X R σp ρ H o.ne Q):iF X R ρ H o Q:=by
 cases o with
 | ok v h=>exact f
 | exc x h=>exact f
 | bad=>exact f
def Ful.le(l:Le ρ H ρ1 H1)(f:Ful X R σp ρ H o Q):Ful X R σp ρ1 H1 o Q:=by
 cases o with
 | ok v h=>exact fun ρ' H' v' l'=>f ρ' H' v' (l.trans l')
 | exc x h=>exact XP.le (X:=X) (σp:=σp) (x:=x) (h:=h) l f
 | bad=>exact f
def Ful.bind{α β γ δ:Type}{X:Cx}{R:Rl α β}{S:Rl γ δ}{σp:PSt}{ρ:List Addr}{H:Hp}{o:Out α}{f:α->MH->Out γ}{Q:δ->Hp->Prop}{Q':β->Hp->Prop}(q:Ful X S σp ρ H (o.bind f) Q)
  (k:∀ρ1 H1 v v' h1,o=.ok v h1->Le ρ H ρ1 H1->RH X.K X.mg ρ1 H1 h1->R ρ1 H1 v v'->Ful X S σp ρ1 H1 (f v h1) Q->Q' v' H1):Ful X R σp ρ H o Q':=by
 cases o with
 | ok v h=>exact fun ρ' H' v' l r w=>k ρ' H' v v' h rfl l r w (Ful.le l q)
 | exc x h=>exact q
 | bad=>exact q
abbrev RV'(X:Cx):Rl PV V:=fun ρ H=>RP X.K ρ H
abbrev RVs'(X:Cx):Rl (List PV) (List V):=fun ρ H=>RPs X.K ρ H
abbrev REq{α:Type}:Rl α α:=fun _ _ x y=>x=y
abbrev Mx(α:Type):=PSt->MH->Out α
inductive tM {α β:Type} (X:Cx) (R:Rl α β) (m:Mx α) (σ:L2.St) (H:Hp) (Q:β->Hp->Prop):Prop
 | mk (ρ:List Addr) (σp:PSt) (h:MH) (rs:RS X.K ρ H σp σ) (rh:RH X.K X.mg ρ H h) (q:Ful X R σp ρ H (m σp h) Q):tM X R m σ H Q
def ME(X:Cx)(e:Expr)(m:Mx PV):Prop:=PE X e (tM X (RV' X) m)
def MT(X:Cx)(e:Expr)(m:Mx Bool):Prop:=PT X e (tM X REq m)
def MW(X:Cx)(e:Expr)(m:Mx Bool):Prop:=PW X e (tM X REq m)
def MA(X:Cx)(es:List Expr)(m:Mx (List PV)):Prop:=PA X es (tM X (RVs' X) m)
def PE.imp(h:PE X e t)(i:∀σ H Q,t' σ H Q->t σ H Q):PE X e t':=fun G6 s σ H Q I q=>h G6 s σ H Q I (i σ H Q q)
def PT.imp(h:PT X e t)(i:∀σ H Q,t' σ H Q->t σ H Q):PT X e t':=fun G6 s σ H Q I q=>h G6 s σ H Q I (i σ H Q q)
def PW.imp(h:PW X e t)(i:∀σ H Q,t' σ H Q->t σ H Q):PW X e t':=fun whole G6 s σ H Q I q=>h whole G6 s σ H Q I (i σ H Q q)
def PA.imp(h:PA X e t)(i:∀σ H Q,t' σ H Q->t σ H Q):PA X e t':=fun pos G6 s σ H Q I q=>h pos G6 s σ H Q I (i σ H Q q)
def PS.imp(h:PS X e t)(i:∀D σ H,t' D σ H->t D σ H):PS X e t':=fun G6 s σ H D I q=>h G6 s σ H D I (i D σ H q)
def PSs.imp(h:PSs X e t)(i:∀D σ H,t' D σ H->t D σ H):PSs X e t':=fun G6 s σ H D I q=>h G6 s σ H D I (i D σ H q)
def bB(X:Cx)(ρ:List Addr)(H:Hp)(o:SOut)(D:Ends):Prop:=match o with
 | .nx σp h'=>∀ρ' H' σ',Le ρ H ρ' H'->RH X.K X.mg ρ' H' h'->RS X.K ρ' H' σp σ'->D.nx σ' H'
 | .bk σp h'=>∀ρ' H' σ',Le ρ H ρ' H'->RH X.K X.mg ρ' H' h'->RS X.K ρ' H' σp σ'->D.bk σ' H'
 | .ct σp h'=>∀ρ' H' σ',Le ρ H ρ' H'->RH X.K X.mg ρ' H' h'->RS X.K ρ' H' σp σ'->D.ct σ' H'
 | .rt v h'=>∀ρ' H' v',Le ρ H ρ' H'->RH X.K X.mg ρ' H' h'->RP X.K ρ' H' v v'->D.rt v' H'
 | .exc x σp h'=>XP X σp ρ H x h'
 | .rse x σp h'=>XM X σp ρ H x h'
 | .bad=>False
def bB.le(l:Le ρ H ρ1 H1)(f:bB X ρ H o D):bB X ρ1 H1 o D:=by
 cases o with
 | nx σp h=>exact fun ρ' H' v' l'=>f ρ' H' v' (l.trans l')
 | bk σp h=>exact fun ρ' H' v' l'=>f ρ' H' v' (l.trans l')
 | ct σp h=>exact fun ρ' H' v' l'=>f ρ' H' v' (l.trans l')
 | rt v h=>exact fun ρ' H' v' l'=>f ρ' H' v' (l.trans l')
 | exc x σp h=>exact XP.le (X:=X) (σp:=σp) (x:=x) (h:=h) l f
 | rse x σp h=>exact XM.le (X:=X) (σp:=σp) (x:=x) (h:=h) l f
 | bad=>exact f
abbrev Mst:=PSt->MH->SOut
inductive tMS (X:Cx) (m:Mst) (D:Ends) (σ:L2.St) (H:Hp):Prop
 | mk (ρ:List Addr) (σp:PSt) (h:MH) (rs:RS X.K ρ H σp σ) (rh:RH X.K X.mg ρ H h) (q:bB X ρ H (m σp h) D):tMS X m D σ H
def MS(X:Cx)(st:Stmt)(m:Mst):Prop:=PS X st (tMS X m)
def MSs(X:Cx)(st:List Stmt)(m:Mst):Prop:=PSs X st (tMS X m)
section
variable {X:Cx} {N W G:List Str} {k:Nat}
structure Good (X:Cx) (N W G:List Str) (k:Nat):Prop where
 hN:X.N=N
 nd:N.Nodup
 loc:∀x∈N,Loc X.env.scope x
 fn:∀x∈W,X.fn x=true\/X.env.scope.names.lookup x=some .local
 gl:∀x∈G,Gl X x
 dbg:∀x∈N++G,(x == ("__debug__":Str))=false/\(x == ("__classdict__":Str))=false/\x≠"__name__"
 calm:X.calm=true
 room:Room k X.A
 po:PassesOwn (model X.prog X.w) X.A X.env X.xe
def Good.x(g:Good X N W G k){i:Nat}{x:Str}(hi:N[i]?=some x):X.N[i]?=some x:=by rw[g.hN];exact hi
def az{l:List Str}{i:Nat}{x:Str}(hi:l[i]?=some x):x∈l:=qbm hi
def rJ(X:Cx)(g:PV->PV->MH->Out PV):R2:=fun x' y' H Q=>∃ρ h x y,RH X.K X.mg ρ H h/\RP X.K ρ H x x'/\RP X.K ρ H y y'/\iF X (RV' X) ρ H (g x y h) Q
abbrev OpJ(X:Cx)(f:Value->Value->Sem Value)(g:PV->PV->MH->Out PV):Prop:=OpR X f (rJ X g)
def uJ(X:Cx)(g:PV->MH->Out PV):V->Hp->VK->Prop:=fun x' H Q=>∃ρ h x,RH X.K X.mg ρ H h/\RP X.K ρ H x x'/\iF X (RV' X) ρ H (g x h) Q
abbrev UnJ(X:Cx)(f:Value->Sem Value)(g:PV->MH->Out PV):Prop:=UnR X f (uJ X g)
def cJ(X:Cx)(g:List PV->MH->Out PV):List V->Hp->VK->Prop:=fun xs' H Q=>∃ρ h xs,RH X.K X.mg ρ H h/\RPs X.K ρ H xs xs'/\iF X (RV' X) ρ H (g xs h) Q
abbrev dr(X:Cx)(f:Value)(g:List PV->MH->Out PV):Prop:=cA X f (cJ X g)
def af(i:Nat):Mx PV:=fun σ h=>match σ[i]? with
 | some (some v)=>.ok v h
 | _=>.bad
def mC(v:PV):Mx PV:=fun _ h=>.ok v h
def me_var(g:Good X N W G k)(i:Nat){x:Str}{pos:Pos}(hi:N[i]?=some x):ME X (.Name x pos) (af i):=by
 have d:=g.dbg x (qay _ (az hi));have hv:Vis X.env.scope x:=by
  rcases g.loc x (az hi) with q|q
  ·exact .inl q
  ·exact .inr (.inl q)
 refine PE.imp (xx (g.x hi) hv d.1 d.2.1) fun σ H Q ⟨ρ,σp,h,rs,rh,f⟩=>?_;unfold af at f
 cases e:σp[i]? with
 | none=>rw[e] at f;exact f.elim
 | some o =>
  rw[e] at f
  cases o with
  | none=>exact f.elim
  | some v =>
   obtain⟨v',e',r⟩:=rs.2 i v e;exact⟨v',e',f ρ H v' (Le.refl _ _) rh r⟩
def ah:ME X (.Constant (.int i) j pos) (mC (.int i)):=PE.imp pe_int fun _ H _ ⟨ρ,_,_,_,rh,f⟩=>f ρ H _ (Le.refl _ _) rh (.int i)
def bg:ME X (.Constant (.str i) j pos) (mC (.str i)):=PE.imp pe_str fun _ H _ ⟨ρ,_,_,_,rh,f⟩=>f ρ H _ (Le.refl _ _) rh (.str i)
def bW:ME X (.Constant (.bool i) j pos) (mC (.bl i)):=PE.imp pe_bl fun _ H _ ⟨ρ,_,_,_,rh,f⟩=>f ρ H _ (Le.refl _ _) rh (.bl i)
def bZ:ME X (.Constant .none j pos) (mC .non):=PE.imp pe_non fun _ H _ ⟨ρ,_,_,_,rh,f⟩=>f ρ H _ (Le.refl _ _) rh .non
def ai(f:PV->PV->MH->Out PV)(ma mb:Mx PV):Mx PV:=fun σ h=>(ma σ h).bind fun x h1=>(mb σ h1).bind fun y h2=>(f x y h2).ne
def mUn(f:PV->MH->Out PV)(ma:Mx PV):Mx PV:=fun σ h=>(ma σ h).bind fun x h1=>(f x h1).ne
def rP{f:PV->PV->MH->Out PV}{ma mb:Mx PV}{σ:L2.St}{H:Hp}{Q:VK}(q:tM X (RV' X) (ai f ma mb) σ H Q):tOp (rJ X f) (tM X (RV' X) ma) (tM X (RV' X) mb) σ H Q:=by
 obtain⟨ρ,σp,h,rs,rh,q⟩:=q;refine⟨ρ,σp,h,rs,rh,Ful.bind q fun ρ1 H1 x x' h1 _ l1 rh1 rx q1=>?_⟩;refine⟨ρ1,σp,h1,rs.le l1,rh1,Ful.bind q1 fun ρ2 H2 y y' h2 _ l2 rh2 ry q2=>?_⟩;exact⟨ρ2,h2,x,y,rh2,rx.le l2,ry,q2.zero⟩
def ao(ho:OpJ X (binaryOp op) f)(ha:ME X a ma)(hb:ME X b mb):ME X (.BinOp a op b pos) (ai f ma mb) :=
 PE.imp (pe_op ho ha hb) fun _ _ _ q=>rP q
def jM(ho:UnJ X (unaryOp op) f)(ha:ME X a ma):ME X (.UnaryOp op a pos) (mUn f ma) :=
 PE.imp (pe_un ho ha) fun _ _ _ ⟨ρ,σp,h,rs,rh,q⟩=>⟨ρ,σp,h,rs,rh,Ful.bind q fun ρ1 H1 x x' h1 _ l1 rh1 rx q1=>⟨ρ1,h1,x,rh1,rx,q1.zero⟩⟩
def me_cmp(ho:OpJ X (compareOp op) f)(ha:ME X a ma)(hb:ME X b mb)(hm:behindInMarks op b=false):ME X (.Compare a [op] [b] pos) (ai f ma mb) :=
 PE.imp (pe_cmpR ho ha hb hm) fun _ _ _ q=>rP q
def mB(m:Mx PV):Mx Bool:=fun σ h=>(m σ h).bind fun v h1=>match v with
 | .bl b=>.ok b h1
 | _=>.bad
def tM_B(q:tM X REq (mB m) σ H Q):tM X (RV' X) m σ H fun x H1=>∃c,x=.bl c/\Q c H1:=by
 obtain⟨ρ,σp,h,rs,rh,q⟩:=q;refine⟨ρ,σp,h,rs,rh,Ful.bind q fun ρ1 H1 x x' h1 _ l1 rh1 rx q1=>?_⟩
 cases rx with
 | bl b=>exact⟨b,rfl,q1 ρ1 H1 b (Le.refl _ _) rh1 rfl⟩
 | _=>exact q1.elim
def mt_cmp(ho:OpJ X (compareOp op) f)(ha:ME X a ma)(hb:ME X b mb)(hm:behindInMarks op b=false):MT X (.Compare a [op] [b] pos) (mB (ai f ma mb)) :=
 PT.imp (pt_cmpR ho ha hb hm) fun σ H Q q=>by
  obtain⟨ρ,σp,h,rs,rh,q⟩:=tM_B q;exact rP (Q:=fun x H'=>∃k,x=.bl k/\Q k H') ⟨ρ,σp,h,rs,rh,q⟩
def b7(h:ME X e m)(he:∀whole,isTrue e X.env whole=(do let v <-whole;standAt e.pos;holding [v] (truthy v)):=by intro _;rfl):MT X e (mB m) :=
 PT.imp (pt_val h he) fun _ _ _ q=>tM_B q
def df(m:Mx Bool):Mx Bool:=fun σ h=>(m σ h).bind fun b h1=>.ok (!b) h1
def cG(h:MT X e m):MT X (.UnaryOp .Not e pos) (df m) :=
 PT.imp (pt_not h) fun _ _ _ ⟨ρ,σp,h,rs,rh,q⟩=>⟨ρ,σp,h,rs,rh,Ful.bind q fun ρ1 H1 x x' h1 _ l1 rh1 rx q1=>by
  cases rx;exact q1 ρ1 H1 _ (Le.refl _ _) rh1 rfl⟩
def mAnd(a b:Mx Bool):Mx Bool:=fun σ h=>(a σ h).bind fun x h1=>if x=true then b σ h1 else .ok false h1
def mOr(a b:Mx Bool):Mx Bool:=fun σ h=>(a σ h).bind fun x h1=>if x=true then .ok true h1 else b σ h1
section
variable {a b:Expr} {rest:List Expr} {ma mb:Mx Bool} {pos:Pos}
def mw_and1(ha:MT X a ma):MW X (.BoolOp .And [a] pos) ma:=pw_and1 ha
def e8(ha:MT X a ma):MW X (.BoolOp .Or [a] pos) ma:=pw_or1 ha
def mw_and(ha:MT X a ma)(hb:MW X (.BoolOp .And (b::rest) pos) mb):MW X (.BoolOp .And (a::b::rest) pos) (mAnd ma mb) :=
 PW.imp (pw_and ha hb) fun σ H Q ⟨ρ,σp,h,rs,rh,q⟩=>⟨ρ,σp,h,rs,rh,Ful.bind q fun ρ1 H1 x x' h1 _ l1 rh1 rx q1=>by
  cases rx
  cases x with
  | true=>rw[qae rfl] at q1 ⊢;exact⟨ρ1,σp,h1,rs.le l1,rh1,q1⟩
  | false=>rw[qao qaN] at q1 ⊢;exact q1 ρ1 H1 _ (Le.refl _ _) rh1 rfl⟩
def fj(ha:MT X a ma)(hb:MW X (.BoolOp .Or (b::rest) pos) mb):MW X (.BoolOp .Or (a::b::rest) pos) (mOr ma mb) :=
 PW.imp (pw_or ha hb) fun σ H Q ⟨ρ,σp,h,rs,rh,q⟩=>⟨ρ,σp,h,rs,rh,Ful.bind q fun ρ1 H1 x x' h1 _ l1 rh1 rx q1=>by
  cases rx
  cases x with
  | true=>rw[qae rfl] at q1 ⊢;exact q1 ρ1 H1 _ (Le.refl _ _) rh1 rfl
  | false=>rw[qao qaN] at q1 ⊢;exact⟨ρ1,σp,h1,rs.le l1,rh1,q1⟩⟩
def MW.mt(h:MW X e m):MT X e m:=PW.pt h
end
def cM(a b:Mx PV):Mx PV:=fun σ h=>(a σ h).bind fun x h1=>match x with
 | .bl c=>if c=true then b σ h1 else .ok (.bl false) h1
 | _=>.bad
def oW(a:Mx PV):Mx PV:=fun σ h=>(a σ h).bind fun x h1=>match x with
 | .bl c=>.ok (.bl (!c)) h1
 | _=>.bad
section
variable {a b:Expr} {rest:List Expr} {ma mb:Mx PV} {pos:Pos}
def dU(ha:ME X a ma):ME X (.BoolOp op [a] pos) ma:=pe_one ha
def cF(ha:ME X a ma)(hb:ME X (.BoolOp .And (b::rest) pos) mb):ME X (.BoolOp .And (a::b::rest) pos) (cM ma mb) :=
 PE.imp (pe_and ha hb) fun σ H Q ⟨ρ,σp,h,rs,rh,q⟩=>⟨ρ,σp,h,rs,rh,Ful.bind q fun ρ1 H1 x x' h1 _ l1 rh1 rx q1=>by
  cases rx with
  | bl c =>
   refine⟨c,rfl,?_⟩;dsimp only at q1
   cases c with
   | true=>rw[qae rfl] at q1 ⊢;exact⟨ρ1,σp,h1,rs.le l1,rh1,q1⟩
   | false=>rw[qao qaN] at q1 ⊢;exact q1 ρ1 H1 _ (Le.refl _ _) rh1 (.bl false)
  | _=>exact q1.elim⟩
def wR(ha:ME X a ma):ME X (.UnaryOp .Not a pos) (oW ma) :=
 PE.imp (pe_not ha) fun σ H Q ⟨ρ,σp,h,rs,rh,q⟩=>⟨ρ,σp,h,rs,rh,Ful.bind q fun ρ1 H1 x x' h1 _ l1 rh1 rx q1=>by
  cases rx with
  | bl c=>exact⟨c,rfl,q1 ρ1 H1 _ (Le.refl _ _) rh1 (.bl _)⟩
  | _=>exact q1.elim⟩
end
def mNil:Mx (List PV):=fun _ h=>.ok [] h
def aa(a:Mx PV)(r:Mx (List PV)):Mx (List PV):=fun σ h=>(a σ h).bind fun x h1=>(r σ h1).bind fun xs h2=>.ok (x::xs) h2
def aj:MA X [] mNil:=PA.imp eY fun σ H Q ⟨ρ,σp,h,rs,rh,q⟩=>q ρ H _ (Le.refl _ _) rh .nil
def ag(ha:ME X e m)(hr:MA X es ms)(hs:starEach (e::es) X.env=(false,eval e X.env)::starEach es X.env:=by rfl):MA X (e::es) (aa m ms) :=
 PA.imp (bR ha hr hs) fun σ H Q ⟨ρ,σp,h,rs,rh,q⟩=>⟨ρ,σp,h,rs,rh,Ful.bind q fun ρ1 H1 x x' h1 _ l1 rh1 rx q1 =>
  ⟨ρ1,σp,h1,rs.le l1,rh1,Ful.bind q1 fun ρ2 H2 y y' h2 _ l2 rh2 ry q2=>q2 ρ2 H2 _ (Le.refl _ _) rh2 (.cons (rx.le l2) ry)⟩⟩
def newL(xs:List PV)(h:MH):Out PV:=if xs.length<=sizeLine then .ok (.loc h.length) (h++[.lst xs]) else .bad
def newT(xs:List PV)(h:MH):Out PV:=if xs.length<=sizeLine then .ok (.tup xs) h else .bad
def lV{ρ:List Addr}{H:Hp}{h:MH}{xs:List PV}{ys:List V}{Q:VK}(rh:RH X.K X.mg ρ H h)(rs:RPs X.K ρ H xs ys)(f:iF X (RV' X) ρ H (newL xs h) Q):ys.length<=sizeLine/\∀p,H p=none->Q (.ref p) (upd H p (.lst ys)):=by
 unfold newL at f
 split at f
 ·rename_i hl
  refine⟨by rw[<-rs.length];exact hl,fun p hp=>?_⟩;obtain⟨r1,l1⟩:=rh.new hp (o:=.lst xs) (ho:=.lst ys) ⟨ys,rfl,rs⟩;refine f _ _ _ l1 r1 (.loc ?_);rw[<-rh.len];simp
 ·exact f.elim
def uE{ρ:List Addr}{H:Hp}{h:MH}{xs:List PV}{ys:List V}{Q:VK}(rh:RH X.K X.mg ρ H h)(rs:RPs X.K ρ H xs ys)(f:iF X (RV' X) ρ H (newT xs h) Q):ys.length<=sizeLine/\∀p,H p=none->Q (.ref p) (upd H p (.tup ys)):=by
 unfold newT at f
 split at f
 ·rename_i hl
  refine⟨by rw[<-rs.length];exact hl,fun p hp=>?_⟩;obtain⟨r1,l1⟩:=rh.tup hp ys;exact f _ _ _ l1 r1 (.tup (.inl (.inl bC)) (rs.le l1))
 ·exact f.elim
def newL_f{σp:PSt}{ρ:List Addr}{H:Hp}{h:MH}{xs:List PV}{Q:VK}(f:Ful X (RV' X) σp ρ H (newL xs h) Q):iF X (RV' X) ρ H (newL xs h) Q:=by
 unfold newL at f ⊢
 split at f
 ·rw[qae (by assumption)];exact f
 ·exact f.elim
def newT_f{σp:PSt}{ρ:List Addr}{H:Hp}{h:MH}{xs:List PV}{Q:VK}(f:Ful X (RV' X) σp ρ H (newT xs h) Q):iF X (RV' X) ρ H (newT xs h) Q:=by
 unfold newT at f ⊢
 split at f
 ·rw[qae (by assumption)];exact f
 ·exact f.elim
def aT(m:Mx (List PV)):Mx PV:=fun σ h=>(m σ h).bind newL
def av(m:Mx (List PV)):Mx PV:=fun σ h=>(m σ h).bind newT
def iI(h:MA X es ms):ME X (.List es pos) (aT ms) :=
 PE.imp (pe_lst h) fun σ H Q ⟨ρ,σp,h,rs,rh,q⟩=>⟨ρ,σp,h,rs,rh,Ful.bind q fun ρ1 H1 x x' h1 _ l1 rh1 rx q1=>lV rh1 rx (newL_f q1)⟩
def dM(h:MA X es ms):ME X (.Tuple es j pos) (av ms) :=
 PE.imp (rN h) fun σ H Q ⟨ρ,σp,h,rs,rh,q⟩=>⟨ρ,σp,h,rs,rh,Ful.bind q fun ρ1 H1 x x' h1 _ l1 rh1 rx q1=>uE rh1 rx (newT_f q1)⟩
def SOut.then(o:SOut)(k:Mst):SOut:=match o with
 | .nx σ h=>k σ h
 | o=>o
def aC(a b:Mst):Mst:=fun σ h=>(a σ h).then b
def mSkip:Mst:=fun σ h=>.nx σ h
def bf:MSs X [] mSkip:=PSs.imp pss_nil fun D σ H ⟨ρ,σp,h,rs,rh,q⟩=>q ρ H σ (Le.refl _ _) rh rs
def mss_one{st:Stmt}{m:Mst}(h:MS X st m):MSs X [st] m:=vn h
def bB.then{ρ:List Addr}{H:Hp}{o:SOut}{k:Mst}{D:Ends}(q:bB X ρ H (o.then k) D):bB X ρ H o { D with nx:=fun σ H=>tMS X k D σ H}:=by
 cases o with
 | nx σp h=>exact fun ρ' H' σ' l r s=>⟨ρ',σp,h,s,r,bB.le l q⟩
 | _=>exact q
def zg{st:Stmt}{rest:List Stmt}{m u:Mst}(h1:MS X st m)(h2:MSs X rest u):MSs X (st::rest) (aC m u) :=
 PSs.imp (yW h1 h2) fun D σ H ⟨ρ,σp,h,rs,rh,q⟩=>⟨ρ,σp,h,rs,rh,bB.then q⟩
def aP(m:Mx PV):Mst:=fun σ h=>match m σ h with
 | .ok v h'=>.rt v h'
 | .exc x h'=>.exc x σ h'
 | .bad=>.bad
def ms_ret(he:ME X e m):MS X (.Return (some e) pos) (aP m) :=
 PS.imp (ps_ret he) fun D σ H ⟨ρ,σp,h,rs,rh,q⟩=>⟨ρ,σp,h,rs,rh,by
  unfold aP at q
  cases e:m σp h with
  | ok v h'=>rw[e] at q;exact q
  | exc x h'=>rw[e] at q;exact q
  | bad=>rw[e] at q;exact q⟩
def mEx{α:Type}(m:Mx α)(k:α->Mst):Mst:=fun σ h=>match m σ h with
 | .ok v h'=>k v σ h'
 | .exc x h'=>.exc x σ h'
 | .bad=>.bad
def bB.ex{α β:Type}{R:Rl α β}{m:Mx α}{k:α->Mst}{ρ:List Addr}{H:Hp}{σp:PSt}{h:MH}{D:Ends}{Q:β->Hp->Prop}(q:bB X ρ H (mEx m k σp h) D)
  (w:∀ρ1 H1 v v' h1,Le ρ H ρ1 H1->RH X.K X.mg ρ1 H1 h1->R ρ1 H1 v v'->bB X ρ1 H1 (k v σp h1) D->Q v' H1):Ful X R σp ρ H (m σp h) Q:=by
 unfold mEx at q
 cases e:m σp h with
 | ok v h'=>rw[e] at q;exact fun ρ1 H1 v' l r z=>w ρ1 H1 v v' h' l r z (bB.le l q)
 | exc x h'=>rw[e] at q;exact q
 | bad=>rw[e] at q;exact q
def cK(m:Mx PV):Mst:=mEx m fun _=>mSkip
def d8{e:Expr}{m:Mx PV}{pos:Pos}(he:ME X e m)(hs:swapsWith e none pos.line X.env=pure false:=by rfl):MS X (.Expr e pos) (cK m) :=
 PS.imp (ps_expr he hs) fun D σ H ⟨ρ,σp,h,rs,rh,q⟩=>⟨ρ,σp,h,rs,rh,bB.ex q fun ρ1 H1 v v' h1 l r z w=>w ρ1 H1 σ (Le.refl _ _) r (rs.le l)⟩
def mIf(c:Mx Bool)(a b:Mst):Mst:=mEx c fun x=>if x=true then a else b
def bE{c:Expr}{a b:List Stmt}{mc:Mx Bool}{ma mb:Mst}{pos:Pos}(hc:MT X c mc)(ha:MSs X a ma)(hb:MSs X b mb):MS X (.If c a b pos) (mIf mc ma mb) :=
 PS.imp (ps_if hc ha hb) fun D σ H ⟨ρ,σp,h,rs,rh,q⟩=>⟨ρ,σp,h,rs,rh,bB.ex q fun ρ1 H1 v v' h1 l r z w=>by
  cases z
  cases v with
  | true=>rw[qae rfl];exact⟨ρ1,σp,h1,rs.le l,r,w⟩
  | false=>rw[qao qaN];exact⟨ρ1,σp,h1,rs.le l,r,w⟩⟩
def aX(i:Nat)(m:Mx PV):Mst:=mEx m fun v σ h=>.nx (σ.set i (some v)) h
def ms_set(g:Good X N W G k)(i:Nat){x:Str}{e:Expr}{m:Mx PV}{pos pos':Pos}(hi:N[i]?=some x)(hw:W[i]?=some x)(he:ME X e m)(hs:swapsWith e (some (.Name x pos')) pos.line X.env=pure false:=by rfl) :
  MS X (.Assign [.Name x pos'] e pos) (aX i m):=by
 refine PS.imp (xl (X:=X) (i:=i) (by rw[g.hN];exact g.nd) (g.x hi) (g.loc x (az hi)) he hs (g.fn x (az hw))) fun D σ H ⟨ρ,σp,h,rs,rh,q⟩=>?_;exact⟨ρ,σp,h,rs,rh,bB.ex q fun ρ1 H1 v v' h1 l r z w=>w ρ1 H1 _ (Le.refl _ _) r ((rs.le l).set i z)⟩
end
end MM
namespace MM
open PySem PySem.Spec PyProof.Rows L2
local instance (priority:=1) cdec (p:Prop):Decidable p:=Classical.propDecidable p
section
variable {X:Cx} {N W G:List Str} {k:Nat}
abbrev Mg:=PV->Mst
def nc(X:Cx)(ρ:List Addr)(H:Hp)(o:SOut)(Q:L2.St->Hp->Prop):Prop:=match o with
 | .nx σp h'=>∀ρ' H' σ',Le ρ H ρ' H'->RH X.K X.mg ρ' H' h'->RS X.K ρ' H' σp σ'->Q σ' H'
 | .exc x σp h'=>XP X σp ρ H x h'
 | _=>False
def nc.le(l:Le ρ H ρ1 H1)(f:nc X ρ H o Q):nc X ρ1 H1 o Q:=by
 cases o with
 | nx σp h=>exact fun ρ' H' v' l'=>f ρ' H' v' (l.trans l')
 | exc x σp h=>exact XP.le (X:=X) (σp:=σp) (x:=x) (h:=h) l f
 | _=>exact f
inductive tG (X:Cx) (g:Mg) (v':V) (σ:L2.St) (H:Hp) (Q:L2.St->Hp->Prop):Prop
 | mk (ρ:List Addr) (σp:PSt) (h:MH) (v:PV) (rs:RS X.K ρ H σp σ) (rh:RH X.K X.mg ρ H h) (rv:RP X.K ρ H v v') (q:nc X ρ H (g v σp h) Q):tG X g v' σ H Q
def MG(X:Cx)(tg:Expr)(g:Mg):Prop:=PG X tg (tG X g)
def PG.imp(h:PG X e t)(i:∀v σ H Q,t' v σ H Q->t v σ H Q):PG X e t':=fun G6 s σ H v u Q I r q=>h G6 s σ H v u Q I r (i v σ H Q q)
def gNm(i:Nat):Mg:=fun v σ h=>.nx (σ.set i (some v)) h
def mg_name(g:Good X N W G k)(i:Nat)(hi:N[i]?=some x)(hw:W[i]?=some x):MG X (.Name x pos) (gNm i) :=
 PG.imp (vc (by rw[g.hN];exact g.nd) (g.x hi) (g.loc x (az hi)) (g.fn x (az hw))) fun v' σ H Q ⟨ρ,σp,h,v,rs,rh,rv,q⟩=>q ρ H _ (Le.refl _ _) rh (rs.set i rv)
abbrev Mgs:=List PV->Mst
inductive tGs (X:Cx) (g:Mgs) (v':List V) (σ:L2.St) (H:Hp) (Q:L2.St->Hp->Prop):Prop
 | mk (ρ:List Addr) (σp:PSt) (h:MH) (v:List PV) (rs:RS X.K ρ H σp σ) (rh:RH X.K X.mg ρ H h) (rv:RPs X.K ρ H v v') (q:nc X ρ H (g v σp h) Q):tGs X g v' σ H Q
def MGs(X:Cx)(tg:List Expr)(g:Mgs):Prop:=PGs X tg (tGs X g)
def PGs.imp(h:PGs X e t)(i:∀v σ H Q,t' v σ H Q->t v σ H Q):PGs X e t':=fun G6 s σ H v u Q I r q=>h G6 s σ H v u Q I r (i v σ H Q q)
def gNl:Mgs:=fun vs σ h=>match vs with
 | []=>.nx σ h
 | _=>.bad
def gCn(a:Mg)(r:Mgs):Mgs:=fun vs σ h=>match vs with
 | v::vr=>(a v σ h).then (r vr)
 | []=>.bad
def pA:MGs X [] gNl:=PGs.imp pgs_nil fun v' σ H Q ⟨ρ,σp,h,v,rs,rh,rv,q⟩=>by
 cases rv with
 | nil=>exact⟨rfl,q ρ H σ (Le.refl _ _) rh rs⟩
 | cons _ _=>exact q.elim
def fY(h1:MG X e a)(h2:MGs X es r)
  (hs:(assignEach (e::es) X.env).map (·.2)=assign e X.env::(assignEach es X.env).map (·.2):=by rfl):MGs X (e::es) (gCn a r) :=
 PGs.imp (zm h1 h2 hs) fun v' σ H Q ⟨ρ,σp,h,v,rs,rh,rv,q⟩=>by
  cases rv with
  | nil=>exact q.elim
  | @cons x y xs ys rx rr =>
   refine⟨_,_,rfl,ρ,σp,h,x,rs,rh,rx,?_⟩;dsimp only[gCn] at q
   cases e:a x σp h with
   | nx σ1 h1=>rw[e] at q;exact fun ρ' H' σ' l r1 s1=>⟨ρ',σ1,h1,xs,s1,r1,rr.le l,nc.le l q⟩
   | exc x1 σ1 h1=>rw[e] at q;exact q
   | _=>rw[e] at q;exact q
def gTp(r:Mgs)(n:Nat):Mg:=fun v σ h=>match v with
 | .tup xs=>if xs.length=n then r xs σ h else .bad
 | _=>.bad
def sC(g:Good X N W G k){es:List Expr}{j:Nat}{r:Mgs}{n:Nat}{pos:Pos}(h:MGs X es r)(hn:(assignEach es X.env).length=n:=by rfl)(hst:(assignEach es X.env).findIdx? (·.1)=none:=by rfl) :
  MG X (.Tuple es j pos) (gTp r n) :=
 PG.imp (pg_tup g.calm h hn hst) fun v' σ H Q ⟨ρ,σp,h,v,rs,rh,rv,q⟩=>by
  cases rv with
  | tup s rr =>
   dsimp only[gTp] at q
   split at q
   ·rename_i hl
    exact⟨_,_,rfl,s,by rw[<-rr.length];exact hl,ρ,σp,h,_,rs,rh,rr,q⟩
   ·exact q.elim
  | _=>exact q.elim
def o7(m:Mx PV)(g:Mg):Mst:=mEx m fun v σ h=>match g v σ h with
 | .nx σ2 h2=>.nx σ2 h2
 | .exc x σ2 h2=>.exc x σ2 h2
 | _=>.bad
def sY{tg e:Expr}{m:Mx PV}{g:Mg}{pos:Pos}(he:ME X e m)(hg:MG X tg g)(hs:swapsWithSole [tg] e pos.line X.env=pure false:=by rfl)(hw:swappedStores [tg] e X.env=pure none:=by rfl)
  (h1:(assignEach [tg] X.env).map (·.2)=[assign tg X.env]:=by rfl):MS X (.Assign [tg] e pos) (o7 m g) :=
 PS.imp (ps_asg he hg hs hw h1) fun D σ H ⟨ρ,σp,h,rs,rh,q⟩=>⟨ρ,σp,h,rs,rh,bB.ex q fun ρ1 H1 v v' h1 l r z w=>⟨ρ1,σp,h1,v,rs.le l,r,z,by
  cases e:g v σp h1 with
  | nx σ2 h2=>rw[e] at w;exact w
  | exc x σ2 h2=>rw[e] at w;exact w
  | _=>rw[e] at w;exact w⟩⟩
def sk(i j:Nat)(m:Mx (List PV)):Mst:=mEx m fun vs σ h=>match vs with
 | [v,w]=>.nx ((σ.set i (some v)).set j (some w)) h
 | _=>.bad
def xJ(g:Good X N W G k)(i j:Nat)(hi:N[i]?=some x)(hj:N[j]?=some y)(hij:i≠j)(ha:MA X [a,b] m)
  (hx:X.env.scope.names.lookup x=some .local) (hy:X.env.scope.names.lookup y=some .local)
  (hw:swappedStores [.Tuple [.Name x px,.Name y py] kt pt] (.Tuple [a,b] k2 pt2) X.env=pure (some [x,y]))
  (hs:swapsWithSole [.Tuple [.Name x px,.Name y py] kt pt] (.Tuple [a,b] k2 pt2) pos.line X.env=pure false:=by rfl) :
  MS X (.Assign [.Tuple [.Name x px,.Name y py] kt pt] (.Tuple [a,b] k2 pt2) pos) (sk i j m) :=
 PS.imp (ps_par g.calm (by rw[g.hN];exact g.nd) (g.x hi) (g.x hj) hij hx hy ha hw hs) fun D σ H ⟨ρ,σp,h,rs,rh,q⟩=>⟨ρ,σp,h,rs,rh,bB.ex q fun ρ1 H1 v v' h1 l r z w=>by
  cases z with
  | nil=>exact w.elim
  | cons z1 z =>
   cases z with
   | nil=>exact w.elim
   | cons z2 z =>
    cases z with
    | nil=>exact⟨_,_,rfl,w ρ1 H1 _ (Le.refl _ _) r (((rs.le l).set i z1).set j z2)⟩
    | cons _ _=>exact w.elim⟩
def tD(o i v:PV)(h:MH):Option MH:=match o,i with
 | .loc n,.int j=>(match h[n]? with
  | some (.lst xs)=>(ixN xs.length j).map fun p=>h.set n (.lst (xs.set p v))
  | _=>none)
 | _,_=>none
def gSb(mo mi:Mx PV):Mg:=fun v=>mEx mo fun o=>mEx mi fun i σ h=>match tD o i v h with
 | some h2=>.nx σ h2
 | none=>.bad
def w5(ho:ME X o mo)(hi:ME X i mi)
  (ha:∀v,assign (.Subscript o i pos) X.env v=(do
   let ov <-holding [v] (eval o X.env)
   let iv <-holding [v,ov] (eval i X.env)
   standAt pos
   holding [v,ov,iv] (setItem ov iv v)
   release [v,ov,iv] []):=by intro _;rfl):MG X (.Subscript o i pos) (gSb mo mi) :=
 PG.imp (pg_sub ho hi zw ha) fun v' σ H Q ⟨ρ,σp,h,v,rs,rh,rv,q⟩=>by
  refine⟨ρ,σp,h,rs,rh,?_⟩;unfold gSb mEx at q
  cases e:mo σp h with
  | exc x h1=>rw[e] at q;exact q
  | bad=>rw[e] at q;exact q
  | ok ov h1 =>
   rw[e] at q;intro ρ1 H1 o' l1 rh1 ro;refine⟨ρ1,σp,h1,rs.le l1,rh1,?_⟩;dsimp only at q
   cases e2:mi σp h1 with
   | exc x h2=>rw[e2] at q;exact XP.le (X:=X) (σp:=σp) (x:=x) (h:=h2) l1 q
   | bad=>rw[e2] at q;exact q
   | ok iv h2 =>
    rw[e2] at q;intro ρ2 H2 i' l2 rh2 ri;dsimp only at q;have ro2:=ro.le l2;have rv2:=(rv.le l1).le l2;unfold tD at q
    cases ro2 with
    | @loc n a en =>
     cases ri with
     | int j =>
      dsimp only at q;obtain⟨ob,eo,rob⟩:=rh2.obj en;rw[eo] at q
      cases ob with
      | dic kvs=>exact q.elim
      | exc x=>exact q.elim
      | lst xs =>
       obtain⟨ys,ey,ry⟩:=rob;dsimp only at q
       cases ep:ixN xs.length j with
       | none=>rw[ep] at q;exact q.elim
       | some p =>
        rw[ep] at q;refine⟨a,ys,j,p,rfl,rfl,ey,by rw[<-ry.length];exact ep,?_⟩;obtain⟨r3,l3⟩:=rh2.put en (o:=.lst (xs.set p v)) (ho:=.lst (ys.set p v')) ⟨_,rfl,RPs.set rv2 p ry⟩;exact q ρ2 _ σ (l1.trans (l2.trans l3)) r3 (rs.le (l1.trans (l2.trans l3)))
     | _=>exact q.elim
    | _=>exact q.elim
structure MIt where
 xs:List PV
 gd:List (Nat × List PV):=[]
def MIt.ok(it:MIt)(h:MH):Prop:=∀p∈it.gd,h[p.1]?=some (.lst p.2)
def sZ(X:Cx):Rl MIt It:=fun ρ0 H0 it J=>∀ρ H h (i:Nat),Le ρ0 H0 ρ H->RH X.K X.mg ρ H h->it.ok h ->
 (i<it.xs.length->J.go i H/\∀x' H',J.yld i H x' H'->∃ρ' x,Le ρ H ρ' H'/\RH X.K X.mg ρ' H' h/\it.xs[i]?=some x/\RP X.K ρ' H' x x')/\(it.xs.length<=i->J.stop i H)
def MI(X:Cx)(tg iter:Expr)(m:Mx MIt):Prop:=PI X tg iter (tM X (sZ X) m)
def PI.imp(h:PI X tg e t)(i:∀σ H Q,t' σ H Q->t σ H Q):PI X tg e t':=fun G6 s σ H Q I q=>h G6 s σ H Q I (i σ H Q q)
def mGo(it:MIt)(g:Mg)(b:Mst):List PV->Mst
 | []=>fun σ h=>if it.ok h then .nx σ h else .bad
 | x::r=>fun σ h=>if it.ok h then (match g x σ h with
   | .nx σ1 h1=>(match b σ1 h1 with
    | .nx σ2 h2=>mGo it g b r σ2 h2
    | .ct σ2 h2=>mGo it g b r σ2 h2
    | .bk σ2 h2=>.nx σ2 h2
    | .rt v h2=>.rt v h2
    | .exc e σ2 h2=>.exc e σ2 h2
    | .rse e σ2 h2=>.rse e σ2 h2
    | .bad=>.bad)
   | .exc e σ1 h1=>.exc e σ1 h1
   | _=>.bad) else .bad
def fU(mi:Mx MIt)(g:Mg)(b:Mst):Mst:=mEx mi fun it=>mGo it g b it.xs
def eV(gd:Good X N W G k)(hi:MI X tg iter mi)(hg:MG X tg g)(hb:MSs X body mb)
  (hs:∀x,foldedSetIterable iter X.env x=pure x:=by intro _;rfl):MS X (.For tg iter body [] pos) (fU mi g mb):=by
 refine PS.imp (ps_for gd.po gd.calm hi hg hb hs) fun D σ H ⟨ρ,σp,h,rs,rh,q⟩=>⟨ρ,σp,h,rs,rh,bB.ex q fun ρ1 H1 it J h1 l1 rh1 jr w=>?_⟩;refine⟨fun i m σ H=>m=it.xs.length - i/\i<=it.xs.length/\∃ρ σp h,Le ρ1 H1 ρ H/\RS X.K ρ H σp σ/\RH X.K X.mg ρ H h/\bB X ρ H (mGo it g mb (it.xs.drop i) σp h) D,⟨_,rfl,qaP _,ρ1,σp,h1,Le.refl _ _,rs.le l1,rh1,w⟩,?_⟩;rintro i m σ2 H2 ⟨rfl,hi,ρ2,σp2,h2,l2,rs2,rh2,w2⟩;by_cases hlt:i<it.xs.length
 ·have ed:it.xs.drop i=it.xs[i]::it.xs.drop (i+1):=qce hlt;rw[ed] at w2;unfold mGo at w2
  split at w2
  ·rename_i hok
   obtain⟨j1,j2⟩:=jr ρ2 H2 h2 i l2 rh2 hok;obtain⟨go,yl⟩:=j1 hlt;refine .inr ⟨go,fun σ3 H3=>∃ρ3 σp3 h3,Le ρ1 H1 ρ3 H3/\RS X.K ρ3 H3 σp3 σ3/\RH X.K X.mg ρ3 H3 h3/\bB X ρ3 H3 (mGo it g mb (it.xs.drop (i+1)) σp3 h3) D,fun σ3 H3 z=>⟨_,by ext,rfl,hlt,z⟩,fun x' H' y=>?_⟩;obtain⟨ρ',x,l',rh',ex,rx⟩:=yl x' H' y;have ex':x=it.xs[i]:=by rw[qaJ hlt] at ex;exact (Option.some.inj ex).symm
   subst ex';refine⟨ρ',σp2,h2,_,rs2.le l',rh',rx,?_⟩;have w2':=bB.le l' w2
   cases eg:g it.xs[i] σp2 h2 with
   | nx σ4 h4 =>
    rw[eg] at w2';intro ρ5 H5 σ5 l5 r5 s5;refine⟨ρ5,σ4,h4,s5,r5,?_⟩;have w3:=bB.le l5 w2';have l6:Le ρ1 H1 ρ5 H5:=l2.trans (l'.trans l5);dsimp only at w3
    cases em:mb σ4 h4 with
    | nx σ6 h6=>rw[em] at w3;exact fun ρ7 H7 σ7 l7 r7 s7=>⟨ρ7,σ6,h6,l6.trans l7,s7,r7,bB.le l7 w3⟩
    | ct σ6 h6=>rw[em] at w3;exact fun ρ7 H7 σ7 l7 r7 s7=>⟨ρ7,σ6,h6,l6.trans l7,s7,r7,bB.le l7 w3⟩
    | bk σ6 h6=>rw[em] at w3;exact w3
    | rt v h6=>rw[em] at w3;exact w3
    | exc e σ6 h6=>rw[em] at w3;exact w3
    | rse e σ6 h6=>rw[em] at w3;exact w3
    | bad=>rw[em] at w3;exact w3
   | exc e σ4 h4=>rw[eg] at w2';exact w2'
   | _=>rw[eg] at w2';exact w2'.elim
  ·exact w2.elim
 ·have e:i=it.xs.length:=by ext
  rw[e,List.drop_length] at w2;unfold mGo at w2
  split at w2
  ·rename_i hok
   obtain⟨j1,j2⟩:=jr ρ2 H2 h2 i l2 rh2 hok;exact .inl ⟨j2 (by ext),w2 ρ2 H2 σ2 (Le.refl _ _) rh2 rs2⟩
  ·exact w2.elim
def itSeq(v:PV)(h:MH):Out MIt:=match v with
 | .loc n=>(match h[n]? with
  | some (.lst xs)=>.ok ⟨xs,[(n,xs)]⟩ h
  | _=>.bad)
 | .frl xs=>.ok ⟨xs,[]⟩ h
 | _=>.bad
def mItL(m:Mx PV):Mx MIt:=fun σ h=>(m σ h).bind itSeq
def uP(hS:∀ρ' H' h,Le ρ H ρ' H'->RH X.K X.mg ρ' H' h->(⟨xs,gd⟩:MIt).ok h->∃ys,SqL X.K H' a ys/\RPs X.K ρ' H' xs ys):sZ X ρ H ⟨xs,gd⟩ (Itl X.K a):=by
 intro ρ' H' h i l rh ok;obtain⟨ys,hs,rs⟩:=hS ρ' H' h l rh ok;refine⟨fun hi=>?_,fun hi=>⟨ys,hs,by rw[<-rs.length];exact hi⟩⟩;have hx:xs[i]?=some (xs[i]'hi):=qaJ hi;obtain⟨y,ey,ry⟩:=rs.get hx;refine⟨⟨ys,y,hs,ey⟩,fun x' H2 ⟨e,z⟩=>?_⟩;subst e
 have:ys[i]?=some x':=z ys hs
 rw[ey] at this;cases this;exact⟨ρ',_,Le.refl _ _,rh,hx,ry⟩
def mi_list(hl:ME X l m):MI X tg l (mItL m) :=
 PI.imp (pi_list hl) fun σ H Q ⟨ρ,σp,h,rs,rh,q⟩=>⟨ρ,σp,h,rs,rh,Ful.bind q fun ρ1 H1 x x' h1 _ l1 rh1 rx q1=>by
  cases rx with
  | @loc n a e =>
   obtain⟨ob,eo,rob⟩:=rh1.obj e;dsimp only[itSeq] at q1;rw[eo] at q1
   cases ob with
   | dic kvs=>exact q1.elim
   | exc x=>exact q1.elim
   | lst xs =>
    obtain⟨ys,ey,ry⟩:=rob;refine⟨a,rfl,⟨ys,SqL.of ey⟩,q1 ρ1 H1 _ (Le.refl _ _) rh1 (uP fun ρ' H' h' l rh' ok=>?_)⟩;obtain⟨ys',ey',ry'⟩:=rh'.at' n a _ (l.get e) (ok (n,xs) (by simp));exact⟨ys',SqL.of ey',ry'⟩
  | frl s r =>
   exact⟨_,rfl,⟨_,s.sq⟩,q1 ρ1 H1 _ (Le.refl _ _) rh1 (uP fun ρ' H' h' l rh' ok=>⟨_,(l.sqf s).sq,r.le l⟩)⟩
  | _=>exact q1.elim⟩
def mItT(m:Mx PV):Mx MIt:=fun σ h=>(m σ h).bind fun v h1=>match v with
 | .tup xs=>.ok ⟨xs,[]⟩ h1
 | _=>.bad
def mi_tup(hl:ME X l m):MI X tg l (mItT m) :=
 PI.imp (pi_tup hl) fun σ H Q ⟨ρ,σp,h,rs,rh,q⟩=>⟨ρ,σp,h,rs,rh,Ful.bind q fun ρ1 H1 x x' h1 _ l1 rh1 rx q1=>by
  cases rx with
  | @tup xs a ys s r =>
   refine⟨_,rfl,⟨_,s⟩,q1 ρ1 H1 _ (Le.refl _ _) rh1 ?_⟩;intro ρ' H' h' i l rh' ok;have s':=l.sqt s;have r':=r.le l;refine⟨fun hi=>?_,fun hi=>⟨ys,s',by rw[<-r.length];exact hi⟩⟩;have hx:xs[i]?=some (xs[i]'hi):=qaJ hi;obtain⟨y,ey,ry⟩:=r'.get hx;refine⟨⟨ys,y,s',ey⟩,fun x' H2 ⟨e,z⟩=>?_⟩;subst e
   have:ys[i]?=some x':=z ys s'
   rw[ey] at this;cases this;exact⟨ρ',_,Le.refl _ _,rh',hx,ry⟩
  | _=>exact q1.elim⟩
def bX(lo:Int)(n:Nat):List PV:=(List.range n).map fun (i:Nat)=>PV.int (lo+(i:Int))
def jU(lo:Int)(n:Nat):(bX lo n).length=n:=by simp[bX]
def Itr_rel(lo:Int)(n:Nat):sZ X ρ H ⟨bX lo n,[]⟩ (Itr lo n):=by
 intro ρ' H' h i l rh ok;have hl:(bX lo n).length=n:=jU lo n;refine⟨fun hi=>⟨by rw[hl] at hi;exact hi,fun x' H2 ⟨e1,e2⟩=>?_⟩,fun hi=>by rw[hl] at hi;exact hi⟩;subst e1;subst e2;rw[hl] at hi;exact⟨ρ',.int (lo+i),Le.refl _ _,rh,by simp[bX,hi],.int _⟩
def d7(m:Mx (List PV)):Mx MIt:=fun σ h=>(m σ h).bind fun vs h1=>match vs with
 | [.int j]=>if -(2 ^ 62)<=j/\j<2 ^ 62 then .ok ⟨bX 0 j.toNat,[]⟩ h1 else .bad
 | _=>.bad
def yd(hg:Gl X "range")(hm:X.mg "range"=none)(ha:MA X [a] m)(hs:starEach [a] X.env=[(false,eval a X.env)]:=by rfl):MI X tg (.Call (.Name "range" p) [a] [] pos) (d7 m):=by
 refine PI.imp (x9 hg hm ha hs) fun σ H Q ⟨ρ,σp,h,rs,rh,q⟩=>⟨ρ,σp,h,rs,rh,Ful.bind q fun ρ1 H1 x x' h1 _ l1 rh1 rx q1=>?_⟩
 cases rx with
 | nil=>exact q1.elim
 | cons r1 t1 =>
  cases t1 with
  | nil =>
   cases r1 with
   | int j =>
    dsimp only at q1
    split at q1
    ·rename_i hj
     exact⟨j,rfl,hj.1,hj.2,q1 ρ1 H1 _ (Le.refl _ _) rh1 (Itr_rel 0 j.toNat)⟩
    ·exact q1.elim
   | _=>exact q1.elim
  | cons r2 t2=>cases r1 <;> exact q1.elim
def ce(c:Mx Bool)(b:Mst):Nat->Mst
 | 0=>fun _ _=>.bad
 | n+1=>mEx c fun x=>if x=true then (fun σ h=>match b σ h with
   | .nx σ2 h2=>ce c b n σ2 h2
   | .ct σ2 h2=>ce c b n σ2 h2
   | .bk σ2 h2=>.nx σ2 h2
   | .rt v h2=>.rt v h2
   | .exc e σ2 h2=>.exc e σ2 h2
   | .rse e σ2 h2=>.rse e σ2 h2
   | .bad=>.bad) else mSkip
def mWh(c:Mx Bool)(b:Mst):Mst:=fun σ h=>if z:∃n,ce c b n σ h≠.bad then ce c b (Classical.choose z) σ h else .bad
def kY:∀{n:Nat} {σ:PSt} {h:MH},ce c b n σ h≠.bad->ce c b (n+1) σ h=ce c b n σ h
 | 0,_,_,q=>absurd rfl q
 | n+1,σ,h,q=>by
  rw[ce] at q
  conv=>lhs;rw[ce]
  conv=>rhs;rw[ce]
  unfold mEx at q ⊢
  cases e:c σ h with
  | exc x h1=>rfl
  | bad=>rfl
  | ok x h1 =>
   rw[e] at q;dsimp only at q ⊢
   cases x with
   | false=>rfl
   | true =>
    simp only[if_true] at q ⊢
    cases em:b σ h1 with
    | nx σ2 h2=>rw[em] at q;exact kY q
    | ct σ2 h2=>rw[em] at q;exact kY q
    | _=>rfl
def vq(q:ce c b n σ h≠.bad)(l:n<=m):ce c b m σ h=ce c b n σ h:=by
 induction l with
 | refl=>rfl
 | step l ih=>rw[kY (by rw[ih];exact q),ih]
def om(q:ce c b n σ h≠.bad):mWh c b σ h=ce c b n σ h:=by
 have z:∃n,ce c b n σ h≠.bad:=⟨n,q⟩;unfold mWh;rw[dif_pos z];have q2:=Classical.choose_spec z;rcases Nat.le_total n (Classical.choose z) with l|l
 ·exact vq q l
 ·exact (vq q2 l).symm
def rB(gd:Good X N W G k)(hc:MT X c mc)(hb:MSs X body mb):MS X (.While c body [] pos) (mWh mc mb):=by
 refine PS.imp (yh gd.po hc hb) fun D σ H ⟨ρ,σp,h,rs,rh,q⟩=>?_;refine⟨fun m σ H=>∃ρ σp h,RS X.K ρ H σp σ/\RH X.K X.mg ρ H h/\bB X ρ H (ce mc mb m σp h) D,?_,?_⟩
 ·unfold mWh at q
  split at q
  ·exact⟨_,ρ,σp,h,rs,rh,q⟩
  ·exact q.elim
 ·rintro m σ1 H1 ⟨ρ1,σp1,h1,rs1,rh1,q1⟩
  cases m with
  | zero=>exact q1.elim
  | succ m =>
   rw[ce] at q1;refine⟨ρ1,σp1,h1,rs1,rh1,bB.ex q1 fun ρ2 H2 v v' h2 l2 r2 z w=>?_⟩;cases z
   cases v with
   | false=>rw[qao qaN] at w ⊢;exact w ρ2 H2 σ1 (Le.refl _ _) r2 (rs1.le l2)
   | true =>
    rw[qae rfl] at w ⊢;refine⟨fun σ H=>∃ρ σp h,RS X.K ρ H σp σ/\RH X.K X.mg ρ H h/\bB X ρ H (ce mc mb m σp h) D,fun σ' H' z=>⟨m,Nat.lt_succ_self _,z⟩,ρ2,σp1,h2,rs1.le l2,r2,?_⟩
    cases em:mb σp1 h2 with
    | nx σ6 h6=>rw[em] at w;exact fun ρ7 H7 σ7 l7 r7 s7=>⟨ρ7,σ6,h6,s7,r7,bB.le l7 w⟩
    | ct σ6 h6=>rw[em] at w;exact fun ρ7 H7 σ7 l7 r7 s7=>⟨ρ7,σ6,h6,s7,r7,bB.le l7 w⟩
    | bk σ6 h6=>rw[em] at w;exact w
    | rt v h6=>rw[em] at w;exact w
    | exc e σ6 h6=>rw[em] at w;exact w
    | rse e σ6 h6=>rw[em] at w;exact w
    | bad=>rw[em] at w;exact w
def dJ(f:PV->Option PyData):List PV->Option (List PyData)
 | []=>some []
 | x::r=>match f x,dJ f r with
  | some d,some ds=>some (d::ds)
  | _,_=>none
def rd:Nat->MH->PV->Option PyData
 | 0,_,v=>(match v with
  | .non=>some .none
  | .bl b=>some (.bool b)
  | .int i=>some (.int i)
  | .str x=>some (.str x)
  | _=>none)
 | n+1,h,v=>(match v with
  | .non=>some .none
  | .bl b=>some (.bool b)
  | .int i=>some (.int i)
  | .str x=>some (.str x)
  | .tup xs=>(dJ (rd n h) xs).map PyData.tuple
  | .frl xs=>(dJ (rd n h) xs).map PyData.list
  | .loc m=>(match h[m]? with
   | some (.lst xs)=>(dJ (rd n h) xs).map PyData.list
   | _=>none))
def je{hp:Heap}{f:PV->Option PyData}{K:qab}{ρ:List Addr}{H:Hp}(hf:∀v v' u d,RP K ρ H v v'->aR v' u->f v=some d->∃as,Reads hp u d as) :
  ∀{xs:List PV} {ys:List V} {us:List Value} {ds:List PyData},RPs K ρ H xs ys->aF ys us->dJ f xs=some ds->∃as,ReadsAll hp us ds as:=by
 intro xs
 induction xs with
 | nil =>
  intro ys us ds r v e;cases r;cases v;cases e;exact⟨_,.nil⟩
 | cons x xs ih =>
  intro ys us ds r v e;cases r with|cons r t=>cases v with|cons v w =>
  simp only[dJ] at e
  split at e
  ·rename_i d ds' e1 e2
   cases e;obtain⟨a1,q1⟩:=hf _ _ _ _ r v e1;obtain⟨a2,q2⟩:=ih t w e2;exact⟨_,.cons q1 q2⟩
  ·cases e
def jR{G6:List (Addr × Obj)}{σ:L2.St}{H:Hp}{s:Shared}{ρ:List Addr}{h:MH}(I:Inv X G6 σ H s)(rh:RH X.K X.mg ρ H h) :
  ∀(n:Nat) (v:PV) (v':V) (u:Value) (d:PyData),RP X.K ρ H v v'->aR v' u->rd n h v=some d->∃as,Reads s.heap u d as:=by
 intro n
 induction n with
 | zero =>
  intro v v' u d rp r e
  cases rp with
  | non=>cases e;cases r;exact⟨_,.none⟩
  | bl b=>cases e;cases r;exact⟨_,.bool b⟩
  | int i=>cases e;obtain⟨t,rfl⟩:=r;exact⟨_,.int i t⟩
  | str i=>cases e;obtain⟨t,rfl⟩:=r;exact⟨_,.str i t⟩
  | _=>cases e
 | succ n ih =>
  intro v v' u d rp r e
  cases rp with
  | non=>cases e;cases r;exact⟨_,.none⟩
  | bl b=>cases e;cases r;exact⟨_,.bool b⟩
  | int i=>cases e;obtain⟨t,rfl⟩:=r;exact⟨_,.int i t⟩
  | str i=>cases e;obtain⟨t,rfl⟩:=r;exact⟨_,.str i t⟩
  | @tup xs a ys s rr =>
   cases r;simp only[rd] at e
   cases q:dJ (rd n h) xs with
   | none=>rw[q] at e;cases e
   | some ds =>
    rw[q] at e;cases e;obtain⟨its,rv,⟨o,e1,e2,m,e3⟩,_⟩:=I.tuple s;obtain⟨as,ra⟩:=je (ih) rr rv q;exact⟨_,.tuple e1 e2 e3 (by simpa using ra)⟩
  | @frl xs a ys s rr =>
   cases r;simp only[rd] at e
   cases q:dJ (rd n h) xs with
   | none=>rw[q] at e;cases e
   | some ds =>
    rw[q] at e;cases e;obtain⟨its,rv,⟨o,m,e1,e2,_,e3⟩,_⟩:=I.list s.sq;obtain⟨as,ra⟩:=je (ih) rr rv q;exact⟨_,.list e1 e2 e3 (by simpa using ra)⟩
  | loc en =>
   cases r;simp only[rd] at e;obtain⟨ob,eo,rob⟩:=rh.obj en;rw[eo] at e
   cases ob with
   | dic kvs=>cases e
   | exc x=>cases e
   | lst xs =>
    obtain⟨ys,ey,ry⟩:=rob;dsimp only at e
    cases q:dJ (rd n h) xs with
    | none=>rw[q] at e;cases e
    | some ds =>
     rw[q] at e;cases e;obtain⟨its,rv,⟨o,m',e1,e2,_,e3⟩,_⟩:=I.list (SqL.of (K:=X.K) ey);obtain⟨as,ra⟩:=je (ih) ry rv q;exact⟨_,.list e1 e2 e3 (by simpa using ra)⟩
def opEq(x y:PV)(h:MH):Out PV:=match rd 60 h x,rd 60 h y with
 | some a,some b=>if SeqAt.shaped a=true/\SeqAt.shaped b=true then .ok (.bl (PyData.eqv a b)) h else .bad
 | _,_=>.bad
def opNe(x y:PV)(h:MH):Out PV:=match rd 60 h x,rd 60 h y with
 | some a,some b=>if SeqAt.shaped a=true/\SeqAt.shaped b=true then .ok (.bl (!PyData.eqv a b)) h else .bad
 | _,_=>.bad
def gj(hr:Room k X.A):OpJ X (compareOp .Eq) opEq:=by
 intro G6 s σ H x' y' u v Q I rx' ry' ⟨ρ,h,x,y,rh,rx,ry,q⟩;unfold opEq at q
 split at q
 ·rename_i a b ea eb
  split at q
  ·rename_i hs
   obtain⟨_,ra⟩:=jR I rh 60 x x' u a rx rx' ea;obtain⟨_,rb⟩:=jR I rh 60 y y' v b ry ry' eb;exact eq_dataH ra rb hs.1 hs.2 hr.units ⟨.bl _,H,I,rfl,q ρ H _ (Le.refl _ _) rh (.bl _)⟩
  ·exact q.elim
 ·exact q.elim
def cY(hr:Room k X.A):OpJ X (compareOp .NotEq) opNe:=by
 intro G6 s σ H x' y' u v Q I rx' ry' ⟨ρ,h,x,y,rh,rx,ry,q⟩;unfold opNe at q
 split at q
 ·rename_i a b ea eb
  split at q
  ·rename_i hs
   obtain⟨_,ra⟩:=jR I rh 60 x x' u a rx rx' ea;obtain⟨_,rb⟩:=jR I rh 60 y y' v b ry ry' eb;exact ne_dataH ra rb hs.1 hs.2 hr.units ⟨.bl _,H,I,rfl,q ρ H _ (Le.refl _ _) rh (.bl _)⟩
  ·exact q.elim
 ·exact q.elim
def mV(f:Int->Int->PV):PV->PV->MH->Out PV:=fun x y h=>match x,y with
 | .int i,.int j=>.ok (f i j) h
 | _,_=>.bad
def nM(ho:OpR X F (rI0 f))(hfg:∀ρ H i j,RP X.K ρ H (g i j) (f i j)):OpJ X F (mV g):=by
 intro G6 s σ H x' y' u v Q I rx' ry' ⟨ρ,h,x,y,rh,rx,ry,q⟩;unfold mV at q
 split at q
 ·cases rx;cases ry;exact ho G6 s σ H _ _ u v Q I rx' ry' ⟨_,_,rfl,rfl,q ρ H _ (Le.refl _ _) rh (hfg ρ H _ _)⟩
 ·exact q.elim
def opLt:=mV fun i j=>.bl (decide (i<j))
def opLe:=mV fun i j=>.bl (decide (i<=j))
def opGt:=mV fun i j=>.bl (decide (j<i))
def opGe:=mV fun i j=>.bl (decide (j<=i))
def we:OpJ X (compareOp .Lt) opLt:=nM op_lt fun _ _ _ _=>.bl _
def wO:OpJ X (compareOp .LtE) opLe:=nM op_le fun _ _ _ _=>.bl _
def oj_gt:OpJ X (compareOp .Gt) opGt:=nM op_gt fun _ _ _ _=>.bl _
def oj_ge:OpJ X (compareOp .GtE) opGe:=nM op_ge fun _ _ _ _=>.bl _
def fw(neg:Bool):PV->PV->MH->Out PV:=fun x y h=>match y with
 | .non=>(match x with
  | .non=>.ok (.bl (!neg)) h
  | _=>.ok (.bl neg) h)
 | .bl b=>(match x with
  | .bl c=>.ok (.bl (if neg then !(c == b) else c == b)) h
  | .non=>.ok (.bl neg) h
  | .int _=>.ok (.bl neg) h
  | .str _=>.ok (.bl neg) h
  | .tup _=>.ok (.bl neg) h
  | _=>.bad)
 | _=>.bad
def opMul(x y:PV)(h:MH):Out PV:=match x,y with
 | .int i,.int j=>if IntMulOk i j then .ok (.int (i * j)) h else .bad
 | .loc n,.int j=>(match h[n]? with
  | some (.lst xs)=>if -(2 ^ 63)<=j/\j<2 ^ 63 then newL (List.flatten (List.replicate j.toNat xs)) h else .bad
  | _=>.bad)
 | _,_=>.bad
def opFd(x y:PV)(h:MH):Out PV:=match x,y with
 | .int i,.int j=>if j≠0/\Builtin.divisionGoesByPylong i j=false then .ok (.int (i.fdiv j)) h else .bad
 | _,_=>.bad
def opMod(x y:PV)(h:MH):Out PV:=match x,y with
 | .int i,.int j=>if j≠0 then .ok (.int (i.fmod j)) h else .bad
 | _,_=>.bad
def opPow(x y:PV)(h:MH):Out PV:=match x,y with
 | .int i,.int j=>if fP i j then .ok (.int (i ^ j.toNat)) h else .bad
 | _,_=>.bad
def opAdd(x y:PV)(h:MH):Out PV:=match x,y with
 | .int i,.int j=>.ok (.int (i+j)) h
 | .str a,.str b=>if a.length+b.length<=sizeLine then .ok (.str (a++b)) h else .bad
 | .loc n,.loc m=>(match h[n]?,h[m]? with
  | some (.lst xs),some (.lst ys)=>newL (xs++ys) h
  | _,_=>.bad)
 | .tup xs,.tup ys=>if xs≠[] then newT (xs++ys) h else .bad
 | _,_=>.bad
def opSub:=mV fun i j=>.int (i - j)
def opNeg(x:PV)(h:MH):Out PV:=match x with
 | .int i=>.ok (.int (-i)) h
 | _=>.bad
def eZ:OpJ X (binaryOp .Sub) opSub:=nM op_sub fun _ _ _ _=>.int _
def iu:UnJ X (unaryOp .USub) opNeg:=by
 intro G6 s σ H x' u Q I rx' ⟨ρ,h,x,rh,rx,q⟩
 cases rx with
 | int i=>exact un_neg G6 s σ H _ u Q I rx' ⟨i,rfl,q ρ H _ (Le.refl _ _) rh (.int _)⟩
 | _=>exact q.elim
def qV:OpJ X (binaryOp .FloorDiv) opFd:=by
 intro G6 s σ H x' y' u v Q I rx' ry' ⟨ρ,h,x,y,rh,rx,ry,q⟩;unfold opFd at q
 split at q
 ·rename_i i j
  cases rx;cases ry
  split at q
  ·rename_i hc
   obtain⟨t,rfl⟩:=rx';obtain⟨t',rfl⟩:=ry';exact floordiv_int hc.1 ⟨.int _,H,I.tok _,⟨_,rfl⟩,q ρ H _ (Le.refl _ _) rh (.int _)⟩ (.inl hc.2)
  ·exact q.elim
 ·exact q.elim
def dj:OpJ X (binaryOp .Mod) opMod:=by
 intro G6 s σ H x' y' u v Q I rx' ry' ⟨ρ,h,x,y,rh,rx,ry,q⟩;unfold opMod at q
 split at q
 ·rename_i i j
  cases rx;cases ry
  split at q
  ·rename_i hc
   obtain⟨t,rfl⟩:=rx';obtain⟨t',rfl⟩:=ry';exact mod_int' hc ⟨.int _,H,I.tok _,⟨_,rfl⟩,q ρ H _ (Le.refl _ _) rh (.int _)⟩
  ·exact q.elim
 ·exact q.elim
def eW:OpJ X (binaryOp .Pow) opPow:=by
 intro G6 s σ H x' y' u v Q I rx' ry' ⟨ρ,h,x,y,rh,rx,ry,q⟩;unfold opPow at q
 split at q
 ·rename_i i j
  cases rx;cases ry
  split at q
  ·rename_i hc
   exact op_pow G6 s σ H _ _ u v Q I rx' ry' ⟨i,j,rfl,rfl,hc,q ρ H _ (Le.refl _ _) rh (.int _)⟩
  ·exact q.elim
 ·exact q.elim
def aJ:OpJ X (binaryOp .Add) opAdd:=by
 intro G6 s σ H x' y' u v Q I rx' ry' ⟨ρ,h,x,y,rh,rx,ry,q⟩
 cases rx with
 | int i =>
  cases ry with
  | int j=>exact op_add G6 s σ H _ _ u v Q I rx' ry' ⟨i,j,rfl,rfl,q ρ H _ (Le.refl _ _) rh (.int _)⟩
  | _=>exact q.elim
 | str a =>
  cases ry with
  | str b =>
   dsimp only[opAdd] at q
   split at q
   ·rename_i hl
    exact wf G6 s σ H _ _ u v Q I rx' ry' ⟨a,b,rfl,rfl,hl,q ρ H _ (Le.refl _ _) rh (.str _)⟩
   ·exact q.elim
  | _=>exact q.elim
 | @loc n a e =>
  cases ry with
  | @loc m b e2 =>
   dsimp only[opAdd] at q;obtain⟨o1,h1,r1⟩:=rh.obj e;obtain⟨o2,h2,r2⟩:=rh.obj e2;rw[h1,h2] at q
   cases o1 with
   | dic kvs=>exact q.elim
   | exc x=>exact q.elim
   | lst xs =>
    cases o2 with
    | dic kvs=>exact q.elim
    | exc x=>exact q.elim
    | lst ys =>
     obtain⟨xs',ex,rx1⟩:=r1;obtain⟨ys',ey,ry1⟩:=r2;obtain⟨z1,z2⟩:=lV rh (rx1.append ry1) q;exact op_cat G6 s σ H _ _ u v Q I rx' ry' ⟨a,b,xs',ys',rfl,rfl,ex,ey,by rw[<-qba];exact z1,z2⟩
  | _=>exact q.elim
 | tup s1 r1 =>
  cases ry with
  | tup s2 r2 =>
   dsimp only[opAdd] at q
   split at q
   ·rename_i hne
    obtain⟨z1,z2⟩:=uE rh (r1.append r2) q;refine op_catT G6 s σ H _ _ u v Q I rx' ry' ⟨_,_,_,_,rfl,rfl,s1,s2,?_,by rw[<-qba];exact z1,fun z=>?_,fun _=>z2⟩
    ·rintro rfl;cases r1;exact hne rfl
    ·subst z;cases r2;unfold newT at q
     split at q
     ·exact q ρ H _ (Le.refl _ _) rh (by rw[qbo];exact .tup s1 r1)
     ·exact q.elim
   ·exact q.elim
  | _=>exact q.elim
 | _=>cases ry <;> exact q.elim
def RPs.rep{K:qab}{ρ:List Addr}{H:Hp}{xs:List PV}{ys:List V}(r:RPs K ρ H xs ys):∀n:Nat,RPs K ρ H (List.replicate n xs).flatten (List.replicate n ys).flatten
 | 0=>.nil
 | n+1=>by rw[qaO,qaO,qbg,qbg];exact r.append (RPs.rep r n)
def gB:OpJ X (binaryOp .Mult) opMul:=by
 intro G6 s σ H x' y' u v Q I rx' ry' ⟨ρ,h,x,y,rh,rx,ry,q⟩
 cases rx with
 | int i =>
  cases ry with
  | int j =>
   dsimp only[opMul] at q
   split at q
   ·rename_i hc
    obtain⟨t,rfl⟩:=rx';obtain⟨t',rfl⟩:=ry';exact PyProof.Rows.mul_int ⟨.int _,H,I.tok _,⟨_,rfl⟩,q ρ H _ (Le.refl _ _) rh (.int _)⟩ hc
   ·exact q.elim
  | _=>exact q.elim
 | @loc n a e =>
  cases ry with
  | int j =>
   dsimp only[opMul] at q;obtain⟨o1,h1,r1⟩:=rh.obj e;rw[h1] at q
   cases o1 with
   | dic kvs=>exact q.elim
   | exc x=>exact q.elim
   | lst xs =>
    dsimp only at q
    split at q
    ·rename_i hj
     obtain⟨xs',ex,rx1⟩:=r1;obtain⟨z1,z2⟩:=lV rh (rx1.rep j.toNat) q;refine op_rep G6 s σ H _ _ u v Q I rx' ry' ⟨a,j,xs',rfl,rfl,ex,hj.1,hj.2,?_,z2⟩;rw[lU] at z1;rw[qcx];exact z1
    ·exact q.elim
  | _=>exact q.elim
 | _=>cases ry <;> exact q.elim
def oJ{G6:List (Addr × Obj)}{σ:L2.St}{H:Hp}{s:Shared}{Q:VK}{x':V}{u:Value}{b c:Bool}(I:Inv X G6 σ H s)(r:aR x' u)(hp:plainIs u (.bool b)=true)(hc:(u == .bool b)=c)(q:Q (.bl c) H) :
  wpAny (model X.prog X.w) X.A (compareOp .Is u (.bool b)) (EP X G6 σ Q) X.xe s:=by
 show wpAny _ _ (do return Value.bool (<-isSame u (.bool b))) _ _ _;exact qaa (wpAny_isSame_plain hp (qan (by rw[hc];exact⟨.bl c,H,I,rfl,q⟩)))
def lA{G6:List (Addr × Obj)}{σ:L2.St}{H:Hp}{s:Shared}{Q:VK}{x':V}{u:Value}{b c:Bool}(I:Inv X G6 σ H s)(r:aR x' u)(hp:plainIs u (.bool b)=true)(hc:(!(u == .bool b))=c)(q:Q (.bl c) H) :
  wpAny (model X.prog X.w) X.A (compareOp .IsNot u (.bool b)) (EP X G6 σ Q) X.xe s:=by
 show wpAny _ _ (do return Value.bool (!(<-isSame u (.bool b)))) _ _ _;exact qaa (wpAny_isSame_plain hp (qan (by rw[hc];exact⟨.bl c,H,I,rfl,q⟩)))
def qU:OpJ X (compareOp .Is) (fw false):=by
 intro G6 s σ H x' y' u v Q I rx' ry' ⟨ρ,h,x,y,rh,rx,ry,q⟩
 cases ry with
 | non =>
  refine op_isN G6 s σ H _ _ u v Q I rx' ry' ⟨rfl,?_⟩;cases rx <;> exact q ρ H _ (Le.refl _ _) rh (by first | exact .bl true | exact .bl false)
 | bl b =>
  cases ry'
  cases rx with
  | non=>cases rx';exact oJ (x':=.non) (c:=false) I rfl (by cases b <;> rfl) (by cases b <;> rfl) (q ρ H _ (Le.refl _ _) rh (.bl false))
  | bl c=>cases rx';exact oJ (x':=.bl c) (c:=c == b) I rfl (by cases b <;> cases c <;> rfl) (by cases b <;> cases c <;> rfl) (q ρ H _ (Le.refl _ _) rh (.bl _))
  | int i=>obtain⟨t,rfl⟩:=rx';exact oJ (x':=.int i) (c:=false) I ⟨_,rfl⟩ (by cases b <;> rfl) (by cases b <;> rfl) (q ρ H _ (Le.refl _ _) rh (.bl false))
  | str i=>obtain⟨t,rfl⟩:=rx';exact oJ (x':=.str i) (c:=false) I ⟨_,rfl⟩ (by cases b <;> rfl) (by cases b <;> rfl) (q ρ H _ (Le.refl _ _) rh (.bl false))
  | tup s1 r1=>cases rx';exact oJ (x':=.ref _) (c:=false) I rfl (by cases b <;> rfl) (by cases b <;> rfl) (q ρ H _ (Le.refl _ _) rh (.bl false))
  | _=>exact q.elim
 | _=>exact q.elim
def xF:OpJ X (compareOp .IsNot) (fw true):=by
 intro G6 s σ H x' y' u v Q I rx' ry' ⟨ρ,h,x,y,rh,rx,ry,q⟩
 cases ry with
 | non =>
  refine op_notN G6 s σ H _ _ u v Q I rx' ry' ⟨rfl,?_⟩;cases rx <;> exact q ρ H _ (Le.refl _ _) rh (by first | exact .bl true | exact .bl false)
 | bl b =>
  cases ry'
  cases rx with
  | non=>cases rx';exact lA (x':=.non) (c:=true) I rfl (by cases b <;> rfl) (by cases b <;> rfl) (q ρ H _ (Le.refl _ _) rh (.bl true))
  | bl c=>cases rx';exact lA (x':=.bl c) (c:=!(c == b)) I rfl (by cases b <;> cases c <;> rfl) (by cases b <;> cases c <;> rfl) (q ρ H _ (Le.refl _ _) rh (.bl _))
  | int i=>obtain⟨t,rfl⟩:=rx';exact lA (x':=.int i) (c:=true) I ⟨_,rfl⟩ (by cases b <;> rfl) (by cases b <;> rfl) (q ρ H _ (Le.refl _ _) rh (.bl true))
  | str i=>obtain⟨t,rfl⟩:=rx';exact lA (x':=.str i) (c:=true) I ⟨_,rfl⟩ (by cases b <;> rfl) (by cases b <;> rfl) (q ρ H _ (Le.refl _ _) rh (.bl true))
  | tup s1 r1=>cases rx';exact lA (x':=.ref _) (c:=true) I rfl (by cases b <;> rfl) (by cases b <;> rfl) (q ρ H _ (Le.refl _ _) rh (.bl true))
  | _=>exact q.elim
 | _=>exact q.elim
def aU(x y:PV)(h:MH):Out PV:=match y with
 | .int i=>(match x with
  | .loc n=>(match h[n]? with
   | some (.lst xs)=>(match atI xs i with
    | some v=>.ok v h
    | none=>.bad)
   | _=>.bad)
  | .tup xs=>(match atI xs i with
   | some v=>.ok v h
   | none=>.bad)
  | .frl xs=>(match atI xs i with
   | some v=>.ok v h
   | none=>.bad)
  | .str z=>(match atI z.cps.toList i with
   | some c=>if z.length<=sizeLine then .ok (.str ⟨#[c]⟩) h else .bad
   | none=>.bad)
  | _=>.bad)
 | _=>.bad
def pM{K:qab}{ρ:List Addr}{H:Hp}{xs:List PV}{ys:List V}{i:Int}{v:PV}(r:RPs K ρ H xs ys)(e:atI xs i=some v):∃v',atI ys i=some v'/\RP K ρ H v v':=by
 unfold atI at e ⊢;rw[<-r.length]
 cases q:ixN xs.length i with
 | none=>rw[q] at e;cases e
 | some j =>
  rw[q] at e;exact r.get e
def me_ix{a b:Expr}{ma mb:Mx PV}{pos:Pos}(ha:ME X a ma)(hb:ME X b mb)(hs:mq b):ME X (.Subscript a b pos) (ai aU ma mb):=by
 refine PE.imp (pe_ix ix_seq ha hb hs) fun σ H Q q=>?_;obtain⟨ρ,σp,h,rs,rh,q⟩:=q;refine⟨ρ,σp,h,rs,rh,Ful.bind q fun ρ1 H1 x x' h1 _ l1 rh1 rx q1=>⟨ρ1,σp,h1,rs.le l1,rh1,Ful.bind q1 fun ρ2 H2 y y' h2 _ l2 rh2 ry q2=>?_⟩⟩;have rx2:=rx.le l2
 cases ry with
 | int i =>
  cases rx2 with
  | @loc n a e =>
   obtain⟨ob,eo,rob⟩:=rh2.obj e;dsimp only[aU] at q2;rw[eo] at q2
   cases ob with
   | dic kvs=>exact q2.elim
   | exc x=>exact q2.elim
   | lst xs =>
    obtain⟨ys,ey,rr⟩:=rob;dsimp only at q2
    cases ea:atI xs i with
    | none=>rw[ea] at q2;exact q2.elim
    | some v =>
     rw[ea] at q2;obtain⟨v',e',rv⟩:=pM rr ea;exact .inl ⟨a,ys,i,v',rfl,rfl,SqL.of ey,e',q2 ρ2 H2 _ (Le.refl _ _) rh2 rv⟩
  | @tup xs a ys s1 rr =>
   dsimp only[aU] at q2
   cases ea:atI xs i with
   | none=>rw[ea] at q2;exact q2.elim
   | some v =>
    rw[ea] at q2;obtain⟨v',e',rv⟩:=pM rr ea;exact .inr (.inl ⟨_,_,i,v',rfl,rfl,s1,e',q2 ρ2 H2 _ (Le.refl _ _) rh2 rv⟩)
  | @frl xs a ys s1 rr =>
   dsimp only[aU] at q2
   cases ea:atI xs i with
   | none=>rw[ea] at q2;exact q2.elim
   | some v =>
    rw[ea] at q2;obtain⟨v',e',rv⟩:=pM rr ea;exact .inl ⟨_,_,i,v',rfl,rfl,s1.sq,e',q2 ρ2 H2 _ (Le.refl _ _) rh2 rv⟩
  | str z =>
   dsimp only[aU] at q2
   cases ea:atI z.cps.toList i with
   | none=>rw[ea] at q2;exact q2.elim
   | some c =>
    rw[ea] at q2;dsimp only at q2
    split at q2
    ·rename_i hz
     exact .inr (.inr ⟨z,i,c,rfl,rfl,hz,ea,q2 ρ2 H2 _ (Le.refl _ _) rh2 (.str _)⟩)
    ·exact q2.elim
  | _=>exact q2.elim
 | _=>exact q2.elim
def mCB(f:List PV->MH->Out PV)(m:Mx (List PV)):Mx PV:=fun σ h=>(m σ h).bind fun xs h1=>(f xs h1).ne
section
variable {x:Str} {id T:String} {e:Expr} {es:List Expr} {f:List PV→MH→Out PV} {m:Mx (List PV)} {p pos:Pos}
def tM_cb{σ:L2.St}{H:Hp}{Q:VK}(q:tM X (RV' X) (mCB f m) σ H Q):tCB (cJ X f) (tM X (RVs' X) m) σ H Q:=by
 obtain⟨ρ,σp,h,rs,rh,q⟩:=q;exact⟨ρ,σp,h,rs,rh,Ful.bind q fun ρ1 H1 x x' h1 _ l1 rh1 rx q1=>⟨ρ1,h1,x,rh1,rx,q1.zero⟩⟩
def yK(g:Good X N W G k)(j:Nat)(hj:G[j]?=some x)(hc:dr X (.builtin id) f)(hm:X.mg x=none)(hv:bootBuiltins x=some (.builtin id))(ha:MA X (e::es) m)
  (he:starEach (e::es) X.env=(false,eval e X.env)::starEach es X.env:=by rfl) (hpl:(backTo pos (starEach es X.env)).any (·.1)=false:=by rfl):ME X (.Call (.Name x p) (e::es) [] pos) (mCB f m) :=
 have d:=g.dbg x (qad _ (az hj))
 PE.imp (fy hc (g.gl x (az hj)) hm hv ha d.2.2 d.1 he hpl) fun _ _ _ q=>tM_cb q
def xA(g:Good X N W G k)(j:Nat)(hj:G[j]?=some x)(hc:dr X (.type T) f)(hm:X.mg x=none)(hv:bootBuiltins x=some (.type T))(ha:MA X (e::es) m)
  (he:starEach (e::es) X.env=(false,eval e X.env)::starEach es X.env:=by rfl) (hpl:(backTo pos (starEach es X.env)).any (·.1)=false:=by rfl):ME X (.Call (.Name x p) (e::es) [] pos) (mCB f m) :=
 have d:=g.dbg x (qad _ (az hj))
 PE.imp (kS hc (g.gl x (az hj)) hm hv ha d.2.2 d.1 he hpl) fun _ _ _ q=>tM_cb q
end
def fAbs(xs:List PV)(h:MH):Out PV:=match xs with
 | [.int i]=>.ok (.int (if i<0 then -i else i)) h
 | _=>.bad
def fMin(xs:List PV)(h:MH):Out PV:=match xs with
 | [.int i,.int j]=>.ok (.int (if j<i then j else i)) h
 | _=>.bad
def fMax(xs:List PV)(h:MH):Out PV:=match xs with
 | [.int i,.int j]=>.ok (.int (if j>i then j else i)) h
 | _=>.bad
def fInt(xs:List PV)(h:MH):Out PV:=match xs with
 | [.int i]=>.ok (.int i) h
 | [.bl b]=>.ok (.int (if b then 1 else 0)) h
 | _=>.bad
def fStr(xs:List PV)(h:MH):Out PV:=match xs with
 | [.int i]=>if i.natAbs.log2<1920 then .ok (.str (toString i)) h else .bad
 | _=>.bad
def fLen(xs:List PV)(h:MH):Out PV:=match xs with
 | [.loc n]=>(match h[n]? with
  | some (.lst ys)=>.ok (.int ys.length) h
  | _=>.bad)
 | [.tup ys]=>.ok (.int ys.length) h
 | [.frl ys]=>.ok (.int ys.length) h
 | [.str z]=>if z.length<=sizeLine then .ok (.int z.length) h else .bad
 | _=>.bad
def lu:dr X (.builtin "abs") fAbs:=by
 intro G6 s σ H xs us Q I r ⟨ρ,h,ps,rh,rp,q⟩
 cases rp with
 | nil=>exact q.elim
 | cons r1 t1 =>
  cases t1 with
  | cons _ _=>cases r1 <;> exact q.elim
  | nil =>
   cases r1 with
   | int i=>exact zk G6 s σ H _ us Q I r ⟨i,rfl,q ρ H _ (Le.refl _ _) rh (.int _)⟩
   | _=>exact q.elim
def rK{f:List PV->MH->Out PV}{F:Int->Int->Int}{r:List V->Hp->VK->Prop}{V0:Value}(hf:∀i j h,f [.int i,.int j] h=.ok (.int (F i j)) h)(hb:∀xs h,(∀i j,xs≠[.int i,.int j])->f xs h=.bad)
  (hc:cA X V0 (fun xs H Q=>∃i j,xs=[.int i,.int j]/\Q (.int (F i j)) H)):dr X V0 f:=by
 intro G6 s σ H xs us Q I r ⟨ρ,h,ps,rh,rp,q⟩;by_cases z:∃i j,ps=[.int i,.int j]
 ·obtain⟨i,j,rfl⟩:=z
  cases rp with
  | cons r1 t1=>cases t1 with
   | cons r2 t2 =>
    cases t2;cases r1;cases r2;rw[hf] at q;exact hc G6 s σ H _ us Q I r ⟨i,j,rfl,q ρ H _ (Le.refl _ _) rh (.int _)⟩
 ·rw[hb ps h fun i j e=>z ⟨i,j,e⟩] at q;exact q.elim
def rf(g:Good X N W G k):dr X (.builtin "min") fMin:=rK (r:=fun _ _ _=>True) (F:=fun i j=>if j<i then j else i) (fun _ _ _=>rfl) (fun xs h z=>by unfold fMin;split <;> first | rfl | exact absurd rfl (z _ _)) (wV g.calm)
def cj_max(g:Good X N W G k):dr X (.builtin "max") fMax:=rK (r:=fun _ _ _=>True) (F:=fun i j=>if j>i then j else i) (fun _ _ _=>rfl) (fun xs h z=>by unfold fMax;split <;> first | rfl | exact absurd rfl (z _ _)) (xb g.calm)
def sQ:dr X (.type "int") fInt:=by
 intro G6 s σ H xs us Q I r ⟨ρ,h,ps,rh,rp,q⟩
 cases rp with
 | nil=>exact q.elim
 | cons r1 t1 =>
  cases t1 with
  | cons _ _=>cases r1 <;> exact q.elim
  | nil =>
   cases r1 with
   | int i=>exact qA G6 s σ H _ us Q I r (.inl ⟨i,rfl,q ρ H _ (Le.refl _ _) rh (.int _)⟩)
   | bl b=>exact qA G6 s σ H _ us Q I r (.inr ⟨b,rfl,q ρ H _ (Le.refl _ _) rh (.int _)⟩)
   | _=>exact q.elim
def cj_str:dr X (.type "str") fStr:=by
 intro G6 s σ H xs us Q I r ⟨ρ,h,ps,rh,rp,q⟩
 cases rp with
 | nil=>exact q.elim
 | cons r1 t1 =>
  cases t1 with
  | cons _ _=>cases r1 <;> exact q.elim
  | nil =>
   cases r1 with
   | int i =>
    dsimp only[fStr] at q
    split at q
    ·rename_i hz
     exact tq G6 s σ H _ us Q I r ⟨i,rfl,hz,q ρ H _ (Le.refl _ _) rh (.str _)⟩
    ·exact q.elim
   | _=>exact q.elim
def dQ:dr X (.builtin "len") fLen:=by
 intro G6 s σ H xs us Q I r ⟨ρ,h,ps,rh,rp,q⟩
 cases rp with
 | nil=>exact q.elim
 | cons r1 t1 =>
  cases t1 with
  | cons _ _=>cases r1 <;> exact q.elim
  | nil =>
   cases r1 with
   | @loc n a e =>
    obtain⟨ob,eo,rob⟩:=rh.obj e;dsimp only[fLen] at q;rw[eo] at q
    cases ob with
    | dic kvs=>exact q.elim
    | exc x=>exact q.elim
    | lst xs =>
     obtain⟨ys,ey,rr⟩:=rob;exact kc G6 s σ H _ us Q I r ⟨_,_,rfl,.inl ⟨ys,SqL.of ey,rfl⟩,by rw[<-rr.length];exact q ρ H _ (Le.refl _ _) rh (.int _)⟩
   | tup s1 rr=>exact kc G6 s σ H _ us Q I r ⟨_,_,rfl,.inr ⟨_,s1,rfl⟩,by rw[<-rr.length];exact q ρ H _ (Le.refl _ _) rh (.int _)⟩
   | frl s1 rr=>exact kc G6 s σ H _ us Q I r ⟨_,_,rfl,.inl ⟨_,s1.sq,rfl⟩,by rw[<-rr.length];exact q ρ H _ (Le.refl _ _) rh (.int _)⟩
   | str z =>
    dsimp only[fLen] at q
    split at q
    ·rename_i hz
     exact kc G6 s σ H _ us Q I r ⟨_,_,rfl,⟨hz,rfl⟩,q ρ H _ (Le.refl _ _) rh (.int _)⟩
    ·exact q.elim
   | _=>exact q.elim
def tyP(h:MH):PV->Option String
 | .non=>some "NoneType"
 | .bl _=>some "bool"
 | .int _=>some "int"
 | .str _=>some "str"
 | .tup _=>some "tuple"
 | .frl _=>some "list"
 | .loc n=>match h[n]? with
  | some (.lst _)=>some "list"
  | some (.dic _)=>some "dict"
  | _=>none
def ba(t:String)(T:String):Bool:=t == T || (t == "bool" && T == "int")
def bM(Ts:List String)(x:PV)(h:MH):Out PV:=match tyP h x with
 | some t=>.ok (.bl (Ts.any (ba t))) h
 | none=>.bad
def okT(T:String):Prop:=∀K:qab,∀t∈["NoneType","bool","int","str","tuple","list","dict"],PySem.W.kitOne K (.type t) (.type T)=some (ba t T)
def nZ(h1:∀K,PySem.W.kitOne K (.type "NoneType") (.type T)=some (ba "NoneType" T))(h2:∀K,PySem.W.kitOne K (.type "bool") (.type T)=some (ba "bool" T))(h3:∀K,PySem.W.kitOne K (.type "int") (.type T)=some (ba "int" T))
  (h4:∀K,PySem.W.kitOne K (.type "str") (.type T)=some (ba "str" T)) (h5:∀K,PySem.W.kitOne K (.type "tuple") (.type T)=some (ba "tuple" T)) (h6:∀K,PySem.W.kitOne K (.type "list") (.type T)=some (ba "list" T))
  (h7:∀K,PySem.W.kitOne K (.type "dict") (.type T)=some (ba "dict" T)):okT T:=by
 intro K t ht;simp only[qaj,qaB,or_false] at ht;rcases ht with rfl|rfl|rfl|rfl|rfl|rfl|rfl
 ·exact h1 K
 ·exact h2 K
 ·exact h3 K
 ·exact h4 K
 ·exact h5 K
 ·exact h6 K
 ·exact h7 K
def uX:okT "int":=nZ (fun _=>rfl) (fun _=>rfl) (fun _=>rfl) (fun _=>rfl) (fun _=>rfl) (fun _=>rfl) (fun _=>rfl)
def mW:okT "bool":=nZ (fun _=>rfl) (fun _=>rfl) (fun _=>rfl) (fun _=>rfl) (fun _=>rfl) (fun _=>rfl) (fun _=>rfl)
def fv:okT "list":=nZ (fun _=>rfl) (fun _=>rfl) (fun _=>rfl) (fun _=>rfl) (fun _=>rfl) (fun _=>rfl) (fun _=>rfl)
def dR:okT "tuple":=nZ (fun _=>rfl) (fun _=>rfl) (fun _=>rfl) (fun _=>rfl) (fun _=>rfl) (fun _=>rfl) (fun _=>rfl)
def lK{G6:List (Addr × Obj)}{σ:L2.St}{H:Hp}{s:Shared}{ρ:List Addr}{h:MH}{x:PV}{x':V}{u:Value}{t:String}(I:Inv X G6 σ H s)(rh:RH X.K X.mg ρ H h)(rx:RP X.K ρ H x x')(ru:aR x' u)(e:tyP h x=some t) :
  t∈["NoneType","bool","int","str","tuple","list","dict"]/\u≠.builtin "__main__.__loader__#opaque"/\∃Hq,PySem.W.KitX X.K u (.type t) Hq/\Hq s.heap:=by
 cases rx with
 | non=>cases e;cases ru;exact⟨by simp,(fun z=>nomatch z),_,PySem.W.kitx_none,trivial⟩
 | bl b=>cases e;cases ru;exact⟨by simp,(fun z=>nomatch z),_,PySem.W.kitx_bool,trivial⟩
 | int i=>cases e;obtain⟨t,rfl⟩:=ru;exact⟨by simp,(fun z=>nomatch z),_,PySem.W.kitx_int,trivial⟩
 | str i=>cases e;obtain⟨t,rfl⟩:=ru;exact⟨by simp,(fun z=>nomatch z),_,PySem.W.kitx_str,trivial⟩
 | tup s1 r1 =>
  cases e;cases ru;obtain⟨its,rv,⟨o,e1,e2,_⟩,_⟩:=I.tuple s1;exact⟨by simp,(fun z=>nomatch z),_,PySem.W.kitx_tuple,⟨o,e1,e2⟩⟩
 | frl s1 r1 =>
  cases e;cases ru;obtain⟨its,rv,⟨o,m,e1,e2,_,e3⟩,_⟩:=I.list s1.sq;exact⟨by simp,(fun z=>nomatch z),_,PySem.W.kitx_list,⟨o,e1,e2⟩⟩
 | @loc n a en =>
  obtain⟨ob,eo,rob⟩:=rh.obj en;dsimp only[tyP] at e;rw[eo] at e;cases ru
  cases ob with
  | lst xs =>
   cases e;obtain⟨ys,ey,_⟩:=rob;obtain⟨its,rv,⟨o,m,e1,e2,_,e3⟩,_⟩:=I.list (SqL.of (K:=X.K) ey);exact⟨by simp,(fun z=>nomatch z),_,PySem.W.kitx_list,⟨o,e1,e2⟩⟩
  | dic kvs =>
   cases e;obtain⟨_,ey⟩:=rob;obtain⟨_,_,vs,_,p⟩:=(show ObjOk X.prog X.w H s.heap a (.dK []) from I.hok a _ ey);obtain⟨o,es,ep,h1,h2,_⟩:=p;exact⟨by simp,(fun z=>nomatch z),_,PySem.W.kitx_dict,⟨o,h1,h2.1⟩⟩
  | exc x=>cases e
def dS(g:Good X N W G k){a:Expr}{m:Mx PV}{T:String}{c:Str}{i j:Nat}{p q pos:Pos}(hi:G[i]?=some "isinstance")(hm:X.mg "isinstance"=none)(hj:G[j]?=some c)(hc:X.mg c=none)(hv:bootBuiltins c=some (.type T))(hT:okT T)(ha:ME X a m)
  (he:starEach [a,.Name c q] X.env=(false,eval a X.env)::starEach [.Name c q] X.env:=by rfl) (he2:starEach [.Name c q] X.env=[(false,eval (.Name c q) X.env)]:=by rfl) (hpl:(backTo pos (starEach [.Name c q] X.env)).any (·.1)=false:=by rfl) :
  ME X (.Call (.Name "isinstance" p) [a,.Name c q] [] pos) (mUn (bM [T]) m):=by
 have d1:=g.dbg _ (qad _ (az hi));have d:=g.dbg c (qad _ (az hj));have hcall:cA X (.builtin "isinstance") (fun xs H Q=>∃x',xs=[x',.ty T]/\uJ X (bM [T]) x' H Q):=by
  intro G6 s σ H xs us Q I r ⟨x',e,ρ,h,x,rh,rx,q⟩;subst e
  cases r with
  | cons r1 t1=>cases t1 with
   | cons r2 t2 =>
    cases t2;obtain rfl:=(show _=Value.type T from r2);unfold bM at q
    cases et:tyP h x with
    | none=>rw[et] at q;exact q.elim
    | some t =>
     rw[et] at q;obtain⟨ht,hne,Hq,Z,hz⟩:=lK I rh rx r1 et
     exact PySem.W.kia_one Z I.kIn hz (hT X.K t ht) hne fun tk=>⟨.bl _,H,I.tok _,rfl,by
      have q':=q ρ H _ (Le.refl _ _) rh (.bl _)
      simpa using q'⟩
 refine PE.imp (fy hcall (g.gl _ (az hi)) hm PyProof.Rows.Boot.«isinstance» (bR ha (bR (mm (v:=.ty T) (u:=.type T) (g.gl c (az hj)) hc hv rfl d.2.2 d.1) eY he2) he) d1.2.2 d1.1 he hpl) fun σ H Q ⟨ρ,σp,h,rs,rh,q⟩=>?_;exact⟨ρ,σp,h,rs,rh,Ful.bind q fun ρ1 H1 x x' h1 _ l1 rh1 rx q1=>⟨x',rfl,ρ1,h1,x,rh1,rx,q1.zero⟩⟩
def spM(K:qab)(mg:MGl)(F:List PV->MH->Out PV):Sp:=fun vs H Q E=>∃ρ ps h,RPs K ρ H ps vs/\RH K mg ρ H h/\match F ps h with
 | .ok v h'=>∀ρ' H' v',Le ρ H ρ' H'->RH K mg ρ' H' h'->RP K ρ' H' v v'->Q v' H'
 | .exc x h'=>∀C ρ' H',x.fs=[]->mg x.cls=some (.ref C)->Le ρ H ρ' H'->RH K mg ρ' H' h'->E (.ref C) none H'
 | .bad=>False
def CXm(P:Program)(w:World):CXT:=fun outer H s E e s'=>∃ea C H',e=.ref ea/\s'.os=s.os/\AllBare s'.gens/\Un (frs outer) [] H H' s.heap s'.heap/\HOk P w H' s'.heap/\Fly outer H' s.heap C ea s'.heap/\E (.ref C) none H'
structure Cal (X:Cx) (x:Str) (ps:List Str) (F:List PV->MH->Out PV) (k:Nat):Prop where
 ex:∃f fd,X.mg x=some (.ref f)/\PySem.W.keepIn X.K (.ref f)=true/\oI X.K fd ps []/\FnOk X.prog X.w X.K X.mg X.base (CXm X.prog X.w) k f fd ps (spM X.K X.mg F)
def Cal.to(c:Cal X x ps F i)(e1:Y.prog=X.prog)(e2:Y.w=X.w)(e3:Y.K=X.K)(e4:Y.mg=X.mg)(e5:Y.base=X.base):Cal Y x ps F i:=by
 obtain⟨f,fd,a,b,d,e⟩:=c.ex;refine⟨f,fd,by rw[e4];exact a,by rw[e3];exact b,by rw[e3];exact d,?_⟩;rw[e1,e2,e3,e4,e5];exact e
def aw(F:List PV->MH->Out PV)(m:Mx (List PV)):Mx PV:=fun σ h=>(m σ h).bind F
def me_call(g:Good X N W G k){x:Str}{j:Nat}(hj:G[j]?=some x){ps:List Str}{F:List PV->MH->Out PV}(C:Cal X x ps F k){e:Expr}{es:List Expr}{m:Mx (List PV)}{p pos:Pos}(ha:MA X (e::es) m)
  (he:starEach (e::es) X.env=(false,eval e X.env)::starEach es X.env:=by rfl) (hpl:(backTo pos (starEach es X.env)).any (·.1)=false:=by rfl):ME X (.Call (.Name x p) (e::es) [] pos) (aw F m):=by
 obtain⟨f,fd,hm,hk,hb,F'⟩:=C.ex;have d:=g.dbg x (qad _ (az hj));intro G6 s σ H Q I ⟨ρ,σp,h,rs,rh,q⟩;refine wpAny_Call_Name_kw (pN I (g.gl x (az hj)) hm ?_ d.1)
 refine PySem.W.callWith_K (h₀:=X.base) I.ok.mod.kin hk (thn (ha pos G6 s σ H (fun vs H1=>∃ρ1 xs h1,Le ρ H ρ1 H1/\RH X.K X.mg ρ1 H1 h1/\RPs X.K ρ1 H1 xs vs/\Ful X (RV' X) σp ρ1 H1 (F xs h1) Q) I
  ⟨ρ,σp,h,rs,rh,Ful.bind q fun ρ1 H1 xs vs h1 _ l1 rh1 rx q1=>⟨ρ1,xs,h1,l1,rh1,rx,q1⟩⟩) fun us s1 ⟨vs,H1,I1,r,ρ1,xs,h1,l1,rh1,rx,q1⟩=>⟨I1.kIn,?_⟩) he hpl
 have run:∀E:XK,spM X.K X.mg F vs H1 Q E->(∀ea C H' s',s'.os=s1.os->AllBare s'.gens->Un (frs X.stack) [] H1 H' s1.heap s'.heap->HOk X.prog X.w H' s'.heap->Fly X.stack H' s1.heap C ea s'.heap->E (.ref C) none H'->X.xe (.ref ea) s') ->
   wpAny (model X.prog X.w) X.A (call (.ref f) us) (EP X G6 σ Q) X.xe s1:=fun E hsp hE=>by
  have hl:(us++[]).length=ps.length:=by rw[qbo,<-r.length];exact F'.len _ _ _ _ hsp
  have hb1:=hb s1 us I1.kIn hl;rw[qbo] at hb1;refine wpAny_call (codeAny_mono (F'.run X.A X.stack s1 H1 ⟨us,[]⟩ us vs Q E g.room I1.env0 hb1 r hsp) fun r s' hq=>?_)
  cases r with
  | error e =>
   obtain⟨ea,C,H',rfl,a1,a2,a3,a4,a5,a6⟩:=hq;exact hE ea C H' s' a1 a2 a3 a4 a5 a6
  | ok fl =>
   cases fl with
   | ret u=>exact I1.after hq
   | next=>exact False.elim hq
   | brk=>exact False.elim hq
   | cont=>exact False.elim hq
 cases eF:F xs h1 with
 | bad=>rw[eF] at q1;exact q1.elim
 | ok v h' =>
  rw[eF] at q1;exact run (fun _ _ _=>False) ⟨ρ1,xs,h1,rx,rh1,by rw[eF];exact q1⟩ fun _ _ _ _ _ _ _ _ _ z=>z.elim
 | exc x' h' =>
  rw[eF] at q1;refine run (fun c _ H'=>∃C ρ',c=.ref C/\x'.fs=[]/\X.mg x'.cls=some (.ref C)/\Le ρ1 H1 ρ' H'/\RH X.K X.mg ρ' H' h') ⟨ρ1,xs,h1,rx,rh1,by rw[eF];exact fun C ρ' H' a b c d=>⟨C,ρ',rfl,a,b,c,d⟩⟩ fun ea C H' s' a1 a2 a3 a4 a5 a6=>?_;obtain⟨C',ρ',eC,b1,b2,b3,b4⟩:=a6;cases eC;have IX:=I1.call' (s':=s') (ch:=[]) a1 a3 a4 a2 (fun b z=>absurd z (by simp));have IX0:Inv X [] σ H' s':=Inv.unpinned (G6:=[]) (pl:=G6) IX;exact q1 ea C ρ' H' σ s' s1.heap b1 b2 b3 b4 (rs.le (l1.trans b3)) IX0 (Inv.bears I1) a5
def be(n:Nat)(ps:List PV):PSt:=ps.map some++List.replicate (n - ps.length) none
def bj(n np:Nat)(m:Mst):List PV->MH->Out PV:=fun ps h=>if ps.length=np then (match m (be n ps) h with
 | .nx _ h'=>.ok .non h'
 | .rt v h'=>.ok v h'
 | .exc x _ h'=>.exc x h'
 | .rse x _ h'=>.exc x h'
 | _=>.bad) else .bad
def yB{K:qab}{ρ:List Addr}{H:Hp}{N:List Str}{ps:List PV}{vs:List V}(r:RPs K ρ H ps vs):RS K ρ H (be N.length ps) (L2.start N vs):=by
 have hl:=r.length;refine⟨by simp[be,L2.start,hl],fun i v e=>?_⟩;unfold be at e;by_cases hi:i<ps.length
 ·rw[qak (by simpa using hi),qaK] at e
  cases q:ps[i]? with
  | none=>rw[q] at e;cases e
  | some x =>
   rw[q] at e;cases e;obtain⟨v',e',rv⟩:=r.get q;refine⟨v',?_,rv⟩;unfold L2.start;rw[qak (by simp;lia),qaK,e'];rfl
 ·rw[qaw (by simpa using hi),qaZ] at e
  split at e <;> cases e
def rX{B h:Heap}(k:B.StaysIn h){b:Addr}{o ob:Obj}(e1:B.get? b=some ob)(e2:h.get? b=some o):ob=o:=by
 have:=k b ob e1
 rw[e2] at this;exact (Option.some.inj this).symm
def vf{X:Cx}{σ':L2.St}{H':Hp}{s':Shared}{h' B:Heap}(I:Inv X [] σ' H' s')(hex:X.ex=[])(hB:B.StaysIn s'.heap)(hB':B.StaysIn h')(sm:s'.heap.UpToSlots h')
  (cov:∀b o,X.s₀.heap.get? b=some o->b∉X.fs->∃ob,B.get? b=some ob) (cvH:∀b o,H' b=some o->∃ob,B.get? b=some ob):Un X.fs [] X.H₀ H' X.s₀.heap h'/\HOk X.prog X.w H' h':=by
 have nex:∀b:Addr,b∉X.ex:=fun b=>by rw[hex];simp
 have kp:∀b o ob,B.get? b=some ob->s'.heap.get? b=some o->h'.get? b=some o:=fun b o ob e1 e2=>by
  have:=rX hB e1 e2
  subst this;exact hB' b ob e1
 refine⟨⟨fun b o e n hf _=>?_,fun b o e n hf _=>?_,fun b o e n _=>I.base.free b o e n (nex b),fun b o e _=>?_,I.base.tups,I.base.frzs,I.base.tbls⟩,fun a o e=>?_⟩
 ·obtain⟨ob,eb⟩:=cov b o e hf;exact kp b o ob eb (I.base.keep b o e n hf (nex b))
 ·obtain⟨sl,e1⟩:=I.base.slot b o e n hf (nex b);obtain⟨_,oF,eF,dF⟩:=I.ok.funs.mem hf;rw[e] at eF;cases eF;obtain⟨sl',e2⟩:=sm b _ e1 (fun vs z=>dF vs z);exact⟨sl',e2⟩
 ·by_cases hf:b∈X.fs
  ·obtain⟨_,oF,eF,dF⟩:=I.ok.funs.mem hf;rw[e] at eF;cases eF;obtain⟨sl,e1⟩:=I.base.slot b o e (I.ok.frf b hf) hf (nex b);obtain⟨sl',e2⟩:=sm b _ e1 (fun vs z=>dF vs z);exact⟨_,e2⟩
  ·obtain⟨ob,eb⟩:=cov b o e hf;exact⟨ob,hB' b ob eb⟩
 ·refine (I.hok a o e).stay (fun b u hb z=>?_) (fun _ z=>z) fun _ _ z=>z;rcases hb with rfl|hb
  ·obtain⟨ob,eb⟩:=cvH _ _ e;exact kp _ u ob eb z
  ·obtain⟨ob,eb⟩:=cvH _ _ hb;exact kp _ u ob eb z
def _root_.L2.ObjOk.has(x:ObjOk P w H h a o):∃u,h.get? a=some u:=by
 cases o with
 | lst xs=>obtain⟨_,_,_,_,e⟩:=x;exact⟨_,e⟩
 | tup xs=>obtain⟨_,_,_,o,e,_⟩:=x;exact⟨o,e⟩
 | dK kvs=>obtain⟨_,_,_,_,o,_,_,e,_⟩:=x;exact⟨o,e⟩
 | dT kvs=>obtain⟨_,_,_,_,o,_,_,e,_⟩:=x;exact⟨o,e⟩
 | set S n=>obtain⟨o,_,_,_,e,_⟩:=x;exact⟨o,e⟩
 | ins C dx fs=>obtain⟨_,_,_,e,_⟩:=x;exact⟨_,e⟩
 | own y=>obtain⟨o,e⟩:=x;exact⟨o,e⟩
 | xd fs=>obtain⟨_,⟨o,_,_,e,_⟩,_⟩:=x;exact⟨o,e⟩
 | rng lo hi=>obtain⟨_,_,_,e⟩:=x;exact⟨_,e⟩
 | frz ob u=>obtain⟨e,_⟩:=x;exact⟨_,e⟩
 | tbl ps=>exact⟨_,(show h.get? a=some _ from x)⟩
 | met f y=>exact⟨_,(show h.get? a=some _ from x)⟩
 | ext φ=>obtain⟨_,⟨o,e⟩,_⟩:=x;exact⟨o,e⟩
structure DefCx (X:Cx):Prop where
 stk:X.stack=X.env::X.outer
 fr:X.env.frame=some X.env.locals
 ex:X.ex=[]
def fn_M{P:Program}{w:World}{K:qab}{mg:Str->Option Value}{base:Heap}{x qual:Str}{st:Stmt}{f:Addr}{fd:FuncData}{ps:List Str}{m:Mst}(Fu:Fun K x qual st f fd)(S:FnScope N ps (aQ st))
  (hl:∀y∈N,Loc (aQ st) y) (hgl:∀y∈G,(aQ st).names.lookup y=some .globalImplicit)
  (dbg:∀x∈N++G,(x == ("__debug__":Str))=false/\(x == ("__classdict__":Str))=false/\x≠"__name__")
  (hb:∀X:Cx,X.prog=P->X.w=w->X.K=K->X.mg=mg->X.base=base->X.env.scope=aQ st->Good X N N G k->DefCx X->MSs X (aH st) m) :
  FnOk P w K mg base (CXm P w) (k+1) f fd ps (spM K mg (bj N.length ps.length m)):=by
 have len:∀vs H Q E,spM K mg (bj N.length ps.length m) vs H Q E->vs.length=ps.length:=by
  rintro vs H Q E ⟨ρ,zs,h,r,rh,q⟩;rw[<-r.length];unfold bj at q;by_cases hp:zs.length=ps.length
  ·exact hp
  ·rw[qao hp] at q;exact q.elim
 obtain⟨oc,od,kV,doc,pm,an,cdv,ct,osl,rfl,lk,hcd⟩:=Fu.ex;refine fn_of lk hcd S len fun A outer s H vs Q E hr hsp=>?_;obtain⟨ρ,zs,h,r,rh,q⟩:=hsp;refine⟨_,hb _ rfl rfl rfl rfl rfl rfl ⟨rfl,S.nd,hl,fun _ _=>.inl rfl,hgl,dbg,rfl,hr,PassesOwn.leaving⟩ ⟨rfl,rfl,rfl⟩,ρ,be N.length zs,h,yB r,rh,?_⟩;unfold bj at q;by_cases hp:zs.length=ps.length
 ·rw[qae hp] at q
  cases e:m (be N.length zs) h with
  | nx σ' h'=>rw[e] at q;exact fun ρ' H' σ' l r' s'=>q ρ' H' .non l r' .non
  | rt v h'=>rw[e] at q;exact q
  | bk σ h'=>rw[e] at q;exact q.elim
  | ct σ h'=>rw[e] at q;exact q.elim
  | bad=>rw[e] at q;exact q.elim
  | exc x σ h' =>
   rw[e] at q;intro ea C ρ' H' σ' s' lim hfs hmg l rh' rs' I' brs fly;obtain⟨B,t,hfl,hBH,hcov,hea⟩:=fly;refine wpAny_leaves_onW (base:=B) (env:=envOfC qual (aQ st) s.heap.objs.size f cdv) (outer:=outer) I'.ok.frames rfl hfl fun h'' hfl' sm=>?_;have hb1:∀b o,s.heap.get? b=some o->b∉frs outer->∃ob,B.get? b=some ob:=fun b o eb hf=>by
    obtain⟨o',e'⟩:=brs.old b o eb (by show b∉([]:List Addr);simp);refine hcov b o' e' fun hm=>?_;rcases qaj.mp (I'.stkSub b hm) with z|z
    ·exact absurd (qam eb) (by rw[z];exact qaQ _)
    ·exact hf z
   obtain⟨un,hk'⟩:=vf (B:=B) I' rfl hfl.1 hfl'.1 sm hb1 hBH;exact⟨ea,C,H',rfl,I'.os,I'.bare,un,hk',⟨B,t,hfl',hBH,hb1,hea⟩,q C ρ' H' hfs hmg l rh'⟩
  | rse x σ h' =>
   rw[e] at q;intro ea C ρ' H' σ' s' h0 args hfs hmg l rh' rs' I' made;have hst:=I'.stack;have hin:∀env∈(envOfC qual (aQ st) s.heap.objs.size f cdv::outer),∀b,env.frame=some b->b∈frs (envOfC qual (aQ st) s.heap.objs.size f cdv::outer):=fun env he b hb=>qbI.mpr ⟨env,he,hb⟩;refine wpAny_leaves_madeW (base:=PySem.W.hideAll h0 (frs (envOfC qual (aQ st) s.heap.objs.size f cdv::outer))) (h:=h0) (env:=envOfC qual (aQ st) s.heap.objs.size f cdv) (outer:=outer) I'.ok.frames rfl (fun b o z=>PySem.W.of_hideAll _ z)
    (PySem.W.funFrames_hide (base:=base) hst hin) made fun h'' t hfl' _ _ sm=>?_
   have sub:∀b,b∈frs (envOfC qual (aQ st) s.heap.objs.size f cdv::outer)->b=s.heap.objs.size\/b∈frs outer:=fun b hm=>qaj.mp (I'.stkSub b hm);have hb1:∀b o,s.heap.get? b=some o->b∉frs outer->∃ob,(PySem.W.hideAll h0 (frs (envOfC qual (aQ st) s.heap.objs.size f cdv::outer))).get? b=some ob:=fun b o eb hf=>by
    obtain⟨o',e'⟩:=I'.base.there b o eb (by show b∉([]:List Addr);simp);refine⟨o',PySem.W.hideAll_get _ e' fun hm=>?_⟩;rcases sub b hm with z|z
    ·exact absurd (qam eb) (by rw[z];exact qaQ _)
    ·exact hf z
   have hBH:∀b o,H' b=some o->∃ob,(PySem.W.hideAll h0 (frs (envOfC qual (aQ st) s.heap.objs.size f cdv::outer))).get? b=some ob:=fun b o eb=>by
    have hlt:=I'.hok.lt eb;obtain⟨u,eu⟩:∃u,h0.get? b=some u:=(I'.hok b o eb).has;refine⟨u,PySem.W.hideAll_get _ eu fun hm=>?_⟩
    have:=I'.stkFree b hm
    rw[eb] at this;cases this
   have sm0:h0.UpToSlots h'':=(Heap.UpToSlots.of_keeps made.keeps).trans sm;obtain⟨un,hk'⟩:=vf (B:=PySem.W.hideAll h0 (frs (envOfC qual (aQ st) s.heap.objs.size f cdv::outer))) I' rfl (fun b o z=>PySem.W.of_hideAll _ z) hfl'.1 sm0 hb1 hBH;have hea:H' ea=none:=by
    cases z:H' ea with
    | none=>rfl
    | some o =>
     obtain⟨u,eu⟩:=(I'.hok ea o z).has;rw[made.new] at eu;cases eu
   exact⟨ea,C,H',rfl,I'.os,I'.bare,un,hk',⟨_,t,hfl',hBH,hb1,hea⟩,q C ρ' H' hfs hmg l rh'⟩
 ·rw[qao hp] at q;exact q.elim
def itAny(v:PV)(h:MH):Out MIt:=match v with
 | .loc n=>(match h[n]? with
  | some (.lst xs)=>.ok ⟨xs,[(n,xs)]⟩ h
  | _=>.bad)
 | .frl xs=>.ok ⟨xs,[]⟩ h
 | .tup xs=>.ok ⟨xs,[]⟩ h
 | _=>.bad
def ci(m:Mx PV):Mx MIt:=fun σ h=>(m σ h).bind itAny
def bN(hl:ME X l m):MI X tg l (ci m):=by
 intro G6 s σ H R I ⟨ρ,σp,h,rs,rh,q⟩;by_cases z:∃xs h1,m σp h=.ok (.tup xs) h1
 ·obtain⟨xs,h1,e⟩:=z;refine mi_tup (tg:=tg) hl G6 s σ H R I ⟨ρ,σp,h,rs,rh,?_⟩;unfold ci at q;unfold mItT;rw[e] at q ⊢;exact q
 ·refine mi_list (tg:=tg) hl G6 s σ H R I ⟨ρ,σp,h,rs,rh,?_⟩;unfold ci at q;unfold mItL
  cases e:m σp h with
  | ok v h1 =>
   rw[e] at q
   cases v with
   | tup xs=>exact absurd ⟨xs,h1,e⟩ z
   | _=>exact q
  | exc x h1=>rw[e] at q;exact q
  | bad=>rw[e] at q;exact q
def Inv.bigM{G6:List (Addr × Obj)}{σ:L2.St}{H:Hp}{s:Shared}(I:Inv X G6 σ H s):sysModules<s.heap.objs.size:=by
 have h:mainGlobals<s.heap.objs.size:=(I.mod.glob.keeps I.bk).lt;exact qcb (by decide) h
def mDic:Mx PV:=fun _ h=>.ok (.loc h.length) (h++[.dic []])
def fA:ME X (.Dict [] [] pos) mDic:=fun G6 s σ H Q I ⟨ρ,σp,h,rs,rh,q⟩=>by
 have hf:H s.heap.objs.size=none:=I.hok.fresh (qai _);obtain⟨r1,l1⟩:=rh.new hf (o:=.dic []) (ho:=.dK []) ⟨rfl,rfl⟩;refine wpAny_Dict_empty ⟨.ref s.heap.objs.size,_,I.laid (a:=s.heap.objs.size) (o:=.dK []) (t':=s.toks) (fun _ _ q=>qac _ q) (qai _) ?_,rfl,q _ _ _ l1 r1 (.loc (by rw[<-rh.len];simp))⟩;exact⟨qaP _,beq_eq_false_iff_ne.mpr (Ne.symm (qaL (Inv.bigM I))),[],.nil,Heap.DictOf.new s.heap⟩
structure FnAt (P:Program) (w:World) (K:qab) (mg:Str->Option Value) (base:Heap) (x:Str) (ps:List Str) (F:List PV->MH->Out PV) (k:Nat):Prop where
 ex:∃f fd,mg x=some (.ref f)/\PySem.W.keepIn K (.ref f)=true/\oI K fd ps []/\FnOk P w K mg base (CXm P w) k f fd ps (spM K mg F)/\∃oc od osl,K.lookup f=some ⟨oc,od,.func fd,osl⟩
def FnAt.mono{P:Program}{w:World}{K:qab}{mg:Str->Option Value}{base:Heap}{x:Str}{ps:List Str}{F:List PV->MH->Out PV}{i j:Nat}(c:FnAt P w K mg base x ps F i)(h:i<=j):FnAt P w K mg base x ps F j :=
 let ⟨f,fd,a,b,d,e,z⟩:=c.ex;⟨f,fd,a,b,d,e.mono h,z⟩
def FnAt.cal{P:Program}{w:World}{K:qab}{mg:Str->Option Value}{base:Heap}{x:Str}{ps:List Str}{F:List PV->MH->Out PV}{i:Nat}(c:FnAt P w K mg base x ps F i){X:Cx}(e1:X.prog=P)(e2:X.w=w)(e3:X.K=K)(e4:X.mg=mg)(e5:X.base=base):Cal X x ps F i:=by
 subst e1;subst e2;subst e3;subst e4;subst e5;obtain⟨f,fd,a,b,d,e,_⟩:=c.ex;exact⟨f,fd,a,b,d,e⟩
structure DefAt (K:qab) (x:Str) (st:Stmt):Prop where
 ex:∃f fd,PySem.W.nsIn K mainGlobals x=some (some (.ref f))/\Fun K x x st f fd
def defAt_mk{K:qab}{x:Str}{st:Stmt}{f:Addr}{oc:Value}{od an:Option Addr}{sl:Array (Option Value)}{kV dc pm cd ct:Value}
  (a:PySem.W.nsIn K mainGlobals x=some (some (.ref f))) (l:K.lookup f=some ⟨oc,od,.func (PySem.W.fnOf x x (ic st) (aH st) (aQ st) .none kV dc pm an cd ct),sl⟩) (c:PySem.W.codeIn K cd x=true) (kp:PySem.W.keepIn K (.ref f)=true):DefAt K x st :=
 ⟨f,_,a,fun_mk l c kp⟩
def lI(x:Str)(st:Stmt)(ps:List Str):Prop:=∀(kV doc pm:Value) (an:Option Addr) (cdv ct:Value) (us:List Value),us.length=ps.length->bindArgs (PySem.W.fnOf x x (ic st) (aH st) (aQ st) .none kV doc pm an cdv ct) ⟨us,[]⟩=pure (ps.zip us)
def fnAt_M{P:Program}{w:World}{K:qab}{mg:Str->Option Value}{base:Heap}{x:Str}{st:Stmt}{ps:List Str}{m:Mst}(kin:K.In base)(ns:base.Ns mainGlobals mg)(D:DefAt K x st)(S:FnScope N ps (aQ st))(B:lI x st ps)
  (hl:∀y∈N,(aQ st).names.lookup y=some .local\/(aQ st).names.lookup y=some .cell) (hgl:∀y∈G,(aQ st).names.lookup y=some .globalImplicit)
  (dbg:∀x∈N++G,(x == ("__debug__":Str))=false/\(x == ("__classdict__":Str))=false/\x≠"__name__")
  (hb:∀X:Cx,X.prog=P->X.w=w->X.K=K->X.mg=mg->X.base=base->X.env.scope=aQ st->Good X N N G k->DefCx X->MSs X (aH st) m) :
  FnAt P w K mg base x ps (bj N.length ps.length m) (k+1):=by
 obtain⟨f,fd,a,Fu⟩:=D.ex;have Fx:=Fu.ex;obtain⟨oc,od,kV,doc,pm,an,cdv,ct,osl,e1,e2,_⟩:=Fx;exact⟨f,fd,PySem.W.mg_of kin ns a,Fu.kp,Fu.binds B,fn_M Fu S hl hgl dbg hb,oc,od,osl,e2⟩
def head_M{P:Program}{w:World}{K:qab}{mg:Str->Option Value}{h:Heap}{x y:Str}{st:Stmt}{F:List PV->MH->Out PV}{fa:Addr}(D:DefAt K x st)(B:lI x st [y])(hmg:mg x=some (.ref fa))(kin:K.In h)(ns:h.Ns mainGlobals mg)
  (H:∀base:Heap,K.In base->base.Ns mainGlobals mg->FnAt P w K mg base x [y] F k) :
  ∃fd:FuncData,(∀(s:Shared) (u:Value),BindsTo s fd ⟨[u],[]⟩ [(y,u)])/\∀base:Heap,K.In base->base.Ns mainGlobals mg->FnOk P w K mg base (CXm P w) k fa fd [y] (spM K mg F):=by
 obtain⟨f,fd,a,Fu⟩:=D.ex;have e:=hmg.symm.trans (PySem.W.mg_of kin ns a);cases e;obtain⟨oc,od,kV,doc,pm,an,cdv,ct,osl,e1,e2,e3⟩:=Fu.ex;refine⟨fd,fun s u=>.of_eq ?_,fun base kb nb=>?_⟩
 ·rw[e1];exact B kV doc pm an cdv ct [u] rfl
 ·obtain⟨f',fd',g1,g2,g3,g4,oc',od',osl',g5⟩:=(H base kb nb).ex;rw[hmg] at g1;cases g1;rw[e2] at g5;cases g5;exact g4
def spLaw(K:qab):Sp:=fun vs H Q _=>∃(a:Addr) (ns:List Int),vs=[.ref a]/\SqF K H a (ns.map V.int)/\ns.length<=63/\∀H',Q (.bl true) H'
def walk_M{l:PySem.W.OpenLaw}{q:Program}{loose:List Str}{XP:(Str->Option Value)->Heap->Prop}{YP:World->Heap->Prop}{d:DefRec}{K:Params->qab}{x:Str}{F:List PV->MH->Out PV}(hn:l.most=some 63)(hdf:d.params.defaults=[])(hr:Room k callerA)
  (hY:∀(w:World) (h:Heap),YP w h->(K w.params).In h)
  (HF:∀(w:World) (mg:Str->Option Value) (fa:Addr) (h:Heap),(K w.params).In h->h.Ns mainGlobals mg->mg d.name=some (.ref fa) ->
   ∃fd:FuncData,(∀(s:Shared) (u:Value),BindsTo s fd ⟨[u],[]⟩ [(x,u)])/\∀base:Heap,(K w.params).In base->base.Ns mainGlobals mg->FnOk l.prog w (K w.params) mg base (CXm l.prog w) k fa fd [x] (spM (K w.params) mg F))
  (ht:∀ns:List Int,ns.length<=63->∃h',F [.frl (ns.map .int)] []=.ok (.bl true) h') :
  PySem.W.WalkO q loose XP YP l.row.toRowW d [] (fun f vs=>PySem.call f vs):=by
 refine L2.walk_of (n:=63) (k:=k) (x:=x) (CX:=fun w=>CXm l.prog w) (sp:=fun w=>spLaw (K w.params)) hn (by decide) hdf hr hY (fun w mg fa h hK hns hmg=>?_) (fun w H a ns hl hO hS=>?_) fun w H s e s' z=>?_
 ·obtain⟨fd,hb,hF⟩:=HF w mg fa h hK hns hmg;refine⟨fd,hb,fun base kb nb=>(hF base kb nb).imp fun vs H Q E z=>?_⟩;obtain⟨a,ns,rfl,sf,hl,hq⟩:=z;obtain⟨h',e⟩:=ht ns hl;refine⟨[],[.frl (ns.map .int)],[],.cons (.frl sf (RPs.ints ns)) .nil,⟨rfl,List.nodup_nil,fun n a o z _=>by simp at z⟩,?_⟩;rw[e];intro ρ' H' v' _ _ r;cases r;exact hq H'
 ·have sf:SqF (K w.params) H a (ns.map V.int):=by
   rcases hS with (z|z)|z
   ·rcases hO a with y|⟨o,xs,y⟩
    ·rw[y] at z;cases z
    ·rw[y] at z;cases z
   ·exact .inl z
   ·exact .inr z
  exact⟨a,ns,rfl,sf,hl,fun _=>rfl⟩
 ·obtain⟨_,_,_,_,_,_,_,_,_,z⟩:=z;exact z
end
section
variable {α:Type} {σ:PSt} {h:MH}
@[simp] theorem dY:mC v σ h=.ok v h:=rfl
@[simp] theorem bu{v:PV}{r:PSt}:af 0 (some v::r) h=.ok v h:=rfl
@[simp] theorem cx{i:Nat}{o:Option PV}{r:PSt}:af (i+1) (o::r) h=af i r h:=by simp[af]
@[simp] theorem dH:ai f a b σ h=(a σ h).bind fun x h1=>(b σ h1).bind fun y h2=>(f x y h2).ne:=rfl
@[simp] theorem fO:mUn f a σ h=(a σ h).bind fun x h1=>(f x h1).ne:=rfl
@[simp] theorem lj:mCB f a σ h=(a σ h).bind fun x h1=>(f x h1).ne:=rfl
@[simp] theorem cj:aw f a σ h=(a σ h).bind f:=rfl
@[simp] theorem bz:mNil σ h=.ok [] h:=rfl
@[simp] theorem aW:aa a r σ h=(a σ h).bind fun x h1=>(r σ h1).bind fun xs h2=>.ok (x::xs) h2:=rfl
@[simp] theorem uO:aT a σ h=(a σ h).bind newL:=rfl
@[simp] theorem u5:av a σ h=(a σ h).bind newT:=rfl
@[simp] theorem mDic_ap:mDic σ h=.ok (.loc h.length) (h++[.dic []]):=rfl
@[simp] theorem du:mB a σ h=(a σ h).bind fun v h1=>match v with | .bl b=>.ok b h1 | _=>.bad:=rfl
@[simp] theorem de:df a σ h=(a σ h).bind fun b h1=>.ok (!b) h1:=rfl
@[simp] theorem mAnd_ap:mAnd a b σ h=(a σ h).bind fun x h1=>if x=true then b σ h1 else .ok false h1:=rfl
@[simp] theorem jy:mOr a b σ h=(a σ h).bind fun x h1=>if x=true then .ok true h1 else b σ h1:=rfl
@[simp] theorem yY:cM a b σ h=(a σ h).bind fun x h1=>match x with | .bl c=>if c=true then b σ h1 else .ok (.bl false) h1 | _=>.bad:=rfl
@[simp] theorem mNotV_ap:oW a σ h=(a σ h).bind fun x h1=>match x with | .bl c=>.ok (.bl (!c)) h1 | _=>.bad:=rfl
@[simp] theorem cU:mSkip σ h=.nx σ h:=rfl
@[simp] theorem bp:aC a b σ h=(a σ h).then b:=rfl
@[simp] theorem aq:(SOut.nx σ h).then k=k σ h:=rfl
@[simp] theorem then_rt:(SOut.rt v h).then k=.rt v h:=rfl
@[simp] theorem then_bk:(SOut.bk σ h).then k=.bk σ h:=rfl
@[simp] theorem then_ct:(SOut.ct σ h).then k=.ct σ h:=rfl
@[simp] theorem yU:(SOut.rse x σ h).then k=.rse x σ h:=rfl
@[simp] theorem yI:(SOut.exc x σ h).then k=.exc x σ h:=rfl
@[simp] theorem ym:SOut.bad.then k=.bad:=rfl
def Out.rt(o:Out PV)(σ:PSt):SOut:=match o with
 | .ok v h'=>.rt v h'
 | .exc x h'=>.exc x σ h'
 | .bad=>.bad
@[simp] theorem rt_ok:(Out.ok v h).rt σ=.rt v h:=rfl
@[simp] theorem rt_exc:(Out.exc x h:Out PV).rt σ=.exc x σ h:=rfl
@[simp] theorem rt_bad:(Out.bad:Out PV).rt σ=.bad:=rfl
@[simp] theorem ik:aP m σ h=(m σ h).rt σ:=rfl
def Out.go{α:Type}(o:Out α)(σ:PSt)(k:α->Mst):SOut:=match o with
 | .ok v h'=>k v σ h'
 | .exc x h'=>.exc x σ h'
 | .bad=>.bad
@[simp] theorem aA:(Out.ok v h).go σ k=k v σ h:=rfl
@[simp] theorem go_exc:(Out.exc x h:Out α).go σ k=.exc x σ h:=rfl
@[simp] theorem go_bad:(Out.bad:Out α).go σ k=.bad:=rfl
@[simp] theorem mEx_ap:mEx m k σ h=(m σ h).go σ k:=rfl
@[simp] theorem nu:cK m σ h=(m σ h).go σ fun _=>mSkip:=rfl
@[simp] theorem cH:mIf c a b σ h=(c σ h).go σ fun x=>if x=true then a else b:=rfl
@[simp] theorem pr:aX i m σ h=(m σ h).go σ fun v σ h=>.nx (σ.set i (some v)) h:=rfl
@[simp] theorem mPar_ap:sk i j m σ h=(m σ h).go σ fun vs σ h=>match vs with | [v,w]=>.nx ((σ.set i (some v)).set j (some w)) h | _=>.bad:=rfl
@[simp] theorem mAsg_ap:o7 m g σ h=(m σ h).go σ fun v σ h=>match g v σ h with | .nx σ2 h2=>.nx σ2 h2 | .exc x σ2 h2=>.exc x σ2 h2 | _=>.bad:=rfl
@[simp] theorem gNm_ap:gNm i v σ h=.nx (σ.set i (some v)) h:=rfl
@[simp] theorem gNl_ap:gNl [] σ h=.nx σ h:=rfl
@[simp] theorem gCn_ap:gCn a r (v::vs) σ h=(a v σ h).then (r vs):=rfl
@[simp] theorem gTp_ap:gTp r n (.tup xs) σ h=if xs.length=n then r xs σ h else .bad:=rfl
@[simp] theorem pI:fU mi g b σ h=(mi σ h).go σ fun it=>mGo it g b it.xs:=rfl
@[simp] theorem mItS_ap:ci m σ h=(m σ h).bind itAny:=rfl
@[simp] theorem zi:d7 m σ h=(m σ h).bind fun vs h1=>match vs with
 | [.int j]=>if -(2 ^ 62)<=j/\j<2 ^ 62 then .ok ⟨bX 0 j.toNat,[]⟩ h1 else .bad
 | _=>.bad:=rfl
@[simp] theorem gSb_ap:gSb mo mi v σ h=(mo σ h).go σ fun o=>mEx mi fun i σ h=>match tD o i v h with
 | some h2=>.nx σ h2
 | none=>.bad:=rfl
def SOut.fin(o:SOut):Out PV:=match o with
 | .nx _ h'=>.ok .non h'
 | .rt v h'=>.ok v h'
 | .exc x _ h'=>.exc x h'
 | .rse x _ h'=>.exc x h'
 | _=>.bad
@[simp] theorem fin_exc:(SOut.exc x σ h).fin=.exc x h:=rfl
@[simp] theorem fin_rse:(SOut.rse x σ h).fin=.exc x h:=rfl
@[simp] theorem rE:(SOut.rt v h).fin=.ok v h:=rfl
@[simp] theorem fin_nx:(SOut.nx σ h).fin=.ok .non h:=rfl
theorem bF(e:ps.length=np):bj n np m ps h=(m (be n ps) h).fin:=by unfold bj;rw[qae e];rfl
end
section
variable {h:MH} {i j:Int}
@[simp] theorem opAdd_ii:opAdd (.int i) (.int j) h=.ok (.int (i+j)) h:=rfl
@[simp] theorem opSub_ii:opSub (.int i) (.int j) h=.ok (.int (i - j)) h:=rfl
@[simp] theorem opNeg_i:opNeg (.int i) h=.ok (.int (-i)) h:=rfl
@[simp] theorem opLt_ii:opLt (.int i) (.int j) h=.ok (.bl (decide (i<j))) h:=rfl
@[simp] theorem opLe_ii:opLe (.int i) (.int j) h=.ok (.bl (decide (i<=j))) h:=rfl
@[simp] theorem opGt_ii:opGt (.int i) (.int j) h=.ok (.bl (decide (j<i))) h:=rfl
@[simp] theorem opGe_ii:opGe (.int i) (.int j) h=.ok (.bl (decide (j<=i))) h:=rfl
@[simp] theorem opEq_ii:opEq (.int i) (.int j) h=.ok (.bl (decide (i=j))) h:=by simp[opEq,rd,SeqAt.shaped,PyData.canLay0,PyData.depth,PyData.eqv,qbt]
@[simp] theorem vm:opNe (.int i) (.int j) h=.ok (.bl (!decide (i=j))) h:=by simp[opNe,rd,SeqAt.shaped,PyData.canLay0,PyData.depth,PyData.eqv,qbt]
@[simp] theorem opEq_bb:opEq (.bl a) (.bl b) h=.ok (.bl (a == b)) h:=by simp[opEq,rd,SeqAt.shaped,PyData.canLay0,PyData.depth,PyData.eqv]
@[simp] theorem opNe_bb:opNe (.bl a) (.bl b) h=.ok (.bl (!(a == b))) h:=by simp[opNe,rd,SeqAt.shaped,PyData.canLay0,PyData.depth,PyData.eqv]
theorem fS(hj:j≠0):opMod (.int i) (.int j) h=.ok (.int (i.fmod j)) h:=by simp[opMod,hj]
def uH(hj:j≠0)(hl:j.natAbs.log2<9000):opFd (.int i) (.int j) h=.ok (.int (i.fdiv j)) h:=by simp[opFd,hj,PyProof.noPylong_of_log2 hl]
def ie(hl:-(2 ^ 64)<i/\i<2 ^ 64):opMul (.int i) (.int j) h=.ok (.int (i * j)) h:=by simp[opMul,IntMulOk.of_left (intBits_le_64 hl.1 hl.2)]
def opMul_r(hl:-(2 ^ 64)<j/\j<2 ^ 64):opMul (.int i) (.int j) h=.ok (.int (i * j)) h:=by simp[opMul,IntMulOk.of_right (intBits_le_64 hl.1 hl.2)]
def tO(hj:0<=j/\j<=1000000/\i.natAbs<2 ^ 64):opPow (.int i) (.int j) h=.ok (.int (i ^ j.toNat)) h:=by simp[opPow,fP,hj]
@[simp] theorem fAbs_i:fAbs [.int i] h=.ok (.int (if i<0 then -i else i)) h:=rfl
@[simp] theorem fMin_ii:fMin [.int i,.int j] h=.ok (.int (if j<i then j else i)) h:=rfl
@[simp] theorem fMax_ii:fMax [.int i,.int j] h=.ok (.int (if j>i then j else i)) h:=rfl
@[simp] theorem fInt_i:fInt [.int i] h=.ok (.int i) h:=rfl
@[simp] theorem fInt_b:fInt [.bl b] h=.ok (.int (if b then 1 else 0)) h:=rfl
@[simp] theorem fLen_frl:fLen [.frl xs] h=.ok (.int xs.length) h:=rfl
@[simp] theorem yA:fLen [.tup xs] h=.ok (.int xs.length) h:=rfl
theorem fJ(hl:xs.length<=1000):newT xs h=.ok (.tup xs) h:=by
 unfold newT;rw[qae (qax hl (by decide))]
def eP(hl:xs.length<=1000):newL xs h=.ok (.loc h.length) (h++[.lst xs]):=by
 unfold newL;rw[qae (qax hl (by decide))]
@[simp] theorem newT_0:newT [] h=.ok (.tup []) h:=fJ (by decide)
@[simp] theorem newT_1:newT [a] h=.ok (.tup [a]) h:=fJ (by simp)
@[simp] theorem newT_2:newT [a,b] h=.ok (.tup [a,b]) h:=fJ (by simp)
@[simp] theorem newT_3:newT [a,b,c] h=.ok (.tup [a,b,c]) h:=fJ (by simp)
theorem uR(hl:m<n):ixN n (m:Int)=some m:=by unfold ixN;rw[qae (by lia),qae (by lia)];simp
@[simp] theorem atI_0:atI (a::r) 0=some a:=ij (j:=0) rfl
@[simp] theorem atI_1:atI (a::b::r) 1=some b:=ij (j:=1) rfl
@[simp] theorem atI_2:atI (a::b::c::r) 2=some c:=ij (j:=2) rfl
@[simp] theorem atI_3:atI (a::b::c::d::r) 3=some d:=ij (j:=3) rfl
def Out.ofO(o:Option PV)(h:MH):Out PV:=match o with
 | some v=>.ok v h
 | none=>.bad
@[simp] theorem ofO_some:Out.ofO (some v) h=.ok v h:=rfl
@[simp] theorem opIx_tup:aU (.tup xs) (.int i) h=Out.ofO (atI xs i) h:=rfl
@[simp] theorem opIx_frl:aU (.frl xs) (.int i) h=Out.ofO (atI xs i) h:=rfl
theorem iE(e:h[n]?=some (.lst xs)):aU (.loc n) (.int i) h=Out.ofO (atI xs i) h:=by
 simp only[aU,e];rfl
def yk(e:h[n]?=some (.lst xs)):fLen [.loc n] h=.ok (.int xs.length) h:=by simp only[fLen,e]
def nt(e:h[n]?=some (.lst xs)):tD (.loc n) (.int i) v h=(ixN xs.length i).map fun p=>h.set n (.lst (xs.set p v)):=by simp only[tD,e]
def qi(e:h[n]?=some (.lst xs)):itAny (.loc n) h=.ok ⟨xs,[(n,xs)]⟩ h:=by simp only[itAny,e]
@[simp] theorem itAny_tup:itAny (.tup xs) h=.ok ⟨xs,[]⟩ h:=rfl
@[simp] theorem itAny_frl:itAny (.frl xs) h=.ok ⟨xs,[]⟩ h:=rfl
@[simp] theorem jo:(⟨xs,[]⟩:MIt).ok h↔True:=⟨fun _=>trivial,fun _ p hp=>nomatch hp⟩
@[simp] theorem uA:(⟨xs,[(n,zs)]⟩:MIt).ok h↔h[n]?=some (.lst zs):=by
 constructor
 ·intro q;exact q (n,zs) (by simp)
 ·intro q p hp;have e:p=(n,zs):=qaR.mp hp;subst e;exact q
end
def SOut.turn(o:SOut)(k:Mst):SOut:=match o with
 | .nx σ2 h2=>k σ2 h2
 | .ct σ2 h2=>k σ2 h2
 | .bk σ2 h2=>.nx σ2 h2
 | .rt v h2=>.rt v h2
 | .exc e σ2 h2=>.exc e σ2 h2
 | .rse e σ2 h2=>.rse e σ2 h2
 | .bad=>.bad
@[simp] theorem zh:(SOut.rse x σ h).turn k=.rse x σ h:=rfl
@[simp] theorem yZ:(SOut.exc x σ h).turn k=.exc x σ h:=rfl
@[simp] theorem turn_nx:(SOut.nx σ h).turn k=k σ h:=rfl
@[simp] theorem turn_ct:(SOut.ct σ h).turn k=k σ h:=rfl
@[simp] theorem turn_bk:(SOut.bk σ h).turn k=.nx σ h:=rfl
@[simp] theorem turn_rt:(SOut.rt v h).turn k=.rt v h:=rfl
theorem uy(e:it.ok h):mGo it g b [] σ h=.nx σ h:=by
 rw[mGo];dsimp only;rw[qae e]
def yG(e:it.ok h)(eg:g x σ h=.nx σ1 h1):mGo it g b (x::r) σ h=(b σ1 h1).turn (mGo it g b r):=by
 rw[mGo];dsimp only;rw[qae e,eg];rfl
def tZ(I:Nat->Shared->Prop)
  (turn:∀n s,I n s->wpAny (model prog w) A (pyNext it) (fun r s₁=>match r with
   | none=>R (.ok .next) s₁
   | some v=>wpAny (model prog w) A (letOwnedTupleGo target it v) (fun _ s₂'=>wpAny (model prog w) A (assign target env v) (fun _ s₂ =>
     wpAny (model prog w) A (forIn ifs true fun c r=>if r=true then do let ok <-isTrue c env (eval c env);pure (ForInStep.yield ok) else pure (ForInStep.yield r)) (fun ok s₃ =>
      if ok=true then wpAny (model prog w) A (eval elt env) (fun x s₄ =>
       wpAny (model prog w) A (call (.builtin "list.append") [acc,x]) (fun _ s₅=>∃m,m<n/\I m s₅) (fun _ _=>False) s₄) (fun _ _=>False) s₃
      else ∃m,m<n/\I m s₃) (fun _ _=>False) s₂) (fun _ _=>False) s₂') (fun _ _=>False) s₁) (fun _ _=>False) s)
  (n:Nat) (h:I n s) :
  codeAny (model prog w) A (.compLoop (.ListComp elt [⟨target,iter,ifs,0⟩] scope pos) 0 it acc env) R s:=by
 refine codeAny_loop rfl I (fun n s hI=>?_) n h;show wpAny _ A ((compTurn (.ListComp elt [⟨target,iter,ifs,0⟩] scope pos) 0 it acc env).onRaise (fun x=>do noteFrame x env;theTreesLotGoes x)) _ _ s;refine wpAny_noted ?_;rw[compTurn_list];have no:∀(e:Value) (s':Shared),False->notedBy (model prog w) A env (fun e s'=>R (.error e) s') e s':=fun _ _ z=>z.elim;refine qaa (wpAny_standAt (qaa (wpAny_mono (turn n s hI) (fun r s₁ h₁=>?_) fun _ _ h'=>h'.elim)))
 cases r with
 | none=>exact qan h₁
 | some v =>
  refine qaa (wpAny_mono h₁ (fun _ s₂' h₂'=>?_) fun _ _ h'=>h'.elim);refine qaa (wpAny_mono h₂' (fun _ s₂ h₂=>qaa (wpAny_mono h₂ (fun ok s₃ h₃=>?_) fun _ _ h'=>h'.elim)) fun _ _ h'=>h'.elim)
  cases ok with
  | false=>exact qan ⟨rfl,h₃⟩
  | true =>
   exact qaa (qaa (wpAny_mono h₃ (fun x s₄ h₄=>qaa (wpAny_mono h₄ (fun _ s₅ h₅=>qan (qan ⟨rfl,h₅⟩)) fun _ _ h'=>h'.elim)) fun _ _ h'=>h'.elim))
def kn(env:Env):List (Str × NameKind)->List (Str × Addr)->List (Str × Addr)
 | [],cs=>cs
 | (n,k)::r,cs=>kn env r (if (k == NameKind.free)=true then (n,(env.cells.lookup n).getD 0)::cs else cs)
def qL(h:∀y∈scope.names,y.2=.free->∃c,env.cells.lookup y.1=some c):closureFor scope env=pure (kn env scope.names []):=by
 have key:∀(l:List (Str × NameKind)) (cs:List (Str × Addr)),(∀y∈l,y.2=.free->∃c,env.cells.lookup y.1=some c) ->
   (forIn l cs fun (x:Str × NameKind) (r:List (Str × Addr))=>if (x.2 == NameKind.free)=true then (do let a <-cellOf env x.1;pure (ForInStep.yield ((x.1,a)::r)):Sem _) else pure (ForInStep.yield r))=(pure (kn env l cs):Sem _):=by
  intro l
  induction l with
  | nil=>intro cs _;rfl
  | cons y l ih =>
   intro cs hh;obtain⟨n,k⟩:=y;rw[qcy];have hl:=fun z hz=>hh z (qal _ hz);by_cases hk:(k == NameKind.free)=true
   ·obtain⟨c,hc⟩:=hh (n,k) qaC (by simpa using hk);dsimp only at hc ⊢;rw[qae hk];have hco:cellOf env n=pure c:=by unfold cellOf;rw[hc]
    rw[hco];refine (ih ((n,c)::cs) hl).trans ?_;simp only[kn,hk,if_true,hc,qcp]
   ·dsimp only;rw[qao hk];refine (ih cs hl).trans ?_;simp[kn,hk]
 unfold closureFor;exact (congrArg (fun z=>z >>= fun r=>pure r) (key scope.names [] h)).trans rfl
def mE:∀(l:List (Str × NameKind)) (cs:List (Str × Addr)),(∀a,cs.lookup x=some a->a=(env.cells.lookup x).getD 0)->(∀a,(kn env l cs).lookup x=some a->a=(env.cells.lookup x).getD 0)/\((∃k,(x,k)∈l/\k=.free)\/(∃a,cs.lookup x=some a)->∃a,(kn env l cs).lookup x=some a):=by
 intro l
 induction l with
 | nil =>
  intro cs h;refine⟨h,fun z=>?_⟩;rcases z with ⟨k,z,_⟩|z
  ·cases z
  ·exact z
 | cons y r ih =>
  intro cs h;obtain⟨n,k⟩:=y;have h':∀a,(if (k == NameKind.free)=true then (n,(env.cells.lookup n).getD 0)::cs else cs).lookup x=some a->a=(env.cells.lookup x).getD 0:=fun a ha=>by
   split at ha
   ·rw[qaM] at ha
    split at ha
    ·rename_i e
     have:x=n:=by simpa using e
     subst this;exact (Option.some.inj ha).symm
    ·exact h a ha
   ·exact h a ha
  obtain⟨i1,i2⟩:=ih _ h';refine⟨i1,fun z=>i2 ?_⟩;rcases z with ⟨k',z,hk⟩|⟨a,z⟩
  ·rcases qaj.mp z with e|e
   ·cases e;right;subst hk;exact⟨(env.cells.lookup x).getD 0,by simp⟩
   ·exact .inl ⟨k',e,hk⟩
  ·right;split
   ·rw[qaM];split
    ·exact⟨_,rfl⟩
    ·exact⟨a,z⟩
   ·exact⟨a,z⟩
def cE{env:Env}(hk:env.scope.kind=.function):∀{names:List (Str × NameKind)} {x:Str} {k:NameKind},names.lookup x=some k ->
  (names.map fun (n,k)=>if (k == NameKind.free && env.scope.kind == .function && env.kindOf n == some .cell) then (n,NameKind.cell) else (n,k)).lookup x=some (if k=.free/\env.kindOf x=some .cell then .cell else k):=by
 intro names
 induction names with
 | nil=>intro x k h;simp at h
 | cons y r ih0 =>
  intro x k h;obtain⟨n,k'⟩:=y;have ih:=@ih0 x k;show List.lookup x ((if (k' == NameKind.free && env.scope.kind == .function && env.kindOf n == some .cell)=true then (n,NameKind.cell) else (n,k'))::_)=_
  cases hx:x == n with
  | true =>
   have e:x=n:=by simpa using hx
   subst e;simp only[qaM,hx] at h;cases h;by_cases z:k=.free/\env.kindOf x=some .cell
   ·rw[qae (by simp[z.1,z.2,hk]),qae z];simp[qaM]
   ·rw[qao (by simp[hk];intro q1 q2;exact z ⟨q1,q2⟩),qao z];simp[qaM]
  | false =>
   simp only[qaM,hx] at h;by_cases hc:(k' == NameKind.free && env.scope.kind == .function && env.kindOf n == some .cell)=true
   ·rw[qae hc];simp only[qaM,hx];exact ih h
   ·rw[qao hc];simp only[qaM,hx];exact ih h
def dL(X:Cx)(scope:Scope)(cl:List (Str × Addr))(s₃:Shared)(H₃:Hp)(fp:List Addr)(N':List Str):Cx :=
 { X with N:=N',s₀:=s₃,H₀:=H₃,env:=compEnvC scope cl s₃.heap.objs.size X.env,outer:=X.stack,ex:=fp,fn:=fun x=>decide (scope.names.lookup x=some .cell),pn:=[],xe:=fun _ _=>False}
structure CompOk (X:Cx) (N:List Str) (scope:Scope) (vars frees:List Str) (fm:List Nat):Prop where
 kind:scope.kind=.function
 cell:∀y∈scope.names,y.2=.cell->scope.names.lookup y.1=some .cell
 names:∀y∈scope.names,y.2=.local->scope.names.lookup y.1=some .local
 hv:∀x∈vars,scope.names.lookup x=some .local\/scope.names.lookup x=some .cell
 hf:∀x∈frees,scope.names.lookup x=some .free
 all:∀y∈scope.names,y.2=.free->y.1∈frees
 fm:fm.map (fun i=>N[i]?)=frees.map some
 cl:∀x∈frees,X.env.kindOf x=some .cell
def cSt(nv:Nat)(fm:List Nat)(σ:PSt):PSt:=List.replicate nv none++fm.map fun i=>(σ[i]?).getD none
def cGo(it:MIt)(n:Nat)(gt:Mg)(mt:Mx Bool)(me:Mx PV):List PV->PSt->MH->Out Unit
 | [],_,h=>if it.ok h then .ok () h else .bad
 | x::r,σ,h=>if it.ok h then (match gt x σ h with
  | .nx σ1 h1=>(mt σ1 h1).ne.bind fun b h2=>if b=true then (me σ1 h2).ne.bind fun v h3=>(match h3[n]? with
    | some (.lst ys)=>if ys.length<sizeLine then cGo it n gt mt me r σ1 (h3.set n (.lst (ys++[v]))) else .bad
    | _=>.bad) else cGo it n gt mt me r σ1 h2
  | _=>.bad) else .bad
def bI(nv:Nat)(fm:List Nat)(mi:Mx MIt)(gt:Mg)(mt:Mx Bool)(me:Mx PV):Mx PV:=fun σ h =>
 (mi σ h).bind fun it h1=>(cGo it h1.length gt mt me it.xs (cSt nv fm σ) (h1++[.lst []])).bind fun _ h3=>.ok (.loc h1.length) h3
def MTs(X:Cx)(ifs:List Expr)(m:Mx Bool):Prop :=
 ∀(G6:List (Addr × Obj)) (s:Shared) (σ:L2.St) (H:Hp) (Q:Bool->Hp->Prop),Inv X G6 σ H s->tM X REq m σ H Q ->
  wpAny (model X.prog X.w) X.A (forIn ifs true fun c r=>if r=true then do let ok <-isTrue c X.env (eval c X.env);pure (ForInStep.yield ok) else pure (ForInStep.yield r)) (TP X G6 σ Q) X.xe s
def mTrue:Mx Bool:=fun _ h=>.ok true h
def dE:MTs X [] mTrue:=fun G6 s σ H Q I ⟨ρ,σp,h,rs,rh,q⟩=>wpAny_tests_nil ⟨H,I,q ρ H true (Le.refl _ _) rh rfl⟩
def lP(h:MT X c m):MTs X [c] m:=fun G6 s σ H Q I q=>wpAny_tests_one (h G6 s σ H Q I q)
inductive CS (X:Cx) (ρ:List Addr) (H:Hp) (σp:PSt) (gt:Mg) (mt:Mx Bool) (me:Mx PV) (σ0:PSt) (Q:VK) (J:It) (H1:Hp):Prop
 | mk (ρ1:List Addr) (it:MIt) (h1:MH) (l:Le ρ H ρ1 H1) (rh:RH X.K X.mg ρ1 H1 h1) (j:sZ X ρ1 H1 it J) (q:Ful X (RV' X) σp ρ1 H1 ((cGo it h1.length gt mt me it.xs σ0 (h1++[.lst []])).bind fun _ h3=>.ok (.loc h1.length) h3) Q):CS X ρ H σp gt mt me σ0 Q J H1
inductive CI (X Y:Cx) (it:MIt) (tn:Nat->Heap->Prop) (fp ρ0:List Addr) (H0:Hp) (σp:PSt) (n1:Nat) (gt:Mg) (mt:Mx Bool) (me:Mx PV) (Q:VK) (n:Nat) (s6:Shared):Prop
 | mk (i:Nat) (σ6:L2.St) (H6:Hp) (ρ6:List Addr) (σp6:PSt) (h6:MH) (e:n=it.xs.length - i) (l:i<=it.xs.length) (v:Inv Y [] σ6 H6 s6) (t:tn i s6.heap) (f:∀b∈fp,H6 b=none) (le:Le ρ0 H0 ρ6 H6) (rs:RS X.K ρ6 H6 σp6 σ6) (rh:RH X.K X.mg ρ6 H6 h6)
   (q:Ful X (RV' X) σp ρ6 H6 ((cGo it n1 gt mt me (it.xs.drop i) σp6 h6).bind fun _ h3=>.ok (.loc n1) h3) Q):CI X Y it tn fp ρ0 H0 σp n1 gt mt me Q n s6
def qM
  (hQ:Q (newEnv scope s.heap.objs.size globals (cellsFrom (s.heap.objs.size+1) scope.names closure) qual none .none (some env) builtinsNs) { s with heap:=pushCells (s.heap.push { cls:=.type "dict",data:=.dict #[]}) scope.names}) :
  wpAny M A (newFunctionEnv scope globals closure [] qual none .none (some env)) Q E s:=by
 simp only[newFunctionEnv,Option.isSome_some,if_true];refine qaa (wpAny_alloc ?_);refine qaa (wpAny_layCells _ (fun name kind cells=>by cases hkc:kind == NameKind.cell <;> simp[hkc]) _ _ _ _ ?_);rw[show ({ s with heap:=s.heap.push { cls:=.type "dict",data:=.dict #[]}}:Shared).heap.objs.size=s.heap.objs.size+1 from qbi ..];rw[qcC];exact qaa (qan (qan hQ))
def dz:∀(names:List (Str × NameKind)) (n:Nat) (acc:List (Str × Addr)),cellsFrom n names acc=cellsFrom n names []++acc
 | [],n,acc=>rfl
 | (x,k)::r,n,acc=>by
  unfold cellsFrom;split
  ·rw[dz r (n+1) ((x,n)::acc),dz r (n+1) [(x,n)]];simp
  ·exact dz r n acc
def fN:∀(names:List (Str × NameKind)) (n:Nat) (x:Str),(∃c,(x,c)∈cellsFrom n names [])↔(x,NameKind.cell)∈names
 | [],n,x=>by simp[cellsFrom]
 | (y,k)::r,n,x=>by
  unfold cellsFrom;split
  ·rename_i hk
   have hk':k=NameKind.cell:=by simpa using hk
   subst hk';rw[dz];constructor
   ·rintro⟨c,hc⟩;rcases qap.mp hc with hc|hc
    ·exact qal _ ((fN r (n+1) x).mp ⟨c,hc⟩)
    ·have:x=y:=by simp at hc;exact hc.1
     rw[this];exact qaC
   ·intro h;rcases qaj.mp h with e|h
    ·have:x=y:=by simpa using e
     subst this;exact⟨n,qad _ (by simp)⟩
    ·obtain⟨c,hc⟩:=(fN r (n+1) x).mpr h;exact⟨c,qay _ hc⟩
  ·rename_i hk
   rw[fN r n x];constructor
   ·exact qal _
   ·intro h;rcases qaj.mp h with e|h
    ·exfalso
     have:NameKind.cell=k:=by simpa using (Prod.mk.inj e).2
     rw[<-this] at hk;exact hk rfl
    ·exact h
def j6{α:Type}:∀(a b:List (Str × α)) (x:Str),(a++b).lookup x=(a.lookup x).or (b.lookup x)
 | [],b,x=>rfl
 | (y,v)::a,b,x=>by
  rw[List.cons_append,qaM,qaM]
  cases x == y with
  | true=>rfl
  | false=>exact j6 a b x
def rj{α:Type}:∀(a:List (Str × α)) (x:Str),a.lookup x=none->∀c,(x,c)∉a
 | [],x,_,c,h=>nomatch h
 | (y,v)::a,x,e,c,h=>by
  rw[qaM] at e
  cases z:x == y with
  | true=>rw[z] at e;cases e
  | false =>
   rw[z] at e;rcases qaj.mp h with q|q
   ·have:x=y:=(Prod.mk.inj q).1
    rw[this] at z;simp at z
   ·exact rj a x e c q
section
variable {X:Cx} {N W G:List Str} {k:Nat}
def pU(g:Good X N W G k){tg iter elt:Expr}{ifs:List Expr}{scope:Scope}{pos:Pos}{vars frees G':List Str}{fm:List Nat}{mi:Mx MIt}{gt:Mg}{mt:Mx Bool}{me:Mx PV}(C:CompOk X N scope vars frees fm)
  (nd:(vars++frees).Nodup) (hgl:∀x∈G',scope.names.lookup x=some .globalImplicit) (dbg:∀x∈(vars++frees)++G',(x == ("__debug__":Str))=false/\(x == ("__classdict__":Str))=false/\x≠"__name__")
  (hi:MI X tg iter mi)
  (hY:∀Y:Cx,Y.prog=X.prog->Y.w=X.w->Y.K=X.K->Y.mg=X.mg->Y.base=X.base->Y.env.scope=relabel scope X.env->Good Y (vars++frees) vars G' k->MG Y tg gt/\MTs Y ifs mt/\ME Y elt me)
  (hs:∀x,foldedSetIterable iter X.env x=pure x) {use:Option (Value->Sem Unit)} {Qv:Value->Shared->Prop} {pp:Pos} {G6:List (Addr × Obj)} {s:Shared} {σ:L2.St} {H:Hp} {Q:VK} (I:Inv X G6 σ H s) (tm:tM X (RV' X) (bI vars.length fm mi gt mt me) σ H Q)
  (fin:∀(acc C:Addr) (H6:Hp) (s7:Shared) (m7:Str->Option Value),Inv X G6 σ H6 s7->H6 C=none->s7.heap.Ns C m7->C≠X.env.locals->X.s₀.heap.objs.size<=C->C∉X.fs->(∀x c,X.env.cells.lookup x=some c->c≠C)->(∀p∈X.pn++G6,p.1≠C)->Q (.ref acc) H6 ->
   compPost (model X.prog X.w) X.A X.xe use Qv (.ref acc) C (.ok .next) s7) :
  wpAny (model X.prog X.w) X.A (comprehension (.ListComp elt [⟨tg,iter,ifs,0⟩] scope pos) scope X.env pp (newList []) false (eval iter X.env) use) Qv X.xe s:=by
 obtain⟨ρ,σp,h,rs,rh,q⟩:=tm;have hfree:∀y∈scope.names,y.2=.free->∃c,X.env.cells.lookup y.1=some c:=fun y hy e=>I.ok.has y.1 (.inl (C.cl _ (C.all y hy e)));refine wpAny_comprehension_free (use:=use) rfl hs (qL hfree) C.kind C.names ?_;generalize hcl:kn X.env scope.names []=cl;have clk:∀x a,cl.lookup x=some a->X.env.cells.lookup x=some a\/((X.env.cells.lookup x)=none/\a=0):=fun x a e=>by
  rw[<-hcl] at e
  have:=(mE (env:=X.env) (x:=x) scope.names [] (fun a z=>by simp at z)).1 a e
  cases z:X.env.cells.lookup x with
  | none=>right;rw[z] at this;exact⟨rfl,this⟩
  | some c=>left;rw[z] at this;rw[this];rfl
 have clf:∀x∈frees,∃c,cl.lookup x=some c/\X.env.cells.lookup x=some c:=fun x hx=>by
  obtain⟨c,hc⟩:=I.ok.has x (.inl (C.cl x hx));have hm:(∃kk,(x,kk)∈scope.names/\kk=.free):=⟨.free,PySem.mem_of_lookup (C.hf x hx),rfl⟩;obtain⟨a,ha⟩:=(mE (env:=X.env) (x:=x) scope.names [] (fun a z=>by simp at z)).2 (.inl hm);rw[hcl] at ha;rcases clk x a ha with z|⟨z,_⟩
  ·rw[hc] at z;cases z;exact⟨c,ha,hc⟩
  ·rw[hc] at z;cases z
 have clin:∀x a,cl.lookup x=some a->X.env.cells.lookup x=some a/\x∈frees:=fun x a e=>by
   have only:∀(l:List (Str × NameKind)) (cs:List (Str × Addr)) (x:Str) (a:Addr),(kn X.env l cs).lookup x=some a->(x,NameKind.free)∈l\/cs.lookup x=some a:=by
    intro l
    induction l with
    | nil=>intro cs x a e;exact .inr e
    | cons y l ih =>
     intro cs x a e;obtain⟨n,kk⟩:=y;rcases ih _ x a e with z|z
     ·exact .inl (qal _ z)
     ·split at z
      ·rename_i hk
       have hk':kk=NameKind.free:=by simpa using hk
       rw[qaM] at z
       split at z
       ·rename_i e'
        have:x=n:=by simpa using e'
        subst this;subst hk';exact .inl qaC
       ·exact .inr z
      ·exact .inr z
   have e':=e;rw[<-hcl] at e';rcases only _ _ x a e' with z'|z'
   ·refine⟨?_,C.all _ z' rfl⟩;rcases clk x a e with z|⟨z,_⟩
    ·exact z
    ·obtain⟨c,hc⟩:=hfree _ z' rfl;rw[z] at hc;cases hc
   ·simp at z'
 have start:=hi G6 s σ H (CS X ρ H σp gt mt me (cSt vars.length fm σp) Q) I
  ⟨ρ,σp,h,rs,rh,Ful.bind q fun ρ1 H1 it J h1 _ l1 rh1 jr q1=>⟨ρ1,it,h1,l1,rh1,jr,q1⟩⟩
 refine wpAny_mono start (fun x s₁ h₁=>wpAny_mono h₁ (fun itv s₂ h₂=>?_) fun _ _ e=>e) fun _ _ e=>e;obtain⟨ita,fp,tn,J,H2,rfl,I2,T,st2,f2,ρ1,it,h1,l1,rh1,jr,q1⟩:=h₂;refine wpAny_newObj_type ?_;have hf2:H2 s₂.heap.objs.size=none:=I2.hok.fresh (qai _);have I3:=I2.lnew (ys:=[]) (its:=[]) (t':=s₂.toks) .nil (qaP _);obtain⟨rh3,l3⟩:=rh1.new hf2 (o:=.lst []) (ho:=.lst []) ⟨[],rfl,.nil⟩;generalize hs3:({ s₂ with heap:=s₂.heap.push { cls:=.type "list",data:=.seq ([]:List Value).toArray},toks:=s₂.toks}:Shared)=s₃ at I3;generalize hH3:upd H2 s₂.heap.objs.size (.lst [])=H₃ at I3 rh3 l3;have hacc:H₃ s₂.heap.objs.size=some (.lst []):=by rw[<-hH3];exact bC
 have es3:s₃.heap=s₂.heap.push { cls:=.type "list",data:=.seq ([]:List Value).toArray}:=by rw[<-hs3]
 have st3:tn 0 s₃.heap:=T.keep _ _ _ st2 fun b _ o e=>by rw[es3];exact qac _ e
 have fp3:∀b∈fp,iH X G6 H₃ b:=fun b hb=>by
  obtain⟨a0,a1⟩:=f2 b hb;refine⟨?_,a1⟩;obtain⟨o,eo,_⟩:=T.obj _ _ st2 b hb;rw[<-hH3,aV (qaL (qam eo))];exact a0
 have goal3:wpAny (model X.prog X.w) X.A (newFunctionEnv scope X.env.globals cl [] X.env.qual none .none (some X.env)) (fun cenv s₄ =>
    codeAny (model X.prog X.w) X.A (.compStart (.ListComp elt [⟨tg,iter,ifs,0⟩] scope pos) 0 (.ref ita) (.ref s₂.heap.objs.size) { cenv with scope:=relabel scope X.env}) (compPost (model X.prog X.w) X.A X.xe use Qv (.ref s₂.heap.objs.size) cenv.locals) s₄) X.xe s₃:=by
  refine qM ?_;have keep4:∀b o,s₃.heap.get? b=some o->(pushCells (s₃.heap.push { cls:=.type "dict",data:=.dict #[]}) scope.names).get? b=some o:=fun b o e=>pushCells_keeps _ _ b o (qac _ e);have hns:=(Heap.Ns.new s₃.heap (.type "dict")).keeps (pushCells_keeps scope.names _);have okc:=cellsFrom_ok scope.names (s₃.heap.push { cls:=.type "dict",data:=.dict #[]}) (s₃.heap.objs.size+1) [] ⟨fun _ _ hm=>(nomatch hm),List.Pairwise.nil⟩ (by rw[qbi];exact qai _);rw[qbi] at okc;rw[dz];have hin:=fN scope.names (s₃.heap.objs.size+1);generalize cellsFrom (s₃.heap.objs.size+1) scope.names []=cn at okc hin ⊢;generalize pushCells (s₃.heap.push { cls:=.type "dict",data:=.dict #[]}) scope.names=h' at keep4 hns okc ⊢;dsimp only[newEnv];have csl:∀x c,(cn++cl).lookup x=some c->((x,c)∈cn/\scope.names.lookup x=some .cell/\s₃.heap.objs.size<c/\h'.IsCell c none)\/(X.env.cells.lookup x=some c/\scope.names.lookup x=some .free):=fun x c e=>by
   rw[j6] at e
   cases z:cn.lookup x with
   | some c' =>
    rw[z] at e
    have:c'=c:=by simpa using e
    subst this;have m:=PySem.mem_of_lookup z;obtain⟨q1,q2⟩:=okc.empty x c' m;exact .inl ⟨m,C.cell _ ((hin x).mp ⟨c',m⟩) rfl,q2,q1⟩
   | none =>
    rw[z] at e;obtain⟨q1,q2⟩:=clin x c (by simpa using e);exact .inr ⟨q1,C.hf x q2⟩
  have csf:∀x c,x∈frees->cl.lookup x=some c->(cn++cl).lookup x=some c:=fun x c hx e=>by
   rw[j6]
   cases z:cn.lookup x with
   | none=>simpa using e
   | some c' =>
    have:=C.cell _ ((hin x).mp ⟨c',PySem.mem_of_lookup z⟩) rfl
    rw[C.hf x hx] at this;cases this
  have old:∀x c,X.env.cells.lookup x=some c->c<s₃.heap.objs.size:=fun x c e=>by
   obtain⟨v,qc⟩:=I3.cell x c e;exact qc.lt
  have ok:(dL X scope (cn++cl) s₃ H₃ fp (vars++frees)).Ok:=by
   refine⟨I3.ok.mod,C.kind,I3.ok.glob,I3.ok.blt,qai _,fun x y c h1 h2=>?_,fun x hx=>?_,fun x c hx e=>?_,I3.ok.hd,I3.ok.frames,.inl rfl,
    fun b hb=>⟨?_,fun x c e z=>?_⟩,I3.bs,qax I3.ok.bsz I3.sz,fun b o e hb=>?_,fun b hb z=>?_,I3.stack,I3.stkFree⟩
   ·rcases csl x c h1 with ⟨a1,_,a2,_⟩|⟨a1,_⟩ <;> rcases csl y c h2 with ⟨b1,_,b2,_⟩|⟨b1,_⟩
    ·exact PySem.name_of_addr okc.apart a1 b1
    ·exact absurd (qcb a2 (old y c b1)) (qaQ _)
    ·exact absurd (qcb b2 (old x c a1)) (qaQ _)
    ·exact I3.ok.inj x y c a1 b1
   ·
    have hx':(relabel scope X.env).names.lookup x=some .cell\/(relabel scope X.env).names.lookup x=some .free:=hx
    cases e:scope.names.lookup x with
    | none =>
     exfalso;have nn:∀(l:List (Str × NameKind)),l.lookup x=none->(l.map fun (n,k)=>if (k == NameKind.free && X.env.scope.kind == .function && X.env.kindOf n == some .cell) then (n,NameKind.cell) else (n,k)).lookup x=none:=by
      intro l
      induction l with
      | nil=>intro _;rfl
      | cons y l ih =>
       intro hl;obtain⟨n,kk⟩:=y;rw[qaM] at hl
       split at hl
       ·cases hl
       ·rename_i hx2
        rw[qaE];dsimp only
        split <;> (rw[qaM];simp only[hx2];exact ih hl)
     have e2:=nn scope.names e;rcases hx' with z|z
     ·rw[show (relabel scope X.env).names.lookup x=none from e2] at z;cases z
     ·rw[show (relabel scope X.env).names.lookup x=none from e2] at z;cases z
    | some kk =>
     have e2:=cE (env:=X.env) I3.ok.kind e;have hk:kk=.free\/kk=.cell:=by
      rcases hx' with z|z
      ·rw[show (relabel scope X.env).names.lookup x=_ from e2] at z;have z':=Option.some.inj z;by_cases zz:kk=.free/\X.env.kindOf x=some .cell
       ·exact .inl zz.1
       ·rw[qao zz] at z';exact .inr z'
      ·rw[show (relabel scope X.env).names.lookup x=_ from e2] at z;have z':=Option.some.inj z;by_cases zz:kk=.free/\X.env.kindOf x=some .cell
       ·exact .inl zz.1
       ·rw[qao zz] at z';exact .inl z'
     rcases hk with hk|hk
     ·subst hk;have hf:=C.all _ (PySem.mem_of_lookup e) rfl;obtain⟨c,h1,_⟩:=clf x hf;exact⟨c,csf x c hf h1⟩
     ·subst hk;obtain⟨c,hc⟩:=(hin x).mpr (PySem.mem_of_lookup e);show ∃c,(cn++cl).lookup x=some c;rw[j6]
      cases z:cn.lookup x with
      | some c'=>exact⟨c',rfl⟩
      | none=>exact absurd hc (rj cn x z c)
   ·have hx':=of_decide_eq_true hx;rcases csl x c e with ⟨_,_,q,_⟩|⟨_,q⟩
    ·exact qbG q
    ·rw[q] at hx';cases hx'
   ·obtain⟨o,eo,_⟩:=T.obj _ _ st3 b hb;exact qaL (qam eo)
   ·rcases csl x c e with ⟨_,_,q,_⟩|⟨q,_⟩
    ·obtain⟨o,eo,_⟩:=T.obj _ _ st3 b hb;exact absurd (qcb q (z▸qam eo)) (qaQ _)
    ·exact (fp3 b hb).2.2.2.2.1 x c q z
   ·obtain⟨_,_,_,h4,_⟩:=fp3 b hb;rcases h4 with h4|h4
    ·exact I3.ok.noex b o e h4
    ·exact absurd (qau (qam e) (qax I3.ok.bsz h4)) (qaQ _)
   ·obtain⟨_,h2,h3,_⟩:=fp3 b hb;rcases qaj.mp (I3.stkSub b z) with e|e
    ·exact h2 e
    ·exact h3 e
  obtain⟨mX,nsX,lX⟩:=I3.loc;have l13:Le ρ H (ρ1++[s₂.heap.objs.size]) H₃:=l1.trans l3
  let σY:L2.St:=List.replicate vars.length none++fm.map fun i=>(σ[i]?).getD none
  have fml:fm.length=frees.length:=by have:=congrArg List.length C.fm;simpa using this
  have invY:Inv (dL X scope (cn++cl) s₃ H₃ fp (vars++frees)) [] σY H₃ { s₃ with heap:=h',toks:=s₃.toks}:=by
   refine⟨ok,rfl,I3.bare,Un.kept keep4,⟨_,hns,fun i x v hN hv hvis=>?_⟩,fun x c e=>?_,?_,fun x c e=>?_,fun p hp=>absurd (show p∈([]:List (Addr × Obj)) from hp) (by simp),I3.hok.kept keep4,?_⟩
   ·have hN':(vars++frees)[i]?=some x:=hN;have hiv:vars.length<=i:=by
     by_cases z:vars.length<=i
     ·exact z
     ·exfalso;have hv':σY[i]?=some (some v):=hv;rw[qak (by simp;ext),qaZ] at hv'
      split at hv' <;> cases hv'
    have hv':σY[i]?=some (some v):=hv;rw[qaw (by simpa using hiv),qbs,qaK] at hv';rw[qaw hiv] at hN'
    cases ej:fm[i - vars.length]? with
    | none=>rw[ej] at hv';cases hv'
    | some j =>
     rw[ej] at hv';have ef:=congrArg (fun l=>l[i - vars.length]?) C.fm;simp only[qaK,ej,hN',qbK] at ef;have ef':N[j]?=some x:=by simpa using ef
     have ev:σ[j]?=some (some v):=by
      have:(σ[j]?).getD none=some v:=by simpa using hv'
      cases z:σ[j]? with
      | none=>rw[z] at this;cases this
      | some o=>rw[z] at this;simp at this;rw[this]
     have hx:x∈frees:=qbm hN';have vis:Vis X.env.scope x:=.inr (.inl (C.cl x hx));obtain⟨u,ru,look⟩:=lX j x v (by rw[g.hN];exact ef') ev vis;refine⟨u,ru,.inr ⟨?_,?_⟩⟩
     ·left;show (relabel scope X.env).names.lookup x=some .cell
      have:=cE (env:=X.env) I3.ok.kind (C.hf x hx)
      rw[qae ⟨rfl,C.cl x hx⟩] at this;exact this
     ·rcases look with ⟨hk,_⟩|⟨_,c,hc,hcell⟩
      ·rw[C.cl x hx] at hk;cases hk
      ·obtain⟨c',h1,h2⟩:=clf x hx;rw[hc] at h2;cases h2;obtain⟨o,eo,ed⟩:=hcell;exact⟨c,csf x c hx h1,o,keep4 _ _ eo,ed⟩
   ·rcases csl x c e with ⟨_,_,_,q⟩|⟨q,_⟩
    ·exact⟨none,q⟩
    ·obtain⟨v,o,eo,ed⟩:=I3.cell x c q;exact⟨v,o,keep4 _ _ eo,ed⟩
   ·exact I3.hok.fresh (qai _)
   ·rcases csl x c e with ⟨_,_,q,_⟩|⟨q,_⟩
    ·exact I3.hok.fresh (qbG q)
    ·exact I3.freeC x c q
   ·show σY.length=(vars++frees).length;simp[σY,fml]
  have gY:Good (dL X scope (cn++cl) s₃ H₃ fp (vars++frees)) (vars++frees) vars G' k:=by
   refine⟨rfl,nd,fun x hx=>?_,fun x hx=>?_,fun x hx=>?_,dbg,g.calm,g.room,PassesOwn.never⟩
   ·rcases qap.mp hx with z|z
    ·rcases C.hv x z with z|z
     ·left
      have:=cE (env:=X.env) I3.ok.kind z
      rw[qao (fun q=>nomatch q.1)] at this;exact this
     ·right
      have:=cE (env:=X.env) I3.ok.kind z
      rw[qao (fun q=>nomatch q.1)] at this;exact this
    ·right
     have:=cE (env:=X.env) I3.ok.kind (C.hf x z)
     rw[qae ⟨rfl,C.cl x z⟩] at this;exact this
   ·rcases C.hv x hx with z|z
    ·right
     have:=cE (env:=X.env) I3.ok.kind z
     rw[qao (fun q=>nomatch q.1)] at this;exact this
    ·exact .inl (decide_eq_true z)
   ·have:=cE (env:=X.env) I3.ok.kind (hgl x hx)
    rw[qao (fun q=>nomatch q.1)] at this;exact this
  obtain⟨hg,ht,he⟩:=hY (dL X scope (cn++cl) s₃ H₃ fp (vars++frees)) rfl rfl rfl rfl rfl rfl gY;have rsY:RS X.K (ρ1++[s₂.heap.objs.size]) H₃ (cSt vars.length fm σp) σY:=by
   refine⟨by simp[σY,cSt],fun i v e=>?_⟩;unfold cSt at e;by_cases z:vars.length<=i
   ·rw[qaw (by simpa using z),qbs,qaK] at e
    cases ej:fm[i - vars.length]? with
    | none=>rw[ej] at e;cases e
    | some j =>
     rw[ej] at e;have ev:σp[j]?=some (some v):=by
      have:(σp[j]?).getD none=some v:=by simpa using e
      cases z:σp[j]? with
      | none=>rw[z] at this;cases this
      | some o=>rw[z] at this;simp at this;rw[this]
     obtain⟨v',e',rv⟩:=rs.2 j v ev;refine⟨v',?_,rv.le l13⟩;show σY[i]?=_;rw[qaw (by simpa using z),qbs,qaK,ej];simp[e']
   ·rw[qak (by simp;ext),qaZ] at e
    split at e <;> cases e
  have q3:Ful X (RV' X) σp (ρ1++[s₂.heap.objs.size]) H₃ ((cGo it h1.length gt mt me it.xs (cSt vars.length fm σp) (h1++[.lst []])).bind fun _ h3=>.ok (.loc h1.length) h3) Q:=Ful.le l3 q1;have hrho:(ρ1++[s₂.heap.objs.size])[h1.length]?=some s₂.heap.objs.size:=by rw[<-rh1.len];simp
  have loop:∀s₅:Shared,s₅={ s₃ with heap:=h',toks:=s₃.toks}->codeAny (model X.prog X.w) X.A (.compLoop (.ListComp elt [⟨tg,iter,ifs,0⟩] scope pos) 0 (.ref ita) (.ref s₂.heap.objs.size) (compEnvC scope (cn++cl) s₃.heap.objs.size X.env))
    (compPost (model X.prog X.w) X.A X.xe use Qv (.ref s₂.heap.objs.size) s₃.heap.objs.size) s₅:=by
   rintro s₅ rfl;refine tZ (CI X (dL X scope (cn++cl) s₃ H₃ fp (vars++frees)) it tn fp (ρ1++[s₂.heap.objs.size]) H₃ σp h1.length gt mt me Q) ?_ it.xs.length
    ⟨0,σY,H₃,_,_,_,rfl,qaP _,invY,T.keep _ _ _ st3 (fun b _ o e=>keep4 b o e),fun b hb=>(fp3 b hb).1,Le.refl _ _,rsY,rh3,by simpa using q3⟩
   rintro n s6 ⟨i,σ6,H6,ρ6,σp6,h6,rfl,hi6,I6,st6,fr6,l6,rs6,rh6,q6⟩;have stat:∀{H':Hp},(∀b∈fp,H' b=none)->∀b∈fp,iH (dL X scope (cn++cl) s₃ H₃ fp (vars++frees)) [] H' b:=fun {H'} hn b hb =>
    ⟨hn b hb,(ok.exf b hb).1,ok.exfs b hb,.inl hb,(ok.exf b hb).2,fun p hp=>absurd (show p∈([]:List (Addr × Obj)) from hp) (by simp)⟩
   by_cases hlt:i<it.xs.length
   ·have ed:it.xs.drop i=it.xs[i]::it.xs.drop (i+1):=qce hlt;rw[ed] at q6;simp only[cGo] at q6;by_cases hok:it.ok h6
    ·rw[qae hok] at q6;obtain⟨j1,_⟩:=jr ρ6 H6 h6 i (l3.trans l6) rh6 hok;obtain⟨go,yl⟩:=j1 hlt;refine thn (T.item (dL X scope (cn++cl) s₃ H₃ fp (vars++frees)) rfl rfl rfl g.calm i [] s6 σ6 H6 (fun _ _=>False) I6 (stat fr6) st6 go) fun r s7 ⟨u,hr,h7⟩=>?_;subst hr;refine thn h7 fun _ s8 ⟨x8,H8,I8,r8,y8,st8,fr8⟩=>?_;obtain⟨ρ8,x,l8,rh8,ex,rx⟩:=yl x8 H8 y8;have ex':x=it.xs[i]:=by rw[qaJ hlt] at ex;exact (Option.some.inj ex).symm
     subst ex';have I8p:=I8.pinned (stat fr8) (T.obj _ _ st8);have q8:=Ful.le l8 q6;have back:∀{σ9:L2.St} {H9:Hp} {s9:Shared},Inv (dL X scope (cn++cl) s₃ H₃ fp (vars++frees)) ([]++kW fp s8.heap) σ9 H9 s9->Inv (dL X scope (cn++cl) s₃ H₃ fp (vars++frees)) [] σ9 H9 s9/\tn (i+1) s9.heap/\∀b∈fp,H9 b=none:=fun {σ9 H9 s9} I9=>by
      refine⟨I9.unpinned,T.keep _ _ _ st8 fun b hb o e=>(I9.pin (b,o) (qad _ (qad _ (hX hb e)))).1,fun b hb=>?_⟩;obtain⟨o,e,d⟩:=T.obj _ _ st8 b hb;exact (I9.pin (b,o) (qad _ (qad _ (hX hb e)))).2.1
     cases eg:gt it.xs[i] σp6 h6 with
     | nx σp9 h9 =>
      rw[eg] at q8;dsimp only at q8
      refine thn (hg _ s8 σ6 H8 x8 u (fun σ' H'=>∃ρ',Le ρ8 H8 ρ' H'/\RH X.K X.mg ρ' H' h9/\RS X.K ρ' H' σp9 σ') I8p r8 ⟨ρ8,σp6,h6,_,rs6.le l8,rh8,rx,by
       show nc _ _ _ (gt it.xs[i] σp6 h6) _
       rw[eg];exact fun ρ' H' σ' l r s=>⟨ρ',l,r,s⟩⟩) fun _ s9 ⟨σ9,H9,I9,ρ9,l9,rh9,rs9⟩=>?_
      have q9:=Ful.le l9 q8
      cases em:mt σp9 h9 with
      | ok b h10 =>
       rw[em,Out.ne_ok] at q9;rw[Out.bind_ok] at q9
       refine thn (ht _ s9 σ9 H9 (fun b' H'=>b'=b/\∃ρ',Le ρ9 H9 ρ' H'/\RH X.K X.mg ρ' H' h10) I9 ⟨ρ9,σp9,h9,rs9,rh9,by
        show Ful _ _ _ _ _ (mt σp9 h9) _
        rw[em];exact fun ρ' H' v' l r e=>⟨e.symm,ρ',l,r⟩⟩) fun b' s10 ⟨H10,I10,eb,ρ10,l10,rh10⟩=>?_
       subst eb;have q10:=Ful.le l10 q9
       cases b' with
       | false =>
        rw[qao qaN] at q10 ⊢;obtain⟨I10',st10,fr10⟩:=back I10;exact⟨_,by ext,i+1,σ9,H10,ρ10,σp9,h10,rfl,hlt,I10',st10,fr10,l6.trans (l8.trans (l9.trans l10)),rs9.le l10,rh10,q10⟩
       | true =>
        rw[qae rfl] at q10 ⊢
        cases ee:me σp9 h10 with
        | ok v h11 =>
         rw[ee,Out.ne_ok] at q10;rw[Out.bind_ok] at q10
         refine thn (he _ s10 σ9 H10 (fun v' H'=>∃ρ',Le ρ10 H10 ρ' H'/\RH X.K X.mg ρ' H' h11/\RP X.K ρ' H' v v') I10 ⟨ρ10,σp9,h10,rs9.le l10,rh10,by
          show Ful _ _ _ _ _ (me σp9 h10) _
          rw[ee];exact fun ρ' H' v' l r e=>⟨ρ',l,r,e⟩⟩) fun u11 s11 ⟨v',H11,I11,ru11,ρ11,l11,rh11,rv11⟩=>?_
         have q11:=Ful.le l11 q10;have lall:Le (ρ1++[s₂.heap.objs.size]) H₃ ρ11 H11:=l6.trans (l8.trans (l9.trans (l10.trans l11)));obtain⟨oa,eoa,roa⟩:=rh11.obj (lall.get hrho);rw[eoa] at q11
         cases oa with
         | dic kvs=>exact q11.elim
         | exc x=>exact q11.elim
         | lst ys =>
          dsimp only at q11;by_cases hl11:ys.length<sizeLine
          ·rw[qae hl11] at q11;obtain⟨ys',ey',ry⟩:=roa;obtain⟨rh12,l12⟩:=rh11.put (lall.get hrho) (o:=.lst (ys++[v])) (ho:=.lst (ys'++[v'])) ⟨_,rfl,ry.append (.cons rv11 .nil)⟩;have ap:=qw (X:=dL X scope (cn++cl) s₃ H₃ fp (vars++frees)) _ s11 σ9 H11 (.ref s₂.heap.objs.size) [v'] (.ref s₂.heap.objs.size) [u11] (fun _ H'=>H'=upd H11 s₂.heap.objs.size (.lst (ys'++[v']))) I11 rfl (.cons ru11 .nil) ⟨s₂.heap.objs.size,ys',v',rfl,rfl,ey',by rw[<-ry.length];exact hl11,rfl⟩;refine thn ap fun _ s12 ⟨_,H12,I12,_,eH⟩=>?_;subst eH;obtain⟨I12',st12,fr12⟩:=back I12;exact⟨_,by ext,i+1,σ9,_,ρ11,σp9,_,rfl,hlt,I12',st12,fr12,lall.trans l12,(rs9.le l10).le (l11.trans l12),rh12,Ful.le l12 q11⟩
          ·rw[qao hl11] at q11;exact q11.elim
        | exc x h11=>rw[ee] at q10;exact q10.elim
        | bad=>rw[ee] at q10;exact q10.elim
      | exc x h10=>rw[em] at q9;exact q9.elim
      | bad=>rw[em] at q9;exact q9.elim
     | _=>rw[eg] at q8;exact q8.elim
    ·rw[qao hok] at q6;exact q6.elim
   ·have e:i=it.xs.length:=by ext
    rw[e,List.drop_length] at q6;simp only[cGo] at q6;by_cases hok:it.ok h6
    ·rw[qae hok] at q6;obtain⟨_,j2⟩:=jr ρ6 H6 h6 i (l3.trans l6) rh6 hok;refine thn (T.done (dL X scope (cn++cl) s₃ H₃ fp (vars++frees)) rfl rfl rfl g.calm i [] s6 σ6 H6 (fun _ _=>False) I6 (stat fr6) st6 (j2 (by ext))) fun r s7 ⟨hr,I7⟩=>?_;subst hr;obtain⟨m7,ns7,_⟩:=I7.loc;have IX:=I3.call' (s':=s7) (ch:=fp) I7.os I7.base I7.hok I7.bare fun b hb=>by
      obtain⟨_,a2,_,a4,a5,a6⟩:=fp3 b hb;exact⟨a4,a2,a5,a6⟩
     exact fin _ _ H6 s7 m7 IX I7.free ns7 (qbj I3.lt) I3.sz (I3.nofs (qai _)) (fun x c e z=>by
      obtain⟨v,qc⟩:=I3.cell x c e
      exact absurd qc.lt (by rw[z];exact qaQ _)) (fun p hp z=>absurd (qam (I3.pin p hp).1) (by rw[z];exact qaQ _)) (q6 ρ6 H6 _ (Le.refl _ _) rh6 (.loc (l6.get hrho)))
    ·rw[qao hok] at q6;exact q6.elim
  exact codeAny_compStart_list (loop _ rfl) (T.self X.A 0 _ _ _ (T.keep _ _ _ st3 (fun b _ o e=>keep4 b o e)) (loop _ rfl))
 exact goal3
def me_comp(g:Good X N W G k){tg iter elt:Expr}{ifs:List Expr}{scope:Scope}{pos:Pos}{vars frees G':List Str}{fm:List Nat}{mi:Mx MIt}{gt:Mg}{mt:Mx Bool}{me:Mx PV}(C:CompOk X N scope vars frees fm)
  (nd:(vars++frees).Nodup) (hgl:∀x∈G',scope.names.lookup x=some .globalImplicit) (dbg:∀x∈(vars++frees)++G',(x == ("__debug__":Str))=false/\(x == ("__classdict__":Str))=false/\x≠"__name__")
  (hi:MI X tg iter mi)
  (hY:∀Y:Cx,Y.prog=X.prog->Y.w=X.w->Y.K=X.K->Y.mg=X.mg->Y.base=X.base->Y.env.scope=relabel scope X.env->Good Y (vars++frees) vars G' k->MG Y tg gt/\MTs Y ifs mt/\ME Y elt me)
  (hs:∀x,foldedSetIterable iter X.env x=pure x:=by intro _;rfl):ME X (.ListComp elt [⟨tg,iter,ifs,0⟩] scope pos) (bI vars.length fm mi gt mt me):=by
 intro G6 s σ H Q I tm;rw[eval_ListComp];refine pU g C nd hgl dbg hi hY hs I tm fun acc D H6 s7 m7 IX hC ns hL hz hfs hcl hp q=>?_;refine⟨m7,ns,fun h'' hsb=>⟨.ref acc,H6,?_,rfl,q⟩⟩;exact IX.turned (it:=D) (t':=s7.toks) (fun b o hb e=>hsb.extBut b o hb e) hC hL (.inr hz) hcl hp
def ms_setC(g:Good X N W G k)(i:Nat){y:Str}{py spos:Pos}{tg iter elt:Expr}{ifs:List Expr}{scope:Scope}{pos:Pos}{vars frees G':List Str}{fm:List Nat}{mi:Mx MIt}{gt:Mg}{mt:Mx Bool}{me:Mx PV}(hyi:N[i]?=some y)(hw:W[i]?=some y)
  (hsw:swapsWith (.ListComp elt [⟨tg,iter,ifs,0⟩] scope pos) (some (.Name y py)) spos.line X.env=pure true) (C:CompOk X N scope vars frees fm)
  (nd:(vars++frees).Nodup) (hgl:∀x∈G',scope.names.lookup x=some .globalImplicit) (dbg:∀x∈(vars++frees)++G',(x == ("__debug__":Str))=false/\(x == ("__classdict__":Str))=false/\x≠"__name__")
  (hi:MI X tg iter mi)
  (hY:∀Y:Cx,Y.prog=X.prog->Y.w=X.w->Y.K=X.K->Y.mg=X.mg->Y.base=X.base->Y.env.scope=relabel scope X.env->Good Y (vars++frees) vars G' k->MG Y tg gt/\MTs Y ifs mt/\ME Y elt me)
  (hs:∀x,foldedSetIterable iter X.env x=pure x:=by intro _;rfl):MS X (.Assign [.Name y py] (.ListComp elt [⟨tg,iter,ifs,0⟩] scope pos) spos) (aX i (bI vars.length fm mi gt mt me)):=by
 intro G6 s σ H D I tm;obtain⟨ρ,σp,h,rs,rh,q⟩:=tm;rw[exec_Assign_Name_used _ _ _ _ hsw];refine qaa (wpAny_standAt (qaa ?_));show wpAny _ X.A (do let _ <-comprehension (.ListComp elt [⟨tg,iter,ifs,0⟩] scope pos) scope X.env _ (newList []) false (eval iter X.env) (some (assign (.Name y py) X.env))) _ _ s
 refine qaa (wpAny_mono (pU (pos:=pos) g C nd hgl dbg hi hY hs (use:=some (assign (.Name y py) X.env)) (Qv:=fun _ s'=>SP X G6 D .next s') (pp:=firstIterPos [⟨tg,iter,ifs,0⟩] pos) (Q:=fun v H'=>D.nx (σ.set i (some v)) H') I
  ⟨ρ,σp,h,rs,rh,bB.ex q fun ρ1 H1 v v' h1 l r z w=>w ρ1 H1 _ (Le.refl _ _) r ((rs.le l).set i z)⟩ fun acc D' H6 s7 m7 IX hC ns hL hz hfs hcl hp q6=>?_) (fun _ s' hq=>qan (qan hq)) fun _ _ e=>e)
 ·obtain⟨o,es,ep,ho,hd,hr⟩:=id ns;have IP:Inv X (G6++[(D',o)]) σ H6 s7:=IX.pins_of fun p hp'=>(qap.mp hp').elim (fun z=>IX.pin p (qad _ z)) fun z=>by
   have e:p=(D',o):=by simpa using z
   subst e;exact⟨ho,hC,hL,hfs,fun v z=>by rw[hd] at z;cases z⟩
  have st:=vc (X:=X) (pos:=py) (by rw[g.hN];exact g.nd) (g.x hyi) (g.loc y (az hyi)) (g.fn y (az hw)) (G6++[(D',o)]) s7 σ H6 (.ref acc) (.ref acc) (fun σ' H'=>σ'=σ.set i (some (.ref acc))/\H'=H6) IP rfl ⟨rfl,rfl⟩;refine thn st fun _ s8 ⟨σ8,H8,I8,e1,e2⟩=>?_;subst e1;subst e2;have pn:=I8.pin (D',o) (qad _ (qad _ (by simp)));refine⟨m7,⟨o,es,ep,pn.1,hd,hr⟩,fun h'' hsb=>⟨_,_,?_,q6⟩⟩;exact (I8.unpinned).turned (it:=D') (t':=s8.toks) (fun b o hb e=>hsb.extBut b o hb e) hC hL (.inr hz) hcl hp
end
abbrev bmVE:List Value:=[.type "ValueError",.type "Exception",.type "BaseException",.type "object"]
structure ExcK (K:qab) (mg:MGl) (x:Str) (C:Addr):Prop where
 bd:mg x=some (.ref C)
 ok:PySem.W.excIn K C bmVE "ValueError.__new__"=true
abbrev pK(X:Cx)(x:Str)(C:Addr):Prop:=ExcK X.K X.mg x C
def pJ{K:qab}{h:Heap}{C:Addr}{bmB:List Value}{newId:String}(hK:K.In h)(q:PySem.W.excIn K C bmB newId=true) :
  ∃bm N nm q bs hdct sn sub ab col dd k0 k1 k2 k3 k5 mN,h.get? C=some (excClassObj nm q C N bs bm hdct sn sub ab col dd k0 k1 k2 k3 k5 newId)/\h.Ns N mN/\mN "__init__"=none/\OwnTail h bmB bm/\∀base r,PySem.W.mroIn K C base=some r->(Value.ref C::bm).contains base=r:=by
 unfold PySem.W.excIn at q
 split at q
 ·rename_i dd cd sl ho
  split at q
  ·rename_i C' bm k0 k1 k2 k3 n k5 hm hs
   simp only[qaG,beq_iff_eq,qbB] at q;obtain⟨⟨⟨⟨⟨rfl,rfl⟩,hdel⟩,ht⟩,hok⟩,hni⟩:=q;obtain⟨nm,bs,mro,ns,qn,hd,sn,sub,ab,col,del⟩:=cd;dsimp only at hm hdel hok hni;subst hm hdel;have hsl:sl=#[k0,k1,k2,k3,some (.builtin n),k5]:=by
    obtain⟨l⟩:=sl;simp only at hs;rw[hs]
   subst hsl
   exact⟨bm,ns,nm,qn,bs,hd,sn,sub,ab,col,dd,k0,k1,k2,k3,k5,_,hK _ _ ho,.of_isNs (PySem.W.isNs_of_in hK hok),PySem.W.nsMap_none_of_in hK hok hni,PySem.W.tail_of_in hK ht,fun base r e=>by
    unfold PySem.W.mroIn PySem.W.clsIn at e;rw[ho] at e
    simpa using e⟩
  ·cases q
 ·cases q
section
variable {X:Cx} {N W G:List Str} {k:Nat}
def gs(x:Str)(m:Mx (List PV)):Mst:=mEx m fun vs σ h=>if vs.length<=sizeLine then .rse ⟨x,[]⟩ σ h else .bad
def zc(g:Good X N W G k){x:Str}{j:Nat}{C:Addr}(hj:G[j]?=some x)(EC:pK X x C){e:Expr}{es:List Expr}{m:Mx (List PV)}{np cpos pos:Pos}(ha:MA X (e::es) m)
  (he:starEach (e::es) X.env=(false,eval e X.env)::starEach es X.env:=by rfl) (hpl:(backTo cpos (starEach es X.env)).any (·.1)=false:=by rfl) :
  MS X (.Raise (some (.Call (.Name x np) (e::es) [] cpos)) none pos) (gs x m):=by
 intro G6 s σ H D I ⟨ρ,σp,h,rs,rh,q⟩;have d:=g.dbg x (qad _ (az hj));obtain⟨bm,Nn,nm,qn,bs,hdct,sn,sub,ab,col,dd,k0,k1,k2,k3,k5,mN,hC,hN,hni,T,_⟩:=pJ I.mod.kin EC.ok;refine wpAny_Raise_call_subT (C:=C) (nm:=nm) (q:=qn) (N:=Nn) (bs:=bs) (bm:=bm) (hdct:=hdct) (sn:=sn) (sub:=sub) (ab:=ab) (col:=col) (dd:=dd) (k0:=k0) (k1:=k1) (k2:=k2) (k3:=k3) (k5:=k5)
  PySem.F.excBase_ValueError (mN:=mN) (T.hasType PySem.F.excBase_ValueError.hasBase) (I.ok.hd g.calm) (by rw[he];show (false || (backTo cpos (starEach es X.env)).any (·.1))=false;rw[hpl];rfl) hni (pN I (g.gl x (az hj)) EC.bd ⟨rfl,?_⟩ d.1)
 have A:=ha cpos G6 s σ H (fun vs H1=>∃ρ1 xs h1,Le ρ H ρ1 H1/\RH X.K X.mg ρ1 H1 h1/\RPs X.K ρ1 H1 xs vs/\bB X ρ1 H1 (if xs.length<=sizeLine then .rse ⟨x,[]⟩ σp h1 else .bad) D) I
  ⟨ρ,σp,h,rs,rh,bB.ex q fun ρ1 H1 v v' h1 l r z w=>⟨ρ1,v,h1,l,r,z,w⟩⟩
 rw[he] at A ⊢;refine Calls.evalArgs_plain (wpAny_mono A (fun us s2 ⟨vs,H1,I1,rv,ρ1,xs,h1,l1,rh1,rx,w⟩=>?_) fun _ _ y=>y);by_cases hl:xs.length<=sizeLine
 ·rw[qae hl] at w;refine⟨rfl,by rw[<-rv.length,<-rx.length];exact hl,I1.bk _ _ hC,hN.keeps I1.bk,T.keeps I1.bk,fun h' ea made=>?_⟩;have I0:Inv X [] σ H1 { ({ s2 with heap:=h'}:Shared) with heap:=s2.heap}:=Inv.unpinned (G6:=[]) (pl:=G6) I1;exact w ea C ρ1 H1 σ { s2 with heap:=h'} s2.heap us rfl EC.bd (Le.refl _ _) rh1 (rs.le l1) I0 made
 ·rw[qao hl] at w;exact w.elim
def o6{M:Model}{A:Around}{E:Value->Shared->Prop}{h:Heap}{gn:Array GenState}{d:Drawn}{t:Nat}{os:OsState}{ea C D N1 N2:Addr}{oe:Obj}{nm1 q1 nm2 q2:Str}{bs1 bm1 bs2 bm2:List Value}{hd1 hd2:Bool}{sn1 sn2:List Str}{sub1 sub2:List Value}{ab1 ab2:Bool}{col1 col2:Option Bool}{dd1 dd2:Option Addr}
  {a0 a1 a2 a3 a5 b0 b1 b2 b3 b5:Option Value} {n1 n2:String} {Q:Bool->Shared->Prop} (hC:h.get? C=some (excClassObj nm1 q1 C N1 bs1 bm1 hd1 sn1 sub1 ab1 col1 dd1 a0 a1 a2 a3 a5 n1)) (hD:h.get? D=some (excClassObj nm2 q2 D N2 bs2 bm2 hd2 sn2 sub2 ab2 col2 dd2 b0 b1 b2 b3 b5 n2))
  (he:h.get? ea=some oe) (hcls:oe.cls=.ref C) (hB:bm2.contains (.type "BaseException")=true) (hsub:(Value.ref C::bm1).contains (.ref D)=true) (hq:Q true ⟨h,gn,d,t,os⟩):wpAny M A (excMatches (.ref ea) (.ref D)) Q E ⟨h,gn,d,t,os⟩:=by
 have hcB:(Value.ref D::bm2).contains (.type "BaseException")=true:=by rw[List.contains_cons,hB,Bool.or_true]
 have f:=tc_notTuple;unfold excMatches
 repeat (first | (with_reducible refine wpAny_loadPart_at he ?_;rw[hcls]) | with_reducible refine wpAny_loadPart_at hD ?_ | (with_reducible refine wpAny_isSubtype_exc hD ?_;rw[hcB]) | (with_reducible refine wpAny_isSubtype_exc hC ?_;rw[hsub]) | wp_step)
 exact hq
end
section
variable {X:Cx} {N W G:List Str} {k:Nat} {σ:L2.St} {H:Hp} {s:Shared}
abbrev pi(X:Cx)(G6:List (Addr × Obj))(E:Value->Shared->Prop):Cx:={ X with pn:=X.pn++G6,xe:=E}
def ok_pin(ok:X.Ok):(pi X G6 E).Ok :=
 ⟨ok.mod,ok.kind,ok.glob,ok.blt,ok.above,ok.inj,ok.has,ok.cab,ok.hd,ok.frames,ok.stk,ok.exf,ok.bs,ok.bsz,ok.noex,ok.exfs,ok.funs,ok.frf⟩
def yt(ok:(pi X G6 E).Ok):X.Ok :=
 ⟨ok.mod,ok.kind,ok.glob,ok.blt,ok.above,ok.inj,ok.has,ok.cab,ok.hd,ok.frames,ok.stk,ok.exf,ok.bs,ok.bsz,ok.noex,ok.exfs,ok.funs,ok.frf⟩
def Inv.toPin(I:Inv X G6 σ H s):Inv (pi X G6 E) [] σ H s :=
 ⟨ok_pin I.ok,I.os,I.bare,I.base,I.loc,I.cell,I.free,I.freeC,fun p hp=>I.pin p (by simpa using hp),I.hok,I.len⟩
def Inv.ofPin(I:Inv (pi X G6 E) [] σ H s):Inv X G6 σ H s :=
 ⟨yt I.ok,I.os,I.bare,I.base,I.loc,I.cell,I.free,I.freeC,fun p hp=>I.pin p (by simpa using hp),I.hok,I.len⟩
def oK{h h':Heap}{c:Addr}{v:Option Value}(sm:h.UpToSlots h')(q:h.IsCell c v):h'.IsCell c v:=by
 obtain⟨o,e,d⟩:=q;obtain⟨sl,e'⟩:=sm c o e (fun vs z=>by rw[d] at z;cases z);exact⟨_,e',d⟩
def Inv.flown(I:Inv X [] σ H s){B h' lim:Heap}(hB:B.StaysIn s.heap)(hB':B.StaysIn h')(sm:s.heap.UpToSlots h')(brs:Bears X lim)(cov:Cov B (frs X.stack) lim)(cvH:∀b o,H b=some o->∃ob,B.get? b=some ob):Inv X [] σ H { s with heap:=h'}:=by
 have kp:∀b o ob,B.get? b=some ob->s.heap.get? b=some o->h'.get? b=some o:=fun b o ob e1 e2=>by
  have:=rX hB e1 e2
  subst this;exact hB' b ob e1
 have nl:∀b o,X.s₀.heap.get? b=some o->b≠X.env.locals:=fun b o e z=>absurd (qau (qam e) I.ok.above) (by rw[z];exact qaQ _);have inB:∀b o,X.s₀.heap.get? b=some o->b∉X.fs->b∉X.ex->∃ob,B.get? b=some ob:=fun b o e hf hx=>by
  obtain⟨o',e'⟩:=brs.old b o e hx;refine cov b o' e' fun hm=>?_;rcases qaj.mp (I.stkSub b hm) with z|z
  ·exact nl b o e z
  ·exact hf z
 obtain⟨m,hn,hl⟩:=I.loc;have nfr:∀b o,X.s₀.heap.get? b=some o->b∈X.fs->∀vs,o.data≠.fields vs:=fun b o e hf vs z=>by
  obtain⟨_,oF,eF,dF⟩:=I.ok.funs.mem hf;rw[e] at eF;cases eF;exact dF vs z
 refine⟨I.ok,I.os,I.bare,⟨fun b o e n hf hx=>?_,fun b o e n hf hx=>?_,I.base.free,fun b o e hx=>?_,I.base.tups,I.base.frzs,I.base.tbls⟩,⟨m,sm.ns hn,fun i x v e1 e2 e3=>?_⟩,fun x c e=>?_,I.free,I.freeC,fun p hp=>?_,fun a o e=>?_,I.len⟩
 ·obtain⟨ob,eb⟩:=inB b o e hf hx;exact kp b o ob eb (I.base.keep b o e n hf hx)
 ·obtain⟨sl,e1⟩:=I.base.slot b o e n hf hx;obtain⟨sl',e2⟩:=sm b _ e1 (fun vs z=>nfr b o e hf vs z);exact⟨sl',e2⟩
 ·by_cases hf:b∈X.fs
  ·obtain⟨sl,e1⟩:=I.base.slot b o e (I.ok.frf b hf) hf hx;obtain⟨sl',e2⟩:=sm b _ e1 (fun vs z=>nfr b o e hf vs z);exact⟨_,e2⟩
  ·obtain⟨ob,eb⟩:=inB b o e hf hx;exact⟨ob,hB' b ob eb⟩
 ·obtain⟨u,ru,look⟩:=hl i x v e1 e2 e3;refine⟨u,ru,?_⟩;rcases look with z|⟨z1,c,z2,z3⟩
  ·exact .inl z
  ·exact .inr ⟨z1,c,z2,oK sm z3⟩
 ·obtain⟨v,q⟩:=I.cell x c e;exact⟨v,oK sm q⟩
 ·obtain⟨e,n,ne,nf,d⟩:=I.pin p hp;refine⟨?_,n,ne,nf,d⟩;have hp':p∈X.pn:=by simpa using hp
  obtain⟨o',e'⟩:=brs.pin p hp';obtain⟨ob,eb⟩:=cov p.1 o' e' fun hm=>by
   rcases qaj.mp (I.stkSub p.1 hm) with z|z
   ·exact ne z
   ·exact nf z
  exact kp p.1 p.2 ob eb e
 ·refine (I.hok a o e).stay (fun b u hb z=>?_) (fun _ z=>z) fun _ _ z=>z;rcases hb with rfl|hb
  ·obtain⟨ob,eb⟩:=cvH _ _ e;exact kp _ u ob eb z
  ·obtain⟨ob,eb⟩:=cvH _ _ hb;exact kp _ u ob eb z
def Inv.track(I:Inv X G6 σ H s)(ha:H a=none)(h0:X.s₀.heap.get? a=none)(hL:a≠X.env.locals)(hc:∀x c,X.env.cells.lookup x=some c->c≠a)(hp:∀p∈X.pn++G6,p.1≠a)
  (hφ:ObjOk X.prog X.w (upd H a (.ext φ)) s.heap a (.ext φ)):Inv X G6 σ (upd H a (.ext φ)) s:=by
 have ne0:∀b o,X.s₀.heap.get? b=some o->b≠a:=fun b o e z=>by rw[z,h0] at e;cases e
 have t:∀b u,H b=some u->upd H a (.ext φ) b=some u:=fun b u e=>by rw[aV (bK e ha)];exact e
 refine⟨I.ok,I.os,I.bare,⟨I.base.keep,I.base.slot,fun b o e n hx=>by rw[aV (ne0 b o e)];exact I.base.free b o e n hx,I.base.there,fun b xs e=>t b _ (I.base.tups b xs e),fun b o u e=>t b _ (I.base.frzs b o u e),fun b ps e=>?_⟩,
  I.loc,I.cell,by rw[aV (Ne.symm hL)];exact I.free,fun x c e=>by rw[aV (hc x c e)];exact I.freeC x c e,fun p hp'=>?_,fun b u e=>?_,I.len⟩
 ·obtain⟨more,e'⟩:=I.base.tbls b ps e;exact⟨more,t b _ e'⟩
 ·obtain⟨a1,a2,a3⟩:=I.pin p hp';exact⟨a1,by rw[aV (hp p hp')];exact a2,a3⟩
 ·by_cases hb:b=a
  ·subst hb;rw[bC] at e;cases e;exact hφ
  ·rw[aV hb] at e;exact (I.hok b u e).stay (fun c v _ q=>q) (fun c q=>t c _ q) fun c xs q=>t c _ q
def ns_inj{h:Heap}{a:Addr}{m m0:Str->Option Value}(x:h.Ns a m)(y:h.Ns a m0):m=m0:=by
 obtain⟨o,es,ep,e,d,_,f⟩:=x;obtain⟨o',es',ep',e',d',_,f'⟩:=y;rw[e] at e';cases e';rw[d] at d';cases d';funext z;rw[<-f z,<-f' z]
def Inv.unbound(I:Inv X G6 σ H s)(hN:X.N.Nodup)(hi:X.N[i]?=some n)(hm:s.heap.Ns X.env.locals m)(hn':h'.Ns X.env.locals (fun x=>if x=n then v else m x))(hs:Heap.SameBut X.env.locals s.heap h') :
  Inv X G6 (σ.set i none) H { s with heap:=h',toks:=t'}:=by
 obtain⟨m0,hn0,hl⟩:=I.loc;have em:m=m0:=ns_inj hm hn0;subst em;have lt:∀b o,X.s₀.heap.get? b=some o->b≠X.env.locals:=fun b o e=>qaL (qau (qam e) I.ok.above);refine⟨I.ok,I.os,I.bare,⟨fun b o e n hb hx=>?_,fun b o e n hb hx=>?_,I.base.free,fun b o e hx=>?_,I.base.tups,I.base.frzs,I.base.tbls⟩,⟨_,hn',fun j y v' e1 e2 e3=>?_⟩,fun y c e=>?_,I.free,I.freeC,fun p hp=>?_,fun a o e=>?_,by simpa using I.len⟩
 ·exact (hs.2 b (lt b o e)).trans (I.base.keep b o e n hb hx)
 ·obtain⟨sl,e1⟩:=I.base.slot b o e n hb hx;exact⟨sl,(hs.2 b (lt b o e)).trans e1⟩
 ·obtain⟨o',e1⟩:=I.base.there b o e hx;exact⟨o',(hs.2 b (lt b o e)).trans e1⟩
 ·by_cases hj:j=i
  ·subst hj;exfalso;by_cases hlt:j<σ.length
   ·rw[qat hlt] at e2;cases e2
   ·rw[qaY (by simp;lia)] at e2;cases e2
  ·rw[qah (Ne.symm hj)] at e2;obtain⟨u',r',q⟩:=hl j y v' e1 e2 e3;refine⟨u',r',?_⟩;rcases q with ⟨k,e⟩|⟨k,c,e,z⟩
   ·refine .inl ⟨k,?_⟩
    have:y≠n:=fun e=>hj (m8 hN e1 (e▸hi))
    simp[this,e]
   ·exact .inr ⟨k,c,e,z.sameBut hs (I.cne y c e)⟩
 ·obtain⟨w',z⟩:=I.cell y c e;exact⟨w',z.sameBut hs (I.cne y c e)⟩
 ·obtain⟨e,n,ne,nf,d⟩:=I.pin p hp;exact⟨(hs.2 p.1 ne).trans e,n,ne,nf,d⟩
 ·have na:a≠X.env.locals:=fun z=>by rw[z,I.free] at e;cases e
  refine (I.hok a o e).stay (fun b u hb z=>(hs.2 b ?_).trans z) (fun _ z=>z) fun _ _ z=>z;rcases hb with rfl|hb
  ·exact na
  ·intro z;rw[z,I.free] at hb;cases hb
def kj(cs:List Str)(iy inn:Nat)(mb:Mst):Mst:=fun σ h=>match mb σ h with
 | .exc x σ1 h1=>if x.fs=[]/\x.cls∈cs then .nx (((σ1.set inn (some (.loc h1.length))).set iy (some (.loc h1.length))).set inn none) (h1++[.exc x]) else .bad
 | .rse _ _ _=>.bad
 | o=>o
def RS.unset{K:qab}{ρ:List Addr}{H:Hp}{σp:PSt}{σ:L2.St}(r:RS K ρ H σp σ)(i:Nat):RS K ρ H (σp.set i none) (σ.set i none):=by
 refine⟨by simp[r.1],fun j u e=>?_⟩;by_cases hj:j=i
 ·subst hj;exfalso;by_cases hlt:j<σp.length
  ·rw[qat hlt] at e;cases e
  ·rw[qaY (by simp;lia)] at e;cases e
 ·rw[qah (fun z=>hj z.symm)] at e ⊢;exact r.2 j u e
def ms_try(g:Good X N W G k)(dc:DefCx X){c:Str}{j:Nat}{D:Addr}(hj:G[j]?=some c)(ED:pK X c D){cs:List Str}(hcs:∀x∈cs,∃C,pK X x C/\PySem.W.mroIn X.K C (.ref D)=some true)(iy inn:Nat){y n:Str}(hyi:N[iy]?=some y)(hyw:W[iy]?=some y)(hni:N[inn]?=some n)(hnw:W[inn]?=some n)
  (hnl:X.env.scope.names.lookup n=some .local) {body:List Stmt} {mb:Mst} {cp yp np sp hp pos:Pos}
  (hb:∀Y:Cx,Y.prog=X.prog->Y.w=X.w->Y.K=X.K->Y.mg=X.mg->Y.base=X.base->Y.env=X.env->Good Y N W G k->DefCx Y->MSs Y body mb) (hsw:swapsWith (.Name n np) (some (.Name y yp)) sp.line X.env=pure false:=by rfl) :
  MS X (.Try body [.ExceptHandler (some (.Name c cp)) (some n) [.Assign [.Name y yp] (.Name n np) sp] hp] [] [] pos) (kj cs iy inn mb):=by
 intro G6 s σ H Dd I ⟨ρ,σp,h,rs,rh,q⟩;refine wpAny_Try_except ?_;have gY:∀E,PassesOwn (model X.prog X.w) X.A X.env E->Good (pi X G6 E) N W G k:=fun E po=>⟨g.hN,g.nd,g.loc,g.fn,g.gl,g.dbg,g.calm,g.room,po⟩;have run:=hb (pi X G6 _) rfl rfl rfl rfl rfl rfl (gY _ (PassesOwn.looking (M:=model X.prog X.w) (A:=X.A) (env:=X.env) (K:=fun e s₂=>wpAny (model X.prog X.w) X.A (setFlight e none) (fun _ s₃=>wpAny (model X.prog X.w) X.A (handleBy e X.env [.ExceptHandler (some (.Name c cp)) (some n) [.Assign [.Name y yp] (.Name n np) sp] hp]) (SP X G6 Dd) X.xe s₃) X.xe s₂) (E₁:=X.xe))) ⟨dc.stk,dc.fr,dc.ex⟩;refine wpAny_mono (run [] s σ H Dd (Inv.toPin I) ⟨ρ,σp,h,rs,rh,?_⟩) (fun f s₁ z=>?_) fun _ _ z=>z
 ·unfold kj at q
  cases em:mb σp h with
  | nx σ1 h1=>rw[em] at q;exact q
  | rt v h1=>rw[em] at q;exact q
  | bk σ1 h1=>rw[em] at q;exact q
  | ct σ1 h1=>rw[em] at q;exact q
  | bad=>rw[em] at q;exact q.elim
  | rse x σ1 h1=>rw[em] at q;exact q.elim
  | exc x σ1 h1 =>
   rw[em] at q;dsimp only at q;by_cases hx:x.fs=[]/\x.cls∈cs
   ·rw[qae hx] at q;intro ea C ρ' H' σ' s' lim hfs hmg l rh' rs' I' brs fly;obtain⟨C',EC,hsubm⟩:=hcs x.cls hx.2;have eC:C'=C:=by
     have:=EC.bd
     rw[show X.mg x.cls=some (.ref C) from hmg] at this;cases this;rfl
    subst eC;obtain⟨B,t,hfl,hBH,hcov,hea⟩:=fly;have hst:X.stack=X.env::X.outer:=dc.stk;have hfl:Heap.FlyingW B (X.env::X.outer) ea (.ref C') (.ref t) s'.heap:=by rw[<-hst];exact hfl
    have hfrm:X.A.frames=some (X.env::X.outer):=by rw[<-hst];exact I'.ok.frames
    refine wpAny_looks_onW (base:=B) hfrm dc.fr hfl fun h₄ held₄ sm₄=>?_;refine wpAny_landsW held₄ fun h₅ fl₅ sm₅=>?_;have sm45:=sm₄.trans sm₅;have I5:=Inv.flown I' hfl.1 fl₅.1 sm45 brs hcov hBH;have I5x:=Inv.ofPin I5;refine wpAny_handleBy_cons (codeAny_handlers_test (Calls.Name_function_global I5x.ok.kind (g.gl c (az hj)) (Calls.loadGlobal_global (by rw[I5x.ok.glob];exact I5x.mod.glob.keeps I5x.bk) ED.bd ?_) (g.dbg c (qad _ (az hj))).1)) (by intro z;cases z);obtain⟨bm1,N1,nm1,q1,bs1,hd1,sn1,sub1,ab1,col1,dd1,a0,a1,a2,a3,a5,mN1,hC1,_,_,_,mro1⟩:=pJ I5x.kIn EC.ok;obtain⟨bm2,N2,nm2,q2,bs2,hd2,sn2,sub2,ab2,col2,dd2,b0,b1,b2,b3,b5,mN2,hD2,_,_,T2,_⟩:=pJ I5x.kIn ED.ok;obtain⟨ob,hob,hobc⟩:=fl₅.there;obtain⟨hp5,g5,d5,t5,os5⟩:=s';refine o6 hC1 hD2 hob hobc (T2.hasType PySem.F.excBase_ValueError.hasBase) (mro1 _ _ hsubm) ?_;refine codeAny_handlers_suite_as ?_;refine lands_againW fl₅ fun h₆ fl₆ sm₆=>?_;have I6:=Inv.flown I5 fl₅.1 fl₆.1 sm₆ brs hcov hBH;have I6x:=Inv.ofPin I6;obtain⟨oe,vs,T,oT,ts,he6,⟨hcls6,hv0⟩,hd6,_,_,_,_,_,_⟩:=fl₆.2.2.2;have eaB:B.get? ea=none:=fl₆.2.1;have nfr:ea∉frs X.stack:=fun hm=>by
     obtain⟨_,o,eo,dn⟩:=I6x.stack.mem hm;rw[show h₆.get? ea=some oe from he6] at eo;cases eo;exact dn vs hd6
    have eL:ea≠X.env.locals:=fun z=>nfr (by rw[hst,z];exact qbI.mpr ⟨X.env,qaC,dc.fr⟩);have e0:X.s₀.heap.get? ea=none:=by
     cases z:X.s₀.heap.get? ea with
     | none=>rfl
     | some o =>
      obtain⟨o',e'⟩:=brs.old ea o z (by rw[dc.ex];simp);obtain⟨ob',eb⟩:=hcov ea o' e' nfr;rw[eaB] at eb;cases eb
    have ec:∀z cc,X.env.cells.lookup z=some cc->cc≠ea:=fun z cc e w=>by
     obtain⟨v,o,eo,ed⟩:=I6x.cell z cc e;rw[w,show h₆.get? ea=some oe from he6] at eo;cases eo;rw[hd6] at ed;cases ed
    have ep:∀p∈X.pn++G6,p.1≠ea:=fun p hp' w=>by
     obtain⟨o',e'⟩:=brs.pin p hp';rw[w] at e';obtain⟨ob',eb⟩:=hcov ea o' e' nfr;rw[eaB] at eb;cases eb
    have I7:=Inv.track (φ:=hW ea C') I6x hea e0 eL ec ep ⟨⟨oe,vs,he6,hcls6,hd6⟩,⟨oe,he6⟩,fun h1 h2 ⟨o,ws,z1,z2,z3⟩ kk=>⟨o,ws,kk o z1,z2,z3⟩⟩;obtain⟨rh7,l7⟩:=rh'.new hea (o:=.exc x) (ho:=.ext (hW ea C')) ⟨hx.1,C',hmg,rfl⟩;have rv:RP X.K (ρ'++[ea]) (upd H' ea (.ext (hW ea C'))) (.loc h1.length) (.ref ea):=.loc (by rw[<-rh'.len];simp);have rs7:=RS.le l7 rs';have hNn:X.N.Nodup:=by rw[g.hN];exact g.nd
    refine iw I7 hNn (g.x hni) (g.loc n (az hni)) (v:=.ref ea) rfl (fun s8 I8=>?_) (g.fn n (az hnw));have rs8:=rs7.set inn rv
    let X':Cx:={ X with A:=X.A.mark (some (.ref ea)),calm:=false,xe:=fun _ _=>False}
    have ok':X'.Ok:=⟨I8.ok.mod,I8.ok.kind,I8.ok.glob,I8.ok.blt,I8.ok.above,I8.ok.inj,I8.ok.has,I8.ok.cab,(fun z=>nomatch z),I8.ok.frames,I8.ok.stk,I8.ok.exf,I8.ok.bs,I8.ok.bsz,I8.ok.noex,I8.ok.exfs,I8.ok.funs,I8.ok.frf⟩;have I8':Inv X' G6 _ _ s8:=⟨ok',I8.os,I8.bare,I8.base,I8.loc,I8.cell,I8.free,I8.freeC,I8.pin,I8.hok,I8.len⟩;have hlenn:inn<σ'.length:=by rw[I'.len];exact (qaf.mp (g.x hni)).1
    have dn:=g.dbg n (qay _ (az hni));have st:=vn (xl (X:=X') (i:=iy) (pos:=sp) (pos':=yp) hNn (g.x hyi) (g.loc y (az hyi)) (xx (X:=X') (i:=inn) (pos:=np) (g.x hni) (.inl hnl) dn.1 dn.2.1) hsw (g.fn y (az hyw))) G6 s8 _ _
     { nx:=fun σ9 H9=>σ9=(σ'.set inn (some (.ref ea))).set iy (some (.ref ea))/\H9=upd H' ea (.ext (hW ea C')),rt:=fun _ _=>False} I8' ⟨.ref ea,by rw[qat hlenn],rfl,rfl⟩
    refine wpAny_mono st (fun fl s9 z9=>?_) fun _ _ z=>z.elim
    cases fl with
    | ret u=>obtain⟨_,_,_,_,_,z⟩:=z9;exact z.elim
    | brk=>obtain⟨_,_,_,z⟩:=z9;exact z.elim
    | cont=>obtain⟨_,_,_,z⟩:=z9;exact z.elim
    | next =>
     obtain⟨σ9,H9,I9',e9,e9'⟩:=z9;subst e9;subst e9';have I9:Inv X G6 ((σ'.set inn (some (.ref ea))).set iy (some (.ref ea))) (upd H' ea (.ext (hW ea C'))) s9:=⟨I8.ok,I9'.os,I9'.bare,I9'.base,I9'.loc,I9'.cell,I9'.free,I9'.freeC,I9'.pin,I9'.hok,I9'.len⟩;obtain⟨m9,hn9,_⟩:=I9.loc;refine wpAny_nameGoes_keeps hnl hn9 (by rw[I9.ok.kind];rfl) fun h10 v10 ns10 sb10=>?_;have I10:=Inv.unbound I9 hNn (g.x hni) hn9 (t':=s9.toks+1) ns10 sb10;refine⟨_,_,I10,?_⟩;exact q (ρ'++[ea]) _ _ (l.trans l7) rh7 (RS.unset (rs8.set iy rv) inn)
   ·rw[qao hx] at q;exact q.elim
 ·cases f with
  | next =>
   obtain⟨σ',H',I',z⟩:=z;exact wpAny_execs_nil ⟨σ',H',Inv.ofPin I',z⟩
  | brk=>obtain⟨σ',H',I',z⟩:=z;exact⟨σ',H',Inv.ofPin I',z⟩
  | cont=>obtain⟨σ',H',I',z⟩:=z;exact⟨σ',H',Inv.ofPin I',z⟩
  | ret u=>obtain⟨v,σ',H',I',r,z⟩:=z;exact⟨v,σ',H',Inv.ofPin I',r,z⟩
end
structure ExcQ (K:qab) (C:Addr):Prop where
 ga:PySem.W.findIn K (.ref C) "__getattribute__"=some (some (.builtin "BaseException.__getattribute__"))
 cl:PySem.W.findIn K (.ref C) "__class__"=some (some (.builtin "object.__class__"))
 gt:PySem.W.findIn K (.ref C) "__getattr__"=some none
 mo:PySem.W.mroIn K C (.type "object")=some true
 mb:PySem.W.mroIn K C (.type "BaseException")=some true
section
variable {prog:Program} {w:World} {A:Around} {E:Value→Shared→Prop} {h:Heap} {g:Array GenState} {d:Drawn} {t:Nat} {os:OsState} {a C:Addr} {o:Obj} {K:qab}
def x_get(hK:K.In h)(q:ExcQ K C)(hx:h.get? a=some o)(hc:o.cls=.ref C)(hq:R (.ok (.ret (.ref C))) ⟨h,g,d,t,os⟩) :
  codeAny (model prog w) A (.call (.builtin "getset_descriptor.__get__") ⟨[.builtin "object.__class__",.ref a,.ref C],[]⟩) R ⟨h,g,d,t,os⟩:=by
 have hT5:(⟨h,g,d,t,os⟩:Shared).TypeIs (.builtin "object.__class__") "getset_descriptor":=PySem.F.typeOf_object_class;have f8:∀{A':Around} {E':Value->Shared->Prop} {Q':Bool->Shared->Prop},Q' true ⟨h,g,d,t,os⟩->wpAny (model prog w) A' (isSubtype (.ref C) (.type (".".intercalate ("object.__class__".cutAt '.').dropLast))) Q' E' ⟨h,g,d,t,os⟩:=fun z=>by
  rw[PySem.F.owner_object_class];exact (PySem.W.looks_mroIn (M:=model prog w) hK q.mo).at z
 refine codeAny_call_builtin PySem.F.slot_gs_get.plain PySem.F.entry_gs_get (PySem.F.slot_gs_get.check _ _ _ _ _ _ _ _ hT5 (PySem.F.args_gs_get _ _ _) ?_)
 repeat (any_goals (first | assumption | (with_reducible refine wpAny_loadPart_at hx ?_;rw[hc]) | with_reducible refine f8 ?_ | wp_step))
 refine⟨Code.quiet_builtin _ (by decide +kernel),codeAny_builtin PySem.F.entry_object_class ?_⟩
 repeat (any_goals (first | assumption | (with_reducible refine wpAny_loadPart_at hx ?_;rw[hc]) | wp_step))
def x_entry(hK:K.In h)(q:ExcQ K C)(hx:h.get? a=some o)(hc:o.cls=.ref C)(hq:Q (.done (.ret (.ref C))) ⟨h,g,d,t,os⟩) :
  wpAny (model prog w) A (Builtin.«object.__getattribute__» ⟨[.ref a,.str "__class__" tk],[]⟩) Q E ⟨h,g,d,t,os⟩:=by
 have hT5:(⟨h,g,d,t,os⟩:Shared).TypeIs (.builtin "object.__class__") "getset_descriptor":=PySem.F.typeOf_object_class;have f4:∀{A':Around} {E':Value->Shared->Prop} {Q':Option Value->Shared->Prop},Q' (some (.builtin "object.__class__")) ⟨h,g,d,t,os⟩->wpAny (model prog w) A' (typeLookup (.ref C) "__class__") Q' E' ⟨h,g,d,t,os⟩:=fun z=>(PySem.W.looks_findIn (M:=model prog w) hK q.cl).at z;have f5:=PySem.F.typeOf_object_class;have f6:=PySem.F.slot_gs_get.lookup;have f7:=PySem.F.slot_gs_set.lookup
 repeat (any_goals (first | assumption | (with_reducible refine wpAny_loadPart_at hx ?_;rw[hc]) | with_reducible refine f4 ?_ | wp_step))
 refine x_get hK q hx hc ?_
 repeat (any_goals (first | assumption | wp_step))
def x_call(hK:K.In h)(q:ExcQ K C)(hx:h.get? a=some o)(hc:o.cls=.ref C)(hq:R (.ok (.ret (.ref C))) ⟨h,g,d,t,os⟩) :
  codeAny (model prog w) A (.call (.builtin "BaseException.__getattribute__") ⟨[.ref a,.str "__class__" tk],[]⟩) R ⟨h,g,d,t,os⟩:=by
 have hk:builtinKind "BaseException.__getattribute__"=some .slot:=by decide +kernel
 have hsplit:splitId "BaseException.__getattribute__"=some ("BaseException","__getattribute__"):=by decide +kernel
 have ha:=PySem.F.args_bexc_ga (.ref a) (.str "__class__" tk);have f8:∀{A':Around} {E':Value->Shared->Prop} {Q':Bool->Shared->Prop},Q' true ⟨h,g,d,t,os⟩->wpAny (model prog w) A' (isSubtype (.ref C) (.type "BaseException")) Q' E' ⟨h,g,d,t,os⟩:=fun z=>(PySem.W.looks_mroIn (M:=model prog w) hK q.mb).at z;have chk:∀{A':Around} {E':Value->Shared->Prop} {Q':Unit->Shared->Prop},Q' () ⟨h,g,d,t,os⟩->wpAny (model prog w) A' (checkBuiltinCall "BaseException.__getattribute__" ⟨[.ref a,.str "__class__" tk],[]⟩) Q' E' ⟨h,g,d,t,os⟩:=fun z=>by
  simp only[checkBuiltinCall,hk,hsplit];refine qaa ?_
  ·unfold isInstance
   repeat (first | (with_reducible refine wpAny_loadPart_at hx ?_;rw[hc]) | with_reducible refine f8 ?_ | wp_step)
   exact z
 exact codeAny_call_builtin PySem.F.excAttr_ValueError.ga.plain PySem.F.entry_bexc_ga (chk (x_entry hK q hx hc hq))
def x_by(hK:K.In h)(q:ExcQ K C)(hx:h.get? a=some o)(hc:o.cls=.ref C)(hq:Q (.ref C) ⟨h,g,d,t,os⟩):wpAny (model prog w) A (getAttrBy (.ref a) (.str "__class__" tk) false) Q E ⟨h,g,d,t,os⟩:=by
 have f3:=PySem.F.excAttr_ValueError.ga.bind (.ref a);have hx2:(Value.builtin "BaseException.__getattribute__" == Value.builtin "object.__getattribute__")=false:=by decide +kernel
 have hx1:(onTheHeap (Value.ref C) && Value.builtin "BaseException.__getattribute__" == Value.builtin "object.__getattribute__")=false:=by rw[hx2];rfl
 have f1:∀{A':Around} {E':Value->Shared->Prop} {Q':Option Value->Shared->Prop},Q' (some (.builtin "BaseException.__getattribute__")) ⟨h,g,d,t,os⟩->wpAny (model prog w) A' (typeLookup (.ref C) "__getattribute__") Q' E' ⟨h,g,d,t,os⟩:=fun z=>(PySem.W.looks_findIn (M:=model prog w) hK q.ga).at z;have f2:∀{A':Around} {E':Value->Shared->Prop} {Q':Option Value->Shared->Prop},Q' none ⟨h,g,d,t,os⟩->wpAny (model prog w) A' (typeLookup (.ref C) "__getattr__") Q' E' ⟨h,g,d,t,os⟩:=fun z=>(PySem.W.looks_findIn (M:=model prog w) hK q.gt).at z
 repeat (any_goals (first | assumption | (with_reducible refine wpAny_loadPart_at hx ?_;rw[hc]) | with_reducible refine f1 ?_ | with_reducible refine f2 ?_ | wp_step))
 refine x_call hK q hx hc ?_
 repeat (any_goals (first | assumption | wp_step))
def x_attr(hK:K.In h)(q:ExcQ K C)(hx:h.get? a=some o)(hc:o.cls=.ref C)(hq:Q (some (.ref C)) ⟨h,g,d,t+1,os⟩):wpAny (model prog w) A (getAttr? (.ref a) "__class__") Q E ⟨h,g,d,t,os⟩:=by
 unfold getAttr? getAttrBy?
 repeat (any_goals (first | assumption | with_reducible apply x_by hK q hx hc | wp_step))
end
def rg{K:qab}{a C:Addr}(q:ExcQ K C)(hc:∃cd,PySem.W.clsIn K C=some cd):PySem.W.KitX K (.ref a) (.ref C) (hW a C) where
 ty:=fun M h _ ⟨o,vs,e,c,_⟩=>c▸(PySem.W.Looks.ld e).andThen .now
 it:=fun _ _ X _=>by
  obtain⟨cdD,hcD⟩:=hc;unfold PySem.W.clsIn at hcD
  split at hcD
  ·rename_i c' d' cd' sl' ho
   intro A' Q' E' s' k q;unfold isType loadHead;exact qaa (wpAny_loadPart (k _ _ (X _ _ ho)) (qan q))
  ·cases hcD
 ne:=fun h tp dd its n sl X htp=>by
  obtain⟨cdD,hcD⟩:=hc;refine qbv.mpr fun z=>?_;have e:C=tp:=Value.ref.inj (beq_iff_eq.mp z);subst e;unfold PySem.W.clsIn at hcD
  split at hcD
  ·rename_i c' d' cd' sl' ho
   have z:=(X _ _ ho).symm.trans htp;cases z
  ·cases hcD
 ca:=fun {prog w A E Q s} X ⟨o,vs,e,c,_⟩ k=>by
  obtain⟨hh,gg,dd,tt,oo⟩:=s;exact x_attr X q e c k
def bn(cs sup:List Str)(x:PV)(h:MH):Out PV:=match x with
 | .loc n=>(match h[n]? with
  | some (.exc e)=>if cs.contains e.cls=true then .ok (.bl (sup.contains e.cls)) h else .bad
  | some _=>.ok (.bl false) h
  | none=>.bad)
 | _=>.ok (.bl false) h
structure IsiC (K:qab) (mg:MGl) (T:Value) (cs sup:List Str):Prop where
 ty:∀t∈["NoneType","bool","int","str","tuple","list","dict"],PySem.W.kitOne K (.type t) T=some false
 ex:∀x∈cs,∃C,mg x=some (.ref C)/\ExcQ K C/\(∃cd,PySem.W.clsIn K C=some cd)/\PySem.W.kitOne K (.ref C) T=some (sup.contains x)
section
variable {X:Cx} {N W G:List Str} {k:Nat}
def uM(IC:IsiC X.K X.mg T cs sup)(hv:∀u,aR v u->u=T):cA X (.builtin "isinstance") (fun xs H Q=>∃x',xs=[x',v]/\uJ X (bn cs sup) x' H Q):=by
 intro G6 s σ H xs us Q I r ⟨x',e,ρ,h,x,rh,rx,q⟩;subst e
 cases r with
 | cons r1 t1=>cases t1 with
  | cons r2 t2 =>
   cases t2;obtain rfl:=hv _ r2;have plain:∀t,tyP h x=some t->bn cs sup x h=.ok (.bl false) h->wpAny (model X.prog X.w) X.A (call (.builtin "isinstance") [_,_]) (EP X G6 σ Q) X.xe s:=fun t et ef=>by
    rw[ef] at q;obtain⟨ht,hne,Hq,Z,hz⟩:=lK I rh rx r1 et;exact PySem.W.kia_one Z I.kIn hz (IC.ty t ht) hne fun tk=>⟨.bl _,H,I.tok _,rfl,q ρ H _ (Le.refl _ _) rh (.bl _)⟩
   cases x with
   | non=>exact plain _ rfl rfl
   | bl b=>exact plain _ rfl rfl
   | int i=>exact plain _ rfl rfl
   | str i=>exact plain _ rfl rfl
   | tup i=>exact plain _ rfl rfl
   | frl i=>exact plain _ rfl rfl
   | loc n =>
    cases en:h[n]? with
    | none=>simp only[bn,en] at q;exact q.elim
    | some o =>
     cases o with
     | lst xs=>exact plain "list" (by simp[tyP,en]) (by simp[bn,en])
     | dic xs=>exact plain "dict" (by simp[tyP,en]) (by simp[bn,en])
     | exc ex =>
      simp only[bn,en] at q;by_cases hc:cs.contains ex.cls=true
      ·rw[qae hc] at q;obtain⟨C,hm,EQ,hcd,hk⟩:=IC.ex ex.cls (by simpa using hc)
       cases rx with
       | @loc n a e =>
        cases r1;obtain⟨o',eo',ro⟩:=rh.obj e;rw[en] at eo';cases eo';obtain⟨_,C',hm',hH⟩:=ro;rw[hm] at hm';cases hm';obtain⟨hz,_,_⟩:=(show ObjOk X.prog X.w H s.heap a (.ext (hW a C)) from I.hok a _ hH);exact PySem.W.kia_one (rg EQ hcd) I.kIn hz hk (fun z=>nomatch z) fun tk=>⟨.bl _,H,I.tok _,rfl,q ρ H _ (Le.refl _ _) rh (.bl _)⟩
      ·rw[qao hc] at q;exact q.elim
def me_isiC(g:Good X N W G k){a:Expr}{m:Mx PV}{c:Str}{D:Addr}{cs sup:List Str}{i j:Nat}{p q pos:Pos}(hi:G[i]?=some "isinstance")(hm:X.mg "isinstance"=none)(hj:G[j]?=some c)(hc:X.mg c=some (.ref D))(IC:IsiC X.K X.mg (.ref D) cs sup)(ha:ME X a m)
  (he:starEach [a,.Name c q] X.env=(false,eval a X.env)::starEach [.Name c q] X.env:=by rfl) (he2:starEach [.Name c q] X.env=[(false,eval (.Name c q) X.env)]:=by rfl) (hpl:(backTo pos (starEach [.Name c q] X.env)).any (·.1)=false:=by rfl) :
  ME X (.Call (.Name "isinstance" p) [a,.Name c q] [] pos) (mUn (bn cs sup) m):=by
 have d1:=g.dbg _ (qad _ (az hi));have d:=g.dbg c (qad _ (az hj));refine PE.imp (fy (uM IC (v:=.ref D) fun u r=>(show u=Value.ref D from r)) (g.gl _ (az hi)) hm PyProof.Rows.Boot.«isinstance» (bR ha (bR (lR (v:=.ref D) (u:=.ref D) (g.gl c (az hj)) hc rfl d.1) eY he2) he) d1.2.2 d1.1 he hpl) fun σ H Q ⟨ρ,σp,h,rs,rh,q⟩=>?_;exact⟨ρ,σp,h,rs,rh,Ful.bind q fun ρ1 H1 x x' h1 _ l1 rh1 rx q1=>⟨x',rfl,ρ1,h1,x,rh1,rx,q1.zero⟩⟩
def me_isiB(g:Good X N W G k){a:Expr}{m:Mx PV}{c:Str}{T:String}{cs sup:List Str}{i j:Nat}{p q pos:Pos}(hi:G[i]?=some "isinstance")(hm:X.mg "isinstance"=none)(hj:G[j]?=some c)(hc:X.mg c=none)(hv:bootBuiltins c=some (.type T))(IC:IsiC X.K X.mg (.type T) cs sup)(ha:ME X a m)
  (he:starEach [a,.Name c q] X.env=(false,eval a X.env)::starEach [.Name c q] X.env:=by rfl) (he2:starEach [.Name c q] X.env=[(false,eval (.Name c q) X.env)]:=by rfl) (hpl:(backTo pos (starEach [.Name c q] X.env)).any (·.1)=false:=by rfl) :
  ME X (.Call (.Name "isinstance" p) [a,.Name c q] [] pos) (mUn (bn cs sup) m):=by
 have d1:=g.dbg _ (qad _ (az hi));have d:=g.dbg c (qad _ (az hj));refine PE.imp (fy (uM IC (v:=.ty T) fun u r=>(show u=Value.type T from r)) (g.gl _ (az hi)) hm PyProof.Rows.Boot.«isinstance» (bR ha (bR (mm (v:=.ty T) (u:=.type T) (g.gl c (az hj)) hc hv rfl d.2.2 d.1) eY he2) he) d1.2.2 d1.1 he hpl) fun σ H Q ⟨ρ,σp,h,rs,rh,q⟩=>?_;exact⟨ρ,σp,h,rs,rh,Ful.bind q fun ρ1 H1 x x' h1 _ l1 rh1 rx q1=>⟨x',rfl,ρ1,h1,x,rh1,rx,q1.zero⟩⟩
end
def dW{K:qab}{D:Addr}(h:PySem.W.kitOne K (.type "NoneType") (.ref D)=some false):∀t∈["NoneType","bool","int","str","tuple","list","dict"],PySem.W.kitOne K (.type t) (.ref D)=some false:=by
 have hb:((PySem.W.clsIn K D).isSome && PySem.W.typeIn K (.ref D) == some (.type "type"))=true:=by
  cases z:((PySem.W.clsIn K D).isSome && PySem.W.typeIn K (.ref D) == some (.type "type")) with
  | true=>rfl
  | false =>
   have e:PySem.W.kitOne K (.type "NoneType") (.ref D)=PySem.W.kitCls K (.type "NoneType") (.ref D):=rfl;rw[e] at h;unfold PySem.W.kitCls at h;dsimp only at h;rw[z] at h;cases h
 have key:∀t,PySem.W.kitOne K (.type t) (.ref D)=(if ((PySem.W.clsIn K D).isSome && PySem.W.typeIn K (.ref D) == some (.type "type"))=true then PySem.W.subIn K (.type t) (.ref D) else none):=fun t=>rfl;intro t ht;rw[key,qae hb];simp only[qaj,qaB,or_false] at ht;rcases ht with rfl|rfl|rfl|rfl|rfl|rfl|rfl <;> rfl
def ty_VE:∀(K:qab),∀t∈["NoneType","bool","int","str","tuple","list","dict"],PySem.W.kitOne K (.type t) (.type "ValueError")=some false:=by
 intro K t ht;simp only[qaj,qaB,or_false] at ht;rcases ht with rfl|rfl|rfl|rfl|rfl|rfl|rfl <;> rfl
def ww{K:qab}{C:Addr}{b:Value}{r:Bool}(h:PySem.W.mroIn K C b=some r):∃cd,PySem.W.clsIn K C=some cd:=by
 unfold PySem.W.mroIn at h
 cases z:PySem.W.clsIn K C with
 | none=>rw[z] at h;cases h
 | some cd=>exact⟨cd,rfl⟩
def cO{K:qab}{mg:MGl}{T:Value}{cs sup:List Str}(ty:∀t∈["NoneType","bool","int","str","tuple","list","dict"],PySem.W.kitOne K (.type t) T=some false)
  (ex:∀x∈cs,∃C,mg x=some (.ref C)/\ExcQ K C/\PySem.W.kitOne K (.ref C) T=some (sup.contains x)):IsiC K mg T cs sup :=
 ⟨ty,fun x hx=>let ⟨C,a,b,c⟩:=ex x hx;⟨C,a,b,ww b.mo,c⟩⟩
def cC{p:Str->Prop}:∀x∈([]:List Str),p x:=fun _ h=>nomatch h
def aK{p:Str->Prop}{a:Str}{l:List Str}(h:p a)(t:∀x∈l,p x):∀x∈a::l,p x:=fun x hx=>by
 rcases qaj.mp hx with rfl|z
 ·exact h
 ·exact t x z
section
variable {X:Cx} {N W G:List Str} {k:Nat}
def iR(g:Good X N W G k){x:Str}{j:Nat}(hj:G[j]?=some x)(EC:∃C,pK X x C){e:Expr}{es:List Expr}{m:Mx (List PV)}{np cpos pos:Pos}(ha:MA X (e::es) m)
  (he:starEach (e::es) X.env=(false,eval e X.env)::starEach es X.env:=by rfl) (hpl:(backTo cpos (starEach es X.env)).any (·.1)=false:=by rfl) :
  MS X (.Raise (some (.Call (.Name x np) (e::es) [] cpos)) none pos) (gs x m):=let ⟨_,h⟩:=EC;zc g hj h ha he hpl
def vh(g:Good X N W G k)(dc:DefCx X){c:Str}{j:Nat}(hj:G[j]?=some c){cs:List Str}(ED:∃D,pK X c D/\∀x∈cs,∃C,pK X x C/\PySem.W.mroIn X.K C (.ref D)=some true)(iy inn:Nat){y n:Str}(hyi:N[iy]?=some y)(hyw:W[iy]?=some y)(hni:N[inn]?=some n)(hnw:W[inn]?=some n)
  (hnl:X.env.scope.names.lookup n=some .local) {body:List Stmt} {mb:Mst} {cp yp np sp hp pos:Pos}
  (hb:∀Y:Cx,Y.prog=X.prog->Y.w=X.w->Y.K=X.K->Y.mg=X.mg->Y.base=X.base->Y.env=X.env->Good Y N W G k->DefCx Y->MSs Y body mb) (hsw:swapsWith (.Name n np) (some (.Name y yp)) sp.line X.env=pure false:=by rfl) :
  MS X (.Try body [.ExceptHandler (some (.Name c cp)) (some n) [.Assign [.Name y yp] (.Name n np) sp] hp] [] [] pos) (kj cs iy inn mb):=let ⟨_,h,h'⟩:=ED;ms_try g dc hj h h' iy inn hyi hyw hni hnw hnl hb hsw
def uL(g:Good X N W G k){a:Expr}{m:Mx PV}{c:Str}{cs sup:List Str}{i j:Nat}{p q pos:Pos}(hi:G[i]?=some "isinstance")(hm:X.mg "isinstance"=none)(hj:G[j]?=some c)(IC:∃D,X.mg c=some (.ref D)/\IsiC X.K X.mg (.ref D) cs sup)(ha:ME X a m)
  (he:starEach [a,.Name c q] X.env=(false,eval a X.env)::starEach [.Name c q] X.env:=by rfl) (he2:starEach [.Name c q] X.env=[(false,eval (.Name c q) X.env)]:=by rfl) (hpl:(backTo pos (starEach [.Name c q] X.env)).any (·.1)=false:=by rfl) :
  ME X (.Call (.Name "isinstance" p) [a,.Name c q] [] pos) (mUn (bn cs sup) m):=let ⟨_,h,h'⟩:=IC;me_isiC g hi hm hj h h' ha he he2 hpl
def Cal.at(e1:Y.prog=X.prog)(e2:Y.w=X.w)(e3:Y.K=X.K)(e4:Y.mg=X.mg)(e5:Y.base=X.base)(c:Cal X x ps F i):Cal Y x ps F i:=c.to e1 e2 e3 e4 e5
end
end MM
namespace MM
open PySem PySem.Spec PyProof.Rows L2
def compOk(hsc:X.env.scope=sc)(h1:scope.kind=.function)(h2:∀y∈scope.names,y.2=.cell->scope.names.lookup y.1=some .cell)(h3:∀y∈scope.names,y.2=.local->scope.names.lookup y.1=some .local)(h4:∀x∈vars,scope.names.lookup x=some .local\/scope.names.lookup x=some .cell)
  (h5:∀x∈frees,scope.names.lookup x=some .free) (h6:∀y∈scope.names,y.2=.free->y.1∈frees) (h7:fm.map (fun i=>N[i]?)=frees.map some) (h8:∀x∈frees,sc.names.lookup x=some .cell):CompOk X N scope vars frees fm :=
 ⟨h1,h2,h3,h4,h5,h6,h7,fun x hx=>by rw[<-hsc] at h8;exact h8 x hx⟩
end MM
namespace MM
open PySem PySem.Spec PyProof.Rows L2
local instance (priority:=1) cdec16 (p:Prop):Decidable p:=Classical.propDecidable p
section
variable {σ:PSt} {h:MH}
@[simp] theorem i9:gs x m σ h=(m σ h).go σ fun vs σ h=>if vs.length<=sizeLine then .rse ⟨x,[]⟩ σ h else .bad:=rfl
def SOut.caught(o:SOut)(cs:List Str)(iy inn:Nat):SOut:=match o with
 | .exc x σ1 h1=>if x.fs=[]/\x.cls∈cs then .nx (((σ1.set inn (some (.loc h1.length))).set iy (some (.loc h1.length))).set inn none) (h1++[.exc x]) else .bad
 | .rse _ _ _=>.bad
 | o=>o
@[simp] theorem vv:kj cs iy inn mb σ h=(mb σ h).caught cs iy inn:=rfl
@[simp] theorem caught_nx:(SOut.nx σ h).caught cs iy inn=.nx σ h:=rfl
@[simp] theorem caught_rt:(SOut.rt v h).caught cs iy inn=.rt v h:=rfl
@[simp] theorem m5{nv:Nat}{fm:List Nat}{mi:Mx MIt}{gt:Mg}{mt:Mx Bool}{me:Mx PV}:bI nv fm mi gt mt me σ h =
 (mi σ h).bind fun it h1=>(cGo it h1.length gt mt me it.xs (cSt nv fm σ) (h1++[.lst []])).bind fun _ h3=>.ok (.loc h1.length) h3:=rfl
def pq{it:MIt}{n:Nat}{gt:Mg}{mt:Mx Bool}{me:Mx PV}(e:it.ok h):cGo it n gt mt me [] σ h=.ok () h:=by rw[cGo,qae e]
def pS{it:MIt}{n:Nat}{gt:Mg}{mt:Mx Bool}{me:Mx PV}{x v:PV}{r ys:List PV}{σ1:PSt}{h1 h2 h3:MH}(e:it.ok h)(eg:gt x σ h=.nx σ1 h1)(et:mt σ1 h1=.ok true h2)(ee:me σ1 h2=.ok v h3)(el:h3[n]?=some (.lst ys))(hl:ys.length<1000) :
  cGo it n gt mt me (x::r) σ h=cGo it n gt mt me r σ1 (h3.set n (.lst (ys++[v]))):=by
 rw[cGo,qae e,eg];simp only[et,Out.ne_ok,Out.bind_ok,if_true,ee,el];rw[qae (qau hl (by decide))]
def cGo_no{it:MIt}{n:Nat}{gt:Mg}{mt:Mx Bool}{me:Mx PV}{x:PV}{r:List PV}{σ1:PSt}{h1 h2:MH}(e:it.ok h)(eg:gt x σ h=.nx σ1 h1)(et:mt σ1 h1=.ok false h2) :
  cGo it n gt mt me (x::r) σ h=cGo it n gt mt me r σ1 h2:=by
 rw[cGo,qae e,eg];simp only[et,Out.ne_ok,Out.bind_ok,qag,if_false]
def xf(e:h[n]?=some (.exc x))(hc:cs.contains x.cls=true):bn cs sup (.loc n) h=.ok (.bl (sup.contains x.cls)) h:=by
 simp only[bn,e];rw[qae hc]
def gh{o:MO}{g:MH}:(h++o::g)[h.length]?=some o:=by simp
def rc{g:MH}{n:Nat}{o:MO}(e:h[n]?=some o):(h++g)[n]?=some o:=by
 rw[qak (qaf.mp e).1];exact e
end
end MM
namespace MM
open PySem PySem.Spec PyProof.Rows L2
end MM
namespace MM
open PySem PySem.Spec PyProof.Rows L2
local instance (priority:=1) cdec18 (p:Prop):Decidable p:=Classical.propDecidable p
def mMt(f:Nat->List PV->MH->Out PV)(m:Mx PV)(ma:Mx (List PV)):Mx PV:=fun σ h=>(m σ h).bind fun o h1=>match o with
 | .loc n=>(match h1[n]? with
  | some (.lst _)=>(ma σ h1).bind fun vs h2=>(f n vs h2).ne
  | _=>.bad)
 | _=>.bad
def d9(n:Nat)(vs:List PV)(h:MH):Out PV:=match vs,h[n]? with
 | [v],some (.lst xs)=>if xs.length<sizeLine then .ok .non (h.set n (.lst (xs++[v]))) else .bad
 | _,_=>.bad
section
variable {X:Cx} {N W G:List Str} {k:Nat}
def mtJ(X:Cx)(f:Nat->List PV->MH->Out PV):V->List V->Hp->VK->Prop:=fun x vs H Q=>∃ρ h n a ps,x=.ref a/\ρ[n]?=some a/\RH X.K X.mg ρ H h/\RPs X.K ρ H ps vs/\iF X (RV' X) ρ H (f n ps h) Q
def gA:MtR X "list.append" (mtJ X d9):=by
 intro G6 s σ H x vs v us Q I rx rv ⟨ρ,h,n,a,ps,e,en,rh,rp,q⟩;subst e;obtain⟨o,eo,ro⟩:=rh.obj en;unfold d9 at q
 cases rp with
 | nil=>rw[eo] at q;exact q.elim
 | cons r1 t1 =>
  cases t1 with
  | cons _ _=>rw[eo] at q;exact q.elim
  | nil =>
   rw[eo] at q
   cases o with
   | lst xs =>
    dsimp only at q;by_cases hl:xs.length<sizeLine
    ·rw[qae hl] at q;obtain⟨ys,ey,ry⟩:=ro;obtain⟨rh',l'⟩:=rh.put en (o:=.lst (xs++[_])) (ho:=.lst (ys++[_])) ⟨_,rfl,ry.append (.cons r1 .nil)⟩;exact qw G6 s σ H _ _ v us Q I rx rv ⟨a,ys,_,rfl,rfl,ey,by rw[<-ry.length];exact hl,q ρ _ .non l' rh' .non⟩
    ·rw[qao hl] at q;exact q.elim
   | _=>exact q.elim
variable {o e:Expr} {es:List Expr} {name:Str} {apos cpos:Pos} {id:String} {f:Nat→List PV→MH→Out PV} {m:Mx PV} {ma:Mx (List PV)}
def tM_mt{ta:TA}(hna:∀σ H Q,tM X (RVs' X) ma σ H Q->ta σ H Q){σ:L2.St}{H:Hp}{Q:VK}(tm:tM X (RV' X) (mMt f m ma) σ H Q):tM X (RV' X) m σ H (fun x H1=>tyV X.K "list" x H1/\ta σ H1 fun xs H2=>mtJ X f x xs H2 Q):=by
 obtain⟨ρ,σp,h,rs,rh,q⟩:=tm;refine⟨ρ,σp,h,rs,rh,?_⟩;unfold mMt at q;refine Ful.bind q fun ρ1 H1 x x' h1 _ l1 rh1 rx q1=>?_
 cases rx with
 | @loc n a en =>
  obtain⟨ob,eo,ro⟩:=rh1.obj en;dsimp only at q1;rw[eo] at q1
  cases ob with
  | lst xs =>
   obtain⟨ys,ey,ry⟩:=ro;refine⟨.inl ⟨rfl,ys,SqL.of ey⟩,hna σ H1 _ ⟨ρ1,σp,h1,rs.le l1,rh1,?_⟩⟩;exact Ful.bind q1 fun ρ2 H2 vs vs' h2 _ l2 rh2 rvs q2=>⟨ρ2,h2,n,a,vs,rfl,l2.get en,rh2,rvs,q2.zero⟩
  | _=>exact q1.elim
 | _=>exact q1.elim
def o3(slot:Slot "list" name id)(hty:typeOf (.builtin id)=pure (.type "method_descriptor"))(hm:MtR X id (mtJ X f))(ho:ME X o m)(ha:MA X (e::es) ma)
  (hbase:attributeBase o name X.env (eval o X.env)=eval o X.env:=by rfl)
  (hfew:((backTo cpos (starEach (e::es) X.env)).all (fun x=>!x.1) && (backToKw cpos (keywordEach [] X.env)).all (fun x=>x.1.isSome)
   && decide ((e::es).length+([]:List Keyword).length+(if ([]:List Keyword).isEmpty then 0 else 1)<30))=true:=by rfl)
  (hline:(apos.endLine == cpos.line)=true:=by rfl) (hs:starEach (e::es) X.env=(false,eval e X.env)::starEach es X.env:=by rfl) (hplain:(backTo cpos (starEach es X.env)).any (·.1)=false:=by rfl) :
  ME X (.Call (.Attribute o name apos) (e::es) [] cpos) (mMt f m ma) :=
 PE.imp (pe_bm PySem.F.plainAttrs_list slot hty hm ho ha hbase hfew hline hs hplain) fun σ H Q q=>tM_mt (fun _ _ _ z=>z) q
@[simp] theorem mMt_ap:mMt f m ma σ h=(m σ h).bind fun o h1=>match o with
 | .loc n=>(match h1[n]? with
  | some (.lst _)=>(ma σ h1).bind fun vs h2=>(f n vs h2).ne
  | _=>.bad)
 | _=>.bad:=rfl
end
end MM
namespace MM
open PySem PySem.Spec PyProof.Rows L2
end MM
namespace MM
open PySem PySem.Spec PyProof.Rows L2
local instance (priority:=1) cdec20 (p:Prop):Decidable p:=Classical.propDecidable p
def cz(h:MH):PV->Option (List PV)
 | .tup xs=>some xs
 | .frl xs=>some xs
 | .loc n=>(match h[n]? with
  | some (.lst xs)=>some xs
  | _=>none)
 | _=>none
section
variable {X:Cx} {N W G:List Str} {k:Nat}
def lM(rh:RH X.K X.mg ρ H h)(rx:RP X.K ρ H x x')(e:cz h x=some xs):∃a ys,x'=.ref a/\(SqL X.K H a ys\/SqT X.K H a ys)/\RPs X.K ρ H xs ys:=by
 cases rx with
 | tup s r=>cases e;exact⟨_,_,rfl,.inr s,r⟩
 | frl s r=>cases e;exact⟨_,_,rfl,.inl s.sq,r⟩
 | @loc n a en =>
  obtain⟨o,eo,ro⟩:=rh.obj en;simp only[cz,eo] at e
  cases o with
  | lst ys =>
   cases e;obtain⟨zs,ez,rz⟩:=ro;exact⟨a,zs,rfl,.inl (SqL.of ez),rz⟩
  | _=>cases e
 | _=>cases e
def jv(f g:PV->PV->MH->Out PV)(a b c:Mx PV):Mx PV:=fun σ h=>(a σ h).bind fun x h1=>(b σ h1).bind fun y h2=>(f x y h2).ne.bind fun z h3=>match z with
 | .bl t=>if t=true then (c σ h3).bind fun w h4=>(g y w h4).ne else .ok (.bl false) h3
 | _=>.bad
variable {a b c:Expr} {ma mb mc:Mx PV} {f g':PV→PV→MH→Out PV} {op op':CmpOp} {pos:Pos}
def zq{σ:L2.St}{H:Hp}{Q:VK}(q:tM X (RV' X) (jv f g' ma mb mc) σ H Q):wY (rJ X f) (rJ X g') (tM X (RV' X) ma) (tM X (RV' X) mb) (tM X (RV' X) mc) σ H Q:=by
 obtain⟨ρ,σp,h,rs,rh,q⟩:=q;refine⟨ρ,σp,h,rs,rh,Ful.bind q fun ρ1 H1 x x' h1 _ l1 rh1 rx q1=>?_⟩;refine⟨ρ1,σp,h1,rs.le l1,rh1,Ful.bind q1 fun ρ2 H2 y y' h2 _ l2 rh2 ry q2=>?_⟩;refine⟨ρ2,h2,x,y,rh2,rx.le l2,ry,?_⟩;have key:Ful X (RV' X) σp ρ2 H2 (f x y h2).ne (fun z H3=>∃k,z=.bl k/\(if k=true then tM X (RV' X) mc σ H3 fun w' H4=>rJ X g' y' w' H4 Q else Q (.bl false) H3)):=Ful.bind q2 fun ρ3 H3 z z' h3 _ l3 rh3 rz q3=>by
  cases rz with
  | bl t =>
   refine⟨t,rfl,?_⟩;dsimp only at q3
   cases t with
   | true =>
    rw[qae rfl] at q3 ⊢;exact⟨ρ3,σp,h3,rs.le (l1.trans (l2.trans l3)),rh3,Ful.bind q3 fun ρ4 H4 w w' h4 _ l4 rh4 rw' q4=>⟨ρ4,h4,y,w,rh4,(ry.le l3).le l4,rw',q4.zero⟩⟩
   | false =>
    rw[qao qaN] at q3 ⊢;exact q3 ρ3 H3 _ (Le.refl _ _) rh3 (.bl _)
  | _=>exact q3.elim
 exact key.zero
def tR(ho:OpJ X (compareOp op) f)(ho':OpJ X (compareOp op') g')(ha:ME X a ma)(hb:ME X b mb)(hc:ME X c mc)(hm:lastMarks [op,op'] [b,c]=false:=by with_unfolding_all rfl):ME X (.Compare a [op,op'] [b,c] pos) (jv f g' ma mb mc) :=
 PE.imp (yJ ho ho' ha hb hc hm) fun _ _ _ q=>zq q
@[simp] theorem mChain_ap:jv f g' ma mb mc σ h=(ma σ h).bind fun x h1=>(mb σ h1).bind fun y h2=>(f x y h2).ne.bind fun z h3=>match z with
 | .bl t=>if t=true then (mc σ h3).bind fun w h4=>(g' y w h4).ne else .ok (.bl false) h3
 | _=>.bad:=rfl
def fList(xs:List PV)(h:MH):Out PV:=match xs with
 | [x]=>(match cz h x with
  | some ys=>newL ys h
  | none=>.bad)
 | _=>.bad
def fTuple(xs:List PV)(h:MH):Out PV:=match xs with
 | [x]=>(match cz h x with
  | some ys=>.ok (.tup ys) h
  | none=>.bad)
 | _=>.bad
def lO:dr X (.type "list") fList:=by
 intro G6 s σ H xs us Q I r ⟨ρ,h,ps,rh,rp,q⟩
 cases rp with
 | nil=>exact q.elim
 | cons r1 t1 =>
  cases t1 with
  | cons _ _=>exact q.elim
  | nil =>
   rename_i x y
   unfold fList at q
   cases es:cz h x with
   | none=>simp only[es] at q;exact q.elim
   | some ys =>
    simp only[es] at q;obtain⟨a,zs,rfl,hsq,rzs⟩:=lM rh r1 es;obtain⟨_,q'⟩:=lV rh rzs q;exact rC G6 s σ H _ us Q I r ⟨a,zs,rfl,hsq,q'⟩
def fZ:dr X (.type "tuple") fTuple:=by
 intro G6 s σ H xs us Q I r ⟨ρ,h,ps,rh,rp,q⟩
 cases rp with
 | nil=>exact q.elim
 | cons r1 t1 =>
  cases t1 with
  | cons _ _=>exact q.elim
  | nil =>
   rename_i x y
   unfold fTuple at q
   cases es:cz h x with
   | none=>simp only[es] at q;exact q.elim
   | some ys =>
    simp only[es] at q;obtain⟨a,zs,rfl,hsq,rzs⟩:=lM rh r1 es;rcases hsq with hq|hq
    ·refine kJ G6 s σ H _ us Q I r ⟨a,zs,rfl,.inl ⟨hq,fun l hl=>?_⟩⟩;obtain⟨r',l'⟩:=rh.tup hl zs;exact q ρ _ _ l' r' (.tup (SqT.of bC) (rzs.le l'))
    ·exact kJ G6 s σ H _ us Q I r ⟨a,zs,rfl,.inr ⟨hq,q ρ H _ (Le.refl _ _) rh (.tup hq rzs)⟩⟩
def eU(xs:List PV)(lo hi:Option Int):List PV:=(xs.drop (HT.sIx xs.length 0 lo)).take (HT.sIx xs.length xs.length hi - HT.sIx xs.length 0 lo)
def fSl(x:PV)(lo hi:Option Int)(h:MH):Out PV:=match x with
 | .tup xs=>if HT.sIx xs.length 0 lo=0/\HT.sIx xs.length xs.length hi=xs.length then .bad else .ok (.tup (eU xs lo hi)) h
 | .frl xs=>.ok (.loc h.length) (h++[.lst (eU xs lo hi)])
 | .loc n=>(match h[n]? with
  | some (.lst xs)=>.ok (.loc h.length) (h++[.lst (eU xs lo hi)])
  | _=>.bad)
 | _=>.bad
def slJ(X:Cx)(f:PV->Option Int->Option Int->MH->Out PV):V->Option Int->Option Int->Hp->VK->Prop:=fun x' lo hi H Q=>∃ρ h x,RH X.K X.mg ρ H h/\RP X.K ρ H x x'/\iF X (RV' X) ρ H (f x lo hi h) Q
def mj{K:qab}{ρ:List Addr}{H:Hp}{xs:List PV}{ys:List V}(r:RPs K ρ H xs ys)(lo hi:Option Int):RPs K ρ H (eU xs lo hi) (gF ys lo hi):=by
 unfold eU gF;rw[r.length];exact (r.drop _).take _
def sj_sl:SlR X (slJ X fSl):=by
 intro G6 s σ H x' v vl vu lo hi sl Q I rx hs pl pu ⟨ρ,h,x,rh,rxx,q⟩
 cases rxx with
 | tup s1 r1 =>
  unfold fSl at q;dsimp only at q
  rename_i xs a ys
  by_cases z:HT.sIx xs.length 0 lo=0/\HT.sIx xs.length xs.length hi=xs.length
  ·rw[qae z] at q;exact q.elim
  ·rw[qao z] at q;refine xh G6 s σ H _ v vl vu lo hi sl Q I rx hs pl pu ⟨a,ys,rfl,s1,by rw[<-r1.length];exact z,fun p hp=>?_⟩;obtain⟨r',l'⟩:=rh.tup hp (gF ys lo hi);exact q ρ _ _ l' r' (.tup (SqT.of bC) ((mj r1 lo hi).le l'))
 | frl s1 r1 =>
  rename_i xs a ys
  refine vi G6 s σ H _ v vl vu lo hi sl Q I rx hs pl pu ⟨a,ys,rfl,s1.sq,fun p hp=>?_⟩;obtain⟨r',l'⟩:=rh.new hp (o:=.lst (eU xs lo hi)) (ho:=.lst (gF ys lo hi)) ⟨_,rfl,mj r1 lo hi⟩;exact q _ _ _ l' r' (.loc (by rw[<-rh.len];simp))
 | @loc n a en =>
  obtain⟨o,eo,ro⟩:=rh.obj en;unfold fSl at q;dsimp only at q;rw[eo] at q
  cases o with
  | lst xs =>
   obtain⟨ys,ey,ry⟩:=ro;refine vi G6 s σ H _ v vl vu lo hi sl Q I rx hs pl pu ⟨a,ys,rfl,SqL.of ey,fun p hp=>?_⟩;obtain⟨r',l'⟩:=rh.new hp (o:=.lst (eU xs lo hi)) (ho:=.lst (gF ys lo hi)) ⟨_,rfl,mj ry lo hi⟩;exact q _ _ _ l' r' (.loc (by rw[<-rh.len];simp))
  | _=>exact q.elim
 | _=>exact q.elim
def MO'(X:Cx)(e:Option Expr)(m:Mx (Option Int)):Prop:=PO X e (tM X REq m)
def mNo:Mx (Option Int):=fun _ h=>.ok none h
def mPt(m:Mx PV):Mx (Option Int):=fun σ h=>(m σ h).bind fun v h1=>match v with
 | .int i=>.ok (some i) h1
 | _=>.bad
def bQ:MO' X none mNo:=fun G6 s σ H Q I ⟨ρ,σp,h,rs,rh,q⟩=>po_none G6 s σ H Q I (q ρ H none (Le.refl _ _) rh rfl)
def bS(h:ME X e m):MO' X (some e) (mPt m):=fun G6 s σ H Q I ⟨ρ,σp,hh,rs,rh,q⟩=>po_some h G6 s σ H Q I ⟨ρ,σp,hh,rs,rh,Ful.bind q fun ρ1 H1 v v' h1 _ l1 rh1 rv q1=>by
 cases rv with
 | int i=>exact⟨i,rfl,q1 ρ1 H1 (some i) (Le.refl _ _) rh1 rfl⟩
 | _=>exact q1.elim⟩
def mSl(m:Mx PV)(ml mh:Mx (Option Int)):Mx PV:=fun σ h=>(m σ h).bind fun x h1=>(ml σ h1).bind fun lo h2=>(mh σ h2).bind fun hi h3=>(fSl x lo hi h3).ne
def dZ{e:Expr}{lo hi:Option Expr}{m:Mx PV}{ml mh:Mx (Option Int)}{p2:Pos}(he:ME X e m)(hl:MO' X lo ml)(hu:MO' X hi mh):ME X (.Subscript e (.Slice lo hi none p2) pos) (mSl m ml mh) :=
 PE.imp (si sj_sl he hl hu) fun σ H Q ⟨ρ,σp,h,rs,rh,q⟩=>⟨ρ,σp,h,rs,rh,Ful.bind q fun ρ1 H1 x x' h1 _ l1 rh1 rx q1=>⟨ρ1,σp,h1,rs.le l1,rh1,Ful.bind q1 fun ρ2 H2 lo lo' h2 _ l2 rh2 el q2=>by
  subst el
  exact⟨ρ2,σp,h2,rs.le (l1.trans l2),rh2,Ful.bind q2 fun ρ3 H3 hi hi' h3 _ l3 rh3 eh q3=>by
   subst eh
   exact⟨ρ3,h3,x,rh3,(rx.le l2).le l3,q3.zero⟩⟩⟩⟩
end
section
variable {X:Cx} {N W G:List Str} {k:Nat}
def yi{A:Around}{E:Value->Shared->Prop}{G6:List (Addr × Obj)}{σ:L2.St}{H:Hp}{s:Shared}{a:Addr}{ys:List V}{Q:Value->Shared->Prop}(hh:A.handled=none)(I:Inv X G6 σ H s)(hq:SqL X.K H a ys\/SqT X.K H a ys)
  (h:∀(its:List Value) (h2:Heap) (It:Addr) (St:Nat->Heap->Prop),aF ys its->Walks X.prog X.w A It [It,a] [It] its.toArray.size (fun i v=>its.toArray[i]?=some v) St->St 0 h2->(∀b∈[It,a],b<h2.objs.size)->(∀b o,s.heap.get? b=some o->h2.get? b=some o)->s.heap.objs.size=It->Q (.ref It) { s with heap:=h2}) :
  wpAny (model X.prog X.w) A (pyIter (.ref a)) Q E s:=by
 have sz:∀(o:Obj),a<s.heap.objs.size->∀b∈[s.heap.objs.size,a],b<(s.heap.push o).objs.size:=fun o hlt b hb=>by
  rw[qbi];rcases qaj.mp hb with rfl|hb
  ·exact Nat.lt_succ_self _
  ·rcases qaj.mp hb with rfl|hb
   ·exact Nat.lt_succ_of_lt hlt
   ·cases hb
 rcases hq with hq|hq
 ·obtain⟨its,rv,pl,_⟩:=I.list hq;have hl:=pl.isList;have hlt:a<s.heap.objs.size:=by obtain⟨_,e,_⟩:=hl;exact qam e
  exact wpAny_pyIter_list hl (h its _ _ _ rv (Walks.list hh _ a (qaL hlt) its.toArray) ⟨⟨_,qav _ rfl,rfl,rfl⟩,hl.push _⟩ (sz _ hlt) (fun b o e=>qac _ e) rfl)
 ·obtain⟨its,rv,hl,_⟩:=I.tuple hq;have hlt:a<s.heap.objs.size:=by obtain⟨_,e,_⟩:=hl;exact qam e
  exact wpAny_pyIter_tuple hl (h its _ _ _ rv (Walks.tuple hh _ a (qaL hlt) its.toArray) ⟨⟨_,qav _ rfl,rfl,rfl⟩,hl.push _⟩ (sz _ hlt) (fun b o e=>qac _ e) rfl)
def kept2{s:Shared}{h2 h':Heap}{It:Addr}(k1:∀b o,s.heap.get? b=some o->h2.get? b=some o)(e:s.heap.objs.size=It)(k2:∀b o,b∉[It]->h2.get? b=some o->h'.get? b=some o):∀b o,s.heap.get? b=some o->h'.get? b=some o:=fun b o q=>by
 refine k2 b o (fun hm=>?_) (k1 b o q)
 have:b=It:=by simpa using hm
 exact absurd (qam q) (by rw[this,e];exact qaQ _)
def kl:List PV->Option (List Bool)
 | []=>some []
 | .bl b::r=>(kl r).map (b::·)
 | _=>none
def bls_rel{K:qab}{ρ:List Addr}{H:Hp}:∀{xs:List PV} {ys:List V} {bs:List Bool} {us:List Value},RPs K ρ H xs ys->aF ys us->kl xs=some bs->us=bs.map Value.bool:=by
 intro xs
 induction xs with
 | nil=>intro ys bs us r v e;cases r;cases v;cases e;rfl
 | cons x xs ih =>
  intro ys bs us r v e
  cases r with
  | cons r1 r2 =>
   cases v with
   | cons v1 v2 =>
    cases r1 with
    | bl b =>
     simp only[kl,qaA] at e;obtain⟨bs',e',rfl⟩:=e;rw[ih r2 v2 e',show _=Value.bool b from v1];rfl
    | _=>cases e
def ui(bs:List Bool):TruthOf X.prog X.w A (fun i v=>(bs.map Value.bool).toArray[i]?=some v) (fun i=>bs.getD i false):=fun i v s Q E hP hQ=>by
 have:v=.bool (bs.getD i false):=by
  have hP:(List.map Value.bool bs).toArray[i]?=some v:=hP;rw[List.getElem?_toArray,qaK,qaA] at hP;obtain⟨b,e,rfl⟩:=hP;rw[List.getD_eq_getElem?_getD,e];rfl
 subst this;exact wpAny_truthy_bool hQ
def xa(bs:List Bool):(List.range bs.length).all (fun i=>bs.getD i false)=bs.all id:=by
 induction bs with
 | nil=>rfl
 | cons b r ih =>
  rw[qbd,qcu,qci,List.all_map,qci,<-ih];rfl
def fAll(xs:List PV)(h:MH):Out PV:=match xs with
 | [x]=>(match (cz h x).bind kl with
  | some bs=>.ok (.bl (bs.all id)) h
  | none=>.bad)
 | _=>.bad
def ot(g:Good X N W G k):dr X (.builtin "all") fAll:=by
 intro G6 s σ H xs us Q I r ⟨ρ,h,ps,rh,rp,q⟩
 cases rp with
 | nil=>exact q.elim
 | cons r1 t1 =>
  cases t1 with
  | cons _ _=>exact q.elim
  | nil =>
   rename_i x y
   unfold fAll at q
   cases es:(cz h x).bind kl with
   | none=>simp only[es] at q;exact q.elim
   | some bs =>
    simp only[es] at q;obtain⟨ys,e1,e2⟩:=qbb.mp es;obtain⟨a,zs,rfl,hsq,rzs⟩:=lM rh r1 e1
    cases r with
    | cons ru tu =>
     cases tu;cases ru;refine call_all_walk (yi (A:=X.A.in1) g.room.hd I hsq fun its h2 It St rv Wk st fp kp esz=>?_);have ei:=bls_rel rzs rv e2;refine⟨It,_,_,_,_,St,_,rfl,Wk,st,by rw[ei];exact ui bs,fun h' tk kk=>?_⟩;have el:its.toArray.size=bs.length:=by rw[ei];simp
     rw[el,xa];exact⟨.bl _,H,I.kept (kept2 kp esz kk),rfl,q ρ H _ (Le.refl _ _) rh (.bl _)⟩
end
def RH.loose{K:qab}{mg:MGl}{ρ:List Addr}{H:Hp}{h:MH}(r:RH K mg ρ H h){p:Addr}(hp:H p=none)(ho:HO):RH K mg ρ (upd H p ho) h/\Le ρ H ρ (upd H p ho):=by
 have hne:∀n a,ρ[n]?=some a->a≠p:=fun n a e z=>by
  obtain⟨o',_,q⟩:=r.obj e;rw[z,hp] at q;exact q.some rfl
 have l:Le ρ H ρ (upd H p ho):=⟨⟨[],by simp⟩,fun a xs e=>by rw[aV (bK e hp)];exact e,fun a ob u e=>by rw[aV (bK e hp)];exact e⟩;exact⟨⟨r.len,r.nd,fun n a o e1 e2=>by rw[aV (hne n a e1)];exact (r.at' n a o e1 e2).le l⟩,l⟩
section
variable {X:Cx} {N W G:List Str} {k:Nat}
def lJ(g:Good X N W G k){a:Expr}{m:Mx PV}{T T':String}{c c':Str}{i j j':Nat}{p q q' pos pt:Pos}{kt}(hi:G[i]?=some "isinstance")(hm:X.mg "isinstance"=none)(hj:G[j]?=some c)(hc:X.mg c=none)(hv:bootBuiltins c=some (.type T))(hT:okT T)
  (hj':G[j']?=some c') (hc':X.mg c'=none) (hv':bootBuiltins c'=some (.type T')) (hT':okT T') (ha:ME X a m)
  (he:starEach [a,.Tuple [.Name c q,.Name c' q'] kt pt] X.env=(false,eval a X.env)::starEach [.Tuple [.Name c q,.Name c' q'] kt pt] X.env:=by rfl) (he2:starEach [.Tuple [.Name c q,.Name c' q'] kt pt] X.env=[(false,eval (.Tuple [.Name c q,.Name c' q'] kt pt) X.env)]:=by rfl) (hpl:(backTo pos (starEach [.Tuple [.Name c q,.Name c' q'] kt pt] X.env)).any (·.1)=false:=by rfl)
  (ht1:starEach [.Name c q,.Name c' q'] X.env=(false,eval (.Name c q) X.env)::starEach [.Name c' q'] X.env:=by rfl) (ht2:starEach [.Name c' q'] X.env=[(false,eval (.Name c' q') X.env)]:=by rfl) :
  ME X (.Call (.Name "isinstance" p) [a,.Tuple [.Name c q,.Name c' q'] kt pt] [] pos) (mUn (bM [T,T']) m):=by
 have d1:=g.dbg _ (qad _ (az hi));have d:=g.dbg c (qad _ (az hj));have d':=g.dbg c' (qad _ (az hj'));have hcall:cA X (.builtin "isinstance") (fun xs H Q=>∃x' tp,xs=[x',.ref tp]/\SqT X.K H tp [.ty T,.ty T']/\uJ X (bM [T,T']) x' H Q):=by
  intro G6 s σ H xs us Q I r ⟨x',tp,e,hsq,ρ,h,x,rh,rx,q⟩;subst e
  cases r with
  | cons r1 t1=>cases t1 with
   | cons r2 t2 =>
    cases t2;cases r2;obtain⟨its,rv,ht,_⟩:=I.tuple hsq;have ei:its=[.type T,.type T']:=by
     cases rv with
     | cons v1 w1=>cases w1 with
      | cons v2 w2 =>
       cases w2;rw[show _=Value.type T from v1,show _=Value.type T' from v2]
    subst ei;obtain⟨⟨oc,od,odt,osl⟩,ho,hoc,nn,hod⟩:=ht;dsimp only at hoc hod;subst hoc;subst hod;unfold bM at q
    cases et:tyP h x with
    | none=>rw[et] at q;exact q.elim
    | some t =>
     rw[et] at q;obtain⟨htm,hne,Hq,Z,hz⟩:=lK I rh rx r1 et;have hany:PySem.W.kitAny X.K (.type t) [.type T,.type T']=some (ba t T || ba t T'):=by
      unfold PySem.W.kitAny;rw[hT X.K t htm]
      cases ba t T with
      | true=>rfl
      | false =>
       unfold PySem.W.kitAny;rw[hT' X.K t htm];cases ba t T' <;> rfl
     exact PySem.W.kia_tup Z I.kIn hz ho hany hne fun tk=>⟨.bl _,H,I.tok _,rfl,by
      have q':=q ρ H _ (Le.refl _ _) rh (.bl _)
      simpa using q'⟩
 refine PE.imp (fy hcall (g.gl _ (az hi)) hm PyProof.Rows.Boot.«isinstance» (bR ha (bR (rN (bR (mm (v:=.ty T) (u:=.type T) (g.gl c (az hj)) hc hv rfl d.2.2 d.1) (bR (mm (v:=.ty T') (u:=.type T') (g.gl c' (az hj')) hc' hv' rfl d'.2.2 d'.1) eY ht2) ht1)) eY he2) he) d1.2.2 d1.1 he hpl) fun σ H Q ⟨ρ,σp,h,rs,rh,q⟩=>?_;refine⟨ρ,σp,h,rs,rh,Ful.bind q fun ρ1 H1 x x' h1 _ l1 rh1 rx q1=>?_⟩;refine⟨by show 2<=sizeLine;decide,fun tp htp=>?_⟩;obtain⟨rh2,l2⟩:=rh1.tup htp [.ty T,.ty T'];exact⟨x',tp,rfl,SqT.of bC,ρ1,h1,x,rh2,rx.le l2,(Ful.le l2 q1).zero⟩
def me_glI(g:Good X N W G k){x:Str}{j:Nat}{i:Int}{pos:Pos}(hj:G[j]?=some x)(hm:∃t,X.mg x=some (.int i t)):ME X (.Name x pos) (mC (.int i)):=by
 obtain⟨t,hm⟩:=hm;have d:=g.dbg x (qad _ (az hj));exact PE.imp (lR (v:=.int i) (g.gl x (az hj)) hm ⟨t,rfl⟩ d.1) fun σ H Q ⟨ρ,σp,h,rs,rh,q⟩=>q ρ H _ (Le.refl _ _) rh (.int _)
end
end MM
namespace SetT
open PySem PySem.SetTable
def base(M:Nat)(h:Int):Nat->Nat × Nat
 | 0=>(bits h % (M+1),bits h)
 | b+1=>leap M (base M h b).1 (base M h b).2
section
variable {prog:Program} {w:World} {A:Around} {E:Value→Shared→Prop} {s:Shared}
end
end SetT
namespace SetT
open PySem PySem.SetTable PyProof.Rows
section
variable {prog:Program} {w:World} {A:Around} {E:Value→Shared→Prop} {s:Shared}
end
section
variable {prog:Program} {w:World} {A:Around} {E:Value→Shared→Prop} {s:Shared} {S it:Addr} {o:Obj} {es:Array (Int × Value)} {ep:Nat} {t:SetTable} {ks:List (List Int)}
end
section
variable {prog:Program} {w:World} {A:Around} {E:Value→Shared→Prop} {s:Shared} {S:Addr} {o:Obj} {es:Array (Int × Value)} {ep:Nat} {t:SetTable}
end
end SetT
namespace SortT
open PySem PyProof.Rows
structure Cmp (prog:Program) (w:World) (A:Around) (E:Value->Shared->Prop) (s:Shared) (kd:SortKind) (O:KeyOrd) where
 key:Keyed->O.α
 dflt:O.α
 good:Keyed->Prop
 ask:∀(x y:Keyed) (st:SortSt) (Q:Option Bool->SortSt->Prop),good x->good y->kindOf st=kd->Q (some (O.blt (key x) (key y))) st->wpS (model prog w) A E s (lt' x y) Q st
section
variable {prog:Program} {w:World} {A:Around} {E:Value→Shared→Prop} {s:Shared} {kd:SortKind} {O:KeyOrd} (C:Cmp prog w A E s kd O)
def kk(xs:Array Keyed)(i:Nat):O.α:=match xs[i]? with
 | some p=>C.key p
 | none=>C.dflt
def Srt(xs:Array Keyed)(lo hi:Nat):Prop:=∀i j,lo<=i->i<=j->j<hi->O.kle (kk C xs i) (kk C xs j)
def Fal(xs:Array Keyed)(lo hi:Nat):Prop:=∀i j,lo<=i->i<=j->j<hi->O.kle (kk C xs j) (kk C xs i)
def cR(xs:Array Keyed):Prop:=∀p,p∈xs.toList->C.good p
structure SB (kd:SortKind) (a₀:Array Keyed) (st:SortSt):Prop where
 perm:(arrOf st).Perm a₀
 kind:kindOf st=kd
 failed:failedOf st=none
def cW(lo:Nat)(xs ys:Array Keyed):Prop:=∀i,i<lo->ys[i]?=xs[i]?
def cW.rfl'{lo:Nat}{xs:Array Keyed}:cW lo xs xs:=fun _ _=>rfl
def cW.trans{lo:Nat}{xs ys zs:Array Keyed}(h:cW lo xs ys)(g:cW lo ys zs):cW lo xs zs:=fun i hi=>(g i hi).trans (h i hi)
variable {C} {a₀:Array Keyed} {st:SortSt}
def SB.size(h:SB kd a₀ st):(arrOf st).size=a₀.size:=h.perm.size_eq
def SB.arr(h:SB kd a₀ st)(hp:xs.Perm (arrOf st)):SB kd a₀ (setArr st xs):=⟨hp.trans h.perm,h.kind,h.failed⟩
def SB.good(h:SB kd a₀ st)(h0:cR C a₀):cR C (arrOf st):=fun p hp=>h0 p ((qbC.mp h.perm).mem_iff.mp hp)
def fk(h:xs[i]?=ys[j]?):kk C xs i=kk C ys j:=by unfold kk;rw[h]
def aZ(h:xs[i]?=some p):kk C xs i=C.key p:=by unfold kk;rw[h]
def bD{xs:Array Keyed}(g:cR C xs){i:Nat}{p:Keyed}(h:xs[i]?=some p):C.good p:=by
 refine g p (qaX.mpr ⟨i,?_⟩);rw[qaD];exact h
def bc(hi:i<xs.size)(h:∀p,xs[i]?=some p->Q p st):wpS (model prog w) A E s (elem' xs i) Q st:=by
 rw[elem'_eq];have e:xs[i]?=some xs[i]:=getElem?_pos xs i hi;rw[e];exact wpS_pure (h _ e)
def lB{i j:Nat}{Q:Option Bool->SortSt->Prop}(hB:SB kd a₀ st)(h0:cR C a₀)(hi:i<a₀.size)(hj:j<a₀.size)
  (h:Q (some (O.blt (kk C (arrOf st) i) (kk C (arrOf st) j))) st):wpS (model prog w) A E s (ltAt' i j) Q st:=by
 rw[ltAt'_eq];refine wpS_bind (wpS_get ?_);refine wpS_bind (bc (by rw[hB.size];exact hi) fun x hx=>wpS_bind (bc (by rw[hB.size];exact hj) fun y hy=>?_));rw[aZ hx,aZ hy] at h;exact C.ask x y st Q (bD (hB.good h0) hx) (bD (hB.good h0) hy) hB.kind h
def qE(hs:src<xs.size)(hd:d<=src)(i:Nat) :
  kk C (bubble xs src d) i=if i=src - d then kk C xs src else if src - d<i/\i<=src then kk C xs (i - 1) else kk C xs i:=by
 have e:=getElem?_bubble hs d hd i;split
 ·next h1=>rw[qae h1] at e;exact fk e
 ·next h1 =>
  rw[qao h1] at e;split
  ·next h2=>rw[qae h2] at e;exact fk e
  ·next h2=>rw[qao h2] at e;exact fk e
def ly(hj:j<=xs.size)(q:Nat) :
  kk C (mirror xs i j ((j - i) / 2)) q=if i<=q/\q<j then kk C xs (i+j - 1 - q) else kk C xs q:=by
 have e:=getElem?_mirror_all (i:=i) hj q;split
 ·next h1=>rw[qae h1] at e;exact fk e
 ·next h1=>rw[qao h1] at e;exact fk e
def dO(hj:j<=xs.size)(heq:∀q,i<=q->q<j->kk C xs q=kk C xs (j - 1))(q:Nat) :
  kk C (mirror xs i j ((j - i) / 2)) q=kk C xs q:=by
 rw[ly hj];split
 ·next h=>rw[heq (i+j - 1 - q) (by lia) (by lia),heq q h.1 h.2]
 ·rfl
def gq{xs:Array Keyed}{lo i j:Nat}(hj:j<=xs.size)(h:lo<=i):cW lo xs (mirror xs i j ((j - i) / 2)):=fun q hq=>by
 rw[getElem?_mirror_all hj,qao (by lia)]
def ub{xs:Array Keyed}{lo src d:Nat}(hs:src<xs.size)(hd:d<=src)(h:lo<=src - d):cW lo xs (bubble xs src d):=fun q hq=>by
 rw[getElem?_bubble hs d hd,qao (by lia),qao (by lia)]
abbrev AS:=Option (Option Nat) × Nat
abbrev DS:=Option (Option Nat) × Nat × Nat
def kq(p a nrem:Nat):StateT SortSt Sem AS :=
 forIn [a:nrem] ((none,a):AS) fun _ c=>do
  let q <-ltAt' (p+c.2) (p+c.2 - 1)
  match q with
  | some z=>if z=true then pure (ForInStep.done (none,c.2)) else pure (ForInStep.yield (none,c.2+1))
  | _=>pure (ForInStep.done (some none,c.2))
def su(p n nrem:Nat):StateT SortSt Sem (Option Nat):=do
 reverseSlice' p (p+n)
 let c <-kq p n nrem
 match c.1 with
 | some r=>pure r
 | none=>pure (some c.2)
def sj(p n nrem:Nat):StateT SortSt Sem DS :=
 forIn [n:nrem] ((none,n,0):DS) fun _ c=>do
  let q <-ltAt' (p+c.2.1) (p+c.2.1 - 1)
  match q with
  | some z =>
   if z=true then
    if c.2.2>0 then do
     reverseSlice' (p+c.2.1 - (c.2.2+1)) (p+c.2.1)
     pure (ForInStep.yield (none,c.2.1+1,0))
    else pure (ForInStep.yield (none,c.2.1+1,0))
   else do
    let q <-ltAt' (p+c.2.1 - 1) (p+c.2.1)
    match q with
    | some z=>if z=true then pure (ForInStep.done (none,c.2.1,c.2.2)) else pure (ForInStep.yield (none,c.2.1+1,c.2.2+1))
    | _=>pure (ForInStep.done (some none,c.2.1,c.2.2))
  | _=>pure (ForInStep.done (some none,c.2.1,c.2.2))
def rY(p n nrem:Nat):StateT SortSt Sem (Option Nat):=do
 liftM (rule "list.sort.descending-run")
 let c <-sj p (n+1) nrem
 match c.1 with
 | some r=>pure r
 | none =>
  if c.2.2>0 then do
   reverseSlice' (p+c.2.1 - (c.2.2+1)) (p+c.2.1)
   su p c.2.1 nrem
  else su p c.2.1 nrem
def run_eq(p nrem:Nat):countRun' p nrem=(do
  let c <-kq p 1 nrem
  match c.1 with
  | some r=>pure r
  | none =>
   if (c.2 == nrem)=true then pure (some c.2)
   else if c.2>1 then do
    let q <-ltAt' p (p+c.2 - 1)
    match q with
    | some z=>if z=true then pure (some c.2) else do
      reverseSlice' p (p+c.2)
      rY p c.2 nrem
    | _=>pure none
   else rY p c.2 nrem):=by
 rw[countRun'_eq];unfold rY su;refine congrArg (fun g=>kq p 1 nrem >>= g) (funext fun c=>?_);obtain⟨r,n⟩:=c
 cases r with
 | some r=>rfl
 | none =>
  dsimp only;split
  ·rfl
  ·split
   ·congr 1;funext x
    cases x with
    | none=>rfl
    | some z =>
     dsimp only;split
     ·rfl
     ·refine congrArg _ (funext fun _=>?_);refine congrArg _ (funext fun _=>?_);refine congrArg (fun g=>sj p (n+1) nrem >>= g) (funext fun c2=>?_);obtain⟨r2,n2,q2⟩:=c2
      cases r2 with
      | some r2=>rfl
      | none =>
       dsimp only;split
       ·refine congrArg _ (funext fun _=>?_);refine congrArg _ (funext fun _=>?_);refine congrArg (fun g=>kq p n2 nrem >>= g) (funext fun c3=>?_);obtain⟨r3,n3⟩:=c3;cases r3 <;> rfl
       ·refine congrArg _ (funext fun _=>?_);refine congrArg (fun g=>kq p n2 nrem >>= g) (funext fun c3=>?_);obtain⟨r3,n3⟩:=c3;cases r3 <;> rfl
   ·refine congrArg _ (funext fun _=>?_);refine congrArg (fun g=>sj p (n+1) nrem >>= g) (funext fun c2=>?_);obtain⟨r2,n2,q2⟩:=c2
    cases r2 with
    | some r2=>rfl
    | none =>
     dsimp only;split
     ·refine congrArg _ (funext fun _=>?_);refine congrArg _ (funext fun _=>?_);refine congrArg (fun g=>kq p n2 nrem >>= g) (funext fun c3=>?_);obtain⟨r3,n3⟩:=c3;cases r3 <;> rfl
     ·refine congrArg _ (funext fun _=>?_);refine congrArg (fun g=>kq p n2 nrem >>= g) (funext fun c3=>?_);obtain⟨r3,n3⟩:=c3;cases r3 <;> rfl
def uW(h0:cR C a₀)(hn:p+nrem<=a₀.size)(ha:1<=a)(han:a<=nrem)(hB:SB kd a₀ st)
  (hs:Srt C (arrOf st) p (p+a))
  (h:∀n,a<=n->n<=nrem->Srt C (arrOf st) p (p+n)->(n=nrem\/O.klt (kk C (arrOf st) (p+n)) (kk C (arrOf st) (p+n - 1)))->Q (none,n) st) :
  wpS (model prog w) A E s (kq p a nrem) Q st:=by
 unfold kq;refine wpS_forRange (I:=fun x c st'=>st'=st/\c=(none,x)/\Srt C (arrOf st) p (p+x)) ?_ ?_ ⟨rfl,rfl,hs⟩
 ·rintro x c st' h1 h2 ⟨rfl,rfl,h3⟩;refine wpS_bind (lB hB h0 (by lia) (by lia) ?_)
  cases hz:O.blt (kk C (arrOf st') (p+x)) (kk C (arrOf st') (p+x - 1)) with
  | true=>exact wpS_pure (h x h1 (by lia) h3 (.inr hz))
  | false =>
   refine wpS_pure ⟨rfl,rfl,fun i j hi hij hj=>?_⟩;by_cases hjx:j<p+x
   ·exact h3 i j hi hij hjx
   ·have e:j=p+x:=by lia
    subst e;by_cases hi':i=p+x
    ·subst hi';exact KeyOrd.kle_refl _
    ·exact KeyOrd.kle_trans (h3 i (p+x - 1) hi (by lia) (by lia)) hz
 ·rintro c st' ⟨rfl,rfl,h3⟩;have e:max a nrem=nrem:=by lia
  rw[e] at h3 ⊢;exact h nrem han (qai _) h3 (.inl rfl)
def lY(h:Q () (setArr st (mirror (arrOf st) i j ((j - i) / 2)))):wpS (model prog w) A E s (reverseSlice' i j) Q st:=by
 rw[reverseSlice'_eq];exact wpS_modify h
def uB(h0:cR C a₀)(hn:p+nrem<=a₀.size)(h1:1<=n)(hnn:n<=nrem)(hB:SB kd a₀ st)
  (hs:Fal C (arrOf st) p (p+n))
  (h:∀m st',SB kd a₀ st'->cW p (arrOf st) (arrOf st')->pendingOf st'=pendingOf st->1<=m->m<=nrem->Srt C (arrOf st') p (p+m)->Q (some m) st') :
  wpS (model prog w) A E s (su p n nrem) Q st:=by
 unfold su;have hsz:p+n<=(arrOf st).size:=by rw[hB.size];lia
 refine wpS_bind (lY ?_);have hB':=hB.arr (mirror_perm (arrOf st) p (p+n) ((p+n - p) / 2));refine wpS_bind (uW h0 hn h1 hnn hB' (fun i j hi hij hj=>?_) fun m a1 a2 a3 _=>wpS_pure (h m _ hB' (gq hsz (qai _)) rfl (by lia) a2 a3));show O.kle (kk C (mirror _ _ _ _) i) (kk C (mirror _ _ _ _) j);rw[ly hsz,ly hsz,qae (by lia),qae (by lia)];exact hs _ _ (by lia) (by lia) (by lia)
def wps_dsc{p n nrem:Nat}{Q:DS->SortSt->Prop}(h0:cR C a₀)(hn:p+nrem<=a₀.size)(h1:1<=n)(hnn:n<=nrem)(hB:SB kd a₀ st)(hs:Fal C (arrOf st) p (p+n))
  (h:∀m q st',SB kd a₀ st'->cW p (arrOf st) (arrOf st')->pendingOf st'=pendingOf st->n<=m->m<=nrem->Fal C (arrOf st') p (p+m)->q+1<=m ->
   (∀i,p+m - (q+1)<=i->i<p+m->kk C (arrOf st') i=kk C (arrOf st') (p+m - 1))->Q (none,m,q) st') :
  wpS (model prog w) A E s (sj p n nrem) Q st:=by
 unfold sj
 refine wpS_forRange (I:=fun x c st'=>∃q,c=(none,x,q)/\SB kd a₀ st'/\cW p (arrOf st) (arrOf st')/\pendingOf st'=pendingOf st/\Fal C (arrOf st') p (p+x)/\q+1<=x /\
   ∀i,p+x - (q+1)<=i->i<p+x->kk C (arrOf st') i=kk C (arrOf st') (p+x - 1)) ?_ ?_ ⟨0,rfl,hB,cW.rfl',rfl,hs,by lia,fun i a b=>by congr 1;lia⟩
 ·rintro x c st' hx1 hx2 ⟨q,rfl,hB',hsm,hpd,hf,hq,he⟩;have hsz:p+x<=(arrOf st').size:=by rw[hB'.size];lia
  have grow:∀xs:Array Keyed,(∀i,kk C xs i=kk C (arrOf st') i)->O.kle (kk C (arrOf st') (p+x)) (kk C (arrOf st') (p+x - 1))->Fal C xs p (p+(x+1)):=by
   intro xs hk hle i j hi hij hj;rw[hk,hk];by_cases hjx:j<p+x
   ·exact hf i j hi hij hjx
   ·have e:j=p+x:=by lia
    subst e;by_cases hi':i=p+x
    ·subst hi';exact KeyOrd.kle_refl _
    ·exact KeyOrd.kle_trans hle (hf i (p+x - 1) hi (by lia) (by lia))
  dsimp only;refine wpS_bind (lB hB' h0 (by lia) (by lia) ?_)
  cases hz:O.blt (kk C (arrOf st') (p+x)) (kk C (arrOf st') (p+x - 1)) with
  | true =>
   dsimp only;rw[qae rfl];by_cases hq0:q>0
   ·rw[qae hq0];refine wpS_bind (lY (wpS_pure ⟨0,rfl,hB'.arr (mirror_perm _ _ _ _),hsm.trans (gq hsz (by lia)),hpd,grow _ (dO hsz he) (KeyOrd.kle_of_klt hz),by lia,fun i a b=>by congr 1;lia⟩))
   ·rw[qao hq0];exact wpS_pure ⟨0,rfl,hB',hsm,hpd,grow _ (fun _=>rfl) (KeyOrd.kle_of_klt hz),by lia,fun i a b=>by congr 1;lia⟩
  | false =>
   dsimp only;rw[qao (by simp)];refine wpS_bind (lB hB' h0 (by lia) (by lia) ?_)
   cases hz2:O.blt (kk C (arrOf st') (p+x - 1)) (kk C (arrOf st') (p+x)) with
   | true =>
    dsimp only;rw[qae rfl];exact wpS_pure (h x q st' hB' hsm hpd hx1 (by lia) hf hq he)
   | false =>
    dsimp only;rw[qao (by simp)];have heq:kk C (arrOf st') (p+x)=kk C (arrOf st') (p+x - 1):=KeyOrd.kle_antisymm hz2 hz;refine wpS_pure ⟨q+1,rfl,hB',hsm,hpd,grow _ (fun _=>rfl) hz2,by lia,fun i a b=>?_⟩;have e1:p+(x+1) - 1=p+x:=by lia
    rw[e1];by_cases hix:i=p+x
    ·subst hix;rfl
    ·rw[heq];exact he i (by lia) (by lia)
 ·rintro c st' ⟨q,rfl,hB',hsm,hpd,hf,hq,he⟩;have e:max n nrem=nrem:=by lia
  rw[e] at hf hq he ⊢;exact h nrem q st' hB' hsm hpd hnn (qai _) hf hq he
def tF{p n nrem:Nat}{Q:Option Nat->SortSt->Prop}(h0:cR C a₀)(hn:p+nrem<=a₀.size)(hnn:n+1<=nrem)(hB:SB kd a₀ st)(hs:Fal C (arrOf st) p (p+(n+1)))
  (h:∀m st',SB kd a₀ st'->cW p (arrOf st) (arrOf st')->pendingOf st'=pendingOf st->1<=m->m<=nrem->Srt C (arrOf st') p (p+m)->Q (some m) st') :
  wpS (model prog w) A E s (rY p n nrem) Q st:=by
 unfold rY;refine wpS_bind (wpS_lift (wpAny_rule ⟨rfl,?_⟩));refine wpS_bind (wps_dsc h0 hn (by lia) hnn hB hs fun m q st' hB' hsm hpd hm1 hm2 hf hq he=>?_);dsimp only;have hsz:p+m<=(arrOf st').size:=by rw[hB'.size];lia
 by_cases hq0:q>0
 ·rw[qae hq0];refine wpS_bind (lY (uB h0 hn (by lia) hm2 (hB'.arr (mirror_perm _ _ _ _)) ?_ fun m2 st2 b1 b2 b3=>h m2 st2 b1 ((hsm.trans (gq hsz (by lia))).trans b2) (b3.trans hpd)));intro i j hi hij hj;show O.kle (kk C (mirror _ _ _ _) j) (kk C (mirror _ _ _ _) i);rw[dO hsz he,dO hsz he];exact hf i j hi hij hj
 ·rw[qao hq0];exact uB h0 hn (by lia) hm2 hB' hf fun m2 st2 b1 b2 b3=>h m2 st2 b1 (hsm.trans b2) (b3.trans hpd)
def uN(h0:cR C a₀)(hn:p+nrem<=a₀.size)(h1:1<=nrem)(hB:SB kd a₀ st)
  (h:∀m st',SB kd a₀ st'->cW p (arrOf st) (arrOf st')->pendingOf st'=pendingOf st->1<=m->m<=nrem->Srt C (arrOf st') p (p+m)->Q (some m) st') :
  wpS (model prog w) A E s (countRun' p nrem) Q st:=by
 rw[run_eq];refine wpS_bind (uW h0 hn (qai 1) h1 hB (fun i j hi hij hj=>by have e:i=j:=(by lia);subst e;exact KeyOrd.kle_refl _) fun n a1 a2 hsn hor=>?_);dsimp only;by_cases hnn:n=nrem
 ·rw[qae (by simpa using hnn)];exact wpS_pure (h n st hB cW.rfl' rfl a1 a2 hsn)
 ·rw[qao (by simpa using hnn)];have hlt:=hor.resolve_left hnn;by_cases hgt:n>1
  ·rw[qae hgt];refine wpS_bind (lB hB h0 (by lia) (by lia) ?_)
   cases hz:O.blt (kk C (arrOf st) p) (kk C (arrOf st) (p+n - 1)) with
   | true =>
    dsimp only;rw[qae rfl];exact wpS_pure (h n st hB cW.rfl' rfl a1 a2 hsn)
   | false =>
    dsimp only;rw[qao (by simp)];have hsz:p+n<=(arrOf st).size:=by rw[hB.size];lia
    have hall:∀q,p<=q->q<p+n->kk C (arrOf st) q=kk C (arrOf st) (p+n - 1):=fun q b1 b2 =>
     KeyOrd.kle_antisymm (hsn q (p+n - 1) b1 (by lia) (by lia)) (KeyOrd.kle_trans hz (hsn p q (qai _) b1 b2))
    refine wpS_bind (lY (tF h0 hn (by lia) (hB.arr (mirror_perm _ _ _ _)) ?_ fun m2 st2 b1 b2 b3=>h m2 st2 b1 ((gq hsz (qai _)).trans b2) b3));intro i j hi hij hj;show O.kle (kk C (mirror _ _ _ _) j) (kk C (mirror _ _ _ _) i);rw[dO hsz hall,dO hsz hall];by_cases hjn:j<p+n
    ·rw[hall i hi (by lia),hall j (by lia) hjn];exact KeyOrd.kle_refl _
    ·have e:j=p+n:=by lia
     subst e;by_cases hi':i=p+n
     ·subst hi';exact KeyOrd.kle_refl _
     ·rw[hall i hi (by lia)];exact KeyOrd.kle_of_klt hlt
  ·rw[qao hgt];have e:n=1:=by lia
   subst e;refine tF h0 hn (by lia) hB ?_ h;intro i j hi hij hj;by_cases hi':i=j
   ·subst hi';exact KeyOrd.kle_refl _
   ·have e1:i=p:=by lia
    have e2:j=p+1:=by lia
    subst e1;subst e2;exact KeyOrd.kle_of_klt hlt
end
section
variable {prog:Program} {w:World} {A:Around} {E:Value→Shared→Prop} {s:Shared} {kd:SortKind} {O:KeyOrd} {C:Cmp prog w A E s kd O} {a₀:Array Keyed} {st:SortSt}
def u6(h0:cR C a₀)(hn:p+n<=a₀.size)(hok:ok<=n)(hB:SB kd a₀ st)(hs:Srt C (arrOf st) p (p+ok))
  (h:∀st',SB kd a₀ st'->cW p (arrOf st) (arrOf st')->pendingOf st'=pendingOf st->Srt C (arrOf st') p (p+n)->Q true st'):wpS (model prog w) A E s (binarySort' p n ok) Q st:=by
 rw[binarySort'_eq]
 refine wpS_bind (wpS_mono (wpS_forRange (I:=fun k c st'=>c=(none,())/\SB kd a₀ st'/\cW p (arrOf st) (arrOf st')/\pendingOf st'=pendingOf st/\Srt C (arrOf st') p (p+min k n))
  (Q:=fun c st'=>c=(none,())/\SB kd a₀ st'/\cW p (arrOf st) (arrOf st')/\pendingOf st'=pendingOf st/\Srt C (arrOf st') p (p+n)) ?_ ?_ ?_) ?_)
 ·rintro k c st' hk1 hk2 ⟨rfl,hB',hsm,hpd,hs'⟩;have ek:min k n=k:=by lia
  rw[ek] at hs'
  refine wpS_bind (wpS_mono (wpS_forRange (I:=fun x c st''=>st''=st'/\∃l r,c=(none,l,r)/\l<=r/\r<=k/\r - l<=k - x /\
    (∀i,p<=i->i<p+l->O.kle (kk C (arrOf st') i) (kk C (arrOf st') (p+k)))/\∀i,p+r<=i->i<p+k->O.klt (kk C (arrOf st') (p+k)) (kk C (arrOf st') i))
   (Q:=fun c st''=>st''=st'/\∃l r,c=(none,l,r)/\l<=k /\
    (∀i,p<=i->i<p+l->O.kle (kk C (arrOf st') i) (kk C (arrOf st') (p+k)))/\∀i,p+l<=i->i<p+k->O.klt (kk C (arrOf st') (p+k)) (kk C (arrOf st') i)) ?_ ?_ ?_) ?_)
  ·rintro x c st'' _ hx ⟨rfl,l,r,rfl,hlr,hrk,hm,hlo,hhi⟩;dsimp only;by_cases hge:l>=r
   ·rw[qae hge];have e:l=r:=by lia
    subst e;exact wpS_pure ⟨rfl,l,l,rfl,hrk,hlo,hhi⟩
   ·rw[qao hge];refine wpS_bind (lB hB' h0 (by lia) (by lia) ?_)
    cases hz:O.blt (kk C (arrOf st'') (p+k)) (kk C (arrOf st'') (p+(l+r) / 2)) with
    | true =>
     simp only[if_true];exact wpS_pure ⟨rfl,l,(l+r) / 2,rfl,by lia,by lia,by lia,hlo,fun i a b=>KeyOrd.klt_of_klt_of_kle hz (hs' _ _ (by lia) a b)⟩
    | false =>
     simp only[qag,if_false];exact wpS_pure ⟨rfl,(l+r) / 2+1,r,rfl,by lia,by lia,by lia,fun i a b=>KeyOrd.kle_trans (hs' i (p+(l+r) / 2) a (by lia) (by lia)) hz,hhi⟩
  ·rintro c st'' ⟨rfl,l,r,rfl,hlr,hrk,hm,hlo,hhi⟩;have e:l=r:=by lia
   subst e;exact⟨rfl,l,l,rfl,hrk,hlo,hhi⟩
  ·exact⟨rfl,0,k,rfl,by lia,by lia,by lia,fun i a b=>by lia,fun i a b=>by lia⟩
  ·rintro c st'' ⟨rfl,l,r,rfl,hlk,hlo,hhi⟩;dsimp only;rw[moveDown'_eq];have hks:p+k<(arrOf st'').size:=by rw[hB'.size];lia
   have ed:p+k - (p+l)=k - l:=by lia
   rw[ed];refine wpS_bind (wpS_modify (wpS_pure ⟨rfl,hB'.arr (bubble_perm _ _ _),hsm.trans (ub hks (by lia) (by lia)),hpd,?_⟩));have e1:min (k+1) n=k+1:=by lia
   rw[e1];intro i j hi hij hj;show O.kle (kk C (bubble (arrOf st'') (p+k) (k - l)) i) (kk C (bubble (arrOf st'') (p+k) (k - l)) j);have e2:p+k - (k - l)=p+l:=by lia
   rw[qE hks (by lia),qE hks (by lia),e2]
   repeat' split
   all_goals first
    | (exfalso;lia)
    | exact KeyOrd.kle_refl _
    | exact hlo _ (by lia) (by lia)
    | exact KeyOrd.kle_of_klt (hhi _ (by lia) (by lia))
    | exact hs' _ _ (by lia) (by lia) (by lia)
 ·rintro c st' ⟨hc,hB',hsm,hpd,hs'⟩;refine⟨hc,hB',hsm,hpd,?_⟩;have e:min (max (max ok 1) n) n=n:=by lia
  rwa [e] at hs'
 ·refine⟨rfl,hB,cW.rfl',rfl,fun i j hi hij hj=>?_⟩;by_cases h1:ok=0
  ·have e:i=j:=by lia
   subst e;exact KeyOrd.kle_refl _
  ·exact hs i j hi hij (by lia)
 ·rintro c st' ⟨rfl,hB',hsm,hpd,hs'⟩;exact wpS_pure (h st' hB' hsm hpd hs')
def gallop':Bool->Keyed->Array Keyed->Nat->Nat->Nat->StateT SortSt Sem (Option Nat):=sortPriv% PySem.Builtin.gallop
def mT(left:Bool)(key:Keyed)(arr:Array Keyed)(base i:Nat):StateT SortSt Sem (Option Bool):=do
 let x <-elem' arr (base+i)
 if left then lt' x key else return (<-lt' key x).map (!·)
def wC(left:Bool)(key:Keyed)(arr:Array Keyed)(base n hint:Nat):gallop' left key arr base n hint=(do
  let mut la:=0
  let mut of:=1
  let mut lo:=0
  let mut hi:=0
  let some rt <-mT left key arr base hint|return none
  if rt then
   let mx:=n - hint
   for _ in [0:n] do
    if of>=mx then break
    let some q <-mT left key arr base (hint+of)|return none
    if !q then break
    la:=of
    of:=2 * of+1
   lo:=hint+la+1
   hi:=hint+min of mx
  else
   let mx:=hint+1
   for _ in [0:n] do
    if of>=mx then break
    let some q <-mT left key arr base (hint - of)|return none
    if q then break
    la:=of
    of:=2 * of+1
   lo:=hint+1 - min of mx
   hi:=hint - la
  for _ in [0:n] do
   if lo>=hi then break
   let m:=lo+(hi - lo) / 2
   let some q <-mT left key arr base m|return none
   if q then lo:=m+1 else hi:=m
  return some hi):=rfl
def ahead(C:Cmp prog w A E s kd O)(left:Bool)(key:Keyed)(arr:Array Keyed)(i:Nat):Bool:=if left then O.blt (kk C arr i) (C.key key) else !O.blt (C.key key) (kk C arr i)
def lN(hk:kindOf st=kd)(hg:cR C arr)(hkey:C.good key)(hi:base+i<arr.size)
  (h:Q (some (ahead C left key arr (base+i))) st):wpS (model prog w) A E s (mT left key arr base i) Q st:=by
 unfold mT;refine wpS_bind (bc hi fun x hx=>?_);unfold ahead at h;rw[aZ hx] at h
 cases left with
 | true =>
  simp only[if_true] at h ⊢;exact C.ask x key st Q (bD hg hx) hkey hk h
 | false =>
  simp only[qag,if_false] at h ⊢;exact wpS_bind (C.ask key x st _ hkey (bD hg hx) hk (wpS_pure h))
def halfL(left:Bool)(key:Keyed)(arr:Array Keyed)(base n lo hi:Nat):StateT SortSt Sem DS :=
 forIn [:n] ((none,lo,hi):DS) fun _ c =>
  if c.2.1>=c.2.2 then pure (ForInStep.done (none,c.2.1,c.2.2))
  else do
   let q <-mT left key arr base (c.2.1+(c.2.2 - c.2.1) / 2)
   match q with
   | some q=>if q=true then pure (ForInStep.yield (none,c.2.1+(c.2.2 - c.2.1) / 2+1,c.2.2)) else pure (ForInStep.yield (none,c.2.1,c.2.1+(c.2.2 - c.2.1) / 2))
   | _=>pure (ForInStep.done (some none,c.2.1,c.2.2))
section
variable {left:Bool} {key:Keyed} {arr:Array Keyed} {base n:Nat}
def hJ(hn:base+n<=arr.size)(hs:Srt C arr base (base+n)):∀i j,i<=j->j<n->ahead C left key arr (base+j)=true->ahead C left key arr (base+i)=true:=by
 intro i j hij hj;have hle:=hs (base+i) (base+j) (by lia) (by lia) (by lia);unfold ahead
 cases left with
 | true=>simp only[if_true];exact fun q=>KeyOrd.klt_of_kle_of_klt hle q
 | false =>
  simp only[qag,if_false,qbB];exact fun q=>KeyOrd.kle_trans hle q
def kz(hn:base+n<=arr.size)(hs:Srt C arr base (base+n)):∀i j,i<=j->j<n->ahead C left key arr (base+i)=false->ahead C left key arr (base+j)=false:=by
 intro i j hij hj hi
 cases hj':ahead C left key arr (base+j) with
 | false=>rfl
 | true=>rw[hJ hn hs i j hij hj hj'] at hi;cases hi
def t0{lo hi:Nat}{Q:DS->SortSt->Prop}(hk:kindOf st=kd)(hg:cR C arr)(hkey:C.good key)(hn:base+n<=arr.size)(hs:Srt C arr base (base+n))
  (hlh:lo<=hi) (hhn:hi<=n) (h1:∀i,i<lo->ahead C left key arr (base+i)=true) (h2:∀i,hi<=i->i<n->ahead C left key arr (base+i)=false)
  (h:∀k,k<=n->(∀i,i<k->ahead C left key arr (base+i)=true)->(∀i,k<=i->i<n->ahead C left key arr (base+i)=false)->Q (none,k,k) st) :
  wpS (model prog w) A E s (halfL left key arr base n lo hi) Q st:=by
 unfold halfL;refine wpS_forRange (I:=fun x c st'=>st'=st/\∃l r,c=(none,l,r)/\l<=r/\r<=n/\r - l<=n - x/\(∀i,i<l->ahead C left key arr (base+i)=true)/\∀i,r<=i->i<n->ahead C left key arr (base+i)=false)
  ?_ ?_ ⟨rfl,lo,hi,rfl,hlh,hhn,by lia,h1,h2⟩
 ·rintro x c st' _ hx ⟨rfl,l,r,rfl,hlr,hrn,hm,ha,hb⟩;dsimp only;by_cases hge:l>=r
  ·rw[qae hge];have e:l=r:=by lia
   subst e;exact wpS_pure (h l hrn ha hb)
  ·rw[qao hge];refine wpS_bind (lN hk hg hkey (by lia) ?_)
   cases hz:ahead C left key arr (base+(l+(r - l) / 2)) with
   | true =>
    simp only[if_true];exact wpS_pure ⟨rfl,_,_,rfl,by lia,by lia,by lia,fun i hi=>hJ hn hs i (l+(r - l) / 2) (by lia) (by lia) hz,hb⟩
   | false =>
    simp only[qag,if_false];exact wpS_pure ⟨rfl,_,_,rfl,by lia,by lia,by lia,ha,fun i a b=>kz hn hs (l+(r - l) / 2) i a b hz⟩
 ·rintro c st' ⟨rfl,l,r,rfl,hlr,hrn,hm,ha,hb⟩;have e:l=r:=by lia
  subst e;exact h l hrn ha hb
def eI{hint:Nat}{Q:Option Nat->SortSt->Prop}(hk:kindOf st=kd)(hg:cR C arr)(hkey:C.good key)(hn:base+n<=arr.size)(hh:hint<n)(hs:Srt C arr base (base+n))
  (h:∀k,k<=n->(∀i,i<k->ahead C left key arr (base+i)=true)->(∀i,k<=i->i<n->ahead C left key arr (base+i)=false)->Q (some k) st) :
  wpS (model prog w) A E s (gallop' left key arr base n hint) Q st:=by
 rw[wC];dsimp only;refine wpS_bind (lN hk hg hkey (by lia) ?_);dsimp only
 cases hz:ahead C left key arr (base+hint) with
 | true =>
  simp only[if_true]
  refine wpS_bind (wpS_mono (wpS_forRange (I:=fun x c st'=>st'=st/\∃la of,c=(none,la,of)/\la<of/\x+1<=of/\hint+la<n/\ahead C left key arr (base+(hint+la))=true)
   (Q:=fun c st'=>st'=st/\∃la of,c=(none,la,of)/\la<of/\hint+la<n/\ahead C left key arr (base+(hint+la))=true/\(n - hint<=of\/of<n - hint/\ahead C left key arr (base+(hint+of))=false)) ?_ ?_
    ⟨rfl,0,1,rfl,by lia,by lia,hh,hz⟩) ?_)
  ·rintro x c st' _ hx ⟨rfl,la,of,rfl,h1,h2,h3,h4⟩;dsimp only;by_cases hge:of>=n - hint
   ·rw[qae hge];exact wpS_pure ⟨rfl,la,of,rfl,h1,h3,h4,.inl hge⟩
   ·rw[qao hge];refine wpS_bind (lN hk hg hkey (by lia) ?_)
    cases hy:ahead C left key arr (base+(hint+of)) with
    | true =>
     simp only[qaU,qag,if_false];exact wpS_pure ⟨rfl,_,_,rfl,by lia,by lia,by lia,hy⟩
    | false =>
     simp only[qbQ,if_true];exact wpS_pure ⟨rfl,la,of,rfl,h1,h3,h4,.inr ⟨by lia,hy⟩⟩
  ·rintro c st' ⟨rfl,la,of,rfl,h1,h2,h3,h4⟩;exact⟨rfl,la,of,rfl,h1,h3,h4,.inl (by lia)⟩
  ·rintro c st' ⟨rfl,la,of,rfl,h1,h3,h4,h5⟩;dsimp only;refine wpS_bind (t0 (lo:=hint+la+1) (hi:=hint+min of (n - hint)) hk hg hkey hn hs (by lia) (by lia) (fun i hi=>hJ hn hs i (hint+la) (by lia) h3 h4) (fun i a b=>?_) fun k a b c=>wpS_pure (h k a b c));rcases h5 with h5|⟨h5,h6⟩
   ·lia
   ·exact kz hn hs (hint+of) i (by lia) b h6
 | false =>
  simp only[qag,if_false]
  refine wpS_bind (wpS_mono (wpS_forRange (I:=fun x c st'=>st'=st/\∃la of,c=(none,la,of)/\la<of/\x+1<=of/\la<=hint/\ahead C left key arr (base+(hint - la))=false)
   (Q:=fun c st'=>st'=st/\∃la of,c=(none,la,of)/\la<of/\la<=hint/\ahead C left key arr (base+(hint - la))=false/\(hint+1<=of\/of<hint+1/\ahead C left key arr (base+(hint - of))=true)) ?_ ?_
    ⟨rfl,0,1,rfl,by lia,by lia,by lia,hz⟩) ?_)
  ·rintro x c st' _ hx ⟨rfl,la,of,rfl,h1,h2,h3,h4⟩;dsimp only;by_cases hge:of>=hint+1
   ·rw[qae hge];exact wpS_pure ⟨rfl,la,of,rfl,h1,h3,h4,.inl hge⟩
   ·rw[qao hge];refine wpS_bind (lN hk hg hkey (by lia) ?_)
    cases hy:ahead C left key arr (base+(hint - of)) with
    | true =>
     simp only[if_true];exact wpS_pure ⟨rfl,la,of,rfl,h1,h3,h4,.inr ⟨by lia,hy⟩⟩
    | false =>
     simp only[qag,if_false];exact wpS_pure ⟨rfl,_,_,rfl,by lia,by lia,by lia,hy⟩
  ·rintro c st' ⟨rfl,la,of,rfl,h1,h2,h3,h4⟩;exact⟨rfl,la,of,rfl,h1,h3,h4,.inl (by lia)⟩
  ·rintro c st' ⟨rfl,la,of,rfl,h1,h3,h4,h5⟩;dsimp only;refine wpS_bind (t0 (lo:=hint+1 - min of (hint+1)) (hi:=hint - la) hk hg hkey hn hs (by lia) (by lia) (fun i hi=>?_) (fun i a b=>kz hn hs (hint - la) i a b h4) fun k a b c=>wpS_pure (h k a b c));rcases h5 with h5|⟨h5,h6⟩
   ·lia
   ·exact hJ hn hs i (hint - of) (by lia) (by lia) h6
end
end
def jO:Array Keyed->Array Keyed->StateT SortSt Sem (Array Keyed):=sortPriv% PySem.Builtin.mergeLo
def kw:Nat->StateT SortSt Sem Unit:=sortPriv% PySem.Builtin.setMinGallop
def lS(g:Nat):kw g=modify fun s=>SortSt.mk' (kindOf s) (arrOf s) (pendingOf s) g (failedOf s):=rfl
def ua(a b:Array Keyed):jO a b=(do
 rule "list.sort.merge-lo"
 let tot:=a.size+b.size
 let all (ou:Array Keyed) (i j:Nat):=ou++a.extract i a.size++b.extract j b.size
 let one (ou:Array Keyed) (i j:Nat):=ou++b.extract j b.size++a.extract i a.size
 let mut ou:Array Keyed:=#[<-elem' b 0]
 let mut i:=0
 let mut j:=1
 if j == b.size then return all ou i j
 if i+1 == a.size then return one ou i j
 let mut g:=gallopOf (<-get)
 for _ in [0:tot] do
  let mut na:=0
  let mut nb:=0
  for _ in [0:tot] do
   let some q <-lt' (<-elem' b j) (<-elem' a i)|return all ou i j
   if q then
    ou:=ou.push (<-elem' b j);j:=j+1;nb:=nb+1;na:=0
    if j == b.size then return all ou i j
    if nb>=g then break
   else
    ou:=ou.push (<-elem' a i);i:=i+1;na:=na+1;nb:=0
    if i+1 == a.size then return one ou i j
    if na>=g then break
  rule "list.sort.gallop"
  g:=g+1
  for _ in [0:tot] do
   if g>1 then g:=g - 1
   kw g
   let some k <-gallop' false (<-elem' b j) a i (a.size - i) 0|return all ou i j
   na:=k
   if k>0 then
    ou:=ou++a.extract i (i+k);i:=i+k
    if i+1 == a.size then return one ou i j
    if i == a.size then return all ou i j
   ou:=ou.push (<-elem' b j);j:=j+1
   if j == b.size then return all ou i j
   let some k <-gallop' true (<-elem' a i) b j (b.size - j) 0|return all ou i j
   nb:=k
   if k>0 then
    ou:=ou++b.extract j (j+k);j:=j+k
    if j == b.size then return all ou i j
   ou:=ou.push (<-elem' a i);i:=i+1
   if i+1 == a.size then return one ou i j
   if na<7 && nb<7 then break
  g:=g+1
  kw g
 unsupported "internal:list.sort.merge-bound"):=rfl
section
variable {prog:Program} {w:World} {A:Around} {E:Value→Shared→Prop} {s:Shared} {kd:SortKind} {O:KeyOrd} (C:Cmp prog w A E s kd O)
def LS(l:List Keyed):Prop:=l.Pairwise fun x y=>O.kle (C.key x) (C.key y)
def LB(l m:List Keyed):Prop:=∀x∈l,∀y∈m,O.kle (C.key x) (C.key y)
variable {C}
def cB(h1:LS C l)(h2:LS C m)(h3:LB C l m):LS C (l++m):=by
 unfold LS;rw[List.pairwise_append];exact⟨h1,h2,h3⟩
def o5{xs:Array Keyed}{lo hi:Nat}(hhi:hi<=xs.size)(h:Srt C xs lo hi):LS C (xs.extract lo hi).toList:=by
 unfold LS;rw[qbE];intro i j hi' hj' hij;have hsz:(xs.extract lo hi).size=hi - lo:=by simp;lia
 have hi2:i<(xs.extract lo hi).size:=by rw[<-qaW];exact hi'
 have hj2:j<(xs.extract lo hi).size:=by rw[<-qaW];exact hj'
 have e1:(xs.extract lo hi).toList[i]=xs[lo+i]'(by lia):=by simp
 have e2:(xs.extract lo hi).toList[j]=xs[lo+j]'(by lia):=by simp
 rw[e1,e2]
 have:=h (lo+i) (lo+j) (by lia) (by lia) (by lia)
 rw[aZ (getElem?_pos xs (lo+i) (by lia)),aZ (getElem?_pos xs (lo+j) (by lia))] at this;exact this
def kT(h:LS C xs.toList):Srt C xs 0 xs.size:=by
 intro i j _ hij hj;rw[aZ (getElem?_pos xs i (by lia)),aZ (getElem?_pos xs j hj)];by_cases e:i=j
 ·subst e;exact KeyOrd.kle_refl _
 ·unfold LS at h;rw[qbE] at h
  have:=h i j (by simp;lia) (by simpa using hj) (by lia)
  simpa using this
structure MI (C:Cmp prog w A E s kd O) (a b ou:Array Keyed) (i j:Nat):Prop where
 perm:(ou.toList++(a.toList.drop i++b.toList.drop j)).Perm (a.toList++b.toList)
 srt:LS C ou.toList
 low:LB C ou.toList (a.toList.drop i++b.toList.drop j)
variable {a b ou:Array Keyed} {i j:Nat}
def MI.size(m:MI C a b ou i j)(hi:i<=a.size)(hj:j<=b.size):ou.size+(a.size - i)+(b.size - j)=a.size+b.size:=by
 have:=m.perm.length_eq
 simp at this;lia
def jm{xs:Array Keyed}{i:Nat}{p:Keyed}(h:xs[i]?=some p):xs.toList.drop i=p::xs.toList.drop (i+1):=by
 have hl:i<xs.toList.length:=by
  have:=(qaT.mp h).1
  simpa using this
 have e:xs.toList[i]=p:=by
  have:=(qaT.mp h).2
  simpa using this
 rw[<-e,List.getElem_cons_drop hl]
def js{xs:Array Keyed}(h:LS C xs.toList)(i:Nat):LS C (xs.toList.drop i):=h.sublist (List.drop_sublist i _)
def jA{xs:Array Keyed}(h:LS C xs.toList){i:Nat}{p:Keyed}(hp:xs[i]?=some p):∀y∈xs.toList.drop i,O.kle (C.key p) (C.key y):=by
 have h1:=js h i;rw[jm hp] at h1 ⊢;unfold LS at h1;rw[qbc] at h1;intro y hy;rcases qaj.mp hy with rfl|hy
 ·exact KeyOrd.kle_refl _
 ·exact h1.1 y hy
def MI.pushA(m:MI C a b ou i j)(ha:LS C a.toList)(hb:LS C b.toList){p:Keyed}(hp:a[i]?=some p)(hq:∀q,b[j]?=some q->O.kle (C.key p) (C.key q)):MI C a b (ou.push p) (i+1) j:=by
 have hd:=jm hp;have hle:∀y∈a.toList.drop i++b.toList.drop j,O.kle (C.key p) (C.key y):=by
  intro y hy;rcases qap.mp hy with hy|hy
  ·exact jA ha hp y hy
  ·cases hb':b[j]? with
   | none =>
    have:b.toList.drop j=[]:=qbq (by have:=qbZ.mp hb';simpa using this)
    rw[this] at hy;cases hy
   | some q=>exact KeyOrd.kle_trans (hq q hb') (jA hb hb' y hy)
 refine⟨?_,?_,?_⟩
 ·have:=m.perm
  rw[hd] at this;rw[qbh,qaH];exact this
 ·rw[qbh];refine cB m.srt (by unfold LS;simp) fun x hx y hy=>?_
  have:y=p:=by simpa using hy
  subst this;exact m.low x hx y (qay _ (by rw[hd];exact qaC))
 ·intro x hx y hy;rw[qbh] at hx;have hy':y∈a.toList.drop i++b.toList.drop j:=by
   rcases qap.mp hy with hy|hy
   ·exact qay _ (by rw[hd];exact qal _ hy)
   ·exact qad _ hy
  rcases qap.mp hx with hx|hx
  ·exact m.low x hx y hy'
  ·have:x=p:=by simpa using hx
   subst this;exact hle y hy'
def MI.pushB(m:MI C a b ou i j)(ha:LS C a.toList)(hb:LS C b.toList){p:Keyed}(hp:b[j]?=some p)(hq:∀q,a[i]?=some q->O.kle (C.key p) (C.key q)):MI C a b (ou.push p) i (j+1):=by
 have hd:=jm hp;have hle:∀y∈a.toList.drop i++b.toList.drop j,O.kle (C.key p) (C.key y):=by
  intro y hy;rcases qap.mp hy with hy|hy
  ·cases ha':a[i]? with
   | none =>
    have:a.toList.drop i=[]:=qbq (by have:=qbZ.mp ha';simpa using this)
    rw[this] at hy;cases hy
   | some q=>exact KeyOrd.kle_trans (hq q ha') (jA ha ha' y hy)
  ·exact jA hb hp y hy
 refine⟨?_,?_,?_⟩
 ·have:=m.perm
  rw[hd] at this;rw[qbh,qaH];refine List.Perm.trans (List.Perm.append_left _ ?_) this;show (p::(a.toList.drop i++b.toList.drop (j+1))).Perm _;exact qcq.symm
 ·rw[qbh];refine cB m.srt (by unfold LS;simp) fun x hx y hy=>?_
  have:y=p:=by simpa using hy
  subst this;exact m.low x hx y (qad _ (by rw[hd];exact qaC))
 ·intro x hx y hy;rw[qbh] at hx;have hy':y∈a.toList.drop i++b.toList.drop j:=by
   rcases qap.mp hy with hy|hy
   ·exact qay _ hy
   ·exact qad _ (by rw[hd];exact qal _ hy)
  rcases qap.mp hx with hx|hx
  ·exact m.low x hx y hy'
  ·have:x=p:=by simpa using hx
   subst this;exact hle y hy'
def kR{xs:Array Keyed}{i k:Nat}{p:Keyed}(h:xs[i+k]?=some p):xs.extract i (i+(k+1))=(xs.extract i (i+k)).push p:=by
 have hl:=(qaT.mp h).1;apply qaV.mp;simp only[qbD,qbh,qaI];have e1:i+(k+1) - i=k+1:=by lia
 have e2:i+k - i=k:=by lia
 rw[e1,e2,qbR,qcc,qaD,h];rfl
def MI.moveA(m:MI C a b ou i j)(ha:LS C a.toList)(hb:LS C b.toList):∀k,i+k<=a.size->(∀r p q,r<k->a[i+r]?=some p->b[j]?=some q->O.kle (C.key p) (C.key q))->MI C a b (ou++a.extract i (i+k)) (i+k) j:=by
 intro k
 induction k with
 | zero =>
  intro _ _;have e:ou++a.extract i (i+0)=ou:=by apply qaV.mp;simp[qaI]
  rw[e];exact m
 | succ k ih =>
  intro hk hq;have hp:a[i+k]?=some (a[i+k]'(by lia)):=getElem?_pos a (i+k) (by lia);have m1:=(ih (by lia) fun r p q hr=>hq r p q (by lia)).pushA ha hb hp (fun q hq'=>hq k _ q (by lia) hp hq');have e:ou++(a.extract i (i+k)).push (a[i+k]'(by lia))=(ou++a.extract i (i+k)).push (a[i+k]'(by lia)):=by apply qaV.mp;simp
  rw[kR hp,e];exact m1
def MI.moveB(m:MI C a b ou i j)(ha:LS C a.toList)(hb:LS C b.toList):∀k,j+k<=b.size->(∀r p q,r<k->b[j+r]?=some p->a[i]?=some q->O.kle (C.key p) (C.key q))->MI C a b (ou++b.extract j (j+k)) i (j+k):=by
 intro k
 induction k with
 | zero =>
  intro _ _;have e:ou++b.extract j (j+0)=ou:=by apply qaV.mp;simp[qaI]
  rw[e];exact m
 | succ k ih =>
  intro hk hq;have hp:b[j+k]?=some (b[j+k]'(by lia)):=getElem?_pos b (j+k) (by lia);have m1:=(ih (by lia) fun r p q hr=>hq r p q (by lia)).pushB ha hb hp (fun q hq'=>hq k _ q (by lia) hp hq');have e:ou++(b.extract j (j+k)).push (b[j+k]'(by lia))=(ou++b.extract j (j+k)).push (b[j+k]'(by lia)):=by apply qaV.mp;simp
  rw[kR hp,e];exact m1
def MR(C:Cmp prog w A E s kd O)(a b out:Array Keyed):Prop:=out.toList.Perm (a.toList++b.toList)/\LS C out.toList
def iN{xs:Array Keyed}{i:Nat}:(xs.extract i xs.size).toList=xs.toList.drop i:=by
 rw[qbD,qaI];exact qbN (by simp)
def MI.all(m:MI C a b ou i j)(ha:LS C a.toList)(hb:LS C b.toList)(h:a.size<=i\/b.size<=j):MR C a b (ou++a.extract i a.size++b.extract j b.size):=by
 have e:(ou++a.extract i a.size++b.extract j b.size).toList=ou.toList++(a.toList.drop i++b.toList.drop j):=by
  rw[qaS,qaS,iN,iN,qaH]
 unfold MR;rw[e];refine⟨m.perm,cB m.srt ?_ m.low⟩;rcases h with h|h
 ·have:a.toList.drop i=[]:=qbq (by simpa using h)
  rw[this];exact js hb j
 ·have:b.toList.drop j=[]:=qbq (by simpa using h)
  rw[this,qbo];exact js ha i
def MI.one(m:MI C a b ou i j)(ha:LS C a.toList)(hb:LS C b.toList)(h:i+1=a.size)(hl:∀x q,x∈b.toList->a[i]?=some q->O.kle (C.key x) (C.key q)):MR C a b (ou++b.extract j b.size++a.extract i a.size):=by
 have e:(ou++b.extract j b.size++a.extract i a.size).toList=ou.toList++(b.toList.drop j++a.toList.drop i):=by
  rw[qaS,qaS,iN,iN,qaH]
 unfold MR;rw[e];have hp:a[i]?=some (a[i]'(by lia)):=getElem?_pos a i (by lia);have hd:=jm hp;have hnil:a.toList.drop (i+1)=[]:=qbq (by simp;lia);rw[hnil] at hd;refine⟨(List.Perm.append_left _ qcz).trans m.perm,cB m.srt (cB (js hb j) (js ha i) ?_) ?_⟩
 ·intro x hx y hy;rw[hd] at hy
  have:y=a[i]'(by lia):=by simpa using hy
  subst this;exact hl x _ (List.mem_of_mem_drop hx) hp
 ·intro x hx y hy;exact m.low x hx y (qap.mpr (qap.mp hy).symm)
end
structure Eqv (st st':SortSt):Prop where
 kind:kindOf st'=kindOf st
 arr:arrOf st'=arrOf st
 pend:pendingOf st'=pendingOf st
 failed:failedOf st'=failedOf st
def Eqv.rfl'{st:SortSt}:Eqv st st:=⟨rfl,rfl,rfl,rfl⟩
def Eqv.trans{st st1 st2:SortSt}(x:Eqv st st1)(y:Eqv st1 st2):Eqv st st2:=⟨y.kind.trans x.kind,y.arr.trans x.arr,y.pend.trans x.pend,y.failed.trans x.failed⟩
abbrev GS:=Option (Array Keyed) × Array Keyed × Nat × Nat × Nat × Nat × Nat
def loT3(a b ou:Array Keyed)(i j g na nb:Nat):StateT SortSt Sem (ForInStep GS):=do
 let x <-elem' a i
 if (i+1+1 == a.size)=true then pure (ForInStep.done (some (ou.push x++b.extract j b.size++a.extract (i+1) a.size),ou.push x,i+1,j,g,na,nb))
 else if (decide (na<7) && decide (nb<7))=true then pure (ForInStep.done (none,ou.push x,i+1,j,g,na,nb))
 else pure (ForInStep.yield (none,ou.push x,i+1,j,g,na,nb))
def loT2(a b ou:Array Keyed)(i j g na nb:Nat):StateT SortSt Sem (ForInStep GS):=do
 let x <-elem' b j
 if (j+1 == b.size)=true then pure (ForInStep.done (some (ou.push x++a.extract i a.size++b.extract (j+1) b.size),ou.push x,i,j+1,g,na,nb))
 else do
  let y <-elem' a i
  let q <-gallop' true y b (j+1) (b.size - (j+1)) 0
  match q with
  | some k =>
   if k>0 then
    if (j+1+k == b.size)=true then
     pure (ForInStep.done (some (ou.push x++b.extract (j+1) (j+1+k)++a.extract i a.size++b.extract (j+1+k) b.size),ou.push x++b.extract (j+1) (j+1+k),i,j+1+k,g,na,k))
    else loT3 a b (ou.push x++b.extract (j+1) (j+1+k)) i (j+1+k) g na k
   else loT3 a b (ou.push x) i (j+1) g na k
  | _=>pure (ForInStep.done (some (ou.push x++a.extract i a.size++b.extract (j+1) b.size),ou.push x,i,j+1,g,na,nb))
def loT1(a b ou:Array Keyed)(i j g na nb:Nat):StateT SortSt Sem (ForInStep GS):=do
 kw g
 let x <-elem' b j
 let q <-gallop' false x a i (a.size - i) 0
 match q with
 | some k =>
  if k>0 then
   if (i+k+1 == a.size)=true then
    pure (ForInStep.done (some (ou++a.extract i (i+k)++b.extract j b.size++a.extract (i+k) a.size),ou++a.extract i (i+k),i+k,j,g,k,nb))
   else if (i+k == a.size)=true then
    pure (ForInStep.done (some (ou++a.extract i (i+k)++a.extract (i+k) a.size++b.extract j b.size),ou++a.extract i (i+k),i+k,j,g,k,nb))
   else loT2 a b (ou++a.extract i (i+k)) (i+k) j g k nb
  else loT2 a b ou i j g k nb
 | _=>pure (ForInStep.done (some (ou++a.extract i a.size++b.extract j b.size),ou,i,j,g,na,nb))
abbrev LBt:=Option (Array Keyed) × Array Keyed × Nat × Nat × Nat × Nat
abbrev LCt:=Option (Array Keyed) × Array Keyed × Nat × Nat × Nat
def loP(a b:Array Keyed)(g:Nat)(c:LBt):StateT SortSt Sem (ForInStep LBt):=do
 let x <-elem' b c.2.2.2.1
 let y <-elem' a c.2.2.1
 let q <-lt' x y
 match q with
 | some q =>
  if q=true then do
   let z <-elem' b c.2.2.2.1
   if (c.2.2.2.1+1 == b.size)=true then pure (ForInStep.done (some (c.2.1.push z++a.extract c.2.2.1 a.size++b.extract (c.2.2.2.1+1) b.size),c.2.1.push z,c.2.2.1,c.2.2.2.1+1,0,c.2.2.2.2.2+1))
   else if c.2.2.2.2.2+1>=g then pure (ForInStep.done (none,c.2.1.push z,c.2.2.1,c.2.2.2.1+1,0,c.2.2.2.2.2+1))
   else pure (ForInStep.yield (none,c.2.1.push z,c.2.2.1,c.2.2.2.1+1,0,c.2.2.2.2.2+1))
  else do
   let z <-elem' a c.2.2.1
   if (c.2.2.1+1+1 == a.size)=true then pure (ForInStep.done (some (c.2.1.push z++b.extract c.2.2.2.1 b.size++a.extract (c.2.2.1+1) a.size),c.2.1.push z,c.2.2.1+1,c.2.2.2.1,c.2.2.2.2.1+1,0))
   else if c.2.2.2.2.1+1>=g then pure (ForInStep.done (none,c.2.1.push z,c.2.2.1+1,c.2.2.2.1,c.2.2.2.2.1+1,0))
   else pure (ForInStep.yield (none,c.2.1.push z,c.2.2.1+1,c.2.2.2.1,c.2.2.2.2.1+1,0))
 | _=>pure (ForInStep.done (some (c.2.1++a.extract c.2.2.1 a.size++b.extract c.2.2.2.1 b.size),c.2.1,c.2.2.1,c.2.2.2.1,c.2.2.2.2.1,c.2.2.2.2.2))
def loG(a b:Array Keyed)(c:GS):StateT SortSt Sem (ForInStep GS) :=
 if c.2.2.2.2.1>1 then loT1 a b c.2.1 c.2.2.1 c.2.2.2.1 (c.2.2.2.2.1 - 1) c.2.2.2.2.2.1 c.2.2.2.2.2.2
 else loT1 a b c.2.1 c.2.2.1 c.2.2.2.1 c.2.2.2.2.1 c.2.2.2.2.2.1 c.2.2.2.2.2.2
def loE(c:GS):StateT SortSt Sem (ForInStep LCt) :=
 match c.1 with
 | some r=>pure (ForInStep.done (some r,c.2.1,c.2.2.1,c.2.2.2.1,c.2.2.2.2.1))
 | none=>do
  kw (c.2.2.2.2.1+1)
  pure (ForInStep.yield (none,c.2.1,c.2.2.1,c.2.2.2.1,c.2.2.2.2.1+1))
def loD(a b:Array Keyed)(g:Nat)(c:LBt):StateT SortSt Sem (ForInStep LCt) :=
 match c.1 with
 | some r=>pure (ForInStep.done (some r,c.2.1,c.2.2.1,c.2.2.2.1,g))
 | none=>do
  liftM (rule "list.sort.gallop")
  let e <-forIn [:a.size+b.size] ((none,c.2.1,c.2.2.1,c.2.2.2.1,g+1,c.2.2.2.2.1,c.2.2.2.2.2):GS) fun _ e=>loG a b e
  loE e
def loO(a b:Array Keyed)(c:LCt):StateT SortSt Sem (ForInStep LCt):=do
 let d <-forIn [:a.size+b.size] ((none,c.2.1,c.2.2.1,c.2.2.2.1,0,0):LBt) fun _ d=>loP a b c.2.2.2.2 d
 loD a b c.2.2.2.2 d
def loZ(a b:Array Keyed)(x:Keyed):StateT SortSt Sem (Array Keyed):=do
 let g <-get
 let r <-forIn [:a.size+b.size] ((none,#[x],0,1,gallopOf g):LCt) fun _ c=>loO a b c
 match r.1 with
 | some r=>pure r
 | none=>liftM (unsupported "internal:list.sort.merge-bound":Sem (Array Keyed))
def lo_n(a b:Array Keyed):jO a b=(do
 liftM (rule "list.sort.merge-lo")
 let x <-elem' b 0
 if (1 == b.size)=true then pure (#[x]++a.extract 0 a.size++b.extract 1 b.size)
 else if (0+1 == a.size)=true then pure (#[x]++b.extract 1 b.size++a.extract 0 a.size)
 else loZ a b x):=by
 rw[ua];dsimp only;refine congrArg (Bind.bind _) (funext fun _=>congrArg (Bind.bind _) (funext fun x=>congrArg (fun z=>ite _ _ (ite _ _ z)) ?_));unfold loZ;have e:∀{α β:Type} {x y:StateT SortSt Sem α} {f h:α->StateT SortSt Sem β},x=y->(∀a,f a=h a)->(x >>= f)=(y >>= h):=fun e f=>by rw[e,funext f]
 refine congrArg (Bind.bind _) (funext fun g=>e (congrArg (forIn _ _) (funext fun _=>funext fun c=>?_)) fun ⟨r,_⟩=>by cases r <;> rfl);refine e rfl fun d=>?_;obtain⟨d1,d2⟩:=d
 cases d1 with
 | some r=>rfl
 | none=>exact congrArg (Bind.bind _) (funext fun _=>e rfl fun ⟨r,_⟩=>by cases r <;> rfl)
section
variable {prog:Program} {w:World} {A:Around} {E:Value→Shared→Prop} {s:Shared} {kd:SortKind} {O:KeyOrd} {C:Cmp prog w A E s kd O} {st:SortSt} {a b:Array Keyed}
structure Two (C:Cmp prog w A E s kd O) (a b:Array Keyed):Prop where
 ga:cR C a
 gb:cR C b
 sa:LS C a.toList
 sb:LS C b.toList
 na:1<=a.size
 nb:1<=b.size
 fst:∀p q,b[0]?=some p->a[0]?=some q->O.kle (C.key p) (C.key q)
 lst:∀x q,x∈b.toList->a[a.size - 1]?=some q->O.kle (C.key x) (C.key q)
def LI(C:Cmp prog w A E s kd O)(a b:Array Keyed)(N:Nat)(c:GS):Prop:=c.1=none/\MI C a b c.2.1 c.2.2.1 c.2.2.2.1/\c.2.2.1+1<a.size/\c.2.2.2.1<b.size/\N<=c.2.1.size
def lm(C:Cmp prog w A E s kd O)(a b:Array Keyed)(N:Nat)(st:SortSt)(r:ForInStep GS)(st':SortSt):Prop:=Eqv st st'/\match r with
 | .done c=>(∃x,c.1=some x/\MR C a b x)\/LI C a b N c
 | .yield c=>LI C a b N c
def vz(T:Two C a b)(m:MI C a b ou i j)(hi:i+1<a.size)(hj:j<b.size)(hN:N<=ou.size)(hle:∀p q,a[i]?=some p->b[j]?=some q->O.kle (C.key p) (C.key q)) :
  wpS (model prog w) A E s (loT3 a b ou i j g na nb) (lm C a b N st) st:=by
 unfold loT3;refine wpS_bind (bc (by lia) fun x hx=>?_);have m1:=m.pushA T.sa T.sb hx (fun q hq=>hle x q hx hq);have hsz:(ou.push x).size=ou.size+1:=qbp ..;by_cases h1:i+1+1=a.size
 ·rw[qae (by simpa using h1)];exact wpS_pure ⟨Eqv.rfl',.inl ⟨_,rfl,m1.one T.sa T.sb h1 fun y q hy hq=>T.lst y q hy (by rw[<-h1];exact hq)⟩⟩
 ·rw[qao (by simpa using h1)];have li:LI C a b N (none,ou.push x,i+1,j,g,na,nb):=⟨rfl,m1,by show i+1+1<a.size;lia,hj,by show N<=(ou.push x).size;lia⟩;split
  ·exact wpS_pure ⟨Eqv.rfl',.inr li⟩
  ·exact wpS_pure ⟨Eqv.rfl',li⟩
def vd(T:Two C a b)(hk:kindOf st=kd)(m:MI C a b ou i j)(hi:i+1<a.size)(hj:j<b.size)(hN:N<=ou.size)(hle:∀p q,b[j]?=some p->a[i]?=some q->O.kle (C.key p) (C.key q)) :
  wpS (model prog w) A E s (loT2 a b ou i j g na nb) (lm C a b N st) st:=by
 unfold loT2;refine wpS_bind (bc hj fun x hx=>?_);have m1:=m.pushB T.sa T.sb hx (fun q hq=>hle x q hx hq);have hsz:(ou.push x).size=ou.size+1:=qbp ..;by_cases h1:j+1=b.size
 ·rw[qae (by simpa using h1)];exact wpS_pure ⟨Eqv.rfl',.inl ⟨_,rfl,m1.all T.sa T.sb (.inr (by lia))⟩⟩
 ·rw[qao (by simpa using h1)];refine wpS_bind (bc (by lia) fun y hy=>?_);refine wpS_bind (eI (C:=C) hk T.gb (bD T.ga hy) (by lia) (by lia) ?_ fun k hkn hlo hhi=>?_)
  ·intro p q hp hpq hq;exact kT T.sb p q (qaP _) hpq (by lia)
  ·have hlo':∀r p q,r<k->b[j+1+r]?=some p->a[i]?=some q->O.kle (C.key p) (C.key q):=fun r p q hr hp hq=>by
    have:=hlo r hr
    unfold ahead at this;rw[aZ hp] at this;rw[hy] at hq;cases hq;exact KeyOrd.kle_of_klt this
   have hhi':∀p q,a[i]?=some p->b[j+1+k]?=some q->O.kle (C.key p) (C.key q):=fun p q hp hq=>by
    have hlt:=(qaT.mp hq).1
    have:=hhi k (qai _) (by lia)
    unfold ahead at this;rw[aZ hq] at this;rw[hy] at hp;cases hp;exact this
   dsimp only;by_cases hk0:k>0
   ·rw[qae hk0];have m2:=m1.moveB T.sa T.sb k (by lia) hlo';by_cases h2:j+1+k=b.size
    ·rw[qae (by simpa using h2)];exact wpS_pure ⟨Eqv.rfl',.inl ⟨_,rfl,m2.all T.sa T.sb (.inr (by lia))⟩⟩
    ·rw[qao (by simpa using h2)];exact vz T m2 hi (by lia) (by rw[qbP];lia) hhi'
   ·rw[qao hk0];have e:k=0:=by lia
    subst e;exact vz T m1 hi (by lia) (by lia) hhi'
def uT(T:Two C a b)(hk:kindOf st=kd)(m:MI C a b ou i j)(hi:i+1<a.size)(hj:j<b.size)(hN:N<=ou.size) :
  wpS (model prog w) A E s (loT1 a b ou i j g na nb) (lm C a b N st) st:=by
 unfold loT1;rw[lS];refine wpS_bind (wpS_modify ?_);have ev:Eqv st (SortSt.mk' (kindOf st) (arrOf st) (pendingOf st) g (failedOf st)):=⟨rfl,rfl,rfl,rfl⟩;refine wpS_mono (Q:=lm C a b N (SortSt.mk' (kindOf st) (arrOf st) (pendingOf st) g (failedOf st))) ?_ fun r st' h=>⟨ev.trans h.1,h.2⟩;have hk':kindOf (SortSt.mk' (kindOf st) (arrOf st) (pendingOf st) g (failedOf st))=kd:=hk;refine wpS_bind (bc hj fun x hx=>?_);refine wpS_bind (eI (C:=C) hk' T.ga (bD T.gb hx) (by lia) (by lia) ?_ fun k hkn hlo hhi=>?_)
 ·intro p q hp hpq hq;exact kT T.sa p q (qaP _) hpq (by lia)
 ·have hlo':∀r p q,r<k->a[i+r]?=some p->b[j]?=some q->O.kle (C.key p) (C.key q):=fun r p q hr hp hq=>by
   have:=hlo r hr
   unfold ahead at this;rw[aZ hp] at this;rw[hx] at hq;cases hq;simp only[qag,if_false,qbB] at this;exact this
  have hhi':∀p q,b[j]?=some p->a[i+k]?=some q->O.kle (C.key p) (C.key q):=fun p q hp hq=>by
   have hlt:=(qaT.mp hq).1
   have:=hhi k (qai _) (by lia)
   unfold ahead at this;rw[aZ hq] at this;rw[hx] at hp;cases hp;simp only[qag,if_false,qcd] at this;exact KeyOrd.kle_of_klt this
  dsimp only;by_cases hk0:k>0
  ·rw[qae hk0];have m2:=m.moveA T.sa T.sb k (by lia) hlo';by_cases h2:i+k+1=a.size
   ·rw[qae (by simpa using h2)];exact wpS_pure ⟨Eqv.rfl',.inl ⟨_,rfl,m2.one T.sa T.sb h2 fun y q hy hq=>T.lst y q hy (by rw[<-h2];exact hq)⟩⟩
   ·rw[qao (by simpa using h2)];by_cases h3:i+k=a.size
    ·rw[qae (by simpa using h3)];exact wpS_pure ⟨Eqv.rfl',.inl ⟨_,rfl,m2.all T.sa T.sb (.inl (by lia))⟩⟩
    ·rw[qao (by simpa using h3)];exact vd T hk' m2 (by lia) hj (by rw[qbP];lia) hhi'
  ·rw[qao hk0];have e:k=0:=by lia
   subst e;exact vd T hk' m hi hj hN hhi'
def L1l(C:Cmp prog w A E s kd O)(a b:Array Keyed)(N:Nat)(c:LBt):Prop:=c.1=none/\MI C a b c.2.1 c.2.2.1 c.2.2.2.1/\c.2.2.1+1<a.size/\c.2.2.2.1<b.size/\N<=c.2.1.size
def L0l(C:Cmp prog w A E s kd O)(a b:Array Keyed)(N:Nat)(c:LCt):Prop:=c.1=none/\MI C a b c.2.1 c.2.2.1 c.2.2.2.1/\c.2.2.1+1<a.size/\c.2.2.2.1<b.size/\N<=c.2.1.size
def Stp1(C:Cmp prog w A E s kd O)(a b:Array Keyed)(N:Nat)(st:SortSt)(r:ForInStep LBt)(st':SortSt):Prop:=match r with
 | .done c=>st'=st/\((∃x,c.1=some x/\MR C a b x)\/L1l C a b N c)
 | .yield c=>st'=st/\L1l C a b N c
def Stp0(C:Cmp prog w A E s kd O)(a b:Array Keyed)(N:Nat)(st:SortSt)(r:ForInStep LCt)(st':SortSt):Prop:=match r with
 | .done c=>Eqv st st'/\∃x,c.1=some x/\MR C a b x
 | .yield c=>Eqv st st'/\L0l C a b N c
def loP_ok(T:Two C a b)(hk':kindOf st=kd)(m':MI C a b ou' i' j')(hi':i'+1<a.size)(hj':j'<b.size)(hN:N<=ou'.size) :
  wpS (model prog w) A E s (loP a b g (none,ou',i',j',na,nb)) (Stp1 C a b (N+1) st) st:=by
 unfold loP;dsimp only;refine wpS_bind (bc hj' fun p hp=>wpS_bind (bc (by lia) fun q hq=>?_));refine wpS_bind (C.ask p q st _ (bD T.gb hp) (bD T.ga hq) hk' ?_)
 cases hz:O.blt (C.key p) (C.key q) with
 | true =>
  dsimp only;rw[qae rfl];refine wpS_bind (bc hj' fun p' hp'=>?_);rw[hp] at hp';cases hp';have m2:=m'.pushB T.sa T.sb hp (fun q' hq'=>by rw[hq] at hq';cases hq';exact KeyOrd.kle_of_klt hz);have hs2:(ou'.push p).size=ou'.size+1:=qbp ..;by_cases h3:j'+1=b.size
  ·rw[qae (by simpa using h3)];exact wpS_pure ⟨rfl,.inl ⟨_,rfl,m2.all T.sa T.sb (.inr (by lia))⟩⟩
  ·rw[qao (by simpa using h3)];split
   ·exact wpS_pure ⟨rfl,.inr ⟨rfl,m2,hi',by lia,by rw[hs2];lia⟩⟩
   ·exact wpS_pure ⟨rfl,rfl,m2,hi',by lia,by rw[hs2];lia⟩
 | false =>
  dsimp only;rw[qao (by simp)];refine wpS_bind (bc (by lia) fun q' hq'=>?_);rw[hq] at hq';cases hq';have m2:=m'.pushA T.sa T.sb hq (fun p' hp'=>by rw[hp] at hp';cases hp';exact hz);have hs2:(ou'.push q).size=ou'.size+1:=qbp ..;by_cases h3:i'+1+1=a.size
  ·rw[qae (by simpa using h3)];exact wpS_pure ⟨rfl,.inl ⟨_,rfl,m2.one T.sa T.sb h3 fun y q hy hq=>T.lst y q hy (by rw[<-h3];exact hq)⟩⟩
  ·rw[qao (by simpa using h3)];split
   ·exact wpS_pure ⟨rfl,.inr ⟨rfl,m2,by lia,hj',by rw[hs2];lia⟩⟩
   ·exact wpS_pure ⟨rfl,rfl,m2,by lia,hj',by rw[hs2];lia⟩
def loE_ok(ev:Eqv st0 st)(hc:(∃x,c.1=some x/\MR C a b x)\/LI C a b N c):wpS (model prog w) A E s (loE c) (Stp0 C a b N st0) st:=by
 obtain⟨c1,ou3,i3,j3,g3,na3,nb3⟩:=c;rcases hc with ⟨r,hr,mr⟩|⟨hc,hr⟩
 ·cases hr;exact wpS_pure ⟨ev,r,rfl,mr⟩
 ·cases hc;unfold loE;dsimp only;rw[lS];exact wpS_bind (wpS_modify (wpS_pure ⟨ev.trans ⟨rfl,rfl,rfl,rfl⟩,rfl,hr⟩))
def loG_ok(T:Two C a b)(hk:kindOf st=kd)(h:LI C a b N c):wpS (model prog w) A E s (loG a b c) (lm C a b N st) st:=by
 obtain⟨_,m3,hi3,hj3,hN3⟩:=h;unfold loG;split
 ·exact uT T hk m3 hi3 hj3 hN3
 ·exact uT T hk m3 hi3 hj3 hN3
def loD_ok(T:Two C a b)(hk:kindOf st=kd)(ev:Eqv st0 st)(hc:(∃x,c.1=some x/\MR C a b x)\/L1l C a b N c):wpS (model prog w) A E s (loD a b g c) (Stp0 C a b N st0) st:=by
 obtain⟨c1,ou',i',j',na,nb⟩:=c;rcases hc with ⟨r,hr,mr⟩|⟨hc,hr⟩
 ·cases hr;exact wpS_pure ⟨ev,r,rfl,mr⟩
 ·cases hc;unfold loD;dsimp only;refine wpS_bind (wpS_lift (wpAny_rule ⟨rfl,?_⟩));refine wpS_bind (wpS_mono (wpS_forRange (I:=fun y c st3=>Eqv st st3/\LI C a b N c) (Q:=fun c st3=>Eqv st st3/\((∃x,c.1=some x/\MR C a b x)\/LI C a b N c)) ?_ ?_ ⟨Eqv.rfl',rfl,hr⟩) ?_)
  ·rintro y c st3 _ hy ⟨ev3,h3⟩;refine wpS_mono (loG_ok T (ev3.kind.trans hk) h3) fun r st4 hr=>?_
   cases r with
   | done c'=>exact⟨ev3.trans hr.1,hr.2⟩
   | yield c'=>exact⟨ev3.trans hr.1,hr.2⟩
  ·rintro c st3 ⟨ev3,hli⟩;exact⟨ev3,.inr hli⟩
  ·rintro c st3 ⟨ev3,hc⟩;exact loE_ok (ev.trans ev3) hc
def loO_ok(T:Two C a b)(hk:kindOf st=kd)(h:L0l C a b N c):wpS (model prog w) A E s (loO a b c) (Stp0 C a b (N+1) st) st:=by
 obtain⟨c1,ou,i,j,g⟩:=c;obtain⟨hc,hm⟩:=h;cases hc;unfold loO
 refine wpS_bind (wpS_mono (wpS_forRange (I:=fun y c st''=>st''=st/\L1l C a b (N+y) c)
  (Q:=fun c st''=>st''=st/\((∃x,c.1=some x/\MR C a b x)\/L1l C a b (N+1) c)) ?_ ?_ ⟨rfl,rfl,hm⟩) ?_)
 ·rintro y c st'' _ hy ⟨rfl,h1⟩;obtain⟨c1,ou',i',j',na,nb⟩:=c;obtain⟨hc,m',hi',hj',hsz'⟩:=h1;cases hc;refine wpS_mono (loP_ok T hk m' hi' hj' hsz') fun r st4 hr=>?_
  cases r with
  | done c'=>exact⟨hr.1,hr.2.imp_right fun h=>⟨h.1,h.2.1,h.2.2.1,h.2.2.2.1,qax (by lia) h.2.2.2.2⟩⟩
  | yield c'=>exact hr
 ·rintro c st'' ⟨rfl,h⟩
  have:=T.na
  exact⟨rfl,.inr ⟨h.1,h.2.1,h.2.2.1,h.2.2.2.1,qax (by lia) h.2.2.2.2⟩⟩
 ·rintro c st'' ⟨rfl,hc⟩;exact loD_ok T hk Eqv.rfl' hc
def loZ_ok(T:Two C a b)(hk:kindOf st=kd)(h1:MI C a b #[x0] 0 1)(ha:0+1<a.size)(hb:1<b.size)(h:∀x st',Eqv st st'->MR C a b x->Q x st'):wpS (model prog w) A E s (loZ a b x0) Q st:=by
 unfold loZ;refine wpS_bind (wpS_get ?_)
 refine wpS_bind (wpS_mono (wpS_forRange (I:=fun x c st'=>Eqv st st'/\L0l C a b (x+1) c)
  (Q:=fun c st'=>Eqv st st'/\∃x,c.1=some x/\MR C a b x) ?_ ?_ ⟨Eqv.rfl',rfl,h1,ha,hb,qai _⟩) ?_)
 ·rintro x c st' _ hx ⟨ev,h0⟩;refine wpS_mono (loO_ok T (ev.kind.trans hk) h0) fun r st4 hr=>?_
  cases r with
  | done c'=>exact⟨ev.trans hr.1,hr.2⟩
  | yield c'=>exact⟨ev.trans hr.1,hr.2⟩
 ·rintro c st' ⟨ev,h0⟩;exfalso;have h1:=h0.2.2.1;have h2:=h0.2.2.2.1
  have:=h0.2.1.size (by lia) (by lia)
  have:=h0.2.2.2.2
  lia
 ·rintro c st' ⟨ev,r,hr,mr⟩;obtain⟨c1,c2⟩:=c;cases hr;exact wpS_pure (h r st' ev mr)
def wps_lo(T:Two C a b)(hk:kindOf st=kd)(h:∀x st',Eqv st st'->MR C a b x->Q x st'):wpS (model prog w) A E s (jO a b) Q st:=by
 rw[lo_n];refine wpS_bind (wpS_lift (wpAny_rule ⟨rfl,?_⟩));have hna:=T.na;have hnb:=T.nb;refine wpS_bind (bc (by lia) fun x0 hx0=>?_);have m0:MI C a b #[] 0 0:=⟨by simp,by unfold LS;simp,fun x hx=>by simp at hx⟩;have m1:MI C a b #[x0] 0 1:=by
  have:=m0.pushB T.sa T.sb hx0 (fun q hq=>T.fst x0 q hx0 hq)
  simpa using this
 by_cases h1:1=b.size
 ·rw[qae (by simpa using h1)]
  have:=m1.all T.sa T.sb (.inr (by lia))
  exact wpS_pure (h _ st Eqv.rfl' (by simpa using this))
 ·rw[qao (by simpa using h1)];by_cases h2:0+1=a.size
  ·rw[qae (by simpa using h2)]
   have:=m1.one T.sa T.sb h2 fun y q hy hq=>T.lst y q hy (by rw[<-h2];exact hq)
   exact wpS_pure (h _ st Eqv.rfl' (by simpa using this))
  ·rw[qao (by simpa using h2)];exact loZ_ok T hk m1 (by lia) (by lia) h
end
def kx:Array Keyed->Array Keyed->StateT SortSt Sem (Array Keyed):=sortPriv% PySem.Builtin.mergeHi
def uj(a b:Array Keyed):kx a b=(do
 rule "list.sort.merge-hi"
 let tot:=a.size+b.size
 let all (ou:Array Keyed) (m n:Nat):=a.extract 0 m++b.extract 0 n++ou.reverse
 let one (ou:Array Keyed) (m n:Nat):=b.extract 0 n++a.extract 0 m++ou.reverse
 let mut m:=a.size - 1
 let mut n:=b.size
 let mut ou:Array Keyed:=#[<-elem' a m]
 if m == 0 then return all ou m n
 if n == 1 then return one ou m n
 let mut g:=gallopOf (<-get)
 for _ in [0:tot] do
  let mut ca:=0
  let mut cb:=0
  for _ in [0:tot] do
   let some q <-lt' (<-elem' b (n - 1)) (<-elem' a (m - 1))|return all ou m n
   if q then
    m:=m - 1;ou:=ou.push (<-elem' a m);ca:=ca+1;cb:=0
    if m == 0 then return all ou m n
    if ca>=g then break
   else
    n:=n - 1;ou:=ou.push (<-elem' b n);cb:=cb+1;ca:=0
    if n == 1 then return one ou m n
    if cb>=g then break
  rule "list.sort.gallop"
  g:=g+1
  for _ in [0:tot] do
   if g>1 then g:=g - 1
   kw g
   let some z <-gallop' false (<-elem' b (n - 1)) a 0 m (m - 1)|return all ou m n
   let k:=m - z
   ca:=k
   if k>0 then
    ou:=ou++(a.extract z m).reverse;m:=z
    if m == 0 then return all ou m n
   n:=n - 1;ou:=ou.push (<-elem' b n)
   if n == 1 then return one ou m n
   let some z <-gallop' true (<-elem' a (m - 1)) b 0 n (n - 1)|return all ou m n
   let k:=n - z
   cb:=k
   if k>0 then
    ou:=ou++(b.extract z n).reverse;n:=z
    if n == 1 then return one ou m n
    if n == 0 then return all ou m n
   m:=m - 1;ou:=ou.push (<-elem' a m)
   if m == 0 then return all ou m n
   if ca<7 && cb<7 then break
  g:=g+1
  kw g
 unsupported "internal:list.sort.merge-bound"):=rfl
section
variable {prog:Program} {w:World} {A:Around} {E:Value→Shared→Prop} {s:Shared} {kd:SortKind} {O:KeyOrd} {C:Cmp prog w A E s kd O} {a b ou:Array Keyed} {m n:Nat} {st:SortSt}
structure HI (C:Cmp prog w A E s kd O) (a b ou:Array Keyed) (m n:Nat):Prop where
 perm:(a.toList.take m++b.toList.take n++ou.toList.reverse).Perm (a.toList++b.toList)
 srt:LS C ou.toList.reverse
 hgh:LB C (a.toList.take m++b.toList.take n) ou.toList.reverse
def HI.size(h:HI C a b ou m n)(hm:m<=a.size)(hn:n<=b.size):ou.size+m+n=a.size+b.size:=by
 have:=h.perm.length_eq
 simp at this;lia
def mf{xs:Array Keyed}{i:Nat}{p:Keyed}(h:xs[i]?=some p):xs.toList.take (i+1)=xs.toList.take i++[p]:=by
 rw[qbR,qaD,h];rfl
def jt{xs:Array Keyed}(h:LS C xs.toList)(i:Nat):LS C (xs.toList.take i):=h.sublist (List.take_sublist i _)
def lQ{xs:Array Keyed}(h:LS C xs.toList){i:Nat}{p:Keyed}(hp:xs[i]?=some p):∀y∈xs.toList.take (i+1),O.kle (C.key y) (C.key p):=by
 have h1:=jt h (i+1);rw[mf hp] at h1 ⊢;unfold LS at h1;rw[List.pairwise_append] at h1;intro y hy;rcases qap.mp hy with hy|hy
 ·exact h1.2.2 y hy p (by simp)
 ·have:y=p:=by simpa using hy
  subst this;exact KeyOrd.kle_refl _
def fV(p:Keyed):(ou.push p).toList.reverse=p::ou.toList.reverse:=by simp
def HI.pushA(h:HI C a b ou (m+1) n)(ha:LS C a.toList)(hb:LS C b.toList){p:Keyed}(hp:a[m]?=some p)(hn:1<=n)(hnb:n<=b.size)(hq:∀q,b[n - 1]?=some q->O.kle (C.key q) (C.key p)):HI C a b (ou.push p) m n:=by
 have hd:=mf hp;obtain⟨q,hqq⟩:∃q,b[n - 1]?=some q:=⟨_,getElem?_pos b (n - 1) (by lia)⟩;have hle:∀y∈a.toList.take m++b.toList.take n,O.kle (C.key y) (C.key p):=by
  intro y hy;rcases qap.mp hy with hy|hy
  ·exact lQ ha hp y (by rw[hd];exact qay _ hy)
  ·refine KeyOrd.kle_trans (lQ hb hqq y ?_) (hq q hqq)
   have:n - 1+1=n:=by lia
   rw[this];exact hy
 refine⟨?_,?_,?_⟩
 ·have:=h.perm
  rw[hd] at this;rw[fV];refine List.Perm.trans ?_ this;have e1:(a.toList.take m++b.toList.take n++p::ou.toList.reverse).Perm (p::(a.toList.take m++b.toList.take n++ou.toList.reverse)):=qcq;have e2:(a.toList.take m++[p]++b.toList.take n++ou.toList.reverse).Perm (p::(a.toList.take m++b.toList.take n++ou.toList.reverse)):=by
   have:a.toList.take m++[p]++b.toList.take n++ou.toList.reverse=a.toList.take m++p::(b.toList.take n++ou.toList.reverse):=by simp
   rw[this];have q:=qcq (a:=p) (l₁:=a.toList.take m) (l₂:=b.toList.take n++ou.toList.reverse);rw[<-qaH] at q;exact q
  exact e1.trans e2.symm
 ·rw[fV];unfold LS;rw[qbc];refine⟨fun y hy=>h.hgh p (qay _ (by rw[hd];simp)) y hy,h.srt⟩
 ·rw[fV];intro x hx y hy;rcases qaj.mp hy with rfl|hy
  ·exact hle x hx
  ·refine h.hgh x ?_ y hy;rcases qap.mp hx with hx|hx
   ·exact qay _ (by rw[hd];exact qay _ hx)
   ·exact qad _ hx
def HI.pushB(h:HI C a b ou m (n+1))(ha:LS C a.toList)(hb:LS C b.toList){p:Keyed}(hp:b[n]?=some p)(hm:1<=m)(hma:m<=a.size)(hq:∀q,a[m - 1]?=some q->O.kle (C.key q) (C.key p)):HI C a b (ou.push p) m n:=by
 have hd:=mf hp;obtain⟨q,hqq⟩:∃q,a[m - 1]?=some q:=⟨_,getElem?_pos a (m - 1) (by lia)⟩;have hle:∀y∈a.toList.take m++b.toList.take n,O.kle (C.key y) (C.key p):=by
  intro y hy;rcases qap.mp hy with hy|hy
  ·refine KeyOrd.kle_trans (lQ ha hqq y ?_) (hq q hqq)
   have:m - 1+1=m:=by lia
   rw[this];exact hy
  ·exact lQ hb hp y (by rw[hd];exact qay _ hy)
 refine⟨?_,?_,?_⟩
 ·have:=h.perm
  rw[hd] at this;rw[fV];have e:a.toList.take m++(b.toList.take n++[p])++ou.toList.reverse=a.toList.take m++b.toList.take n++p::ou.toList.reverse:=by simp
  rw[e] at this;exact this
 ·rw[fV];unfold LS;rw[qbc];refine⟨fun y hy=>h.hgh p (qad _ (by rw[hd];simp)) y hy,h.srt⟩
 ·rw[fV];intro x hx y hy;rcases qaj.mp hy with rfl|hy
  ·exact hle x hx
  ·refine h.hgh x ?_ y hy;rcases qap.mp hx with hx|hx
   ·exact qay _ hx
   ·exact qad _ (by rw[hd];exact qay _ hx)
def r9{xs:Array Keyed}{m k:Nat}{p:Keyed}(hk:k<m)(hm:m<=xs.size)(h:xs[m - (k+1)]?=some p):ou++(xs.extract (m - (k+1)) m).reverse=(ou++(xs.extract (m - k) m).reverse).push p:=by
 apply qaV.mp;simp only[qaS,qbU,qbh,qbD,qaI];have e1:m - (m - (k+1))=k+1:=by lia
 have e2:m - (m - k)=k:=by lia
 have e3:m - (k+1)+1=m - k:=by lia
 rw[e1,e2,jm h,e3,List.take_succ_cons];simp
def HI.moveA(h:HI C a b ou m n)(ha:LS C a.toList)(hb:LS C b.toList)(hm:m<=a.size)(hn:1<=n)(hnb:n<=b.size):∀k,k<=m->(∀r p q,m - k<=r->r<m->a[r]?=some p->b[n - 1]?=some q->O.kle (C.key q) (C.key p)) ->
  HI C a b (ou++(a.extract (m - k) m).reverse) (m - k) n:=by
 intro k
 induction k with
 | zero =>
  intro _ _;have e:ou++(a.extract (m - 0) m).reverse=ou:=by apply qaV.mp;simp[qaI]
  rw[e];exact h
 | succ k ih =>
  intro hk hq;have hp:a[m - (k+1)]?=some (a[m - (k+1)]'(by lia)):=getElem?_pos a _ (by lia);have h1:=ih (by lia) fun r p q hr1 hr2=>hq r p q (by lia) hr2;have e:m - k=m - (k+1)+1:=by lia
  rw[r9 (by lia) hm hp];rw[e] at h1;have h2:=h1.pushA ha hb hp hn hnb (fun q hq'=>hq _ _ q (qai _) (by lia) hp hq');rw[<-e] at h2;exact h2
def HI.moveB(h:HI C a b ou m n)(ha:LS C a.toList)(hb:LS C b.toList)(hn:n<=b.size)(hm:1<=m)(hma:m<=a.size):∀k,k<=n->(∀r p q,n - k<=r->r<n->b[r]?=some p->a[m - 1]?=some q->O.kle (C.key q) (C.key p)) ->
  HI C a b (ou++(b.extract (n - k) n).reverse) m (n - k):=by
 intro k
 induction k with
 | zero =>
  intro _ _;have e:ou++(b.extract (n - 0) n).reverse=ou:=by apply qaV.mp;simp[qaI]
  rw[e];exact h
 | succ k ih =>
  intro hk hq;have hp:b[n - (k+1)]?=some (b[n - (k+1)]'(by lia)):=getElem?_pos b _ (by lia);have h1:=ih (by lia) fun r p q hr1 hr2=>hq r p q (by lia) hr2;have e:n - k=n - (k+1)+1:=by lia
  rw[r9 (by lia) hn hp];rw[e] at h1;have h2:=h1.pushB ha hb hp hm hma (fun q hq'=>hq _ _ q (qai _) (by lia) hp hq');rw[<-e] at h2;exact h2
def ip{xs:Array Keyed}{i:Nat}:(xs.extract 0 i).toList=xs.toList.take i:=by
 rw[qbD,qaI];simp
def HI.all(h:HI C a b ou m n)(ha:LS C a.toList)(hb:LS C b.toList)(hz:m=0\/n=0):MR C a b (a.extract 0 m++b.extract 0 n++ou.reverse):=by
 have e:(a.extract 0 m++b.extract 0 n++ou.reverse).toList=a.toList.take m++b.toList.take n++ou.toList.reverse:=by
  rw[qaS,qaS,ip,ip,qbU]
 unfold MR;rw[e];refine⟨h.perm,cB ?_ h.srt h.hgh⟩;rcases hz with rfl|rfl
 ·simpa using jt hb n
 ·simpa using jt ha m
def HI.one(h:HI C a b ou m n)(T:Two C a b)(hz:n=1):MR C a b (b.extract 0 n++a.extract 0 m++ou.reverse):=by
 subst hz;have e:(b.extract 0 1++a.extract 0 m++ou.reverse).toList=b.toList.take 1++a.toList.take m++ou.toList.reverse:=by
  rw[qaS,qaS,ip,ip,qbU]
 unfold MR;rw[e];have hnb:=T.nb;have hna:=T.na;have hp:b[0]?=some (b[0]'(by lia)):=getElem?_pos b 0 (by lia);have hq:a[0]?=some (a[0]'(by lia)):=getElem?_pos a 0 (by lia);have hd:=mf hp;refine⟨(List.Perm.append_right _ qcz).trans h.perm,cB (cB (jt T.sb 1) (jt T.sa m) ?_) h.srt ?_⟩
 ·intro x hx y hy;have hx':x=b[0]'(by lia):=by
   have:x∈b.toList.take (0+1):=hx
   rw[hd] at this;simpa using this
  subst hx';refine KeyOrd.kle_trans (T.fst _ _ hp hq) (jA T.sa hq y ?_);rw[List.drop_zero];exact List.mem_of_mem_take hy
 ·intro x hx y hy;exact h.hgh x (qap.mpr (qap.mp hx).symm) y hy
end
abbrev HS:=Option (Array Keyed) × Nat × Nat × Array Keyed × Nat × Nat × Nat
def hiT3(a b ou:Array Keyed)(m n g ca cb:Nat):StateT SortSt Sem (ForInStep HS):=do
 let x <-elem' a (m - 1)
 if (m - 1 == 0)=true then pure (ForInStep.done (some (a.extract 0 (m - 1)++b.extract 0 n++(ou.push x).reverse),m - 1,n,ou.push x,g,ca,cb))
 else if (decide (ca<7) && decide (cb<7))=true then pure (ForInStep.done (none,m - 1,n,ou.push x,g,ca,cb))
 else pure (ForInStep.yield (none,m - 1,n,ou.push x,g,ca,cb))
def hiT2(a b ou:Array Keyed)(m n g ca cb:Nat):StateT SortSt Sem (ForInStep HS):=do
 let x <-elem' b (n - 1)
 if (n - 1 == 1)=true then pure (ForInStep.done (some (b.extract 0 (n - 1)++a.extract 0 m++(ou.push x).reverse),m,n - 1,ou.push x,g,ca,cb))
 else do
  let y <-elem' a (m - 1)
  let q <-gallop' true y b 0 (n - 1) (n - 1 - 1)
  match q with
  | some z =>
   if n - 1 - z>0 then
    if (z == 1)=true then
     pure (ForInStep.done (some (b.extract 0 z++a.extract 0 m++(ou.push x++(b.extract z (n - 1)).reverse).reverse),m,z,ou.push x++(b.extract z (n - 1)).reverse,g,ca,n - 1 - z))
    else if (z == 0)=true then
     pure (ForInStep.done (some (a.extract 0 m++b.extract 0 z++(ou.push x++(b.extract z (n - 1)).reverse).reverse),m,z,ou.push x++(b.extract z (n - 1)).reverse,g,ca,n - 1 - z))
    else hiT3 a b (ou.push x++(b.extract z (n - 1)).reverse) m z g ca (n - 1 - z)
   else hiT3 a b (ou.push x) m (n - 1) g ca (n - 1 - z)
  | _=>pure (ForInStep.done (some (a.extract 0 m++b.extract 0 (n - 1)++(ou.push x).reverse),m,n - 1,ou.push x,g,ca,cb))
def hiT1(a b ou:Array Keyed)(m n g ca cb:Nat):StateT SortSt Sem (ForInStep HS):=do
 kw g
 let x <-elem' b (n - 1)
 let q <-gallop' false x a 0 m (m - 1)
 match q with
 | some z =>
  if m - z>0 then
   if (z == 0)=true then
    pure (ForInStep.done (some (a.extract 0 z++b.extract 0 n++(ou++(a.extract z m).reverse).reverse),z,n,ou++(a.extract z m).reverse,g,m - z,cb))
   else hiT2 a b (ou++(a.extract z m).reverse) z n g (m - z) cb
  else hiT2 a b ou m n g (m - z) cb
 | _=>pure (ForInStep.done (some (a.extract 0 m++b.extract 0 n++ou.reverse),m,n,ou,g,ca,cb))
abbrev HB:=Option (Array Keyed) × Nat × Nat × Array Keyed × Nat × Nat
abbrev HC:=Option (Array Keyed) × Nat × Nat × Array Keyed × Nat
def hiP(a b:Array Keyed)(g:Nat)(c:HB):StateT SortSt Sem (ForInStep HB):=do
 let x <-elem' b (c.2.2.1 - 1)
 let y <-elem' a (c.2.1 - 1)
 let q <-lt' x y
 match q with
 | some q =>
  if q=true then do
   let z <-elem' a (c.2.1 - 1)
   if (c.2.1 - 1 == 0)=true then pure (ForInStep.done (some (a.extract 0 (c.2.1 - 1)++b.extract 0 c.2.2.1++(c.2.2.2.1.push z).reverse),c.2.1 - 1,c.2.2.1,c.2.2.2.1.push z,c.2.2.2.2.1+1,0))
   else if c.2.2.2.2.1+1>=g then pure (ForInStep.done (none,c.2.1 - 1,c.2.2.1,c.2.2.2.1.push z,c.2.2.2.2.1+1,0))
   else pure (ForInStep.yield (none,c.2.1 - 1,c.2.2.1,c.2.2.2.1.push z,c.2.2.2.2.1+1,0))
  else do
   let z <-elem' b (c.2.2.1 - 1)
   if (c.2.2.1 - 1 == 1)=true then pure (ForInStep.done (some (b.extract 0 (c.2.2.1 - 1)++a.extract 0 c.2.1++(c.2.2.2.1.push z).reverse),c.2.1,c.2.2.1 - 1,c.2.2.2.1.push z,0,c.2.2.2.2.2+1))
   else if c.2.2.2.2.2+1>=g then pure (ForInStep.done (none,c.2.1,c.2.2.1 - 1,c.2.2.2.1.push z,0,c.2.2.2.2.2+1))
   else pure (ForInStep.yield (none,c.2.1,c.2.2.1 - 1,c.2.2.2.1.push z,0,c.2.2.2.2.2+1))
 | _=>pure (ForInStep.done (some (a.extract 0 c.2.1++b.extract 0 c.2.2.1++c.2.2.2.1.reverse),c.2.1,c.2.2.1,c.2.2.2.1,c.2.2.2.2.1,c.2.2.2.2.2))
def hiG(a b:Array Keyed)(c:HS):StateT SortSt Sem (ForInStep HS) :=
 if c.2.2.2.2.1>1 then hiT1 a b c.2.2.2.1 c.2.1 c.2.2.1 (c.2.2.2.2.1 - 1) c.2.2.2.2.2.1 c.2.2.2.2.2.2
 else hiT1 a b c.2.2.2.1 c.2.1 c.2.2.1 c.2.2.2.2.1 c.2.2.2.2.2.1 c.2.2.2.2.2.2
def hiE(c:HS):StateT SortSt Sem (ForInStep HC) :=
 match c.1 with
 | some r=>pure (ForInStep.done (some r,c.2.1,c.2.2.1,c.2.2.2.1,c.2.2.2.2.1))
 | none=>do
  kw (c.2.2.2.2.1+1)
  pure (ForInStep.yield (none,c.2.1,c.2.2.1,c.2.2.2.1,c.2.2.2.2.1+1))
def hiD(a b:Array Keyed)(g:Nat)(c:HB):StateT SortSt Sem (ForInStep HC) :=
 match c.1 with
 | some r=>pure (ForInStep.done (some r,c.2.1,c.2.2.1,c.2.2.2.1,g))
 | none=>do
  liftM (rule "list.sort.gallop")
  let e <-forIn [:a.size+b.size] ((none,c.2.1,c.2.2.1,c.2.2.2.1,g+1,c.2.2.2.2.1,c.2.2.2.2.2):HS) fun _ e=>hiG a b e
  hiE e
def hiO(a b:Array Keyed)(c:HC):StateT SortSt Sem (ForInStep HC):=do
 let d <-forIn [:a.size+b.size] ((none,c.2.1,c.2.2.1,c.2.2.2.1,0,0):HB) fun _ d=>hiP a b c.2.2.2.2 d
 hiD a b c.2.2.2.2 d
def hiZ(a b:Array Keyed)(x:Keyed):StateT SortSt Sem (Array Keyed):=do
 let g <-get
 let r <-forIn [:a.size+b.size] ((none,a.size - 1,b.size,#[x],gallopOf g):HC) fun _ c=>hiO a b c
 match r.1 with
 | some r=>pure r
 | none=>liftM (unsupported "internal:list.sort.merge-bound":Sem (Array Keyed))
def hi_n(a b:Array Keyed):kx a b=(do
 liftM (rule "list.sort.merge-hi")
 let x <-elem' a (a.size - 1)
 if (a.size - 1 == 0)=true then pure (a.extract 0 (a.size - 1)++b.extract++#[x].reverse)
 else if (b.size == 1)=true then pure (b.extract++a.extract 0 (a.size - 1)++#[x].reverse)
 else hiZ a b x):=by
 rw[uj];dsimp only;refine congrArg (Bind.bind _) (funext fun _=>congrArg (Bind.bind _) (funext fun x=>congrArg (fun z=>ite _ _ (ite _ _ z)) ?_));unfold hiZ;have e:∀{α β:Type} {x y:StateT SortSt Sem α} {f h:α->StateT SortSt Sem β},x=y->(∀a,f a=h a)->(x >>= f)=(y >>= h):=fun e f=>by rw[e,funext f]
 refine congrArg (Bind.bind _) (funext fun g=>e (congrArg (forIn _ _) (funext fun _=>funext fun c=>?_)) fun ⟨r,_⟩=>by cases r <;> rfl);refine e rfl fun d=>?_;obtain⟨d1,d2⟩:=d
 cases d1 with
 | some r=>rfl
 | none=>exact congrArg (Bind.bind _) (funext fun _=>e rfl fun ⟨r,_⟩=>by cases r <;> rfl)
section
variable {prog:Program} {w:World} {A:Around} {E:Value→Shared→Prop} {s:Shared} {kd:SortKind} {O:KeyOrd} {C:Cmp prog w A E s kd O} {st:SortSt} {a b:Array Keyed}
def LIh(C:Cmp prog w A E s kd O)(a b:Array Keyed)(N:Nat)(c:HS):Prop :=
 c.1=none/\HI C a b c.2.2.2.1 c.2.1 c.2.2.1/\1<=c.2.1/\c.2.1<=a.size/\2<=c.2.2.1/\c.2.2.1<=b.size/\N<=c.2.2.2.1.size
def oQ(C:Cmp prog w A E s kd O)(a b:Array Keyed)(N:Nat)(st:SortSt)(r:ForInStep HS)(st':SortSt):Prop:=Eqv st st'/\match r with
 | .done c=>(∃x,c.1=some x/\MR C a b x)\/LIh C a b N c
 | .yield c=>LIh C a b N c
def ve(T:Two C a b)(h:HI C a b ou m n)(hm:1<=m)(hma:m<=a.size)(hn:2<=n)(hnb:n<=b.size)(hN:N<=ou.size)
  (hle:∀p q,b[n - 1]?=some p->a[m - 1]?=some q->O.kle (C.key p) (C.key q)):wpS (model prog w) A E s (hiT3 a b ou m n g ca cb) (oQ C a b N st) st:=by
 unfold hiT3;refine wpS_bind (bc (by lia) fun x hx=>?_);have e:m=m - 1+1:=by lia
 have h1:HI C a b (ou.push x) (m - 1) n:=by
  have h':=h;rw[e] at h';exact h'.pushA T.sa T.sb hx (by lia) hnb (fun q hq=>hle q x hq hx)
 have hsz:(ou.push x).size=ou.size+1:=qbp ..;by_cases z1:m - 1=0
 ·rw[qae (by simpa using z1)];exact wpS_pure ⟨Eqv.rfl',.inl ⟨_,rfl,h1.all T.sa T.sb (.inl z1)⟩⟩
 ·rw[qao (by simpa using z1)];have li:LIh C a b N (none,m - 1,n,ou.push x,g,ca,cb):=⟨rfl,h1,by show 1<=m - 1;lia,by show m - 1<=a.size;lia,hn,hnb,by show N<=(ou.push x).size;lia⟩;split
  ·exact wpS_pure ⟨Eqv.rfl',.inr li⟩
  ·exact wpS_pure ⟨Eqv.rfl',li⟩
def uC(T:Two C a b)(hk:kindOf st=kd)(h:HI C a b ou m n)(hm:1<=m)(hma:m<=a.size)(hn:2<=n)(hnb:n<=b.size)(hN:N<=ou.size)
  (hle:∀p q,a[m - 1]?=some p->b[n - 1]?=some q->O.kle (C.key p) (C.key q)):wpS (model prog w) A E s (hiT2 a b ou m n g ca cb) (oQ C a b N st) st:=by
 unfold hiT2;refine wpS_bind (bc (by lia) fun x hx=>?_);have e:n=n - 1+1:=by lia
 have h1:HI C a b (ou.push x) m (n - 1):=by
  have h':=h;rw[e] at h';exact h'.pushB T.sa T.sb hx hm hma (fun q hq=>hle q x hq hx)
 have hsz:(ou.push x).size=ou.size+1:=qbp ..;by_cases z1:n - 1=1
 ·rw[qae (by simpa using z1)];exact wpS_pure ⟨Eqv.rfl',.inl ⟨_,rfl,h1.one T z1⟩⟩
 ·rw[qao (by simpa using z1)];refine wpS_bind (bc (by lia) fun y hy=>?_);refine wpS_bind (eI (C:=C) hk T.gb (bD T.ga hy) (by lia) (by lia) ?_ fun z hz hlo hhi=>?_)
  ·intro p q hp hpq hq;exact kT T.sb p q (qaP _) hpq (by lia)
  ·have hlo':∀r p q,r<z->b[r]?=some p->a[m - 1]?=some q->O.kle (C.key p) (C.key q):=fun r p q hr hp hq=>by
    have:=hlo r hr
    unfold ahead at this;rw[qbk,aZ hp] at this;rw[hy] at hq;cases hq;exact KeyOrd.kle_of_klt this
   have hhi':∀r p q,z<=r->r<n - 1->b[r]?=some p->a[m - 1]?=some q->O.kle (C.key q) (C.key p):=fun r p q hr1 hr2 hp hq=>by
    have:=hhi r hr1 hr2
    unfold ahead at this;rw[qbk,aZ hp] at this;rw[hy] at hq;cases hq;exact this
   dsimp only;by_cases hk0:n - 1 - z>0
   ·rw[qae hk0];have ez:n - 1 - (n - 1 - z)=z:=by lia
    have h2:=h1.moveB T.sa T.sb (by lia) hm hma (n - 1 - z) (by lia) (fun r p q hr1 hr2=>hhi' r p q (by lia) hr2);rw[ez] at h2;by_cases z2:z=1
    ·rw[qae (by simpa using z2)];exact wpS_pure ⟨Eqv.rfl',.inl ⟨_,rfl,h2.one T z2⟩⟩
    ·rw[qao (by simpa using z2)];by_cases z3:z=0
     ·rw[qae (by simpa using z3)];exact wpS_pure ⟨Eqv.rfl',.inl ⟨_,rfl,h2.all T.sa T.sb (.inr z3)⟩⟩
     ·rw[qao (by simpa using z3)];exact ve T h2 hm hma (by lia) (by lia) (by rw[qbP];lia) (fun p q hp hq=>hlo' (z - 1) p q (by lia) hp hq)
   ·rw[qao hk0];exact ve T h1 hm hma (by lia) (by lia) (by lia) (fun p q hp hq=>hlo' (n - 1 - 1) p q (by lia) hp hq)
def vy(T:Two C a b)(hk:kindOf st=kd)(h:HI C a b ou m n)(hm:1<=m)(hma:m<=a.size)(hn:2<=n)(hnb:n<=b.size)(hN:N<=ou.size) :
  wpS (model prog w) A E s (hiT1 a b ou m n g ca cb) (oQ C a b N st) st:=by
 unfold hiT1;rw[lS];refine wpS_bind (wpS_modify ?_);have ev:Eqv st (SortSt.mk' (kindOf st) (arrOf st) (pendingOf st) g (failedOf st)):=⟨rfl,rfl,rfl,rfl⟩;refine wpS_mono (Q:=oQ C a b N (SortSt.mk' (kindOf st) (arrOf st) (pendingOf st) g (failedOf st))) ?_ fun r st' h=>⟨ev.trans h.1,h.2⟩;have hk':kindOf (SortSt.mk' (kindOf st) (arrOf st) (pendingOf st) g (failedOf st))=kd:=hk;refine wpS_bind (bc (by lia) fun x hx=>?_);refine wpS_bind (eI (C:=C) hk' T.ga (bD T.gb hx) (by lia) (by lia) ?_ fun z hz hlo hhi=>?_)
 ·intro p q hp hpq hq;exact kT T.sa p q (qaP _) hpq (by lia)
 ·have hlo':∀r p q,r<z->a[r]?=some p->b[n - 1]?=some q->O.kle (C.key p) (C.key q):=fun r p q hr hp hq=>by
   have:=hlo r hr
   unfold ahead at this;rw[qbk,aZ hp] at this;rw[hx] at hq;cases hq;simp only[qag,if_false,qbB] at this;exact this
  have hhi':∀r p q,z<=r->r<m->a[r]?=some p->b[n - 1]?=some q->O.kle (C.key q) (C.key p):=fun r p q hr1 hr2 hp hq=>by
   have:=hhi r hr1 hr2
   unfold ahead at this;rw[qbk,aZ hp] at this;rw[hx] at hq;cases hq;simp only[qag,if_false,qcd] at this;exact KeyOrd.kle_of_klt this
  dsimp only;by_cases hk0:m - z>0
  ·rw[qae hk0];have ez:m - (m - z)=z:=by lia
   have h2:=h.moveA T.sa T.sb hma (by lia) hnb (m - z) (by lia) (fun r p q hr1 hr2=>hhi' r p q (by lia) hr2);rw[ez] at h2;by_cases z2:z=0
   ·rw[qae (by simpa using z2)];exact wpS_pure ⟨Eqv.rfl',.inl ⟨_,rfl,h2.all T.sa T.sb (.inl z2)⟩⟩
   ·rw[qao (by simpa using z2)];exact uC T hk' h2 (by lia) (by lia) hn hnb (by rw[qbP];lia) (fun p q hp hq=>hlo' (z - 1) p q (by lia) hp hq)
  ·rw[qao hk0];exact uC T hk' h hm hma hn hnb hN (fun p q hp hq=>hlo' (m - 1) p q (by lia) hp hq)
def L1h(C:Cmp prog w A E s kd O)(a b:Array Keyed)(N:Nat)(c:HB):Prop :=
 c.1=none/\HI C a b c.2.2.2.1 c.2.1 c.2.2.1/\1<=c.2.1/\c.2.1<=a.size/\2<=c.2.2.1/\c.2.2.1<=b.size/\N<=c.2.2.2.1.size
def L0h(C:Cmp prog w A E s kd O)(a b:Array Keyed)(N:Nat)(c:HC):Prop :=
 c.1=none/\HI C a b c.2.2.2.1 c.2.1 c.2.2.1/\1<=c.2.1/\c.2.1<=a.size/\2<=c.2.2.1/\c.2.2.1<=b.size/\N<=c.2.2.2.1.size
def Step1(C:Cmp prog w A E s kd O)(a b:Array Keyed)(N:Nat)(st:SortSt)(r:ForInStep HB)(st':SortSt):Prop:=match r with
 | .done c=>st'=st/\((∃x,c.1=some x/\MR C a b x)\/L1h C a b N c)
 | .yield c=>st'=st/\L1h C a b N c
def vY(C:Cmp prog w A E s kd O)(a b:Array Keyed)(N:Nat)(st:SortSt)(r:ForInStep HC)(st':SortSt):Prop:=match r with
 | .done c=>Eqv st st'/\∃x,c.1=some x/\MR C a b x
 | .yield c=>Eqv st st'/\L0h C a b N c
def hiP_ok(T:Two C a b)(hk':kindOf st=kd)(hI':HI C a b ou' m' n')(hm':1<=m')(hma':m'<=a.size)(hn':2<=n')(hnb2:n'<=b.size)(hN:N<=ou'.size) :
  wpS (model prog w) A E s (hiP a b g (none,m',n',ou',ca,cb)) (Step1 C a b (N+1) st) st:=by
 unfold hiP;dsimp only;refine wpS_bind (bc (by lia) fun p hp=>wpS_bind (bc (by lia) fun q hq=>?_));refine wpS_bind (C.ask p q st _ (bD T.gb hp) (bD T.ga hq) hk' ?_)
 cases hz:O.blt (C.key p) (C.key q) with
 | true =>
  dsimp only;rw[qae rfl];refine wpS_bind (bc (by lia) fun q' hq'=>?_);rw[hq] at hq';cases hq';have em:m'=m' - 1+1:=by lia
  have h2:HI C a b (ou'.push q) (m' - 1) n':=by
   have h':=hI';rw[em] at h';exact h'.pushA T.sa T.sb hq (by lia) hnb2 (fun p' hp'=>by rw[hp] at hp';cases hp';exact KeyOrd.kle_of_klt hz)
  have hs2:(ou'.push q).size=ou'.size+1:=qbp ..;by_cases z3:m' - 1=0
  ·rw[qae (by simpa using z3)];exact wpS_pure ⟨rfl,.inl ⟨_,rfl,h2.all T.sa T.sb (.inl z3)⟩⟩
  ·rw[qao (by simpa using z3)];split
   ·exact wpS_pure ⟨rfl,.inr ⟨rfl,h2,by lia,by lia,hn',hnb2,by rw[hs2];lia⟩⟩
   ·exact wpS_pure ⟨rfl,rfl,h2,by lia,by lia,hn',hnb2,by rw[hs2];lia⟩
 | false =>
  dsimp only;rw[qao (by simp)];refine wpS_bind (bc (by lia) fun p' hp'=>?_);rw[hp] at hp';cases hp';have en:n'=n' - 1+1:=by lia
  have h2:HI C a b (ou'.push p) m' (n' - 1):=by
   have h':=hI';rw[en] at h';exact h'.pushB T.sa T.sb hp hm' hma' (fun q' hq'=>by rw[hq] at hq';cases hq';exact hz)
  have hs2:(ou'.push p).size=ou'.size+1:=qbp ..;by_cases z3:n' - 1=1
  ·rw[qae (by simpa using z3)];exact wpS_pure ⟨rfl,.inl ⟨_,rfl,h2.one T z3⟩⟩
  ·rw[qao (by simpa using z3)];split
   ·exact wpS_pure ⟨rfl,.inr ⟨rfl,h2,hm',hma',by lia,by lia,by rw[hs2];lia⟩⟩
   ·exact wpS_pure ⟨rfl,rfl,h2,hm',hma',by lia,by lia,by rw[hs2];lia⟩
def hiE_ok(ev:Eqv st0 st)(hc:(∃x,c.1=some x/\MR C a b x)\/LIh C a b N c):wpS (model prog w) A E s (hiE c) (vY C a b N st0) st:=by
 obtain⟨c1,m3,n3,ou3,g3,ca3,cb3⟩:=c;rcases hc with ⟨r,hr,mr⟩|⟨hc,hr⟩
 ·cases hr;exact wpS_pure ⟨ev,r,rfl,mr⟩
 ·cases hc;unfold hiE;dsimp only;rw[lS];exact wpS_bind (wpS_modify (wpS_pure ⟨ev.trans ⟨rfl,rfl,rfl,rfl⟩,rfl,hr⟩))
def hiG_ok(T:Two C a b)(hk:kindOf st=kd)(h:LIh C a b N c):wpS (model prog w) A E s (hiG a b c) (oQ C a b N st) st:=by
 obtain⟨_,i3,hm3,hma3,hn3,hnb3,hN3⟩:=h;unfold hiG;split
 ·exact vy T hk i3 hm3 hma3 hn3 hnb3 hN3
 ·exact vy T hk i3 hm3 hma3 hn3 hnb3 hN3
def hiD_ok(T:Two C a b)(hk:kindOf st=kd)(ev:Eqv st0 st)(hc:(∃x,c.1=some x/\MR C a b x)\/L1h C a b N c):wpS (model prog w) A E s (hiD a b g c) (vY C a b N st0) st:=by
 obtain⟨c1,m',n',ou',ca,cb⟩:=c;rcases hc with ⟨r,hr,mr⟩|⟨hc,hr⟩
 ·cases hr;exact wpS_pure ⟨ev,r,rfl,mr⟩
 ·cases hc;unfold hiD;dsimp only;refine wpS_bind (wpS_lift (wpAny_rule ⟨rfl,?_⟩));refine wpS_bind (wpS_mono (wpS_forRange (I:=fun y c st3=>Eqv st st3/\LIh C a b N c) (Q:=fun c st3=>Eqv st st3/\((∃x,c.1=some x/\MR C a b x)\/LIh C a b N c)) ?_ ?_ ⟨Eqv.rfl',rfl,hr⟩) ?_)
  ·rintro y c st3 _ hy ⟨ev3,h3⟩;refine wpS_mono (hiG_ok T (ev3.kind.trans hk) h3) fun r st4 hr=>?_
   cases r with
   | done c'=>exact⟨ev3.trans hr.1,hr.2⟩
   | yield c'=>exact⟨ev3.trans hr.1,hr.2⟩
  ·rintro c st3 ⟨ev3,hli⟩;exact⟨ev3,.inr hli⟩
  ·rintro c st3 ⟨ev3,hc⟩;exact hiE_ok (ev.trans ev3) hc
def hiO_ok(T:Two C a b)(hk:kindOf st=kd)(h:L0h C a b N c):wpS (model prog w) A E s (hiO a b c) (vY C a b (N+1) st) st:=by
 obtain⟨c1,m,n,ou,g⟩:=c;obtain⟨hc,hI,hm,hma,hn,hnb',hsz⟩:=h;cases hc;unfold hiO
 refine wpS_bind (wpS_mono (wpS_forRange (I:=fun y c st''=>st''=st/\L1h C a b (N+y) c)
  (Q:=fun c st''=>st''=st/\((∃x,c.1=some x/\MR C a b x)\/L1h C a b (N+1) c)) ?_ ?_ ⟨rfl,rfl,hI,hm,hma,hn,hnb',hsz⟩) ?_)
 ·rintro y c st'' _ hy ⟨rfl,h1⟩;obtain⟨c1,m',n',ou',ca,cb⟩:=c;obtain⟨hc,hI',hm',hma',hn',hnb2,hsz'⟩:=h1;cases hc;refine wpS_mono (hiP_ok T hk hI' hm' hma' hn' hnb2 hsz') fun r st4 hr=>?_
  cases r with
  | done c'=>exact⟨hr.1,hr.2.imp_right fun h=>⟨h.1,h.2.1,h.2.2.1,h.2.2.2.1,h.2.2.2.2.1,h.2.2.2.2.2.1,qax (by lia) h.2.2.2.2.2.2⟩⟩
  | yield c'=>exact hr
 ·rintro c st'' ⟨rfl,h⟩
  have:=T.na
  exact⟨rfl,.inr ⟨h.1,h.2.1,h.2.2.1,h.2.2.2.1,h.2.2.2.2.1,h.2.2.2.2.2.1,qax (by lia) h.2.2.2.2.2.2⟩⟩
 ·rintro c st'' ⟨rfl,hc⟩;exact hiD_ok T hk Eqv.rfl' hc
def hiZ_ok(T:Two C a b)(hk:kindOf st=kd)(h1:HI C a b #[x0] (a.size - 1) b.size)(hm:1<=a.size - 1)(hn:2<=b.size)(h:∀x st',Eqv st st'->MR C a b x->Q x st'):wpS (model prog w) A E s (hiZ a b x0) Q st:=by
 unfold hiZ;refine wpS_bind (wpS_get ?_)
 refine wpS_bind (wpS_mono (wpS_forRange (I:=fun x c st'=>Eqv st st'/\L0h C a b (x+1) c)
  (Q:=fun c st'=>Eqv st st'/\∃x,c.1=some x/\MR C a b x) ?_ ?_ ⟨Eqv.rfl',rfl,h1,hm,Nat.sub_le _ _,hn,qai _,qai _⟩) ?_)
 ·rintro x c st' _ hx ⟨ev,h0⟩;refine wpS_mono (hiO_ok T (ev.kind.trans hk) h0) fun r st4 hr=>?_
  cases r with
  | done c'=>exact⟨ev.trans hr.1,hr.2⟩
  | yield c'=>exact⟨ev.trans hr.1,hr.2⟩
 ·rintro c st' ⟨ev,h0⟩;exfalso
  have:=h0.2.1.size h0.2.2.2.1 h0.2.2.2.2.2.1
  have:=h0.2.2.2.2.2.2
  lia
 ·rintro c st' ⟨ev,r,hr,mr⟩;obtain⟨c1,c2⟩:=c;cases hr;exact wpS_pure (h r st' ev mr)
def wps_hi(T:Two C a b)(hk:kindOf st=kd)(h:∀x st',Eqv st st'->MR C a b x->Q x st'):wpS (model prog w) A E s (kx a b) Q st:=by
 rw[hi_n];refine wpS_bind (wpS_lift (wpAny_rule ⟨rfl,?_⟩));have hna:=T.na;have hnb:=T.nb;refine wpS_bind (bc (by lia) fun x0 hx0=>?_)
 have h0:HI C a b #[] a.size b.size:=⟨by
   have e1:a.toList.take a.size=a.toList:=qbN (by simp);have e2:b.toList.take b.size=b.toList:=qbN (by simp)
   rw[e1,e2];simp,by unfold LS;simp,fun x _ y hy=>by simp at hy⟩
 have h1:HI C a b #[x0] (a.size - 1) b.size:=by
  have e:a.size=a.size - 1+1:=by lia
  have h':HI C a b #[] (a.size - 1+1) b.size:=by rw[<-e];exact h0
  have:=h'.pushA T.sa T.sb hx0 hnb (qai _) (fun q hq=>T.lst q x0 (qaX.mpr ⟨_,by rw[qaD];exact hq⟩) hx0)
  simpa using this
 by_cases z1:a.size - 1=0
 ·rw[qae (by simpa using z1)];exact wpS_pure (h _ st Eqv.rfl' (h1.all T.sa T.sb (.inl z1)))
 ·rw[qao (by simpa using z1)];by_cases z2:b.size=1
  ·rw[qae (by simpa using z2)];exact wpS_pure (h _ st Eqv.rfl' (h1.one T z2))
  ·rw[qao (by simpa using z2)];exact hiZ_ok T hk h1 (by lia) (by lia) h
end
def uk(i:Nat):mergeAt' i=(do
 let c <-get
 let (some (sa,na,pw),some (sb,nb,_)):=((pendingOf c)[i]?,(pendingOf c)[i+1]?)|unsupported "internal:list.sort.pending"
 set (setPending c (((pendingOf c).setIfInBounds i (sa,na+nb,pw)).eraseIdxIfInBounds (i+1)))
 let some k <-gallop' false (<-elem' (arrOf c) sb) (arrOf c) sa na 0|return false
 let (sa,na):=(sa+k,na - k)
 if na == 0 then return true
 let some nb <-gallop' true (<-elem' (arrOf c) (sa+na - 1)) (arrOf c) sb nb (nb - 1)|return false
 if nb == 0 then return true
 let x:=(arrOf c).extract sa sb
 let y:=(arrOf c).extract sb (sb+nb)
 let ou <-if na<=nb then jO x y else kx x y
 modify fun c=>setArr c (ou.toList.zipIdx.foldl (fun a (p,j)=>a.setIfInBounds (sa+j) p) (arrOf c))
 return (failedOf (<-get)).isNone):=rfl
def lay_get(off:Nat):∀(l:List Keyed) (q:Nat) (xs:Array Keyed) (i:Nat),((l.zipIdx q).foldl (fun a (p:Keyed × Nat)=>a.setIfInBounds (off+p.2) p.1) xs)[i]? =
  if off+q<=i/\i<off+q+l.length/\i<xs.size then l[i - (off+q)]? else xs[i]?:=by
 intro l
 induction l with
 | nil=>intro q xs i;rw[qao (by simp;lia)];rfl
 | cons p l ih =>
  intro q xs i;rw[qcr,List.foldl_cons,ih];simp only[Array.size_setIfInBounds,qbd];by_cases h1:off+q=i
  ·subst h1;rw[qao (by lia),qbV];by_cases h2:off+q<xs.size
   ·have h3:off+q<=off+q/\off+q<off+q+(l.length+1)/\off+q<xs.size:=⟨by lia,by lia,h2⟩;simp[h2,h3]
   ·have h3:¬(off+q<=off+q/\off+q<off+q+(l.length+1)/\off+q<xs.size):=fun z=>h2 z.2.2;rw[qao h3];simp[h2]
  ·by_cases h2:off+(q+1)<=i/\i<off+(q+1)+l.length/\i<xs.size
   ·rw[qae h2,qae (by lia)];obtain⟨d,hd⟩:∃d,i - (off+q)=d+1:=⟨i - (off+q) - 1,by lia⟩;have hd2:i - (off+(q+1))=d:=by lia
    rw[hd,hd2,qbL]
   ·rw[qao h2,qbV,qao h1];by_cases h3:off+q<=i/\i<off+q+(l.length+1)/\i<xs.size
    ·exfalso;lia
    ·rw[qao h3]
def y9{xs ou:Array Keyed}{off:Nat}(h:off+ou.size<=xs.size) :
  (ou.toList.zipIdx.foldl (fun a (p:Keyed × Nat)=>a.setIfInBounds (off+p.2) p.1) xs).toList=xs.toList.take off++(ou.toList++xs.toList.drop (off+ou.size)):=by
 apply List.ext_getElem?;intro i;rw[qaD,lay_get];have hl:(xs.toList.take off).length=off:=by simp;lia
 by_cases h1:i<off
 ·rw[qao (by lia),qak (by lia),qbH h1,qaD]
 ·rw[qaw (by lia),hl];by_cases h2:i<off+ou.size
  ·rw[qae ⟨by lia,by simpa using h2,by lia⟩,qak (by simp;lia)];congr 1
  ·rw[qao (by simp;lia),qaw (by simp;lia),qcc,qaD];congr 1;simp;lia
section
variable {prog:Program} {w:World} {A:Around} {E:Value→Shared→Prop} {s:Shared} {kd:SortKind} {O:KeyOrd} {C:Cmp prog w A E s kd O} {a₀:Array Keyed} {st:SortSt}
def iz{xs:Array Keyed}{lo hi i j:Nat}(h:Srt C xs lo hi)(hi':lo<=i)(hij:i<=j)(hj:j<hi){p q:Keyed}(hp:xs[i]?=some p)(hq:xs[j]?=some q):O.kle (C.key p) (C.key q):=by
 have:=h i j hi' hij hj
 rw[aZ hp,aZ hq] at this;exact this
def vp{xs:Array Keyed}{lo hi:Nat}{p:Keyed}(hhi:hi<=xs.size)(h:p∈(xs.extract lo hi).toList):∃i,lo<=i/\i<hi/\xs[i]?=some p:=by
 obtain⟨q,hq⟩:=qaX.mp h;rw[qaD,qbO] at hq
 split at hq
 ·rename_i h1
  exact⟨lo+q,by lia,by lia,hq⟩
 ·cases hq
def split3{xs:Array Keyed}{i j k:Nat}(h1:i<=j)(h2:j<=k)(h3:k<=xs.size):xs.toList=xs.toList.take i++((xs.extract i j).toList++(xs.extract j k).toList++xs.toList.drop k):=by
 have e1:(xs.extract i j).toList=(xs.toList.drop i).take (j - i):=by simp[qaI]
 have e2:(xs.extract j k).toList=(xs.toList.drop j).take (k - j):=by simp[qaI]
 rw[e1,e2];have a1:(xs.toList.drop j).take (k - j)++xs.toList.drop k=xs.toList.drop j:=by
  have:=qbS (k - j) (xs.toList.drop j)
  rw[List.drop_drop] at this;have e:j+(k - j)=k:=by lia
  rw[e] at this;exact this
 have a2:(xs.toList.drop i).take (j - i)++xs.toList.drop j=xs.toList.drop i:=by
  have:=qbS (j - i) (xs.toList.drop i)
  rw[List.drop_drop] at this;have e:i+(j - i)=j:=by lia
  rw[e] at this;exact this
 rw[qaH,a1,a2,qbS]
def um{n1 pw:Nat}{Q:Bool->SortSt->Prop}(h0:cR C a₀)(hB:SB kd a₀ st)(h1:1<=n1)(h2:n1<a₀.size)(hp:pendingOf st=#[(0,n1,pw),(n1,a₀.size - n1,0)])
  (hs1:Srt C (arrOf st) 0 n1) (hs2:Srt C (arrOf st) n1 a₀.size)
  (h:∀st',SB kd a₀ st'->(pendingOf st').size=1->Srt C (arrOf st') 0 a₀.size->Q true st'):wpS (model prog w) A E s (mergeAt' 0) Q st:=by
 have hsz:=hB.size;have hg:=hB.good h0;rw[uk];refine wpS_bind (wpS_get ?_);rw[hp];have e0:(#[(0,n1,pw),(n1,a₀.size - n1,0)]:Array (Nat × Nat × Nat))[0]?=some (0,n1,pw):=rfl;have e1:(#[(0,n1,pw),(n1,a₀.size - n1,0)]:Array (Nat × Nat × Nat))[0+1]?=some (n1,a₀.size - n1,0):=rfl;rw[e0,e1];dsimp only;refine wpS_bind ?_;have hset:∀(c:SortSt) (Q':PUnit->SortSt->Prop),Q' ⟨⟩ c->wpS (model prog w) A E s (set c:StateT SortSt Sem PUnit) Q' st:=fun c Q' hq=>by
  unfold wpS;rw[StateT.run_set];exact qan ⟨rfl,hq⟩
 refine hset _ _ ?_;obtain⟨st1,hst1⟩:∃c,c=setPending st (((#[(0,n1,pw),(n1,a₀.size - n1,0)]:Array (Nat × Nat × Nat)).setIfInBounds 0 (0,n1+(a₀.size - n1),pw)).eraseIdxIfInBounds (0+1)):=⟨_,rfl⟩;rw[<-hst1];have hB1:SB kd a₀ st1:=by rw[hst1];exact⟨hB.perm,hB.kind,hB.failed⟩
 have hp1:(pendingOf st1).size=1:=by rw[hst1];simp[pendingOf]
 have ha1:arrOf st1=arrOf st:=by rw[hst1]
 clear hst1;have whole:Srt C (arrOf st) 0 n1->Srt C (arrOf st) n1 a₀.size->(∀i j,i<n1->n1<=j->j<a₀.size->O.kle (kk C (arrOf st) i) (kk C (arrOf st) j))->Srt C (arrOf st1) 0 a₀.size:=by
  intro g1 g2 g3 i j _ hij hj;rw[ha1];by_cases c1:j<n1
  ·exact g1 i j (qaP _) hij c1
  ·by_cases c2:i<n1
   ·exact g3 i j c2 (by lia) hj
   ·exact g2 i j (by lia) hij hj
 refine wpS_bind (bc (by lia) fun b0 hb0=>?_);refine wpS_bind (eI (C:=C) hB1.kind hg (bD hg hb0) (by lia) (by lia) (by rw[qbk];exact hs1) fun k hk hlo hhi=>?_);have hlo':∀r p,r<k->(arrOf st)[r]?=some p->O.kle (C.key p) (C.key b0):=fun r p hr hp'=>by
  have:=hlo r hr
  unfold ahead at this;rw[qbk,aZ hp'] at this;simp only[qag,if_false,qbB] at this;exact this
 have hhi':∀r p,k<=r->r<n1->(arrOf st)[r]?=some p->O.kle (C.key b0) (C.key p):=fun r p hr1 hr2 hp'=>by
  have:=hhi r hr1 hr2
  unfold ahead at this;rw[qbk,aZ hp'] at this;simp only[qag,if_false,qcd] at this;exact KeyOrd.kle_of_klt this
 dsimp only;rw[qbk];have getP:∀i,i<a₀.size->∃p,(arrOf st)[i]?=some p:=fun i hi=>⟨_,getElem?_pos _ i (by lia)⟩;by_cases z1:n1 - k=0
 ·rw[qae (by simpa using z1)];refine wpS_pure (h st1 hB1 hp1 (whole hs1 hs2 fun i j hi hj1 hj2=>?_));obtain⟨p,hp'⟩:=getP i (by lia);obtain⟨q,hq'⟩:=getP j hj2;rw[aZ hp',aZ hq'];exact KeyOrd.kle_trans (hlo' i p (by lia) hp') (iz hs2 (qai _) hj1 hj2 hb0 hq')
 ·rw[qao (by simpa using z1)];have ez:k+(n1 - k) - 1=n1 - 1:=by lia
  rw[ez];refine wpS_bind (bc (by lia) fun al hal=>?_);refine wpS_bind (eI (C:=C) hB1.kind hg (bD hg hal) (by lia) (by lia) (by have e:n1+(a₀.size - n1)=a₀.size:=(by lia);rw[e];exact hs2) fun m hm hlo2 hhi2=>?_);have hlo2':∀r p,n1<=r->r<n1+m->(arrOf st)[r]?=some p->O.kle (C.key p) (C.key al):=fun r p hr1 hr2 hp'=>by
   have:=hlo2 (r - n1) (by lia)
   have e:n1+(r - n1)=r:=by lia
   unfold ahead at this;rw[e,aZ hp'] at this;exact KeyOrd.kle_of_klt this
  have hhi2':∀r p,n1+m<=r->r<a₀.size->(arrOf st)[r]?=some p->O.kle (C.key al) (C.key p):=fun r p hr1 hr2 hp'=>by
   have:=hhi2 (r - n1) (by lia) (by lia)
   have e:n1+(r - n1)=r:=by lia
   unfold ahead at this;rw[e,aZ hp'] at this;exact this
  dsimp only;by_cases z2:m=0
  ·rw[qae (by simpa using z2)];refine wpS_pure (h st1 hB1 hp1 (whole hs1 hs2 fun i j hi hj1 hj2=>?_));obtain⟨p,hp'⟩:=getP i (by lia);obtain⟨q,hq'⟩:=getP j hj2;rw[aZ hp',aZ hq'];exact KeyOrd.kle_trans (iz hs1 (qaP _) (by lia) (by lia) hp' hal) (hhi2' j q (by lia) hj2 hq')
  ·rw[qao (by simpa using z2)];have sx:((arrOf st).extract k n1).size=n1 - k:=by simp;lia
   have sy:((arrOf st).extract n1 (n1+m)).size=m:=by simp;lia
   have gx:∀r,r<n1 - k->((arrOf st).extract k n1)[r]?=(arrOf st)[k+r]?:=fun r hr=>by rw[qbO,qae (by lia)]
   have gy:∀r,r<m->((arrOf st).extract n1 (n1+m))[r]?=(arrOf st)[n1+r]?:=fun r hr=>by rw[qbO,qae (by lia)]
   have memx:∀p,p∈((arrOf st).extract k n1).toList->∃i,k<=i/\i<n1/\(arrOf st)[i]?=some p:=fun p hp'=>vp (by lia) hp';have memy:∀p,p∈((arrOf st).extract n1 (n1+m)).toList->∃i,n1<=i/\i<n1+m/\(arrOf st)[i]?=some p:=fun p hp'=>vp (by lia) hp';have T:Two C ((arrOf st).extract k n1) ((arrOf st).extract n1 (n1+m)):=by
    refine⟨fun p hp'=>?_,fun p hp'=>?_,o5 (by lia) fun i j a b c=>hs1 i j (qaP _) b c,o5 (by lia) fun i j a b c=>hs2 i j a b (by lia),by lia,by lia,?_,?_⟩
    ·obtain⟨i,_,_,hi⟩:=memx p hp';exact bD hg hi
    ·obtain⟨i,_,_,hi⟩:=memy p hp';exact bD hg hi
    ·intro p q hp' hq';rw[gy 0 (by lia)] at hp';rw[gx 0 (by lia)] at hq';have e:(arrOf st)[n1+0]?=some b0:=hb0;rw[e] at hp';cases hp';exact hhi' (k+0) q (by lia) (by lia) hq'
    ·intro x q hx hq';obtain⟨i,i1,i2,hi⟩:=memy x hx;rw[sx,gx _ (by lia)] at hq';have e:k+(n1 - k - 1)=n1 - 1:=by lia
     rw[e,hal] at hq';cases hq';exact hlo2' i x i1 i2 hi
   have fin:∀ou st2,Eqv st1 st2->MR C ((arrOf st).extract k n1) ((arrOf st).extract n1 (n1+m)) ou ->
     wpS (model prog w) A E s (do
      modify fun c=>setArr c (ou.toList.zipIdx.foldl (fun a (p:Keyed × Nat)=>a.setIfInBounds (k+p.2) p.1) (arrOf c))
      return (failedOf (<-get)).isNone) Q st2:=by
    intro ou st2 ev mr;refine wpS_bind (wpS_modify ?_);refine wpS_bind (wpS_get (wpS_pure ?_));have ea:arrOf st2=arrOf st:=ev.arr.trans ha1;have so:ou.size=n1 - k+m:=by
     have:=mr.1.length_eq
     rw[qaW,qba,qaW,qaW,sx,sy] at this;exact this
    have hl:=y9 (xs:=arrOf st2) (ou:=ou) (off:=k) (by rw[ea];lia);have eo:k+ou.size=n1+m:=by lia
    rw[eo,ea] at hl;have hsp:=split3 (xs:=arrOf st) (i:=k) (j:=n1) (k:=n1+m) (by lia) (by lia) (by lia);have hfn:(failedOf (setArr st2 (ou.toList.zipIdx.foldl (fun a (p:Keyed × Nat)=>a.setIfInBounds (k+p.2) p.1) (arrOf st2)))).isNone=true:=by
     show (failedOf st2).isNone=true;rw[ev.failed,hB1.failed];rfl
    rw[hfn];have hls:LS C (ou.toList.zipIdx.foldl (fun a (p:Keyed × Nat)=>a.setIfInBounds (k+p.2) p.1) (arrOf st2)).toList:=by
     rw[ea,hl];have mo:∀p,p∈ou.toList->(∃i,k<=i/\i<n1/\(arrOf st)[i]?=some p)\/(∃i,n1<=i/\i<n1+m/\(arrOf st)[i]?=some p):=fun p hp' =>
      (qap.mp (mr.1.mem_iff.mp hp')).imp (memx p) (memy p)
     have mt:∀p,p∈(arrOf st).toList.take k->∃i,i<k/\(arrOf st)[i]?=some p:=fun p hp'=>by
      obtain⟨i,hi⟩:=qaX.mp hp';by_cases c:i<k
      ·rw[qbH c,qaD] at hi;exact⟨i,c,hi⟩
      ·rw[qaY (by simp;lia)] at hi;cases hi
     have md:∀p,p∈(arrOf st).toList.drop (n1+m)->∃i,n1+m<=i/\i<a₀.size/\(arrOf st)[i]?=some p:=fun p hp'=>by
      obtain⟨i,hi⟩:=qaX.mp hp';rw[qcc,qaD] at hi
      have:=(qaT.mp hi).1
      exact⟨n1+m+i,by lia,by lia,hi⟩
     refine cB ?_ (cB mr.2 ?_ ?_) ?_
     ·have:=o5 (C:=C) (xs:=arrOf st) (lo:=0) (hi:=k) (by lia) fun i j a b c=>hs1 i j a b (by lia)
      rw[ip] at this;exact this
     ·have:=o5 (C:=C) (xs:=arrOf st) (lo:=n1+m) (hi:=(arrOf st).size) (qai _) fun i j a b c=>hs2 i j (by lia) b (by lia)
      rw[iN] at this;exact this
     ·intro x hx y hy;obtain⟨j,j1,j2,hj⟩:=md y hy;rcases mo x hx with ⟨i,i1,i2,hi⟩|⟨i,i1,i2,hi⟩
      ·exact KeyOrd.kle_trans (iz hs1 (qaP _) (by lia) (by lia) hi hal) (hhi2' j y j1 j2 hj)
      ·exact iz hs2 i1 (by lia) j2 hi hj
     ·intro x hx y hy;obtain⟨i,i1,hi⟩:=mt x hx;rcases qap.mp hy with hy|hy
      ·rcases mo y hy with ⟨j,j1,j2,hj⟩|⟨j,j1,j2,hj⟩
       ·exact iz hs1 (qaP _) (by lia) j2 hi hj
       ·exact KeyOrd.kle_trans (hlo' i x i1 hi) (iz hs2 (qai _) j1 (by lia) hb0 hj)
      ·obtain⟨j,j1,j2,hj⟩:=md y hy;exact KeyOrd.kle_trans (hlo' i x i1 hi) (iz hs2 (qai _) (by lia) j2 hb0 hj)
    have hpm:(ou.toList.zipIdx.foldl (fun a (p:Keyed × Nat)=>a.setIfInBounds (k+p.2) p.1) (arrOf st2)).Perm (arrOf st):=by
     rw[qbC,ea,hl];refine List.Perm.trans ?_ (List.Perm.of_eq hsp.symm);exact List.Perm.append_left _ (List.Perm.append_right _ mr.1)
    refine h _ ⟨hpm.trans hB.perm,ev.kind.trans hB1.kind,ev.failed.trans hB1.failed⟩ ?_ ?_
    ·show (pendingOf st2).size=1;rw[ev.pend];exact hp1
    ·have:=kT hls
     have e2:(ou.toList.zipIdx.foldl (fun a (p:Keyed × Nat)=>a.setIfInBounds (k+p.2) p.1) (arrOf st2)).size=a₀.size:=(hpm.trans hB.perm).size_eq;rw[e2] at this;exact this
   by_cases hle:n1 - k<=m
   ·rw[qae hle];refine wpS_bind (wps_lo T hB1.kind fun ou st2 ev mr=>?_);exact fin ou st2 ev mr
   ·rw[qao hle];refine wpS_bind (wps_hi T hB1.kind fun ou st2 ev mr=>?_);exact fin ou st2 ev mr
end
def rT(h2:2<=n)(h:n<64):minRun' n n 0=n:=by
 obtain⟨f,hf⟩:∃f,n=f+1:=⟨n - 1,by lia⟩
 have:minRun' (f+1) n 0=n+0:=by rw[minRun'_succ,qae h]
 rw[<-hf] at this;exact this
def xp(h2:2<=n)(h:n<=66):1<=minRun' n n 0/\minRun' n n 0<=n/\n<=2 * minRun' n n 0:=by
 by_cases c:n<64
 ·rw[rT h2 c];lia
 ·have:n=64\/n=65\/n=66:=by lia
  rcases this with e|e | e <;> subst e
  ·have:minRun' 64 64 0=32:=by decide
   rw[this];lia
  ·have:minRun' 65 65 0=33:=by decide
   rw[this];lia
  ·have:minRun' 66 66 0=33:=by decide
   rw[this];lia
section
variable {prog:Program} {w:World} {A:Around} {E:Value→Shared→Prop} {s:Shared} {kd:SortKind} {O:KeyOrd} {C:Cmp prog w A E s kd O} {a₀:Array Keyed} {st:SortSt}
def One(C:Cmp prog w A E s kd O)(a₀:Array Keyed)(mr n1:Nat)(st:SortSt):Prop:=SB kd a₀ st/\pendingOf st=#[(0,n1,0)]/\mr<=n1/\n1<=a₀.size/\Srt C (arrOf st) 0 n1
def Both(C:Cmp prog w A E s kd O)(a₀:Array Keyed)(n1:Nat)(st:SortSt):Prop :=
 SB kd a₀ st/\1<=n1/\n1<a₀.size/\(∃pw,pendingOf st=#[(0,n1,pw),(n1,a₀.size - n1,0)])/\Srt C (arrOf st) 0 n1/\Srt C (arrOf st) n1 a₀.size
def tz{xs ys:Array Keyed}{p lo hi:Nat}(h:cW p xs ys)(hhi:hi<=p)(g:Srt C xs lo hi):Srt C ys lo hi:=by
 intro i j hi' hij hj;rw[fk (h i (by lia)),fk (h j (by lia))];exact g i j hi' hij hj
def zj(h0:cR C a₀)(hB:SB kd a₀ st)(hpd:pendingOf st=#[])(h2:2<=a₀.size)(h66:a₀.size<=66)
  (h:∀st',(arrOf st').Perm a₀->failedOf st'=none->Srt C (arrOf st') 0 a₀.size->Q () st'):wpS (model prog w) A E s sortRuns' Q st:=by
 obtain⟨m1,m2,m3⟩:=xp h2 h66;rw[sortRuns'_eq];refine wpS_bind (wpS_get ?_);dsimp only;rw[hB.size];generalize minRun' a₀.size a₀.size 0=mr at m1 m2 m3 ⊢
 refine wpS_bind (wpS_mono (wpS_forRange
  (I:=fun x c st'=>(x=0/\c=(none,0)/\SB kd a₀ st'/\pendingOf st'=#[])\/(x=1/\∃n1,c=(none,n1)/\One C a₀ mr n1 st')\/(2<=x/\c=(none,a₀.size)/\∃n1,Both C a₀ n1 st'))
  (Q:=fun c st'=>c=(none,a₀.size)/\(One C a₀ mr a₀.size st'\/∃n1,Both C a₀ n1 st')) ?_ ?_ (.inl ⟨rfl,rfl,hB,hpd⟩)) ?_)
 ·rintro x c st' _ hx (⟨rfl,rfl,hB',hp'⟩|⟨rfl,n1,rfl,hB',hp',hr1,hr2,hs'⟩|⟨hx2,rfl,n1,hb⟩)
  ·dsimp only;rw[qao (by lia)];simp only[Nat.sub_zero,qbk];refine wpS_bind (uN (p:=0) h0 (by lia) (by lia) hB' fun m st2 hB2 _ hpe hm1 hm2 hs2=>?_);rw[qbk] at hs2;dsimp only;by_cases hlt:m<mr
   ·rw[qae hlt];refine wpS_bind (wpS_lift (wpAny_rule ⟨rfl,?_⟩));refine wpS_bind (u6 (p:=0) h0 (by lia) (by lia) hB2 (by rw[qbk];exact hs2) fun st3 hB3 _ hpe3 hs3=>?_);simp only[qaU,qag,if_false];refine wpS_bind (wpS_get ?_);have hb:(pendingOf st3).back?=none:=by rw[hpe3,hpe,hp'];rfl
    rw[hb];dsimp only;refine wpS_bind (wpS_modify (wpS_pure (.inr (.inl ⟨trivial,_,rfl,⟨hB3.perm,hB3.kind,hB3.failed⟩,?_,by lia,by lia,?_⟩))))
    ·show (pendingOf st3).push _=_;rw[hpe3,hpe,hp'];rfl
    ·rw[qbk] at hs3;exact hs3
   ·rw[qao hlt];refine wpS_bind (wpS_get ?_);have hb:(pendingOf st2).back?=none:=by rw[hpe,hp'];rfl
    rw[hb];dsimp only;refine wpS_bind (wpS_modify (wpS_pure (.inr (.inl ⟨trivial,_,rfl,⟨hB2.perm,hB2.kind,hB2.failed⟩,?_,by lia,by lia,hs2⟩))));show (pendingOf st2).push _=_;rw[hpe,hp'];rfl
  ·dsimp only;by_cases hend:n1>=a₀.size
   ·rw[qae hend];have e:n1=a₀.size:=by lia
    subst e;exact wpS_pure ⟨rfl,.inl ⟨hB',hp',hr1,hr2,hs'⟩⟩
   ·rw[qao hend];have hrest:a₀.size - n1<=mr:=by lia
    refine wpS_bind (uN (p:=n1) h0 (by lia) (by lia) hB' fun m st2 hB2 hsm hpe hm1 hm2 hs2=>?_);dsimp only;by_cases hlt:m<mr
    ·rw[qae hlt];refine wpS_bind (wpS_lift (wpAny_rule ⟨rfl,?_⟩));have em:min (a₀.size - n1) mr=a₀.size - n1:=by lia
     rw[em];refine wpS_bind (u6 (p:=n1) h0 (by lia) (by lia) hB2 hs2 fun st3 hB3 hsm3 hpe3 hs3=>?_);simp only[qaU,qag,if_false];refine wpS_bind (wpS_get ?_);have hp3:pendingOf st3=#[(0,n1,0)]:=by rw[hpe3,hpe,hp']
     have hb:(pendingOf st3).back?=some (0,n1,0):=by rw[hp3];rfl
     rw[hb];dsimp only;refine wpS_bind (wpS_mono (wpS_forRange (I:=fun _ c st4=>c=(none,())/\st4=st3) (Q:=fun c st4=>c=(none,())/\st4=st3) ?_ (fun _ _ hh=>hh) ⟨rfl,rfl⟩) ?_)
     ·rintro y c st4 _ _ ⟨rfl,rfl⟩;refine wpS_bind (wpS_get ?_);rw[hp3];exact wpS_pure ⟨rfl,rfl⟩
     ·rintro c st4 ⟨rfl,rfl⟩;dsimp only;refine wpS_bind (wpS_modify (wpS_bind (wpS_modify (wpS_pure (.inr (.inr ⟨by lia,?_,n1,⟨hB3.perm,hB3.kind,hB3.failed⟩,by lia,by lia,⟨power' a₀.size (2 * 0+n1) (2 * 0+n1+n1+(a₀.size - n1)) a₀.size,?_⟩,(tz (hsm.trans hsm3) (qai _) hs'),(by have e:n1+(a₀.size - n1)=a₀.size:=(by lia);rw[e] at hs3;exact hs3)⟩))))))
      ·have e:n1+(a₀.size - n1)=a₀.size:=by lia
       rw[e]
      ·show ((pendingOf st4).modify _ _).push _=_;rw[hp3];simp
    ·rw[qao hlt];have em:m=a₀.size - n1:=by lia
     subst em;refine wpS_bind (wpS_get ?_);have hp2:pendingOf st2=#[(0,n1,0)]:=by rw[hpe,hp']
     have hb:(pendingOf st2).back?=some (0,n1,0):=by rw[hp2];rfl
     rw[hb];dsimp only;refine wpS_bind (wpS_mono (wpS_forRange (I:=fun _ c st4=>c=(none,())/\st4=st2) (Q:=fun c st4=>c=(none,())/\st4=st2) ?_ (fun _ _ hh=>hh) ⟨rfl,rfl⟩) ?_)
     ·rintro y c st4 _ _ ⟨rfl,rfl⟩;refine wpS_bind (wpS_get ?_);rw[hp2];exact wpS_pure ⟨rfl,rfl⟩
     ·rintro c st4 ⟨rfl,rfl⟩;dsimp only;refine wpS_bind (wpS_modify (wpS_bind (wpS_modify (wpS_pure (.inr (.inr ⟨by lia,?_,n1,⟨hB2.perm,hB2.kind,hB2.failed⟩,by lia,by lia,⟨power' a₀.size (2 * 0+n1) (2 * 0+n1+n1+(a₀.size - n1)) a₀.size,?_⟩,(tz hsm (qai _) hs'),(by have e:n1+(a₀.size - n1)=a₀.size:=(by lia);rw[e] at hs2;exact hs2)⟩))))))
      ·have e:n1+(a₀.size - n1)=a₀.size:=by lia
       rw[e]
      ·show ((pendingOf st4).modify _ _).push _=_;rw[hp2];simp
  ·dsimp only;rw[qae (qai _)];exact wpS_pure ⟨rfl,.inr ⟨n1,hb⟩⟩
 ·rintro c st' (⟨hx,_⟩|⟨hx,_⟩|⟨_,hc,hb⟩)
  ·lia
  ·lia
  ·exact⟨hc,.inr hb⟩
 ·rintro c st' ⟨rfl,hc⟩;dsimp only;rcases hc with ⟨hB',hp',_,_,hs'⟩|⟨n1,hB',n11,n12,⟨pw,hp'⟩,hsA,hsB⟩
  ·refine wpS_bind (wpS_mono (wpS_forRange (I:=fun _ c st''=>st''=st'/\c=(none,())) (Q:=fun c st''=>st''=st'/\c=(none,())) ?_ (fun _ _ hh=>hh) ⟨rfl,rfl⟩) ?_)
   ·rintro x c st'' _ _ ⟨rfl,rfl⟩;refine wpS_bind (wpS_get ?_);rw[qae (by rw[hp'];exact qai 1)];exact wpS_pure ⟨rfl,rfl⟩
   ·rintro c st'' ⟨rfl,rfl⟩;exact wpS_pure (h _ hB'.perm hB'.failed hs')
  ·refine wpS_bind (wpS_mono (wpS_forRange (I:=fun x c st''=>c=(none,())/\((x=0/\st''=st')\/(1<=x/\SB kd a₀ st''/\(pendingOf st'').size=1/\Srt C (arrOf st'') 0 a₀.size)))
    (Q:=fun c st''=>c=(none,())/\SB kd a₀ st''/\Srt C (arrOf st'') 0 a₀.size) ?_ ?_ ⟨rfl,.inl ⟨rfl,rfl⟩⟩) ?_)
   ·rintro x c st'' _ _ ⟨rfl,hcase⟩;rcases hcase with ⟨rfl,rfl⟩|⟨hx1,b1,b2,b3⟩
    ·refine wpS_bind (wpS_get ?_);rw[qao (by rw[hp'];simp)];rw[hp'];refine wpS_bind (um (n1:=n1) (pw:=pw) h0 hB' n11 n12 hp' hsA hsB fun st3 c1 c2 c3=>?_);simp only[qaU,qag,if_false];exact wpS_pure ⟨rfl,.inr ⟨by lia,c1,c2,c3⟩⟩
    ·refine wpS_bind (wpS_get ?_);rw[qae (by rw[b2];exact qai 1)];exact wpS_pure ⟨rfl,b1,b3⟩
   ·rintro c st'' ⟨rfl,⟨hx,_⟩|⟨_,b1,_,b3⟩⟩
    ·lia
    ·exact⟨rfl,b1,b3⟩
   ·rintro c st'' ⟨rfl,b1,b3⟩;exact wpS_pure (h _ b1.perm b1.failed b3)
end
end SortT
namespace SortT
open PySem PyProof.Rows SetT PySem.W
section
variable {prog:Program} {w:World} {A:Around} {E:Value→Shared→Prop} {s:Shared}
def nU(ho:h.get? a=some (seqObj "list" vs.toArray n))(out:Array Value):∃c,(sortedHeap h a vs out).get? a=some (seqObj "list" out c):=by
 unfold sortedHeap;obtain⟨e1,ho1⟩:∃e1,(h.update a (Obj.mapSeq fun _=>(#[]:Array Value))).get? a=some (seqObj "list" #[] e1):=⟨_,get?_update_seq ho fun _=>#[]⟩;exact⟨_,get?_update_seq (qac _ (qac _ ho1)) fun _=>out⟩
def mZ(hb:b≠a)(ho:h.get? b=some o)(out:Array Value):(sortedHeap h a vs out).get? b=some o:=by
 unfold sortedHeap;rw[qbF _ _ _ _ hb];exact qac _ (qac _ ((qbF _ _ _ _ hb).trans ho))
end
end SortT
namespace SortT
open PySem PyProof.Rows PySem.W
def intO:KeyOrd:=⟨Int,fun a b=>decide (a<b),fun a=>by simp,fun a b c h1 h2=>by simp only[decide_eq_true_eq] at *;lia,fun a b c h=>by simp only[decide_eq_true_eq] at *;lia,fun a b h1 h2=>by simp only[decide_eq_false_iff_not] at *;lia⟩
def jj(h:Heap)(rk:Value->Int)(v:Value):Prop:=∃b o xs m t,v=.ref b/\h.get? b=some o/\o.cls=.type "tuple"/\o.data=.seq xs m/\xs[0]?=some (.int (rk v) t)
section
variable {prog:Program} {w:World} {A:Around} {E:Value→Shared→Prop} {s:Shared} {rk:Value→Int} {vs:List Value}
def t9{v:Value}{Q:Bool->Shared->Prop}(hv:(v == v)=true)(h:Q true s):wpAny (model prog w) A (eqBool v v) Q E s:=by
 unfold eqBool;refine wpAny_holding ?_;rw[qae hv];exact qaa (wpAny_rule (qan h))
def tw{b:Bool}{Q:Bool->Shared->Prop}(h:Q fin s):∀(xs:List Value) (i:Nat),(∀v∈xs,(v == v)=true)->KatLex prog w A b fin Q (xs.zip xs) i s
 | [],_,_=>kat_nil h
 | x::xs,i,hv=>by
  rw[List.zip_cons_cons];exact kat_cons (t9 (hv x qaC) (kat_yes (tw h xs (i+1) fun v z=>hv v (qal _ z))))
def lh:∀{l:List Value} {x y:Value},(l.map rk).Nodup->x∈l->y∈l->rk x=rk y->x=y
 | [],_,_,_,h,_,_=>by cases h
 | a::l,x,y,nd,hx,hy,e=>by
  rw[qaE,qbA] at nd;rcases qaj.mp hx with q1|q1
  ·rcases qaj.mp hy with q2|q2
   ·exact q1.trans q2.symm
   ·exact absurd (qaz.mpr ⟨y,q2,e.symm.trans (congrArg rk q1)⟩) nd.1
  ·rcases qaj.mp hy with q2|q2
   ·exact absurd (qaz.mpr ⟨x,q1,e.trans (congrArg rk q2)⟩) nd.1
   ·exact lh nd.2 q1 q2 e
def rcmp(prog:Program)(w:World)(A:Around)(E:Value->Shared->Prop)(s:Shared)(hk:∀v∈vs,jj s.heap rk v)(nd:(vs.map rk).Nodup)(hv:∀v:Value,(v == v)=true):Cmp prog w A E s (tuples' true) intO where
 key:=fun p=>rk p.1
 dflt:=(0:Int)
 good:=fun p=>p.1∈vs
 ask:=fun x y st Q gx gy hkd hq=>by
  obtain⟨x1,x2⟩:=x;obtain⟨y1,y2⟩:=y;obtain⟨ax,ox,ix,nx,tx,ex,hox,_,hdx,hix⟩:=hk x1 gx;obtain⟨ay,oy,iy,ny,ty,ey,hoy,_,hdy,hiy⟩:=hk y1 gy;rw[lt'_eq];refine wpS_bind (wpS_get ?_);rw[hkd];have q':Q (some (decide (rk x1<rk y1))) st:=hq;refine wpS_bind (wpS_lift (wpAny_attempt ?_));show wpAny _ _ (keyLt' (tuples' true) x1 y1) _ _ _;by_cases z:rk x1=rk y1
  ·have e:=lh nd gx gy z;subst e;rw[ex] at ey;cases ey;rw[hox] at hoy;cases hoy;rw[hdx] at hdy;cases hdy;have e0:decide (rk x1<rk x1)=decide (ix.size<ix.size):=by simp
   rw[e0] at q';rw[ex];exact kat_lt hox hdx hox hdx (tw ⟨rfl,wpS_pure q'⟩ _ _ fun v _=>hv v)
  ·rw[ex,ey];refine kat_lt hox hdx hoy hdy ?_;obtain⟨rx,e1⟩:∃r,ix.toList=.int (rk x1) tx::r:=by
    cases e:ix.toList with
    | nil=>rw[<-qaD,e] at hix;cases hix
    | cons a r=>rw[<-qaD,e] at hix;cases hix;exact⟨r,rfl⟩
   obtain⟨ry,e2⟩:∃r,iy.toList=.int (rk y1) ty::r:=by
    cases e:iy.toList with
    | nil=>rw[<-qaD,e] at hiy;cases hiy
    | cons a r=>rw[<-qaD,e] at hiy;cases hiy;exact⟨r,rfl⟩
   rw[e1,e2,List.zip_cons_cons];refine kat_cons (wpAny_eqBool_int ?_)
   have:(rk x1 == rk y1)=false:=by simpa using z
   rw[this];refine kat_no ?_;exact oneLt_int ⟨rfl,wpS_pure q'⟩
def jj.up{h h':Heap}{v:Value}(k:∀b o,h.get? b=some o->o.cls=.type "tuple"->h'.get? b=some o)(r:jj h rk v):jj h' rk v :=
 let ⟨b,o,xs,m,t,e,g,c,d⟩:=r;⟨b,o,xs,m,t,e,k b o g c,c,d⟩
def rW{Q:SortKind->Shared->Prop}(hk:∀v∈vs,jj s.heap rk v)(h1:0<vs.length)(h:Q (tuples' true) s):wpAny (model prog w) A (keyKind' vs.toArray) Q E s:=by
 have key:∀us:List Value,(∀v∈us,jj s.heap rk v)->∃fs:List Value,fs.length=us.length/\KatTups s.heap us fs/\∀v∈fs,∃i t,v=.int i t:=by
  intro us
  induction us with
  | nil=>exact fun _=>⟨[],rfl,KatTups.nil,fun v hv=>by cases hv⟩
  | cons u us ih =>
   intro hall;obtain⟨fs,f1,f2,f3⟩:=ih fun v hv=>hall v (qal _ hv);obtain⟨b,o,xs,m,t,e,g,c,d,f⟩:=hall u qaC;rw[e] at f ⊢;refine⟨.int (rk (.ref b)) t::fs,by simp[f1],KatTups.cons g c d f f2,fun v hv=>?_⟩;rcases qaj.mp hv with rfl|hv
   ·exact⟨_,_,rfl⟩
   ·exact f3 v hv
 obtain⟨fs,f1,f2,f3⟩:=key vs hk;refine kat_kind (T:=.type "int") f2 (by lia) (fun v hv=>?_) (by decide) h;obtain⟨i,t,rfl⟩:=f3 v hv;exact .now
def ya(hvv:∀v:Value,(v == v)=true)(ho:s.heap.get? a=some (seqObj "list" vs.toArray n))(hk:∀v∈vs,jj s.heap rk v)(nd:(vs.map rk).Nodup)(h66:vs.length<=66)
  (h:∀out:List Value,out.Perm vs->(out.map rk).Pairwise (·<=·)->P (.done (.ret .none)) { s with heap:=sortedHeap s.heap a vs out.toArray}) :
  wpAny (model prog w) A (Builtin.«list.sort» ⟨[.ref a],[]⟩) P E s:=by
 rw[list_sort_plain];have ha:a<s.heap.objs.size:=qam ho;have hfits:vs.length<=sizeLine:=by rw[sizeLine_eq];lia
 refine qaa (listItems_at ho rfl ?_);refine qaa (listUpdate_at ho rfl ?_ (by rw[qas];exact hfits) (qaP _));obtain⟨e1,ho1⟩:∃e1,(s.heap.update a (Obj.mapSeq fun _=>(#[]:Array Value))).get? a=some (seqObj "list" #[] e1):=⟨_,get?_update_seq ho fun _=>#[]⟩;refine qaa (seqEpoch_at ho1 rfl ?_);refine qaa (wpAny_newTuple ?_ (by show vs.length<=_;exact hfits));refine qaa (wpAny_newList ?_ (qaP _));refine wpAny_holding ?_;have ho6:(((s.heap.update a (Obj.mapSeq fun _=>(#[]:Array Value))).push (seqObj "tuple" vs.toArray 0)).push (seqObj "list" #[] 0)).get? a=some (seqObj "list" #[] e1) :=
  qac _ (qac _ ho1)
 show wpAny (model prog w) A _ P E { s with heap:=((s.heap.update a (Obj.mapSeq fun _=>(#[]:Array Value))).push (seqObj "tuple" vs.toArray 0)).push (seqObj "list" #[] 0)};have hk6:∀v∈vs,jj (((s.heap.update a (Obj.mapSeq fun _=>(#[]:Array Value))).push (seqObj "tuple" vs.toArray 0)).push (seqObj "list" #[] 0)) rk v:=fun v hv=>(hk v hv).up fun b o hb hc=>by
  have hne':b≠a:=by
   rintro rfl;rw[ho] at hb;cases hb;have hc':Value.type "list"=Value.type "tuple":=hc;exact absurd hc' (by decide)
  exact qac _ (qac _ ((qbF _ _ _ _ hne').trans hb))
 have hsz:vs.toArray.size=vs.length:=by simp
 dsimp only;by_cases h2:vs.toArray.size<2
 ·rw[qae h2,qae h2];refine qaa (qan ?_);rw[StateT.run_pure];refine qaa (qan ?_);dsimp only;refine qaa (seqEpoch_at ho6 rfl ?_);have hz:((vs.toArray.zip vs.toArray).map (·.2))=vs.toArray:=by
   apply qaV.mp;simp only[Array.toList_map,Array.toList_zip,List.toList_toArray];exact List.map_snd_zip (qai _)
  refine qaa (listUpdate_at ho6 rfl ?_ (qaP _) (by show ((vs.toArray.zip vs.toArray).map (·.2)).size<=_;rw[hz,hsz];lia));simp only[bne_self_eq_false,qag,if_false];refine qan ?_
  have:=h vs (List.Perm.refl _) (by
   match vs,hsz▸h2 with
   | [],_=>simp
   | [x],_=>simp)
  have e:(arrOf (SortSt.mk' general' (vs.toArray.zip vs.toArray) #[] 7 none)).map (·.2)=vs.toArray:=hz;rw[e];exact this
 ·rw[qao h2,qao h2];refine qaa (rW (s:={ s with heap:=_}) hk6 (by lia) ?_);have hps:(pairsOf vs).size=vs.length:=pairsOf_size vs
  refine qaa (wpAny_mono (zj (C:=rcmp prog w A E { s with heap:=((s.heap.update a (Obj.mapSeq fun _=>(#[]:Array Value))).push (seqObj "tuple" vs.toArray 0)).push (seqObj "list" #[] 0)} hk6 nd hvv)
   (a₀:=pairsOf vs) (st:=SortSt.mk' (tuples' true) (vs.toArray.zip vs.toArray) #[] 7 none)
   (Q:=fun _ st'=>(arrOf st').Perm (pairsOf vs)/\failedOf st'=none/\Srt (rcmp prog w A E { s with heap:=((s.heap.update a (Obj.mapSeq fun _=>(#[]:Array Value))).push (seqObj "tuple" vs.toArray 0)).push (seqObj "list" #[] 0)} hk6 nd hvv) (arrOf st') 0 (pairsOf vs).size)
   ?_ ⟨Array.Perm.refl _,rfl,rfl⟩ rfl (by lia) (by lia) fun st' a1 a2 a3=>⟨a1,a2,a3⟩) ?_ fun _ _ e=>e)
  ·intro p hp;rw[pairsOf_toList] at hp;obtain⟨q1,q2⟩:=mem_zip_self hp;exact q2
  ·rintro⟨⟨⟩,st'⟩ s' ⟨rfl,hp,hf,hs⟩;dsimp only;refine qaa (seqEpoch_at ho6 rfl ?_);have hz:((arrOf st').map (·.2)).size=vs.length:=by rw[Array.size_map,hp.size_eq,hps]
   refine qaa (listUpdate_at ho6 rfl ?_ (qaP _) (by show ((arrOf st').map (·.2)).size<=_;rw[hz];lia));rw[hf];simp only[bne_self_eq_false,qag,if_false];refine qan ?_;have hl:(arrOf st').toList.Perm (vs.zip vs):=by rw[<-pairsOf_toList];exact qbC.mp hp
   have hmem:∀p,p∈(arrOf st').toList->p.1=p.2/\p.1∈vs:=fun p hp'=>mem_zip_self (hl.mem_iff.mp hp');have hout:=h ((arrOf st').toList.map (·.2)) ?_ ?_
   ·have e:((arrOf st').toList.map (·.2)).toArray=(arrOf st').map (·.2):=by apply qaV.mp;simp
    rw[e] at hout;exact hout
   ·have q:=hl.map (·.2);rw[List.map_snd_zip (qai _)] at q;exact q
   ·rw[qbe,qbn,qbE];intro i j hi hj hij;have hi':i<(arrOf st').size:=by simpa using hi
    have hj':j<(arrOf st').size:=by simpa using hj
    have q:=hs i j (qaP _) (qbG hij) (by rw[<-hp.size_eq];exact hj');rw[aZ (getElem?_pos _ i hi'),aZ (getElem?_pos _ j hj')] at q;have m1:=(hmem (arrOf st')[i] (by simp)).1;have m2:=(hmem (arrOf st')[j] (by simp)).1;have q':decide (rk (arrOf st')[j].1<rk (arrOf st')[i].1)=false:=q;rw[m1,m2] at q';simp only[decide_eq_false_iff_not] at q';simp only[Function.comp,Array.getElem_toList];lia
def vR{T:String}{p:Addr}{o:Obj}{m:Nat}{Q:List Value->Shared->Prop}(hT:T="list"\/T="tuple")(hp:s.heap.get? p=some o)(hc:o.cls=.type T)(hd:o.data=.seq vs.toArray m)(hz:vs.length<=sizeLine)
  (h:Q vs { s with heap:=(s.heap.push (seqObj "list" #[] 0)).update s.heap.objs.size (Obj.mapSeq (·++vs.toArray))}):wpAny (model prog w) A (collect (.ref p)) Q E s:=by
 have hp':(s.heap.push (seqObj "list" #[] 0)).get? p=some o:=qac _ hp;have h0:(s.heap.push (seqObj "list" #[] 0)).get? s.heap.objs.size=some (seqObj "list" #[] 0):=qav _ rfl;have br:(Value.type T == Value.type "list" || Value.type T == Value.type "tuple")=true:=by rcases hT with rfl|rfl <;> rfl
 unfold collect;refine qaa (wpAny_runValue (codeAny_builtin entry_proto_collect' (qaa (wpAny_newList (qan ⟨Code.quiet_builtin _ (by decide +kernel),codeAny_builtin entry_list_iadd' ?_⟩)))));show wpAny _ _ (Builtin.List.listExtendWith (.ref s.heap.objs.size) (.ref p) _) _ _ { s with heap:=s.heap.push (seqObj "list" #[] 0)};unfold Builtin.List.listExtendWith;refine qaa (wpAny_typeOf (T:=T) ⟨o,hp',hc⟩ ?_);rw[qae (by rw[Bool.or_assoc,br,Bool.or_true])];refine qaa (listItems_at hp' hd (qaa (listItems_at h0 rfl ?_)));rw[qao (by simp)];refine qaa (listUpdate_at h0 rfl (qan ?_) (qaP _) (by show (#[]++vs.toArray).size<=_;simp;lia));show wpAny _ A (load s.heap.objs.size >>= _) _ _ _;refine qaa (wpAny_load (get?_update_seq h0 _) ?_);have e:((#[]:Array Value)++vs.toArray).toList=vs:=by simp
 show wpAny _ _ (pure _) _ _ _;rw[e];exact qan h
def uc{T:String}{p:Addr}{o:Obj}{m:Nat}{Q:Value->Shared->Prop}(hT:T="list"\/T="tuple")(hp:s.heap.get? p=some o)(hc:o.cls=.type T)(hd:o.data=.seq vs.toArray m)(hk:∀v∈vs,jj s.heap rk v)(nd:(vs.map rk).Nodup)(h66:vs.length<=66)
  (h:∀(h':Heap) (l:Addr) (out:List Value),(∀b o',s.heap.get? b=some o'->h'.get? b=some o')->s.heap.objs.size<=l->(∃c,h'.get? l=some (seqObj "list" out.toArray c))->out.Perm vs->(out.map rk).Pairwise (·<=·)->Q (.ref l) { s with heap:=h'}) :
  wpAny (model prog w) A (call (.builtin "sorted") [.ref p]) Q E s:=by
 have hfits:vs.length<=sizeLine:=by rw[sizeLine_eq];lia
 refine Calls.call_function_entry kind_sorted plain_sorted entry_sorted (args_sorted1 _) ?_;unfold Builtin.«sorted»;refine qaa (m:=checkCount "sorted" 1 1 _) (qan (qaa (vR hT hp hc hd hfits (qaa (wpAny_newList ?_ hfits)))));generalize e1:(s.heap.push (seqObj "list" #[] 0)).update s.heap.objs.size (Obj.mapSeq (·++vs.toArray))=h1;have x1:∀b o,s.heap.get? b=some o->h1.get? b=some o:=fun b o z=>by
  rw[<-e1,qbF _ _ _ _ (qaL (qam z))];exact qac _ z
 have hle:s.heap.objs.size<=h1.objs.size:=by rw[<-e1,Heap.size_update,size_push'];exact Nat.le_succ _
 have hoL:(h1.push (seqObj "list" vs.toArray 0)).get? h1.objs.size=some (seqObj "list" vs.toArray 0):=qav _ rfl;have up:∀b o,h1.get? b=some o->(h1.push (seqObj "list" vs.toArray 0)).get? b=some o:=fun b o e=>qac _ e
 refine qaa (wpAny_holding (wpAny_call_entry slot_list_sort ⟨_,hoL,rfl⟩ entry_list_sort
  (ya (s:={ s with heap:=h1.push (seqObj "list" vs.toArray 0)}) (fun v=>beq_self_eq_true v) hoL (fun v hv=>(hk v hv).up fun b o hb _=>up b o (x1 b o hb)) nd h66 fun out pv r2=>⟨_,rfl,?_⟩) (args_list_sort _)))
 refine qan ⟨_,rfl,h _ h1.objs.size out (fun b o e=>?_) hle (nU hoL _) pv r2⟩;exact mZ (qaL (qam (x1 b o e))) (up b o (x1 b o e)) _
end
end SortT
namespace MM
open PySem PySem.Spec PyProof.Rows L2 SetT SortT
def vints{K:qab}{ρ:List Addr}{H:Hp}:∀{k:List Int} {ys:List V},RPs K ρ H (k.map PV.int) ys->ys=k.map V.int
 | [],ys,h=>by cases h;rfl
 | i::k,ys,h=>by
  cases h with
  | cons r t =>
   cases r;rw[vints t];rfl
section
variable {X:Cx} {G6:List (Addr × Obj)} {σ:L2.St} {H:Hp} {s:Shared}
end
section
variable {X:Cx} {N W G:List Str} {k:Nat}
def hU(h:MH):PV->Option (List PV)
 | .frl xs=>some xs
 | .loc n=>(match h[n]? with
  | some (.lst xs)=>some xs
  | _=>none)
 | _=>none
def lst_rel{ρ:List Addr}{H:Hp}{h:MH}{x:PV}{y:V}{xs:List PV}{K:qab}{mg:MGl}(rh:RH K mg ρ H h)(r:RP K ρ H x y)(e:hU h x=some xs):∃a zs,y=.ref a/\SqL K H a zs/\RPs K ρ H xs zs:=by
 cases r with
 | frl s r=>cases e;exact⟨_,_,rfl,s.sq,r⟩
 | @loc n a en =>
  obtain⟨o,eo,ro⟩:=rh.obj en;unfold hU at e;dsimp only at e;rw[eo] at e
  cases o with
  | lst zs =>
   cases e;obtain⟨ys,ey,ry⟩:=ro;exact⟨a,ys,rfl,SqL.of ey,ry⟩
  | _=>cases e
 | _=>cases e
end
end MM
namespace SeqT
open PySem
abbrev itN(tp:Bool):String:=if tp then "tuple_iterator" else "list_iterator"
abbrev sqN(tp:Bool):String:=if tp then "tuple" else "list"
def SqI(tp:Bool)(h:Heap)(it a:Addr)(i:Nat):Prop:=∃o,h.get? it=some o/\o.cls=.type (itN tp)/\o.data=.fields #[.ref a,.int i 0]
def SqO(tp:Bool)(h:Heap)(a:Addr)(xs:Array Value):Prop:=∃o,h.get? a=some o/\o.cls=.type (sqN tp)/\∃n,o.data=.seq xs n
def SqI.at'(x:SqI tp h it a i)(k:∀o,h.get? it=some o->h'.get? it=some o):SqI tp h' it a i:=let ⟨o,e,r⟩:=x;⟨o,k o e,r⟩
def SqO.at'(x:SqO tp h a xs)(k:∀o,h.get? a=some o->h'.get? a=some o):SqO tp h' a xs:=let ⟨o,e,r⟩:=x;⟨o,k o e,r⟩
def SqI.lt(x:SqI tp h it a i):it<h.objs.size:=let ⟨_,e,_⟩:=x;qam e
section
variable {prog:Program} {w:World} {A:Around} {E:Value→Shared→Prop} {s:Shared}
def lg(hi:SqI tp s.heap it a i)(ho:SqO tp s.heap a xs)(hx:xs[i]?=some x)
  (hQ:∀h',SqI tp h' it a (i+1)->Heap.SameBut it s.heap h'->Q x { s with heap:=h'}):wpAny (model prog w) A (Builtin.SmallTypes.nextOf (.ref it)) Q E s:=by
 cases tp with
 | false=>exact wpAny_nextOf_list_item (show s.heap.IsListIter it a i from hi) (show s.heap.IsList a xs from ho) hx hQ
 | true =>
  obtain⟨o,e,hc,hd⟩:=id hi;obtain⟨ol,hol,_,nl,hdl⟩:=ho;have hT:s.TypeIs (.ref it) "tuple_iterator":=⟨o,e,hc⟩;unfold Builtin.SmallTypes.nextOf;refine qaa (wpAny_callSpecial?_slot (name:=Str.ofString "__next__") hT F.slot_tuple_iterator_next (wpAny_call_entry F.slot_tuple_iterator_next hT F.entry_tuple_iterator_next ?_ (F.args_tuple_iterator_next_1 _)));show wpAny _ _ (field (.ref it) 0 >>= _) _ _ s;refine qaa (wpAny_field e hd (x:=.ref a) rfl ?_);show wpAny _ _ (if (Value.ref a == Value.none)=true then _ else _) _ _ s;rw[qao (show ¬((Value.ref a == Value.none)=true) from qaN)];show wpAny _ _ (field (.ref it) 1 >>= _) _ _ s;refine qaa (wpAny_field e hd (x:=.int i 0) rfl ?_);show wpAny _ _ (seqItems? (.ref a) >>= _) _ _ s;refine qaa (wpAny_seqItems hol hdl ?_);simp only[qcg,hx];refine qaa (wpAny_setField e hd (by simp) (qan ⟨x,rfl,qan (hQ _ ?_ (Heap.SameBut.update ..))⟩));exact⟨_,qcw _ e (Obj.isFreed_of_fields (Obj.data_mapFields hd _)),(Obj.cls_mapFields ..).trans hc,by rw[Obj.data_mapFields hd];simp[rawInt]⟩
def sL(hh:A.handled=none)(hi:SqI tp s.heap it a i)(ho:SqO tp s.heap a xs)(hx:xs[i]?=none)
  (hE:∀h' e,Heap.ExtBut it s.heap h'->(∃o,h'.get? e=some o/\o.cls=.type "StopIteration")->E (.ref e) { s with heap:=h'}):wpAny (model prog w) A (Builtin.SmallTypes.nextOf (.ref it)) Q E s:=by
 cases tp with
 | false=>exact wpAny_nextOf_list_end hh (show s.heap.IsListIter it a i from hi) (show s.heap.IsList a xs from ho) hx hE
 | true =>
  obtain⟨o,e,hc,hd⟩:=id hi;obtain⟨ol,hol,_,nl,hdl⟩:=ho;have hT:s.TypeIs (.ref it) "tuple_iterator":=⟨o,e,hc⟩;unfold Builtin.SmallTypes.nextOf;refine qaa (wpAny_callSpecial?_slot (name:=Str.ofString "__next__") hT F.slot_tuple_iterator_next (wpAny_call_entry F.slot_tuple_iterator_next hT F.entry_tuple_iterator_next ?_ (F.args_tuple_iterator_next_1 _)));show wpAny _ _ (field (.ref it) 0 >>= _) _ _ s;refine qaa (wpAny_field e hd (x:=.ref a) rfl ?_);show wpAny _ _ (if (Value.ref a == Value.none)=true then _ else _) _ _ s;rw[qao (show ¬((Value.ref a == Value.none)=true) from qaN)];show wpAny _ _ (field (.ref it) 1 >>= _) _ _ s;refine qaa (wpAny_field e hd (x:=.int i 0) rfl ?_);show wpAny _ _ (seqItems? (.ref a) >>= _) _ _ s;refine qaa (wpAny_seqItems hol hdl ?_);simp only[qcg,hx];refine qaa (wpAny_rule (qaa (wpAny_setField e hd (by simp) ?_)));show wpAny _ _ (newExc (.type "StopIteration") [] >>= _) _ _ _;refine qaa ?_;simp only[newExc,newTuple];refine qaa (wpAny_newObj_type ?_ (by size_fits));refine qaa (m:=firstArgMember _ _) (wpAny_of_eq (a:=Value.none) (by first | rfl | (simp only[firstArgMember];rfl)) ?_);refine wpAny_newObj_type ?_ (by size_fits);simp only[raiseNew];refine qaa (wpAny_handled ?_);rw[show A.in1.handled=none from hh];refine qaa (qan (wpAny_throw ?_));exact hE _ _ (((Heap.SameBut.update ..).extBut.push _).push _) ⟨_,qav _ rfl,rfl⟩
def vk(ho:SqO tp s.heap a xs)
  (hQ:Q (.ref s.heap.objs.size) { s with heap:=s.heap.push { cls:=.type (itN tp),data:=.fields #[.ref a,.int 0 0]}}):wpAny (model prog w) A (pyIter (.ref a)) Q E s:=by
 cases tp with
 | false=>exact wpAny_pyIter_list (show s.heap.IsList a xs from ho) hQ
 | true=>exact wpAny_pyIter_tuple (show s.heap.IsTuple a xs from ho) hQ
end
section
variable {prog:Program} {w:World} {A:Around} {E:Value→Shared→Prop} {s:Shared} {z TI TO i1 i2 l1 l2:Addr} {t1 t2:Bool} {k1 k2:Nat} {xs ys:Array Value}
def xO{x y a b:Value}{Q:Value->Shared->Prop}(D:ZipApart z TI TO i1 i2 l1 l2)
  (hz:IsZip s.heap z TI TO .none) (hTI:IsPair s.heap TI (.ref i1) (.ref i2)) (hTO:IsPair s.heap TO a b)
  (h1:SqI t1 s.heap i1 l1 k1) (h2:SqI t2 s.heap i2 l2 k2) (hl1:SqO t1 s.heap l1 xs) (hl2:SqO t2 s.heap l2 ys) (hx:xs[k1]?=some x) (hy:ys[k2]?=some y)
  (hQ:∀h',IsZip h' z TI TO (rawInt s.heap.objs.size)->IsPair h' TO x y->SqI t1 h' i1 l1 (k1+1)->SqI t2 h' i2 l2 (k2+1)->IsPair h' s.heap.objs.size x y->h'.objs.size=s.heap.objs.size+1 ->
   (∀c o,c≠z->c≠TO->c≠i1->c≠i2->s.heap.get? c=some o->h'.get? c=some o)->Q (.ref s.heap.objs.size) { s with heap:=h'}) :
  wpAny (model prog w) A (Builtin.«zip.__next__» ⟨[.ref z],[]⟩) (fun fin s'=>∃v,fin=.done (.ret v)/\Q v s') E s:=by
 show wpAny _ _ (field (.ref z) 2 >>= _) _ _ _;refine qaa (wpAny_field hz rfl (x:=.bool false) rfl ?_);show wpAny _ _ (field (.ref z) 3 >>= _) _ _ _;refine qaa (wpAny_field hz rfl (x:=.ref TI) rfl ?_);refine qaa (wpAny_seqItems hTI rfl ?_);show wpAny _ _ (Builtin.SmallTypes.ownedTupleIsFree (.ref z) >>= _) _ _ _;refine qaa ?_;unfold Builtin.SmallTypes.ownedTupleIsFree;refine qaa (wpAny_field hz rfl (x:=.none) rfl (qan ?_));simp only[if_true];refine qaa (wpAny_rule ?_);refine qaa (wpAny_field hz rfl (x:=.ref TO) rfl ?_);refine qaa (wpAny_setField_rec hz (by simp) fun ha hza sa=>?_);replace hza:IsZip ha z TI TO .ellipsis:=hza;replace sa:Heap.SameBut z s.heap ha:=sa;refine qaa ?_;simp only[qcr,List.zipIdx_nil,qcy,qcC];refine qaa (qaa (wpAny_onRaise ?_));show wpAny _ _ (Builtin.SmallTypes.nextOf (.ref i1) >>= _) _ _ _;refine qaa (lg (s:={ s with heap:=ha}) (h1.at' fun o e=>(sa.2 _ D.i1z).trans e) (hl1.at' fun o e=>(sa.2 _ D.l1z).trans e) hx fun hb h1b sb=>qan ?_);replace sb:Heap.SameBut i1 ha hb:=sb;have TOb:IsPair hb TO a b:=(sb.2 _ D.TOi1).trans ((sa.2 _ D.TOz).trans hTO);refine qaa (wpAny_seqItems TOb rfl ?_);refine qaa (wpAny_updateSeq_pair TOb fun hc TOc sc=>?_);replace TOc:IsPair hc TO x b:=TOc;replace sc:Heap.SameBut TO hb hc:=sc;refine qaa (wpAny_letGo (qan ?_));refine qaa (qaa (wpAny_onRaise ?_));show wpAny _ _ (Builtin.SmallTypes.nextOf (.ref i2) >>= _) _ _ _
 refine qaa (lg (s:={ s with heap:=hc}) (h2.at' fun o e=>(sc.2 _ D.TOi2.symm).trans ((sb.2 _ D.i12.symm).trans ((sa.2 _ D.i2z).trans e)))
  (hl2.at' fun o e=>(sc.2 _ D.l2TO).trans ((sb.2 _ D.l2i1).trans ((sa.2 _ D.l2z).trans e))) hy fun hd h2d sd=>qan ?_)
 replace sd:Heap.SameBut i2 hc hd:=sd;have TOd:IsPair hd TO x b:=(sd.2 _ D.TOi2).trans TOc;refine qaa (wpAny_seqItems TOd rfl ?_);refine qaa (wpAny_updateSeq_pair TOd fun he TOe se=>?_);replace TOe:IsPair he TO x y:=TOe;replace se:Heap.SameBut TO hd he:=se;refine qaa (wpAny_letGo (qan (qan ?_)));refine qaa (wpAny_seqItems TOe rfl ?_);refine qaa (wpAny_newTuple ?_);have hsz:he.objs.size=s.heap.objs.size:=by rw[se.1,sd.1,sc.1,sb.1,sa.1]
 have hze:IsZip he z TI TO .ellipsis:=(se.2 _ D.TOz.symm).trans ((sd.2 _ D.i2z.symm).trans ((sc.2 _ D.TOz.symm).trans ((sb.2 _ D.i1z.symm).trans hza)));have hke:∀c o,c≠z->c≠TO->c≠i1->c≠i2->s.heap.get? c=some o->he.get? c=some o:=fun c o c1 c2 c3 c4 e =>
  (se.2 _ c2).trans ((sd.2 _ c4).trans ((sc.2 _ c2).trans ((sb.2 _ c3).trans ((sa.2 _ c1).trans e))))
 have h1e:SqI t1 he i1 l1 (k1+1):=h1b.at' fun o e=>(se.2 _ D.TOi1.symm).trans ((sd.2 _ D.i12).trans ((sc.2 _ D.TOi1.symm).trans e));have h2e:SqI t2 he i2 l2 (k2+1):=h2d.at' fun o e=>(se.2 _ D.TOi2.symm).trans e;have hzlt:z<he.objs.size:=qam hze;show wpAny _ _ (Builtin.SmallTypes.ownedTupleHandOut (.ref z) (.ref he.objs.size) >>= _) _ _ _;refine qaa ?_;unfold Builtin.SmallTypes.ownedTupleHandOut;have hzf:IsZip (he.push { cls:=.type "tuple",data:=.seq #[x,y]}) z TI TO .ellipsis:=qac _ hze;refine qaa (wpAny_setField_rec hzf (by simp) fun hg hzg sg=>?_);replace hzg:IsZip hg z TI TO (rawInt he.objs.size):=hzg;refine wpAny_setField_rec hzg (by simp) fun hh hzh sh=>?_;replace hzh:IsZip hh z TI TO (rawInt he.objs.size):=hzh;have up:∀c o,c≠z->he.get? c=some o->hh.get? c=some o:=fun c o c1 e=>(sh.2 _ c1).trans ((sg.2 _ c1).trans (qac _ e));have hTh:IsPair hh he.objs.size x y:=(sh.2 _ (qbj hzlt)).trans ((sg.2 _ (qbj hzlt)).trans (qav _ rfl));have hzs:hh.objs.size=he.objs.size+1:=by rw[sh.1,sg.1,qbi]
 rw[hsz] at hzh hTh hzs;refine qan ⟨_,rfl,?_⟩;show Q (.ref he.objs.size) _;rw[hsz];exact hQ hh hzh (up _ _ D.TOz TOe) (h1e.at' fun o e=>up _ o D.i1z e) (h2e.at' fun o e=>up _ o D.i2z e) hTh hzs fun c o c1 c2 c3 c4 e=>up c o c1 (hke c o c1 c2 c3 c4 e)
def yr(hh:A.handled=none)(D:ZipApart z TI TO i1 i2 l1 l2)
  (hz:IsZip s.heap z TI TO .none) (hTI:IsPair s.heap TI (.ref i1) (.ref i2)) (hTO:IsPair s.heap TO a b)
  (h1:SqI t1 s.heap i1 l1 k1) (h2:SqI t2 s.heap i2 l2 k2) (hl1:SqO t1 s.heap l1 xs) (hl2:SqO t2 s.heap l2 ys) (hend:xs[k1]?=none\/ys[k2]?=none)
  (hE:∀h' e,(∀c o,c≠z->c≠TO->c≠i1->c≠i2->s.heap.get? c=some o->h'.get? c=some o)->(∃o,h'.get? e=some o/\o.cls=.type "StopIteration")->E (.ref e) { s with heap:=h'}) :
  wpAny (model prog w) A (Builtin.«zip.__next__» ⟨[.ref z],[]⟩) Q E s:=by
 show wpAny _ _ (field (.ref z) 2 >>= _) _ _ _;refine qaa (wpAny_field hz rfl (x:=.bool false) rfl ?_);show wpAny _ _ (field (.ref z) 3 >>= _) _ _ _;refine qaa (wpAny_field hz rfl (x:=.ref TI) rfl ?_);refine qaa (wpAny_seqItems hTI rfl ?_);show wpAny _ _ (Builtin.SmallTypes.ownedTupleIsFree (.ref z) >>= _) _ _ _;refine qaa ?_;unfold Builtin.SmallTypes.ownedTupleIsFree;refine qaa (wpAny_field hz rfl (x:=.none) rfl (qan ?_));simp only[if_true];refine qaa (wpAny_rule ?_);refine qaa (wpAny_field hz rfl (x:=.ref TO) rfl ?_);refine qaa (wpAny_setField_rec hz (by simp) fun ha hza sa=>?_);replace hza:IsZip ha z TI TO .ellipsis:=hza;replace sa:Heap.SameBut z s.heap ha:=sa;refine qaa ?_;simp only[qcr,List.zipIdx_nil,qcy,qcC];refine qaa (qaa (wpAny_onRaise ?_));show wpAny _ _ (Builtin.SmallTypes.nextOf (.ref i1) >>= _) _ _ _
 cases hx:xs[k1]? with
 | none =>
  refine qaa (sL (s:={ s with heap:=ha}) hh (h1.at' fun o e=>(sa.2 _ D.i1z).trans e) (hl1.at' fun o e=>(sa.2 _ D.l1z).trans e) hx fun hb e sb he=>?_);obtain⟨oe,hoe,hce⟩:=he;have hzb:IsZip hb z TI TO .ellipsis:=sb _ _ D.i1z.symm hza;have hez:e≠z:=fun q=>by subst q;rw[hzb] at hoe;cases hoe;simp at hce
  exact wpAny_setField_rec hzb (by simp) fun hc _ sc=>hE hc e (fun c o c1 _ c3 _ q=>(sc.2 _ c1).trans (sb _ _ c3 ((sa.2 _ c1).trans q))) ⟨oe,(sc.2 _ hez).trans hoe,hce⟩
 | some x =>
  have hy:ys[k2]?=none:=by
   rcases hend with q|q
   ·rw[hx] at q;cases q
   ·exact q
  refine qaa (lg (s:={ s with heap:=ha}) (h1.at' fun o e=>(sa.2 _ D.i1z).trans e) (hl1.at' fun o e=>(sa.2 _ D.l1z).trans e) hx fun hb h1b sb=>qan ?_);replace sb:Heap.SameBut i1 ha hb:=sb;have TOb:IsPair hb TO a b:=(sb.2 _ D.TOi1).trans ((sa.2 _ D.TOz).trans hTO);refine qaa (wpAny_seqItems TOb rfl ?_);refine qaa (wpAny_updateSeq_pair TOb fun hc TOc sc=>?_);replace sc:Heap.SameBut TO hb hc:=sc;refine qaa (wpAny_letGo (qan ?_));refine qaa (qaa (wpAny_onRaise ?_));show wpAny _ _ (Builtin.SmallTypes.nextOf (.ref i2) >>= _) _ _ _
  refine qaa (sL (s:={ s with heap:=hc}) hh (h2.at' fun o e=>(sc.2 _ D.TOi2.symm).trans ((sb.2 _ D.i12.symm).trans ((sa.2 _ D.i2z).trans e)))
   (hl2.at' fun o e=>(sc.2 _ D.l2TO).trans ((sb.2 _ D.l2i1).trans ((sa.2 _ D.l2z).trans e))) hy fun hd e sd he=>?_)
  obtain⟨oe,hoe,hce⟩:=he;have hzd:IsZip hd z TI TO .ellipsis:=sd _ _ D.i2z.symm ((sc.2 _ D.TOz.symm).trans ((sb.2 _ D.i1z.symm).trans hza));have hez:e≠z:=fun q=>by subst q;rw[hzd] at hoe;cases hoe;simp at hce
  exact wpAny_setField_rec hzd (by simp) fun hf _ sf=>hE hf e (fun c o c1 c2 c3 c4 q=>(sf.2 _ c1).trans (sd _ _ c4 ((sc.2 _ c2).trans ((sb.2 _ c3).trans ((sa.2 _ c1).trans q))))) ⟨oe,(sf.2 _ hez).trans hoe,hce⟩
def yQ(D:ZipApart z TI TO i1 i2 l1 l2)
  (hz:IsZip s.heap z TI TO .none) (hTI:IsPair s.heap TI (.ref i1) (.ref i2)) (hTO:IsPair s.heap TO a b)
  (h1:SqI t1 s.heap i1 l1 k1) (h2:SqI t2 s.heap i2 l2 k2) (hl1:SqO t1 s.heap l1 xs) (hl2:SqO t2 s.heap l2 ys) (hx:xs[k1]?=some x) (hy:ys[k2]?=some y)
  (hQ:∀h',IsZip h' z TI TO (rawInt s.heap.objs.size)->IsPair h' TO x y->SqI t1 h' i1 l1 (k1+1)->SqI t2 h' i2 l2 (k2+1)->IsPair h' s.heap.objs.size x y->h'.objs.size=s.heap.objs.size+1 ->
   (∀c o,c≠z->c≠TO->c≠i1->c≠i2->s.heap.get? c=some o->h'.get? c=some o)->Q (some (.ref s.heap.objs.size)) { s with heap:=h'}) :
  wpAny (model prog w) A (pyNext (.ref z)) Q E s:=by
 have hT:s.TypeIs (.ref z) "zip":=⟨_,hz,rfl⟩;unfold pyNext
 exact qaa (wpAny_attempt (wpAny_callSpecial?_slot (name:=Str.ofString "__next__") hT F.slot_zip_next
  (wpAny_call_entry F.slot_zip_next hT F.entry_zip_next (xO D hz hTI hTO h1 h2 hl1 hl2 hx hy fun h' q1 q2 q3 q4 q5 q6 q7=>qan (hQ h' q1 q2 q3 q4 q5 q6 q7)) (F.args_zip_next_1 _))))
def zip_end(hh:A.handled=none)(D:ZipApart z TI TO i1 i2 l1 l2)
  (hz:IsZip s.heap z TI TO .none) (hTI:IsPair s.heap TI (.ref i1) (.ref i2)) (hTO:IsPair s.heap TO a b)
  (h1:SqI t1 s.heap i1 l1 k1) (h2:SqI t2 s.heap i2 l2 k2) (hl1:SqO t1 s.heap l1 xs) (hl2:SqO t2 s.heap l2 ys) (hend:xs[k1]?=none\/ys[k2]?=none)
  (hQ:∀h',(∀c o,c≠z->c≠TO->c≠i1->c≠i2->s.heap.get? c=some o->h'.get? c=some o)->Q none { s with heap:=h'}):wpAny (model prog w) A (pyNext (.ref z)) Q E s:=by
 have hT:s.TypeIs (.ref z) "zip":=⟨_,hz,rfl⟩;unfold pyNext
 refine qaa (wpAny_attempt (wpAny_callSpecial?_slot (name:=Str.ofString "__next__") hT F.slot_zip_next
  (wpAny_call_entry F.slot_zip_next hT F.entry_zip_next (yr hh D hz hTI hTO h1 h2 hl1 hl2 hend fun h' e hk he=>?_) (F.args_zip_next_1 _))))
 obtain⟨o,ho,hc⟩:=he;refine qaa (wpAny_isInstance (T:="StopIteration") (b:=true) ⟨o,ho,hc⟩ isSubtype_stop ?_);exact qan (hQ _ hk)
end
abbrev zA(t1:Bool)(h:Heap)(l1:Addr):Heap:=h.push { cls:=.type (itN t1),data:=.fields #[.ref l1,.int 0 0]}
abbrev zB(t1 t2:Bool)(h:Heap)(l1 l2:Addr):Heap:=(zA t1 h l1).push { cls:=.type (itN t2),data:=.fields #[.ref l2,.int 0 0]}
abbrev zC(t1 t2:Bool)(h:Heap)(l1 l2:Addr):Heap:=(zB t1 t2 h l1 l2).push { cls:=.type "tuple",data:=.seq #[.ref h.objs.size,.ref (zA t1 h l1).objs.size]}
abbrev zD(t1 t2:Bool)(h:Heap)(l1 l2:Addr):Heap:=(zC t1 t2 h l1 l2).push { cls:=.type "tuple",data:=.seq #[.none,.none]}
abbrev zE(t1 t2:Bool)(h:Heap)(l1 l2:Addr):Heap:=(zD t1 t2 h l1 l2).push { cls:=.type "zip",data:=.fields #[.none,.bool false,.bool false,.ref (zB t1 t2 h l1 l2).objs.size,.ref (zC t1 t2 h l1 l2).objs.size]}
def zip_new(t1 t2:Bool)(l1 l2:Addr)(xs ys:Array Value) :
  Meets (Builtin.«zip.__new__» ⟨[.type "zip",.ref l1,.ref l2],[]⟩) (fun _ R s=>SqO t1 s.heap l1 xs/\SqO t2 s.heap l2 ys/\R (.ok (.ret (.ref (zD t1 t2 s.heap l1 l2).objs.size))) { s with heap:=zE t1 t2 s.heap l1 l2}) :=
 .of_wp fun prog w A R s h=>by
  obtain⟨hp,g,d,tk,os⟩:=s;obtain⟨hl1,hl2,h⟩:=h;have hsub:=sub_zip;have hL1:SqO t1 (Shared.heap ⟨hp,g,d,tk,os⟩) l1 xs:=hl1;have hL2:SqO t2 (Shared.heap ⟨hp.push { cls:=.type (itN t1),data:=.fields #[.ref l1,.int 0 0]},g,d,tk,os⟩) l2 ys:=hl2.at' fun o e=>qac _ e
  wp_walk using vk hL1,vk hL2
  exact⟨_,rfl,h⟩
section
variable {prog:Program} {w:World} {A:Around} {E:Value→Shared→Prop} {s:Shared}
def yj(hl1:SqO t1 s.heap l1 xs)(hl2:SqO t2 s.heap l2 ys)
  (h:∀h',IsZip h' (s.heap.objs.size+4) (s.heap.objs.size+2) (s.heap.objs.size+3) .none->IsPair h' (s.heap.objs.size+2) (.ref s.heap.objs.size) (.ref (s.heap.objs.size+1)) ->
   IsPair h' (s.heap.objs.size+3) .none .none->SqI t1 h' s.heap.objs.size l1 0->SqI t2 h' (s.heap.objs.size+1) l2 0->h'.objs.size=s.heap.objs.size+5 ->
   (∀c o,s.heap.get? c=some o->h'.get? c=some o)->Q (.ref (s.heap.objs.size+4)) { s with heap:=h'}) :
  wpAny (model prog w) A (call (.type "zip") [.ref l1,.ref l2]) Q E s:=by
 refine callType_new F.called_zip (by decide) (F.typeCall_zip_2 _ _) (F.newCall_zip_2 _ _) (fun obj=>F.args_object_init_3 obj _ _) F.entry_zip_new (zip_new t1 t2 l1 l2 xs ys) ⟨hl1,hl2,?_⟩;have z1:(zA t1 s.heap l1).objs.size=s.heap.objs.size+1:=qbi ..;have z2:(zB t1 t2 s.heap l1 l2).objs.size=s.heap.objs.size+2:=by rw[qbi,z1]
 have z3:(zC t1 t2 s.heap l1 l2).objs.size=s.heap.objs.size+3:=by rw[qbi,z2]
 have z4:(zD t1 t2 s.heap l1 l2).objs.size=s.heap.objs.size+4:=by rw[qbi,z3]
 have z5:(zE t1 t2 s.heap l1 l2).objs.size=s.heap.objs.size+5:=by rw[qbi,z4]
 have g5:(zE t1 t2 s.heap l1 l2).get? (zD t1 t2 s.heap l1 l2).objs.size=some _:=qav _ rfl;have g4:(zE t1 t2 s.heap l1 l2).get? (zC t1 t2 s.heap l1 l2).objs.size=some _:=qac _ (qav _ rfl);have g3:(zE t1 t2 s.heap l1 l2).get? (zB t1 t2 s.heap l1 l2).objs.size=some _:=qac _ (qac _ (qav _ rfl));have g2:(zE t1 t2 s.heap l1 l2).get? (zA t1 s.heap l1).objs.size=some _:=qac _ (qac _ (qac _ (qav _ rfl)));have g1:(zE t1 t2 s.heap l1 l2).get? s.heap.objs.size=some _:=qac _ (qac _ (qac _ (qac _ (qav _ rfl))));show _/\_;rw[z2,z3,z4] at g5;rw[z1,z2] at g3;rw[z3] at g4;rw[z1] at g2;rw[z4]
 exact⟨⟨_,g5,rfl⟩,h _ g5 g3 g4 ⟨_,g1,rfl,rfl⟩ ⟨_,g2,rfl,rfl⟩ z5 fun c o x =>
  qac _ (qac _ (qac _ (qac _ (qac _ x))))⟩
end
end SeqT
namespace MM
open PySem PySem.Spec PyProof.Rows L2 SeqT
def SqB(tp:Bool)(K:qab)(H:Hp)(a:Addr)(ys:List V):Prop:=match tp with
 | true=>SqT K H a ys
 | false=>SqL K H a ys
section
variable {X:Cx} {G6:List (Addr × Obj)} {σ:L2.St} {H:Hp} {s:Shared}
def jk(I:Inv X G6 σ H s)(h:SqB tp X.K H a ys):∃its:List Value,aF ys its/\SqO tp s.heap a its.toArray/\ys.length<=sizeLine:=by
 cases tp with
 | true =>
  obtain⟨its,rv,pl,hz⟩:=I.tuple h;exact⟨its,rv,pl,hz⟩
 | false =>
  obtain⟨its,rv,pl,hz⟩:=I.list h;exact⟨its,rv,pl.isList,hz⟩
def uS(I:Inv X G6 σ H s)(h:SqB tp X.K H a xs)(h':SqB tp X.K H a ys):xs=ys:=by
 cases tp with
 | true=>exact I.tuple_inj h h'
 | false=>exact I.list_inj h h'
def nX(I:Inv X G6 σ H s){h':Heap}{t':Nat}{ch:List Addr}(hf:∀b∈ch,iH X G6 H b)(k:∀b o,b∉ch->s.heap.get? b=some o->h'.get? b=some o) :
  Inv X G6 σ H { s with heap:=h',toks:=t'}:=by
 have nit:∀b u,H b=some u->b∉ch:=fun b u e z=>by rw[(hf b z).1] at e;cases e
 refine I.step (g':=s.gens) (d':=s.drawn) (ch:=ch) (fun b hb=>?_) (fun b o _ _ hc e _=>k b o hc e) (fun b o _ _ hc e _=>⟨o.slots,k b o hc e⟩) (fun _ _ _ _ n=>n)
  (fun b o hc e=>⟨o,k b o hc e⟩) (fun _ _ e=>e) (fun _ _ _ e=>e) (fun b ps e=>⟨#[],by rw[e];simp⟩) (fun m hm=>?_) (fun b u e=>?_) I.bare
 ·obtain⟨f0,f1,f2,f3,f4,f5⟩:=hf b hb;exact⟨f3,f1,f4,f5⟩
 ·obtain⟨o,es,ep,ho,r⟩:=hm;exact⟨o,es,ep,k _ o (fun z=>(hf _ z).2.1 rfl) ho,r⟩
 ·refine (I.hok b u e).stay (fun c v hc q=>k c v ?_ q) (fun _ q=>q) fun _ _ q=>q;rcases hc with z|z
  ·rw[z];exact nit b u e
  ·exact nit c _ z
def inv_tup(I:Inv X G6 σ H s){h':Heap}{t':Nat}{ch:List Addr}{ys:List V}{its:List Value}(hf:∀b∈ch,iH X G6 H b)(rv:aF ys its)(hz:ys.length<=sizeLine)(hch:s.heap.objs.size∉ch)
  (ht:h'.get? s.heap.objs.size=some { cls:=.type "tuple",data:=.seq its.toArray}) (k:∀b o,b∉ch->s.heap.get? b=some o->h'.get? b=some o) :
  Inv X G6 σ (upd H s.heap.objs.size (.tup ys)) { s with heap:=h',toks:=t'}/\(∀b∈ch,(upd H s.heap.objs.size (.tup ys)) b=none)/\H s.heap.objs.size=none:=by
 have hfr:=I.hok.fresh (qai s.heap.objs.size);have hne:∀b∈ch,b≠s.heap.objs.size:=fun b hb z=>hch (by rw[<-z];exact hb);have I1:Inv X G6 σ (upd H s.heap.objs.size (.tup ys)) { s with heap:=s.heap.push { cls:=.type "tuple",data:=.seq its.toArray},toks:=s.toks} :=
  I.laid (o:=.tup ys) (fun b u q=>qac _ q) (qai _) ⟨hz,its,rv,_,qav _ rfl,rfl,⟨_,rfl⟩,rfl⟩
 have hup:∀b∈ch,(upd H s.heap.objs.size (.tup ys)) b=none:=fun b hb=>by rw[aV (hne b hb)];exact (hf b hb).1
 refine⟨?_,hup,hfr⟩;refine nX (t':=t') I1 (ch:=ch) (fun b hb=>⟨hup b hb,(hf b hb).2⟩) fun b o hb e=>?_;by_cases z:b=s.heap.objs.size
 ·subst z;have e':(s.heap.push { cls:=.type "tuple",data:=.seq its.toArray}).get? s.heap.objs.size=some { cls:=.type "tuple",data:=.seq its.toArray}:=qav _ rfl;rw[show ({ s with heap:=s.heap.push { cls:=.type "tuple",data:=.seq its.toArray},toks:=s.toks}:Shared).heap=s.heap.push { cls:=.type "tuple",data:=.seq its.toArray} from rfl,e'] at e;cases e;exact ht
 ·have e':(s.heap.push { cls:=.type "tuple",data:=.seq its.toArray}).get? b=some o:=e;rw[Heap.get?_push_ne _ _ _ z] at e';exact k b o hb e'
end
def Itz(K:qab)(t1 t2:Bool)(a b:Addr):It :=
 ⟨fun i H=>∃xs ys x y,SqB t1 K H a xs/\SqB t2 K H b ys/\xs[i]?=some x/\ys[i]?=some y,
   fun i H v H'=>∃p x y,H p=none/\v=.ref p/\H'=upd H p (.tup [x,y])/\(∀xs,SqB t1 K H a xs->xs[i]?=some x)/\∀ys,SqB t2 K H b ys->ys[i]?=some y,
   fun i H=>∃xs ys,SqB t1 K H a xs/\SqB t2 K H b ys/\(xs.length<=i\/ys.length<=i)⟩
def yy{P:Program}{w:World}{K:qab}{elts:List Expr}{x1:Nat}{pos:Pos}(t1 t2:Bool)(a b z TI TO i1 i2:Addr)(D:ZipApart z TI TO i1 i2 a b) :
  Turn P w K (.Tuple elts x1 pos) (Itz K t1 t2 a b) [z,TI,TO,i1,i2] z (fun i h=>IsZip h z TI TO .none/\IsPair h TI (.ref i1) (.ref i2)/\(∃u v,IsPair h TO u v)/\SqI t1 h i1 a i/\SqI t2 h i2 b i) where
 mem:=by simp
 obj:=fun i h st c hc=>by
  obtain⟨hz,hTI,⟨u,v,hTO⟩,⟨o1,e1,_,d1⟩,⟨o2,e2,_,d2⟩⟩:=st
  have:c=z\/c=TI\/c=TO\/c=i1\/c=i2:=by simpa using hc
  rcases this with rfl|rfl|rfl|rfl|rfl
  ·exact⟨_,hz,fun v z=>nomatch z⟩
  ·exact⟨_,hTI,fun v z=>nomatch z⟩
  ·exact⟨_,hTO,fun v z=>nomatch z⟩
  ·exact⟨o1,e1,fun v z=>by rw[d1] at z;cases z⟩
  ·exact⟨o2,e2,fun v z=>by rw[d2] at z;cases z⟩
 keep:=fun i h h' st k=>let ⟨hz,hTI,⟨u,v,hTO⟩,h1,h2⟩:=st
  ⟨k z (by simp) _ hz,k TI (by simp) _ hTI,⟨u,v,k TO (by simp) _ hTO⟩,h1.at' fun o q=>k i1 (by simp) o q,h2.at' fun o q=>k i2 (by simp) o q⟩
 item:=by
  intro X hP hw hK hc i G6 s σ H E I hf st hg;subst hP hw hK;obtain⟨hz,hTI,⟨u,v,hTO⟩,h1,h2⟩:=st;obtain⟨xs,ys,x,y,hq1,hq2,hx,hy⟩:=hg;obtain⟨its1,rv1,so1,hz1⟩:=jk I hq1;obtain⟨its2,rv2,so2,hz2⟩:=jk I hq2;obtain⟨u1,hu1,ru1⟩:=rv1.get hx;obtain⟨u2,hu2,ru2⟩:=rv2.get hy;refine yQ D hz hTI hTO h1 h2 so1 so2 (x:=u1) (y:=u2) (by simpa using hu1) (by simpa using hu2) fun ha hza hTOa h1a h2a hTa hsa hka=>⟨_,rfl,?_⟩;refine wpAny_letOwnedTupleGo_zip (s:={ s with heap:=ha}) hza fun hb hzb sb=>?_;replace sb:Heap.SameBut z ha hb:=sb;have l1:z<s.heap.objs.size:=qam hz;have l2:TI<s.heap.objs.size:=qam hTI;have l3:TO<s.heap.objs.size:=qam hTO;have l4:i1<s.heap.objs.size:=h1.lt;have l5:i2<s.heap.objs.size:=h2.lt;have up:∀c o,c≠z->ha.get? c=some o->hb.get? c=some o:=fun c o hc q=>(sb.2 c hc).trans q;obtain⟨I2,hup,hfr⟩:=inv_tup (t':=s.toks) (h':=hb) I (ch:=[z,TI,TO,i1,i2]) (ys:=[x,y]) (its:=[u1,u2]) hf (.cons ru1 (.cons ru2 .nil)) (by rw[sizeLine_eq];show 2<=_;decide)
   (by simp only[qaj,qaB,or_false,not_or];exact⟨qbj l1,qbj l2,qbj l3,qbj l4,qbj l5⟩)
   (up _ _ (qbj l1) hTa)
   (fun c o hc q=>up c o (fun e=>hc (by simp[e])) (hka c o (fun e=>hc (by simp[e])) (fun e=>hc (by simp[e])) (fun e=>hc (by simp[e])) (fun e=>hc (by simp[e])) q))
  refine⟨.ref s.heap.objs.size,_,I2,rfl,⟨_,x,y,hfr,rfl,rfl,fun zs hzs=>by rw[uS I hzs hq1];exact hx,fun zs hzs=>by rw[uS I hzs hq2];exact hy⟩,⟨hzb,?_,⟨_,_,up _ _ D.TOz hTOa⟩,h1a.at' fun o q=>up _ o D.i1z q,h2a.at' fun o q=>up _ o D.i2z q⟩,hup⟩;exact up _ _ D.TIz (hka _ _ D.TIz D.TITO D.TIi1 D.TIi2 hTI)
 done:=by
  intro X hP hw hK hc i G6 s σ H E I hf st hg;subst hP hw hK;obtain⟨hz,hTI,⟨u,v,hTO⟩,h1,h2⟩:=st;obtain⟨xs,ys,hq1,hq2,hend⟩:=hg;obtain⟨its1,rv1,so1,hz1⟩:=jk I hq1;obtain⟨its2,rv2,so2,hz2⟩:=jk I hq2;have e1:=rv1.length;have e2:=rv2.length;have hT:s.TypeIs (.ref z) "zip":=⟨_,hz,rfl⟩;have hin:(X.A.in1).handled=none:=by have:=I.ok.hd hc;simpa using this
  refine zip_end (I.ok.hd hc) D hz hTI hTO h1 h2 so1 so2 ?_ fun h' hk=>⟨rfl,nX (t':=s.toks) I hf fun c o hc q=>hk c o (fun e=>hc (by simp[e])) (fun e=>hc (by simp[e])) (fun e=>hc (by simp[e])) (fun e=>hc (by simp[e])) q⟩;rcases hend with q|q
  ·exact .inl (by simp;ext)
  ·exact .inr (by simp;ext)
 self:=fun A i s Q E st h=>wpAny_pyIter_zip st.1 h
def cZ(v:PV)(h:MH):Option (Bool × List PV × List (Nat × List PV)):=match v with
 | .loc n=>(match h[n]? with
  | some (.lst xs)=>some (false,xs,[(n,xs)])
  | _=>none)
 | .frl xs=>some (false,xs,[])
 | .tup xs=>some (true,xs,[])
 | _=>none
def xK{X:Cx}{ρ:List Addr}{H:Hp}{h:MH}{x:PV}{y:V}{tp:Bool}{xs:List PV}{gd:List (Nat × List PV)}(rh:RH X.K X.mg ρ H h)(r:RP X.K ρ H x y)(e:cZ x h=some (tp,xs,gd)) :
  ∃a,y=.ref a/\(∃ys,SqB tp X.K H a ys)/\∀ρ' H' h',Le ρ H ρ' H'->RH X.K X.mg ρ' H' h'->(∀p∈gd,h'[p.1]?=some (.lst p.2))->∃ys,SqB tp X.K H' a ys/\RPs X.K ρ' H' xs ys:=by
 cases r with
 | frl s r=>cases e;exact⟨_,rfl,⟨_,s.sq⟩,fun ρ' H' h' l _ _=>⟨_,(l.sqf s).sq,r.le l⟩⟩
 | tup s r=>cases e;exact⟨_,rfl,⟨_,s⟩,fun ρ' H' h' l _ _=>⟨_,l.sqt s,r.le l⟩⟩
 | @loc n a en =>
  obtain⟨o,eo,ro⟩:=rh.obj en;unfold cZ at e;dsimp only at e;rw[eo] at e
  cases o with
  | lst zs =>
   cases e;obtain⟨ys,ey,ry⟩:=ro;refine⟨a,rfl,⟨ys,SqL.of ey⟩,fun ρ' H' h' l rh' ok=>?_⟩;obtain⟨ys',ey',ry'⟩:=rh'.at' n a _ (l.get en) (ok (n,xs) (by simp));exact⟨ys',SqL.of ey',ry'⟩
  | _=>cases e
 | _=>cases e
def cN(xs ys:List PV):List PV:=(xs.zip ys).map fun p=>.tup [p.1,p.2]
def tT(xs ys:List PV):(cN xs ys).length=min xs.length ys.length:=by simp[cN]
def zv{xs ys:List PV}{i:Nat}{x y:PV}(h1:xs[i]?=some x)(h2:ys[i]?=some y):(cN xs ys)[i]?=some (.tup [x,y]):=by
 unfold cN;rw[qaK]
 have:(xs.zip ys)[i]?=some (x,y):=by rw[List.getElem?_zip_eq_some];exact⟨h1,h2⟩
 rw[this];rfl
def mItZ(m:Mx (List PV)):Mx MIt:=fun σ h=>(m σ h).bind fun vs h1=>match vs with
 | [x,y]=>(match cZ x h1,cZ y h1 with
  | some (_,xs,g1),some (_,ys,g2)=>.ok ⟨cN xs ys,g1++g2⟩ h1
  | _,_=>.bad)
 | _=>.bad
section
variable {X:Cx} {N W G:List Str} {k:Nat}
def mi_zip(g:Good X N W G k){elts:List Expr}{x1:Nat}{tp:Pos}{a b:Expr}{m:Mx (List PV)}{p pos:Pos}{j:Nat}(hj:G[j]?=some "zip")(hm:X.mg "zip"=none)(ha:MA X [a,b] m)
  (hs:starEach [a,b] X.env=(false,eval a X.env)::starEach [b] X.env:=by rfl) (hpl:(backTo pos (starEach [b] X.env)).any (·.1)=false:=by rfl):MI X (.Tuple elts x1 tp) (.Call (.Name "zip" p) [a,b] [] pos) (mItZ m):=by
 have d:=g.dbg _ (qad _ (az hj));intro G6 s σ H R I ⟨ρ,σp,h,rs,rh,q⟩;refine wpAny_Call_Name_kw (kZ I (g.gl _ (az hj)) hm PyProof.Rows.Boot.«zip» ?_ d.2.2 d.1)
 refine PyProof.Rows.callWith_type1 (thn (ha pos G6 s σ H (fun vs H1=>∃ρ1 h1 xs,Le ρ H ρ1 H1/\RH X.K X.mg ρ1 H1 h1/\RPs X.K ρ1 H1 xs vs/\Ful X (sZ X) σp ρ1 H1 ((match xs with
   | [x,y]=>(match cZ x h1,cZ y h1 with | some (_,xs,g1),some (_,ys,g2)=>.ok ⟨cN xs ys,g1++g2⟩ h1 | _,_=>.bad)
   | _=>.bad:Out MIt)) R) I ⟨ρ,σp,h,rs,rh,Ful.bind q fun ρ1 H1 v v' h1 _ l1 rh1 rv q1=>⟨ρ1,h1,v,l1,rh1,rv,q1⟩⟩) fun us s1 ⟨vs,H1,I1,r1,ρ1,h1,xs,l1,rh1,rv,q1⟩=>?_) hs hpl
 cases rv with
 | nil=>exact q1.elim
 | @cons y y' ys ys' ry t1 =>
  cases t1 with
  | nil=>exact q1.elim
  | @cons v v' vs2 vs2' rv t2 =>
   cases t2 with
   | cons _ _=>exact q1.elim
   | nil =>
    dsimp only at q1
    cases hsq:cZ y h1 with
    | none=>rw[hsq] at q1;exact q1.elim
    | some z =>
     obtain⟨b1,zs1,gd1⟩:=z
     cases hsq2:cZ v h1 with
     | none=>rw[hsq,hsq2] at q1;exact q1.elim
     | some z2 =>
      obtain⟨b2,zs2,gd2⟩:=z2;rw[hsq,hsq2] at q1;obtain⟨ad1,rfl,⟨ws1,hws1⟩,rel1⟩:=xK rh1 ry hsq;obtain⟨ad2,rfl,⟨ws2,hws2⟩,rel2⟩:=xK rh1 rv hsq2
      cases r1 with
      | @cons _ u1 _ us1 ru1 tu1 =>
       cases tu1 with
       | @cons _ u2 _ us2 ru2 tu2 =>
        cases tu2;cases ru1;cases ru2;obtain⟨its1,rvv1,so1,hz1⟩:=jk I1 hws1;obtain⟨its2,rvv2,so2,hz2⟩:=jk I1 hws2;refine yj so1 so2 fun h' hz hTI hTO hi1 hi2 hsz hk=>?_;refine wpAny_pyIter_zip hz ?_;have I2:Inv X G6 σ H1 { s1 with heap:=h',toks:=s1.toks}:=I1.kept hk;obtain⟨oa1,hoa1,_,_⟩:=id so1;obtain⟨oa2,hoa2,_,_⟩:=id so2;have lt1:ad1<s1.heap.objs.size:=qam hoa1;have lt2:ad2<s1.heap.objs.size:=qam hoa2;have sN:∀(n:Nat),s1.heap.objs.size<=s1.heap.objs.size+n:=fun n=>Nat.le_add_right _ _;have ap:∀(c:Addr) (n:Nat),c<s1.heap.objs.size->c≠s1.heap.objs.size+n:=fun c n hc=>qaL (qau hc (sN n));have ne':∀(m n:Nat),m≠n->s1.heap.objs.size+m≠s1.heap.objs.size+n:=fun m n hmn e=>hmn (Nat.add_left_cancel e);have D:ZipApart (s1.heap.objs.size+4) (s1.heap.objs.size+2) (s1.heap.objs.size+3) s1.heap.objs.size (s1.heap.objs.size+1) ad1 ad2 :=
         ⟨ne' 2 4 (by decide),ne' 3 4 (by decide),ne' 0 4 (by decide),ne' 1 4 (by decide),ne' 2 3 (by decide),ne' 2 0 (by decide),ne' 2 1 (by decide),ne' 3 0 (by decide),ne' 3 1 (by decide),ne' 0 1 (by decide),
          ap ad1 4 lt1,ap ad1 3 lt1,ap ad1 0 lt1,ap ad1 1 lt1,ap ad2 4 lt2,ap ad2 3 lt2,ap ad2 0 lt2,ap ad2 1 lt2⟩
        refine⟨s1.heap.objs.size+4,_,_,_,H1,rfl,I2,yy b1 b2 ad1 ad2 _ _ _ _ _ D,⟨hz,hTI,⟨_,_,hTO⟩,hi1,hi2⟩,fun c hc=>?_,?_⟩
        ·have F:∀n:Nat,iH X G6 H1 (s1.heap.objs.size+n):=fun n=>Inv.fpOk I1 (H':=H1) (sN n) (I1.hok.fresh (sN n))
         have:c=s1.heap.objs.size+4\/c=s1.heap.objs.size+2\/c=s1.heap.objs.size+3\/c=s1.heap.objs.size\/c=s1.heap.objs.size+1:=by simpa using hc
         rcases this with rfl|rfl|rfl|rfl|rfl
         ·exact F 4
         ·exact F 2
         ·exact F 3
         ·exact F 0
         ·exact F 1
        ·refine q1 ρ1 H1 _ (Le.refl _ _) rh1 ?_;intro ρ' H' h2 i l rh' ok;obtain⟨ws1',hws1',rws1⟩:=rel1 ρ' H' h2 l rh' (fun p hp=>ok p (qay _ hp));obtain⟨ws2',hws2',rws2⟩:=rel2 ρ' H' h2 l rh' (fun p hp=>ok p (qad _ hp));refine⟨fun hi'=>?_,fun hi'=>⟨ws1',ws2',hws1',hws2',?_⟩⟩
         ·rw[tT] at hi';have hx1:zs1[i]?=some (zs1[i]'(by ext)):=qaJ (by ext);have hx2:zs2[i]?=some (zs2[i]'(by ext)):=qaJ (by ext);obtain⟨w1,ew1,rw1⟩:=rws1.get hx1;obtain⟨w2,ew2,rw2⟩:=rws2.get hx2;refine⟨⟨ws1',ws2',w1,w2,hws1',hws2',ew1,ew2⟩,fun x' H3 ⟨pp,y1,y2,hp,e1,e2,hall1,hall2⟩=>?_⟩;subst e1;subst e2;have ey1:y1=w1:=by
           have:=hall1 ws1' hws1'
           rw[ew1] at this;exact (Option.some.inj this).symm
          have ey2:y2=w2:=by
           have:=hall2 ws2' hws2'
           rw[ew2] at this;exact (Option.some.inj this).symm
          subst ey1;subst ey2;obtain⟨rh3,l3⟩:=rh'.tup hp [y1,y2];exact⟨ρ',_,l3,rh3,zv hx1 hx2,.tup (SqT.of bC) (.cons (rw1.le l3) (.cons (rw2.le l3) .nil))⟩
         ·rw[tT] at hi';have a1:=rws1.length;have a2:=rws2.length;ext
end
end MM
namespace MM
open PySem PySem.Spec PyProof.Rows L2 SetT SortT
def jN:List PV->Option (List Int)
 | []=>some []
 | .int i::r=>(jN r).map (i::·)
 | _=>none
def vt:∀{xs:List PV} {k:List Int},jN xs=some k->xs=k.map .int
 | [],k,h=>by cases h;rfl
 | x::r,k,h=>by
  cases x with
  | int i =>
   unfold jN at h
   cases hr:jN r with
   | none=>rw[hr] at h;cases h
   | some kr =>
    rw[hr] at h;cases h;rw[vt hr];rfl
  | _=>cases h
section
variable {X:Cx} {N W G:List Str} {k:Nat}
end
def mss_bad:MSs X b (fun _ _=>.bad):=fun G6 s σ H D I ⟨ρ,σp,h,rs,rh,q⟩=>q.elim
end MM
namespace MM
open PySem PySem.Spec PyProof.Rows L2
local instance (priority:=1) cdec26 (p:Prop):Decidable p:=Classical.propDecidable p
def pC(I:Nat->PSt->MH->Prop):∀(xs:List PV) (j:Nat) (σ:PSt) (h:MH),I j σ h->(∀j σ h,I j σ h->it.ok h) ->
  (∀m σ h x,I (j+m) σ h->xs[m]?=some x->∃σ1 h1 σ' h',g x σ h=.nx σ1 h1/\b σ1 h1=.nx σ' h'/\I (j+m+1) σ' h') ->
  ∃σ' h',mGo it g b xs σ h=.nx σ' h'/\I (j+xs.length) σ' h'
 | [],j,σ,h,hI,hok,_=>⟨σ,h,uy (hok _ _ _ hI),hI⟩
 | x::r,j,σ,h,hI,hok,st=>by
  obtain⟨σ1,h1,σ2,h2,e1,e2,I1⟩:=st 0 σ h x hI rfl;obtain⟨σ3,h3,e3,I3⟩:=pC I r (j+1) σ2 h2 I1 hok fun m σ' h' y q z=>by
   have:=st (m+1) σ' h' y (by rw[show j+(m+1)=j+1+m by lia];exact q) (by simpa using z)
   rw[show j+(m+1)+1=j+1+m+1 by lia] at this;exact this
  refine⟨σ3,h3,?_,by rw[qbd,show j+(r.length+1)=j+1+r.length by lia];exact I3⟩;rw[yG (hok _ _ _ hI) e1,e2];exact e3
def MIt.ok_app{it:MIt}{h g:MH}(o:it.ok h):it.ok (h++g):=fun p hp=>rc (o p hp)
def mU{it:MIt}{h1:MH}{gt:Mg}{mt:Mx Bool}{me:Mx PV}{nv:Nat}{fr:PSt}(ok:it.ok h1)(p:PV->Bool)(f:PV->PV):∀(xs:List PV) (vs:PSt) (acc:List PV) (g0:MH),vs.length=nv->acc.length+xs.length<=1000 ->
  (∀x∈xs,∀(vs:PSt) (g:MH),vs.length=nv->∃vs':PSt,vs'.length=nv/\gt x (vs++fr) (h1++g)=.nx (vs'++fr) (h1++g)/\∃g1,mt (vs'++fr) (h1++g)=.ok (p x) (h1++g++g1)/\(p x=true->∃g2,me (vs'++fr) (h1++g++g1)=.ok (f x) (h1++g++g1++g2))) ->
  ∃g,cGo it h1.length gt mt me xs (vs++fr) (h1++.lst acc::g0)=.ok () (h1++.lst (acc++(xs.filter p).map f)::g)
 | [],vs,acc,g0,hv,hl,body=>⟨g0,by rw[pq (MIt.ok_app ok)];simp⟩
 | x::r,vs,acc,g0,hv,hl,body=>by
  obtain⟨vs',hv',e1,g1,e2,e3⟩:=body x (by simp) vs (.lst acc::g0) hv;have rest:=fun (y:PV) (hy:y∈r)=>body y (qal _ hy)
  cases hp:p x with
  | true =>
   obtain⟨g2,e4⟩:=e3 hp;rw[hp] at e2;have el:(h1++.lst acc::g0++g1++g2)[h1.length]?=some (.lst acc):=by
    rw[qaH,qaH,qaw (qai _)];simp
   rw[pS (MIt.ok_app ok) e1 e2 e4 el (by simp at hl;lia)];have es:(h1++.lst acc::g0++g1++g2).set h1.length (.lst (acc++[f x]))=h1++.lst (acc++[f x])::(g0++g1++g2):=by
    rw[qaH,qaH,List.set_append_right _ _ (qai _)];simp
   rw[es];obtain⟨g3,e5⟩:=mU ok p f r vs' (acc++[f x]) (g0++g1++g2) hv' (by simp at hl ⊢;lia) rest;refine⟨g3,?_⟩;rw[e5,qcj hp];simp
  | false =>
   rw[hp] at e2;rw[cGo_no (MIt.ok_app ok) e1 e2];have es:h1++.lst acc::g0++g1=h1++.lst acc::(g0++g1):=by simp
   rw[es];obtain⟨g3,e5⟩:=mU ok p f r vs' acc (g0++g1) hv' (by simp at hl;lia) rest;refine⟨g3,?_⟩;rw[e5,qck (by simp[hp])]
def qq{it:MIt}{σ:PSt}{h h1:MH}{mi:Mx MIt}{gt:Mg}{mt:Mx Bool}{me:Mx PV}{nv:Nat}{fm:List Nat}(em:mi σ h=.ok it h1)(ok:it.ok h1)(hl:it.xs.length<=1000)(p:PV->Bool)(f:PV->PV)
  (body:∀x∈it.xs,∀(vs:PSt) (g:MH),vs.length=nv->∃vs':PSt,vs'.length=nv/\gt x (vs++fm.map fun i=>(σ[i]?).getD none) (h1++g)=.nx (vs'++fm.map fun i=>(σ[i]?).getD none) (h1++g) /\
   ∃g1,mt (vs'++fm.map fun i=>(σ[i]?).getD none) (h1++g)=.ok (p x) (h1++g++g1)/\(p x=true->∃g2,me (vs'++fm.map fun i=>(σ[i]?).getD none) (h1++g++g1)=.ok (f x) (h1++g++g1++g2))) :
  ∃g,bI nv fm mi gt mt me σ h=.ok (.loc h1.length) (h1++.lst ((it.xs.filter p).map f)::g):=by
 obtain⟨g,e⟩:=mU (nv:=nv) (fr:=fm.map fun i=>(σ[i]?).getD none) (me:=me) (mt:=mt) (gt:=gt) ok p f it.xs (List.replicate nv none) [] [] (by simp) (by simpa using hl) body;refine⟨g,?_⟩;rw[m5,em];simp only[Out.bind_ok];unfold cSt;rw[e];simp
end MM
namespace MM
open PySem PySem.Spec PyProof.Rows L2 SetT SortT
section
variable {h:MH} {i:Int} {xs:List PV} {n:Nat}
def qI(e:h[n]?=some (.lst xs)):cz h (.loc n)=some xs:=by simp[cz,e]
def v6(e:h[n]?=some (.lst xs)):fTuple [.loc n] h=.ok (.tup xs) h:=by simp[fTuple,qI e]
def sw:∀(m:Nat),kl (List.replicate m (.bl true))=some (List.replicate m true)
 | 0=>rfl
 | m+1=>by
  rw[qaO,qaO];unfold kl;rw[sw m];rfl
def qu(e:h[n]?=some (.lst (List.replicate m (.bl true)))):fAll [.loc n] h=.ok (.bl true) h:=by
 simp[fAll,qI e,sw]
end
def itR1'(em:m σ h=.ok [.int j] h1)(z:-(2 ^ 62)<=j/\j<2 ^ 62):d7 m σ h=.ok ⟨bX 0 j.toNat,[]⟩ h1:=by
 rw[zi,em];simp only[Out.bind_ok];rw[qae z]
def itR1(em:m σ h=.ok [.int (n:Int)] h1)(hn:n<=100000):d7 m σ h=.ok ⟨bX 0 n,[]⟩ h1:=by
 have z1:-(2 ^ 62)<=(n:Int):=Int.le_trans (by decide) (Int.natCast_nonneg n);have z2:(n:Int)<2 ^ 62:=Int.lt_of_le_of_lt (Int.ofNat_le.mpr hn) (by decide)
 have:=itR1' em ⟨z1,z2⟩
 rwa [qcg] at this
def int_mk{K:qab}{n:Str}{i:Int}{t:Nat}(e:PySem.W.nsIn K mainGlobals n=some (some (.int i t))):∃t,PySem.W.nsIn K mainGlobals n=some (some (.int i t)):=⟨t,e⟩
end MM
namespace MM
open PySem PySem.Spec PyProof.Rows L2
local instance (priority:=1) cdec28 (p:Prop):Decidable p:=Classical.propDecidable p
section
variable {X:Cx} {N W G:List Str} {k:Nat}
inductive IsAll (K:qab) (mg:MGl) (cs:List Str):List Addr->List Str->Prop where
 | nil:IsAll K mg cs [] []
 | cons {D:Addr} {sup:List Str} {Ds:List Addr} {sups:List Str} (h:IsiC K mg (.ref D) cs sup) (t:IsAll K mg cs Ds sups):IsAll K mg cs (D::Ds) (sup++sups)
def tCs(Ds:List Addr):TA:=fun σ H Q=>Q (Ds.map V.ref) H
def ICs(X:Cx)(cs:List Str)(es:List Expr)(sups:List Str):Prop:=∃Ds,IsAll X.K X.mg cs Ds sups/\PA X es (tCs Ds)/\Ds.length=es.length
def ics_nil:ICs X cs [] []:=⟨[],.nil,PA.imp eY fun σ H Q q=>q,rfl⟩
def dt(g:Good X N W G k){c:Str}{cs sup sups:List Str}{j:Nat}{q:Pos}{es:List Expr}(hj:G[j]?=some c)(IC:∃D,X.mg c=some (.ref D)/\IsiC X.K X.mg (.ref D) cs sup)(t:ICs X cs es sups)
  (he:starEach (.Name c q::es) X.env=(false,eval (.Name c q) X.env)::starEach es X.env:=by rfl):ICs X cs (.Name c q::es) (sup++sups):=by
 obtain⟨D,hm,hi⟩:=IC;obtain⟨Ds,ha,hp,hl⟩:=t;have d:=g.dbg c (qad _ (az hj));exact⟨D::Ds,.cons hi ha,PA.imp (bR (lR (v:=.ref D) (u:=.ref D) (g.gl c (az hj)) hm rfl d.1) hp he) fun σ H Q q=>q,congrArg (·+1) hl⟩
def uf{K:qab}{mg:MGl}{cs:List Str}{Ds:List Addr}{sups:List Str}(h:IsAll K mg cs Ds sups){t:String}(ht:t∈["NoneType","bool","int","str","tuple","list","dict"]):PySem.W.kitAny K (.type t) (Ds.map Value.ref)=some false:=by
 induction h with
 | nil=>rfl
 | cons hi _ ih=>rw[qaE];unfold PySem.W.kitAny;rw[hi.ty t ht];exact ih
def wo{K:qab}{mg:MGl}{cs:List Str}{Ds:List Addr}{sups:List Str}(h:IsAll K mg cs Ds sups){x:Str}(hx:x∈cs){C:Addr}(hm:mg x=some (.ref C)):PySem.W.kitAny K (.ref C) (Ds.map Value.ref)=some (sups.contains x):=by
 induction h with
 | nil=>rfl
 | @cons D sup Ds sups hi _ ih =>
  rw[qaE];unfold PySem.W.kitAny;obtain⟨C',hm',_,_,hk⟩:=hi.ex x hx;rw[hm] at hm';cases hm';rw[hk]
  cases z:sup.contains x with
  | true =>
   have:(sup++sups).contains x=true:=by rw[qbu] at z ⊢;exact qay _ z
   rw[this]
  | false =>
   have:(sup++sups).contains x=sups.contains x:=by
    have z':x∉sup:=fun y=>by rw[<-qbu] at y;rw[y] at z;cases z
    cases y:sups.contains x with
    | true=>rw[qbu] at y ⊢;exact qad _ y
    | false =>
     have y':x∉sups:=fun q=>by rw[<-qbu] at q;rw[q] at y;cases y
     cases w:(sup++sups).contains x with
     | false=>rfl
     | true=>rw[qbu] at w;rcases qap.mp w with q | q;exact absurd q z';exact absurd q y'
   rw[this];exact ih
def yc{Ds:List Addr}:∀{its:List Value},aF (Ds.map V.ref) its->its=Ds.map Value.ref:=by
 induction Ds with
 | nil=>intro its r;cases r;rfl
 | cons D Ds ih =>
  intro its r
  cases r with
  | cons r1 r2=>rw[ih r2];cases r1;rfl
def yF(g:Good X N W G k){a:Expr}{m:Mx PV}{es:List Expr}{cs sups:List Str}{i:Nat}{p pos pt:Pos}{kt}(hi:G[i]?=some "isinstance")(hm:X.mg "isinstance"=none)(IC:ICs X cs es sups){c0:Str}{sup0:List Str}(IC0:∃D,X.mg c0=some (.ref D)/\IsiC X.K X.mg (.ref D) cs sup0)(hl:es.length<=100)(ha:ME X a m)
  (he:starEach [a,.Tuple es kt pt] X.env=(false,eval a X.env)::starEach [.Tuple es kt pt] X.env:=by rfl) (he2:starEach [.Tuple es kt pt] X.env=[(false,eval (.Tuple es kt pt) X.env)]:=by rfl) (hpl:(backTo pos (starEach [.Tuple es kt pt] X.env)).any (·.1)=false:=by rfl) :
  ME X (.Call (.Name "isinstance" p) [a,.Tuple es kt pt] [] pos) (mUn (bn cs sups) m):=by
 obtain⟨Ds,hall,hpa,hlen⟩:=IC;obtain⟨D0,_,hi0⟩:=IC0;have d1:=g.dbg _ (qad _ (az hi));have hcall:cA X (.builtin "isinstance") (fun xs H Q=>∃x' tp,xs=[x',.ref tp]/\SqT X.K H tp (Ds.map V.ref)/\uJ X (bn cs sups) x' H Q):=by
  intro G6 s σ H xs us Q I r ⟨x',tp,e,hsq,ρ,h,x,rh,rx,q⟩;subst e
  cases r with
  | cons r1 t1=>cases t1 with
   | cons r2 t2 =>
    cases t2;cases r2;obtain⟨its,rv,ht,_⟩:=I.tuple hsq;have ei:=yc rv;subst ei;obtain⟨⟨oc,od,odt,osl⟩,ho,hoc,nn,hod⟩:=ht;dsimp only at hoc hod;subst hoc;subst hod;have plain:∀t,tyP h x=some t->bn cs sups x h=.ok (.bl false) h->wpAny (model X.prog X.w) X.A (call (.builtin "isinstance") [_,_]) (EP X G6 σ Q) X.xe s:=fun t et ef=>by
     rw[ef] at q;obtain⟨htm,hne,Hq,Z,hz⟩:=lK I rh rx r1 et;exact PySem.W.kia_tup Z I.kIn hz ho (uf hall htm) hne fun tk=>⟨.bl _,H,I.tok _,rfl,q ρ H _ (Le.refl _ _) rh (.bl _)⟩
    cases x with
    | non=>exact plain _ rfl rfl
    | bl b=>exact plain _ rfl rfl
    | int i=>exact plain _ rfl rfl
    | str i=>exact plain _ rfl rfl
    | tup i=>exact plain _ rfl rfl
    | frl i=>exact plain _ rfl rfl
    | loc n =>
     cases en:h[n]? with
     | none=>simp only[bn,en] at q;exact q.elim
     | some o =>
      cases o with
      | lst xs=>exact plain "list" (by simp[tyP,en]) (by simp[bn,en])
      | dic xs=>exact plain "dict" (by simp[tyP,en]) (by simp[bn,en])
      | exc ex =>
       simp only[bn,en] at q;by_cases hc:cs.contains ex.cls=true
       ·rw[qae hc] at q
        cases rx with
        | @loc n a e =>
         cases r1;obtain⟨o',eo',ro⟩:=rh.obj e;rw[en] at eo';cases eo';obtain⟨_,C,hmc,hH⟩:=ro;have hx:ex.cls∈cs:=by simpa using hc
         obtain⟨C',hm',EQ,hcd,_⟩:=hi0.ex ex.cls hx;rw[hmc] at hm';cases hm';obtain⟨hz,_,_⟩:=(show ObjOk X.prog X.w H s.heap a (.ext (hW a C)) from I.hok a _ hH);exact PySem.W.kia_tup (rg EQ hcd) I.kIn hz ho (wo hall hx hmc) (fun z=>nomatch z) fun tk=>⟨.bl _,H,I.tok _,rfl,q ρ H _ (Le.refl _ _) rh (.bl _)⟩
       ·rw[qao hc] at q;exact q.elim
 refine PE.imp (fy hcall (g.gl _ (az hi)) hm PyProof.Rows.Boot.«isinstance» (bR ha (bR (rN hpa) eY he2) he) d1.2.2 d1.1 he hpl) fun σ H Q ⟨ρ,σp,h,rs,rh,q⟩=>?_;refine⟨ρ,σp,h,rs,rh,Ful.bind q fun ρ1 H1 x x' h1 _ l1 rh1 rx q1=>?_⟩;refine⟨by rw[qaF,hlen];exact qax hl (by decide),fun tp htp=>?_⟩;obtain⟨rh2,l2⟩:=rh1.tup htp (Ds.map V.ref);exact⟨x',tp,rfl,SqT.of bC,ρ1,h1,x,rh2,rx.le l2,(Ful.le l2 q1).zero⟩
end
end MM
namespace MM
open PySem PySem.Spec PyProof.Rows L2 PySem.W
local instance (priority:=1) cdec29 (p:Prop):Decidable p:=Classical.propDecidable p
section
variable {X:Cx}
end
end MM
namespace MM
open PySem PySem.Spec PyProof.Rows L2
section
variable {X:Cx}
def iX:List PV->Option (List Str)
 | []=>some []
 | .str x::r=>(iX r).map (x::·)
 | _=>none
def xZ{K:qab}{ρ:List Addr}{H:Hp}:∀{xs:List PV} {ys:List V} {us:List Value} {ts:List Str},RPs K ρ H xs ys->aF ys us->iX xs=some ts->∃l:List (Str × Tok),us=strValues l/\l.map (·.1)=ts:=by
 intro xs
 induction xs with
 | nil =>
  intro ys us ts r v e;cases r;cases v;cases e;exact⟨[],rfl,rfl⟩
 | cons x xs ih =>
  intro ys us ts r v e
  cases r with
  | cons r1 r2 =>
   cases v with
   | cons v1 v2 =>
    cases r1 with
    | str z =>
     unfold iX at e;rw[qaA] at e;obtain⟨ts',e1,rfl⟩:=e;obtain⟨l,e2,e3⟩:=ih r2 v2 e1;obtain⟨t,rfl⟩:=v1;exact⟨(z,t)::l,by rw[e2];rfl,by rw[<-e3];rfl⟩
    | _=>cases e
def iV(z:Str)(xs:List PV)(h:MH):Out PV:=match xs with
 | [.loc n]=>(match h[n]? with
  | some (.lst ys)=>(match iX ys with
   | some ts=>if JoinOk z ts=true then .ok (.str (Txt.join z ts)) h else .bad
   | none=>.bad)
  | _=>.bad)
 | _=>.bad
def mSm(f:Str->List PV->MH->Out PV)(m:Mx PV)(ma:Mx (List PV)):Mx PV:=fun σ h=>(m σ h).bind fun o h1=>match o with
 | .str x=>(ma σ h1).bind fun vs h2=>(f x vs h2).ne
 | _=>.bad
def smJ(X:Cx)(f:Str->List PV->MH->Out PV):V->List V->Hp->VK->Prop:=fun x' xs' H Q=>∃ρ h z xs,x'=.str z/\RH X.K X.mg ρ H h/\RPs X.K ρ H xs xs'/\iF X (RV' X) ρ H (f z xs h) Q
def mj_join:MtR X "str.join" (smJ X iV):=by
 intro G6 s σ H x vs v us Q I rx rv ⟨ρ,h,z,ps,e,rh,rp,q⟩;subst e;obtain⟨t,rfl⟩:=rx
 cases rp with
 | nil=>exact q.elim
 | cons r1 t1 =>
  cases t1 with
  | cons _ _=>cases r1 <;> exact q.elim
  | nil =>
   cases r1 with
   | @loc n a en =>
    dsimp only[iV] at q;obtain⟨o,eo,ro⟩:=rh.obj en;rw[eo] at q
    cases o with
    | lst xs =>
     obtain⟨ys,ey,ry⟩:=ro;obtain⟨u,rfl,ru⟩:=rv.one;cases ru;obtain⟨_,its,n',r,hl,e⟩:=I.lstM ey;dsimp only at q
     cases es:iX xs with
     | none=>rw[es] at q;exact q.elim
     | some ts =>
      rw[es] at q;dsimp only at q
      split at q
      ·rename_i hj
       obtain⟨l,rfl,el⟩:=xZ ry r es;exact SC.join ⟨_,e,rfl,_,rfl⟩ el hj fun t' k=>⟨.str _,H,I.tok k,⟨t',rfl⟩,q ρ H _ (Le.refl _ _) rh (.str _)⟩
      ·exact q.elim
    | _=>exact q.elim
   | _=>exact q.elim
variable {o e:Expr} {es:List Expr} {name:Str} {apos cpos:Pos} {id:String} {f:Str→List PV→MH→Out PV} {m:Mx PV} {ma:Mx (List PV)}
def me_sm(slot:Slot "str" name id)(hty:typeOf (.builtin id)=pure (.type "method_descriptor"))(hm:MtR X id (smJ X f))(ho:ME X o m)(ha:MA X (e::es) ma)
  (hbase:attributeBase o name X.env (eval o X.env)=eval o X.env:=by rfl)
  (hfew:((backTo cpos (starEach (e::es) X.env)).all (fun x=>!x.1) && (backToKw cpos (keywordEach [] X.env)).all (fun x=>x.1.isSome)
   && decide ((e::es).length+([]:List Keyword).length+(if ([]:List Keyword).isEmpty then 0 else 1)<30))=true:=by rfl)
  (hline:(apos.endLine == cpos.line)=true:=by rfl) (hs:starEach (e::es) X.env=(false,eval e X.env)::starEach es X.env:=by rfl) (hplain:(backTo cpos (starEach es X.env)).any (·.1)=false:=by rfl) :
  ME X (.Call (.Attribute o name apos) (e::es) [] cpos) (mSm f m ma) :=
 PE.imp (pe_bm PySem.F.plainAttrs_str slot hty hm ho ha hbase hfew hline hs hplain) fun σ H Q tm=>by
  obtain⟨ρ,σp,h,rs,rh,q⟩:=tm;refine⟨ρ,σp,h,rs,rh,?_⟩;unfold mSm at q;refine Ful.bind q fun ρ1 H1 x x' h1 _ l1 rh1 rx q1=>?_
  cases rx with
  | str z =>
   refine⟨rfl,ρ1,σp,h1,rs.le l1,rh1,?_⟩;exact Ful.bind q1 fun ρ2 H2 vs vs' h2 _ l2 rh2 rvs q2=>⟨ρ2,h2,z,vs,rfl,rh2,rvs,q2.zero⟩
  | _=>exact q1.elim
@[simp] theorem mSm_ap:mSm f m ma σ h=(m σ h).bind fun o h1=>match o with
 | .str x=>(ma σ h1).bind fun vs h2=>(f x vs h2).ne
 | _=>.bad:=rfl
end
end MM
namespace DcT
open PySem PyProof.Rows
section
variable {prog:Program} {w:World} {A:Around} {E:Value→Shared→Prop} {s:Shared}
def wk:typeLookup (.type "tuple") "keys"=pure none:=by rw[typeLookup_type,builtinLookup_eq_fast];kernel_rfl
def yb(hx:s.heap.get? a=some o)(hc:o.cls=.type "tuple")(hdat:o.data=.seq xs k)(hd:o.dict=none)(hA:A.handled=none)
  (h:∀h' tk e,Heap.NewExcOf s.heap h' e "AttributeError"->Q none { s with heap:=h',toks:=tk}):wpAny (model prog w) A (getAttr? (.ref a) "keys") Q E s:=by
 obtain⟨c,dct,dat,sl⟩:=o;simp only at hc hdat hd;subst hc hdat hd;obtain⟨hp,g,d,tk,os⟩:=s;have hT:∀tk',(⟨hp,g,d,tk',os⟩:Shared).TypeIs (.ref a) "tuple":=fun _=>⟨_,hx,rfl⟩;have f1:=sub_AttributeError;have f3:=F.slot_tuple_getattribute.lookup;have f4:=F.slot_tuple_getattribute.bind (.ref a);have f5:=am_tuple_getattr_none;unfold getAttr? getAttrBy? getAttrBy
 repeat (any_goals (first | assumption | exact hT _ | ((with_reducible show wpAny _ _ (call (Value.builtin "tuple.__getattribute__") _ _) _ _ _);refine call_meets F.slot_tuple_getattribute (hT _) am_entry_tuple_getattribute (F.args_tuple_getattribute_2 _ _) (meets_getattribute_miss_tuple a xs k sl "keys" _ wk (by decide +kernel) (by decide)) ⟨hx,hA,fun h' tk' e hx'=>?_⟩)|wp_step))
 obtain⟨t',u',he⟩:=hx'.there;show wpAny _ _ (getattributeRaised _ _ _ _ _ _ _) _ _ _;unfold getattributeRaised
 repeat (any_goals (first | assumption | wp_step))
 exact h _ _ _ hx'.of
def mS:entryFor table "dict.update.loop"=some Builtin.«dict.update.loop»:=entryFor_of_tree (by kernel_rfl)
def gk:plainId "dict.update.loop"=true:=by decide +kernel
def Ext(H0 h:Heap):Prop:=∀b o,H0.get? b=some o->h.get? b=some o
def gD{h h':Heap}{d:Addr}{kvs:List (Int × Value)}(T:h.DictOf (intKind prog w) d kvs)(hd:∀o,h.get? d=some o->h'.get? d=some o):h'.DictOf (intKind prog w) d kvs:=by
 obtain⟨o,es,ep,ho,r⟩:=T;exact⟨o,es,ep,hd o ho,r⟩
def wd{kvs:List (Int × Value)}{k:Int}{v:Value}(h:k∉kvs.map (·.1)):stored kvs k v=kvs++[(k,v)]:=by
 unfold stored;rw[qao];intro z;rw[qbT] at z;obtain⟨x,hx,e⟩:=z;exact h (qaz.mpr ⟨x,hx,by simpa using e⟩)
def dloop{R:Result->Shared->Prop}{I:Addr}{fp wr:List Addr}{G:Array GenState->Array GenState->Prop}{n:Nat}{P:Nat->Value->Prop}{St:Nat->Shared->Prop}
  (W:WalksS prog w A.in1 I fp wr G n P St) (d:Addr) (hdf:d∉fp) {H0:Heap} (h0d:H0.get? d=none) (h0w:∀b∈wr,H0.get? b=none) (kvs:List (Int × Value)) (hn:kvs.length=n) (hsz:n<=sizeLine) (nd:(kvs.map (·.1)).Nodup)
  (hval:∀i v kv,P i v->kvs[i]?=some kv->∃a t,v=.ref a/\H0.IsTuple a #[.int kv.1 t,kv.2]) :
  ∀(c i:Nat) (s:Shared) (j:Int) (tj:Tok),n - i=c->i<=n->St i s->Ext H0 s.heap->s.heap.DictOf (intKind prog w) d (kvs.take i) ->
   (∀s',Moved (d::wr) G s s'->Ext H0 s'.heap->s'.heap.DictOf (intKind prog w) d kvs->R (.ok (.ret .none)) s') ->
   codeAny (model prog w) A (.builtin "dict.update.loop" ⟨[.ref d,.ref I,.int j tj,.none],[]⟩) R s:=by
 have hdw:d∉wr:=fun h=>hdf (W.sub _ h);have hsub:∀b∈wr,b∈d::wr:=fun b hb=>qal _ hb;have extM:∀{s s':Shared},Moved wr G s s'->Ext H0 s.heap->Ext H0 s'.heap:=fun {s s'} hm x b o e =>
  hm.heap b o (fun hb=>by rw[h0w b hb] at e;cases e) (x b o e)
 intro c
 induction c with
 | zero =>
  intro i s j tj hc hi hst hx hT hRR;have e:i=n:=by ext
  subst e;refine codeAny_builtin mS ?_;rw[Around.under_plainId gk _];show wpAny _ A.in1 (pyNext (.ref I) >>= _) _ _ s;refine qaa (W.done s _ _ hst fun s' hm=>?_);show wpAny _ A.in1 (Builtin.Dict.addKeywords d [] >>= fun _=>ret Value.none) _ _ s';rw[<-hn,List.take_length] at hT;refine qaa ?_;show wpAny _ A.in1 (pure ()) _ _ s';exact qan (qan (hRR s' (hm.mono hsub) (extM hm hx) (gD hT fun o e=>hm.heap d o hdw e)))
 | succ c ih =>
  intro i s j tj hc hi hst hx hT hRR;have hlt:i<n:=by ext
  refine codeAny_builtin mS ?_;rw[Around.under_plainId gk _];show wpAny _ A.in1 (pyNext (.ref I) >>= _) _ _ s;refine qaa (W.item i s _ _ hlt hst fun v s' hP hst' hm=>?_);obtain⟨kv,hk⟩:∃k,kvs[i]?=some k:=⟨_,qaJ (by ext)⟩;obtain⟨a,t,rfl,ha⟩:=hval i v kv hP hk;have hx':=extM hm hx;have hT':=gD hT (fun o e=>hm.heap d o hdw e);obtain⟨oa,hoa,hca,na,hda⟩:=ha;have hoa':=hx' a oa hoa;have tya:s'.TypeIs (.ref a) "tuple":=⟨oa,hoa',hca⟩;dsimp only;refine qaa (wpAny_holding (qaa ?_));have hpair:∀(Q:List Value->Shared->Prop) (E:Value->Shared->Prop),Q [.int kv.1 t,kv.2] s'->wpAny (model prog w) A.in1 (Builtin.Dict.pairItems (.ref a)) Q E s':=fun Q E q=>by
   unfold Builtin.Dict.pairItems;refine qaa (wpAny_typeOf tya ?_);obtain⟨hp',g',d',tk',os'⟩:=s';obtain⟨oc,od,oda,osl⟩:=oa;simp only at hca hda;subst hca hda;rw[qae (by decide)]
   repeat (any_goals (first | assumption | wp_step))
  refine wpAny_tryCatch (hpair _ _ ?_);dsimp only;have hlen:(kvs.take i).length<=sizeLine:=by rw[qbx];ext
  have hnew:kv.1∉(kvs.take i).map (·.1):=fun z=>by
   obtain⟨x,hx1,ex⟩:=qaz.mp z;obtain⟨q,hq⟩:=qaX.mp hx1;rw[List.getElem?_take] at hq
   split at hq
   ·rename_i hqi
    have e1:(kvs.map (·.1))[q]?=some kv.1:=by rw[qaK,hq];simp[ex]
    have e2:(kvs.map (·.1))[i]?=some kv.1:=by rw[qaK,hk];rfl
    have l1:q<(kvs.map (·.1)).length:=(qaf.mp e1).1
    have:=(List.getElem?_inj l1 nd).mp (e1.trans e2.symm)
    ext
   ·cases hq
  have htk:kvs.take (i+1)=kvs.take i++[kv]:=by rw[qbR,hk];rfl
  refine wpAny_holding (wpAny_dictSet_pairs (knd:=intKind prog w) (k:=kv.1) (intKind_is prog w kv.1 t) hT' (fun h' hD sb=>?_) hlen);rw[wd hnew,show kvs.take i++[(kv.1,kv.2)]=kvs.take (i+1) from htk.symm] at hD;have hx2:Ext H0 h':=fun q o e=>by
   have hq:q≠d:=by rintro rfl;rw[h0d] at e;cases e
   exact (sb.2 q hq).trans (hx' q o e)
  refine qan ⟨plainId_quiet gk _,ih (i+1) _ _ _ (by ext) hlt (W.frame _ s' _ _ hst' (Nat.le_succ _) fun b hb o e=>(sb.2 b (fun q:b=d=>hdf (by rw[<-q];exact hb))).trans e) hx2 hD fun s'' hm'' hx3 hT4=>?_⟩;refine hRR s'' (Moved.trans W.gtrans ((hm.mono hsub).then_heap (Nat.le_succ _) fun b o hb e=>?_) hm'') hx3 hT4;exact (sb.2 b (fun q:b=d=>hb (by rw[q];exact qaC))).trans e
set_option maxHeartbeats 3200000 in
theorem oZ{a:Addr}{items:Array Value}{kvs:List (Int × Value)}{Q:Value->Shared->Prop}(hh:A.handled=none)(ha:∃o k,s.heap.get? a=some o/\o.cls=.type "tuple"/\o.data=.seq items k/\o.dict=none)
  (hn:kvs.length=items.size) (hsz:items.size<=sizeLine) (nd:(kvs.map (·.1)).Nodup)
  (hval:∀(i:Nat) v kv,items[i]?=some v->kvs[i]?=some kv->∃b t,v=.ref b/\s.heap.IsTuple b #[.int kv.1 t,kv.2])
  (h:∀(h':Heap) (tk:Nat),h'.DictOf (intKind prog w) s.heap.objs.size kvs->Ext s.heap h'->Q (.ref s.heap.objs.size) { s with heap:=h',toks:=tk}) :
  wpAny (model prog w) A (call (.type "dict") [.ref a]) Q E s:=by
 refine callType_codes (Q₁:=fun obj s₁=>obj=.ref s.heap.objs.size/\s₁={ s with heap:=s.heap.push { cls:=.type "dict",data:=.dict #[]}}) F.kt_called_dict (F.kt_typeCall_dict_1 _) F.entry_dict_init (kt_code_dict_new _ ⟨rfl,rfl⟩) ?_;rintro obj s₁ ⟨rfl,rfl⟩;have hnew:(s.heap.push { cls:=.type "dict",data:=.dict #[]}).DictOf (intKind prog w) s.heap.objs.size []:=Heap.DictOf.new s.heap;refine⟨hnew.typeIs,F.args_dict_init_2 _ _,?_⟩;unfold Builtin.«dict.__init__»;refine qaa ?_;unfold Builtin.Dict.selfAndRest;refine qaa (wpAny_notOrdered_dict hnew.typeIs ?_);show wpAny _ _ (pure (s.heap.objs.size,[Value.ref a])) _ _ _;refine qan ?_;show wpAny _ _ (Builtin.Dict.updateFrom "dict.__init__" s.heap.objs.size (.ref a) [] .none) _ _ _;unfold Builtin.Dict.updateFrom;obtain⟨oa,ka,hoa,hca,hda,hdi⟩:=ha;have hoa1:(s.heap.push { cls:=.type "dict",data:=.dict #[]}).get? a=some oa:=qac _ hoa;have hh2:A.in1.in1.handled=none:=by simp[hh]
 refine qaa (wpAny_typeOf (T:="tuple") ⟨oa,hoa1,hca⟩ ?_);rw[qae (by decide)];refine qaa (yb hoa1 hca hda hdi hh2 fun h1 tk1 e hx=>?_);rw[qae (by rfl)];have x1:Ext s.heap h1:=fun b o eb=>hx.keeps b o (qac _ eb);have hD1:h1.DictOf (intKind prog w) s.heap.objs.size []:=gD hnew fun o eo=>hx.keeps _ o eo;have ht1:h1.IsTuple a items:=⟨oa,x1 a oa hoa,hca,ka,hda⟩;refine qaa (wpAny_rule (qaa (wpAny_pyIter_tuple (s:={ s with heap:=h1,toks:=tk1}) ht1 ?_)));have hd1:s.heap.objs.size<h1.objs.size:=by
  obtain⟨o,_,_,ho,_⟩:=hD1;exact qam ho
 have ha1:a<h1.objs.size:=qam (x1 a oa hoa);have has:a<s.heap.objs.size:=qam hoa;have hnone:∀b,s.heap.objs.size<=b->s.heap.get? b=none:=fun b hb=>by
  cases e:s.heap.get? b with
  | none=>rfl
  | some o=>exact absurd (qam e) (Nat.not_lt.mpr hb)
 refine qan ⟨plainId_quiet gk _,?_⟩
 refine dloop (A:=A.in1) (H0:=s.heap) ((Walks.tuple (A:=A.in1.in1) hh2 h1.objs.size a (qaL ha1) items).toS) s.heap.objs.size (by simp only[qaj,qaB,or_false,not_or];exact⟨qaL hd1,qbj has⟩) (hnone _ (qai _)) (fun b hb=>by
   have:b=h1.objs.size:=by simpa using hb
   rw[this];exact hnone _ (qbG hd1)) kvs hn hsz nd hval items.size 0 _ 0 0 (by ext) (qaP _) ⟨⟨_,qav _ rfl,rfl,rfl⟩,ht1.push _⟩ (fun b o e=>qac _ (x1 b o e)) (gD hD1 fun o e=>qac _ e) ?_
 intro s' hm hx' hT';obtain⟨h',g',d',tk',os'⟩:=s';have eg:g'=s.gens:=hm.gens;have ed:d'=s.drawn:=hm.drawn;have eo:os'=s.os:=hm.os;subst eg;subst ed;subst eo;exact⟨rfl,h h' tk' hT' hx'⟩
end
end DcT
namespace MM
open PySem PySem.Spec PyProof.Rows L2 DcT
local instance (priority:=1) cdec31 (p:Prop):Decidable p:=Classical.propDecidable p
section
variable {X:Cx} {N W G:List Str} {k:Nat}
local instance inhPV:Inhabited PV:=⟨.non⟩
def iD:List PV->Option (List (Int × PV))
 | []=>some []
 | .tup [.int k,v]::r=>(iD r).map ((k,v)::·)
 | _=>none
def dgP(x:PV):Option (List (Int × PV)):=match x with
 | .tup ps=>(match iD ps with
  | some kvs=>if (kvs.map (·.1)).Nodup then some kvs else none
  | none=>none)
 | _=>none
def atK(kvs:List (Int × PV))(i:Int)(d:PV):PV:=((kvs.find? fun kv=>kv.1=i).map (·.2)).getD d
def mDg(m:Mx PV)(ma:Mx (List PV)):Mx PV:=fun σ h=>(m σ h).bind fun x h1=>match dgP x with
 | some kvs=>(ma σ h1).bind fun vs h2=>match vs with
  | [.int i,d]=>.ok (atK kvs i d) h2
  | _=>.bad
 | none=>.bad
def wG{K:qab}{ρ:List Addr}{H:Hp}:∀{xs:List PV} {ys:List V} {us:List Value} {kvs:List (Int × PV)},RPs K ρ H xs ys->aF ys us->iD xs=some kvs ->
  xs.length=kvs.length/\∀(i:Nat) u kv,us[i]?=some u->kvs[i]?=some kv->∃b w,u=.ref b/\SqT K H b [.int kv.1,w]/\RP K ρ H kv.2 w:=by
 intro xs
 induction xs with
 | nil =>
  intro ys us kvs r v e;cases r;cases v;cases e;exact⟨rfl,fun i u kv h=>by simp at h⟩
 | cons x xs ih =>
  intro ys us kvs r v e
  cases r with
  | cons r1 r2 =>
   cases v with
   | cons v1 v2 =>
    unfold iD at e
    split at e
    ·rename_i h;cases h
    ·rename_i k0 v0 r0 h
     injection h with h1 h2
     subst h1 h2;rw[qaA] at e;obtain⟨kvs',e1,rfl⟩:=e;obtain⟨hl,hv⟩:=ih r2 v2 e1;refine⟨by simp[hl],fun i u kv h1 h2=>?_⟩
     cases i with
     | zero =>
      simp at h1 h2;subst h1 h2
      cases r1 with
      | tup sq rp =>
       cases rp with
       | cons q1 q2=>cases q2 with
        | cons q3 q4 =>
         cases q4;cases q1;exact⟨_,_,v1,sq,q3⟩
     | succ i =>
      simp at h1 h2;exact hv i u kv h1 h2
    ·cases e
def DgO(X:Cx)(a:Addr)(kvs:List (Int × Value)):HO:=.ext fun h=>h.DictOf (intKind X.prog X.w) a kvs
def dg_rel{P:Program}{w:World}{ρ:List Addr}{K:qab}{H:Hp}{kvs:List (Int × PV)}{vals:List (Int × Value)}(hl:kvs.length=vals.length)
  (hr:∀(i:Nat) a b,kvs[i]?=some a->vals[i]?=some b->a.1=b.1/\∃v,aR v b.2/\RP K ρ H a.2 v) {d:PV} {d':V} {u:Value} (rd:RP K ρ H d d') (ru:aR d' u) (i:Int) :
  ∃v,aR v ((valueAt vals i).getD u)/\RP K ρ H (atK kvs i d) v:=by
 induction kvs generalizing vals with
 | nil =>
  cases vals with
  | nil=>exact⟨d',ru,rd⟩
  | cons _ _=>simp at hl
 | cons a kvs ih =>
  cases vals with
  | nil=>simp at hl
  | cons b vals =>
   obtain⟨e,v,h1,h2⟩:=hr 0 a b rfl rfl;unfold atK valueAt;rw[qbX,qbX];by_cases z:a.1=i
   ·have z':b.1=i:=e▸z;simp only[z,z',decide_true];exact⟨v,h1,h2⟩
   ·have z':¬b.1=i:=fun q=>z (e.trans q);simp only[z,z',decide_false];exact ih (by simpa using hl) fun j a b h1 h2=>hr (j+1) a b (by simpa using h1) (by simpa using h2)
def me_dget(g:Good X N W G k){e a b:Expr}{m:Mx PV}{ma:Mx (List PV)}{j:Nat}{p p1 apos cpos:Pos}(hj:G[j]?=some "dict")(hm:X.mg "dict"=none)(he:ME X e m)(ha:MA X [a,b] ma)
  (h1:starEach [e] X.env=[(false,eval e X.env)]:=by rfl)
  (hbase:attributeBase (.Call (.Name "dict" p) [e] [] p1) "get" X.env (eval (.Call (.Name "dict" p) [e] [] p1) X.env)=eval (.Call (.Name "dict" p) [e] [] p1) X.env:=by rfl)
  (hfew:((backTo cpos (starEach [a,b] X.env)).all (fun x=>!x.1) && (backToKw cpos (keywordEach [] X.env)).all (fun x=>x.1.isSome)
   && decide ([a,b].length+([]:List Keyword).length+(if ([]:List Keyword).isEmpty then 0 else 1)<30))=true:=by rfl)
  (hline:(apos.endLine == cpos.line)=true:=by rfl) (hs:starEach [a,b] X.env=(false,eval a X.env)::starEach [b] X.env:=by rfl) (hplain:(backTo cpos (starEach [b] X.env)).any (·.1)=false:=by rfl) :
  ME X (.Call (.Attribute (.Call (.Name "dict" p) [e] [] p1) "get" apos) [a,b] [] cpos) (mDg m ma):=by
 have d1:=g.dbg _ (qad _ (az hj));intro G6 s σ H Q I ⟨ρ,σp,h,rs,rh,q⟩
 have hc:cA X (.type "dict") (fun xs H Q=>∃ρ h ps kvs v,xs=[v]/\RH X.K X.mg ρ H h/\RP X.K ρ H (.tup ps) v/\iD ps=some kvs/\(kvs.map (·.1)).Nodup /\
   ∀l o vals,H l=none->o.dict=none->(l == sysModules)=false->kvs.length=vals.length ->
    (∀(i:Nat) a b,kvs[i]?=some a->vals[i]?=some b->a.1=b.1/\∃v,aR v b.2/\RP X.K ρ H a.2 v)->Q (.ref l) (upd H l (.frz o (DgO X l vals)))):=by
  intro G6 s σ H xs us Q I r ⟨ρ,h,ps,kvs,v,e,rh,rp,ep,nd,q⟩;subst e;obtain⟨u,rfl,ru⟩:=r.one
  cases rp with
  | tup sq rps =>
   cases ru;obtain⟨its,rv,ht,hz⟩:=I.tupleN sq;obtain⟨hl,hv⟩:=wG rps rv ep;have hli:=rv.length;have hlr:=rps.length;have hall:∀i,i<its.length->∃b t w1,its[i]?=some (.ref b)/\s.heap.IsTuple b #[.int (kvs[i]!).1 t,w1]/\∃w,aR w w1/\RP X.K ρ H (kvs[i]!).2 w:=by
    intro i hi;have hk:i<kvs.length:=by ext
    obtain⟨b,w,e1,e2,e3⟩:=hv i its[i] kvs[i] (by simp[hi]) (by simp[hk]);obtain⟨it2,rv2,ht2,_⟩:=I.tuple e2
    cases rv2 with
    | cons a1 a2=>cases a2 with
     | cons a3 a4 =>
      cases a4;obtain⟨t,rfl⟩:=a1;refine⟨b,t,_,by rw[qaJ hi,e1],?_,w,a3,?_⟩
      ·rw[getElem!_pos kvs i hk];exact ht2
      ·rw[getElem!_pos kvs i hk];exact e3
   have hch:∃vals:List (Int × Value),vals.length=its.length/\∀i,i<its.length->∃b t w1,vals[i]?=some ((kvs[i]!).1,w1)/\its[i]?=some (.ref b)/\s.heap.IsTuple b #[.int (kvs[i]!).1 t,w1]/\∃w,aR w w1/\RP X.K ρ H (kvs[i]!).2 w:=by
    have:∀n,n<=its.length->∃vals:List (Int × Value),vals.length=n/\∀i,i<n->∃b t w1,vals[i]?=some ((kvs[i]!).1,w1)/\its[i]?=some (.ref b)/\s.heap.IsTuple b #[.int (kvs[i]!).1 t,w1]/\∃w,aR w w1/\RP X.K ρ H (kvs[i]!).2 w:=by
     intro n
     induction n with
     | zero=>exact fun _=>⟨[],rfl,fun i hi=>absurd hi (Nat.not_lt_zero _)⟩
     | succ n ih =>
      intro hn;obtain⟨vs,e1,e2⟩:=ih (by ext);obtain⟨b,t,w1,f1,f2,f3⟩:=hall n (by ext);refine⟨vs++[((kvs[n]!).1,w1)],by simp[e1],fun i hi=>?_⟩;by_cases z:i<n
      ·obtain⟨b,t,w1,g1,g2⟩:=e2 i z;exact⟨b,t,w1,by rw[qak (by ext)];exact g1,g2⟩
      ·have:i=n:=by ext
       subst this;exact⟨b,t,w1,by rw[qaw (by ext),e1];simp,f1,f2,f3⟩
    exact this _ (qai _)
   obtain⟨vals,hvl,hva⟩:=hch;have hkeys:vals.map (·.1)=kvs.map (·.1):=by
    apply List.ext_getElem?;intro i;by_cases z:i<its.length
    ·obtain⟨_,_,_,g1,_⟩:=hva i z;have hk:i<kvs.length:=by ext
     rw[qaK,qaK,g1,qaJ hk,getElem!_pos kvs i hk];rfl
    ·rw[qaY (by simp;ext),qaY (by simp;ext)]
   obtain⟨oa,hoa,hca,⟨na,hda⟩,hdi⟩:=ht;refine oZ (a:=_) (items:=its.toArray) (kvs:=vals) (I.ok.hd g.calm) ⟨oa,na,hoa,hca,hda,hdi⟩ (by simp[hvl]) (by simp;ext) (hkeys▸nd) (fun i v kv h1 h2=>?_) fun h' tk hD hx=>?_
   ·have z:i<its.length:=by
     have:=(qaf.mp h2).1
     ext
    obtain⟨b,t,w1,g1,g2,g3,_⟩:=hva i z;rw[g1] at h2;cases h2
    have:v=.ref b:=by
     have e:its.toArray[i]?=its[i]?:=by simp
     rw[e,g2] at h1;exact (Option.some.inj h1).symm
    exact⟨b,t,this,g3⟩
   ·have hn:H s.heap.objs.size=none:=I.hok.fresh (qai _);obtain⟨o,es,epp,ho,ex,r⟩:=hD;have hbm:=Inv.bigM I;refine⟨.ref s.heap.objs.size,_,I.laid (o:=.frz o (DgO X s.heap.objs.size vals)) hx (qai _) ⟨ho,⟨o,es,epp,ho,ex,r⟩,⟨o,ho⟩,fun h1 h2 hd hk=>gD hd hk⟩,rfl,q _ o vals hn ex.2.1 (beq_eq_false_iff_ne.mpr (qbj hbm)) (by ext) fun i a b h1 h2=>?_⟩;have z:i<its.length:=by
     have:=(qaf.mp h2).1
     ext
    obtain⟨b',t,w1,g1,g2,g3,w,g4,g5⟩:=hva i z;rw[g1] at h2;cases h2;have hk:i<kvs.length:=by ext
    rw[qaJ hk] at h1;cases h1;rw[getElem!_pos kvs i hk] at g5 ⊢;exact⟨rfl,w,g4,g5⟩
  | _=>cases ep
 have hdc:=kS (x:="dict") (p:=p) (pos:=p1) hc (g.gl _ (az hj)) hm PyProof.Rows.Boot.«dict» (bR he eY h1) d1.2.2 d1.1 h1 rfl
 refine wpAny_Call_method_late hbase hfew hline rfl (thn (hdc G6 s σ H (fun x H1=>∃ρ1 l o vals kvs h1,x=.ref l/\H1 l=some (.frz o (DgO X l vals))/\o.dict=none/\(l == sysModules)=false/\kvs.length=vals.length /\
   (∀(i:Nat) a b,kvs[i]?=some a->vals[i]?=some b->a.1=b.1/\∃v,aR v b.2/\RP X.K ρ1 H1 a.2 v)/\RS X.K ρ1 H1 σp σ/\RH X.K X.mg ρ1 H1 h1 /\
   Ful X (RV' X) σp ρ1 H1 ((ma σp h1).bind fun vs h2=>match vs with | [.int i,d]=>.ok (atK kvs i d) h2 | _=>.bad) Q) I ?_) fun v s1 ⟨x,H1,I1,r1,ρ1,l,o,vals,kvs,h1,ex,hfr,ho,hsys,hlen,hrel,rs1,rh1,q1⟩=>?_)
 ·refine⟨ρ,σp,h,rs,rh,Ful.bind q fun ρ1 H1 x x' h1 hxe l1 rh1 rx q1=>?_⟩;clear hxe
  cases ed:dgP x with
  | none=>rw[ed] at q1;exact q1.elim
  | some kvs =>
   rw[ed] at q1;dsimp only at q1;unfold dgP at ed
   split at ed
   ·rename_i ps
    split at ed
    ·rename_i x1 kvs' ep
     split at ed
     ·rename_i nd
      cases ed;refine⟨ρ1,h1,ps,kvs,x',rfl,rh1,rx,ep,nd,fun l o vals hl ho hsys hlen hrel=>?_⟩;obtain⟨rh2,l2⟩:=rh1.loose hl (.frz o (DgO X l vals));exact⟨ρ1,l,o,vals,kvs,h1,rfl,bC,ho,hsys,hlen,fun i a b e1 e2=>(hrel i a b e1 e2).imp_right fun ⟨v,e3,e4⟩=>⟨v,e3,e4.le l2⟩,rs.le (l1.trans l2),rh2,Ful.le l2 q1⟩
     ·cases ed
    ·cases ed
   ·cases ed
 ·subst ex;cases r1;obtain⟨hg1,hD,_⟩:=(show ObjOk X.prog X.w H1 s1.heap l (.frz o (DgO X l vals)) from I1.hok l _ hfr);have hD:s1.heap.DictOf (intKind X.prog X.w) l vals:=hD;refine⟨"dict","dict.get",PySem.F.plainAttrs_dict,PySem.F.slot_dict_get,PySem.F.type_dict_get,hD.typeIs,fun a e=>by cases e;exact⟨o,hg1,ho⟩,?_⟩
  have hA:=ha cpos G6 s1 σ H1 (fun vs' H2=>∃ρ2 i d d',vs'=[.int i,d']/\Le ρ1 H1 ρ2 H2/\RP X.K ρ2 H2 d d'/\∀v,RP X.K ρ2 H2 (atK kvs i d) v->Q v H2) I1 ⟨ρ1,σp,h1,rs1,rh1,Ful.bind q1 fun ρ2 H2 vs vs' h2 hxe l2 rh2 rvs q2=>by
   clear hxe
   split at q2
   ·rename_i i d
    cases rvs with
    | cons a1 a2=>cases a2 with
     | cons a3 a4 =>
      cases a4;cases a1;exact⟨ρ2,i,d,_,rfl,l2,a3,fun v rv=>q2 ρ2 H2 v (Le.refl _ _) rh2 rv⟩
   ·exact q2.elim⟩
  rw[hs] at hA ⊢;refine Calls.callWith_builtin (by show (false || (backTo cpos (starEach [b] X.env)).any (·.1))=false;rw[hplain] <;> rfl) (Calls.evalArgs_plain ?_);refine thn hA fun us s2 ⟨vs,H2,I2,r2,ρ2,i,d,d',ev,l2,rd,q2⟩=>?_;subst ev
  cases r2 with
  | cons b1 b2=>cases b2 with
   | @cons _ u _ _ b3 b4 =>
    cases b4;obtain⟨t,rfl⟩:=b1;obtain⟨hg2,hD2,_⟩:=(show ObjOk X.prog X.w H2 s2.heap l (.frz o (DgO X l vals)) from I2.hok l _ (l2.frz _ _ _ hfr));have hD2:s2.heap.DictOf (intKind X.prog X.w) l vals:=hD2;obtain⟨v,rv,rp⟩:=dg_rel (P:=X.prog) (w:=X.w) hlen (fun i a b e1 e2=>(hrel i a b e1 e2).imp_right fun ⟨v,e3,e4⟩=>⟨v,e3,e4.le l2⟩) rd b3 i;exact call_meetsIn PySem.F.slot_dict_get hD2.typeIs PySem.F.entry_dict_get (PySem.F.args_dict_get_3 _ _ _) (meets_dict_get_default (intKind X.prog X.w) l (intKind_is X.prog X.w i t) hsys u) ⟨_,hD2.mapOf,v,H2,I2.tok _,rv,q2 v rp⟩
@[simp] theorem mDg_ap:mDg m ma σ h=(m σ h).bind fun x h1=>match dgP x with
 | some kvs=>(ma σ h1).bind fun vs h2=>match vs with
  | [.int i,d]=>.ok (atK kvs i d) h2
  | _=>.bad
 | none=>.bad:=rfl
def oj(K:qab)(x:Str)(i j:Int):Prop:=∃(a:Addr) (t t':Tok) (n:Nat) (sl:Array (Option Value)),PySem.W.nsIn K mainGlobals x=some (some (.ref a))/\K.lookup a=some ⟨.type "tuple",none,.seq #[.int i t,.int j t'] n,sl⟩
def TupG(K:qab)(mg:MGl)(x:Str)(i j:Int):Prop:=∃(a:Addr) (t t':Tok) (n:Nat) (sl:Array (Option Value)),mg x=some (.ref a)/\K.lookup a=some ⟨.type "tuple",none,.seq #[.int i t,.int j t'] n,sl⟩
def tupK_mk{K:qab}{x:Str}{i j:Int}{a:Addr}{t t':Tok}{n:Nat}{sl:Array (Option Value)}(h:PySem.W.nsIn K mainGlobals x=some (some (.ref a)))(l:K.lookup a=some ⟨.type "tuple",none,.seq #[.int i t,.int j t'] n,sl⟩):oj K x i j:=⟨a,t,t',n,sl,h,l⟩
def oj.mg{K:qab}{mg:MGl}{base:Heap}{x:Str}{i j:Int}(z:oj K x i j)(kin:K.In base)(ns:base.Ns mainGlobals mg):TupG K mg x i j:=by
 obtain⟨a,t,t',n,sl,h,l⟩:=z;exact⟨a,t,t',n,sl,PySem.W.mg_of kin ns h,l⟩
def xn(g:Good X N W G k){x:Str}{q:Nat}{i j:Int}{pos:Pos}(hj:G[q]?=some x)(hm:TupG X.K X.mg x i j):ME X (.Name x pos) (mC (.tup [.int i,.int j])):=by
 obtain⟨a,t,t',n,sl,hm,hl⟩:=hm;have d:=g.dbg x (qad _ (az hj));exact PE.imp (lR (v:=.ref a) (g.gl x (az hj)) hm rfl d.1) fun σ H Q ⟨ρ,σp,h,rs,rh,q⟩=>q ρ H _ (Le.refl _ _) rh (.tup (ys:=[.int i,.int j]) (.inr ⟨_,_,n,hl,rfl,⟨rfl,rfl⟩,by show 2<=sizeLine;decide,.cons ⟨t,rfl⟩ (.cons ⟨t',rfl⟩ .nil)⟩) (.cons (.int _) (.cons (.int _) .nil)))
end
end MM
namespace L2
open PySem PySem.Spec PyProof.Rows
section
variable {X:Cx} {e st:Expr} {te:TE} {hi:Option Expr} {th ts:TO} {pos p2:Pos}
end
end L2
namespace MM
open PySem PySem.Spec PyProof.Rows L2
local instance (priority:=1) cdec32 (p:Prop):Decidable p:=Classical.propDecidable p
section
variable {X:Cx} {pos p2:Pos}
end
section
variable {X:Cx} {k:Nat}
end
end MM
namespace MM
open PySem PySem.Spec PyProof.Rows L2 SetT SortT
local instance (priority:=1) cdec34 (p:Prop):Decidable p:=Classical.propDecidable p
def many(ns:List Int):Nat:=(firstMet (fun i=>ns.getD i 0) ns.length).length
def many_le(ns:List Int):many ns<=ns.length:=firstMet_length_le _ _
def IPh(prog:Program)(w:World)(S:Addr)(n:Nat)(h:Heap):Prop:=∃f,h.SetOf (intKind prog w) S f n
def vT{prog:Program}{w:World}{S:Addr}{n:Nat}{h1 h2:Heap}(p:IPh prog w S n h1)(k:∀o,h1.get? S=some o->h2.get? S=some o):IPh prog w S n h2:=by
 obtain⟨f,o,es,ep,t,p1,r⟩:=p;exact⟨f,o,es,ep,t,k o p1,r⟩
section
variable {X:Cx} {N W G:List Str} {k:Nat}
def xU(hh:X.calm=true):cA X (.type "set") (fun xs H Q=>∃l ns,xs=[.ref l]/\SqL X.K H l (ns.map V.int)/\ns.length<=1000/\∀S,H S=none->Q (.ref S) (upd H S (.ext (IPh X.prog X.w S (many ns))))):=by
 intro G6 s σ H xs us Q I r ⟨l,ns,e,hq,hl,q⟩;subst e;obtain⟨u,rfl,rx⟩:=gc r;cases rx;obtain⟨its,rv,pl,hz⟩:=I.list hq;have hlen:its.length=ns.length:=by have:=rv.length;rw[qaF] at this;exact this.symm
 have ia:IntsAre its.toArray.toList ns:=wJ rv;have hfr:=I.hok.fresh (qai s.heap.objs.size);refine call_set_list (I.ok.hd hh) pl.isList ia (by rw[qas,hlen];unfold scanBound;ext) fun h' tk T x=>?_;have es':its.toArray.size=ns.length:=by rw[qas,hlen]
 rw[es'] at T;have sp:IPh X.prog X.w s.heap.objs.size (many ns) h':=⟨_,T⟩;obtain⟨f,o,es,ep,t,ho,rest⟩:=id sp;exact⟨.ref s.heap.objs.size,_,I.laid (o:=.ext (IPh X.prog X.w s.heap.objs.size (many ns))) (fun b o e=>x b o (qam e) e) (qai _) ⟨sp,⟨o,ho⟩,fun h1 h2 a b=>vT a b⟩,rfl,q _ hfr⟩
def w6:cA X (.builtin "len") (fun xs H Q=>∃S n,xs=[.ref S]/\H S=some (.ext (IPh X.prog X.w S n))/\n<=1000/\Q (.int n) H):=by
 intro G6 s σ H xs us Q I r ⟨S,n,e,hS,hn,q⟩;subst e;obtain⟨u,rfl,rx⟩:=gc r;cases rx;obtain⟨sp,_,_⟩:IPh X.prog X.w S n s.heap/\_:=(show ObjOk X.prog X.w H s.heap S (.ext (IPh X.prog X.w S n)) from I.hok S _ hS);obtain⟨f,o,es,ep,t,p1,p2,p3,p4,p5,p6,p7,p8⟩:=sp;refine call_len_set p1 p2 p3 p7 (by rw[p8];ext) ?_;rw[p8];exact⟨.int n,H,I.kept fun b ob q=>q,⟨_,rfl⟩,q⟩
def mLS(m:Mx (List PV)):Mx PV:=fun σ h=>(m σ h).bind fun xs h1=>match xs with
 | [x]=>(match (hU h1 x).bind jN with
  | some ns=>if ns.length<=1000 then .ok (.int (many ns)) h1 else .bad
  | none=>.bad)
 | _=>.bad
def xS(g:Good X N W G k){a:Expr}{m:Mx (List PV)}{p p' pos pos':Pos}(i j:Nat)(hm:X.mg "len"=none)(hm':X.mg "set"=none)(ha:MA X [a] m)(hi:G[i]?=some "len":=by rfl)(hj:G[j]?=some "set":=by rfl)
  (hs:starEach [a] X.env=[(false,eval a X.env)]:=by rfl) (he:starEach [.Call (.Name "set" p') [a] [] pos'] X.env=[(false,eval (.Call (.Name "set" p') [a] [] pos') X.env)]:=by rfl) :
  ME X (.Call (.Name "len" p) [.Call (.Name "set" p') [a] [] pos'] [] pos) (mLS m):=by
 have d:=g.dbg _ (qad _ (az hi));have d':=g.dbg _ (qad _ (az hj));refine PE.imp (fy w6 (g.gl _ (az hi)) hm PyProof.Rows.Boot.«len» (bR (kS (xU g.calm) (g.gl _ (az hj)) hm' PyProof.Rows.Boot.«set» ha d'.2.2 d'.1 hs rfl) eY he) d.2.2 d.1 he rfl) fun σ H Q ⟨ρ,σp,h,rs,rh,q⟩=>?_;refine⟨ρ,σp,h,rs,rh,Ful.bind q fun ρ1 H1 x x' h1 ex l1 rh1 rx q1=>?_⟩;clear ex
 cases rx with
 | nil=>exact q1.elim
 | @cons y y' _ _ r1 t1 =>
  cases t1 with
  | cons _ _=>exact q1.elim
  | nil =>
   dsimp only at q1
   cases hl:hU h1 y with
   | none=>rw[hl] at q1;exact q1.elim
   | some xs =>
    rw[hl] at q1
    cases hk:jN xs with
    | none=>simp only[qbl,hk] at q1;exact q1.elim
    | some ns =>
     simp only[qbl,hk] at q1;by_cases z:ns.length<=1000
     ·rw[qae z] at q1;obtain⟨la,zs,rfl,hsq,rzs⟩:=lst_rel rh1 r1 hl;rw[vt hk] at rzs;rw[vints rzs] at hsq;refine⟨la,ns,rfl,hsq,z,fun S hS=>?_⟩;obtain⟨rh2,l2⟩:=rh1.loose hS (.ext (IPh X.prog X.w S (many ns)));exact⟨S,many ns,rfl,bC,qax (many_le ns) z,q1 ρ1 _ _ l2 rh2 (.int _)⟩
     ·rw[qao z] at q1;exact q1.elim
end
end MM
namespace L2
open PySem PySem.Spec PyProof.Rows
section
variable {X:Cx} {a:Expr} {ta:TE} {pos:Pos}
end
end L2
namespace MM
open PySem PySem.Spec PyProof.Rows L2
section
variable {X:Cx} {pos:Pos}
end
section
variable {X:Cx}
end
end MM
namespace MM
open PySem PySem.Spec PyProof.Rows L2
local instance (priority:=1) cdec38 (p:Prop):Decidable p:=Classical.propDecidable p
section
variable {X:Cx} {k:Nat}
end
end MM
namespace HT
open PySem PyProof.Rows
section
open PySem.SeqAt
open PySem.AutoSeq1 (wpAny_loadPart')
open PySem.MeetsSeq PySem.MeetsSeq2 PySem.MeetsSeq3
end
section
variable {prog:Program} {w:World} {A:Around} {E:Value→Shared→Prop} {s:Shared}
def yf{t b:Addr}{ws:List Value}{Q:Value->Shared->Prop}(ht:IsTup s.heap t ([]:List Value).toArray)(hb:IsTup s.heap b ws.toArray)(h:Q (.ref b) s):wpAny (model prog w) A (binaryOp .Add (.ref t) (.ref b)) Q E s:=by
 obtain⟨⟨cls,dd,data,sl⟩,ho,hc,n,hd⟩:=id ht;obtain⟨⟨cls2,dd2,data2,sl2⟩,ho2,hc2,n2,hd2⟩:=id hb;simp only at hc hd hc2 hd2;subst hc hd hc2 hd2;exact concat_meets ⟨_,ho,rfl⟩ ⟨_,ho2,rfl⟩ noFill_tuple_add seq_tuple_add PySem.F.slot_tuple_add PySem.F.entry_tuple_add (PySem.F.args_tuple_add_2 _ _)
   (tuple_addW0 t b ([]:List Value).toArray ws.toArray n n2 dd dd2 sl sl2 (by simp)) ⟨ho,ho2,h⟩
def mz{t sl:Addr}{items:Array Value}{vl vu:Value}{lo hi:Option Int}{Q:Value->Shared->Prop}(ht:IsTup s.heap t items)(hs:s.heap.IsSliceOf sl vl vu .none)(pl:IsPart vl lo)(pu:IsPart vu hi)
  (hw:sIx items.size 0 lo=0/\sIx items.size items.size hi=items.size)
  (h:Q (.ref t) s)
  (hsz:items.size<=sizeLine):wpAny (model prog w) A (getItem (.ref t) (.ref sl)) Q E s:=by
 obtain⟨os,hos,hcs,hds⟩:=id hs;have hTs:s.TypeIs (.ref sl) "slice":=⟨os,hos,hcs⟩;unfold getItem
 try with_reducible refine wpAny_holding ?_
 first | refine qaa (qan ?_) | skip
 refine qaa (wpAny_sequenceKey ht.typeIs (by decide) ?_)
 refine qaa (wpAny_callSpecial?_slot (name:=Str.ofString "__getitem__") ht.typeIs PyProof.Rows.slot_tuple_getitem
  (wpAny_call_entry PyProof.Rows.slot_tuple_getitem ht.typeIs entry_tuple_getitem ?_ (args_tuple_getitem _ _)))
 show wpAny _ _ (Builtin.Tuple.tupleItemsOf (.ref t) >>= _) _ _ s;refine qaa (tupleItemsOf_ ht ?_);refine qaa (wpAny_typeOf hTs ?_);rw[qae (by decide)];refine qaa (io hs pl pu ?_);have hno:((((sIx items.size 0 lo:Nat):Int) == 0 && (1:Int) == 1 && (sIx items.size items.size hi - sIx items.size 0 lo) == items.size)=true):=by
  rw[hw.1,hw.2];simp
 show wpAny _ _ (if (((sIx items.size 0 lo:Nat):Int) == 0 && (1:Int) == 1 && (sIx items.size items.size hi - sIx items.size 0 lo) == items.size)=true then _ else _) _ _ s;rw[qae hno];refine qaa (m:=Builtin.Tuple.tupleIsExact _) (qaa (wpAny_typeOf ht.typeIs (qan ?_)));rw[qae (by decide)];exact qaa (wpAny_rule (qan ⟨_,rfl,qan h⟩))
end
end HT
namespace L2
open PySem PySem.Spec PyProof.Rows
section
variable {X:Cx} {e st:Expr} {te:TE} {ts:TO} {pos p2:Pos}
def rSlW(K:qab):V->Option Int->Option Int->Hp->VK->Prop:=fun x lo hi H Q=>∃a xs,x=.ref a/\SqT K H a xs /\
 (HT.sIx xs.length 0 lo=0/\HT.sIx xs.length xs.length hi=xs.length)/\Q (.ref a) H
def sl_tupW:SlR X (rSlW X.K):=by
 intro G6 s σ H x v vl vu lo hi sl Q I rx hs pl pu h;obtain⟨a,xs,rfl,hx,hw,q⟩:=h;cases rx;obtain⟨its,r,ht,hz⟩:=I.tuple hx;have hlen:its.toArray.size=xs.length:=by rw[qas];exact r.length.symm
 refine⟨"tuple",_,PyProof.Rows.slot_tuple_getitem.lookup,ht.typeIs,?_⟩;exact HT.mz ht hs pl pu (by rw[hlen];exact hw) ⟨.ref a,_,I,rfl,q⟩ (by rw[hlen];exact hz)
def rCat0(K:qab):R2:=fun x y H Q=>∃a b ys,x=.ref a/\y=.ref b/\SqT K H a []/\SqT K H b ys/\Q (.ref b) H
def op_cat0:OpR X (binaryOp .Add) (rCat0 X.K):=by
 intro G6 s σ H x y v u Q I rx ry h;obtain⟨a,b,ys,rfl,rfl,ha,hb,q⟩:=h;cases rx;cases ry;obtain⟨its,r1,p1,_⟩:=I.tuple ha;obtain⟨its2,r2,p2,_⟩:=I.tuple hb;cases r1;exact HT.yf p1 p2 ⟨.ref b,H,I,rfl,q⟩
end
end L2
namespace MM
open PySem PySem.Spec PyProof.Rows L2
local instance (priority:=1) cdec39 (p:Prop):Decidable p:=Classical.propDecidable p
def opAddT(x y:PV)(h:MH):Out PV:=match x,y with
 | .tup [],.tup ys=>.ok (.tup ys) h
 | x,y=>opAdd x y h
def fSlT(x:PV)(lo hi:Option Int)(h:MH):Out PV:=match x with
 | .tup xs=>.ok (.tup (eU xs lo hi)) h
 | x=>fSl x lo hi h
section
variable {X:Cx} {k:Nat} {pos:Pos}
def fW:OpJ X (binaryOp .Add) opAddT:=by
 intro G6 s σ H x' y' u v Q I rx' ry' ⟨ρ,h,x,y,rh,rx,ry,q⟩;unfold opAddT at q
 split at q
 ·cases rx with
  | tup s1 r1 =>
   cases ry with
   | tup s2 r2 =>
    cases r1;exact op_cat0 G6 s σ H _ _ u v Q I rx' ry' ⟨_,_,_,rfl,rfl,s1,s2,q ρ H _ (Le.refl _ _) rh (.tup s2 r2)⟩
 ·exact aJ G6 s σ H x' y' u v Q I rx' ry' ⟨ρ,h,x,y,rh,rx,ry,q⟩
def yV{xs:List PV}{lo hi:Option Int}(z:HT.sIx xs.length 0 lo=0/\HT.sIx xs.length xs.length hi=xs.length):eU xs lo hi=xs:=by
 unfold eU;rw[z.1,z.2];simp
def sj_slT:SlR X (slJ X fSlT):=by
 intro G6 s σ H x' v vl vu lo hi sl Q I rx hs pl pu ⟨ρ,h,x,rh,rxx,q⟩;unfold fSlT at q
 split at q
 ·cases rxx with
  | tup s1 r1 =>
   rename_i xs a ys
   by_cases z:HT.sIx xs.length 0 lo=0/\HT.sIx xs.length xs.length hi=xs.length
   ·rw[yV z] at q;exact sl_tupW G6 s σ H _ v vl vu lo hi sl Q I rx hs pl pu ⟨a,ys,rfl,s1,by rw[<-r1.length];exact z,q ρ H _ (Le.refl _ _) rh (.tup s1 r1)⟩
   ·refine xh G6 s σ H _ v vl vu lo hi sl Q I rx hs pl pu ⟨a,ys,rfl,s1,by rw[<-r1.length];exact z,fun p hp=>?_⟩;obtain⟨r',l'⟩:=rh.tup hp (gF ys lo hi);exact q ρ _ _ l' r' (.tup (SqT.of bC) ((mj r1 lo hi).le l'))
 ·exact sj_sl G6 s σ H x' v vl vu lo hi sl Q I rx hs pl pu ⟨ρ,h,x,rh,rxx,q⟩
def rm(m:Mx PV)(ml mh:Mx (Option Int)):Mx PV:=fun σ h=>(m σ h).bind fun x h1=>(ml σ h1).bind fun lo h2=>(mh σ h2).bind fun hi h3=>(fSlT x lo hi h3).ne
def tE{e:Expr}{lo hi:Option Expr}{m:Mx PV}{ml mh:Mx (Option Int)}{p2:Pos}(he:ME X e m)(hl:MO' X lo ml)(hu:MO' X hi mh):ME X (.Subscript e (.Slice lo hi none p2) pos) (rm m ml mh) :=
 PE.imp (si sj_slT he hl hu) fun σ H Q ⟨ρ,σp,h,rs,rh,q⟩=>⟨ρ,σp,h,rs,rh,Ful.bind q fun ρ1 H1 x x' h1 _ l1 rh1 rx q1=>⟨ρ1,σp,h1,rs.le l1,rh1,Ful.bind q1 fun ρ2 H2 lo lo' h2 _ l2 rh2 el q2=>by
  subst el
  exact⟨ρ2,σp,h2,rs.le (l1.trans l2),rh2,Ful.bind q2 fun ρ3 H3 hi hi' h3 _ l3 rh3 eh q3=>by
   subst eh
   exact⟨ρ3,h3,x,rh3,(rx.le l2).le l3,q3.zero⟩⟩⟩⟩
end
end MM
namespace L2
open PySem PySem.Spec PyProof.Rows
section
variable {X:Cx} {a b c d:Expr} {ta tb tc td:TE} {r r' r2:R2} {op op' op2:CmpOp} {pos:Pos}
end
end L2
namespace MM
open PySem PySem.Spec PyProof.Rows L2
local instance (priority:=1) cdec40 (p:Prop):Decidable p:=Classical.propDecidable p
section
variable {X:Cx} {a b c d:Expr} {ma mb mc md:Mx PV} {f g' g2:PV→PV→MH→Out PV} {op op' op2:CmpOp} {pos:Pos} {k:Nat}
def rL:Expr->Bool
 | .Starred _ _=>false
 | _=>true
def qO(h:rL e=true):starEach (e::es) env=(false,eval e env)::starEach es env:=by
 cases e <;> first | rfl | cases h
def ma_con(ha:ME X e m)(hr:MA X es ms)(hp:rL e=true:=by rfl):MA X (e::es) (aa m ms):=ag ha hr (qO hp)
structure ME1 (X:Cx) (e:Expr) (m:Mx PV):Prop where
 h:ME X e m
structure MAs (X:Cx) (es:List Expr) (ms:Mx (List PV)):Prop where
 h:MA X es ms
structure MS1 (X:Cx) (st:Stmt) (m:Mst):Prop where
 h:MS X st m
structure MS2 (X:Cx) (st:List Stmt) (m:Mst):Prop where
 h:MSs X st m
section
variable {e:Expr} {es:List Expr} {m ma mb:Mx PV} {ms:Mx (List PV)} {st:Stmt} {rest:List Stmt} {u v:Mst} {f:PV→PV→MH→Out PV} {N W G:List Str} {x:Str}
def am:MAs X [] mNil:=⟨aj⟩
def ae(ha:ME1 X e m)(hr:MAs X es ms)(hp:rL e=true:=by rfl):MAs X (e::es) (aa m ms):=⟨ma_con ha.h hr.h hp⟩
def e_1(h:ME X e m):ME1 X e m:=⟨h⟩
def l_1(h:MAs X es ms):ME1 X (.List es pos) (aT ms):=⟨iI h.h⟩
def t_1(h:MAs X es ms):ME1 X (.Tuple es j pos) (av ms):=⟨dM h.h⟩
def b_1{op:Operator}{a b:Expr}(ho:OpJ X (binaryOp op) f)(ha:ME1 X a ma)(hb:ME1 X b mb):ME1 X (.BinOp a op b pos) (ai f ma mb):=⟨ao ho ha.h hb.h⟩
def i_1(ha:ME1 X a ma)(hb:ME1 X b mb)(hs:mq b:=by exact fun _ _=>rfl):ME1 X (.Subscript a b pos) (ai aU ma mb):=⟨me_ix ha.h hb.h hs⟩
def s_1(h:MS X st u):MS1 X st u:=⟨h⟩
def a_1(g:Good X N W G k)(i:Nat){pos':Pos}(he:ME1 X e m)(hi:N[i]?=some x:=by rfl)(hw:W[i]?=some x:=by rfl)(hs:swapsWith e (some (.Name x pos')) pos.line X.env=pure false:=by rfl) :
  MS1 X (.Assign [.Name x pos'] e pos) (aX i m):=⟨ms_set g i hi hw he.h hs⟩
def r_1(he:ME1 X e m):MS1 X (.Return (some e) pos) (aP m):=⟨ms_ret he.h⟩
def m1n(h:MS1 X st u):MS2 X [st] u:=⟨mss_one h.h⟩
def m1c(h1:MS1 X st u)(h2:MS2 X rest v):MS2 X (st::rest) (aC u v):=⟨zg h1.h h2.h⟩
end
end
section
variable {α β:Type}
def bV(f:α->Int)(x:α):List α->List α
 | []=>[x]
 | y::r=>if f x<=f y then x::y::r else y::bV f x r
def aN(f:α->Int)(l:List α):List α:=l.foldr (bV f) []
def j8(f:α->Int)(x:α):∀l,(bV f x l).Perm (x::l)
 | []=>.refl _
 | y::r=>by
  unfold bV;split
  ·exact .refl _
  ·exact ((j8 f x r).cons y).trans (.swap x y r)
def dw(f:α->Int):∀l,(aN f l).Perm l
 | []=>.refl _
 | x::l=>(j8 f x (aN f l)).trans ((dw f l).cons x)
def qG(f:α->Int)(x:α):∀l:List α,l.Pairwise (fun a b=>f a<=f b)->(bV f x l).Pairwise (fun a b=>f a<=f b)
 | [],_=>by simp[bV]
 | y::r,h=>by
  have h':=qbc.mp h;unfold bV;split
  ·rename_i z
   refine qbc.mpr ⟨fun a ha=>?_,h⟩;rcases qaj.mp ha with q|q
   ·rw[q];exact z
   ·exact Int.le_trans z (h'.1 a q)
  ·rename_i z
   refine qbc.mpr ⟨fun a ha=>?_,qG f x r h'.2⟩;rcases qaj.mp ((j8 f x r).mem_iff.mp ha) with rfl|ha
   ·lia
   ·exact h'.1 a ha
def kO(f:α->Int):∀l:List α,(aN f l).Pairwise (fun a b=>f a<=f b)
 | []=>.nil
 | x::l=>qG f x _ (kO f l)
def qx(g:β->α)(f:α->Int)(x:β):∀l:List β,bV f (g x) (l.map g)=(bV (fun b=>f (g b)) x l).map g
 | []=>rfl
 | y::r=>by
  rw[qaE];unfold bV;split
  ·rfl
  ·rw[qx g f x r];rfl
def gv(g:β->α)(f:α->Int):∀l:List β,aN f (l.map g)=(aN (fun b=>f (g b)) l).map g
 | []=>rfl
 | x::l=>by
  show bV f (g x) (aN f (l.map g))=(bV _ x (aN _ l)).map g;rw[gv g f l,qx]
def mG{f g:α->Int}{x:α}:∀{l:List α},f x=g x->(∀a∈l,f a=g a)->bV f x l=bV g x l
 | [],_,_=>rfl
 | y::r,hx,h=>by
  unfold bV;rw[hx,h y qaC,mG hx fun a ha=>h a (qal _ ha)]
def mI{f g:α->Int}:∀{l:List α},(∀a∈l,f a=g a)->aN f l=aN g l
 | [],_=>rfl
 | x::l,h=>by
  have e:=mI (f:=f) (g:=g) (l:=l) fun a ha=>h a (qal _ ha);show bV f x (aN f l)=bV g x (aN g l);rw[e];exact mG (h x qaC) fun a ha=>h a (qal _ ((dw g l).mem_iff.mp ha))
def qd{f:α->Int}:∀{l:List α} {x y:α},(l.map f).Nodup->x∈l->y∈l->f x=f y->x=y
 | [],_,_,_,h,_,_=>by cases h
 | a::l,x,y,nd,hx,hy,e=>by
  rw[qaE,qbA] at nd;rcases qaj.mp hx with q1|q1
  ·rcases qaj.mp hy with q2|q2
   ·exact q1.trans q2.symm
   ·exact absurd (qaz.mpr ⟨y,q2,e.symm.trans (congrArg f q1)⟩) nd.1
  ·rcases qaj.mp hy with q2|q2
   ·exact absurd (qaz.mpr ⟨x,q1,e.trans (congrArg f q2)⟩) nd.1
   ·exact qd nd.2 q1 q2 e
def jT{f:α->Int}{l m:List α}(p:m.Perm l)(nd:(l.map f).Nodup)(h:m.Pairwise fun a b=>f a<=f b):m=aN f l :=
 List.Perm.eq_of_pairwise (fun a b ha hb x y=>qd nd (p.mem_iff.mp ha) ((dw f l).mem_iff.mp hb) (by lia)) h (kO f l) (p.trans (dw f l).symm)
end
def tX:PV->Option Int
 | .tup (.int k::_)=>some k
 | _=>none
def rkP(x:PV):Int:=(tX x).getD 0
def rkH(h:Heap)(v:Value):Int:=match v with
 | .ref b=>(match h.get? b with
  | some o=>(match o.data with
   | .seq xs _=>(match (xs[0]?:Option Value) with
    | some (.int k _)=>k
    | _=>0)
   | _=>0)
  | none=>0)
 | _=>0
def fSortR(xs:List PV)(h:MH):Out PV:=match xs with
 | [x]=>(match cz h x with
  | some ys=>if (∀y∈ys,(tX y).isSome=true)/\(ys.map rkP).Nodup/\ys.length<=66 then .ok (.loc h.length) (h++[.lst (aN rkP ys)]) else .bad
  | none=>.bad)
 | _=>.bad
inductive T3 (K:qab) (ρ:List Addr) (H:Hp):List PV->List V->List Value->List (PV × V × Value)->Prop
 | nil:T3 K ρ H [] [] [] []
 | cons {x:PV} {y:V} {u:Value} {xs:List PV} {ys:List V} {us:List Value} {ts:List (PV × V × Value)} (r:RP K ρ H x y) (v:aR y u) (t:T3 K ρ H xs ys us ts):T3 K ρ H (x::xs) (y::ys) (u::us) ((x,y,u)::ts)
section
variable {K:qab} {ρ:List Addr} {H:Hp}
def T3.ex:∀{xs:List PV} {ys:List V} {us:List Value},RPs K ρ H xs ys->aF ys us->∃ts,T3 K ρ H xs ys us ts
 | _,_,_,.nil,.nil=>⟨[],.nil⟩
 | _,_,_,.cons r rs,.cons v vs=>let ⟨ts,t⟩:=T3.ex rs vs;⟨_,.cons r v t⟩
def T3.maps:∀{xs:List PV} {ys:List V} {us:List Value} {ts:List (PV × V × Value)},T3 K ρ H xs ys us ts->xs=ts.map (·.1)/\us=ts.map (·.2.2)/\∀t∈ts,RP K ρ H t.1 t.2.1/\aR t.2.1 t.2.2
 | _,_,_,_,.nil=>⟨rfl,rfl,fun t h=>by cases h⟩
 | _,_,_,_,.cons r v t=>by
  obtain⟨e1,e2,h⟩:=t.maps;refine⟨by rw[e1];rfl,by rw[e2];rfl,fun q hq=>?_⟩;rcases qaj.mp hq with rfl|hq
  ·exact⟨r,v⟩
  ·exact h q hq
def xw:∀{ts:List (PV × V × Value)},(∀t∈ts,RP K ρ H t.1 t.2.1/\aR t.2.1 t.2.2)->RPs K ρ H (ts.map (·.1)) (ts.map (·.2.1))/\aF (ts.map (·.2.1)) (ts.map (·.2.2))
 | [],_=>⟨.nil,.nil⟩
 | t::ts,h=>by
  obtain⟨a,b⟩:=xw (ts:=ts) fun q hq=>h q (qal _ hq);obtain⟨c,d⟩:=h t qaC;exact⟨.cons c a,.cons d b⟩
end
section
variable {X:Cx}
def tN:dr X (.builtin "sorted") fSortR:=by
 intro G6 s σ H xs us Q I r ⟨ρ,h,ps,rh,rp,q⟩
 cases rp with
 | nil=>exact q.elim
 | @cons x y _ _ r1 t1 =>
  cases t1 with
  | cons _ _=>exact q.elim
  | nil =>
   unfold fSortR at q
   cases es:cz h x with
   | none=>simp only[es] at q;exact q.elim
   | some ys =>
    simp only[es] at q;by_cases z:(∀y∈ys,(tX y).isSome=true)/\(ys.map rkP).Nodup/\ys.length<=66
    ·rw[qae z] at q;obtain⟨a,zs,rfl,hsq,rzs⟩:=lM rh r1 es;obtain⟨u,rfl,rx⟩:=gc r;cases rx;obtain⟨T,o,m,its,hT,ho,hc,hd,rv⟩:∃(T:String) (o:Obj) (m:Nat) (its:List Value),(T="list"\/T="tuple")/\s.heap.get? a=some o/\o.cls=.type T/\o.data=.seq its.toArray m/\aF zs its:=by
      rcases hsq with hq|hq
      ·obtain⟨its,rv,pl,_⟩:=I.list hq;obtain⟨o,ho,hc,n,hd⟩:=pl.isList;exact⟨"list",o,n,its,.inl rfl,ho,hc,hd,rv⟩
      ·obtain⟨its,rv,⟨o,ho,hc,n,hd⟩,_⟩:=I.tuple hq;exact⟨"tuple",o,n,its,.inr rfl,ho,hc,hd,rv⟩
     obtain⟨ts,t3⟩:=T3.ex rzs rv;obtain⟨e1,e2,hm⟩:=t3.maps;have key:∀t∈ts,SortT.jj s.heap (rkH s.heap) t.2.2/\rkP t.1=rkH s.heap t.2.2:=fun t ht=>by
      obtain⟨rp,rl⟩:=hm t ht;have hk:=z.1 t.1 (by rw[e1];exact qaz.mpr ⟨t,ht,rfl⟩);obtain⟨t1,t2,t3⟩:=t;dsimp only at rp rl hk ⊢
      cases rp with
      | @tup ps a2 vs sq rps =>
       cases rl
       cases rps with
       | nil=>cases hk
       | @cons p0 v0 _ _ r0 rr =>
        cases r0 with
        | int i =>
         obtain⟨it2,rv2,⟨o2,g2,c2,n2,d2⟩,_⟩:=I.tuple sq
         cases rv2 with
         | cons w0 wr =>
          obtain⟨tk,rfl⟩:=w0;have e:rkH s.heap (.ref a2)=i:=by simp[rkH,g2,d2]
          exact⟨⟨a2,o2,_,n2,tk,rfl,g2,c2,d2,by rw[e];rfl⟩,by rw[e];rfl⟩
        | _=>cases hk
      | _=>cases hk
     have ek:ys.map rkP=its.map (rkH s.heap):=by
      rw[e1,e2,qbe,qbe];exact qbY fun t ht=>(key t ht).2
     have hl:its.length=ys.length:=by rw[e1,e2];simp
     refine SortT.uc (vs:=its) (rk:=rkH s.heap) hT ho hc hd (fun v hv=>?_) (ek▸z.2.1) (by rw[hl];exact z.2.2) fun h' l out kp hsz ⟨c,hc'⟩ pv ri=>?_
     ·rw[e2] at hv;obtain⟨t,ht,rfl⟩:=qaz.mp hv;exact (key t ht).1
     ·have eo:out=aN (rkH s.heap) its:=jT pv (ek▸z.2.1) (qbn.mp ri);have et:aN (fun t:PV × V × Value=>rkP t.1) ts=aN (fun t=>rkH s.heap t.2.2) ts:=mI fun t ht=>(key t ht).2;obtain⟨ra,rb⟩:=xw (K:=X.K) (ρ:=ρ) (H:=H) (ts:=aN (fun t:PV × V × Value=>rkP t.1) ts) fun t ht=>hm t ((dw _ _).mem_iff.mp ht);have s1:aN rkP ys=(aN (fun t:PV × V × Value=>rkP t.1) ts).map (·.1):=by rw[e1,gv]
      have s2:out=(aN (fun t:PV × V × Value=>rkP t.1) ts).map (·.2.2):=by rw[eo,et,e2,gv]
      rw[<-s1] at ra;rw[<-s2] at rb;have lz:((aN (fun t:PV × V × Value=>rkP t.1) ts).map (·.2.1)).length<=sizeLine:=by
       rw[<-ra.length,(dw rkP ys).length_eq,sizeLine_eq];have:=z.2.2;lia
      refine⟨.ref l,_,I.laid (o:=.lst ((aN (fun t:PV × V × Value=>rkP t.1) ts).map (·.2.1))) (t':=s.toks) kp hsz (show ObjOk X.prog X.w _ _ _ (.lst _) from⟨lz,out,c,rb,hc'⟩),rfl,?_⟩;obtain⟨rh3,l3⟩:=rh.new (I.hok.fresh hsz) (o:=.lst (aN rkP ys)) (ho:=.lst ((aN (fun t:PV × V × Value=>rkP t.1) ts).map (·.2.1))) ⟨_,rfl,ra⟩;exact q _ _ _ l3 rh3 (.loc (by rw[<-rh.len];simp))
    ·rw[qao z] at q;exact q.elim
end
end MM
namespace PU
open PySem MM
def ys{α:Type}{a b:α}(h:a=b):a=b:=h
inductive D where
 | non | bl (b:Bool) | int (i:Int) | str (x:Str) | tup (xs:List D) | lst (xs:List D) | dic | exc (c:Str) | pen
abbrev Pen:=Int × Int × Int
abbrev aB:=List (Option D)
def cL(h:MH)(p:Nat)(s:Pen):Prop:=h[p]?=some (.lst [.int s.1,.int s.2.1,.int s.2.2])
inductive RcT (P:List PV->Prop) (v:PV):Prop
 | mk (xs:List PV) (e:v=.tup xs) (r:P xs):RcT P v
inductive RcL (h:MH) (O:List Nat) (P:List PV->Prop) (v:PV):Prop
 | mk (n:Nat) (xs:List PV) (e:v=.loc n) (no:n∉O) (g:h[n]?=some (.lst xs)) (r:P xs):RcL h O P v
inductive RcO (h:MH) (O:List Nat) (o:MO) (v:PV):Prop
 | mk (n:Nat) (e:v=.loc n) (no:n∉O) (g:h[n]?=some o):RcO h O o v
inductive RcC (P:PV->Prop) (Q:List PV->Prop) (vs:List PV):Prop
 | mk (x:PV) (r:List PV) (e:vs=x::r) (a:P x) (b:Q r):RcC P Q vs
mutual
def Rp(p:Nat)(h:MH)(O:List Nat):D->PV->Prop
 | .non,v=>v=.non
 | .bl b,v=>v=.bl b
 | .int i,v=>v=.int i
 | .str x,v=>v=.str x
 | .tup ds,v=>RcT (Rps p h O ds) v
 | .lst ds,v=>RcL h O (Rps p h O ds) v
 | .dic,v=>RcO h O (.dic []) v
 | .exc c,v=>RcO h O (.exc ⟨c,[]⟩) v
 | .pen,v=>v=.loc p
def Rps(p:Nat)(h:MH)(O:List Nat):List D->List PV->Prop
 | [],vs=>vs=[]
 | d::ds,vs=>RcC (Rp p h O d) (Rps p h O ds) vs
end
def bw{h:MH}{n:Nat}{o:MO}(e:h[n]?=some o):n<h.length:=(qaf.mp e).1
structure Mv (O:List Nat) (h:MH) (O':List Nat) (h':MH):Prop where
 keep:∀n:Nat,n<h.length->n∉O->h'[n]?=h[n]?
 new:∀o∈O',o∈O\/h.length<=o
def Mv.get{O O':List Nat}{h h':MH}(s:Mv O h O' h'){n:Nat}{o:MO}(e:h[n]?=some o)(no:n∉O):n∉O'/\h'[n]?=some o:=by
 have hl:=bw e;refine⟨fun z=>?_,(s.keep n hl no).trans e⟩;rcases s.new n z with q|q
 ·exact no q
 ·lia
section
variable {p:Nat} {O O':List Nat} {h h':MH}
def Rp.mv(s:Mv O h O' h')(r:Rp p h O d v):Rp p h' O' d v:=by
 refine D.rec (motive_1:=fun d=>∀v,Rp p h O d v->Rp p h' O' d v) (motive_2:=fun ds=>∀vs,Rps p h O ds vs->Rps p h' O' ds vs)
  (fun _ r=>r) (fun _ _ r=>r) (fun _ _ r=>r) (fun _ _ r=>r) (fun ds i _ r=>?_) (fun ds i _ r=>?_) (fun _ r=>?_) (fun _ _ r=>?_) (fun _ r=>r) (fun _ r=>r) (fun _ _ i j _ r=>?_) d v r
 ·obtain⟨xs,e,r⟩:=r;exact⟨xs,e,i _ r⟩
 ·obtain⟨n,xs,e,no,g,r⟩:=r;exact⟨n,xs,e,(s.get g no).1,(s.get g no).2,i _ r⟩
 ·obtain⟨n,e,no,g⟩:=r;exact⟨n,e,(s.get g no).1,(s.get g no).2⟩
 ·obtain⟨n,e,no,g⟩:=r;exact⟨n,e,(s.get g no).1,(s.get g no).2⟩
 ·obtain⟨x,t,e,a,b⟩:=r;exact⟨x,t,e,i _ a,j _ b⟩
def Rps.mv(s:Mv O h O' h')(r:Rps p h O ds vs):Rps p h' O' ds vs:=by
 induction ds generalizing vs with
 | nil=>exact r
 | cons d ds ih=>obtain⟨x,t,e,a,b⟩:=r;exact⟨x,t,e,a.mv s,ih b⟩
def Rps.length(r:Rps p h O ds vs):vs.length=ds.length:=by
 induction ds generalizing vs with
 | nil=>rw[show vs=[] from r];rfl
 | cons d ds ih=>obtain⟨x,t,e,a,b⟩:=r;rw[e,qbd,qbd,ih b]
def Rps.get{ds:List D}{vs:List PV}{i:Nat}{d:D}(r:Rps p h O ds vs)(g:ds[i]?=some d):∃v,vs[i]?=some v/\Rp p h O d v:=by
 induction ds generalizing vs i with
 | nil=>cases g
 | cons d ds ih =>
  obtain⟨x,t,e,a,b⟩:=r;subst e
  cases i with
  | zero=>cases g;exact⟨x,rfl,a⟩
  | succ i=>have z:=@ih t i b g;exact z
def Rps.app(r:Rps p h O ds vs)(s:Rps p h O es ws):Rps p h O (ds++es) (vs++ws):=by
 induction ds generalizing vs with
 | nil=>rw[show vs=[] from r];exact s
 | cons d ds ih=>obtain⟨x,t,e,a,b⟩:=r;subst e;exact⟨x,t++_,rfl,a,ih b⟩
def Rps.take(n:Nat)(r:Rps p h O ds vs):Rps p h O (ds.take n) (vs.take n):=by
 induction ds generalizing vs n with
 | nil=>rw[show vs=[] from r];cases n <;> rfl
 | cons d ds ih =>
  obtain⟨x,t,e,a,b⟩:=r;subst e
  cases n with
  | zero=>rfl
  | succ n=>exact⟨x,t.take n,rfl,a,ih n b⟩
def Rps.drop(n:Nat)(r:Rps p h O ds vs):Rps p h O (ds.drop n) (vs.drop n):=by
 induction ds generalizing vs n with
 | nil=>rw[show vs=[] from r];cases n <;> rfl
 | cons d ds ih =>
  cases n with
  | zero=>exact r
  | succ n=>obtain⟨x,t,e,a,b⟩:=r;subst e;exact ih n b
end
inductive VwO (p:Nat) (h:MH) (L:Nat) (O:List Nat) (d:D) (v:PV):Prop
 | mk (n:Nat) (xs:List PV) (ds:List D) (e:d=.lst ds) (e':v=.loc n) (o:n∈O) (l:L<=n) (g:h[n]?=some (.lst xs)) (r:Rps p h O ds xs):VwO p h L O d v
def Vw(p:Nat)(h:MH)(L:Nat)(O:List Nat)(d:D)(v:PV):Prop:=Rp p h O d v\/VwO p h L O d v
def Vws(p:Nat)(h:MH)(L:Nat)(O:List Nat):List D->List PV->Prop
 | [],vs=>vs=[]
 | d::ds,vs=>RcC (Vw p h L O d) (Vws p h L O ds) vs
inductive FrsI (p:Nat) (L:Nat) (O:List Nat) (h:MH) (ds:List D) (v:PV):Prop
 | mk (n:Nat) (xs:List PV) (e:v=.loc n) (l:L<=n) (g:h[n]?=some (.lst xs)) (r:Rps p h (n::O) ds xs):FrsI p L O h ds v
def Frs(p:Nat)(L:Nat)(O:List Nat)(h:MH)(d:D)(v:PV):Prop:=∀ds,d=.lst ds->FrsI p L O h ds v
structure KB (p:Nat) (h h':MH):Prop where
 len:h.length<=h'.length
 keep:∀n:Nat,n<h.length->n≠p->h'[n]?=h[n]?
def KB.refl(p:Nat)(h:MH):KB p h h:=⟨qai _,fun _ _ _=>rfl⟩
def KB.trans(a:KB p h h1)(b:KB p h1 h2):KB p h h2 :=
 ⟨qax a.len b.len,fun n hn hp=>(b.keep n (qau hn a.len) hp).trans (a.keep n hn hp)⟩
def KB.app(p:Nat)(h g:MH):KB p h (h++g):=⟨by simp,fun n hn _=>qak hn⟩
def KB.mv(k:KB p h h')(hp:p∈O):Mv O h O h' :=
 ⟨fun n hn no=>k.keep n hn fun z=>no (z▸hp),fun o ho=>.inl ho⟩
def cL.app{p:Nat}{h g:MH}{s:Pen}(e:cL h p s):cL (h++g) p s:=by
 unfold cL at *;rw[qak (bw e)];exact e
def Vw.kb{p L:Nat}{h h':MH}{O:List Nat}{d:D}{v:PV}(k:KB p h h')(hp:p∈O)(hL:p<L)(w:Vw p h L O d v):Vw p h' L O d v:=by
 rcases w with r|⟨n,xs,ds,e1,e2,ho,hn,g,r⟩
 ·exact .inl (r.mv (k.mv hp))
 ·exact .inr ⟨n,xs,ds,e1,e2,ho,hn,(k.keep n (bw g) (by lia)).trans g,r.mv (k.mv hp)⟩
inductive PR (α:Type) where
 | ok (a:α) (s:Pen)
 | exc (c:Str) (s:Pen)
 | bad
def PR.bind{α β:Type}(r:PR α)(f:α->Pen->PR β):PR β:=match r with
 | .ok a s=>f a s
 | .exc c s=>.exc c s
 | .bad=>.bad
@[simp] theorem Pb(a:α)(s:Pen)(f:α->Pen->PR β):(PR.ok a s).bind f=f a s:=rfl
@[simp] theorem Pe(c:Str)(s:Pen)(f:α->Pen->PR β):(PR.exc c s).bind f=.exc c s:=rfl
@[simp] theorem Pd(f:α->Pen->PR β):(PR.bad:PR α).bind f=.bad:=rfl
def PR.of{α:Type}(o:Option α)(s:Pen):PR α:=match o with
 | some a=>.ok a s
 | none=>.bad
@[simp] theorem Pf(a:α)(s:Pen):PR.of (some a) s=.ok a s:=rfl
@[simp] theorem Pn(s:Pen):PR.of (none:Option α) s=.bad:=rfl
inductive OkE {α β:Type} (p:Nat) (h:MH) (o:Out β) (a:α) (s:Pen) (R:MH->α->β->Prop):Prop
 | mk (b:β) (h':MH) (e:o=.ok b h') (k:KB p h h') (n:cL h' p s) (r:R h' a b):OkE p h o a s R
inductive OkX {β:Type} (p:Nat) (h:MH) (o:Out β) (c:Str) (s:Pen):Prop
 | mk (h':MH) (e:o=.exc ⟨c,[]⟩ h') (k:KB p h h') (n:cL h' p s):OkX p h o c s
def Ok{α β:Type}(p:Nat)(h:MH)(o:Out β)(r:PR α)(R:MH->α->β->Prop):Prop:=match r with
 | .ok a s=>OkE p h o a s R
 | .exc c s=>OkX p h o c s
 | .bad=>True
def Ok.bind{α β γ δ:Type}{p:Nat}{h:MH}{o:Out β}{r:PR α}{R:MH->α->β->Prop}{f:β->MH->Out δ}{g:α->Pen->PR γ}{S:MH->γ->δ->Prop}(q:Ok p h o r R)
  (k:∀a b h1 s,KB p h h1->cL h1 p s->R h1 a b->Ok p h1 (f b h1) (g a s) S):Ok p h (o.bind f) (r.bind g) S:=by
 cases r with
 | ok a s =>
  obtain⟨b,h1,rfl,kb,pn,rr⟩:=q
  have:=k a b h1 s kb pn rr
  rw[Out.bind_ok,Pb]
  cases e:g a s with
  | ok c s2 =>
   rw[e] at this;obtain⟨d,h2,e2,kb2,pn2,r2⟩:=this;exact⟨d,h2,e2,kb.trans kb2,pn2,r2⟩
  | exc c s2 =>
   rw[e] at this;obtain⟨h2,e2,kb2,pn2⟩:=this;exact⟨h2,e2,kb.trans kb2,pn2⟩
  | bad=>trivial
 | exc c s =>
  obtain⟨h1,rfl,kb,pn⟩:=q;exact⟨h1,rfl,kb,pn⟩
 | bad=>trivial
def Ok.imp{α β:Type}{p:Nat}{h:MH}{o:Out β}{r:PR α}{R S:MH->α->β->Prop}(q:Ok p h o r R)(k:∀h' a b,KB p h h'->R h' a b->S h' a b):Ok p h o r S:=by
 cases r with
 | ok a s=>obtain⟨b,h1,e,kb,pn,rr⟩:=q;exact⟨b,h1,e,kb,pn,k _ _ _ kb rr⟩
 | exc c s=>exact q
 | bad=>trivial
structure SR (p:Nat) (h:MH) (L:Nat) (O:List Nat) (ws:List Nat) (σ:PSt) (env:aB):Prop where
 len:σ.length=env.length
 fz:∀i d,env[i]?=some (some d)->i∉ws->∃v,σ[i]?=some (some v)/\Rp p h O d v
 ow:∀i d,env[i]?=some (some d)->i∈ws->∃n xs ds,d=.lst ds/\σ[i]?=some (some (.loc n))/\n∈O/\L<=n/\h[n]?=some (.lst xs)/\Rps p h O ds xs
structure Cx (p:Nat) (h:MH) (L:Nat) (B O:List Nat) (ws:List Nat) (σ:PSt) (env:aB) (s:Pen):Prop where
 bd:∀o∈O,o<h.length
 sub:∀o∈B,o∈O
 bb:∀o∈B,o<L
 pb:p∈B
 hL:L<=h.length
 pen:cL h p s
 sr:SR p h L O ws σ env
section
variable {p L:Nat} {h h':MH} {B O ws:List Nat} {σ:PSt} {env:aB} {s s':Pen}
def Cx.pO(c:Cx p h L B O ws σ env s):p∈O:=c.sub p c.pb
def Cx.pL(c:Cx p h L B O ws σ env s):p<L:=c.bb p c.pb
def SR.mv{O':List Nat}(m:Mv O h O' h')(hs:∀o∈O,o∈O')(ho:∀n:Nat,n<h.length->L<=n->n∈O->h'[n]?=h[n]?)(r:SR p h L O ws σ env):SR p h' L O' ws σ env :=
 ⟨r.len,fun i d e hi=>let ⟨v,e1,q⟩:=r.fz i d e hi;⟨v,e1,q.mv m⟩,fun i d e hi=>let ⟨n,xs,ds,e1,e2,a,b,g,q⟩:=r.ow i d e hi;⟨n,xs,ds,e1,e2,hs n a,b,(ho n (bw g) b a).trans g,q.mv m⟩⟩
def Cx.kb(c:Cx p h L B O ws σ env s)(k:KB p h h')(pn:cL h' p s'):Cx p h' L B O ws σ env s' :=
 ⟨fun o ho=>qau (c.bd o ho) k.len,c.sub,c.bb,c.pb,qax c.hL k.len,pn,c.sr.mv (k.mv c.pO) (fun _ h=>h) fun n hn hl _=>k.keep n hn (by have:=c.pL;lia)⟩
def Vw.base(w:Vw p h L O d v)(sub:∀o∈B,o∈O)(bb:∀o∈B,o<L):Rp p h B d v:=by
 have m:Mv O h B h:=⟨fun _ _ _=>rfl,fun o ho=>.inl (sub o ho)⟩;rcases w with r|⟨n,xs,ds,rfl,rfl,_,hn,g,r⟩
 ·exact r.mv m
 ·exact⟨n,xs,rfl,fun z=>by have:=bb n z;lia,g,r.mv m⟩
def Frs.rp(f:Frs p L' O h d v)(bd:∀o∈O,o<L')(e:d=.lst ds):Rp p h O d v:=by
 obtain⟨n,xs,e1,hn,g,r⟩:=f ds e;subst e;exact⟨n,xs,e1,fun z=>by have:=bd n z;lia,g,r.mv ⟨fun _ _ _=>rfl,fun o ho=>.inl (qal _ ho)⟩⟩
def Frs.le(f:Frs p L2 O h d v)(hl:L1<=L2):Frs p L1 O h d v:=fun ds e =>
 let ⟨n,xs,e1,hn,g,r⟩:=f ds e;⟨n,xs,e1,qax hl hn,g,r⟩
end
abbrev Bd(h:MH)(O:List Nat):Prop:=∀o∈O,o<h.length
inductive Gv (p:Nat) (h:MH) (O:List Nat) (fr:Bool) (o:Out PV) (d:D):Prop
 | mk (v:PV) (g:MH) (e:o=.ok v (h++g)) (r:Rp p (h++g) O d v) (f:fr=true->Frs p h.length O (h++g) d v):Gv p h O fr o d
structure Op1 where
 m:PV->MH->Out PV
 p:D->Option D
 fr:Bool
 ok:∀{q h L O a x d},Bd h O->Vw q h L O a x->p a=some d->Gv q h O fr (m x h) d
structure Op2 where
 m:PV->PV->MH->Out PV
 p:D->D->Option D
 fr:Bool
 ok:∀{q h L O a x b y d},Bd h O->Vw q h L O a x->Vw q h L O b y->p a b=some d->Gv q h O fr (m x y h) d
structure OpN where
 k:List PV->MH->Out PV
 p:List D->Option D
 fr:Bool
 ok:∀{q h L O as xs d},Bd h O->Vws q h L O as xs->p as=some d->Gv q h O fr (k xs h) d
structure Fn where
 m:List PV->MH->Out PV
 p:List D->Pen->PR D
 fr:Bool
 ok:∀{q h O vs ds s},Bd h O->q∈O->cL h q s->Rps q h O ds vs->Ok q h (m vs h) (p ds s) (fun h' d v=>Rp q h' O d v/\(fr=true->Frs q h.length O h' d v))
section
variable {p:Nat} {h h':MH} {O O':List Nat}
end
structure Xe (ws:List Nat) where
 m:Mx PV
 p:aB->Pen->PR D
 fz:Bool
 fr:Bool
 ok:∀{q h L B O σ env s},Cx q h L B O ws σ env s->Ok q h (m σ h) (p env s) (fun h' d v=>Vw q h' L O d v/\(fz=true->Rp q h' O d v)/\(fr=true->Frs q h.length O h' d v))
structure Xs (ws:List Nat) where
 m:Mx (List PV)
 p:aB->Pen->PR (List D)
 fz:Bool
 ok:∀{q h L B O σ env s},Cx q h L B O ws σ env s->Ok q h (m σ h) (p env s) (fun h' ds vs=>Vws q h' L O ds vs/\(fz=true->Rps q h' O ds vs))
structure Xt (ws:List Nat) where
 m:Mx Bool
 p:aB->Pen->PR Bool
 ok:∀{q h L B O σ env s},Cx q h L B O ws σ env s->Ok q h (m σ h) (p env s) (fun _ a b=>a=b)
noncomputable section
variable {ws:List Nat}
def give{q L:Nat}{h h2:MH}{O:List Nat}{o:Out PV}{d:D}{s:Pen}{fr:Bool}(le:h.length<=h2.length)(pn:cL h2 q s)(g:Gv q h2 O fr o d) :
  Ok q h2 o (.ok d s) (fun h' d v=>Vw q h' L O d v/\(true=true->Rp q h' O d v)/\(fr=true->Frs q h.length O h' d v)):=by
 obtain⟨v,g,e,r,f⟩:=g;exact⟨v,h2++g,e,KB.app _ _ _,pn.app,.inl r,fun _=>r,fun z=>(f z).le le⟩
def ad(i:Nat):Xe ws where
 m:=af i
 p:=fun env s=>match env[i]? with
  | some (some d)=>.ok d s
  | _=>.bad
 fz:=!ws.contains i
 fr:=false
 ok {q h L B O σ env s} c:=by
  show Ok q h _ (match env[i]? with | some (some d)=>PR.ok d s | _=>.bad) _
  cases e:env[i]? with
  | none=>trivial
  | some o =>
   cases o with
   | none=>trivial
   | some d =>
    by_cases z:i∈ws
    ·obtain⟨n,xs,ds,e1,e2,a,b,g,r⟩:=c.sr.ow i d e z;exact⟨.loc n,h,by simp[af,e2],KB.refl _ _,c.pen,.inr ⟨n,xs,ds,e1,rfl,a,b,g,r⟩,fun f=>by simp[z] at f,fun f=>by simp at f⟩
    ·obtain⟨v,e1,r⟩:=c.sr.fz i d e z;exact⟨v,h,by simp[af,e1],KB.refl _ _,c.pen,.inl r,fun _=>r,fun f=>by simp at f⟩
inductive Cn where
 | non | bl (b:Bool) | int (i:Int) | str (x:Str)
def Cn.v:Cn->PV
 | .non=>.non
 | .bl b=>.bl b
 | .int i=>.int i
 | .str x=>.str x
def Cn.d:Cn->D
 | .non=>.non
 | .bl b=>.bl b
 | .int i=>.int i
 | .str x=>.str x
def Cn.rp(c:Cn){q:Nat}{h:MH}{O:List Nat}:Rp q h O c.d c.v:=by cases c <;> rfl
def xC(k:Cn):Xe ws where
 m:=mC k.v
 p:=fun _ s=>.ok k.d s
 fz:=true
 fr:=true
 ok {q h L B O σ env s} c:=⟨k.v,h,rfl,KB.refl _ _,c.pen,.inl k.rp,fun _=>k.rp,fun _ ds e=>by cases k <;> cases e⟩
def ak(o:Op2)(a b:Xe ws):Xe ws where
 m:=ai o.m a.m b.m
 p:=fun env s=>(a.p env s).bind fun x s1=>(b.p env s1).bind fun y s2=>.of (o.p x y) s2
 fz:=true
 fr:=o.fr
 ok {q h L B O σ env s} c:=by
  refine (a.ok c).bind fun x v h1 s1 k1 p1 ⟨w1,_,_⟩=>?_;refine (b.ok (c.kb k1 p1)).bind fun y w h2 s2 k2 p2 ⟨w2,_,_⟩=>?_
  cases e:o.p x y with
  | none=>trivial
  | some d =>
   have c2:=(c.kb k1 p1).kb k2 p2;obtain⟨u,g,e1,r,f⟩:=o.ok c2.bd (w1.kb k2 c.pO c.pL) w2 e;exact give (qax k1.len k2.len) p2 ⟨u,g,by rw[e1];rfl,r,f⟩
def xUn(o:Op1)(a:Xe ws):Xe ws where
 m:=mUn o.m a.m
 p:=fun env s=>(a.p env s).bind fun x s1=>.of (o.p x) s1
 fz:=true
 fr:=o.fr
 ok {q h L B O σ env s} c:=by
  refine (a.ok c).bind fun x v h1 s1 k1 p1 ⟨w1,_,_⟩=>?_
  cases e:o.p x with
  | none=>trivial
  | some d =>
   obtain⟨u,g,e1,r,f⟩:=o.ok (c.kb k1 p1).bd w1 e;exact give k1.len p1 ⟨u,g,by rw[e1];rfl,r,f⟩
def xNil:Xs ws where
 m:=mNil
 p:=fun _ s=>.ok [] s
 fz:=true
 ok {q h L B O σ env s} c:=⟨[],h,rfl,KB.refl _ _,c.pen,rfl,fun _=>rfl⟩
def ac(a:Xe ws)(r:Xs ws):Xs ws where
 m:=aa a.m r.m
 p:=fun env s=>(a.p env s).bind fun x s1=>(r.p env s1).bind fun y s2=>.ok (x::y) s2
 fz:=a.fz && r.fz
 ok {q h L B O σ env s} c:=by
  refine (a.ok c).bind fun x v h1 s1 k1 p1 ⟨w1,z1,_⟩=>?_;refine (r.ok (c.kb k1 p1)).bind fun y w h2 s2 k2 p2 ⟨w2,z2⟩=>?_;refine⟨v::w,h2,rfl,KB.refl _ _,p2,⟨v,w,rfl,w1.kb k2 c.pO c.pL,w2⟩,fun f=>?_⟩;rw[qaG] at f;exact⟨v,w,rfl,(z1 f.1).mv (k2.mv c.pO),z2 f.2⟩
def xCb(o:OpN)(a:Xs ws):Xe ws where
 m:=fun σ h=>(a.m σ h).bind o.k
 p:=fun env s=>(a.p env s).bind fun x s1=>.of (o.p x) s1
 fz:=true
 fr:=o.fr
 ok {q h L B O σ env s} c:=by
  refine (a.ok c).bind fun x v h1 s1 k1 p1 ⟨w1,_⟩=>?_
  cases e:o.p x with
  | none=>trivial
  | some d=>exact give k1.len p1 (o.ok (c.kb k1 p1).bd w1 e)
def ar(f:Fn)(a:Xs ws)(hz:a.fz=true:=by exact ys rfl):Xe ws where
 m:=aw f.m a.m
 p:=fun env s=>(a.p env s).bind f.p
 fz:=true
 fr:=f.fr
 ok {q h L B O σ env s} c:=by
  refine (a.ok c).bind fun x v h1 s1 k1 p1 ⟨_,z⟩=>?_;have c1:=c.kb k1 p1;refine (f.ok c1.bd c1.pO p1 (z hz)).imp fun h' d v kb ⟨r,fr⟩=>⟨.inl r,fun _=>r,fun z=>(fr z).le k1.len⟩
def iA:100000<=sizeLine:=by decide
def lL(bd:Bd h O)(r:Rps q h O ds xs)(hl:ds.length<=100000):Gv q h O true (newL xs h) (.lst ds):=by
 have hx:=r.length;have m:Mv O h O (h++[MO.lst xs]):=⟨fun n hn _=>qak hn,fun o ho=>.inl ho⟩
 have m2:Mv O h (h.length::O) (h++[MO.lst xs]):=⟨fun n hn _=>qak hn,fun o ho=>by
  rcases qaj.mp ho with z|z
  ·exact .inr (by lia)
  ·exact .inl z⟩
 have g:(h++[MO.lst xs])[h.length]?=some (.lst xs):=by simp
 refine⟨.loc h.length,[.lst xs],?_,⟨_,_,rfl,fun z=>by have:=bd _ z;lia,g,r.mv m⟩,fun _ ds' e=>?_⟩
 ·unfold newL;rw[qae];have:=iA;lia
 ·cases e;exact⟨_,_,rfl,qai _,g,r.mv m2⟩
def uF(r:Rps q h O ds xs)(hl:ds.length<=100000):Gv q h O true (newT xs h) (.tup ds):=by
 have hx:=r.length;refine⟨.tup xs,[],?_,?_,fun _ ds' e=>by cases e⟩
 ·unfold newT;rw[qae (by have:=iA;lia)];simp
 ·simpa using ⟨xs,rfl,r⟩
def bt(a:Xs ws)(hz:a.fz=true:=by exact ys rfl):Xe ws where
 m:=aT a.m
 p:=fun env s=>(a.p env s).bind fun x s1=>if x.length<=100000 then .ok (.lst x) s1 else .bad
 fz:=true
 fr:=true
 ok {q h L B O σ env s} c:=by
  refine (a.ok c).bind fun x v h1 s1 k1 p1 ⟨_,z⟩=>?_;by_cases hl:x.length<=100000
  ·rw[qae hl];exact give k1.len p1 (lL (c.kb k1 p1).bd (z hz) hl)
  ·rw[qao hl];trivial
def au(a:Xs ws)(hz:a.fz=true:=by exact ys rfl):Xe ws where
 m:=av a.m
 p:=fun env s=>(a.p env s).bind fun x s1=>if x.length<=100000 then .ok (.tup x) s1 else .bad
 fz:=true
 fr:=true
 ok {q h L B O σ env s} c:=by
  refine (a.ok c).bind fun x v h1 s1 k1 p1 ⟨_,z⟩=>?_;by_cases hl:x.length<=100000
  ·rw[qae hl];exact give k1.len p1 (uF (z hz) hl)
  ·rw[qao hl];trivial
def xDic:Xe ws where
 m:=mDic
 p:=fun _ s=>.ok .dic s
 fz:=true
 fr:=true
 ok {q h L B O σ env s} c:=by
  have r:Rp q (h++[MO.dic []]) O .dic (.loc h.length):=⟨_,rfl,fun z=>by have:=c.bd _ z;lia,by simp⟩;exact⟨.loc h.length,h++[.dic []],rfl,KB.app _ _ _,c.pen.app,.inl r,fun _=>r,fun _ ds e=>by cases e⟩
def Vw.bl(w:Vw q h L O (.bl b) v):v=.bl b:=by
 rcases w with r|⟨n,xs,ds,e,_⟩
 ·exact r
 ·cases e
def PR.bl(r:PR D):PR Bool:=r.bind fun d s=>match d with
 | .bl b=>.ok b s
 | _=>.bad
@[simp] theorem Pl:(PR.ok (D.bl b) s).bl=.ok b s:=rfl
def xB(a:Xe ws):Xt ws where
 m:=mB a.m
 p:=fun env s=>(a.p env s).bl
 ok {q h L B O σ env s} c:=by
  refine (a.ok c).bind fun x v h1 s1 k1 p1 ⟨w,_,_⟩=>?_
  cases x with
  | bl b=>rw[w.bl];exact⟨b,h1,rfl,KB.refl _ _,p1,rfl⟩
  | _=>trivial
def cD(a:Xt ws):Xt ws where
 m:=df a.m
 p:=fun env s=>(a.p env s).bind fun b s=>.ok (!b) s
 ok {q h L B O σ env s} c:=(a.ok c).bind fun x v h1 s1 k1 p1 e=>⟨!v,h1,rfl,KB.refl _ _,p1,by rw[e]⟩
def xAnd(a b:Xt ws):Xt ws where
 m:=mAnd a.m b.m
 p:=fun env s=>(a.p env s).bind fun x s=>if x=true then b.p env s else .ok false s
 ok {q h L B O σ env s} c:=(a.ok c).bind fun x v h1 s1 k1 p1 e=>by
  subst e
  cases x with
  | true=>simpa using b.ok (c.kb k1 p1)
  | false=>exact⟨false,h1,rfl,KB.refl _ _,p1,rfl⟩
def xOr(a b:Xt ws):Xt ws where
 m:=mOr a.m b.m
 p:=fun env s=>(a.p env s).bind fun x s=>if x=true then .ok true s else b.p env s
 ok {q h L B O σ env s} c:=(a.ok c).bind fun x v h1 s1 k1 p1 e=>by
  subst e
  cases x with
  | false=>simpa using b.ok (c.kb k1 p1)
  | true=>exact⟨true,h1,rfl,KB.refl _ _,p1,rfl⟩
def xTrue:Xt ws where
 m:=mTrue
 p:=fun _ s=>.ok true s
 ok {q h L B O σ env s} c:=⟨true,h,rfl,KB.refl _ _,c.pen,rfl⟩
def Ok.after{α β:Type}{p:Nat}{h h1:MH}{o:Out β}{r:PR α}{R:MH->α->β->Prop}(k:KB p h h1)(q:Ok p h1 o r R):Ok p h o r R:=by
 cases r with
 | bad=>trivial
 | exc c2 s2=>obtain⟨h2,a1,a2,a3⟩:=q;exact⟨h2,a1,k.trans a2,a3⟩
 | ok d2 s2=>obtain⟨v2,h2,a1,a2,a3,a4⟩:=q;exact⟨v2,h2,a1,k.trans a2,a3,a4⟩
def giveB(pn:cL h q s):Ok q h (.ok (.bl b) h) (.ok (.bl b) s) (fun h' d v=>Vw q h' L O d v/\(true=true->Rp q h' O d v)/\(true=true->Frs q l O h' d v)) :=
 ⟨.bl b,h,rfl,KB.refl _ _,pn,.inl rfl,fun _=>rfl,fun _ ds e=>by cases e⟩
def blOnly(k:Ok q h o r (fun h' d v=>Vw q h' L O d v/\(fz=true->Rp q h' O d v)/\(fr=true->Frs q l' O h' d v))) :
  Ok q h o (r.bl.bind fun b s=>.ok (.bl b) s) (fun h' d v=>Vw q h' L O d v/\(true=true->Rp q h' O d v)/\(true=true->Frs q l O h' d v)):=by
 cases r with
 | bad=>trivial
 | exc c s=>exact k
 | ok d s =>
  obtain⟨v,h',e,kb,pn,w,_,_⟩:=k
  cases d with
  | bl b=>exact⟨v,h',e,kb,pn,w,fun _=>by rw[w.bl];rfl,fun _ ds e=>by cases e⟩
  | _=>trivial
def cX(a b:Xe ws):Xe ws where
 m:=cM a.m b.m
 p:=fun env s=>(a.p env s).bl.bind fun x s=>if x=true then (b.p env s).bl.bind fun y s=>.ok (.bl y) s else .ok (.bl false) s
 fz:=true
 fr:=true
 ok {q h L B O σ env s} c:=by
  have k:=a.ok c;show Ok q h ((a.m σ h).bind _) _ _
  cases e:a.p env s with
  | bad=>trivial
  | exc x s1 =>
   rw[e] at k;obtain⟨h1,e1,k1,p1⟩:=k;rw[e1];exact⟨h1,rfl,k1,p1⟩
  | ok d s1 =>
   rw[e] at k;obtain⟨v,h1,e1,k1,p1,w,_,_⟩:=k
   cases d with
   | bl x =>
    rw[w.bl] at e1;rw[e1]
    cases x with
    | true =>
     exact Ok.after k1 (blOnly (l:=h.length) (b.ok (c.kb k1 p1)))
    | false =>
     obtain⟨v2,h2,a1,a2,a3,a4⟩:=giveB (L:=L) (l:=h.length) (O:=O) (b:=false) p1;exact⟨v2,h2,a1,k1.trans a2,a3,a4⟩
   | _=>trivial
def wP(a:Xe ws):Xe ws where
 m:=oW a.m
 p:=fun env s=>(a.p env s).bl.bind fun x s=>.ok (.bl (!x)) s
 fz:=true
 fr:=true
 ok {q h L B O σ env s} c:=by
  have k:=a.ok c;show Ok q h ((a.m σ h).bind _) _ _
  cases e:a.p env s with
  | bad=>trivial
  | exc x s1 =>
   rw[e] at k;obtain⟨h1,e1,k1,p1⟩:=k;rw[e1];exact⟨h1,rfl,k1,p1⟩
  | ok d s1 =>
   rw[e] at k;obtain⟨v,h1,e1,k1,p1,w,_,_⟩:=k
   cases d with
   | bl x =>
    rw[w.bl] at e1;rw[e1];obtain⟨v2,h2,a1,a2,a3,a4⟩:=giveB (L:=L) (l:=h.length) (O:=O) (b:=!x) p1;exact⟨v2,h2,a1,k1.trans a2,a3,a4⟩
   | _=>trivial
def sW(f g:Op2)(a b e:Xe ws):Xe ws where
 m:=jv f.m g.m a.m b.m e.m
 p:=fun env s=>(a.p env s).bind fun x s1=>(b.p env s1).bind fun y s2=>match f.p x y with
  | some (.bl t)=>if t=true then (e.p env s2).bind fun z s3=>.of (g.p y z) s3 else .ok (.bl false) s2
  | _=>.bad
 fz:=true
 fr:=false
 ok {q h L B O σ env s} c:=by
  refine (a.ok c).bind fun x v h1 s1 k1 p1 ⟨w1,_,_⟩=>?_;refine (b.ok (c.kb k1 p1)).bind fun y w h2 s2 k2 p2 ⟨w2,_,_⟩=>?_;have c2:=(c.kb k1 p1).kb k2 p2
  cases e1:f.p x y with
  | none=>trivial
  | some d =>
   cases d with
   | bl t =>
    obtain⟨u,gg,e2,r,_⟩:=f.ok c2.bd (w1.kb k2 c.pO c.pL) w2 e1;have hu:u=.bl t:=r;subst hu;rw[e2];have k3:=KB.app q h2 gg;have c3:=c2.kb k3 p2.app
    cases t with
    | true =>
     refine Ok.after k3 ?_;show Ok q (h2++gg) ((e.m σ (h2++gg)).bind _) _ _;refine (e.ok c3).bind fun z u h3 s3 k4 p4 ⟨w3,_,_⟩=>?_
     cases e4:g.p y z with
     | none=>trivial
     | some d =>
      obtain⟨u2,g2,e5,r2,_⟩:=g.ok (c3.kb k4 p4).bd ((w2.kb k3 c.pO c.pL).kb k4 c.pO c.pL) w3 e4;refine⟨u2,h3++g2,by rw[e5];rfl,KB.app _ _ _,p4.app,.inl r2,fun _=>r2,fun f=>by simp at f⟩
    | false=>exact⟨.bl false,h2++gg,rfl,k3,p2.app,.inl rfl,fun _=>rfl,fun f=>by simp at f⟩
   | _=>trivial
end
structure Xi (ws:List Nat) where
 m:Mx MIt
 p:aB->Pen->PR (List D)
 fz:Bool
 ok:∀{q h L B O σ env s},Cx q h L B O ws σ env s->Ok q h (m σ h) (p env s) (fun h' ds it=>Rps q h' O ds it.xs/\(∀g∈it.gd,h'[g.1]?=some (.lst g.2)/\g.1≠q)/\(fz=true->∀g∈it.gd,g.1∉O))
inductive GI (q:Nat) (h:MH) (O:List Nat) (ds as:List D) (xs:List PV) (o:Out MIt):Prop
 | mk (it:MIt) (e:o=.ok it h) (r:Rps q h O ds it.xs) (g:∀g∈it.gd,h[g.1]?=some (.lst g.2)/\g.1≠q) (z:Rps q h O as xs->∀g∈it.gd,g.1∉O):GI q h O ds as xs o
structure OpI where
 k:List PV->MH->Out MIt
 p:List D->Option (List D)
 ok:∀{q h L O as xs ds},q<L->q∈O->Bd h O->Vws q h L O as xs->p as=some ds->GI q h O ds as xs (k xs h)
def D.items:D->Option (List D)
 | .lst ds=>some ds
 | .tup ds=>some ds
 | _=>none
@[simp] theorem items_lst:(D.lst ds).items=some ds:=rfl
@[simp] theorem items_tup:(D.tup ds).items=some ds:=rfl
noncomputable section
variable {ws:List Nat}
def ni(o:OpI)(a:Xs ws):Xi ws where
 m:=fun σ h=>(a.m σ h).bind o.k
 p:=fun env s=>(a.p env s).bind fun x s1=>.of (o.p x) s1
 fz:=a.fz
 ok {q h L B O σ env s} c:=by
  refine (a.ok c).bind fun x v h1 s1 k1 p1 ⟨w,z⟩=>?_
  cases e:o.p x with
  | none=>trivial
  | some ds =>
   obtain⟨it,e1,r,g1,g2⟩:=o.ok c.pL c.pO (c.kb k1 p1).bd w e;exact⟨it,h1,e1,KB.refl _ _,p1,r,g1,fun f=>g2 (z f)⟩
def Vw.seq(hq:q<L)(hO:q∈O)(w:Vw q h L O d v)(e:d.items=some ds):∃xs gd,itAny v h=.ok ⟨xs,gd⟩ h/\Rps q h O ds xs/\(∀g∈gd,h[g.1]?=some (.lst g.2)/\g.1≠q)/\(Rp q h O d v->∀g∈gd,g.1∉O):=by
 have one:∀n xs,h[n]?=some (MO.lst xs)->n≠q->(∀g∈[(n,xs)],h[g.1]?=some (MO.lst g.2)/\g.1≠q):=fun n xs g hn y hy=>by
  have:y=(n,xs):=by simpa using hy
  subst this;exact⟨g,hn⟩
 cases d with
 | lst es =>
  have:es=ds:=by simpa [D.items] using e
  subst this;rcases w with ⟨n,xs,e1,no,g,r⟩|⟨n,xs,es',e0,e1,_,hn,g,r⟩
  ·subst e1;refine⟨xs,[(n,xs)],by simp only[itAny,g],r,one n xs g (fun z=>no (z▸hO)),fun _ y hy=>?_⟩
   have:y=(n,xs):=by simpa using hy
   subst this;exact no
  ·cases e0;subst e1;refine⟨xs,[(n,xs)],by simp only[itAny,g],r,one n xs g (by lia),fun ⟨n',xs',e1,no,_,_⟩ y hy=>?_⟩
   have:y=(n,xs):=by simpa using hy
   subst this;cases e1;exact no
 | tup es =>
  have:es=ds:=by simpa [D.items] using e
  subst this;rcases w with ⟨xs,e1,r⟩|⟨n,xs,es',e0,_⟩
  ·subst e1;exact⟨xs,[],rfl,r,(fun _ hy=>nomatch hy),fun _ _ hy=>nomatch hy⟩
  ·cases e0
 | _=>simp[D.items] at e
def bL(a:Xe ws):Xi ws where
 m:=ci a.m
 p:=fun env s=>(a.p env s).bind fun x s1=>.of x.items s1
 fz:=a.fz
 ok {q h L B O σ env s} c:=by
  refine (a.ok c).bind fun x v h1 s1 k1 p1 ⟨w,z,_⟩=>?_
  cases e:x.items with
  | none=>trivial
  | some ds =>
   obtain⟨xs,gd,e1,r,g1,g2⟩:=w.seq c.pL c.pO e;exact⟨⟨xs,gd⟩,h1,e1,KB.refl _ _,p1,r,g1,fun f=>g2 (z f)⟩
structure Xg (ws:List Nat) where
 m:Mg
 p:D->aB->Option aB
 ok:∀{q h L O σ env d v env'},SR q h L O ws σ env->Rp q h O d v->p d env=some env'->∃σ',m v σ h=.nx σ' h/\SR q h L O ws σ' env'/\∀i∈ws,σ'[i]?=σ[i]?/\env'[i]?=env[i]?
structure Xgs (ws:List Nat) where
 m:Mgs
 p:List D->aB->Option aB
 ok:∀{q h L O σ env ds vs env'},SR q h L O ws σ env->Rps q h O ds vs->p ds env=some env'->∃σ',m vs σ h=.nx σ' h/\SR q h L O ws σ' env'/\∀i∈ws,σ'[i]?=σ[i]?/\env'[i]?=env[i]?
def SR.set(r:SR q h L O ws σ env)(hi:i∉ws)(w:Rp q h O d v):SR q h L O ws (σ.set i (some v)) (env.set i (some d))/\∀j∈ws,(σ.set i (some v))[j]?=σ[j]?/\(env.set i (some d))[j]?=env[j]?:=by
 have ne:∀j∈ws,i≠j:=fun j hj z=>hi (z▸hj);refine⟨⟨by simp[r.len],fun j e hj hw=>?_,fun j e hj hw=>?_⟩,fun j hj=>⟨qah (ne j hj),qah (ne j hj)⟩⟩
 ·by_cases z:i=j
  ·subst z;have hl:i<env.length:=by
    have:=(qaf.mp hj).1;simpa using this
   rw[qat hl] at hj;cases hj;exact⟨v,qat (by rw[r.len];exact hl),w⟩
  ·rw[qah z] at hj;obtain⟨u,e1,q1⟩:=r.fz j e hj hw;exact⟨u,by rw[qah z];exact e1,q1⟩
 ·rw[qah (ne j hw)] at hj;obtain⟨n,xs,ds,e1,e2,rest⟩:=r.ow j e hj hw;exact⟨n,xs,ds,e1,by rw[qah (ne j hw)];exact e2,rest⟩
def xNm(i:Nat)(hi:ws.contains i=false:=by exact ys rfl):Xg ws where
 m:=gNm i
 p:=fun d env=>some (env.set i (some d))
 ok {q h L O σ env d v env'} r w e:=by
  cases e;have hi':i∉ws:=fun z=>by simp[z] at hi
  obtain⟨a,b⟩:=r.set hi' w;exact⟨_,rfl,a,b⟩
def xGl:Xgs ws where
 m:=gNl
 p:=fun ds env=>match ds with
  | []=>some env
  | _=>none
 ok {q h L O σ env ds vs env'} r w e:=by
  cases ds with
  | nil =>
   cases e
   have:vs=[]:=w
   subst this;exact⟨σ,rfl,r,fun _ _=>⟨rfl,rfl⟩⟩
  | cons _ _=>cases e
def xGc(a:Xg ws)(t:Xgs ws):Xgs ws where
 m:=gCn a.m t.m
 p:=fun ds env=>match ds with
  | d::ds=>(a.p d env).bind fun env1=>t.p ds env1
  | []=>none
 ok {q h L O σ env ds vs env'} r w e:=by
  cases ds with
  | nil=>cases e
  | cons d ds =>
   obtain⟨x,y,rfl,r1,r2⟩:=w;dsimp only at e
   cases e1:a.p d env with
   | none=>rw[e1] at e;cases e
   | some env1 =>
    rw[e1] at e;obtain⟨σ1,f1,s1,k1⟩:=a.ok r r1 e1;obtain⟨σ2,f2,s2,k2⟩:=t.ok s1 r2 e;exact⟨σ2,by show (a.m x σ h).then (t.m y)=_;rw[f1];exact f2,s2,fun i hi=>⟨(k2 i hi).1.trans (k1 i hi).1,(k2 i hi).2.trans (k1 i hi).2⟩⟩
def xGp(t:Xgs ws)(n:Nat):Xg ws where
 m:=gTp t.m n
 p:=fun d env=>match d with
  | .tup ds=>if ds.length=n then t.p ds env else none
  | _=>none
 ok {q h L O σ env d v env'} r w e:=by
  cases d with
  | tup ds =>
   obtain⟨xs,rfl,w⟩:=w;dsimp only at e;by_cases z:ds.length=n
   ·rw[qae z] at e;obtain⟨σ',a,b⟩:=t.ok r w e;exact⟨σ',by show (if xs.length=n then t.m xs σ h else .bad)=_;rw[qae (by rw[w.length];exact z)];exact a,b⟩
   ·rw[qao z] at e;cases e
  | _=>cases e
def cws(nv:Nat)(fm ws:List Nat):List Nat:=((List.range fm.length).filter fun j=>ws.contains (fm.getD j 0)).map (nv+·)
def cenv(nv:Nat)(fm:List Nat)(env:aB):aB:=List.replicate nv none++fm.map fun i=>(env[i]?).getD none
def PR.ne{α:Type}(r:PR α):PR α:=match r with
 | .exc _ _=>.bad
 | r=>r
@[simp] theorem PR.ne_ok(a:α)(s:Pen):(PR.ok a s).ne=.ok a s:=rfl
def fh(g:D->aB->Option aB)(t:aB->Pen->PR Bool)(e:aB->Pen->PR D):List D->aB->Pen->PR (List D)
 | [],_,s=>.ok [] s
 | d::ds,env,s=>match g d env with
  | none=>.bad
  | some env1=>(t env1 s).bind fun b s1=>if b=true then (e env1 s1).bind fun x s2=>(fh g t e ds env1 s2).bind fun r s3=>.ok (x::r) s3 else fh g t e ds env1 s1
def cget{nv:Nat}{fm:List Nat}{α:Type}{env:List (Option α)}{i:Nat}{d:α}(e:(List.replicate nv none++fm.map fun i=>(env[i]?).getD none)[i]?=some (some d)):∃j k,i=nv+j/\fm[j]?=some k/\env[k]?=some (some d):=by
 by_cases z:i<nv
 ·rw[qak (by simpa using z)] at e;simp[z] at e
 ·rw[qaw (by simp;lia)] at e;simp only[qbs,qaK] at e
  cases ek:fm[i - nv]? with
  | none=>rw[ek] at e;cases e
  | some k =>
   rw[ek] at e;simp only[qbK,Option.some.injEq] at e;refine⟨i - nv,k,by lia,ek,?_⟩
   cases z2:env[k]? with
   | none=>rw[z2] at e;cases e
   | some o=>rw[z2] at e;simp at e;rw[e]
def cput{nv:Nat}{fm:List Nat}{α:Type}{σ:List (Option α)}{j k:Nat}{v:α}(e1:fm[j]?=some k)(e2:σ[k]?=some (some v)):(List.replicate nv none++fm.map fun i=>(σ[i]?).getD none)[nv+j]?=some (some v):=by
 rw[qaw (by simp)];simp[e1,e2]
def uZ(e:fm[j]?=some k):nv+j∈cws nv fm ws↔k∈ws:=by
 have hj:=(qaf.mp e).1;have hk:fm.getD j 0=k:=by simp[List.getD,e]
 unfold cws;rw[qaz];constructor
 ·rintro⟨a,ha,hb⟩
  have:a=j:=by lia
  subst this;rw[qbz] at ha
  have:=ha.2
  rw[hk] at this;simpa using this
 ·intro hw;exact⟨j,qbz.mpr ⟨qcB.mpr hj,by rw[hk];simpa using hw⟩,rfl⟩
def SR.comp{q:Nat}{h:MH}{L:Nat}{O:List Nat}{σ:PSt}{env:aB}(nv:Nat)(fm:List Nat)(r:SR q h L O ws σ env):SR q h L O (cws nv fm ws) (cSt nv fm σ) (cenv nv fm env):=by
 refine⟨by simp[cSt,cenv],fun i d e hi=>?_,fun i d e hi=>?_⟩
 ·obtain⟨j,k,rfl,e1,e2⟩:=cget e;obtain⟨v,e3,w⟩:=r.fz k d e2 fun z=>hi ((uZ e1).mpr z);exact⟨v,cput e1 e3,w⟩
 ·obtain⟨j,k,rfl,e1,e2⟩:=cget e;obtain⟨n,xs,ds,e0,e3,w⟩:=r.ow k d e2 ((uZ e1).mp hi);exact⟨n,xs,ds,e0,cput e1 e3,w⟩
def cGo_ok(gt:Xg ws')(t:Xt ws')(e:Xe ws')(hz:e.fz=true)(hq:q<h1.length)(gd:∀g∈it.gd,h1[g.1]?=some (.lst g.2)/\g.1≠q) :
  ∀(ds:List D) (xs:List PV) (env:aB) (σ:PSt) (h:MH) (accD:List D) (acc:List PV) (s:Pen) (r:List D) (s':Pen),(∀i∈ws',∀d,env[i]?=some (some d)->∀n,σ[i]?=some (some (.loc n))->n<h1.length)->KB q h1 h->Cx q h L B (h1.length::O) ws' σ env s->Rps q h (h1.length::O) ds xs->h[h1.length]?=some (.lst acc)->Rps q h (h1.length::O) accD acc->accD.length+ds.length<=100000 ->
  fh gt.p t.p e.p ds env s=.ok r s'->∃h' zs,cGo it h1.length gt.m t.m e.m xs σ h=.ok () h'/\KB q h1 h'/\cL h' q s'/\h'[h1.length]?=some (.lst zs)/\Rps q h' (h1.length::O) (accD++r) zs:=by
 intro ds
 induction ds with
 | nil =>
  intro xs env σ h accD acc s r s' on kb c rx ga ra hl ep
  have:xs=[]:=rx
  subst this;cases ep;have ok:it.ok h:=fun g hg=>(kb.keep _ (bw (gd g hg).1) (gd g hg).2).trans (gd g hg).1;exact⟨h,acc,by rw[cGo,qae ok],kb,c.pen,ga,by simpa using ra⟩
 | cons d ds ih =>
  intro xs env σ h accD acc s r s' on kb c rx ga ra hl ep;obtain⟨x,xr,rfl,r1,r2⟩:=rx;have ok:it.ok h:=fun g hg=>(kb.keep _ (bw (gd g hg).1) (gd g hg).2).trans (gd g hg).1;rw[fh] at ep
  cases eg:gt.p d env with
  | none=>rw[eg] at ep;cases ep
  | some env1 =>
   rw[eg] at ep;dsimp only at ep;obtain⟨σ1,f1,sr1,k1⟩:=gt.ok c.sr r1 eg;have on1:∀i∈ws',∀d,env1[i]?=some (some d)->∀n,σ1[i]?=some (some (.loc n))->n<h1.length:=fun i hi d e n z=>on i hi d ((k1 i hi).2▸e) n ((k1 i hi).1▸z);have c1:Cx q h L B (h1.length::O) ws' σ1 env1 s:=⟨c.bd,c.sub,c.bb,c.pb,c.hL,c.pen,sr1⟩;have kt:=t.ok c1
   cases et:t.p env1 s with
   | bad=>rw[et] at ep;cases ep
   | exc _ _=>rw[et] at ep;cases ep
   | ok b s1 =>
    rw[et] at ep kt;obtain⟨b',h2,f2,k2,p2,eb⟩:=kt;subst eb;have c2:=c1.kb k2 p2;have mv2:Mv (h1.length::O) h (h1.length::O) h2:=k2.mv c.pO;have hn:h1.length<h.length:=bw ga;have ga2:h2[h1.length]?=some (.lst acc):=(k2.keep _ hn (by lia)).trans ga;rw[Pb] at ep
    cases b with
    | false =>
     rw[qao (by simp)] at ep;obtain⟨h',zs,a1,a2⟩:=ih xr env1 σ1 h2 accD acc s1 r s' on1 (kb.trans k2) c2 (r2.mv mv2) ga2 (ra.mv mv2) (by simp at hl;lia) ep;refine⟨h',zs,?_,a2⟩;rw[cGo,qae ok,f1];simp only[f2,Out.ne_ok,Out.bind_ok,qag,if_false];exact a1
    | true =>
     rw[qae rfl] at ep;have ke:=e.ok c2
     cases ee:e.p env1 s1 with
     | bad=>rw[ee] at ep;cases ep
     | exc _ _=>rw[ee] at ep;cases ep
     | ok y s2 =>
      rw[ee] at ep ke;obtain⟨v,h3,f3,k3,p3,_,rv,_⟩:=ke;have rv:=rv hz;have c3:=c2.kb k3 p3;have mv3:Mv (h1.length::O) h2 (h1.length::O) h3:=k3.mv c.pO;have ga3:h3[h1.length]?=some (.lst acc):=(k3.keep _ (bw ga2) (by lia)).trans ga2;have mv4:Mv (h1.length::O) h3 (h1.length::O) (h3.set h1.length (.lst (acc++[v]))) :=
       ⟨fun n hn no=>qah (fun z=>no (by simp[z])),fun o ho=>.inl ho⟩
      have ra3:Rps q h3 (h1.length::O) (accD++[y]) (acc++[v]):=((ra.mv mv2).mv mv3).app ⟨v,[],rfl,rv,rfl⟩;rw[Pb] at ep
      cases er:fh gt.p t.p e.p ds env1 s2 with
      | bad=>rw[er] at ep;cases ep
      | exc _ _=>rw[er] at ep;cases ep
      | ok r' s3 =>
       rw[er] at ep;cases ep;have k03:KB q h1 h3:=(kb.trans k2).trans k3;have c4:Cx q (h3.set h1.length (.lst (acc++[v]))) L B (h1.length::O) ws' σ1 env1 s2:=by
        refine⟨fun o ho=>by simpa using c3.bd o ho,c3.sub,c3.bb,c3.pb,by simpa using c3.hL,?_,?_⟩
        ·unfold cL;rw[qah (by lia)];exact p3
        ·refine⟨c3.sr.len,fun i d e hi=>let ⟨v,e1,q1⟩:=c3.sr.fz i d e hi;⟨v,e1,q1.mv mv4⟩,fun i d e hi=>?_⟩;obtain⟨n,ys,es,b1,b2,b3,b4,b5,b6⟩:=c3.sr.ow i d e hi;have z:=on1 i hi d e n b2;exact⟨n,ys,es,b1,b2,b3,b4,by rw[qah (by lia)];exact b5,b6.mv mv4⟩
       obtain⟨h',zs,a1,a2,a3,a4,a5⟩:=ih xr env1 σ1 (h3.set h1.length (.lst (acc++[v]))) (accD++[y]) (acc++[v]) s2 r' _ on1 ⟨by simpa using k03.len,fun n hn hp=>by rw[qah (by lia)];exact k03.keep n hn hp⟩ c4 (((r2.mv mv2).mv mv3).mv mv4) (qat (bw ga3)) (ra3.mv mv4) (by simp at hl ⊢;lia) er;refine⟨h',zs,?_,a2,a3,a4,by simpa using a5⟩;rw[cGo,qae ok,f1];simp only[f2,Out.ne_ok,Out.bind_ok,if_true,f3,ga3];rw[qae (by have:=iA;have:=ra.length;simp at hl;lia)];exact a1
def bU(nv:Nat)(fm:List Nat)(i:Xi ws){ws':List Nat}(g:Xg ws')(t:Xt ws')(e:Xe ws')(hw:cws nv fm ws=ws':=by exact ys rfl)(hz:e.fz=true:=by exact ys rfl):Xe ws where
 m:=bI nv fm i.m g.m t.m e.m
 p:=fun env s=>(i.p env s).bind fun ds s1=>if ds.length<=100000 then (match fh g.p t.p e.p ds (cenv nv fm env) s1 with
  | .ok r s2=>.ok (.lst r) s2
  | _=>.bad) else .bad
 fz:=true
 fr:=true
 ok {q h L B O σ env s} c:=by
  subst hw;refine (i.ok c).bind fun ds it h1 s1 k1 p1 ⟨rx,gd,_⟩=>?_;have c1:=c.kb k1 p1;by_cases hl:ds.length<=100000
  ·rw[qae hl]
   cases er:fh g.p t.p e.p ds (cenv nv fm env) s1 with
   | bad=>trivial
   | exc _ _=>trivial
   | ok r s2 =>
    have mv:Mv O h1 (h1.length::O) (h1++[MO.lst []]):=⟨fun n hn _=>qak hn,fun o ho=>by
     rcases qaj.mp ho with z|z
     ·exact .inr (by lia)
     ·exact .inl z⟩
    have sr:=(c1.sr.comp nv fm).mv mv (fun o ho=>qal _ ho) fun n hn _ _=>qak hn;have c2:Cx q (h1++[MO.lst []]) L B (h1.length::O) (cws nv fm ws) (cSt nv fm σ) (cenv nv fm env) s1:=by
     refine⟨fun o ho=>?_,fun o ho=>qal _ (c.sub o ho),c.bb,c.pb,by have:=c1.hL;simp;lia,p1.app,sr⟩;rcases qaj.mp ho with z|z
     ·subst z;simp
     ·have:=c1.bd o z;simp;lia
    have hq:q<h1.length:=bw p1
    obtain⟨h',zs,a1,a2,a3,a4,a5⟩:=cGo_ok g t e hz (L:=L) (B:=B) (O:=O) hq gd ds it.xs (cenv nv fm env) (cSt nv fm σ) (h1++[MO.lst []]) [] [] s1 r s2 (fun i hi d ed n en=>by
     obtain⟨n',_,_,_,b2,_,_,b5,_⟩:=(c1.sr.comp nv fm).ow i d ed hi;rw[b2] at en;cases en
     exact bw b5) (KB.app _ _ _) c2 (rx.mv mv) (by simp) rfl (by simpa using hl) er
    have f:Frs q h.length O h' (.lst r) (.loc h1.length):=fun ds e=>by
     cases e;exact⟨_,zs,rfl,k1.len,a4,by simpa using a5⟩
    have rr:=f.rp c.bd rfl;exact⟨.loc h1.length,h',by show (cGo _ _ _ _ _ _ _ _).bind _=_;rw[a1];rfl,a2,a3,.inl rr,fun _=>rr,fun _=>f⟩
  ·rw[qao hl];trivial
end
end PU
namespace PU
open PySem MM
local instance (priority:=1) cdecN4 (p:Prop):Decidable p:=Classical.propDecidable p
inductive PS where
 | nx (e:aB) (s:Pen)
 | rt (d:D) (s:Pen)
 | bk (e:aB) (s:Pen)
 | ct (e:aB) (s:Pen)
 | exc (c:Str) (e:aB) (s:Pen)
 | rse (c:Str) (e:aB) (s:Pen)
 | bad
structure Stp (q L:Nat) (h:MH) (O:List Nat) (h':MH) (O':List Nat):Prop where
 len:h.length<=h'.length
 mv:Mv O h O' h'
 sub:∀o∈O,o∈O'
 base:∀n:Nat,n<L->n≠q->h'[n]?=h[n]?
def Stp.refl(q L:Nat)(h:MH)(O:List Nat):Stp q L h O h O:=⟨qai _,⟨fun _ _ _=>rfl,fun _ h=>.inl h⟩,fun _ h=>h,fun _ _ _=>rfl⟩
def Stp.trans(a:Stp q L h O h1 O1)(b:Stp q L h1 O1 h2 O2):Stp q L h O h2 O2:=by
 refine⟨qax a.len b.len,⟨fun n hn no=>?_,fun o ho=>?_⟩,fun o ho=>b.sub o (a.sub o ho),fun n hn hq=>(b.base n hn hq).trans (a.base n hn hq)⟩
 ·have n1:n∉O1:=fun z=>by
   rcases a.mv.new n z with q|q
   ·exact no q
   ·lia
  exact (b.mv.keep n (qau hn a.len) n1).trans (a.mv.keep n hn no)
 ·rcases b.mv.new o ho with z|z
  ·exact a.mv.new o z
  ·exact .inr (qax a.len z)
def Dis(ws:List Nat)(σ:PSt)(env:aB):Prop:=∀i j,i∈ws->j∈ws->i≠j->∀d d' n,env[i]?=some (some d)->env[j]?=some (some d')->σ[i]?=some (some (.loc n))->σ[j]?≠some (some (.loc n))
inductive Nxt (q L:Nat) (h:MH) (B O ws:List Nat) (σ':PSt) (h':MH) (env:aB) (s:Pen):Prop
 | mk (O':List Nat) (a:Stp q L h O h' O') (c:Cx q h' L B O' ws σ' env s) (d:Dis ws σ' env):Nxt q L h B O ws σ' h' env s
inductive SNx (q L:Nat) (h:MH) (B O ws:List Nat) (f:PSt->MH->SOut) (o:SOut) (env:aB) (s:Pen):Prop
 | mk (σ':PSt) (h':MH) (e:o=f σ' h') (n:Nxt q L h B O ws σ' h' env s):SNx q L h B O ws f o env s
inductive SRt (q L:Nat) (h:MH) (B:List Nat) (fr:Bool) (o:SOut) (d:D) (s:Pen):Prop
 | mk (v:PV) (h':MH) (e:o=.rt v h') (l:h.length<=h'.length) (b:∀n:Nat,n<L->n≠q->h'[n]?=h[n]?) (p:cL h' q s) (r:Rp q h' B d v) (f:fr=true->Frs q L B h' d v):SRt q L h B fr o d s
def SOk(q L:Nat)(h:MH)(B O ws:List Nat)(fr:Bool)(o:SOut)(r:PS):Prop:=match r with
 | .nx env s=>SNx q L h B O ws .nx o env s
 | .bk env s=>SNx q L h B O ws .bk o env s
 | .ct env s=>SNx q L h B O ws .ct o env s
 | .exc c env s=>SNx q L h B O ws (.exc ⟨c,[]⟩) o env s
 | .rse c env s=>SNx q L h B O ws (.rse ⟨c,[]⟩) o env s
 | .rt d s=>SRt q L h B fr o d s
 | .bad=>True
structure Xd (ws:List Nat) where
 m:Mst
 p:aB->Pen->PS
 fr:Bool
 ok:∀{q h L B O σ env s},Cx q h L B O ws σ env s->Dis ws σ env->SOk q L h B O ws fr (m σ h) (p env s)
def Nxt.after(a:Stp q L h O h1 O1)(n:Nxt q L h1 B O1 ws σ' h' env s):Nxt q L h B O ws σ' h' env s :=
 let ⟨O',b,c,d⟩:=n;⟨O',a.trans b,c,d⟩
def SOk.after(a:Stp q L h O h1 O1)(k:SOk q L h1 B O1 ws fr o r):SOk q L h B O ws fr o r:=by
 cases r with
 | nx env s=>obtain⟨σ',h',e,n⟩:=k;exact⟨σ',h',e,n.after a⟩
 | bk env s=>obtain⟨σ',h',e,n⟩:=k;exact⟨σ',h',e,n.after a⟩
 | ct env s=>obtain⟨σ',h',e,n⟩:=k;exact⟨σ',h',e,n.after a⟩
 | exc c env s=>obtain⟨σ',h',e,n⟩:=k;exact⟨σ',h',e,n.after a⟩
 | rse c env s=>obtain⟨σ',h',e,n⟩:=k;exact⟨σ',h',e,n.after a⟩
 | rt d s=>obtain⟨v,h',e,l,b,r1,r2,r3⟩:=k;exact⟨v,h',e,qax a.len l,fun n hn hq=>(b n hn hq).trans (a.base n hn hq),r1,r2,r3⟩
 | bad=>trivial
def SOk.fr(hf:f'=true->f=true)(k:SOk q L h B O ws f o r):SOk q L h B O ws f' o r:=by
 cases r with
 | rt d s=>obtain⟨v,h',e,l,b,p,r,z⟩:=k;exact⟨v,h',e,l,b,p,r,fun y=>z (hf y)⟩
 | nx env s=>exact k
 | bk env s=>exact k
 | ct env s=>exact k
 | exc c env s=>exact k
 | rse c env s=>exact k
 | bad=>trivial
def KB.stp(c:Cx q h L B O ws σ env s)(k:KB q h h'):Stp q L h O h' O :=
 ⟨k.len,k.mv c.pO,fun _ h=>h,fun n hn hq=>k.keep n (qau hn c.hL) hq⟩
def PR.go{α:Type}(r:PR α)(env:aB)(k:α->aB->Pen->PS):PS:=match r with
 | .ok a s=>k a env s
 | .exc c s=>.exc c env s
 | .bad=>.bad
@[simp] theorem Pg(a:α)(s:Pen)(env:aB)(k:α->aB->Pen->PS):(PR.ok a s).go env k=k a env s:=rfl
@[simp] theorem PR.go_exc(c:Str)(s:Pen)(env:aB)(k:α->aB->Pen->PS):(PR.exc c s:PR α).go env k=.exc c env s:=rfl
@[simp] theorem PR.go_bad(env:aB)(k:α->aB->Pen->PS):(PR.bad:PR α).go env k=.bad:=rfl
theorem SOk.ex{α β:Type}{q L:Nat}{h:MH}{B O ws:List Nat}{fr:Bool}{σ:PSt}{env:aB}{s:Pen}{o:Out β}{r:PR α}{R:MH->α->β->Prop}{f:β->Mst}{g:α->aB->Pen->PS}(c:Cx q h L B O ws σ env s)(d:Dis ws σ env)(k:Ok q h o r R)
  (n:∀a b h1 s1,KB q h h1->Cx q h1 L B O ws σ env s1->R h1 a b->SOk q L h1 B O ws fr (f b σ h1) (g a env s1)) :
  SOk q L h B O ws fr (o.go σ f) (r.go env g):=by
 cases r with
 | ok a s1 =>
  obtain⟨b,h1,rfl,kb,pn,rr⟩:=k;exact (n a b h1 s1 kb (c.kb kb pn) rr).after (kb.stp c)
 | exc x s1 =>
  obtain⟨h1,rfl,kb,pn⟩:=k;exact⟨σ,h1,rfl,O,kb.stp c,c.kb kb pn,d⟩
 | bad=>trivial
noncomputable section
variable {ws:List Nat}
def PS.then(r:PS)(k:aB->Pen->PS):PS:=match r with
 | .nx env s=>k env s
 | r=>r
@[simp] theorem aq:(PS.nx env s).then k=k env s:=rfl
@[simp] theorem then_rt:(PS.rt d s).then k=.rt d s:=rfl
@[simp] theorem then_bk:(PS.bk env s).then k=.bk env s:=rfl
@[simp] theorem then_ct:(PS.ct env s).then k=.ct env s:=rfl
@[simp] theorem yI:(PS.exc c env s).then k=.exc c env s:=rfl
@[simp] theorem yU:(PS.rse c env s).then k=.rse c env s:=rfl
@[simp] theorem ym:PS.bad.then k=.bad:=rfl
def aG(a b:Xd ws):Xd ws where
 m:=aC a.m b.m
 p:=fun env s=>(a.p env s).then b.p
 fr:=a.fr && b.fr
 ok {q h L B O σ env s} c d:=by
  have k:=a.ok c d;show SOk q L h B O ws _ ((a.m σ h).then b.m) _
  cases e:a.p env s with
  | nx env1 s1 =>
   rw[e] at k;obtain⟨σ1,h1,e1,O1,st,c1,d1⟩:=k;rw[e1];exact ((b.ok c1 d1).fr (by simp)).after st
  | rt x s1=>rw[e] at k;obtain⟨v,h',e1,r1,r2,r3,r4,r5⟩:=k;rw[e1];exact SOk.fr (f:=a.fr) (by simp;exact fun h _=>h) (show SOk q L h B O ws a.fr (.rt v h') (.rt x s1) from⟨v,h',rfl,r1,r2,r3,r4,r5⟩)
  | bk env1 s1=>rw[e] at k;obtain⟨σ',h',e1,r⟩:=k;rw[e1];exact⟨σ',h',rfl,r⟩
  | ct env1 s1=>rw[e] at k;obtain⟨σ',h',e1,r⟩:=k;rw[e1];exact⟨σ',h',rfl,r⟩
  | exc x env1 s1=>rw[e] at k;obtain⟨σ',h',e1,r⟩:=k;rw[e1];exact⟨σ',h',rfl,r⟩
  | rse x env1 s1=>rw[e] at k;obtain⟨σ',h',e1,r⟩:=k;rw[e1];exact⟨σ',h',rfl,r⟩
  | bad=>trivial
def xSkip:Xd ws where
 m:=mSkip
 p:=.nx
 fr:=true
 ok {q h L B O σ env s} c d:=⟨σ,h,rfl,O,Stp.refl _ _ _ _,c,d⟩
def ret_go{m:Mx PV}{σ:PSt}{h:MH}:aP m σ h=(m σ h).go σ fun v _ h'=>.rt v h':=by unfold aP;cases m σ h <;> rfl
def bi(e:Xe ws):Xd ws where
 m:=aP e.m
 p:=fun env s=>(e.p env s).go env fun d _ s=>.rt d s
 fr:=e.fr
 ok {q h L B O σ env s} c d:=by
  rw[ret_go];refine SOk.ex (f:=fun v _ h'=>.rt v h') (g:=fun d _ s=>.rt d s) c d (e.ok c) fun x v h1 s1 kb c1 ⟨w,z,f⟩=>?_;refine⟨v,h1,rfl,qai _,fun _ _ _=>rfl,c1.pen,w.base c1.sub c1.bb,fun y=>?_⟩;intro ds ed;obtain⟨n,xs,a1,a2,a3,a4⟩:=f y ds ed
  have:=c.hL
  exact⟨n,xs,a1,by lia,a3,a4.mv ⟨fun _ _ _=>rfl,fun o ho=>.inl (by
   rcases qaj.mp ho with z|z
   ·subst z;simp
   ·exact qal _ (c.sub o z))⟩⟩
def fG(e:Xe ws):Xd ws where
 m:=cK e.m
 p:=fun env s=>(e.p env s).go env fun _=>.nx
 fr:=true
 ok {q h L B O σ env s} c d:=SOk.ex (f:=fun _=>mSkip) (g:=fun _=>.nx) c d (e.ok c) fun x v h1 s1 kb c1 _=>⟨σ,h1,rfl,O,Stp.refl _ _ _ _,c1,d⟩
def xIf(t:Xt ws)(a b:Xd ws):Xd ws where
 m:=mIf t.m a.m b.m
 p:=fun env s=>(t.p env s).go env fun x env s=>if x=true then a.p env s else b.p env s
 fr:=a.fr && b.fr
 ok {q h L B O σ env s} c d:=SOk.ex (f:=fun x=>if x=true then a.m else b.m) (g:=fun x env s=>if x=true then a.p env s else b.p env s) c d (t.ok c) fun x v h1 s1 kb c1 e=>by
  subst e
  cases x with
  | true=>exact (a.ok c1 d).fr (by simp;exact fun h _=>h)
  | false=>exact (b.ok c1 d).fr (by simp)
def Dis.keep(d:Dis ws σ env)(k:∀i∈ws,σ'[i]?=σ[i]?/\env'[i]?=env[i]?):Dis ws σ' env':=fun i j hi hj ne x y n a b e=>by
 rw[(k i hi).1] at e;rw[(k i hi).2] at a;rw[(k j hj).2] at b;rw[(k j hj).1];exact d i j hi hj ne x y n a b e
def bx(i:Nat)(e:Xe ws)(hi:ws.contains i=false:=by exact ys rfl)(hz:e.fz=true:=by exact ys rfl):Xd ws where
 m:=aX i e.m
 p:=fun env s=>(e.p env s).go env fun d env s=>.nx (env.set i (some d)) s
 fr:=true
 ok {q h L B O σ env s} c d:=by
  refine SOk.ex (f:=fun v σ h=>.nx (σ.set i (some v)) h) (g:=fun d env s=>.nx (env.set i (some d)) s) c d (e.ok c) fun x v h1 s1 kb c1 ⟨_,z,_⟩=>?_;obtain⟨a,b⟩:=c1.sr.set (i:=i) (fun z=>by simp[z] at hi) (z hz);exact⟨_,h1,rfl,O,Stp.refl _ _ _ _,⟨c1.bd,c1.sub,c1.bb,c1.pb,c1.hL,c1.pen,a⟩,d.keep b⟩
def qZ(i:Nat)(e:Xe ws)(hi:ws.contains i=true:=by exact ys rfl)(hz:e.fr=true:=by exact ys rfl):Xd ws where
 m:=aX i e.m
 p:=fun env s=>(e.p env s).go env fun d env s=>match d with
  | .lst ds=>.nx (env.set i (some (.lst ds))) s
  | _=>.bad
 fr:=true
 ok {q h L B O σ env s} c d:=by
  show SOk q L h B O ws _ _ _;have k:=e.ok c;show SOk q L h B O ws _ ((e.m σ h).go σ fun v σ h=>.nx (σ.set i (some v)) h) _
  cases ee:e.p env s with
  | bad=>trivial
  | exc x s1 =>
   rw[ee] at k;obtain⟨h1,e1,kb,pn⟩:=k;rw[e1];exact⟨σ,h1,rfl,O,kb.stp c,c.kb kb pn,d⟩
  | ok x s1 =>
   rw[ee] at k;obtain⟨v,h1,e1,kb,pn,_,_,f⟩:=k;rw[e1]
   cases x with
   | lst ds =>
    obtain⟨n,xs,rfl,hn,g,r⟩:=f hz ds rfl;have c1:=c.kb kb pn;have hi':i∈ws:=by simpa using hi
    have mv:Mv O h (n::O) h1:=⟨fun m hm no=>kb.keep m hm fun z=>no (z▸c.pO),fun o ho=>by
     rcases qaj.mp ho with z|z
     ·exact .inr (by lia)
     ·exact .inl z⟩
    have hnO:n∉O:=fun z=>by have:=c.bd n z;lia
    refine⟨σ.set i (some (.loc n)),h1,rfl,n::O,⟨kb.len,mv,fun o ho=>qal _ ho,fun m hm hq=>kb.keep m (qau hm c.hL) hq⟩,⟨fun o ho=>?_,fun o ho=>qal _ (c.sub o ho),c.bb,c.pb,c1.hL,pn,?_⟩,?_⟩
    ·rcases qaj.mp ho with z|z
     ·subst z;exact bw g
     ·exact c1.bd o z
    ·have sr:=c.sr.mv mv (fun o ho=>qal _ ho) fun m hm hl _=>kb.keep m hm (by have:=c.pL;lia);refine⟨by simp[sr.len],fun j x ej hj=>?_,fun j x ej hj=>?_⟩
     ·have ne:i≠j:=fun z=>hj (z▸hi');rw[qah ne] at ej;rw[qah ne];exact sr.fz j x ej hj
     ·by_cases z:i=j
      ·subst z;have hl:i<env.length:=by have:=(qaf.mp ej).1;simpa using this
       rw[qat hl] at ej;cases ej;exact⟨n,xs,ds,rfl,qat (by rw[sr.len];exact hl),by simp,by have:=c.hL;lia,g,r⟩
      ·rw[qah z] at ej;rw[qah z];exact sr.ow j x ej hj
    ·have old:∀j d,j∈ws->i≠j->(env.set i (some (.lst ds)))[j]?=some (some d)->(σ.set i (some (.loc n)))[j]?≠some (some (.loc n)):=fun j d hj ne ej z=>by
      rw[qah ne] at ej z;obtain⟨n',_,_,_,b2,b3,_⟩:=c.sr.ow j d ej hj;rw[z] at b2;cases b2;exact hnO b3
     intro a b ha hb ne x y m ea eb es;by_cases z1:i=a
     ·subst z1;have hl:i<σ.length:=by have:=(qaf.mp es).1;simpa using this
      rw[qat hl] at es;cases es;exact old b y hb ne eb
     ·by_cases z2:i=b
      ·subst z2;intro z;have hl:i<σ.length:=by have:=(qaf.mp z).1;simpa using this
       rw[qat hl] at z;cases z;exact old a x ha z1 ea es
      ·rw[qah z1] at ea es;rw[qah z2] at eb ⊢;exact d a b ha hb ne x y m ea eb es
   | _=>trivial
def xAsg(e:Xe ws)(g:Xg ws)(hz:e.fz=true:=by exact ys rfl):Xd ws where
 m:=o7 e.m g.m
 p:=fun env s=>(e.p env s).go env fun d env s=>match g.p d env with
  | some env1=>.nx env1 s
  | none=>.bad
 fr:=true
 ok {q h L B O σ env s} c d:=by
  refine SOk.ex (f:=fun v σ h=>match g.m v σ h with | .nx σ2 h2=>.nx σ2 h2 | .exc x σ2 h2=>.exc x σ2 h2 | _=>.bad) (g:=fun d env s=>match g.p d env with | some env1=>.nx env1 s | none=>.bad) c d (e.ok c) fun x v h1 s1 kb c1 ⟨_,z,_⟩=>?_
  cases eg:g.p x env with
  | none=>trivial
  | some env1 =>
   obtain⟨σ1,f1,sr,k⟩:=g.ok c1.sr (z hz) eg;rw[f1];exact⟨σ1,h1,rfl,O,Stp.refl _ _ _ _,⟨c1.bd,c1.sub,c1.bb,c1.pb,c1.hL,c1.pen,sr⟩,d.keep k⟩
def jw(x:Str)(a:Xs ws):Xd ws where
 m:=gs x a.m
 p:=fun env s=>(a.p env s).go env fun ds env s=>if ds.length<=100000 then .rse x env s else .bad
 fr:=true
 ok {q h L B O σ env s} c d:=by
  refine SOk.ex (f:=fun (vs:List PV) σ h=>if vs.length<=sizeLine then .rse ⟨x,[]⟩ σ h else .bad) (g:=fun (ds:List D) env s=>if ds.length<=100000 then .rse x env s else .bad) c d (a.ok c) fun ds vs h1 s1 kb c1 ⟨w,_⟩=>?_;have hl:∀{ds:List D} {vs:List PV},Vws q h1 L O ds vs->vs.length=ds.length:=by
   intro ds
   induction ds with
   | nil=>intro vs w;rw[show vs=[] from w];rfl
   | cons d ds ih=>intro vs w;obtain⟨x,r,e,_,b⟩:=w;rw[e,qbd,qbd,ih b]
  by_cases z:ds.length<=100000
  ·rw[qae z,qae (by have:=iA;rw[hl w];lia)];exact⟨σ,h1,rfl,O,Stp.refl _ _ _ _,c1,d⟩
  ·rw[qao z];trivial
def xTry(cs:List Str)(iy inn:Nat)(b:Xd ws)(h1:ws.contains iy=false:=by exact ys rfl)(h2:ws.contains inn=false:=by exact ys rfl):Xd ws where
 m:=kj cs iy inn b.m
 p:=fun env s=>match b.p env s with
  | .exc c e s=>if c∈cs then .nx (((e.set inn (some (.exc c))).set iy (some (.exc c))).set inn none) s else .bad
  | .rse _ _ _=>.bad
  | r=>r
 fr:=b.fr
 ok {q h L B O σ env s} c d:=by
  have k:=b.ok c d
  show SOk q L h B O ws _ (match b.m σ h with
   | .exc x σ1 h1=>if x.fs=[]/\x.cls∈cs then .nx (((σ1.set inn (some (.loc h1.length))).set iy (some (.loc h1.length))).set inn none) (h1++[.exc x]) else .bad
   | .rse _ _ _=>.bad
   | o=>o) (match b.p env s with
   | .exc c e s=>if c∈cs then PS.nx (((e.set inn (some (.exc c))).set iy (some (.exc c))).set inn none) s else .bad
   | .rse _ _ _=>.bad
   | r=>r)
  cases e:b.p env s with
  | nx env1 s1=>rw[e] at k;obtain⟨σ',h',e1,r⟩:=k;rw[e1];exact⟨σ',h',rfl,r⟩
  | rt x s1=>rw[e] at k;obtain⟨v,h',e1,r1,r2,r3,r4,r5⟩:=k;rw[e1];exact⟨v,h',rfl,r1,r2,r3,r4,r5⟩
  | bk env1 s1=>rw[e] at k;obtain⟨σ',h',e1,r⟩:=k;rw[e1];exact⟨σ',h',rfl,r⟩
  | ct env1 s1=>rw[e] at k;obtain⟨σ',h',e1,r⟩:=k;rw[e1];exact⟨σ',h',rfl,r⟩
  | rse x env1 s1=>trivial
  | bad=>trivial
  | exc x env1 s1 =>
   rw[e] at k;obtain⟨σ',h',e1,O',st,c',d'⟩:=k;rw[e1];dsimp only;by_cases z:x∈cs
   ·rw[qae z,qae ⟨rfl,z⟩];have kb:=KB.app q h' [MO.exc ⟨x,[]⟩];have c2:=c'.kb kb c'.pen.app;have r:Rp q (h'++[MO.exc ⟨x,[]⟩]) O' (.exc x) (.loc h'.length):=⟨_,rfl,fun z=>by have:=c'.bd _ z;lia,by simp⟩;have n1:inn∉ws:=fun z=>by simp[z] at h2
    have n2:iy∉ws:=fun z=>by simp[z] at h1
    obtain⟨a1,b1⟩:=c2.sr.set n1 r;obtain⟨a2,b2⟩:=a1.set n2 r;have ne:∀j∈ws,inn≠j:=fun j hj z=>n1 (z▸hj);have a3:SR q (h'++[MO.exc ⟨x,[]⟩]) L O' ws (((σ'.set inn (some (.loc h'.length))).set iy (some (.loc h'.length))).set inn none) (((env1.set inn (some (.exc x))).set iy (some (.exc x))).set inn none):=by
     refine⟨by simp[a2.len],fun j y ej hj=>?_,fun j y ej hj=>?_⟩
     ·by_cases z:inn=j
      ·subst z;have hl:inn<((env1.set inn (some (D.exc x))).set iy (some (D.exc x))).length:=by have:=(qaf.mp ej).1;simpa using this
       rw[qat hl] at ej;cases ej
      ·rw[qah z] at ej;rw[qah z];exact a2.fz j y ej hj
     ·rw[qah (ne j hj)] at ej;rw[qah (ne j hj)];exact a2.ow j y ej hj
    refine⟨_,_,rfl,O',st.trans (kb.stp c'),⟨c2.bd,c2.sub,c2.bb,c2.pb,c2.hL,c2.pen,a3⟩,d'.keep fun j hj=>?_⟩;have nj:inn≠j:=ne j hj;refine⟨?_,?_⟩
    ·rw[qah nj,(b2 j hj).1,(b1 j hj).1]
    ·rw[qah nj,(b2 j hj).2,(b1 j hj).2]
   ·rw[qao z];trivial
end
end PU
namespace PU
open PySem MM
open L2 (ixN)
local instance (priority:=1) cdecN5 (p:Prop):Decidable p:=Classical.propDecidable p
noncomputable section
variable {ws:List Nat}
def PS.turn(r:PS)(k:aB->Pen->PS):PS:=match r with
 | .nx e s=>k e s
 | .ct e s=>k e s
 | .bk e s=>.nx e s
 | r=>r
@[simp] theorem turn_nx:(PS.nx e s).turn k=k e s:=rfl
@[simp] theorem turn_ct:(PS.ct e s).turn k=k e s:=rfl
@[simp] theorem turn_bk:(PS.bk e s).turn k=.nx e s:=rfl
@[simp] theorem turn_rt:(PS.rt d s).turn k=.rt d s:=rfl
@[simp] theorem yZ:(PS.exc c e s).turn k=.exc c e s:=rfl
@[simp] theorem zh:(PS.rse c e s).turn k=.rse c e s:=rfl
@[simp] theorem turn_bad:PS.bad.turn k=.bad:=rfl
def pGo(g:D->aB->Option aB)(b:aB->Pen->PS):List D->aB->Pen->PS
 | [],env,s=>.nx env s
 | d::ds,env,s=>match g d env with
  | none=>.bad
  | some env1=>(b env1 s).turn (pGo g b ds)
def mGo_ok(g:Xg ws)(b:Xd ws):∀(ds:List D) (xs:List PV) (env:aB) (σ:PSt) (h:MH) (O:List Nat) (s:Pen),Cx q h L B O ws σ env s->Dis ws σ env->Rps q h O ds xs->(∀y∈it.gd,h[y.1]?=some (.lst y.2)/\y.1∉O) ->
  SOk q L h B O ws b.fr (mGo it g.m b.m xs σ h) (pGo g.p b.p ds env s):=by
 intro ds
 induction ds with
 | nil =>
  intro xs env σ h O s c d r gd
  have:xs=[]:=r
  subst this;have ok:it.ok h:=fun y hy=>(gd y hy).1;refine⟨σ,h,by rw[mGo];dsimp only;rw[qae ok],O,Stp.refl _ _ _ _,c,d⟩
 | cons x ds ih =>
  intro xs env σ h O s c d r gd;obtain⟨v,xr,rfl,r1,r2⟩:=r;have ok:it.ok h:=fun y hy=>(gd y hy).1;rw[pGo]
  cases eg:g.p x env with
  | none=>trivial
  | some env1 =>
   obtain⟨σ1,f1,sr,k⟩:=g.ok c.sr r1 eg;have c1:Cx q h L B O ws σ1 env1 s:=⟨c.bd,c.sub,c.bb,c.pb,c.hL,c.pen,sr⟩;have kb:=b.ok c1 (d.keep k)
   have em:mGo it g.m b.m (v::xr) σ h=(match b.m σ1 h with
    | .nx σ2 h2=>mGo it g.m b.m xr σ2 h2
    | .ct σ2 h2=>mGo it g.m b.m xr σ2 h2
    | .bk σ2 h2=>.nx σ2 h2
    | .rt v h2=>.rt v h2
    | .exc e σ2 h2=>.exc e σ2 h2
    | .rse e σ2 h2=>.rse e σ2 h2
    | .bad=>.bad):=by rw[mGo];dsimp only;(rw[qae ok,f1]) <;> rfl
   rw[em];have gd':∀{h2:MH} {O2:List Nat},Stp q L h O h2 O2->∀y∈it.gd,h2[y.1]?=some (.lst y.2)/\y.1∉O2:=fun st y hy=>by
    obtain⟨a,b⟩:=st.mv.get (gd y hy).1 (gd y hy).2;exact⟨b,a⟩
   dsimp only
   cases eb:b.p env1 s with
   | bad=>trivial
   | nx e2 s2 =>
    rw[eb] at kb;obtain⟨σ2,h2,e1,O2,st,c2,d2⟩:=kb;rw[e1];exact (ih xr e2 σ2 h2 O2 s2 c2 d2 (r2.mv st.mv) (gd' st)).after st
   | ct e2 s2 =>
    rw[eb] at kb;obtain⟨σ2,h2,e1,O2,st,c2,d2⟩:=kb;rw[e1];exact (ih xr e2 σ2 h2 O2 s2 c2 d2 (r2.mv st.mv) (gd' st)).after st
   | bk e2 s2=>rw[eb] at kb;obtain⟨σ2,h2,e1,r⟩:=kb;rw[e1];exact⟨σ2,h2,rfl,r⟩
   | exc x e2 s2=>rw[eb] at kb;obtain⟨σ2,h2,e1,r⟩:=kb;rw[e1];exact⟨σ2,h2,rfl,r⟩
   | rse x e2 s2=>rw[eb] at kb;obtain⟨σ2,h2,e1,r⟩:=kb;rw[e1];exact⟨σ2,h2,rfl,r⟩
   | rt x s2=>rw[eb] at kb;obtain⟨v,h2,e1,r1,r2,r3,r4,r5⟩:=kb;rw[e1];exact⟨v,h2,rfl,r1,r2,r3,r4,r5⟩
def jP(i:Xi ws)(g:Xg ws)(b:Xd ws)(hz:i.fz=true:=by exact ys rfl):Xd ws where
 m:=fU i.m g.m b.m
 p:=fun env s=>(i.p env s).go env fun ds env s=>pGo g.p b.p ds env s
 fr:=b.fr
 ok {q h L B O σ env s} c d:=SOk.ex (f:=fun it=>mGo it g.m b.m it.xs) (g:=fun ds env s=>pGo g.p b.p ds env s) c d (i.ok c) fun ds it h1 s1 kb c1 r =>
  mGo_ok g b ds it.xs env σ h1 O s1 c1 d r.1 fun y hy=>⟨(r.2.1 y hy).1,r.2.2 hz y hy⟩
def dI(t:aB->Pen->PR Bool)(b:aB->Pen->PS):Nat->aB->Pen->PS
 | 0,_,_=>.bad
 | n+1,env,s=>(t env s).go env fun x env s=>if x=true then (b env s).turn (dI t b n) else .nx env s
def pz(t:Xt ws)(b:Xd ws):∀(n:Nat) (env:aB) (σ:PSt) (h:MH) (O:List Nat) (s:Pen),Cx q h L B O ws σ env s->Dis ws σ env->SOk q L h B O ws b.fr (ce t.m b.m n σ h) (dI t.p b.p n env s)
 | 0,env,σ,h,O,s,c,d=>trivial
 | n+1,env,σ,h,O,s,c,d=>by
  refine SOk.ex (f:=fun x=>if x=true then (fun σ h=>match b.m σ h with
   | .nx σ2 h2=>ce t.m b.m n σ2 h2
   | .ct σ2 h2=>ce t.m b.m n σ2 h2
   | .bk σ2 h2=>.nx σ2 h2
   | .rt v h2=>.rt v h2
   | .exc e σ2 h2=>.exc e σ2 h2
   | .rse e σ2 h2=>.rse e σ2 h2
   | .bad=>.bad) else mSkip) (g:=fun x env s=>if x=true then (b.p env s).turn (dI t.p b.p n) else .nx env s) c d (t.ok c) fun x v h1 s1 kb c1 e=>?_
  subst e
  cases x with
  | false=>exact⟨σ,h1,rfl,O,Stp.refl _ _ _ _,c1,d⟩
  | true =>
   have k:=b.ok c1 d;rw[qae rfl,qae rfl]
   cases eb:b.p env s1 with
   | bad=>trivial
   | nx e2 s2 =>
    rw[eb] at k;obtain⟨σ2,h2,e1,O2,st,c2,d2⟩:=k;rw[e1];exact (pz t b n e2 σ2 h2 O2 s2 c2 d2).after st
   | ct e2 s2 =>
    rw[eb] at k;obtain⟨σ2,h2,e1,O2,st,c2,d2⟩:=k;rw[e1];exact (pz t b n e2 σ2 h2 O2 s2 c2 d2).after st
   | bk e2 s2=>rw[eb] at k;obtain⟨σ2,h2,e1,r⟩:=k;rw[e1];exact⟨σ2,h2,rfl,r⟩
   | exc x e2 s2=>rw[eb] at k;obtain⟨σ2,h2,e1,r⟩:=k;rw[e1];exact⟨σ2,h2,rfl,r⟩
   | rse x e2 s2=>rw[eb] at k;obtain⟨σ2,h2,e1,r⟩:=k;rw[e1];exact⟨σ2,h2,rfl,r⟩
   | rt x s2=>rw[eb] at k;obtain⟨v,h2,e1,r1,r2,r3,r4,r5⟩:=k;rw[e1];exact⟨v,h2,rfl,r1,r2,r3,r4,r5⟩
def xWh(N:Nat)(t:Xt ws)(b:Xd ws)(hm:∀{σ h n},ce t.m b.m n σ h≠.bad->mWh t.m b.m σ h=ce t.m b.m n σ h):Xd ws where
 m:=mWh t.m b.m
 p:=dI t.p b.p N
 fr:=b.fr
 ok {q h L B O σ env s} c d:=by
  have k:=pz t b N env σ h O s c d;by_cases z:ce t.m b.m N σ h=.bad
  ·rw[z] at k
   cases e:dI t.p b.p N env s with
   | bad=>trivial
   | nx e2 s2=>rw[e] at k;obtain⟨_,_,e1,_⟩:=k;cases e1
   | ct e2 s2=>rw[e] at k;obtain⟨_,_,e1,_⟩:=k;cases e1
   | bk e2 s2=>rw[e] at k;obtain⟨_,_,e1,_⟩:=k;cases e1
   | exc x e2 s2=>rw[e] at k;obtain⟨_,_,e1,_⟩:=k;cases e1
   | rse x e2 s2=>rw[e] at k;obtain⟨_,_,e1,_⟩:=k;cases e1
   | rt x s2=>rw[e] at k;obtain⟨_,_,e1,_⟩:=k;cases e1
  ·rw[hm z];exact k
structure OpM where
 m:Nat->List PV->MH->Out PV
 p:List D->List D->Option (D × List D)
 ok:∀{q:Nat} {h:MH} {O:List Nat} {n:Nat} {xs:List PV} {ds as:List D} {vs:List PV} {d:D} {ds':List D},h[n]?=some (.lst xs)->Rps q h O ds xs->Rps q h O as vs->p ds as=some (d,ds')->∃v xs',m n vs h=.ok v (h.set n (.lst xs'))/\Rps q h O ds' xs'/\Rp q h O d v
def own_set{q h L B O σ env s n xs' ds' i ds}(c:Cx q h L B O ws σ env s)(d:Dis ws σ env)(hi:i∈ws)(e:env[i]?=some (some (D.lst ds)))(es:σ[i]?=some (some (.loc n)))(r:Rps q h O ds' xs') :
  Nxt q L h B O ws σ (h.set n (.lst xs')) (env.set i (some (.lst ds'))) s:=by
 obtain⟨n',xs,ds0,e0,e2,a,b,g,r0⟩:=c.sr.ow i _ e hi;rw[es] at e2;cases e2;have mv:Mv O h O (h.set n (.lst xs')):=⟨fun m hm no=>qah (fun (z:n=m)=>no (z▸a)),fun o ho=>.inl ho⟩;have hp:=c.pL;have il:i<env.length:=(qaf.mp e).1;refine⟨O,⟨by simp,mv,fun _ h=>h,fun m hm _=>qah (by lia)⟩,⟨fun o ho=>by simpa using c.bd o ho,c.sub,c.bb,c.pb,by simpa using c.hL,?_,⟨by simp[c.sr.len],fun j x ej hj=>?_,fun j x ej hj=>?_⟩⟩,?_⟩
 ·unfold cL;rw[qah (by lia)];exact c.pen
 ·have ne:i≠j:=fun z=>hj (z▸hi);rw[qah ne] at ej;obtain⟨v,e1,w⟩:=c.sr.fz j x ej hj;exact⟨v,e1,w.mv mv⟩
 ·by_cases z:i=j
  ·subst z;rw[qat il] at ej;cases ej;exact⟨n,xs',ds',rfl,es,a,b,qat (bw g),r.mv mv⟩
  ·rw[qah z] at ej;obtain⟨m,ys,es',e1,e3,b3,b4,b5,b6⟩:=c.sr.ow j x ej hj
   have:n≠m:=fun y=>d i j hi hj z _ _ n e ej es (y▸e3)
   exact⟨m,ys,es',e1,e3,b3,b4,by rw[qah this];exact b5,b6.mv mv⟩
 ·intro j k hj hk ne x y m ej ek e1;have up:∀j x,(env.set i (some (D.lst ds')))[j]?=some (some x)->∃x',env[j]?=some (some x'):=fun j x ej=>by
   by_cases z:i=j
   ·subst z;exact⟨_,e⟩
   ·rw[qah z] at ej;exact⟨x,ej⟩
  obtain⟨x',ej'⟩:=up j x ej;obtain⟨y',ek'⟩:=up k y ek;exact d j k hj hk ne x' y' m ej' ek' e1
def mt_ok(o:OpM)(i:Nat)(a:Xs ws)(hi:i∈ws)(hz:a.fz=true){q h L B O σ env s}(c:Cx q h L B O ws σ env s)(d:Dis ws σ env)
  (ea:a.p env s=.ok as s1) (ei:env[i]?=some (some (.lst ds))) (eo:o.p ds as=some (r,ds')):∃v h1 n xs',KB q h h1/\Cx q h1 L B O ws σ env s1/\σ[i]?=some (some (.loc n))/\mMt o.m (af i) a.m σ h=.ok v (h1.set n (.lst xs'))/\Rps q h1 O ds' xs'/\Rp q h1 O r v:=by
 obtain⟨n,xs,ds0,e0,e2,b1,b2,g,r0⟩:=c.sr.ow i _ ei hi;cases e0;have ka:=a.ok c;rw[ea] at ka;obtain⟨vs,h1,e3,kb,pn,_,rv⟩:=ka;have c1:=c.kb kb pn;have g1:h1[n]?=some (.lst xs):=(kb.keep n (bw g) (by have:=c.pL;lia)).trans g;obtain⟨v,xs',e4,r1,r2⟩:=o.ok g1 (r0.mv (kb.mv c.pO)) (rv hz) eo;refine⟨v,h1,n,xs',kb,c1,e2,?_,r1,r2⟩;have em:af i σ h=.ok (.loc n) h:=by simp[af,e2]
 show (af i σ h).bind _=_;rw[em];simp only[Out.bind_ok,g,e3,e4,Out.ne_ok]
def pMt(o:OpM)(i:Nat)(a:aB->Pen->PR (List D))(env:aB)(s:Pen)(k:D->aB->Pen->PS):PS:=match a env s with
 | .ok as s1=>(match env[i]? with
  | some (some (.lst ds))=>(match o.p ds as with
   | some (r,ds')=>k r (env.set i (some (.lst ds'))) s1
   | none=>.bad)
  | _=>.bad)
 | _=>.bad
def xo(e1:a env s=.ok as s1)(e2:env[i]?=some (some (.lst ds)))(e3:o.p ds as=some (r,ds')):pMt o i a env s k=k r (env.set i (some (.lst ds'))) s1:=by
 simp only[pMt,e1,e2,e3]
def pMt_inv:pMt o i a env s k=.bad\/∃as s1 ds r ds',a env s=.ok as s1/\env[i]?=some (some (.lst ds))/\o.p ds as=some (r,ds')/\pMt o i a env s k=k r (env.set i (some (.lst ds'))) s1:=by
 cases e1:a env s with
 | bad=>left;simp only[pMt,e1]
 | exc _ _=>left;simp only[pMt,e1]
 | ok as s1 =>
  cases e2:env[i]? with
  | none=>left;simp only[pMt,e1,e2]
  | some x =>
   cases x with
   | none=>left;simp only[pMt,e1,e2]
   | some d =>
    cases d with
    | lst ds =>
     cases e3:o.p ds as with
     | none=>left;simp only[pMt,e1,e2,e3]
     | some y=>exact .inr ⟨as,s1,ds,y.1,y.2,rfl,rfl,e3,xo e1 e2 e3⟩
    | _=>left;simp only[pMt,e1,e2]
def xMt(o:OpM)(i:Nat)(a:Xs ws)(hi:ws.contains i=true:=by exact ys rfl)(hz:a.fz=true:=by exact ys rfl):Xd ws where
 m:=cK (mMt o.m (af i) a.m)
 p:=fun env s=>pMt o i a.p env s fun _=>.nx
 fr:=true
 ok {q h L B O σ env s} c d:=by
  rcases pMt_inv (o:=o) (i:=i) (a:=a.p) (env:=env) (s:=s) (k:=fun _=>.nx) with z|⟨as,s1,ds,r,ds',e1,e2,e3,z⟩
  ·rw[z];trivial
  ·rw[z];have hi':i∈ws:=by simpa using hi
   obtain⟨v,h1,n,xs',kb,c1,es,em,r1,r2⟩:=mt_ok o i a hi' hz c d e1 e2 e3;refine⟨σ,h1.set n (.lst xs'),?_,(own_set c1 d hi' e2 es r1).after (kb.stp c)⟩;unfold cK mEx;rw[em];rfl
def Vw.int(w:Vw q h L O (.int b) v):v=.int b:=by
 rcases w with r|⟨n,xs,ds,e,_⟩
 ·exact r
 ·cases e
def PS.fin(r:PS):PR D:=match r with
 | .nx _ s=>.ok .non s
 | .rt d s=>.ok d s
 | .exc c _ s=>.exc c s
 | .rse c _ s=>.exc c s
 | _=>.bad
@[simp] theorem fin_nx:(PS.nx e s).fin=.ok .non s:=rfl
@[simp] theorem rE:(PS.rt d s).fin=.ok d s:=rfl
@[simp] theorem fin_exc:(PS.exc c e s).fin=.exc c s:=rfl
@[simp] theorem fin_rse:(PS.rse c e s).fin=.exc c s:=rfl
@[simp] theorem fin_bad:PS.bad.fin=.bad:=rfl
def dSt(n:Nat)(ds:List D):aB:=ds.map some++List.replicate (n - ds.length) none
def cr(n np:Nat)(b:Xd ws)(hw:ws.all (fun i=>decide (np<=i))=true:=by exact ys rfl):Fn where
 m:=bj n np b.m
 p:=fun ds s=>if ds.length=np then (b.p (dSt n ds) s).fin else .bad
 fr:=b.fr
 ok {q h O vs ds s} bd hq pn r:=by
  by_cases hl:ds.length=np
  ·rw[qae hl];have hv:vs.length=np:=by rw[r.length];exact hl
   have low:∀i d,(dSt n ds)[i]?=some (some d)->i<np/\ds[i]?=some d:=fun i d e=>by
    by_cases z:i<ds.length
    ·refine⟨by lia,?_⟩;unfold dSt at e;rw[qak (by simpa using z)] at e;simp at e;simpa using e
    ·unfold dSt at e;rw[qaw (by simpa using z)] at e;by_cases y:i - (ds.map some).length<n - ds.length
     ·simp[qaZ,y] at e
     ·simp at y e;exact absurd e (by simp[qaZ])
   have nw:∀i d,(dSt n ds)[i]?=some (some d)->i∉ws:=fun i d e hi=>by
    have:=(low i d e).1
    rw[qbr] at hw
    have:=hw i hi
    simp at this;lia
   have c:Cx q h h.length O O ws (be n vs) (dSt n ds) s:=by
    refine⟨bd,fun _ h=>h,bd,hq,qai _,pn,⟨by simp[be,dSt,r.length],fun i d e _=>?_,fun i d e hi=>absurd hi (nw i d e)⟩⟩;obtain⟨v,ev,rv⟩:=r.get (low i d e).2;refine⟨v,?_,rv⟩;unfold be;rw[qak (by simpa using (qaf.mp ev).1)];simp[ev]
   have k:=b.ok c fun i j hi _ _ d _ _ e=>absurd hi (nw i d e)
   have em:bj n np b.m vs h=(match b.m (be n vs) h with
    | .nx _ h'=>.ok .non h'
    | .rt v h'=>.ok v h'
    | .exc x _ h'=>.exc x h'
    | .rse x _ h'=>.exc x h'
    | _=>.bad):=by unfold bj;(rw[qae hv]) <;> (cases b.m (be n vs) h <;> rfl)
   rw[em];have kb:∀{h' O'},Stp q h.length h O h' O'->KB q h h':=fun st=>⟨st.len,fun m hm hq=>st.base m hm hq⟩
   cases e:b.p (dSt n ds) s with
   | nx e1 s1=>rw[e] at k;obtain⟨σ',h',f,O',st,c',_⟩:=k;rw[f];exact⟨.non,h',rfl,kb st,c'.pen,rfl,fun _ ds e=>by cases e⟩
   | exc x e1 s1=>rw[e] at k;obtain⟨σ',h',f,O',st,c',_⟩:=k;rw[f];exact⟨h',rfl,kb st,c'.pen⟩
   | rse x e1 s1=>rw[e] at k;obtain⟨σ',h',f,O',st,c',_⟩:=k;rw[f];exact⟨h',rfl,kb st,c'.pen⟩
   | rt x s1=>rw[e] at k;obtain⟨v,h',f,l,b,p,rr,rs⟩:=k;rw[f];exact⟨v,h',rfl,⟨l,b⟩,p,rr,rs⟩
   | bk e1 s1=>trivial
   | ct e1 s1=>trivial
   | bad=>trivial
  ·rw[qao hl];trivial
def xNone(m:List PV->MH->Out PV):Fn where
 m:=m
 p:=fun _ _=>.bad
 fr:=true
 ok _ _ _ _:=trivial
end
end PU
namespace PU
open PySem MM SetT SortT
open L2 (ixN atI fP)
local instance (priority:=1) cdecN6 (p:Prop):Decidable p:=Classical.propDecidable p
noncomputable section
section
variable {q:Nat} {h:MH} {L:Nat} {O:List Nat} {v:PV}
def Vw.non(w:Vw q h L O .non v):v=.non:=by
 rcases w with r|⟨n,xs,ds,e,_⟩
 ·exact r
 ·cases e
def Vw.str(w:Vw q h L O (.str x) v):v=.str x:=by
 rcases w with r|⟨n,xs,ds,e,_⟩
 ·exact r
 ·cases e
inductive VwL (h:MH) (P:List PV->Prop) (v:PV):Prop
 | mk (n:Nat) (xs:List PV) (e:v=.loc n) (g:h[n]?=some (.lst xs)) (r:P xs):VwL h P v
def Vw.lst(w:Vw q h L O (.lst ds) v):VwL h (Rps q h O ds) v:=by
 rcases w with ⟨n,xs,e,_,g,r⟩|⟨n,xs,ds',e,e1,_,_,g,r⟩
 ·exact⟨n,xs,e,g,r⟩
 ·cases e;exact⟨n,xs,e1,g,r⟩
def Vw.tup(w:Vw q h L O (.tup ds) v):RcT (Rps q h O ds) v:=by
 rcases w with r|⟨n,xs,ds',e,_⟩
 ·exact r
 ·cases e
def gv0(r:Rp q h O d v)(hf:fr=true->∀ds,d≠.lst ds):Gv q h O fr (.ok v h) d :=
 ⟨v,[],by simp,by simpa using r,fun z ds e=>absurd e (hf z ds)⟩
def gvI:Gv q h O fr (.ok (.int i) h) (.int i):=gv0 rfl fun _ _ e=>by cases e
def gvB:Gv q h O fr (.ok (.bl i) h) (.bl i):=gv0 rfl fun _ _ e=>by cases e
def fx(w:Vws q h L O [d] vs):∃x,vs=[x]/\Vw q h L O d x:=by
 obtain⟨x,r,e,a,b⟩:=w
 have:r=[]:=b
 subst this;exact⟨x,e,a⟩
def vws2(w:Vws q h L O [d,d'] vs):∃x y,vs=[x,y]/\Vw q h L O d x/\Vw q h L O d' y:=by
 obtain⟨x,r,e,a,b⟩:=w;obtain⟨y,rfl,c⟩:=fx b;exact⟨x,y,e,a,c⟩
end
def tJ(m:PV->PV->MH->Out PV)(f:Int->Int->D)(g:Int->Int->PV)(hm:∀i j h,m (.int i) (.int j) h=.ok (g i j) h)(hg:∀i j q h O fr,Gv q h O fr (.ok (g i j) h) (f i j)):Op2 where
 m:=m
 p:=fun a b=>match a,b with
  | .int i,.int j=>some (f i j)
  | _,_=>none
 fr:=true
 ok {q h L O a x b y d} bd wa wb e:=by
  cases a with
  | int i =>
   cases b with
   | int j=>cases e;rw[wa.int,wb.int,hm];exact hg i j q h O true
   | _=>cases e
  | _=>cases e
def fu:Op2:=tJ opSub (fun i j=>.int (i - j)) (fun i j=>.int (i - j)) (fun _ _ _=>rfl) fun _ _ _ _ _ _=>gvI
def oLt:Op2:=tJ opLt (fun i j=>.bl (decide (i<j))) (fun i j=>.bl (decide (i<j))) (fun _ _ _=>rfl) fun _ _ _ _ _ _=>gvB
def oLe:Op2:=tJ opLe (fun i j=>.bl (decide (i<=j))) (fun i j=>.bl (decide (i<=j))) (fun _ _ _=>rfl) fun _ _ _ _ _ _=>gvB
def oGt:Op2:=tJ opGt (fun i j=>.bl (decide (j<i))) (fun i j=>.bl (decide (j<i))) (fun _ _ _=>rfl) fun _ _ _ _ _ _=>gvB
def oGe:Op2:=tJ opGe (fun i j=>.bl (decide (j<=i))) (fun i j=>.bl (decide (j<=i))) (fun _ _ _=>rfl) fun _ _ _ _ _ _=>gvB
def aI:Op2 where
 m:=opAdd
 p:=fun a b=>match a,b with
  | .int i,.int j=>some (.int (i+j))
  | .lst x,.lst y=>if x.length+y.length<=100000 then some (.lst (x++y)) else none
  | .tup (a::x),.tup y=>if x.length+1+y.length<=100000 then some (.tup (a::x++y)) else none
  | _,_=>none
 fr:=true
 ok {q h L O a x b y d} bd wa wb e:=by
  cases a with
  | int i =>
   cases b with
   | int j=>cases e;rw[wa.int,wb.int];exact gvI
   | _=>cases e
  | lst x =>
   cases b with
   | lst y =>
    dsimp only at e;by_cases z:x.length+y.length<=100000
    ·rw[qae z] at e;cases e;obtain⟨n,xs,rfl,g,r⟩:=wa.lst;obtain⟨n',ys,rfl,g',r'⟩:=wb.lst;show Gv q h O true (match h[n]?,h[n']? with | some (.lst xs),some (.lst ys)=>newL (xs++ys) h | _,_=>.bad) _;rw[g,g'];exact lL bd (r.app r') (by simpa using z)
    ·rw[qao z] at e;cases e
   | _=>cases e
  | tup x =>
   cases x with
   | nil=>cases b <;> cases e
   | cons a x =>
    cases b with
    | tup y =>
     dsimp only at e;by_cases z:x.length+1+y.length<=100000
     ·rw[qae z] at e;cases e;obtain⟨xs,rfl,r⟩:=wa.tup;obtain⟨ys,rfl,r'⟩:=wb.tup;have ne:xs≠[]:=fun z=>by have:=r.length;simp[z] at this
      show Gv q h O true (if xs≠[] then newT (xs++ys) h else .bad) _;rw[qae ne];exact uF (r.app r') (by simp;lia)
     ·rw[qao z] at e;cases e
    | _=>cases e
  | _=>cases e
def Rps.rep(r:Rps q h O ds xs):∀n,Rps q h O (List.replicate n ds).flatten (List.replicate n xs).flatten
 | 0=>rfl
 | n+1=>by
  rw[qaO,qaO,qbg,qbg];exact r.app (Rps.rep r n)
def oMul:Op2 where
 m:=opMul
 p:=fun a b=>match a,b with
  | .int i,.int j=>if IntMulOk i j then some (.int (i * j)) else none
  | .lst x,.int j=>if (0<=j/\j<=1000)/\((List.replicate j.toNat x).flatten).length<=100000 then some (.lst (List.replicate j.toNat x).flatten) else none
  | _,_=>none
 fr:=true
 ok {q h L O a x b y d} bd wa wb e:=by
  cases a with
  | int i =>
   cases b with
   | int j =>
    dsimp only at e;by_cases z:IntMulOk i j
    ·rw[qae z] at e;cases e;rw[wa.int,wb.int];show Gv q h O true (if IntMulOk i j then .ok (.int (i * j)) h else .bad) _;rw[qae z];exact gvI
    ·rw[qao z] at e;cases e
   | _=>cases e
  | lst x =>
   cases b with
   | int j =>
    dsimp only at e;by_cases z:(0<=j/\j<=1000)/\((List.replicate j.toNat x).flatten).length<=100000
    ·rw[qae z] at e;cases e;obtain⟨n,xs,rfl,g,r⟩:=wa.lst;rw[wb.int];show Gv q h O true (match h[n]? with | some (.lst xs)=>if -(2 ^ 63)<=j/\j<2 ^ 63 then newL (List.flatten (List.replicate j.toNat xs)) h else .bad | _=>.bad) _;rw[g];dsimp only;rw[qae (by lia)];exact lL bd (r.rep _) z.2
    ·rw[qao z] at e;cases e
   | _=>cases e
  | _=>cases e
def oFd:Op2 where
 m:=opFd
 p:=fun a b=>match a,b with
  | .int i,.int j=>if j≠0/\Builtin.divisionGoesByPylong i j=false then some (.int (i.fdiv j)) else none
  | _,_=>none
 fr:=true
 ok {q h L O a x b y d} bd wa wb e:=by
  cases a with
  | int i =>
   cases b with
   | int j =>
    dsimp only at e;by_cases z:j≠0/\Builtin.divisionGoesByPylong i j=false
    ·rw[qae z] at e;cases e;rw[wa.int,wb.int];show Gv q h O true (if j≠0/\Builtin.divisionGoesByPylong i j=false then .ok (.int (i.fdiv j)) h else .bad) _;rw[qae z];exact gvI
    ·rw[qao z] at e;cases e
   | _=>cases e
  | _=>cases e
def k6:Op2 where
 m:=opMod
 p:=fun a b=>match a,b with
  | .int i,.int j=>if j≠0 then some (.int (i.fmod j)) else none
  | _,_=>none
 fr:=true
 ok {q h L O a x b y d} bd wa wb e:=by
  cases a with
  | int i =>
   cases b with
   | int j =>
    dsimp only at e;by_cases z:j≠0
    ·rw[qae z] at e;cases e;rw[wa.int,wb.int];show Gv q h O true (if j≠0 then .ok (.int (i.fmod j)) h else .bad) _;rw[qae z];exact gvI
    ·rw[qao z] at e;cases e
   | _=>cases e
  | _=>cases e
def fo:Op2 where
 m:=opPow
 p:=fun a b=>match a,b with
  | .int i,.int j=>if fP i j then some (.int (i ^ j.toNat)) else none
  | _,_=>none
 fr:=true
 ok {q h L O a x b y d} bd wa wb e:=by
  cases a with
  | int i =>
   cases b with
   | int j =>
    dsimp only at e;by_cases z:fP i j
    ·rw[qae z] at e;cases e;rw[wa.int,wb.int];show Gv q h O true (if fP i j then .ok (.int (i ^ j.toNat)) h else .bad) _;rw[qae z];exact gvI
    ·rw[qao z] at e;cases e
   | _=>cases e
  | _=>cases e
def oIx:Op2 where
 m:=aU
 p:=fun a b=>match a,b with
  | .lst x,.int j=>atI x j
  | .tup x,.int j=>atI x j
  | _,_=>none
 fr:=false
 ok {q h L O a x b y d} bd wa wb e:=by
  have at':∀{ds:List D} {xs:List PV} {j:Int},Rps q h O ds xs->atI ds j=some d->∃v,atI xs j=some v/\Rp q h O d v:=fun {ds xs j} r e=>by
   unfold atI at e ⊢;rw[r.length]
   cases e1:ixN ds.length j with
   | none=>rw[e1] at e;cases e
   | some k=>rw[e1] at e;exact r.get e
  cases b with
  | int j =>
   rw[wb.int]
   cases a with
   | lst ds =>
    obtain⟨n,xs,rfl,g,r⟩:=wa.lst;obtain⟨v,e1,rv⟩:=at' r e;show Gv q h O false (match h[n]? with | some (.lst xs)=>(match atI xs j with | some v=>.ok v h | none=>.bad) | _=>.bad) _;rw[g];dsimp only;rw[e1];exact gv0 rv fun z=>by cases z
   | tup ds =>
    obtain⟨xs,rfl,r⟩:=wa.tup;obtain⟨v,e1,rv⟩:=at' r e;show Gv q h O false (match atI xs j with | some v=>.ok v h | none=>.bad) _;rw[e1];exact gv0 rv fun z=>by cases z
   | _=>cases e
  | _=>cases a <;> cases e
def oIs(neg:Bool):Op2 where
 m:=fw neg
 p:=fun a b=>match b with
  | .non=>(match a with
   | .non=>some (.bl (!neg))
   | _=>some (.bl neg))
  | .bl b=>(match a with
   | .bl c=>some (.bl (if neg then !(c == b) else c == b))
   | .non=>some (.bl neg)
   | .int _=>some (.bl neg)
   | .str _=>some (.bl neg)
   | .tup _=>some (.bl neg)
   | _=>none)
  | _=>none
 fr:=true
 ok {q h L O a x b y d} bd wa wb e:=by
  have loc:∀{a:D} {x:PV},Vw q h L O a x->(∃ds,a=.lst ds)\/a=.dic\/(∃c,a=.exc c)\/a=.pen->∃n,x=.loc n:=fun {a x} w z=>by
   rcases w with r|⟨n,xs,ds,e,e1,_⟩
   ·rcases z with ⟨ds,rfl⟩|rfl|⟨c,rfl⟩|rfl
    ·obtain⟨n,_,e,_⟩:=r;exact⟨n,e⟩
    ·obtain⟨n,e,_⟩:=r;exact⟨n,e⟩
    ·obtain⟨n,e,_⟩:=r;exact⟨n,e⟩
    ·exact⟨q,r⟩
   ·exact⟨n,e1⟩
  cases b with
  | non =>
   rw[wb.non]
   cases a with
   | non=>cases e;rw[wa.non];exact gvB
   | bl c=>cases e;rw[wa.bl];exact gvB
   | int c=>cases e;rw[wa.int];exact gvB
   | str c=>cases e;rw[wa.str];exact gvB
   | tup c=>cases e;obtain⟨xs,rfl,_⟩:=wa.tup;exact gvB
   | lst c=>cases e;obtain⟨n,rfl⟩:=loc wa (.inl ⟨_,rfl⟩);exact gvB
   | dic=>cases e;obtain⟨n,rfl⟩:=loc wa (.inr (.inl rfl));exact gvB
   | exc c=>cases e;obtain⟨n,rfl⟩:=loc wa (.inr (.inr (.inl ⟨_,rfl⟩)));exact gvB
   | pen=>cases e;obtain⟨n,rfl⟩:=loc wa (.inr (.inr (.inr rfl)));exact gvB
  | bl b =>
   rw[wb.bl]
   cases a with
   | non=>cases e;rw[wa.non];exact gvB
   | bl c=>cases e;rw[wa.bl];exact gvB
   | int c=>cases e;rw[wa.int];exact gvB
   | str c=>cases e;rw[wa.str];exact gvB
   | tup c=>cases e;obtain⟨xs,rfl,_⟩:=wa.tup;exact gvB
   | _=>cases e
  | _=>cases e
mutual
def py:D->Option PyData
 | .non=>some .none
 | .bl b=>some (.bool b)
 | .int i=>some (.int i)
 | .str x=>some (.str x)
 | .tup ds=>(pys ds).map .tuple
 | .lst ds=>(pys ds).map .list
 | _=>none
def pys:List D->Option (List PyData)
 | []=>some []
 | d::ds=>match py d,pys ds with
  | some x,some xs=>some (x::xs)
  | _,_=>none
end
mutual
def dep:D->Nat
 | .tup ds=>1+deps ds
 | .lst ds=>1+deps ds
 | _=>0
def deps:List D->Nat
 | []=>0
 | d::ds=>max (dep d) (deps ds)
end
def vC(d:D):(∀(v:PV) (e:PyData) (n:Nat),Rp q h O d v->py d=some e->dep d<=n->rd n h v=some e):=by
 refine D.rec (motive_1:=fun d=>∀(v:PV) (e:PyData) (n:Nat),Rp q h O d v->py d=some e->dep d<=n->rd n h v=some e)
  (motive_2:=fun ds=>∀(vs:List PV) (es:List PyData) (n:Nat),Rps q h O ds vs->pys ds=some es->deps ds<=n->dJ (rd n h) vs=some es)
  (fun v _ n r e _=>?_) (fun b v _ n r e _=>?_) (fun b v _ n r e _=>?_) (fun b v _ n r e _=>?_) (fun ds ih v e n r ep hd=>?_) (fun ds ih v e n r ep hd=>?_) (fun _ _ _ _ e _=>?_) (fun _ _ _ _ _ e _=>?_) (fun _ _ _ _ e _=>?_)
  (fun vs es n r e _=>?_) (fun d ds i1 i2 vs es n r e hd=>?_) d
 ·rw[show v=PV.non from r];cases e;cases n <;> rfl
 ·rw[show v=PV.bl b from r];cases e;cases n <;> rfl
 ·rw[show v=PV.int b from r];cases e;cases n <;> rfl
 ·rw[show v=PV.str b from r];cases e;cases n <;> rfl
 ·obtain⟨xs,ex,r⟩:=r;subst ex;rw[py,qaA] at ep;obtain⟨es,e1,rfl⟩:=ep;rw[dep] at hd
  cases n with
  | zero=>lia
  | succ n=>simp only[rd];rw[ih _ _ n r e1 (by lia)];rfl
 ·obtain⟨m,xs,ex,_,g,r⟩:=r;subst ex;rw[py,qaA] at ep;obtain⟨es,e1,rfl⟩:=ep;rw[dep] at hd
  cases n with
  | zero=>lia
  | succ n=>simp only[rd,g];rw[ih _ _ n r e1 (by lia)];rfl
 ·simp[py] at e
 ·simp[py] at e
 ·simp[py] at e
 ·rw[show vs=[] from r];rw[pys] at e;cases e;rfl
 ·obtain⟨x,t,ex,a,b⟩:=r;subst ex;rw[deps] at hd;rw[pys] at e
  cases e1:py d with
  | none=>rw[e1] at e;cases e
  | some y =>
   cases e2:pys ds with
   | none=>rw[e1,e2] at e;cases e
   | some ys =>
    rw[e1,e2] at e;cases e;have a1:=i1 _ _ n a e1 (by lia);have b1:=i2 _ _ n b e2 (by lia);simp only[dJ,a1,b1]
def rd_ok(r:Rp q h O d v)(ep:py d=some e)(hd:dep d<=n):rd n h v=some e:=vC d v e n r ep hd
def rds_ok(r:Rps q h O ds vs)(ep:pys ds=some es)(hd:deps ds<=n):dJ (rd n h) vs=some es:=by
 have:=vC (.tup ds) (.tup vs) (.tuple es) (n+1) (show Rp q h O (.tup ds) (.tup vs) from⟨vs,rfl,r⟩) (by rw[py,ep];rfl) (by rw[dep];lia)
 simp only[rd] at this
 cases z:dJ (rd n h) vs with
 | none=>rw[z] at this;cases this
 | some y=>rw[z] at this;cases this;rfl
def qT(w:Vw q h L O d v)(ep:py d=some e)(hd:dep d<=60):rd 60 h v=some e:=by
 rcases w with r|⟨n,xs,ds,rfl,rfl,_,_,g,r⟩
 ·exact rd_ok r ep hd
 ·rw[py,qaA] at ep;obtain⟨es,e1,rfl⟩:=ep;rw[dep] at hd;have a1:=rds_ok (n:=59) r e1 (by lia);show (match h[n]? with | some (.lst xs)=>(dJ (rd 59 h) xs).map PyData.list | _=>none)=_;rw[g];dsimp only;rw[a1];rfl
def eqD(neg:Bool)(a b:D):Option D:=match py a,py b with
 | some x,some y=>if (dep a<=60/\dep b<=60)/\SeqAt.shaped x=true/\SeqAt.shaped y=true then some (.bl (if neg then !PyData.eqv x y else PyData.eqv x y)) else none
 | _,_=>none
def vb(e:eqD neg a b=some d):∃x y,py a=some x/\py b=some y/\(dep a<=60/\dep b<=60)/\(SeqAt.shaped x=true/\SeqAt.shaped y=true)/\d=.bl (if neg then !PyData.eqv x y else PyData.eqv x y):=by
 unfold eqD at e
 cases e1:py a with
 | none=>rw[e1] at e;cases e
 | some x =>
  cases e2:py b with
  | none=>rw[e1,e2] at e;cases e
  | some y =>
   rw[e1,e2] at e;dsimp only at e;by_cases z:(dep a<=60/\dep b<=60)/\SeqAt.shaped x=true/\SeqAt.shaped y=true
   ·rw[qae z] at e;cases e;exact⟨x,y,rfl,rfl,z.1,z.2,rfl⟩
   ·rw[qao z] at e;cases e
def oEq:Op2 where
 m:=opEq
 p:=eqD false
 fr:=true
 ok {q h L O a x b y d} bd wa wb e:=by
  obtain⟨u,w,e1,e2,hd,hs,rfl⟩:=vb e;unfold opEq;rw[qT wa e1 hd.1,qT wb e2 hd.2];dsimp only;rw[qae hs];exact gvB
def oNe:Op2 where
 m:=opNe
 p:=eqD true
 fr:=true
 ok {q h L O a x b y d} bd wa wb e:=by
  obtain⟨u,w,e1,e2,hd,hs,rfl⟩:=vb e;unfold opNe;rw[qT wa e1 hd.1,qT wb e2 hd.2];dsimp only;rw[qae hs];exact gvB
def Vw.seqOf(w:Vw q h L O d v)(e:d.items=some ds):∃xs,MM.cz h v=some xs/\Rps q h O ds xs:=by
 cases d with
 | lst es=>cases e;obtain⟨n,xs,rfl,g,r⟩:=w.lst;exact⟨xs,by simp[MM.cz,g],r⟩
 | tup es=>cases e;obtain⟨xs,rfl,r⟩:=w.tup;exact⟨xs,rfl,r⟩
 | _=>cases e
end
noncomputable section
def fQ:Op1 where
 m:=opNeg
 p:=fun a=>match a with
  | .int i=>some (.int (-i))
  | _=>none
 fr:=true
 ok {q h L O a x d} bd w e:=by
  cases a with
  | int i=>cases e;rw[w.int];exact gvI
  | _=>cases e
def tyD:D->Option String
 | .non=>some "NoneType"
 | .bl _=>some "bool"
 | .int _=>some "int"
 | .str _=>some "str"
 | .tup _=>some "tuple"
 | .lst _=>some "list"
 | .dic=>some "dict"
 | _=>none
def ty_ok(w:Vw q h L O d v)(e:tyD d=some t):tyP h v=some t:=by
 cases d with
 | non=>cases e;rw[w.non];rfl
 | bl b=>cases e;rw[w.bl];rfl
 | int b=>cases e;rw[w.int];rfl
 | str b=>cases e;rw[w.str];rfl
 | tup b=>cases e;obtain⟨xs,rfl,_⟩:=w.tup;rfl
 | lst b=>cases e;obtain⟨n,xs,rfl,g,_⟩:=w.lst;simp[tyP,g]
 | dic =>
  cases e;rcases w with ⟨n,rfl,_,g⟩|⟨n,xs,ds,e,_⟩
  ·simp[tyP,g]
  ·cases e
 | _=>cases e
def b8(Ts:List String):Op1 where
 m:=bM Ts
 p:=fun a=>(tyD a).map fun t=>.bl (Ts.any (ba t))
 fr:=true
 ok {q h L O a x d} bd w e:=by
  rw[qaA] at e;obtain⟨t,e1,rfl⟩:=e;unfold bM;rw[ty_ok w e1];exact gvB
def qY(cs sup:List Str):Op1 where
 m:=bn cs sup
 p:=fun a=>match a with
  | .exc c=>if cs.contains c=true then some (.bl (sup.contains c)) else none
  | .pen=>none
  | _=>some (.bl false)
 fr:=true
 ok {q h L O a x d} bd w e:=by
  cases a with
  | non=>cases e;rw[w.non];exact gvB
  | bl b=>cases e;rw[w.bl];exact gvB
  | int b=>cases e;rw[w.int];exact gvB
  | str b=>cases e;rw[w.str];exact gvB
  | tup b=>cases e;obtain⟨xs,rfl,_⟩:=w.tup;exact gvB
  | lst b=>cases e;obtain⟨n,xs,rfl,g,_⟩:=w.lst;simp only[bn,g];exact gvB
  | dic =>
   cases e;rcases w with ⟨n,rfl,_,g⟩|⟨n,xs,ds,e,_⟩
   ·simp only[bn,g];exact gvB
   ·cases e
  | exc c =>
   dsimp only at e;by_cases z:cs.contains c=true
   ·rw[qae z] at e;cases e;rcases w with ⟨n,rfl,_,g⟩|⟨n,xs,ds,e,_⟩
    ·simp only[bn,g];rw[qae z];exact gvB
    ·cases e
   ·rw[qao z] at e;cases e
  | pen=>cases e
def cAbs:OpN where
 k:=fun xs h=>(fAbs xs h).ne
 p:=fun as=>match as with
  | [.int i]=>some (.int (if i<0 then -i else i))
  | _=>none
 fr:=true
 ok {q h L O as xs d} bd w e:=by
  match as,e with
  | [.int i],e=>cases e;obtain⟨x,rfl,a⟩:=fx w;rw[a.int];exact gvI
def t8:OpN where
 k:=fun xs h=>(fInt xs h).ne
 p:=fun as=>match as with
  | [.int i]=>some (.int i)
  | [.bl b]=>some (.int (if b then 1 else 0))
  | _=>none
 fr:=true
 ok {q h L O as xs d} bd w e:=by
  match as,e with
  | [.int i],e=>cases e;obtain⟨x,rfl,a⟩:=fx w;rw[a.int];exact gvI
  | [.bl i],e=>cases e;obtain⟨x,rfl,a⟩:=fx w;rw[a.bl];exact gvI
def cStr:OpN where
 k:=fun xs h=>(fStr xs h).ne
 p:=fun as=>match as with
  | [.int i]=>if i.natAbs.log2<1920 then some (.str (toString i)) else none
  | _=>none
 fr:=true
 ok {q h L O as xs d} bd w e:=by
  match as,e with
  | [.int i],e =>
   dsimp only at e;by_cases z:i.natAbs.log2<1920
   ·rw[qae z] at e;cases e;obtain⟨x,rfl,a⟩:=fx w;rw[a.int];show Gv q h O true (if i.natAbs.log2<1920 then Out.ok (PV.str (toString i)) h else .bad).ne _;rw[qae z];exact gv0 rfl fun _ _ e=>by cases e
   ·rw[qao z] at e;cases e
def fI:OpN where
 k:=fun xs h=>(fLen xs h).ne
 p:=fun as=>match as with
  | [.lst ds]=>some (.int ds.length)
  | [.tup ds]=>some (.int ds.length)
  | [.str x]=>if x.length<=sizeLine then some (.int x.length) else none
  | _=>none
 fr:=true
 ok {q h L O as xs d} bd w e:=by
  match as,e with
  | [.lst ds],e =>
   cases e;obtain⟨x,rfl,a⟩:=fx w;obtain⟨n,ys,rfl,g,r⟩:=a.lst;simp only[fLen,g];rw[r.length];exact gvI
  | [.tup ds],e =>
   cases e;obtain⟨x,rfl,a⟩:=fx w;obtain⟨ys,rfl,r⟩:=a.tup;simp only[fLen];rw[r.length];exact gvI
  | [.str x],e =>
   dsimp only at e;by_cases z:x.length<=sizeLine
   ·rw[qae z] at e;cases e;obtain⟨x,rfl,a⟩:=fx w;rw[a.str];simp only[fLen];rw[qae z];exact gvI
   ·rw[qao z] at e;cases e
def f9:OpN where
 k:=fun xs h=>(fList xs h).ne
 p:=fun as=>match as with
  | [d]=>d.items.bind fun ds=>if ds.length<=100000 then some (.lst ds) else none
  | _=>none
 fr:=true
 ok {q h L O as xs d} bd w e:=by
  match as,e with
  | [a],e =>
   obtain⟨x,rfl,wx⟩:=fx w;rw[qbb] at e;obtain⟨ds,e1,e2⟩:=e;obtain⟨xs,e3,r⟩:=wx.seqOf e1;by_cases z:ds.length<=100000
   ·rw[qae z] at e2;cases e2;obtain⟨v,g,e4,r4,r5⟩:=lL bd r z;exact⟨v,g,by simp only[fList,e3];rw[e4];rfl,r4,r5⟩
   ·rw[qao z] at e2;cases e2
def cS:OpN where
 k:=fun xs h=>(fTuple xs h).ne
 p:=fun as=>match as with
  | [d]=>d.items.map .tup
  | _=>none
 fr:=true
 ok {q h L O as xs d} bd w e:=by
  match as,e with
  | [a],e =>
   obtain⟨x,rfl,wx⟩:=fx w;rw[qaA] at e;obtain⟨ds,e1,rfl⟩:=e;obtain⟨xs,e3,r⟩:=wx.seqOf e1;simp only[fTuple,e3];exact gv0 ⟨xs,rfl,r⟩ fun _ _ e=>by cases e
def nk:List D->Option (List Bool)
 | []=>some []
 | .bl b::r=>(nk r).map (b::·)
 | _=>none
def xM:∀{ds:List D} {xs:List PV} {bs:List Bool},Rps q h O ds xs->nk ds=some bs->kl xs=some bs
 | [],_,_,r,e=>by rw[show _=[] from r];cases e;rfl
 | d::ds,_,bs,⟨x,t,ex,a,b⟩,e=>by
  subst ex
  cases d with
  | bl c =>
   rw[show x=PV.bl c from a];rw[nk,qaA] at e;obtain⟨cs,e1,rfl⟩:=e;rw[kl,xM b e1];rfl
  | _=>cases e
def sR:OpN where
 k:=fun xs h=>(fAll xs h).ne
 p:=fun as=>match as with
  | [d]=>(d.items.bind nk).map fun bs=>.bl (bs.all id)
  | _=>none
 fr:=true
 ok {q h L O as xs d} bd w e:=by
  match as,e with
  | [a],e =>
   obtain⟨x,rfl,wx⟩:=fx w;rw[qaA] at e;obtain⟨bs,e1,rfl⟩:=e;rw[qbb] at e1;obtain⟨ds,e1,e2⟩:=e1;obtain⟨xs,e3,r⟩:=wx.seqOf e1;simp only[fAll,e3,qbl,xM r e2];exact gvB
def jD:List D->Option (List Int)
 | []=>some []
 | .int b::r=>(jD r).map (b::·)
 | _=>none
def sV:∀{ds:List D} {xs:List PV} {bs:List Int},Rps q h O ds xs->jD ds=some bs->xs=bs.map .int
 | [],_,_,r,e=>by rw[show _=[] from r];cases e;rfl
 | d::ds,_,bs,⟨x,t,ex,a,b⟩,e=>by
  subst ex
  cases d with
  | int c =>
   rw[show x=PV.int c from a];rw[jD,qaA] at e;obtain⟨cs,e1,rfl⟩:=e;rw[sV b e1];rfl
  | _=>cases e
def qy:∀(bs:List Int),jN (bs.map .int)=some bs
 | []=>rfl
 | b::bs=>by rw[qaE,jN,qy bs];rfl
def t4:∀(bs:List Int),Rps q h O (bs.map .int) (bs.map .int)
 | []=>rfl
 | b::bs=>⟨_,_,rfl,rfl,t4 bs⟩
def Vw.lstOf(w:Vw q h L O (.lst ds) v):∃xs,MM.hU h v=some xs/\Rps q h O ds xs:=by
 obtain⟨n,xs,rfl,g,r⟩:=w.lst;exact⟨xs,by simp[MM.hU,g],r⟩
def iK(lo:Int)(n:Nat):List D:=(List.range n).map fun (i:Nat)=>D.int (lo+(i:Int))
def rps_rng:Rps q h O (iK lo n) (bX lo n):=by
 have:=t4 (q:=q) (h:=h) (O:=O) ((List.range n).map fun (i:Nat)=>lo+(i:Int))
 rw[qbe,qbe] at this;exact this
def iR1:OpI where
 k:=fun vs h1=>match vs with
  | [.int j]=>if -(2 ^ 62)<=j/\j<2 ^ 62 then .ok ⟨bX 0 j.toNat,[]⟩ h1 else .bad
  | _=>.bad
 p:=fun as=>match as with
  | [.int j]=>if -100000<=j/\j<=100000 then some (iK 0 j.toNat) else none
  | _=>none
 ok {q h L O as xs d} hq hO bd w e:=by
  match as,e with
  | [.int j],e =>
   obtain⟨x,rfl,wx⟩:=fx w;rw[wx.int];dsimp only at e;by_cases z:-100000<=j/\j<=100000
   ·rw[qae z] at e;cases e;dsimp only;rw[qae ⟨by ext,by ext⟩];exact⟨_,rfl,rps_rng,(fun _ hg=>nomatch hg),fun _ _ hg=>nomatch hg⟩
   ·rw[qao z] at e;cases e
def Vw.sqAny(hq:q<L)(hO:q∈O)(w:Vw q h L O d v)(e:d.items=some ds):∃t xs gd,MM.cZ v h=some (t,xs,gd)/\Rps q h O ds xs/\(∀g∈gd,h[g.1]?=some (.lst g.2)/\g.1≠q)/\(Rp q h O d v->∀g∈gd,g.1∉O):=by
 obtain⟨xs,gd,e1,r,g1,g2⟩:=w.seq hq hO e
 cases d with
 | lst es =>
  cases e;obtain⟨n,ys,rfl,g,r'⟩:=w.lst;simp only[itAny,g] at e1;cases e1;exact⟨false,xs,[(n,xs)],by simp[MM.cZ,g],r',g1,g2⟩
 | tup es =>
  cases e;obtain⟨ys,rfl,r'⟩:=w.tup;simp only[itAny] at e1;cases e1;exact⟨true,_,[],rfl,r',g1,g2⟩
 | _=>cases e
def jX(xs ys:List D):List D:=(xs.zip ys).map fun p=>.tup [p.1,p.2]
def vw:∀{ds es:List D} {xs ys:List PV},Rps q h O ds xs->Rps q h O es ys->Rps q h O (jX ds es) (cN xs ys)
 | [],_,_,_,r,_=>by rw[show _=[] from r];simp[jX,cN];rfl
 | _::_,[],_,_,r,r'=>by rw[show _=[] from r'];simp[jX,cN];rfl
 | d::ds,e::es,_,_,⟨x,t,e1,a,b⟩,⟨x',t',e1',a',b'⟩=>by
  subst e1 e1';exact⟨_,_,rfl,⟨_,rfl,⟨_,_,rfl,a,⟨_,_,rfl,a',rfl⟩⟩⟩,vw b b'⟩
def iZ:OpI where
 k:=fun vs h1=>match vs with
  | [x,y]=>(match cZ x h1,cZ y h1 with
   | some (_,xs,g1),some (_,ys,g2)=>.ok ⟨cN xs ys,g1++g2⟩ h1
   | _,_=>.bad)
  | _=>.bad
 p:=fun as=>match as with
  | [d,e]=>d.items.bind fun xs=>e.items.map fun ys=>jX xs ys
  | _=>none
 ok {q h L O as xs d} hq hO bd w e:=by
  match as,e with
  | [a,b],e =>
   obtain⟨x,y,rfl,wx,wy⟩:=vws2 w;rw[qbb] at e;obtain⟨ds,e1,e⟩:=e;rw[qaA] at e;obtain⟨es,e2,rfl⟩:=e;obtain⟨t,ys,gd,f2,r,g1,g2⟩:=wx.sqAny hq hO e1;obtain⟨t',ys',gd',f2',r',g1',g2'⟩:=wy.sqAny hq hO e2;refine⟨⟨cN ys ys',gd++gd'⟩,by simp only[f2,f2'],vw r r',fun g hg=>?_,fun z g hg=>?_⟩
   ·rcases qap.mp hg with z|z
    ·exact g1 g z
    ·exact g1' g z
   ·obtain⟨x',r',e3,a1,x2,r2,e4,a2,_⟩:=z;cases e3;cases e4;rcases qap.mp hg with z|z
    ·exact g2 a1 g z
    ·exact g2' a2 g z
def aO(xs:List D)(lo hi:Option Int):List D:=(xs.drop (HT.sIx xs.length 0 lo)).take (HT.sIx xs.length xs.length hi - HT.sIx xs.length 0 lo)
def pf(lo hi:Option Int)(r:Rps q h O ds xs):Rps q h O (aO ds lo hi) (eU xs lo hi):=by
 unfold aO eU;rw[r.length];exact (r.drop _).take _
structure Xo (ws:List Nat) where
 m:Mx (Option Int)
 p:aB->Pen->PR (Option Int)
 ok:∀{q h L B O σ env s},Cx q h L B O ws σ env s->Ok q h (m σ h) (p env s) (fun _ a b=>a=b)
section
variable {ws:List Nat}
def xNo:Xo ws where
 m:=mNo
 p:=fun _ s=>.ok none s
 ok {q h L B O σ env s} c:=⟨none,h,rfl,KB.refl _ _,c.pen,rfl⟩
def xPt(e:Xe ws):Xo ws where
 m:=mPt e.m
 p:=fun env s=>(e.p env s).bind fun d s=>match d with
  | .int i=>.ok (some i) s
  | _=>.bad
 ok {q h L B O σ env s} c:=by
  refine (e.ok c).bind fun x v h1 s1 k1 p1 ⟨w,_,_⟩=>?_
  cases x with
  | int i=>rw[w.int];exact⟨some i,h1,rfl,KB.refl _ _,p1,rfl⟩
  | _=>trivial
def slD(d:D)(lo hi:Option Int):Option D:=match d with
 | .lst ds=>some (.lst (aO ds lo hi))
 | .tup ds=>if HT.sIx ds.length 0 lo=0/\HT.sIx ds.length ds.length hi=ds.length then none else some (.tup (aO ds lo hi))
 | _=>none
def sl_ok(bd:Bd h O)(w:Vw q h L O a x)(e:slD a lo hi=some d):Gv q h O true (fSl x lo hi h) d:=by
 cases a with
 | lst ds =>
  cases e;obtain⟨n,xs,rfl,g,r⟩:=w.lst;simp only[fSl,g];have r:=pf lo hi r;have m:Mv O h O (h++[MO.lst (eU xs lo hi)]):=⟨fun n hn _=>qak hn,fun o ho=>.inl ho⟩
  have m2:Mv O h (h.length::O) (h++[MO.lst (eU xs lo hi)]):=⟨fun n hn _=>qak hn,fun o ho=>by
   rcases qaj.mp ho with z|z
   ·exact .inr (by ext)
   ·exact .inl z⟩
  have g:(h++[MO.lst (eU xs lo hi)])[h.length]?=some (.lst (eU xs lo hi)):=by simp
  exact⟨_,_,rfl,⟨_,_,rfl,fun z=>by have:=bd _ z;ext,g,r.mv m⟩,fun _ ds' e=>by cases e;exact⟨_,_,rfl,qai _,g,r.mv m2⟩⟩
 | tup ds =>
  unfold slD at e;dsimp only at e;by_cases z:HT.sIx ds.length 0 lo=0/\HT.sIx ds.length ds.length hi=ds.length
  ·rw[qae z] at e;cases e
  ·rw[qao z] at e;cases e;obtain⟨xs,rfl,r⟩:=w.tup;simp only[fSl];rw[r.length,qao z];exact gv0 ⟨_,rfl,pf lo hi r⟩ fun _ _ e=>by cases e
 | _=>cases e
def xSl(a:Xe ws)(lo hi:Xo ws):Xe ws where
 m:=mSl a.m lo.m hi.m
 p:=fun env s=>(a.p env s).bind fun x s=>(lo.p env s).bind fun l s=>(hi.p env s).bind fun u s=>.of (slD x l u) s
 fz:=true
 fr:=true
 ok {q h L B O σ env s} c:=by
  refine (a.ok c).bind fun x v h1 s1 k1 p1 ⟨w,_,_⟩=>?_;have c1:=c.kb k1 p1;refine (lo.ok c1).bind fun l l' h2 s2 k2 p2 e=>?_;subst e;have c2:=c1.kb k2 p2;refine (hi.ok c2).bind fun u u' h3 s3 k3 p3 e=>?_;subst e;have c3:=c2.kb k3 p3
  cases e:slD x l u with
  | none=>trivial
  | some d =>
   obtain⟨y,g,e1,r,r'⟩:=sl_ok c3.bd ((w.kb k2 c.pO c.pL).kb k3 c.pO c.pL) e;exact give (qax (qax k1.len k2.len) k3.len) p3 ⟨y,g,by rw[e1];rfl,r,r'⟩
end
def d6:OpM where
 m:=d9
 p:=fun ds as=>match as with
  | [a]=>if ds.length<100000 then some (.non,ds++[a]) else none
  | _=>none
 ok {q h O n xs ds as vs d ds'} g r ra e:=by
  match as,e with
  | [a],e =>
   obtain⟨x,t,rfl,a,b⟩:=ra
   have:t=[]:=b
   subst this;dsimp only at e;by_cases z:ds.length<100000
   ·rw[qae z] at e;cases e;refine⟨.non,xs++[x],?_,r.app ⟨x,[],rfl,a,rfl⟩,rfl⟩;simp only[d9,g];rw[qae (by have:=iA;rw[r.length];ext)]
   ·rw[qao z] at e;cases e
end
section
variable {ws:List Nat} {env:aB} {s:Pen}
@[simp] theorem aL{d:D}{r:aB}:(ad 0:Xe ws).p (some d::r) s=.ok d s:=rfl
@[simp] theorem aS{i:Nat}{o:Option D}{r:aB}:(ad (i+1):Xe ws).p (o::r) s=(ad i:Xe ws).p r s:=by simp[ad]
theorem xVar_at(e:env[i]?=some (some d)):(ad i:Xe ws).p env s=.ok d s:=by
 show (match env[i]? with | some (some d)=>PR.ok d s | _=>.bad)=_;rw[e]
@[simp] theorem cw:(xC k:Xe ws).p env s=.ok k.d s:=rfl
@[simp] theorem gE:Cn.non.d=.non:=rfl
@[simp] theorem kf:(Cn.bl b).d=.bl b:=rfl
@[simp] theorem cu:(Cn.int b).d=.int b:=rfl
@[simp] theorem iJ:(Cn.str b).d=.str b:=rfl
@[simp] theorem bo:(ak o a b).p env s=(a.p env s).bind fun x s1=>(b.p env s1).bind fun y s2=>.of (o.p x y) s2:=rfl
@[simp] theorem mn:(xUn o a).p env s=(a.p env s).bind fun x s1=>.of (o.p x) s1:=rfl
@[simp] theorem aM:(xNil:Xs ws).p env s=.ok [] s:=rfl
@[simp] theorem aD:(ac a r).p env s=(a.p env s).bind fun x s1=>(r.p env s1).bind fun y s2=>.ok (x::y) s2:=rfl
@[simp] theorem fK:(xCb o a).p env s=(a.p env s).bind fun x s1=>.of (o.p x) s1:=rfl
@[simp] theorem bG:(ar f a h).p env s=(a.p env s).bind f.p:=rfl
@[simp] theorem dk:(bt a h).p env s=(a.p env s).bind fun x s1=>if x.length<=100000 then .ok (.lst x) s1 else .bad:=rfl
@[simp] theorem bY:(au a h).p env s=(a.p env s).bind fun x s1=>if x.length<=100000 then .ok (.tup x) s1 else .bad:=rfl
@[simp] theorem rO:(xDic:Xe ws).p env s=.ok .dic s:=rfl
@[simp] theorem j9:(xB a).p env s=(a.p env s).bl:=rfl
@[simp] theorem xNot_p:(cD a).p env s=(a.p env s).bind fun b s=>.ok (!b) s:=rfl
@[simp] theorem xAnd_p:(xAnd a b).p env s=(a.p env s).bind fun x s=>if x=true then b.p env s else .ok false s:=rfl
@[simp] theorem qS:(xOr a b).p env s=(a.p env s).bind fun x s=>if x=true then .ok true s else b.p env s:=rfl
@[simp] theorem xTrue_p:(xTrue:Xt ws).p env s=.ok true s:=rfl
@[simp] theorem pQ:(cX a b).p env s=(a.p env s).bl.bind fun x s=>if x=true then (b.p env s).bl.bind fun y s=>.ok (.bl y) s else .ok (.bl false) s:=rfl
@[simp] theorem xNotV_p:(wP a).p env s=(a.p env s).bl.bind fun x s=>.ok (.bl (!x)) s:=rfl
@[simp] theorem xChain_p:(sW f g a b e).p env s=(a.p env s).bind fun x s1=>(b.p env s1).bind fun y s2=>match f.p x y with
  | some (.bl t)=>if t=true then (e.p env s2).bind fun z s3=>.of (g.p y z) s3 else .ok (.bl false) s2
  | _=>.bad:=rfl
@[simp] theorem wT:(ni o a).p env s=(a.p env s).bind fun x s1=>.of (o.p x) s1:=rfl
@[simp] theorem fH:(bL a).p env s=(a.p env s).bind fun x s1=>.of x.items s1:=rfl
@[simp] theorem xNm_p{i:Nat}{h:ws.contains i=false}{d:D}:(xNm i h).p d env=some (env.set i (some d)):=rfl
@[simp] theorem xGl_p:(xGl:Xgs ws).p [] env=some env:=rfl
@[simp] theorem xGc_p:(xGc a t).p (d::ds) env=(a.p d env).bind fun env1=>t.p ds env1:=rfl
@[simp] theorem xGp_p:(xGp t n).p (.tup ds) env=if ds.length=n then t.p ds env else none:=rfl
@[simp] theorem pg{nv:Nat}{fm:List Nat}{i:Xi ws}{ws':List Nat}{g:Xg ws'}{t:Xt ws'}{e:Xe ws'}{hw:cws nv fm ws=ws'}{hz:e.fz=true}:(bU nv fm i g t e hw hz).p env s=(i.p env s).bind fun ds s1=>if ds.length<=100000 then (match fh g.p t.p e.p ds (cenv nv fm env) s1 with
  | .ok r s2=>.ok (.lst r) s2
  | _=>.bad) else .bad:=rfl
@[simp] theorem jE:(xNo:Xo ws).p env s=.ok none s:=rfl
@[simp] theorem jH:(xPt e).p env s=(e.p env s).bind fun d s=>match d with
  | .int i=>.ok (some i) s
  | _=>.bad:=rfl
@[simp] theorem oH:(xSl a lo hi).p env s=(a.p env s).bind fun x s=>(lo.p env s).bind fun l s=>(hi.p env s).bind fun u s=>.of (slD x l u) s:=rfl
@[simp] theorem aE:(aG a b).p env s=(a.p env s).then b.p:=rfl
@[simp] theorem dC:(xSkip:Xd ws).p env s=.nx env s:=rfl
@[simp] theorem iO:(bi e).p env s=(e.p env s).go env fun d _ s=>.rt d s:=rfl
@[simp] theorem vj:(fG e).p env s=(e.p env s).go env fun _=>.nx:=rfl
@[simp] theorem dv:(xIf t a b).p env s=(t.p env s).go env fun x env s=>if x=true then a.p env s else b.p env s:=rfl
@[simp] theorem bO:(bx i e hi hz).p env s=(e.p env s).go env fun d env s=>.nx (env.set i (some d)) s:=rfl
@[simp] theorem pc:(qZ i e hi hz).p env s=(e.p env s).go env fun d env s=>match d with
  | .lst ds=>.nx (env.set i (some (.lst ds))) s
  | _=>.bad:=rfl
@[simp] theorem xAsg_p:(xAsg e g hz).p env s=(e.p env s).go env fun d env s=>match g.p d env with
  | some env1=>.nx env1 s
  | none=>.bad:=rfl
@[simp] theorem xRaise_p:(jw x a).p env s=(a.p env s).go env fun ds env s=>if ds.length<=100000 then .rse x env s else .bad:=rfl
@[simp] theorem gz:(jP i g b hz).p env s=(i.p env s).go env fun ds env s=>pGo g.p b.p ds env s:=rfl
@[simp] theorem xMt_p:(xMt o i a hi hz).p env s=pMt o i a.p env s fun _=>.nx:=rfl
theorem bv{hw}(hl:ds.length=np):(cr n np b hw).p ds s=(b.p (dSt n ds) s).fin:=by
 show (if ds.length=np then _ else _)=_;rw[qae hl]
variable {i j:Int} {b:Bool} {x y:List D}
@[simp] theorem im:aI.p (.int i) (.int j)=some (.int (i+j)):=rfl
theorem cf(h:x.length+y.length<=100000):aI.p (.lst x) (.lst y)=some (.lst (x++y)):=by
 show (if x.length+y.length<=100000 then _ else _)=_;rw[qae h]
@[simp] theorem jB:fu.p (.int i) (.int j)=some (.int (i - j)):=rfl
@[simp] theorem oLt_ii:oLt.p (.int i) (.int j)=some (.bl (decide (i<j))):=rfl
@[simp] theorem oLe_ii:oLe.p (.int i) (.int j)=some (.bl (decide (i<=j))):=rfl
@[simp] theorem oGt_ii:oGt.p (.int i) (.int j)=some (.bl (decide (j<i))):=rfl
@[simp] theorem oGe_ii:oGe.p (.int i) (.int j)=some (.bl (decide (j<=i))):=rfl
@[simp] theorem oIx_l:oIx.p (.lst x) (.int j)=atI x j:=rfl
@[simp] theorem oIx_t:oIx.p (.tup x) (.int j)=atI x j:=rfl
theorem uV(h:j≠0):k6.p (.int i) (.int j)=some (.int (i.fmod j)):=by
 show (if j≠0 then _ else _)=_;rw[qae h]
@[simp] theorem oIsi_p:(b8 Ts).p d=(tyD d).map fun t=>.bl (Ts.any (ba t)):=rfl
@[simp] theorem ty_non:tyD .non=some "NoneType":=rfl
@[simp] theorem ty_bl:tyD (.bl b)=some "bool":=rfl
@[simp] theorem ty_int:tyD (.int i)=some "int":=rfl
@[simp] theorem ty_str:tyD (.str z)=some "str":=rfl
@[simp] theorem ty_tup:tyD (.tup x)=some "tuple":=rfl
@[simp] theorem ty_lst:tyD (.lst x)=some "list":=rfl
@[simp] theorem ty_dic:tyD .dic=some "dict":=rfl
@[simp] theorem cInt_b:t8.p [.bl b]=some (.int (if b then 1 else 0)):=rfl
@[simp] theorem cInt_i:t8.p [.int i]=some (.int i):=rfl
@[simp] theorem cLen_l:fI.p [.lst x]=some (.int x.length):=rfl
@[simp] theorem cLen_t:fI.p [.tup x]=some (.int x.length):=rfl
@[simp] theorem cTuple_l:cS.p [.lst x]=some (.tup x):=rfl
@[simp] theorem cTuple_t:cS.p [.tup x]=some (.tup x):=rfl
theorem iR1_i(h:-100000<=i/\i<=100000):iR1.p [.int i]=some (iK 0 i.toNat):=by
 show (if _ then _ else _)=_;rw[qae h]
@[simp] theorem iZ_ll:iZ.p [.lst x,.lst y]=some (jX x y):=rfl
@[simp] theorem iZ_tt:iZ.p [.tup x,.tup y]=some (jX x y):=rfl
@[simp] theorem nQ:slD (.lst x) lo hi=some (.lst (aO x lo hi)):=rfl
theorem gC(h:x.length<100000):d6.p x [a]=some (.non,x++[a]):=by
 show (if _ then _ else _)=_;rw[qae h]
end
section
variable {i j:Int} {b c:Bool}
@[simp] theorem eqD_ii:eqD neg (.int i) (.int j)=some (.bl (if neg then !decide (i=j) else decide (i=j))):=by
 simp[eqD,py,dep,SeqAt.shaped,PyData.canLay0,PyData.depth,PyData.eqv,qbt]
@[simp] theorem eqD_bb:eqD neg (.bl b) (.bl c)=some (.bl (if neg then !(b == c) else b == c)):=by
 simp[eqD,py,dep,SeqAt.shaped,PyData.canLay0,PyData.depth,PyData.eqv]
@[simp] theorem oEq_p:oEq.p a d=eqD false a d:=rfl
@[simp] theorem ko:oNe.p a d=eqD true a d:=rfl
end
@[simp] theorem pGo_nil:pGo g b [] env s=.nx env s:=rfl
theorem sv(e:g d env=some env1):pGo g b (d::ds) env s=(b env1 s).turn (pGo g b ds):=by
 rw[pGo,e]
def jp(I:Nat->aB->Pen->Prop):∀(ds:List D) (j:Nat) (env:aB) (s:Pen),I j env s ->
  (∀m env s d,I (j+m) env s->ds[m]?=some d->∃env1 env' s',g d env=some env1/\b env1 s=.nx env' s'/\I (j+m+1) env' s')->∃env' s',pGo g b ds env s=.nx env' s'/\I (j+ds.length) env' s'
 | [],j,env,s,hI,_=>⟨env,s,rfl,hI⟩
 | d::ds,j,env,s,hI,st=>by
  obtain⟨env1,env2,s2,e1,e2,I2⟩:=st 0 env s d hI rfl;obtain⟨env3,s3,e3,I3⟩:=jp I ds (j+1) env2 s2 I2 fun m env' s' x q z=>by
   have:=st (m+1) env' s' x (by rw[show j+(m+1)=j+1+m by lia];exact q) (by simpa using z)
   rw[show j+(m+1)+1=j+1+m+1 by lia] at this;exact this
  refine⟨env3,s3,?_,by rw[qbd,show j+(ds.length+1)=j+1+ds.length by lia];exact I3⟩;rw[sv e1,e2];exact e3
def jS(p:D->Bool)(f:D->D):∀(ds:List D) (vs:aB),vs.length=nv ->
  (∀x∈ds,∀vs:aB,vs.length=nv->∃vs':aB,vs'.length=nv/\g x (vs++fr)=some (vs'++fr)/\t (vs'++fr) s=.ok (p x) s/\(p x=true->e (vs'++fr) s=.ok (f x) s))->fh g t e ds (vs++fr) s=.ok ((ds.filter p).map f) s
 | [],vs,hv,body=>rfl
 | x::ds,vs,hv,body=>by
  obtain⟨vs',hv',e1,e2,e3⟩:=body x (by simp) vs hv;have ih:=jS p f ds vs' hv' fun y hy=>body y (qal _ hy);rw[fh,e1];dsimp only;rw[e2]
  cases hp:p x with
  | true=>simp only[Pb,if_true,e3 hp,ih,qcj hp,qaE]
  | false=>simp only[Pb,qag,if_false,ih,qck (show ¬p x=true by simp[hp])]
def oU{ws ws':List Nat}{env:aB}{s:Pen}{nv:Nat}{fm:List Nat}{i:Xi ws}{g:Xg ws'}{t:Xt ws'}{e:Xe ws'}{hw:cws nv fm ws=ws'}{hz:e.fz=true}{ds:List D}(p:D->Bool)(f:D->D)(ei:i.p env s=.ok ds s)(hl:ds.length<=100000)
  (body:∀x∈ds,∀vs:aB,vs.length=nv->∃vs':aB,vs'.length=nv/\g.p x (vs++fm.map fun i=>(env[i]?).getD none)=some (vs'++fm.map fun i=>(env[i]?).getD none)/\t.p (vs'++fm.map fun i=>(env[i]?).getD none) s=.ok (p x) s/\(p x=true->e.p (vs'++fm.map fun i=>(env[i]?).getD none) s=.ok (f x) s)) :
  (bU nv fm i g t e hw hz).p env s=.ok (.lst ((ds.filter p).map f)) s:=by
 rw[pg,ei,Pb,qae hl];unfold cenv;rw[jS p f ds _ (by simp) body]
def jc{ws ws':List Nat}{env:aB}{s:Pen}{fm:List Nat}{i:Xi ws}{t:Xt ws'}{e:Xe ws'}{ds:List D}(p:D->Bool)(f:D->D)(ei:i.p env s=.ok ds s)(hl:ds.length<=100000)
  (body:∀x∈ds,t.p (some x::fm.map fun i=>(env[i]?).getD none) s=.ok (p x) s/\(p x=true->e.p (some x::fm.map fun i=>(env[i]?).getD none) s=.ok (f x) s)) (h0:ws'.contains 0=false:=by exact ys rfl) (hw:cws 1 fm ws=ws':=by exact ys rfl) (hz:e.fz=true:=by exact ys rfl) :
  (bU 1 fm i (xNm 0 h0) t e hw hz).p env s=.ok (.lst ((ds.filter p).map f)) s :=
 oU p f ei hl fun x hx vs hv=>match vs,hv with
  | [_],_=>⟨[some x],rfl,rfl,body x hx⟩
def comp2{ws ws':List Nat}{env:aB}{s:Pen}{fm:List Nat}{i:Xi ws}{t:Xt ws'}{e:Xe ws'}{ds:List D}(p:D->Bool)(f:D->D)(ei:i.p env s=.ok ds s)(hl:ds.length<=100000)
  (body:∀x∈ds,∃a b,x=.tup [a,b]/\t.p (some a::some b::fm.map fun i=>(env[i]?).getD none) s=.ok (p x) s/\(p x=true->e.p (some a::some b::fm.map fun i=>(env[i]?).getD none) s=.ok (f x) s)) (h0:ws'.contains 0=false:=by exact ys rfl) (h1:ws'.contains 1=false:=by exact ys rfl) (hw:cws 2 fm ws=ws':=by exact ys rfl) (hz:e.fz=true:=by exact ys rfl) :
  (bU 2 fm i (xGp (xGc (xNm 0 h0) (xGc (xNm 1 h1) xGl)) 2) t e hw hz).p env s=.ok (.lst ((ds.filter p).map f)) s :=
 oU p f ei hl fun x hx vs hv=>match vs,hv with
  | [_,_],_=>let ⟨a,b,e,q⟩:=body x hx;⟨[some a,some b],rfl,by subst e;rfl,q⟩
end PU
namespace PU
open PySem MM SetT SortT
open L2 (ixN atI fP)
def cQ{α:Type}(l:List α):(l.filter fun _=>true)=l:=List.filter_eq_self.mpr (by simp)
def sX(h:0<=i):∃n:Nat,i=(n:Int):=⟨i.toNat,by lia⟩
end PU
namespace PU
open PySem MM SetT SortT
open L2 (ixN atI fP)
local instance (priority:=1) cdecN10 (p:Prop):Decidable p:=Classical.propDecidable p
noncomputable section
section
variable {ws:List Nat}
structure OpR where
 m:Nat->List PV->MH->Out PV
 p:List D->List D->Option D
 ok:∀{q:Nat} {h:MH} {L:Nat} {O:List Nat} {n:Nat} {xs:List PV} {ds as:List D} {vs:List PV} {d:D},h[n]?=some (.lst xs)->Rps q h O ds xs->Vws q h L O as vs->p ds as=some d->∃v,m n vs h=.ok v h/\Rp q h O d v/\∀es,d≠.lst es
end
section
variable {ws:List Nat} {env:aB} {s:Pen}
end
end
noncomputable section
def nO:List D->Option (List Str)
 | []=>some []
 | .str x::r=>(nO r).map (x::·)
 | _=>none
def yw:∀{ds:List D} {xs:List PV} {ts:List Str},Rps q h O ds xs->nO ds=some ts->iX xs=some ts:=by
 intro ds
 induction ds with
 | nil=>intro xs ts r e;rw[show xs=[] from r];cases e;rfl
 | cons d ds ih =>
  intro xs ts r e;obtain⟨x,t,rfl,r1,r2⟩:=r
  cases d with
  | str z =>
   unfold nO at e;rw[qaA] at e;obtain⟨ts',e1,rfl⟩:=e;rw[show x=PV.str z from r1];unfold iX;rw[ih r2 e1];rfl
  | _=>cases e
structure OpS where
 f:Str->List PV->MH->Out PV
 p:Str->List D->Option D
 fr:Bool
 ok:∀{q h L O z as xs d},Bd h O->Vws q h L O as xs->p z as=some d->Gv q h O fr (f z xs h) d
def sJoin:OpS where
 f:=iV
 p:=fun z as=>match as with
  | [.lst ds]=>(match nO ds with
   | some ts=>if JoinOk z ts=true then some (.str (Txt.join z ts)) else none
   | none=>none)
  | _=>none
 fr:=true
 ok {q h L O z as xs d} bd w e:=by
  match as,e with
  | [.lst ds],e =>
   dsimp only at e
   cases es:nO ds with
   | none=>rw[es] at e;cases e
   | some ts =>
    rw[es] at e;dsimp only at e;by_cases hj:JoinOk z ts=true
    ·rw[qae hj] at e;cases e;obtain⟨x,rfl,a⟩:=fx w;obtain⟨n,xs,rfl,g,r⟩:=a.lst;have e2:iV z [.loc n] h=.ok (.str (Txt.join z ts)) h:=by
      simp only[iV,g,yw r es];rw[qae hj]
     rw[e2];exact gv0 rfl fun _ _ e=>by cases e
    ·rw[qao hj] at e;cases e
section
variable {ws:List Nat}
def xSm(o:OpS)(a:Xe ws)(as:Xs ws):Xe ws where
 m:=mSm o.f a.m as.m
 p:=fun env s=>(a.p env s).bind fun x s1=>match x with
  | .str z=>(as.p env s1).bind fun y s2=>.of (o.p z y) s2
  | _=>.bad
 fz:=true
 fr:=o.fr
 ok {q h L B O σ env s} c:=by
  refine (a.ok c).bind fun x v h1 s1 k1 p1 ⟨w,_,_⟩=>?_
  cases x with
  | str z =>
   have c1:=c.kb k1 p1;rw[w.str];dsimp only;refine (as.ok c1).bind fun y vs h2 s2 k2 p2 ⟨w2,_⟩=>?_
   cases e:o.p z y with
   | none=>trivial
   | some d =>
    obtain⟨u,g,e1,r,f⟩:=o.ok (c1.kb k2 p2).bd w2 e;exact give (qax k1.len k2.len) p2 ⟨u,g,by rw[e1];rfl,r,f⟩
  | _=>trivial
def xPar(i j:Nat)(a:Xs ws)(hi:ws.contains i=false:=by exact ys rfl)(hj:ws.contains j=false:=by exact ys rfl)(hz:a.fz=true:=by exact ys rfl):Xd ws where
 m:=sk i j a.m
 p:=fun env s=>(a.p env s).go env fun ds env s=>match ds with
  | [x,y]=>.nx ((env.set i (some x)).set j (some y)) s
  | _=>.bad
 fr:=true
 ok {q h L B O σ env s} c d:=by
  refine SOk.ex (f:=fun vs σ h=>match vs with | [v,w]=>.nx ((σ.set i (some v)).set j (some w)) h | _=>.bad) (g:=fun ds env s=>match ds with | [x,y]=>.nx ((env.set i (some x)).set j (some y)) s | _=>.bad) c d (a.ok c) fun xs vs h1 s1 kb c1 ⟨_,z⟩=>?_;have z:=z hz
  match xs,z with
  | [],_=>trivial
  | [_],_=>trivial
  | [x,y],z =>
   obtain⟨v,t,rfl,rv,t2⟩:=z;obtain⟨w,t3,rfl,rw',rfl⟩:=t2;obtain⟨a1,b1⟩:=c1.sr.set (i:=i) (fun z=>by simp[z] at hi) rv;obtain⟨a2,b2⟩:=a1.set (i:=j) (fun z=>by simp[z] at hj) rw';exact⟨_,h1,rfl,O,Stp.refl _ _ _ _,⟨c1.bd,c1.sub,c1.bb,c1.pb,c1.hL,c1.pen,a2⟩,(d.keep b1).keep b2⟩
  | _::_::_::_,_=>trivial
variable {env:aB} {s:Pen}
@[simp] theorem xSm_p:(xSm o a as).p env s=(a.p env s).bind fun x s1=>match x with
  | .str z=>(as.p env s1).bind fun y s2=>.of (o.p z y) s2
  | _=>.bad:=rfl
@[simp] theorem xPar_p:(xPar i j a hi hj hz).p env s=(a.p env s).go env fun ds env s=>match ds with
  | [x,y]=>.nx ((env.set i (some x)).set j (some y)) s
  | _=>.bad:=rfl
end
end
noncomputable section
def nR:List D->Option (List (Int × D))
 | []=>some []
 | .tup [.int k,v]::r=>(nR r).map ((k,v)::·)
 | _=>none
def dgD(x:D):Option (List (Int × D)):=match x with
 | .tup ps=>(match nR ps with
  | some kvs=>if (kvs.map (·.1)).Nodup then some kvs else none
  | none=>none)
 | _=>none
def atD(kvs:List (Int × D))(i:Int)(d:D):D:=((kvs.find? fun kv=>kv.1=i).map (·.2)).getD d
def Rkv(q:Nat)(h:MH)(O:List Nat):List (Int × D)->List (Int × PV)->Prop
 | [],r=>r=[]
 | a::t,r=>∃b u,r=b::u/\a.1=b.1/\Rp q h O a.2 b.2/\Rkv q h O t u
def xz:∀{ds:List D} {xs:List PV} {kvs:List (Int × D)},Rps q h O ds xs->nR ds=some kvs->∃ks,iD xs=some ks/\Rkv q h O kvs ks:=by
 intro ds
 induction ds with
 | nil=>intro xs kvs r e;rw[show xs=[] from r];cases e;exact⟨[],rfl,rfl⟩
 | cons d ds ih =>
  intro xs kvs r e;obtain⟨x,t,rfl,r1,r2⟩:=r;unfold nR at e
  split at e
  ·rename_i z;cases z
  ·rename_i k0 v0 r0 z
   injection z with z1 z2
   subst z1 z2;rw[qaA] at e;obtain⟨kvs',e1,rfl⟩:=e;obtain⟨ks,e2,e3⟩:=ih r2 e1;obtain⟨us,rfl,a,us1,rfl,ra,b,us2,rfl,rb,rfl⟩:=r1;rw[show a=PV.int k0 from ra];exact⟨(k0,b)::ks,by unfold iD;rw[e2];rfl,_,_,rfl,rfl,rb,e3⟩
  ·cases e
def Rkv.keys:∀{kvs:List (Int × D)} {ks:List (Int × PV)},Rkv q h O kvs ks->ks.map (·.1)=kvs.map (·.1)
 | [],_,r=>by rw[show _=[] from r];rfl
 | a::t,_,⟨b,u,e,e1,_,r⟩=>by rw[e,qaE,qaE,e1,Rkv.keys r]
def Rkv.mv(m:Mv O h O' h'):∀{kvs:List (Int × D)} {ks:List (Int × PV)},Rkv q h O kvs ks->Rkv q h' O' kvs ks
 | [],_,r=>r
 | a::t,_,⟨b,u,e,e1,e2,r⟩=>⟨b,u,e,e1,e2.mv m,Rkv.mv m r⟩
def Rkv.at:∀{kvs:List (Int × D)} {ks:List (Int × PV)},Rkv q h O kvs ks->(atD kvs i d=d/\atK ks i v=v)\/Rp q h O (atD kvs i d) (atK ks i v)
 | [],_,r=>by rw[show _=[] from r];exact .inl ⟨rfl,rfl⟩
 | a::t,_,⟨b,u,e,e1,e2,r⟩=>by
  subst e;unfold atD atK;rw[qbX,qbX];by_cases z:a.1=i
  ·have z':b.1=i:=e1▸z;simp only[z,z',decide_true];exact .inr e2
  ·have z':¬b.1=i:=fun q=>z (e1.trans q);simp only[z,z',decide_false];exact Rkv.at (i:=i) (d:=d) (v:=v) r
def dg_inv(r:Rp q h O x v)(e:dgD x=some kvs):∃ks,dgP v=some ks/\Rkv q h O kvs ks:=by
 unfold dgD at e
 split at e
 ·rename_i ps
  split at e
  ·rename_i kvs' ep
   split at e
   ·rename_i nd
    cases e;obtain⟨xs,rfl,r⟩:=r;obtain⟨ks,e1,e2⟩:=xz r ep;refine⟨ks,?_,e2⟩;simp only[dgP,e1];rw[qae (by rw[e2.keys];exact nd)]
   ·cases e
  ·cases e
 ·cases e
section
variable {ws:List Nat}
def xDg(a:Xe ws)(as:Xs ws):Xe ws where
 m:=mDg a.m as.m
 p:=fun env s=>(a.p env s).bind fun x s1=>match dgD x with
  | some kvs=>(as.p env s1).bind fun y s2=>match y with
   | [.int i,d]=>.ok (atD kvs i d) s2
   | _=>.bad
  | none=>.bad
 fz:=as.fz
 fr:=false
 ok {q h L B O σ env s} c:=by
  refine (a.ok c).bind fun x v h1 s1 k1 p1 ⟨w,_,_⟩=>?_
  cases ed:dgD x with
  | none=>trivial
  | some kvs =>
   have c1:=c.kb k1 p1;have rx:Rp q h1 O x v:=by
    rcases w with r|⟨n,xs,ds,e,_⟩
    ·exact r
    ·rw[e] at ed;cases ed
   obtain⟨ks,e1,rk⟩:=dg_inv rx ed;rw[e1];dsimp only;refine (as.ok c1).bind fun y vs h2 s2 k2 p2 ⟨w2,z2⟩=>?_;have rk2:=rk.mv (k2.mv c.pO)
   match y,w2,z2 with
   | [.int i,d],w2,z2 =>
    obtain⟨v1,t1,rfl,u1,v2,t2,rfl,u2,rfl⟩:=w2;rw[u1.int];dsimp only;refine⟨_,h2,rfl,KB.refl _ _,p2,?_,fun z=>?_,fun z=>by cases z⟩
    ·rcases rk2.at (i:=i) (d:=d) (v:=v2) with ⟨e3,e4⟩|r
     ·rw[e3,e4];exact u2
     ·exact .inl r
    ·obtain⟨_,_,e5,_,_,_,e6,r6,_⟩:=z2 z;cases e5;cases e6;rcases rk2.at (i:=i) (d:=d) (v:=v2) with ⟨e3,e4⟩|r
     ·rw[e3,e4];exact r6
     ·exact r
   | [],_,_=>trivial
   | [x1],_,_=>cases x1 <;> trivial
   | .non::_::_,_,_=>trivial
   | .bl _::_::_,_,_=>trivial
   | .str _::_::_,_,_=>trivial
   | .tup _::_::_,_,_=>trivial
   | .lst _::_::_,_,_=>trivial
   | .dic::_::_,_,_=>trivial
   | .exc _::_::_,_,_=>trivial
   | .pen::_::_,_,_=>trivial
   | .int _::_::_::_,_,_=>trivial
def xCT(i j:Int):Xe ws where
 m:=mC (.tup [.int i,.int j])
 p:=fun _ s=>.ok (.tup [.int i,.int j]) s
 fz:=true
 fr:=true
 ok {q h L B O σ env s} c:=by
  have r:Rp q h O (.tup [.int i,.int j]) (.tup [.int i,.int j]):=⟨_,rfl,_,_,rfl,rfl,_,_,rfl,rfl,rfl⟩;exact⟨_,h,rfl,KB.refl _ _,c.pen,.inl r,fun _=>r,fun _ ds e=>by cases e⟩
end
end
noncomputable section
variable {ws:List Nat}
end
end PU
namespace MM
open PySem PySem.Spec PyProof.Rows L2
end MM
namespace PU
open PySem MM
end PU
namespace MM
open PySem PySem.Spec PyProof.Rows L2
abbrev CPm(scope sc:Scope)(vars frees:List Str):Prop:=(∀y∈scope.names,y.2=.cell->scope.names.lookup y.1=some .cell)/\(∀y∈scope.names,y.2=.local->scope.names.lookup y.1=some .local)/\(∀x∈vars,scope.names.lookup x=some .local\/scope.names.lookup x=some .cell)/\(∀x∈frees,scope.names.lookup x=some .free)/\(∀y∈scope.names,y.2=.free->y.1∈frees)/\(∀x∈frees,sc.names.lookup x=some .cell)
def uY{X:Cx}{N:List Str}{scope sc:Scope}{vars frees:List Str}{fm:List Nat}(hsc:X.env.scope=sc)(h1:scope.kind=.function)(h7:fm.map (fun i=>N[i]?)=frees.map some)(h:CPm scope sc vars frees):CompOk X N scope vars frees fm :=
 compOk hsc h1 h.1 h.2.1 h.2.2.1 h.2.2.2.1 h.2.2.2.2.1 h7 h.2.2.2.2.2
def ar1{Q:List Value->Prop}(h:∀a0,Q [a0]):∀us,us.length=1->Q us
 | [_],_=>h _
def ar2{Q:List Value->Prop}(h:∀a0 a1,Q [a0,a1]):∀us,us.length=2->Q us
 | [_,_],_=>h _ _
def ar3{Q:List Value->Prop}(h:∀a0 a1 a2,Q [a0,a1,a2]):∀us,us.length=3->Q us
 | [_,_,_],_=>h _ _ _
abbrev Zn(K:qab)(x:Str):Prop:=PySem.W.nsIn K mainGlobals x=some none
abbrev Nn(X:Cx)(x:Str):Prop:=X.mg x=none
abbrev Sc(X:Cx)(s:Stmt):Prop:=X.env.scope=aQ s
abbrev Gd(X:Cx)(N G:List Str)(k:Nat):Prop:=Good X N N G k
structure Ba (P:Program) (w:World) (K:qab) (mg:Str->Option Value) (base:Heap):Prop where
 kin:K.In base
 ns:base.Ns mainGlobals mg
structure EE (X:Cx) (P:Program) (w:World) (K:qab) (mg:Str->Option Value) (base:Heap):Prop where
 e1:X.prog=P
 e2:X.w=w
 e3:X.K=K
 e4:X.mg=mg
 e5:X.base=base
 b:Ba P w K mg base
section
variable {P:Program} {w:World} {K:qab} {mg:Str→Option Value} {base:Heap} {X:Cx}
def EE.n(e:EE X P w K mg base){x:Str}(z:Zn K x):Nn X x:=by
 show X.mg x=none;rw[e.e4];exact PySem.W.mg_none_of e.b.kin e.b.ns z
def FnAt.c{x:Str}{ps:List Str}{F:List PV->MH->Out PV}{i j:Nat}(a:FnAt P w K mg base x ps F i)(e:EE X P w K mg base)(h:i<=j:=by decide):Cal X x ps F j :=
 (a.mono h).cal e.e1 e.e2 e.e3 e.e4 e.e5
def fnN{x:Str}{st:Stmt}{N G ps:List Str}{m:Mst}{k:Nat}(b:Ba P w K mg base)(D:DefAt K x st)(hb:∀X:Cx,EE X P w K mg base->Sc X st->Gd X N G k->DefCx X->MSs X (aH st) m)
  (B:lI x st ps:=by first | exact fun _ _ _ _ _ _=>ar1 fun _=>rfl | exact fun _ _ _ _ _ _=>ar2 fun _ _=>rfl | exact fun _ _ _ _ _ _=>ar3 fun _ _ _=>rfl | exact fun _ _ _ _ _ _=>ar4 fun _ _ _ _=>rfl | exact fun _ _ _ _ _ _=>ar5 fun _ _ _ _ _=>rfl)
  (S:FnScope N ps (aQ st):=by exact⟨rfl,rfl,rfl,by decide +kernel,rfl,by decide +kernel,by decide +kernel⟩)
  (hl:∀y∈N,(aQ st).names.lookup y=some .local\/(aQ st).names.lookup y=some .cell:=by decide +kernel) (hgl:∀y∈G,(aQ st).names.lookup y=some .globalImplicit:=by decide +kernel)
  (dbg:∀x∈N++G,(x == ("__debug__":Str))=false/\(x == ("__classdict__":Str))=false/\x≠"__name__":=by decide +kernel) :
  FnAt P w K mg base x ps (bj N.length ps.length m) (k+1) :=
 fnAt_M b.kin b.ns D S B hl hgl dbg fun X e1 e2 e3 e4 e5 e6 g dc=>hb X ⟨e1,e2,e3,e4,e5,b⟩ e6 g dc
end
structure YE (Y X:Cx):Prop where
 e1:Y.prog=X.prog
 e2:Y.w=X.w
 e3:Y.K=X.K
 e4:Y.mg=X.mg
 e5:Y.base=X.base
section
variable {X Y:Cx} {N W G:List Str} {k:Nat} {x:Str} {p pos:Pos} {e:Expr} {es:List Expr} {m:Mx (List PV)} {f:List PV→MH→Out PV}
def YE.n(y:YE Y X)(h:X.mg x=none):Y.mg x=none:=y.e4.symm▸h
def YE.c(y:YE Y X){ps:List Str}{F:List PV->MH->Out PV}{i:Nat}(c:Cal X x ps F i):Cal Y x ps F i:=c.at y.e1 y.e2 y.e3 y.e4 y.e5
def kV(g:Good X N W G k)(i:Nat)(hi:N[i]?=some x:=by rfl):ME X (.Name x pos) (af i):=me_var g i hi
def kNm(g:Good X N W G k)(i:Nat)(hi:N[i]?=some x:=by rfl)(hw:W[i]?=some x:=by rfl):MG X (.Name x pos) (gNm i):=mg_name g i hi hw
def kIx{a b:Expr}{ma mb:Mx PV}(ha:ME X a ma)(hb:ME X b mb)(hs:mq b:=by exact fun _ _=>rfl):ME X (.Subscript a b pos) (ai aU ma mb):=me_ix ha hb hs
def kCm{op:CmpOp}{f:PV->PV->MH->Out PV}{a b:Expr}{ma mb:Mx PV}(ho:OpJ X (compareOp op) f)(ha:ME X a ma)(hb:ME X b mb)(hm:behindInMarks op b=false:=by first | exact nomark _ | rfl):ME X (.Compare a [op] [b] pos) (ai f ma mb):=me_cmp ho ha hb hm
def kTc{op:CmpOp}{f:PV->PV->MH->Out PV}{a b:Expr}{ma mb:Mx PV}(ho:OpJ X (compareOp op) f)(ha:ME X a ma)(hb:ME X b mb)(hm:behindInMarks op b=false:=by first | exact nomark _ | rfl):MT X (.Compare a [op] [b] pos) (mB (ai f ma mb)):=mt_cmp ho ha hb hm
def kCa(g:Good X N W G k)(j:Nat){ps:List Str}{F:List PV->MH->Out PV}(C:Cal X x ps F k)(ha:MA X (e::es) m)(hj:G[j]?=some x:=by rfl)
  (he:starEach (e::es) X.env=(false,eval e X.env)::starEach es X.env:=by rfl) (hpl:(backTo pos (starEach es X.env)).any (·.1)=false:=by rfl):ME X (.Call (.Name x p) (e::es) [] pos) (aw F m):=me_call g hj C ha he hpl
def kCb{id:String}(g:Good X N W G k)(j:Nat)(hc:dr X (.builtin id) f)(hm:X.mg x=none)(hv:bootBuiltins x=some (.builtin id))(ha:MA X (e::es) m)(hj:G[j]?=some x:=by rfl)
  (he:starEach (e::es) X.env=(false,eval e X.env)::starEach es X.env:=by rfl) (hpl:(backTo pos (starEach es X.env)).any (·.1)=false:=by rfl):ME X (.Call (.Name x p) (e::es) [] pos) (mCB f m):=yK g j hj hc hm hv ha he hpl
def kCt{T:String}(g:Good X N W G k)(j:Nat)(hc:dr X (.type T) f)(hm:X.mg x=none)(hv:bootBuiltins x=some (.type T))(ha:MA X (e::es) m)(hj:G[j]?=some x:=by rfl)
  (he:starEach (e::es) X.env=(false,eval e X.env)::starEach es X.env:=by rfl) (hpl:(backTo pos (starEach es X.env)).any (·.1)=false:=by rfl):ME X (.Call (.Name x p) (e::es) [] pos) (mCB f m):=xA g j hj hc hm hv ha he hpl
def kR1{tg a:Expr}(g:Good X N W G k)(j:Nat)(hm:X.mg "range"=none)(ha:MA X [a] m)(hj:G[j]?=some "range":=by rfl)(hs:starEach [a] X.env=[(false,eval a X.env)]:=by rfl):MI X tg (.Call (.Name "range" p) [a] [] pos) (d7 m):=yd (g.gl _ (az hj)) hm ha hs
section
variable {tg iter elt:Expr} {ifs:List Expr} {scope sc:Scope} {mi:Mx MIt} {gt:Mg} {mt:Mx Bool} {me:Mx PV}
def kCp(g:Good X N W G k)(hsc:X.env.scope=sc)(vars frees G':List Str)(fm:List Nat)(hi:MI X tg iter mi)(hY:∀Y:Cx,YE Y X->Good Y (vars++frees) vars G' k->MG Y tg gt/\MTs Y ifs mt/\ME Y elt me)
  (h1:scope.kind=.function:=by rfl) (h7:fm.map (fun i=>N[i]?)=frees.map some:=by rfl) (h:CPm scope sc vars frees:=by decide +kernel)
  (nd:(vars++frees).Nodup:=by decide +kernel) (hgl:∀x∈G',scope.names.lookup x=some .globalImplicit:=by decide +kernel) (dbg:∀x∈(vars++frees)++G',(x == ("__debug__":Str))=false/\(x == ("__classdict__":Str))=false/\x≠"__name__":=by decide +kernel)
  (hs:∀x,foldedSetIterable iter X.env x=pure x:=by exact fun _=>rfl):ME X (.ListComp elt [⟨tg,iter,ifs,0⟩] scope pos) (bI vars.length fm mi gt mt me) :=
 me_comp g (uY hsc h1 h7 h) nd hgl dbg hi (fun Y y1 y2 y3 y4 y5 _ g=>hY Y ⟨y1,y2,y3,y4,y5⟩ g) hs
def kSc{spos py:Pos}{y:Str}(g:Good X N W G k)(hsc:X.env.scope=sc)(i:Nat)(vars frees G':List Str)(fm:List Nat)(hi:MI X tg iter mi)(hY:∀Y:Cx,YE Y X->Good Y (vars++frees) vars G' k->MG Y tg gt/\MTs Y ifs mt/\ME Y elt me)
  (hsw:∀env:Env,env.scope=sc->swapsWith (.ListComp elt [⟨tg,iter,ifs,0⟩] scope pos) (some (.Name y py)) spos.line env=pure true:=by (intro env h;cases env;cases h;rfl))
  (hyi:N[i]?=some y:=by rfl) (hw:W[i]?=some y:=by rfl)
  (h1:scope.kind=.function:=by rfl) (h7:fm.map (fun i=>N[i]?)=frees.map some:=by rfl) (h:CPm scope sc vars frees:=by decide +kernel)
  (nd:(vars++frees).Nodup:=by decide +kernel) (hgl:∀x∈G',scope.names.lookup x=some .globalImplicit:=by decide +kernel) (dbg:∀x∈(vars++frees)++G',(x == ("__debug__":Str))=false/\(x == ("__classdict__":Str))=false/\x≠"__name__":=by decide +kernel)
  (hs:∀x,foldedSetIterable iter X.env x=pure x:=by exact fun _=>rfl):MS X (.Assign [.Name y py] (.ListComp elt [⟨tg,iter,ifs,0⟩] scope pos) spos) (aX i (bI vars.length fm mi gt mt me)) :=
 ms_setC g i hyi hw (hsw X.env hsc) (uY hsc h1 h7 h) nd hgl dbg hi (fun Y y1 y2 y3 y4 y5 _ g=>hY Y ⟨y1,y2,y3,y4,y5⟩ g) hs
end
end
abbrev lr:=@PyProof.Rows.Boot.«abs»
abbrev t7:=@PyProof.Rows.Boot.«min»
abbrev bt_max:=@PyProof.Rows.Boot.«max»
abbrev k9:=@PyProof.Rows.Boot.«int»
abbrev bt_str:=@PyProof.Rows.Boot.«str»
abbrev dP:=@PyProof.Rows.Boot.«len»
abbrev dg:=@PyProof.Rows.Boot.«list»
abbrev cg:=@PyProof.Rows.Boot.«tuple»
abbrev nS:=@PyProof.Rows.Boot.«all»
abbrev pZ:=@PyProof.Rows.Boot.«sorted»
abbrev pD:=@PyProof.Rows.Boot.«bool»
abbrev qQ:=@PyProof.Rows.Boot.«ValueError»
abbrev gu:=@PySem.F.slot_list_append
abbrev gw:=@PySem.F.type_list_append
end MM
namespace PU
open PySem MM
open L2 (ixN atI fP)
local instance (priority:=1) cdecN15 (p:Prop):Decidable p:=Classical.propDecidable p
noncomputable section
section
variable {ws:List Nat}
end
end
noncomputable section
end
noncomputable section
def cLS:OpN where
 k:=fun vs h1=>match vs with
  | [x]=>(match (hU h1 x).bind jN with
   | some ns=>if ns.length<=1000 then .ok (.int (many ns)) h1 else .bad
   | none=>.bad)
  | _=>.bad
 p:=fun as=>match as with
  | [.lst ds]=>(jD ds).bind fun ns=>if ns.length<=1000 then some (.int (many ns)) else none
  | _=>none
 fr:=true
 ok {q h L O as xs d} bd w e:=by
  match as,e with
  | [.lst ds],e =>
   obtain⟨x,rfl,wx⟩:=fx w;obtain⟨zs,e0,r⟩:=wx.lstOf;rw[qbb] at e;obtain⟨ns,e1,e2⟩:=e;by_cases z:ns.length<=1000
   ·rw[qae z] at e2;cases e2;simp only[e0,qbl,sV r e1,qy];rw[qae z];exact gvI
   ·rw[qao z] at e2;cases e2
def cLS_i{ns:List Int}(h:ns.length<=1000):cLS.p [.lst (ns.map .int)]=some (.int (many ns)):=by
 have e:∀ns:List Int,jD (ns.map .int)=some ns:=fun ns=>by
  induction ns with
  | nil=>rfl
  | cons i k ih=>rw[qaE,jD,ih];rfl
 show (jD (ns.map .int)).bind _=_;rw[e,qbl,qae h]
end
def many_nd{ns:List Int}:many ns=ns.length↔ns.Nodup:=by
 have key:∀j,j<=ns.length->(∀k,k∈PyProof.Rows.firstMet (fun i=>ns.getD i 0) j↔k∈ns.take j)/\((PyProof.Rows.firstMet (fun i=>ns.getD i 0) j).length=j↔(ns.take j).Nodup):=by
  intro j
  induction j with
  | zero=>intro _;simp[PyProof.Rows.firstMet_zero]
  | succ j ih =>
   intro hj;obtain⟨a,b⟩:=ih (by lia);have hj':j<ns.length:=by lia
   have et:ns.take (j+1)=ns.take j++[ns[j]]:=by rw[qbR];simp[hj']
   have eg:ns.getD j 0=ns[j]:=by simp[List.getD,hj']
   have ea:(PyProof.Rows.firstMet (fun i=>ns.getD i 0) j).any (· == ns.getD j 0)=decide (ns[j]∈ns.take j):=by
    rw[Bool.eq_iff_iff,qbT,decide_eq_true_iff,<-a,eg];exact⟨fun ⟨x,hx,e⟩=>by rw[<-eq_of_beq e];exact hx,fun h=>⟨_,h,by simp⟩⟩
   have hle:=PyProof.Rows.firstMet_length_le (fun i=>ns.getD i 0) j;rw[PyProof.Rows.firstMet_succ,et];constructor
   ·intro k
    have:=PyProof.Rows.step_any (PyProof.Rows.firstMet (fun i=>ns.getD i 0) j) (ns.getD j 0) k
    rw[Bool.eq_iff_iff,qbT,Bool.or_eq_true,qbT,decide_eq_true_iff,eg] at this;rw[qap,qaR,<-a];constructor
    ·intro h;rw[eg] at h;rcases this.mp ⟨k,h,by simp⟩ with ⟨x,hx,e⟩|e
     ·rw[<-eq_of_beq e];exact .inl hx
     ·exact .inr e
    ·intro h;obtain⟨x,hx,e⟩:=this.mpr (h.imp (fun h=>⟨k,h,by simp⟩) id);rw[eg,<-eq_of_beq e];exact hx
   ·rw[PyProof.Rows.step_length,ea,qcf];by_cases z:ns[j]∈ns.take j
    ·simp only[z,decide_true,if_true];exact⟨fun h=>by lia,fun h=>absurd rfl (h.2.2 _ z _ (by simp))⟩
    ·simp only[z,decide_false,qag,if_false];constructor
     ·intro h
      exact⟨b.mp (by lia),by simp,fun x hx y hy e=>z (by
       have:y=ns[j]:=by simpa using hy
       rw[<-this,<-e];exact hx)⟩
     ·intro h
      have:=b.mpr h.1
      lia
 have:=(key ns.length (qai _)).2
 rw[List.take_length] at this;exact this
end PU
namespace PU
open PySem MM
open L2 (ixN atI fP)
section
variable {ws:List Nat}
end
end PU
namespace PU
open PySem MM L2
end PU
namespace PU
open PySem MM L2
local instance (priority:=1) cdecN22 (p:Prop):Decidable p:=Classical.propDecidable p
noncomputable section
end
end PU
namespace PU
open PySem MM
local instance (priority:=1) cdecN23 (p:Prop):Decidable p:=Classical.propDecidable p
noncomputable section
def da:Op2 where
 m:=opAddT
 p:=fun a b=>match a,b with
  | .tup [],.tup y=>some (.tup y)
  | a,b=>aI.p a b
 fr:=true
 ok {q h L O a x b y d} bd wa wb e:=by
  by_cases z:(∃y',b=.tup y')/\a=.tup []
  ·obtain⟨⟨y',rfl⟩,rfl⟩:=z;cases e;obtain⟨xs,rfl,r⟩:=wa.tup;obtain⟨ys,rfl,r'⟩:=wb.tup
   have:xs=[]:=r
   subst this;exact gv0 ⟨_,rfl,r'⟩ fun _ _ e=>by cases e
  ·have e':aI.p a b=some d:=by
    revert e;split
    ·exact absurd ⟨⟨_,rfl⟩,rfl⟩ z
    ·exact id
   have:opAddT x y h=opAdd x y h:=by
    unfold opAddT;split
    ·exfalso
     cases a with
     | tup as =>
      obtain⟨xs,ex,r⟩:=wa.tup;cases ex
      have:=r.length
      cases as with
      | nil =>
       cases b with
       | tup bs=>exact z ⟨⟨_,rfl⟩,rfl⟩
       | _=>cases e'
      | cons _ _=>simp at this
     | int i=>have:=wa.int;cases this
     | lst l=>obtain⟨n,xs,ex,_⟩:=wa.lst;cases ex
     | _=>cases e'
    ·rfl
   show Gv q h O true (opAddT x y h) d;rw[this];exact aI.ok bd wa wb e'
def slT(d:D)(lo hi:Option Int):Option D:=match d with
 | .tup ds=>some (.tup (aO ds lo hi))
 | d=>slD d lo hi
def slT_ok(bd:Bd h O)(w:Vw q h L O a x)(e:slT a lo hi=some d):Gv q h O true (fSlT x lo hi h) d:=by
 cases a with
 | lst ds =>
  obtain⟨n,xs,rfl,g,r⟩:=id w.lst;exact sl_ok bd w e
 | tup ds =>
  cases e;obtain⟨xs,rfl,r⟩:=w.tup;exact gv0 ⟨_,rfl,pf lo hi r⟩ fun _ _ e=>by cases e
 | _=>cases e
section
variable {ws:List Nat}
def pH(a:Xe ws)(lo hi:Xo ws):Xe ws where
 m:=rm a.m lo.m hi.m
 p:=fun env s=>(a.p env s).bind fun x s=>(lo.p env s).bind fun l s=>(hi.p env s).bind fun u s=>.of (slT x l u) s
 fz:=true
 fr:=true
 ok {q h L B O σ env s} c:=by
  refine (a.ok c).bind fun x v h1 s1 k1 p1 ⟨w,_,_⟩=>?_;have c1:=c.kb k1 p1;refine (lo.ok c1).bind fun l l' h2 s2 k2 p2 e=>?_;subst e;have c2:=c1.kb k2 p2;refine (hi.ok c2).bind fun u u' h3 s3 k3 p3 e=>?_;subst e;have c3:=c2.kb k3 p3
  cases e:slT x l u with
  | none=>trivial
  | some d =>
   obtain⟨y,g,e1,r,r'⟩:=slT_ok c3.bd ((w.kb k2 c.pO c.pL).kb k3 c.pO c.pL) e;exact give (qax (qax k1.len k2.len) k3.len) p3 ⟨y,g,by rw[e1];rfl,r,r'⟩
def wX:(pH a lo hi).p env s=(a.p env s).bind fun x s=>(lo.p env s).bind fun l s=>(hi.p env s).bind fun u s=>.of (slT x l u) s:=rfl
end
end
def ff:D->Option Int
 | .tup (.int k::_)=>some k
 | _=>none
def rkD(d:D):Int:=(ff d).getD 0
section
variable {q:Nat} {h:MH} {O:List Nat}
def ux{d:D}{v:PV}(r:Rp q h O d v)(e:(ff d).isSome=true):tX v=ff d:=by
 cases d with
 | tup ds =>
  cases ds with
  | nil=>cases e
  | cons d0 ds =>
   cases d0 with
   | int k =>
    obtain⟨xs,rfl,x,t,rfl,a,b⟩:=r;rw[show x=.int k from a];rfl
   | _=>cases e
 | _=>cases e
def tS{d:D}{v:PV}(r:Rp q h O d v)(e:rkP v=rkD d):∀{ds:List D} {vs:List PV},Rps q h O ds vs->(∀(i:Nat) a b,ds[i]?=some a->vs[i]?=some b->rkP b=rkD a)->Rps q h O (bV rkD d ds) (bV rkP v vs)
 | [],vs,rs,_=>by
  rw[show vs=[] from rs];exact⟨v,[],rfl,r,rfl⟩
 | d'::ds,vs,rs,hk=>by
  obtain⟨x,t,rfl,a,b⟩:=rs;unfold bV;rw[e,hk 0 d' x rfl rfl];split
  ·exact⟨v,x::t,rfl,r,x,t,rfl,a,b⟩
  ·exact⟨x,_,rfl,a,tS r e b fun i a b h1 h2=>hk (i+1) a b (by simpa using h1) (by simpa using h2)⟩
def xN{ds:List D}{vs:List PV}(r:Rps q h O ds vs)(hk:∀d∈ds,(ff d).isSome=true):(∀v∈vs,(tX v).isSome=true)/\vs.map rkP=ds.map rkD:=by
 induction ds generalizing vs with
 | nil=>rw[show vs=[] from r];exact⟨(fun v h=>by cases h),rfl⟩
 | cons d ds ih =>
  obtain⟨x,t,rfl,a,b⟩:=r;obtain⟨i1,i2⟩:=ih b fun d hd=>hk d (qal _ hd);have e:=ux a (hk d qaC);refine⟨fun v hv=>?_,?_⟩
  ·rcases qaj.mp hv with rfl|hv
   ·rw[e];exact hk d qaC
   ·exact i1 v hv
  ·rw[qaE,qaE,i2];simp[rkP,rkD,e]
def yx{ds:List D}{vs:List PV}(r:Rps q h O ds vs)(hk:∀d∈ds,(ff d).isSome=true):Rps q h O (aN rkD ds) (aN rkP vs):=by
 induction ds generalizing vs with
 | nil=>rw[show vs=[] from r];exact rfl
 | cons d ds ih =>
  obtain⟨x,t,rfl,a,b⟩:=r;have hk':∀d∈ds,(ff d).isSome=true:=fun d hd=>hk d (qal _ hd);have r2:=ih b hk';show Rps q h O (bV rkD d (aN rkD ds)) (bV rkP x (aN rkP t));have e2:=(xN r2 fun z hz=>hk' z ((dw rkD ds).mem_iff.mp hz)).2;refine tS a (by simp[rkP,rkD,ux a (hk d qaC)]) r2 fun i a b h1 h2=>?_
  have:=congrArg (·[i]?) e2
  simpa [h1,h2] using this
end
def lD:OpN where
 k:=fun xs h=>(fSortR xs h).ne
 p:=fun as=>match as with
  | [d]=>d.items.bind fun ds=>if (∀d∈ds,(ff d).isSome=true)/\(ds.map rkD).Nodup/\ds.length<=66 then some (.lst (aN rkD ds)) else none
  | _=>none
 fr:=true
 ok {q h L O as xs d} bd w e:=by
  match as,e with
  | [d0],e =>
   obtain⟨x,rfl,wx⟩:=fx w;dsimp only at e;rw[qbb] at e;obtain⟨ds,e1,e2⟩:=e;by_cases z:(∀d∈ds,(ff d).isSome=true)/\(ds.map rkD).Nodup/\ds.length<=66
   ·rw[qae z] at e2;cases e2;obtain⟨ys,e0,r⟩:=wx.seqOf e1;obtain⟨k1,k2⟩:=xN r z.1
    have:fSortR [x] h=.ok (.loc h.length) (h++[.lst (aN rkP ys)]):=by
     simp only[fSortR,e0];rw[qae ⟨k1,k2▸z.2.1,by rw[r.length];exact z.2.2⟩]
    show Gv q h O true (fSortR [x] h).ne _;rw[this];have r':=yx r z.1;have g:(h++[MO.lst (aN rkP ys)])[h.length]?=some (.lst (aN rkP ys)):=by simp
    have m1:Rps q (h++[MO.lst (aN rkP ys)]) O (aN rkD ds) (aN rkP ys):=r'.mv ⟨fun n hn _=>qak hn,fun o ho=>.inl ho⟩;have m2:Rps q (h++[MO.lst (aN rkP ys)]) (h.length::O) (aN rkD ds) (aN rkP ys):=r'.mv ⟨fun n hn _=>qak hn,fun o ho=>(qaj.mp ho).elim (fun z=>.inr (Nat.le_of_eq z.symm)) .inl⟩;exact⟨_,_,rfl,⟨_,_,rfl,fun z=>by have:=bd _ z;lia,g,m1⟩,fun _ ds' e=>by cases e;exact⟨_,_,rfl,qai _,g,m2⟩⟩
   ·rw[qao z] at e2;cases e2
end PU
namespace TupM
open PySem PySem.Builtin
def nh:fillsNumberSlot (.type "tuple") "mul"=pure false:=fillsNumberSlot_seq (id:="tuple.__mul__") (r:=some (.builtin "tuple.__rmul__")) F.slot_tuple_mul.lookup (by decide +kernel) F.slot_tuple_rmul.lookup (by decide +kernel)
def rS:seqRepeat? (.type "tuple")=pure (some (.builtin "tuple.__mul__")):=by
 unfold seqRepeat?;rw[seqSlot_of (name:="__mul__") F.slot_tuple_mul.lookup (by decide +kernel),seqSlot_of (name:="__rmul__") F.slot_tuple_rmul.lookup (by decide +kernel)];rfl
def vS{a:Int}{t:Tok}{l:Addr}{items:Array Value}{n:Nat}{sl:Array (Option Value)}:Meets (Builtin.«int.__rmul__» ⟨[.int a t,.ref l],[]⟩) (fun _ R s=>s.heap.get? l=some { cls:=.type "tuple",dict:=none,data:=.seq items n,slots:=sl}/\R (.ok (.ret Value.notImplemented)) s) :=
 .of_wp fun prog w A R s h=>by
  obtain⟨hp,g,d,tk,os⟩:=s;obtain⟨hl,h⟩:=h
  wp_walk
  exact⟨_,rfl,h⟩
def xc{l:Addr}{its:List Value}{n:Nat}{k:Int}{t:Tok}{sl:Array (Option Value)}(h1:2<=k)(h2:k<2 ^ 63)(hne:its≠[])(hz:its.length * k.toNat<=sizeLine) :
  Meets (Builtin.«tuple.__mul__» ⟨[.ref l,.int k t],[]⟩) (fun _ R s=>s.heap.get? l=some { cls:=.type "tuple",dict:=none,data:=.seq its.toArray n,slots:=sl}/\R (.ok (.ret (.ref s.heap.objs.size))) { s with heap:=s.heap.push { cls:=.type "tuple",data:=.seq (List.replicate k.toNat its).flatten.toArray}}) :=
 .of_wp fun prog w A R s h=>by
  obtain⟨hp,g,d,tk,os⟩:=s;obtain⟨hl,h⟩:=h;have f1:=AutoSeq1.idx_int;have f2:=AutoSeq1.sub_tuple_tuple;have hne':its.isEmpty=false:=by cases its <;> simp at hne ⊢
  have e0:((its.toArray.size:Int) * k)=((its.length * k.toNat:Nat):Int):=by rw[Int.natCast_mul,Int.toNat_of_nonneg (by lia),qas]
  have sl0:(sizeLine:Nat)<(2 ^ 63 - 1) / 8:=by decide
  have ef:List.foldl (fun x1 x2=>x1++x2) #[] (List.replicate k.toNat its.toArray)=(List.replicate k.toNat its).flatten.toArray:=by
   have:=L2.kP its k.toNat []
   rw[List.nil_append] at this;exact this
  have el:(List.replicate k.toNat its).flatten.length<=sizeLine:=by rw[L2.lU,qcx];exact hz
  wp_walk using AutoSeq1.wpAny_loadPart' hl
  rw[qao (by simp;lia)]
  wp_walk using AutoSeq1.wpAny_loadPart' hl
  rw[qao (by simp[hne'];lia)]
  wp_walk using AutoSeq1.wpAny_loadPart' hl
  rw[qao (by simp[hne'];lia)];dsimp only;rw[qao (by rw[e0];lia),e0,qao (by simp[Tuple.tupleTooMany];lia),ef]
  wp_walk using AutoSeq1.wpAny_loadPart' hl
  rw[qao (by simpa using el)]
  wp_walk using AutoSeq1.wpAny_loadPart' hl
  exact⟨_,rfl,h⟩
end TupM
namespace L2
open PySem PySem.Spec PyProof.Rows TupM
section
variable {X:Cx}
def rRepT:R2:=fun x y H Q=>∃l k xs,x=.ref l/\y=.int k/\SqT X.K H l xs/\xs≠[]/\2<=k/\k<2 ^ 63/\xs.length * k.toNat<=sizeLine/\∀p,H p=none->Q (.ref p) (upd H p (.tup (List.replicate k.toNat xs).flatten))
def op_repT:OpR X (binaryOp .Mult) (rRepT (X:=X)):=by
 intro G6 s σ H x y v u Q I rx ry h;obtain⟨l,k,xs,rfl,rfl,hH,hne,h1,h2,hz,q⟩:=h;cases rx;obtain⟨t,rfl⟩:=ry;obtain⟨its,r,⟨o,e,hc,⟨n,hd⟩,hdi⟩,_⟩:=I.tupleN hH;obtain⟨oc,od,odt,osl⟩:=o;simp only at hc hd hdi;subst hc hd hdi;have hl:=r.length;have hne2:its≠[]:=by rintro rfl;exact hne (qbw.mp (by simpa using hl))
 have ty:s.TypeIs (.ref l) "tuple":=⟨_,e,rfl⟩;refine wpAny_binaryOp_repeat_ref (T:="tuple") (U:="int") (by decide) ty (fun s'=>typeIs_int s' k t) nh F.fills_int_mul F.slot_int_rmul rS F.slot_int_index.lookup
  (call_meets F.slot_int_rmul (typeIs_int s k t) F.entry_int_rmul (F.args_int_rmul_2 _ _) vS
   ⟨e,rfl,ty,call_meets F.slot_tuple_mul ty F.entry_tuple_mul (F.args_tuple_mul_2 _ _) (xc h1 h2 hne2 (by rw[<-hl];exact hz)) ⟨e,?_⟩⟩)
 have lz:(List.replicate k.toNat xs).flatten.length<=sizeLine:=by rw[lU,qcx];exact hz
 exact⟨.ref s.heap.objs.size,_,I.laid (o:=.tup (List.replicate k.toNat xs).flatten) (t':=s.toks) (fun b ob q=>qac _ q) (qai _) (show ObjOk X.prog X.w _ _ _ (.tup _) from⟨lz,_,r.rep k.toNat,gG.new _ _⟩),rfl,q _ (I.hok.fresh (qai _))⟩
end
end L2
namespace MM
open PySem PySem.Spec PyProof.Rows L2
local instance (priority:=1) cdec44 (p:Prop):Decidable p:=Classical.propDecidable p
def opMulT(x y:PV)(h:MH):Out PV:=match x,y with
 | .tup xs,.int k=>if xs≠[]/\2<=k/\k<=100/\xs.length<=1000 then .ok (.tup (List.replicate k.toNat xs).flatten) h else .bad
 | _,_=>.bad
section
variable {X:Cx} {K:qab} {ρ:List Addr} {H:Hp}
def oj_mulT:OpJ X (binaryOp .Mult) opMulT:=by
 intro G6 s σ H x' y' u v Q I rx' ry' ⟨ρ,h,x,y,rh,rx,ry,q⟩;unfold opMulT at q
 split at q
 ·rename_i xs k
  by_cases z:xs≠[]/\2<=k/\k<=100/\xs.length<=1000
  ·rw[qae z] at q
   cases rx with
   | @tup _ a ys s1 r1 =>
    cases ry;have hl:=r1.length;have hm:xs.length * k.toNat<=1000 * 100:=Nat.mul_le_mul z.2.2.2 (by have:=z.2.2.1;lia);refine op_repT G6 s σ H _ _ u v Q I rx' ry' ⟨a,k,ys,rfl,rfl,s1,?_,z.2.1,by have:=z.2.2.1;lia,by rw[<-hl,sizeLine_eq];lia,fun p hp=>?_⟩
    ·rintro rfl;exact z.1 (qbw.mp hl)
    ·obtain⟨r2,l2⟩:=rh.tup hp (List.replicate k.toNat ys).flatten;exact q _ _ _ l2 r2 (.tup (.inl (.inl bC)) ((r1.rep k.toNat).le l2))
  ·rw[qao z] at q;exact q.elim
 ·exact q.elim
end
end MM
namespace PU
open PySem MM
local instance (priority:=1) cdecN44 (p:Prop):Decidable p:=Classical.propDecidable p
def wB:Op2 where
 m:=opMulT
 p:=fun a b=>match a,b with
  | .tup xs,.int k=>if xs≠[]/\2<=k/\k<=100/\xs.length<=1000 then some (.tup (List.replicate k.toNat xs).flatten) else none
  | _,_=>none
 fr:=true
 ok {q h L O a x b y d} bd wa wb e:=by
  cases a with
  | tup ds =>
   cases b with
   | int k =>
    dsimp only at e;by_cases z:ds≠[]/\2<=k/\k<=100/\ds.length<=1000
    ·rw[qae z] at e;cases e;obtain⟨xs,rfl,r⟩:=wa.tup;rw[wb.int];have hl:=r.length;have z':xs≠[]/\2<=k/\k<=100/\xs.length<=1000:=⟨fun e=>z.1 (qbw.mp (by rw[<-hl,e];rfl)),z.2.1,z.2.2.1,by rw[hl];exact z.2.2.2⟩;show Gv q h O true (if xs≠[]/\2<=k/\k<=100/\xs.length<=1000 then .ok (.tup (List.replicate k.toNat xs).flatten) h else .bad) _;rw[qae z'];exact gv0 ⟨_,rfl,r.rep _⟩ fun _ _ e=>by cases e
    ·rw[qao z] at e;cases e
   | _=>cases e
  | _=>cases e
end PU
namespace Law
open PySem PySem.Spec PyProof.Rows L2 MM
set_option maxHeartbeats 4000000
noncomputable section
def m_is_whole:Mst:=(aP (cM (mUn (bM ["int"]) (af 0)) (oW (mUn (bM ["bool"]) (af 0)))))
def cy:List PV->MH->Out PV:=bj 1 1 m_is_whole
def m_is_pair:Mst:=(aP (cM (mUn (bM ["tuple"]) (af 0)) (ai opEq (mCB fLen (aa (af 0) mNil)) (mC (.int 2)))))
def fD:List PV->MH->Out PV:=bj 1 1 m_is_pair
def m_greatest_shared:Mst:=(aC (mWh (mB (ai opNe (af 1) (mC (.int 0)))) (aC (aX 2 (ai opMod (af 0) (af 1)))
 (aC (aX 0 (af 1))
 (aX 1 (af 2)))))
 (aP (af 0)))
def gM:List PV->MH->Out PV:=bj 3 2 m_greatest_shared
def m_is_number:Mst:=(aC (mIf (mOr (df (mB (aw fD (aa (af 0) mNil)))) (mOr (df (mB (aw cy (aa (ai aU (af 0) (mC (.int 0))) mNil)))) (df (mB (aw cy (aa (ai aU (af 0) (mC (.int 1))) mNil)))))) (aP (mC (.bl false))) mSkip)
 (aP (cM (ai opGe (ai aU (af 0) (mC (.int 1))) (mC (.int 1))) (ai opEq (aw gM (aa (mCB fAbs (aa (ai aU (af 0) (mC (.int 0))) mNil)) (aa (ai aU (af 0) (mC (.int 1))) mNil))) (mC (.int 1))))))
def mL:List PV->MH->Out PV:=bj 1 1 m_is_number
def m_is_count:Mst:=(aP (cM (aw cy (aa (af 0) mNil)) (jv opLe opLe (mC (.int 0)) (af 0) (mC (.int 12)))))
def d4:List PV->MH->Out PV:=bj 1 1 m_is_count
def m_is_place:Mst:=(aP (cM (aw cy (aa (af 1) mNil)) (jv opLe opLt (mC (.int 0)) (af 1) (af 0))))
def d3:List PV->MH->Out PV:=bj 2 2 m_is_place
def m_check_place:Mst:=(mIf (df (mB (aw d3 (aa (af 0) (aa (af 1) mNil))))) (gs "NoPlace" (aa (mC (.str "this is no place")) mNil)) mSkip)
def dy:List PV->MH->Out PV:=bj 2 2 m_check_place
def m_is_part:Mst:=(aP (cM (aw fD (aa (af 1) mNil)) (cM (aw d3 (aa (af 0) (aa (ai aU (af 1) (mC (.int 0))) mNil))) (cM (aw mL (aa (ai aU (af 1) (mC (.int 1))) mNil)) (ai opNe (ai aU (af 1) (mC (.int 1))) (mC (.tup [.int 0,.int 1])))))))
def qv:List PV->MH->Out PV:=bj 2 2 m_is_part
def m_are_parts:Mst:=(aC (mIf (df (mB (mCB fAll (aa (bI 1 [0] (ci (af 1)) (gNm 0) mTrue (aw qv (aa (af 1) (aa (af 0) mNil)))) mNil)))) (aP (mC (.bl false))) mSkip)
 (aP (ai opEq (mLS (aa (bI 1 [] (ci (af 1)) (gNm 0) mTrue (ai aU (af 0) (mC (.int 0)))) mNil)) (mCB fLen (aa (af 1) mNil)))))
def gm:List PV->MH->Out PV:=bj 2 2 m_are_parts
def m_is_row:Mst:=(aP (cM (mUn (bM ["tuple"]) (af 1)) (cM (aw gm (aa (af 0) (aa (af 1) mNil))) (ai opEq (mCB fList (aa (af 1) mNil)) (mCB fSortR (aa (af 1) mNil))))))
def rQ:List PV->MH->Out PV:=bj 2 2 m_is_row
def m_sheet_of:Mst:=(aC (mIf (df (mB (aw d4 (aa (af 0) mNil)))) (gs "NoSheet" (aa (mC (.str "a sheet has from 0 to 12 places")) mNil)) mSkip)
 (aC (mIf (mOr (df (mB (mUn (bM ["list","tuple"]) (af 1)))) (mB (ai opNe (mCB fLen (aa (af 1) mNil)) (af 0)))) (gs "NoSheet" (aa (mC (.str "rows are a list or a tuple of one for each place")) mNil)) mSkip)
 (aC (fU (ci (af 1)) (gNm 2) (mIf (mOr (df (mB (mUn (bM ["list","tuple"]) (af 2)))) (df (mB (aw gm (aa (af 0) (aa (af 2) mNil)))))) (gs "NoSheet" (aa (mC (.str "a row is a list or a tuple of tuples, each of a place and a number")) mNil)) mSkip))
 (aP (av (aa (af 0) (aa (mCB fTuple (aa (bI 1 [] (ci (af 1)) (gNm 0) mTrue (mCB fTuple (aa (mCB fSortR (aa (af 0) mNil)) mNil))) mNil)) mNil)))))))
def aY:List PV->MH->Out PV:=bj 3 2 m_sheet_of
def m_is_sheet:Mst:=(aC (mIf (mOr (df (mB (aw fD (aa (af 0) mNil)))) (mOr (df (mB (aw d4 (aa (ai aU (af 0) (mC (.int 0))) mNil)))) (df (mB (mUn (bM ["tuple"]) (ai aU (af 0) (mC (.int 1)))))))) (aP (mC (.bl false))) mSkip)
 (aP (cM (ai opEq (mCB fLen (aa (ai aU (af 0) (mC (.int 1))) mNil)) (ai aU (af 0) (mC (.int 0)))) (mCB fAll (aa (bI 1 [0] (ci (ai aU (af 0) (mC (.int 1)))) (gNm 0) mTrue (aw rQ (aa (ai aU (af 1) (mC (.int 0))) (aa (af 0) mNil)))) mNil)))))
def gS:List PV->MH->Out PV:=bj 1 1 m_is_sheet
def m_number_at:Mst:=(aC (cK (aw dy (aa (ai aU (af 0) (mC (.int 0))) (aa (af 1) mNil))))
 (aC (cK (aw dy (aa (ai aU (af 0) (mC (.int 0))) (aa (af 2) mNil))))
 (aP (mDg (ai aU (ai aU (af 0) (mC (.int 1))) (af 1)) (aa (af 2) (aa (mC (.tup [.int 0,.int 1])) mNil))))))
def dG:List PV->MH->Out PV:=bj 3 3 m_number_at
def m_l_pen:Mst:=(aC (aX 2 (ai opAdd (ai opMul (mC (.int 7919)) (af 1)) (mC (.int 11))))
 (aC (mIf (mB (ai opLt (af 1) (mCB fMin (aa (mCB fLen (aa (af 0) mNil)) (aa (mC (.int 63)) mNil))))) (aX 2 (ai aU (af 0) (af 1))) (mIf (mB (ai opGt (mCB fLen (aa (af 0) mNil)) (mC (.int 0)))) (aX 2 (ai opAdd (ai opMod (ai aU (af 0) (ai opMod (af 1) (mCB fMin (aa (mCB fLen (aa (af 0) mNil)) (aa (mC (.int 63)) mNil))))) (ai opPow (mC (.int 10)) (mC (.int 15)))) (ai opMul (mC (.int 48271)) (af 1)))) mSkip))
 (aC (mIf (mB (ai opGe (mCB fAbs (aa (af 2) mNil)) (ai opPow (mC (.int 10)) (mC (.int 18))))) (aP (aT (aa (mC (.int 1)) (aa (mCB fAbs (aa (af 2) mNil)) (aa (mC (.int 0)) mNil))))) mSkip)
 (aP (aT (aa (mC (.int 0)) (aa (ai opAdd (ai opMod (af 2) (mC (.int 2147483587))) (ai opMul (mC (.int 40009)) (af 1))) (aa (mC (.int 0)) mNil))))))))
def ig:List PV->MH->Out PV:=bj 3 2 m_l_pen
def m_l_draw:Mst:=(aC (o7 (ai opAdd (ai aU (af 0) (mC (.int 2))) (mC (.int 1))) (gSb (af 0) (mC (.int 2))))
 (aC (mIf (mB (ai opEq (ai aU (af 0) (mC (.int 0))) (mC (.int 1)))) (aC (aX 3 (ai opMod (ai aU (af 0) (mC (.int 1))) (af 1)))
 (aC (o7 (ai opFd (ai aU (af 0) (mC (.int 1))) (af 1)) (gSb (af 0) (mC (.int 1))))
 (aP (af 3)))) mSkip)
 (aC (aX 2 (ai opMod (ai opMul (ai opAdd (ai opAdd (ai aU (af 0) (mC (.int 1))) (ai opMul (mC (.int 40503)) (ai aU (af 0) (mC (.int 2))))) (mC (.int 1))) (mC (.int 48271))) (mC (.int 2147483647))))
 (aC (aX 2 (ai opMod (ai opMul (af 2) (ai opAdd (ai opAdd (ai opMod (af 2) (mC (.int 65521))) (ai aU (af 0) (mC (.int 2)))) (mC (.int 3)))) (mC (.int 2147483629))))
 (aP (ai opMod (ai opFd (ai opMod (ai opMul (af 2) (ai opAdd (ai opMod (af 2) (mC (.int 8191))) (mC (.int 7)))) (mC (.int 2147483563))) (mC (.int 64))) (af 1)))))))
def bh:List PV->MH->Out PV:=bj 4 2 m_l_draw
def m_l_lowest:Mst:=(aC (sk 2 3 (aa (mCB fAbs (aa (af 0) mNil)) (aa (mCB fAbs (aa (af 1) mNil)) mNil)))
 (aC (mWh (mB (ai opGt (af 3) (mC (.int 0)))) (sk 2 3 (aa (af 3) (aa (ai opMod (af 2) (af 3)) mNil))))
 (aC (mIf (mB (ai opLt (af 1) (mC (.int 0)))) (aX 2 (mUn opNeg (af 2))) mSkip)
 (aP (av (aa (ai opFd (af 0) (af 2)) (aa (ai opFd (af 1) (af 2)) mNil)))))))
def ky:List PV->MH->Out PV:=bj 4 2 m_l_lowest
def iq(F:List PV->MH->Out PV):Mst:=(aC (mIf (mB (ai (fw false) (af 1) (mC .non))) (aP (ai (fw false) (af 0) (mC .non))) mSkip)
 (aC (mIf (mB (mUn (bM ["list","tuple"]) (af 1))) (aC (mIf (mOr (df (mB (mUn (bM ["list","tuple"]) (af 0)))) (mB (ai opNe (mUn (bM ["list"]) (af 0)) (mUn (bM ["list"]) (af 1))))) (aP (mC (.bl false))) mSkip)
 (aP (cM (ai opEq (mCB fLen (aa (af 0) mNil)) (mCB fLen (aa (af 1) mNil))) (mCB fAll (aa (bI 2 [] (mItZ (aa (af 0) (aa (af 1) mNil))) (gTp (gCn (gNm 0) (gCn (gNm 1) gNl)) 2) mTrue (aw F (aa (af 0) (aa (af 1) mNil)))) mNil))))) mSkip)
 (aP (cM (mUn (bM ["int"]) (af 0)) (cM (oW (mUn (bM ["bool"]) (af 0))) (ai opEq (af 0) (af 1)))))))
def cV:Nat->List PV->MH->Out PV
 | 0=>bj 2 2 (fun _ _=>.bad)
 | n+1=>bj 2 2 (iq (cV n))
def fq:List PV->MH->Out PV:=cV 8
def m_l_number:Mst:=(aC (aX 1 (aw bh (aa (af 0) (aa (mC (.int 8)) mNil))))
 (aC (mIf (mB (ai opEq (af 1) (mC (.int 7)))) (aP (aw ky (aa (ai opAdd (ai opSub (aw bh (aa (af 0) (aa (ai opSub (ai opMul (mC (.int 2)) (ai opPow (mC (.int 10)) (mC (.int 6)))) (mC (.int 1))) mNil))) (ai opPow (mC (.int 10)) (mC (.int 6)))) (mC (.int 1))) (aa (ai opAdd (mC (.int 1)) (aw bh (aa (af 0) (aa (ai opSub (ai opPow (mC (.int 10)) (mC (.int 6))) (mC (.int 1))) mNil)))) mNil)))) mSkip)
 (aP (aw ky (aa (ai opSub (aw bh (aa (af 0) (aa (mC (.int 13)) mNil))) (mC (.int 6))) (aa (ai opAdd (mC (.int 1)) (aw bh (aa (af 0) (aa (ai aU (aT (aa (mC (.int 1)) (aa (mC (.int 1)) (aa (mC (.int 5)) mNil)))) (ai opMod (af 1) (mC (.int 3)))) mNil)))) mNil))))))
def oi:List PV->MH->Out PV:=bj 2 1 m_l_number
def m_l_rows:Mst:=(aC (aX 2 (ai opAdd (mC (.int 1)) (aw bh (aa (af 0) (aa (mC (.int 4)) mNil)))))
 (aC (aX 3 (aT mNil))
 (aC (fU (d7 (aa (af 1) mNil)) (gNm 4) (aC (aX 5 (bI 1 [0,2] (d7 (aa (af 1) mNil)) (gNm 0) (mB (ai opEq (aw bh (aa (af 1) (aa (af 2) mNil))) (mC (.int 0)))) (av (aa (af 0) (aa (aw oi (aa (af 1) mNil)) mNil)))))
 (cK (mMt d9 (af 3) (aa (mCB fTuple (aa (bI 2 [] (ci (af 5)) (gTp (gCn (gNm 0) (gCn (gNm 1) gNl)) 2) (mB (ai opNe (ai aU (af 1) (mC (.int 0))) (mC (.int 0)))) (av (aa (af 0) (aa (af 1) mNil)))) mNil)) mNil)))))
 (aP (mCB fTuple (aa (af 3) mNil))))))
def tf:List PV->MH->Out PV:=bj 6 2 m_l_rows
def m_l_word:Mst:=(aC (mIf (mOr (mB (ai (fw false) (af 0) (mC .non))) (df (mB (mUn (bn ["NoPlace","NoSheet"] ["NoPlace","NoSheet"]) (af 0))))) (aP (mC (.str ""))) mSkip)
 (aC (aX 1 (mUn (bn ["NoPlace","NoSheet"] ([]++([]++([]++([]++([]++([]++([]++([]++([]++[])))))))))) (af 0)))
 (aP (mSm iV (mC (.str "")) (aa (aT (aa (ai aU (aT (aa (mC (.str "")) (aa (mC (.str "sheet")) mNil))) (mCB fInt (aa (mUn (bn ["NoPlace","NoSheet"] ["NoSheet"]) (af 0)) mNil))) (aa (ai aU (aT (aa (mC (.str "")) (aa (mC (.str "place")) mNil))) (mCB fInt (aa (mUn (bn ["NoPlace","NoSheet"] ["NoPlace"]) (af 0)) mNil))) (aa (ai aU (aT (aa (mC (.str "")) (aa (mC (.str "other")) mNil))) (mCB fInt (aa (af 1) mNil))) mNil)))) mNil)))))
def dN:List PV->MH->Out PV:=bj 2 1 m_l_word
def m_l_made:Mst:=(aC (aX 2 (mC .non))
 (aC (kj ["NoPlace","NoSheet"] 2 3 (cK (aw aY (aa (af 0) (aa (af 1) mNil)))))
 (aP (aw dN (aa (af 2) mNil)))))
def cI:List PV->MH->Out PV:=bj 4 2 m_l_made
def m_l_asked:Mst:=(aC (aX 3 (mC .non))
 (aC (kj ["NoPlace","NoSheet"] 3 4 (cK (aw dG (aa (af 0) (aa (af 1) (aa (af 2) mNil))))))
 (aP (aw dN (aa (af 3) mNil)))))
def dl:List PV->MH->Out PV:=bj 5 3 m_l_asked
def m_l_bad_parts:Mst:=(aC (aX 3 (aT (aa (aT (aa (af 1) (aa (af 2) mNil))) (aa (av (aa (af 1) mNil)) (aa (av (aa (af 1) (aa (af 2) (aa (af 2) mNil)))) (aa (av mNil) (aa (mC .non) (aa (af 1) (aa (mC (.str "0")) (aa mDic (aa (av (aa (af 0) (aa (af 2) mNil))) (aa (av (aa (mUn opNeg (mC (.int 1))) (aa (af 2) mNil))) (aa (av (aa (mC (.bl true)) (aa (af 2) mNil))) mNil)))))))))))))
 (aC (aX 3 (ai opAdd (af 3) (aT (aa (av (aa (mC .non) (aa (af 2) mNil))) (aa (av (aa (mC (.str "0")) (aa (af 2) mNil))) (aa (av (aa (af 1) (aa (av (aa (mC (.int 0)) (aa (mC (.int 1)) mNil))) mNil))) (aa (av (aa (af 1) (aa (av (aa (mC (.int 2)) (aa (mC (.int 4)) mNil))) mNil))) (aa (av (aa (af 1) (aa (av (aa (mC (.int 1)) (aa (mC (.int 0)) mNil))) mNil))) (aa (av (aa (af 1) (aa (av (aa (mC (.int 1)) (aa (mUn opNeg (mC (.int 1))) mNil))) mNil))) (aa (av (aa (af 1) (aa (aT (aa (mC (.int 1)) (aa (mC (.int 2)) mNil))) mNil))) mNil))))))))))
 (aC (aX 3 (ai opAdd (af 3) (aT (aa (av (aa (aT (aa (af 1) mNil)) (aa (af 2) mNil))) (aa (av (aa mDic (aa (af 2) mNil))) (aa (av (aa (af 1) (aa (av (aa (mC (.int 2)) (aa (mC (.bl true)) mNil))) mNil))) (aa (av (aa (af 1) (aa mDic mNil))) (aa (mC (.str "01")) mNil))))))))
 (aP (ai opAdd (af 3) (aT (aa (av (aa (af 1) (aa (mC (.int 1)) mNil))) (aa (av (aa (af 1) (aa (av (aa (mC (.bl true)) (aa (mC (.int 1)) mNil))) mNil))) (aa (av (aa (af 1) (aa (av (aa (mC (.int 1)) (aa (mC (.int 2)) (aa (mC (.int 3)) mNil)))) mNil))) (aa (av (aa (af 1) (aa (av (aa (mC (.int 0)) (aa (mC (.int 5)) mNil))) mNil))) (aa (av (aa (af 1) (aa (mC .non) mNil))) (aa (av (aa (av (aa (af 1) (aa (af 2) mNil))) (aa (af 2) mNil))) mNil))))))))))))
def kH:List PV->MH->Out PV:=bj 4 3 m_l_bad_parts
def m_l_bad_rows:Mst:=(aC (aX 3 (aw bh (aa (af 0) (aa (af 1) mNil))))
 (aC (aX 4 (aw bh (aa (af 0) (aa (af 1) mNil))))
 (aC (aX 5 (bI 1 [4] (ci (ai aU (af 2) (af 3))) (gNm 0) (mB (ai opNe (ai aU (af 0) (mC (.int 0))) (af 1))) (af 0)))
 (aC (aX 6 (aw bh (aa (af 0) (aa (ai opAdd (mCB fLen (aa (af 5) mNil)) (mC (.int 1))) mNil))))
 (aC (aX 7 (bI 1 [2,3] (ci (av (aa (mC .non) (aa (mC (.int 3)) (aa (mC (.str "row")) (aa (mC (.str "")) (aa mDic mNil))))))) (gNm 0) mTrue (ai opAdd (ai opAdd (mSl (af 1) mNo (mPt (af 2))) (aT (aa (af 0) mNil))) (mSl (af 1) (mPt (ai opAdd (af 2) (mC (.int 1)))) mNo))))
 (aC (fU (ci (aw kH (aa (af 1) (aa (af 4) (aa (av (aa (mC (.int 1)) (aa (mC (.int 3)) mNil))) mNil))))) (gNm 8) (aC (aX 11 (ai opAdd (ai opAdd (mSl (af 5) mNo (mPt (af 6))) (aT (aa (af 8) mNil))) (mSl (af 5) (mPt (af 6)) mNo)))
 (cK (mMt d9 (af 7) (aa (ai opAdd (ai opAdd (mSl (af 2) mNo (mPt (af 3))) (aT (aa (af 11) mNil))) (mSl (af 2) (mPt (ai opAdd (af 3) (mC (.int 1)))) mNo)) mNil)))))
 (aC (aX 9 (ai opAdd (ai opAdd (ai opAdd (mSl (af 5) mNo (mPt (af 6))) (aT (aa (av (aa (af 4) (aa (av (aa (mC (.int 1)) (aa (mC (.int 3)) mNil))) mNil))) mNil))) (mSl (af 5) (mPt (af 6)) mNo)) (aT (aa (av (aa (af 4) (aa (av (aa (mC (.int 1)) (aa (mC (.int 3)) mNil))) mNil))) mNil))))
 (aC (cK (mMt d9 (af 7) (aa (ai opAdd (ai opAdd (mSl (af 2) mNo (mPt (af 3))) (aT (aa (af 9) mNil))) (mSl (af 2) (mPt (ai opAdd (af 3) (mC (.int 1)))) mNo)) mNil)))
 (aC (aX 10 (ai opAdd (ai opAdd (aT (aa (av (aa (af 4) (aa (av (aa (mC (.int 2)) (aa (mC (.int 1)) mNil))) mNil))) mNil)) (af 5)) (aT (aa (av (aa (af 4) (aa (av (aa (mC (.int 1)) (aa (mC (.int 3)) mNil))) mNil))) mNil))))
 (aC (cK (mMt d9 (af 7) (aa (ai opAdd (ai opAdd (mSl (af 2) mNo (mPt (af 3))) (aT (aa (af 10) mNil))) (mSl (af 2) (mPt (ai opAdd (af 3) (mC (.int 1)))) mNo)) mNil)))
 (aP (ai opAdd (af 7) (aT (aa (mSl (af 2) mNo (mPt (mUn opNeg (mC (.int 1))))) (aa (ai opAdd (af 2) (aT (aa (av mNil) mNil))) (aa (ai opAdd (af 2) (aT (aa (mC .non) mNil))) mNil))))))))))))))))
def lx:List PV->MH->Out PV:=bj 12 3 m_l_bad_rows
def m_l_tupled:Mst:=(aC (aX 1 (aT mNil))
 (aC (fU (ci (af 0)) (gNm 2) (aC (mIf (mB (mUn (bM ["list"]) (af 2))) (aX 2 (mCB fTuple (aa (af 2) mNil))) mSkip)
 (cK (mMt d9 (af 1) (aa (af 2) mNil)))))
 (aP (mCB fTuple (aa (af 1) mNil)))))
def nP:List PV->MH->Out PV:=bj 3 1 m_l_tupled
def m_l_no_sheets:Mst:=(aC (o7 (af 0) (gTp (gCn (gNm 5) (gCn (gNm 6) gNl)) 2))
 (aC (aX 2 (aw bh (aa (af 1) (aa (af 5) mNil))))
 (aC (aX 3 (av (aa (av (aa (ai opSub (af 5) (mC (.int 1))) (aa (av (aa (mC (.int 1)) (aa (mC (.int 2)) mNil))) mNil))) (aa (av (aa (mC (.int 0)) (aa (av (aa (mC (.int 1)) (aa (mC (.int 1)) mNil))) mNil))) mNil))))
 (aC (aX 4 (bI 1 [5,6,2] (ci (av (aa (mCB fList (aa (ai aU (af 6) (af 2)) mNil)) (aa (af 3) (aa mDic (aa (mC .non) (aa (mC (.int 0)) mNil))))))) (gNm 0) mTrue (av (aa (af 1) (aa (ai opAddT (ai opAddT (rm (af 2) mNo (mPt (af 3))) (av (aa (af 0) mNil))) (rm (af 2) (mPt (ai opAddT (af 3) (mC (.int 1)))) mNo)) mNil)))))
 (aC (aX 4 (ai opAddT (af 4) (aT (aa (av (aa (af 5) (aa (mCB fList (aa (af 6) mNil)) mNil))) (aa (aT (aa (af 5) (aa (af 6) mNil))) (aa (av (aa (af 5) (aa (af 6) (aa (av mNil) mNil)))) (aa (av (aa (af 5) mNil)) (aa (af 6) mNil))))))))
 (aC (aX 4 (ai opAddT (af 4) (aT (aa (af 5) (aa (mC (.str "sheet")) (aa mDic (aa (mC .non) (aa (mC (.bl true)) (aa (ai opPow (mC (.int 10)) (mC (.int 60))) (aa (av (aa (af 5) (aa (mC .non) mNil))) (aa (av (aa (mC .non) (aa (af 6) mNil))) mNil)))))))))))
 (aP (ai opAddT (af 4) (aT (aa (av (aa (mC (.bl true)) (aa (rm (af 6) mNo (mPt (mC (.int 1)))) mNil))) (aa (av (aa (ai opAddT (af 5) (mC (.int 1))) (aa (af 6) mNil))) (aa (av (aa (ai opSub (af 5) (mC (.int 1))) (aa (af 6) mNil))) (aa (av (aa (mUn opNeg (mC (.int 1))) (aa (av mNil) mNil))) (aa (av (aa (mC (.int 13)) (aa (ai opMulT (av (aa (av mNil) mNil)) (mC (.int 13))) mNil))) mNil))))))))))))))
def kM:List PV->MH->Out PV:=bj 7 2 m_l_no_sheets
def m_l_right:Mst:=(aC (aX 1 (ai opAdd (mC (.int 1)) (aw bh (aa (af 0) (aa (mC (.int 5)) mNil)))))
 (aC (aX 2 (aw tf (aa (af 0) (aa (af 1) mNil))))
 (aC (aX 3 (bI 1 [] (ci (af 2)) (gNm 0) mTrue (mCB fList (aa (af 0) mNil))))
 (aC (fU (ci (av (aa (ai opAdd (af 1) (mC (.int 1))) (aa (ai opSub (af 1) (mC (.int 1))) (aa (mUn opNeg (mC (.int 1))) (aa (mC (.int 13)) (aa (ai opPow (mC (.int 10)) (mC (.int 60))) (aa (ai opSub (mC (.int 0)) (ai opPow (mC (.int 10)) (mC (.int 60)))) (aa (mC (.bl true)) (aa (mC .non) (aa (mCB fStr (aa (af 1) mNil)) (aa (av (aa (af 1) mNil)) mNil)))))))))))) (gNm 4) (mIf (mAnd (mOr (mB (ai opNe (af 4) (af 1))) (mB (mUn (bM ["bool"]) (af 4)))) (mB (ai opNe (aw cI (aa (af 4) (aa (af 3) mNil))) (mC (.str "sheet"))))) (aP (mC (.bl false))) mSkip))
 (aC (fU (ci (av (aa (mC .non) (aa (af 1) (aa (mC (.str "rows")) (aa mDic (aa (av mNil) mNil))))))) (gNm 5) (mIf (mB (ai opNe (aw cI (aa (af 1) (aa (af 5) mNil))) (mC (.str "sheet")))) (aP (mC (.bl false))) mSkip))
 (aC (fU (ci (aw lx (aa (af 0) (aa (af 1) (aa (af 3) mNil))))) (gNm 6) (mIf (mOr (mB (ai opNe (aw cI (aa (af 1) (aa (af 6) mNil))) (mC (.str "sheet")))) (mB (ai (fw true) (aw gS (aa (av (aa (af 1) (aa (aw nP (aa (af 6) mNil)) mNil))) mNil)) (mC (.bl false))))) (aP (mC (.bl false))) mSkip))
 (aC (mIf (mB (ai opNe (bI 1 [] (ci (aw kM (aa (av (aa (af 1) (aa (af 2) mNil))) (aa (af 0) mNil)))) (gNm 0) (mB (ai (fw true) (aw gS (aa (af 0) mNil)) (mC (.bl false)))) (af 0)) (aT mNil))) (aP (mC (.bl false))) mSkip)
 (aC (fU (ci (av (aa (af 1) (aa (mUn opNeg (mC (.int 1))) (aa (mC (.bl true)) (aa (mC .non) (aa (mC (.str "0")) (aa (av (aa (mC (.int 0)) mNil)) (aa (ai opPow (mC (.int 10)) (mC (.int 60))) (aa (ai opSub (mC (.int 0)) (ai opPow (mC (.int 10)) (mC (.int 60)))) (aa (aT mNil) mNil))))))))))) (gNm 7) (mIf (mOr (mB (ai opNe (aw dl (aa (av (aa (af 1) (aa (af 2) mNil))) (aa (af 7) (aa (mC (.int 0)) mNil)))) (mC (.str "place")))) (mB (ai opNe (aw dl (aa (av (aa (af 1) (aa (af 2) mNil))) (aa (ai opSub (af 1) (mC (.int 1))) (aa (af 7) mNil)))) (mC (.str "place"))))) (aP (mC (.bl false))) mSkip))
 (aP (cM (aw fq (aa (aw aY (aa (af 1) (aa (af 3) mNil))) (aa (av (aa (af 1) (aa (af 2) mNil))) mNil))) (ai (fw false) (aw gS (aa (av (aa (af 1) (aa (af 2) mNil))) mNil)) (mC (.bl true)))))))))))))
def fE:List PV->MH->Out PV:=bj 8 1 m_l_right
def m_law:Mst:=(aC (fU (ci (av (aa (mC .non) (aa (mC (.int 0)) (aa (mC (.str "")) (aa mDic (aa (aT (aa (av mNil) mNil)) (aa (av (aa (av mNil) mNil)) mNil)))))))) (gNm 1) (mIf (mB (ai opNe (aw cI (aa (mC (.int 0)) (aa (af 1) mNil))) (mC (.str "sheet")))) (aP (mC (.bl false))) mSkip))
 (aC (mIf (mOr (mB (ai opNe (aw dl (aa (av (aa (mC (.int 0)) (aa (av mNil) mNil))) (aa (mC (.int 0)) (aa (mC (.int 0)) mNil)))) (mC (.str "place")))) (df (mB (aw fq (aa (aw aY (aa (mC (.int 0)) (aa (aT mNil) mNil))) (aa (av (aa (mC (.int 0)) (aa (av mNil) mNil))) mNil)))))) (aP (mC (.bl false))) mSkip)
 (aC (fU (ci (av (aa (mC (.int 13)) (aa (mC (.int 14)) mNil)))) (gNm 2) (mIf (mB (ai opNe (aw cI (aa (af 2) (aa (bI 1 [] (d7 (aa (af 2) mNil)) (gNm 0) mTrue (aT mNil)) mNil))) (mC (.str "sheet")))) (aP (mC (.bl false))) mSkip))
 (aP (mCB fAll (aa (bI 1 [0] (d7 (aa (mCB fMax (aa (mC (.int 1)) (aa (mCB fMin (aa (mCB fLen (aa (af 0) mNil)) (aa (mC (.int 12)) mNil))) mNil))) mNil)) (gNm 0) mTrue (aw fE (aa (aw ig (aa (af 1) (aa (af 0) mNil))) mNil))) mNil))))))
def f_law:List PV->MH->Out PV:=bj 3 1 m_law
end
end Law
namespace Law
open PySem MM PU
open L2 (ixN atI fP)
set_option maxHeartbeats 4000000
noncomputable section
def jZ:Xd []:=(bi (cX (xUn (b8 ["int"]) (ad 0)) (wP (xUn (b8 ["bool"]) (ad 0)))))
def eJ:Fn:=cr 1 1 jZ
def uw{ds:List D}{s:Pen}(h:ds.length=1):eJ.p ds s=(jZ.p (dSt 1 ds) s).fin:=bv h
def kQ:Xd []:=(bi (cX (xUn (b8 ["tuple"]) (ad 0)) (ak oEq (xCb fI (ac (ad 0) xNil)) (xC (.int 2)))))
def fF:Fn:=cr 1 1 kQ
def vP{ds:List D}{s:Pen}(h:ds.length=1):fF.p ds s=(kQ.p (dSt 1 ds) s).fin:=bv h
def eS:Xd []:=(aG (xWh 400 (xB (ak oNe (ad 1) (xC (.int 0)))) (aG (bx 2 (ak k6 (ad 0) (ad 1)))
 (aG (bx 0 (ad 1))
 (bx 1 (ad 2)))) om)
 (bi (ad 0)))
def eR:Fn:=cr 3 2 eS
def lH{ds:List D}{s:Pen}(h:ds.length=2):eR.p ds s=(eS.p (dSt 3 ds) s).fin:=bv h
def jg:Xd []:=(aG (xIf (xOr (cD (xB (ar fF (ac (ad 0) xNil)))) (xOr (cD (xB (ar eJ (ac (ak oIx (ad 0) (xC (.int 0))) xNil)))) (cD (xB (ar eJ (ac (ak oIx (ad 0) (xC (.int 1))) xNil)))))) (bi (xC (.bl false))) xSkip)
 (bi (cX (ak oGe (ak oIx (ad 0) (xC (.int 1))) (xC (.int 1))) (ak oEq (ar eR (ac (xCb cAbs (ac (ak oIx (ad 0) (xC (.int 0))) xNil)) (ac (ak oIx (ad 0) (xC (.int 1))) xNil))) (xC (.int 1))))))
def jh:Fn:=cr 1 1 jg
def sU{ds:List D}{s:Pen}(h:ds.length=1):jh.p ds s=(jg.p (dSt 1 ds) s).fin:=bv h
def j4:Xd []:=(bi (cX (ar eJ (ac (ad 0) xNil)) (sW oLe oLe (xC (.int 0)) (ad 0) (xC (.int 12)))))
def eK:Fn:=cr 1 1 j4
def uv{ds:List D}{s:Pen}(h:ds.length=1):eK.p ds s=(j4.p (dSt 1 ds) s).fin:=bv h
def jK:Xd []:=(bi (cX (ar eJ (ac (ad 1) xNil)) (sW oLe oLt (xC (.int 0)) (ad 1) (ad 0))))
def gU:Fn:=cr 2 2 jK
def ug{ds:List D}{s:Pen}(h:ds.length=2):gU.p ds s=(jK.p (dSt 2 ds) s).fin:=bv h
def fe:Xd []:=(xIf (cD (xB (ar gU (ac (ad 0) (ac (ad 1) xNil))))) (jw "NoPlace" (ac (xC (.str "this is no place")) xNil)) xSkip)
def dA:Fn:=cr 2 2 fe
def jz{ds:List D}{s:Pen}(h:ds.length=2):dA.p ds s=(fe.p (dSt 2 ds) s).fin:=bv h
def lv:Xd []:=(bi (cX (ar fF (ac (ad 1) xNil)) (cX (ar gU (ac (ad 0) (ac (ak oIx (ad 1) (xC (.int 0))) xNil))) (cX (ar jh (ac (ak oIx (ad 1) (xC (.int 1))) xNil)) (ak oNe (ak oIx (ad 1) (xC (.int 1))) (xCT 0 1))))))
def iP:Fn:=cr 2 2 lv
def wn{ds:List D}{s:Pen}(h:ds.length=2):iP.p ds s=(lv.p (dSt 2 ds) s).fin:=bv h
def jd:Xd []:=(aG (xIf (cD (xB (xCb sR (ac (bU 1 [0] (bL (ad 1)) (ws':=[]) (xNm 0) xTrue (ar iP (ac (ad 1) (ac (ad 0) xNil)))) xNil)))) (bi (xC (.bl false))) xSkip)
 (bi (ak oEq (xCb cLS (ac (bU 1 [] (bL (ad 1)) (ws':=[]) (xNm 0) xTrue (ak oIx (ad 0) (xC (.int 0)))) xNil)) (xCb fI (ac (ad 1) xNil)))))
def eX:Fn:=cr 2 2 jd
def tP{ds:List D}{s:Pen}(h:ds.length=2):eX.p ds s=(jd.p (dSt 2 ds) s).fin:=bv h
def nq:Xd []:=(bi (cX (xUn (b8 ["tuple"]) (ad 1)) (cX (ar eX (ac (ad 0) (ac (ad 1) xNil))) (ak oEq (xCb f9 (ac (ad 1) xNil)) (xCb lD (ac (ad 1) xNil))))))
def jJ:Fn:=cr 2 2 nq
def xY{ds:List D}{s:Pen}(h:ds.length=2):jJ.p ds s=(nq.p (dSt 2 ds) s).fin:=bv h
def eM:Xd []:=(aG (xIf (cD (xB (ar eK (ac (ad 0) xNil)))) (jw "NoSheet" (ac (xC (.str "a sheet has from 0 to 12 places")) xNil)) xSkip)
 (aG (xIf (xOr (cD (xB (xUn (b8 ["list","tuple"]) (ad 1)))) (xB (ak oNe (xCb fI (ac (ad 1) xNil)) (ad 0)))) (jw "NoSheet" (ac (xC (.str "rows are a list or a tuple of one for each place")) xNil)) xSkip)
 (aG (jP (bL (ad 1)) (xNm 2) (xIf (xOr (cD (xB (xUn (b8 ["list","tuple"]) (ad 2)))) (cD (xB (ar eX (ac (ad 0) (ac (ad 2) xNil)))))) (jw "NoSheet" (ac (xC (.str "a row is a list or a tuple of tuples, each of a place and a number")) xNil)) xSkip))
 (bi (au (ac (ad 0) (ac (xCb cS (ac (bU 1 [] (bL (ad 1)) (ws':=[]) (xNm 0) xTrue (xCb cS (ac (xCb lD (ac (ad 0) xNil)) xNil))) xNil)) xNil)))))))
def bq:Fn:=cr 3 2 eM
def gr{ds:List D}{s:Pen}(h:ds.length=2):bq.p ds s=(eM.p (dSt 3 ds) s).fin:=bv h
def jV:Xd []:=(aG (xIf (xOr (cD (xB (ar fF (ac (ad 0) xNil)))) (xOr (cD (xB (ar eK (ac (ak oIx (ad 0) (xC (.int 0))) xNil)))) (cD (xB (xUn (b8 ["tuple"]) (ak oIx (ad 0) (xC (.int 1)))))))) (bi (xC (.bl false))) xSkip)
 (bi (cX (ak oEq (xCb fI (ac (ak oIx (ad 0) (xC (.int 1))) xNil)) (ak oIx (ad 0) (xC (.int 0)))) (xCb sR (ac (bU 1 [0] (bL (ak oIx (ad 0) (xC (.int 1)))) (ws':=[]) (xNm 0) xTrue (ar jJ (ac (ak oIx (ad 1) (xC (.int 0))) (ac (ad 0) xNil)))) xNil)))))
def ck:Fn:=cr 1 1 jV
def ud{ds:List D}{s:Pen}(h:ds.length=1):ck.p ds s=(jV.p (dSt 1 ds) s).fin:=bv h
def jf:Xd []:=(aG (fG (ar dA (ac (ak oIx (ad 0) (xC (.int 0))) (ac (ad 1) xNil))))
 (aG (fG (ar dA (ac (ak oIx (ad 0) (xC (.int 0))) (ac (ad 2) xNil))))
 (bi (xDg (ak oIx (ak oIx (ad 0) (xC (.int 1))) (ad 1)) (ac (ad 2) (ac (xCT 0 1) xNil))))))
def cT:Fn:=cr 3 3 jf
def tL{ds:List D}{s:Pen}(h:ds.length=3):cT.p ds s=(jf.p (dSt 3 ds) s).fin:=bv h
def o8{h:MH}{p:Nat}{o:MO}(hp:p<h.length):(h.set p o)[p]?=some o:=qat hp
def ix2:ixN 3 2=some 2:=uR (n:=3) (m:=2) (by decide)
def ix1:ixN 3 1=some 1:=uR (n:=3) (m:=1) (by decide)
def jx(s:Pen)(size:Int)(hs:0<size)(hl:size.natAbs.log2<9000):∃x:Int × Int,(0<=x.1/\x.1<size)/\∀(h:MH) (p:Nat),cL h p s->bh [.loc p,.int size] h=.ok (.int x.1) (h.set p (.lst [.int s.1,.int x.2,.int (s.2.2+1)])):=by
 obtain⟨m,c,t⟩:=s;have hs0:size≠0:=by ext
 have st:∀n:Int,0<=n.fmod size/\n.fmod size<size:=fun n=>by
  rw[qbf n (by ext)];exact⟨qbM n hs0,qby n hs⟩
 by_cases hm:m=1
 ·subst hm;refine⟨(c.fmod size,c.fdiv size),st c,fun h p e=>?_⟩;have e:h[p]?=some (.lst [.int 1,.int c,.int t]):=e;have hp:p<h.length:=(qaf.mp e).1;have e2:(h.set p (.lst [.int 1,.int c,.int (t+1)]))[p]?=some (.lst [.int 1,.int c,.int (t+1)]):=o8 hp;unfold bh;refine (bF (by rfl)).trans ?_;unfold m_l_draw;simp[be,List.replicate,iE e,nt e,ix2,iE e2,fS hs0,uH hs0 hl,nt e2,ix1]
 ·have big:∀n k:Int,0<k->0<=n.fmod k/\n.fmod k<k:=fun n k hk=>by
   rw[qbf n (by ext)];exact⟨qbM n (by ext),qby n hk⟩
  generalize ea:((c+40503 * (t+1)+1) * 48271).fmod 2147483647=A;have b1:=big ((c+40503 * (t+1)+1) * 48271) 2147483647 (by decide);rw[ea] at b1;generalize eb:(A * (A.fmod 65521+(t+1)+3)).fmod 2147483629=C;have b2:=big (A * (A.fmod 65521+(t+1)+3)) 2147483629 (by decide);rw[eb] at b2;refine⟨((((C * (C.fmod 8191+7)).fmod 2147483563).fdiv 64).fmod size,c),st _,fun h p e=>?_⟩;have e:h[p]?=some (.lst [.int m,.int c,.int t]):=e;have hp:p<h.length:=(qaf.mp e).1;have e2:(h.set p (.lst [.int m,.int c,.int (t+1)]))[p]?=some (.lst [.int m,.int c,.int (t+1)]):=o8 hp;have c1:-(2 ^ 64)<A/\A<2 ^ 64:=by ext
  have c2:-(2 ^ 64)<C/\C<2 ^ 64:=by ext
  have k1:∀{i:Int} {h:MH},opMul (.int 40503) (.int i) h=.ok (.int (40503 * i)) h:=ie (by decide);have k2:∀{i:Int} {h:MH},opMul (.int i) (.int 48271) h=.ok (.int (i * 48271)) h:=opMul_r (by decide);unfold bh;refine (bF (by rfl)).trans ?_;unfold m_l_draw;simp[be,List.replicate,iE e,nt e,ix2,iE e2,hm,k1,k2,fS,ea,ie c1,eb,ie c2,uH (show (64:Int)≠0 by decide) (show (64:Int).natAbs.log2<9000 by decide +kernel),fS hs0]
open Classical in
def l0(s:Pen)(size:Int):Int × Int:=if z:0<size/\size.natAbs.log2<9000 then (jx s size z.1 z.2).choose else (0,0)
def nI(ds:List D):Option Int:=match ds with
 | [.pen,.int i]=>some i
 | _=>none
def vK{ds:List D}{i:Int}(e:nI ds=some i):ds=[.pen,.int i]:=by
 unfold nI at e
 split at e
 ·cases e;rfl
 ·cases e
open Classical in
def bA:Fn where
 m:=bh
 p:=fun ds s=>match nI ds with
  | some size=>if 0<size/\size.natAbs.log2<9000 then .ok (.int (l0 s size).1) (s.1,(l0 s size).2,s.2.2+1) else .bad
  | none=>.bad
 fr:=true
 ok {q h O vs ds s} bd hq pn r:=by
  cases e:nI ds with
  | none=>trivial
  | some size =>
   have:=vK e
   subst this;dsimp only;by_cases z:0<size/\size.natAbs.log2<9000
   ·rw[qae z];obtain⟨x,t,rfl,hx,y,t',rfl,hy,ht⟩:=r;rw[show x=PV.loc q from hx,show y=PV.int size from hy,show t'=[] from ht];have k:=(jx s size z.1 z.2).choose_spec.2 h q pn;have ed:l0 s size=(jx s size z.1 z.2).choose:=by unfold l0;rw[dif_pos z]
    rw[<-ed] at k;refine⟨_,_,k,⟨by simp,fun n hn hp=>qah (Ne.symm hp)⟩,o8 (bw pn),rfl,fun _ ds e=>by cases e⟩
   ·rw[qao z];trivial
open Classical in
theorem dB{s:Pen}{size:Int}(hs:0<size)(hl:size<=2000000000):∃d s',0<=d/\d<size/\bA.p [.pen,.int size] s=.ok (.int d) s':=by
 have hlog:size.natAbs.log2<9000:=by
  have h1:size.natAbs<=2000000000:=by ext
  have h2:size.natAbs.log2<31:=(Nat.log2_lt (by ext)).mpr (by ext);ext
 have z:0<size/\size.natAbs.log2<9000:=⟨hs,hlog⟩;have ed:l0 s size=(jx s size z.1 z.2).choose:=by unfold l0;rw[dif_pos z]
 have k:=(jx s size z.1 z.2).choose_spec.1;rw[<-ed] at k;exact⟨_,_,k.1,k.2,by show (if 0<size/\size.natAbs.log2<9000 then _ else _)=_;rw[qae z]⟩
def ki:Xd []:=(aG (xPar 2 3 (ac (xCb cAbs (ac (ad 0) xNil)) (ac (xCb cAbs (ac (ad 1) xNil)) xNil)))
 (aG (xWh 400 (xB (ak oGt (ad 3) (xC (.int 0)))) (xPar 2 3 (ac (ad 3) (ac (ak k6 (ad 2) (ad 3)) xNil))) om)
 (aG (xIf (xB (ak oLt (ad 1) (xC (.int 0)))) (bx 2 (xUn fQ (ad 2))) xSkip)
 (bi (au (ac (ak oFd (ad 0) (ad 2)) (ac (ak oFd (ad 1) (ad 2)) xNil)))))))
def g8:Fn:=cr 4 2 ki
def ut{ds:List D}{s:Pen}(h:ds.length=2):g8.p ds s=(ki.p (dSt 4 ds) s).fin:=bv h
def jY(F:Fn):Xd []:=(aG (xIf (xB (ak (oIs false) (ad 1) (xC .non))) (bi (ak (oIs false) (ad 0) (xC .non))) xSkip)
 (aG (xIf (xB (xUn (b8 ["list","tuple"]) (ad 1))) (aG (xIf (xOr (cD (xB (xUn (b8 ["list","tuple"]) (ad 0)))) (xB (ak oNe (xUn (b8 ["list"]) (ad 0)) (xUn (b8 ["list"]) (ad 1))))) (bi (xC (.bl false))) xSkip)
 (bi (cX (ak oEq (xCb fI (ac (ad 0) xNil)) (xCb fI (ac (ad 1) xNil))) (xCb sR (ac (bU 2 [] (ni iZ (ac (ad 0) (ac (ad 1) xNil))) (ws':=[]) (xGp (xGc (xNm 0) (xGc (xNm 1) xGl)) 2) xTrue (ar F (ac (ad 0) (ac (ad 1) xNil)))) xNil))))) xSkip)
 (bi (cX (xUn (b8 ["int"]) (ad 0)) (cX (wP (xUn (b8 ["bool"]) (ad 0))) (ak oEq (ad 0) (ad 1)))))))
def fT:Nat->Fn
 | 0=>xNone (bj 2 2 fun _ _=>.bad)
 | n+1=>cr 2 2 (jY (fT n))
def pW{n:Nat}{ds:List D}{s:Pen}(h:ds.length=2):(fT (n+1)).p ds s=((jY (fT n)).p (dSt 2 ds) s).fin:=bv h
def sJ:Fn:=fT 8
def gX:Xd []:=(aG (bx 1 (ar bA (ac (ad 0) (ac (xC (.int 8)) xNil))))
 (aG (xIf (xB (ak oEq (ad 1) (xC (.int 7)))) (bi (ar g8 (ac (ak aI (ak fu (ar bA (ac (ad 0) (ac (ak fu (ak oMul (xC (.int 2)) (ak fo (xC (.int 10)) (xC (.int 6)))) (xC (.int 1))) xNil))) (ak fo (xC (.int 10)) (xC (.int 6)))) (xC (.int 1))) (ac (ak aI (xC (.int 1)) (ar bA (ac (ad 0) (ac (ak fu (ak fo (xC (.int 10)) (xC (.int 6))) (xC (.int 1))) xNil)))) xNil)))) xSkip)
 (bi (ar g8 (ac (ak fu (ar bA (ac (ad 0) (ac (xC (.int 13)) xNil))) (xC (.int 6))) (ac (ak aI (xC (.int 1)) (ar bA (ac (ad 0) (ac (ak oIx (bt (ac (xC (.int 1)) (ac (xC (.int 1)) (ac (xC (.int 5)) xNil)))) (ak k6 (ad 1) (xC (.int 3)))) xNil)))) xNil))))))
def dq:Fn:=cr 2 1 gX
def mM{ds:List D}{s:Pen}(h:ds.length=1):dq.p ds s=(gX.p (dSt 2 ds) s).fin:=bv h
def nr:Xd [3]:=(aG (bx 2 (ak aI (xC (.int 1)) (ar bA (ac (ad 0) (ac (xC (.int 4)) xNil)))))
 (aG (qZ 3 (bt xNil))
 (aG (jP (ni iR1 (ac (ad 1) xNil)) (xNm 4) (aG (bx 5 (bU 1 [0,2] (ni iR1 (ac (ad 1) xNil)) (ws':=[]) (xNm 0) (xB (ak oEq (ar bA (ac (ad 1) (ac (ad 2) xNil))) (xC (.int 0)))) (au (ac (ad 0) (ac (ar dq (ac (ad 1) xNil)) xNil)))))
 (xMt d6 3 (ac (xCb cS (ac (bU 2 [] (bL (ad 5)) (ws':=[]) (xGp (xGc (xNm 0) (xGc (xNm 1) xGl)) 2) (xB (ak oNe (ak oIx (ad 1) (xC (.int 0))) (xC (.int 0)))) (au (ac (ad 0) (ac (ad 1) xNil)))) xNil)) xNil))))
 (bi (xCb cS (ac (ad 3) xNil))))))
def mY:Fn:=cr 6 2 nr
def xE{ds:List D}{s:Pen}(h:ds.length=2):mY.p ds s=(nr.p (dSt 6 ds) s).fin:=bv h
def kA:Xd []:=(aG (xIf (xOr (xB (ak (oIs false) (ad 0) (xC .non))) (cD (xB (xUn (qY ["NoPlace","NoSheet"] ["NoPlace","NoSheet"]) (ad 0))))) (bi (xC (.str ""))) xSkip)
 (aG (bx 1 (xUn (qY ["NoPlace","NoSheet"] ([]++([]++([]++([]++([]++([]++([]++([]++([]++[])))))))))) (ad 0)))
 (bi (xSm sJoin (xC (.str "")) (ac (bt (ac (ak oIx (bt (ac (xC (.str "")) (ac (xC (.str "sheet")) xNil))) (xCb t8 (ac (xUn (qY ["NoPlace","NoSheet"] ["NoSheet"]) (ad 0)) xNil))) (ac (ak oIx (bt (ac (xC (.str "")) (ac (xC (.str "place")) xNil))) (xCb t8 (ac (xUn (qY ["NoPlace","NoSheet"] ["NoPlace"]) (ad 0)) xNil))) (ac (ak oIx (bt (ac (xC (.str "")) (ac (xC (.str "other")) xNil))) (xCb t8 (ac (ad 1) xNil))) xNil)))) xNil)))))
def iM:Fn:=cr 2 1 kA
def qz{ds:List D}{s:Pen}(h:ds.length=1):iM.p ds s=(kA.p (dSt 2 ds) s).fin:=bv h
def m6:Xd []:=(aG (bx 2 (xC .non))
 (aG (xTry ["NoPlace","NoSheet"] 2 3 (fG (ar bq (ac (ad 0) (ac (ad 1) xNil)))))
 (bi (ar iM (ac (ad 2) xNil)))))
def bP:Fn:=cr 4 2 m6
def xq{ds:List D}{s:Pen}(h:ds.length=2):bP.p ds s=(m6.p (dSt 4 ds) s).fin:=bv h
def lb:Xd []:=(aG (bx 3 (xC .non))
 (aG (xTry ["NoPlace","NoSheet"] 3 4 (fG (ar cT (ac (ad 0) (ac (ad 1) (ac (ad 2) xNil))))))
 (bi (ar iM (ac (ad 3) xNil)))))
def dm:Fn:=cr 5 3 lb
def v9{ds:List D}{s:Pen}(h:ds.length=3):dm.p ds s=(lb.p (dSt 5 ds) s).fin:=bv h
def gI:Xd []:=(aG (bx 3 (bt (ac (bt (ac (ad 1) (ac (ad 2) xNil))) (ac (au (ac (ad 1) xNil)) (ac (au (ac (ad 1) (ac (ad 2) (ac (ad 2) xNil)))) (ac (au xNil) (ac (xC .non) (ac (ad 1) (ac (xC (.str "0")) (ac xDic (ac (au (ac (ad 0) (ac (ad 2) xNil))) (ac (au (ac (xUn fQ (xC (.int 1))) (ac (ad 2) xNil))) (ac (au (ac (xC (.bl true)) (ac (ad 2) xNil))) xNil)))))))))))))
 (aG (bx 3 (ak aI (ad 3) (bt (ac (au (ac (xC .non) (ac (ad 2) xNil))) (ac (au (ac (xC (.str "0")) (ac (ad 2) xNil))) (ac (au (ac (ad 1) (ac (au (ac (xC (.int 0)) (ac (xC (.int 1)) xNil))) xNil))) (ac (au (ac (ad 1) (ac (au (ac (xC (.int 2)) (ac (xC (.int 4)) xNil))) xNil))) (ac (au (ac (ad 1) (ac (au (ac (xC (.int 1)) (ac (xC (.int 0)) xNil))) xNil))) (ac (au (ac (ad 1) (ac (au (ac (xC (.int 1)) (ac (xUn fQ (xC (.int 1))) xNil))) xNil))) (ac (au (ac (ad 1) (ac (bt (ac (xC (.int 1)) (ac (xC (.int 2)) xNil))) xNil))) xNil))))))))))
 (aG (bx 3 (ak aI (ad 3) (bt (ac (au (ac (bt (ac (ad 1) xNil)) (ac (ad 2) xNil))) (ac (au (ac xDic (ac (ad 2) xNil))) (ac (au (ac (ad 1) (ac (au (ac (xC (.int 2)) (ac (xC (.bl true)) xNil))) xNil))) (ac (au (ac (ad 1) (ac xDic xNil))) (ac (xC (.str "01")) xNil))))))))
 (bi (ak aI (ad 3) (bt (ac (au (ac (ad 1) (ac (xC (.int 1)) xNil))) (ac (au (ac (ad 1) (ac (au (ac (xC (.bl true)) (ac (xC (.int 1)) xNil))) xNil))) (ac (au (ac (ad 1) (ac (au (ac (xC (.int 1)) (ac (xC (.int 2)) (ac (xC (.int 3)) xNil)))) xNil))) (ac (au (ac (ad 1) (ac (au (ac (xC (.int 0)) (ac (xC (.int 5)) xNil))) xNil))) (ac (au (ac (ad 1) (ac (xC .non) xNil))) (ac (au (ac (au (ac (ad 1) (ac (ad 2) xNil))) (ac (ad 2) xNil))) xNil))))))))))))
def gH:Fn:=cr 4 3 gI
def pG{ds:List D}{s:Pen}(h:ds.length=3):gH.p ds s=(gI.p (dSt 4 ds) s).fin:=bv h
def iB:Xd [7]:=(aG (bx 3 (ar bA (ac (ad 0) (ac (ad 1) xNil))))
 (aG (bx 4 (ar bA (ac (ad 0) (ac (ad 1) xNil))))
 (aG (bx 5 (bU 1 [4] (bL (ak oIx (ad 2) (ad 3))) (ws':=[]) (xNm 0) (xB (ak oNe (ak oIx (ad 0) (xC (.int 0))) (ad 1))) (ad 0)))
 (aG (bx 6 (ar bA (ac (ad 0) (ac (ak aI (xCb fI (ac (ad 5) xNil)) (xC (.int 1))) xNil))))
 (aG (qZ 7 (bU 1 [2,3] (bL (au (ac (xC .non) (ac (xC (.int 3)) (ac (xC (.str "row")) (ac (xC (.str "")) (ac xDic xNil))))))) (ws':=[]) (xNm 0) xTrue (ak aI (ak aI (xSl (ad 1) xNo (xPt (ad 2))) (bt (ac (ad 0) xNil))) (xSl (ad 1) (xPt (ak aI (ad 2) (xC (.int 1)))) xNo))))
 (aG (jP (bL (ar gH (ac (ad 1) (ac (ad 4) (ac (au (ac (xC (.int 1)) (ac (xC (.int 3)) xNil))) xNil))))) (xNm 8) (aG (bx 11 (ak aI (ak aI (xSl (ad 5) xNo (xPt (ad 6))) (bt (ac (ad 8) xNil))) (xSl (ad 5) (xPt (ad 6)) xNo)))
 (xMt d6 7 (ac (ak aI (ak aI (xSl (ad 2) xNo (xPt (ad 3))) (bt (ac (ad 11) xNil))) (xSl (ad 2) (xPt (ak aI (ad 3) (xC (.int 1)))) xNo)) xNil))))
 (aG (bx 9 (ak aI (ak aI (ak aI (xSl (ad 5) xNo (xPt (ad 6))) (bt (ac (au (ac (ad 4) (ac (au (ac (xC (.int 1)) (ac (xC (.int 3)) xNil))) xNil))) xNil))) (xSl (ad 5) (xPt (ad 6)) xNo)) (bt (ac (au (ac (ad 4) (ac (au (ac (xC (.int 1)) (ac (xC (.int 3)) xNil))) xNil))) xNil))))
 (aG (xMt d6 7 (ac (ak aI (ak aI (xSl (ad 2) xNo (xPt (ad 3))) (bt (ac (ad 9) xNil))) (xSl (ad 2) (xPt (ak aI (ad 3) (xC (.int 1)))) xNo)) xNil))
 (aG (bx 10 (ak aI (ak aI (bt (ac (au (ac (ad 4) (ac (au (ac (xC (.int 2)) (ac (xC (.int 1)) xNil))) xNil))) xNil)) (ad 5)) (bt (ac (au (ac (ad 4) (ac (au (ac (xC (.int 1)) (ac (xC (.int 3)) xNil))) xNil))) xNil))))
 (aG (xMt d6 7 (ac (ak aI (ak aI (xSl (ad 2) xNo (xPt (ad 3))) (bt (ac (ad 10) xNil))) (xSl (ad 2) (xPt (ak aI (ad 3) (xC (.int 1)))) xNo)) xNil))
 (bi (ak aI (ad 7) (bt (ac (xSl (ad 2) xNo (xPt (xUn fQ (xC (.int 1))))) (ac (ak aI (ad 2) (bt (ac (au xNil) xNil))) (ac (ak aI (ad 2) (bt (ac (xC .non) xNil))) xNil))))))))))))))))
def iL:Fn:=cr 12 3 iB
def qR{ds:List D}{s:Pen}(h:ds.length=3):iL.p ds s=(iB.p (dSt 12 ds) s).fin:=bv h
def km:Xd [1]:=(aG (qZ 1 (bt xNil))
 (aG (jP (bL (ad 0)) (xNm 2) (aG (xIf (xB (xUn (b8 ["list"]) (ad 2))) (bx 2 (xCb cS (ac (ad 2) xNil))) xSkip)
 (xMt d6 1 (ac (ad 2) xNil))))
 (bi (xCb cS (ac (ad 1) xNil)))))
def fM:Fn:=cr 3 1 km
def uq{ds:List D}{s:Pen}(h:ds.length=1):fM.p ds s=(km.p (dSt 3 ds) s).fin:=bv h
def gJ:Xd []:=(aG (xAsg (ad 0) (xGp (xGc (xNm 5) (xGc (xNm 6) xGl)) 2))
 (aG (bx 2 (ar bA (ac (ad 1) (ac (ad 5) xNil))))
 (aG (bx 3 (au (ac (au (ac (ak fu (ad 5) (xC (.int 1))) (ac (au (ac (xC (.int 1)) (ac (xC (.int 2)) xNil))) xNil))) (ac (au (ac (xC (.int 0)) (ac (au (ac (xC (.int 1)) (ac (xC (.int 1)) xNil))) xNil))) xNil))))
 (aG (bx 4 (bU 1 [5,6,2] (bL (au (ac (xCb f9 (ac (ak oIx (ad 6) (ad 2)) xNil)) (ac (ad 3) (ac xDic (ac (xC .non) (ac (xC (.int 0)) xNil))))))) (ws':=[]) (xNm 0) xTrue (au (ac (ad 1) (ac (ak da (ak da (pH (ad 2) xNo (xPt (ad 3))) (au (ac (ad 0) xNil))) (pH (ad 2) (xPt (ak da (ad 3) (xC (.int 1)))) xNo)) xNil)))))
 (aG (bx 4 (ak da (ad 4) (bt (ac (au (ac (ad 5) (ac (xCb f9 (ac (ad 6) xNil)) xNil))) (ac (bt (ac (ad 5) (ac (ad 6) xNil))) (ac (au (ac (ad 5) (ac (ad 6) (ac (au xNil) xNil)))) (ac (au (ac (ad 5) xNil)) (ac (ad 6) xNil))))))))
 (aG (bx 4 (ak da (ad 4) (bt (ac (ad 5) (ac (xC (.str "sheet")) (ac xDic (ac (xC .non) (ac (xC (.bl true)) (ac (ak fo (xC (.int 10)) (xC (.int 60))) (ac (au (ac (ad 5) (ac (xC .non) xNil))) (ac (au (ac (xC .non) (ac (ad 6) xNil))) xNil)))))))))))
 (bi (ak da (ad 4) (bt (ac (au (ac (xC (.bl true)) (ac (pH (ad 6) xNo (xPt (xC (.int 1)))) xNil))) (ac (au (ac (ak da (ad 5) (xC (.int 1))) (ac (ad 6) xNil))) (ac (au (ac (ak fu (ad 5) (xC (.int 1))) (ac (ad 6) xNil))) (ac (au (ac (xUn fQ (xC (.int 1))) (ac (au xNil) xNil))) (ac (au (ac (xC (.int 13)) (ac (ak wB (au (ac (au xNil) xNil)) (xC (.int 13))) xNil))) xNil))))))))))))))
def fc:Fn:=cr 7 2 gJ
def pd{ds:List D}{s:Pen}(h:ds.length=2):fc.p ds s=(gJ.p (dSt 7 ds) s).fin:=bv h
def iY:Xd []:=(aG (bx 1 (ak aI (xC (.int 1)) (ar bA (ac (ad 0) (ac (xC (.int 5)) xNil)))))
 (aG (bx 2 (ar mY (ac (ad 0) (ac (ad 1) xNil))))
 (aG (bx 3 (bU 1 [] (bL (ad 2)) (ws':=[]) (xNm 0) xTrue (xCb f9 (ac (ad 0) xNil))))
 (aG (jP (bL (au (ac (ak aI (ad 1) (xC (.int 1))) (ac (ak fu (ad 1) (xC (.int 1))) (ac (xUn fQ (xC (.int 1))) (ac (xC (.int 13)) (ac (ak fo (xC (.int 10)) (xC (.int 60))) (ac (ak fu (xC (.int 0)) (ak fo (xC (.int 10)) (xC (.int 60)))) (ac (xC (.bl true)) (ac (xC .non) (ac (xCb cStr (ac (ad 1) xNil)) (ac (au (ac (ad 1) xNil)) xNil)))))))))))) (xNm 4) (xIf (xAnd (xOr (xB (ak oNe (ad 4) (ad 1))) (xB (xUn (b8 ["bool"]) (ad 4)))) (xB (ak oNe (ar bP (ac (ad 4) (ac (ad 3) xNil))) (xC (.str "sheet"))))) (bi (xC (.bl false))) xSkip))
 (aG (jP (bL (au (ac (xC .non) (ac (ad 1) (ac (xC (.str "rows")) (ac xDic (ac (au xNil) xNil))))))) (xNm 5) (xIf (xB (ak oNe (ar bP (ac (ad 1) (ac (ad 5) xNil))) (xC (.str "sheet")))) (bi (xC (.bl false))) xSkip))
 (aG (jP (bL (ar iL (ac (ad 0) (ac (ad 1) (ac (ad 3) xNil))))) (xNm 6) (xIf (xOr (xB (ak oNe (ar bP (ac (ad 1) (ac (ad 6) xNil))) (xC (.str "sheet")))) (xB (ak (oIs true) (ar ck (ac (au (ac (ad 1) (ac (ar fM (ac (ad 6) xNil)) xNil))) xNil)) (xC (.bl false))))) (bi (xC (.bl false))) xSkip))
 (aG (xIf (xB (ak oNe (bU 1 [] (bL (ar fc (ac (au (ac (ad 1) (ac (ad 2) xNil))) (ac (ad 0) xNil)))) (ws':=[]) (xNm 0) (xB (ak (oIs true) (ar ck (ac (ad 0) xNil)) (xC (.bl false)))) (ad 0)) (bt xNil))) (bi (xC (.bl false))) xSkip)
 (aG (jP (bL (au (ac (ad 1) (ac (xUn fQ (xC (.int 1))) (ac (xC (.bl true)) (ac (xC .non) (ac (xC (.str "0")) (ac (au (ac (xC (.int 0)) xNil)) (ac (ak fo (xC (.int 10)) (xC (.int 60))) (ac (ak fu (xC (.int 0)) (ak fo (xC (.int 10)) (xC (.int 60)))) (ac (bt xNil) xNil))))))))))) (xNm 7) (xIf (xOr (xB (ak oNe (ar dm (ac (au (ac (ad 1) (ac (ad 2) xNil))) (ac (ad 7) (ac (xC (.int 0)) xNil)))) (xC (.str "place")))) (xB (ak oNe (ar dm (ac (au (ac (ad 1) (ac (ad 2) xNil))) (ac (ak fu (ad 1) (xC (.int 1))) (ac (ad 7) xNil)))) (xC (.str "place"))))) (bi (xC (.bl false))) xSkip))
 (bi (cX (ar sJ (ac (ar bq (ac (ad 1) (ac (ad 3) xNil))) (ac (au (ac (ad 1) (ac (ad 2) xNil))) xNil))) (ak (oIs false) (ar ck (ac (au (ac (ad 1) (ac (ad 2) xNil))) xNil)) (xC (.bl true)))))))))))))
def i8:Fn:=cr 8 1 iY
def vZ{ds:List D}{s:Pen}(h:ds.length=1):i8.p ds s=(iY.p (dSt 8 ds) s).fin:=bv h
def ul:i8.m=fE:=congrArg (bj 8 1) (rfl:iY.m=m_l_right)
end
end Law
namespace Law
open PySem MM PU SetT SortT
open L2 (ixN atI fP)
set_option maxHeartbeats 1000000
abbrev nD(t b:Int):D:=.tup [.int t,.int b]
def jG{a b:Int}(ha:0<=a)(hb:0<=b):Int.gcd b (a % b)=Int.gcd a b:=by
 obtain⟨m,rfl⟩:=qcl ha;obtain⟨n,rfl⟩:=qcl hb;show Nat.gcd n (m % n)=Nat.gcd m n;rw[Nat.gcd_comm m n,Nat.gcd_rec n m,Nat.gcd_comm]
def tI{a b:Int}(hb:0<b):k6.p (.int a) (.int b)=some (.int (a % b)):=by
 rw[uV (by ext),qbf _ (by ext)]
def oFd_pos{a b:Int}(hb:0<b)(hl:b.natAbs.log2<9000):oFd.p (.int a) (.int b)=some (.int (a / b)):=by
 show (if b≠0/\Builtin.divisionGoesByPylong a b=false then _ else _)=_;rw[qae ⟨by ext,PyProof.noPylong_of_log2 hl⟩,Int.fdiv_eq_ediv_of_nonneg _ (by ext)]
def oMul_r{a b:Int}(h:b.natAbs<2 ^ 64):oMul.p (.int a) (.int b)=some (.int (a * b)):=by
 exact qae (IntMulOk.of_right (intBits_le_64 (by ext) (by ext)))
def abs_nn{a:Int}:(if a<0 then -a else a)=(a.natAbs:Int):=by split <;> ext
def xm{a:Int}:cAbs.p [.int a]=some (.int (a.natAbs:Int)):=by
 show some (D.int (if a<0 then -a else a))=_;rw[abs_nn]
def xWh_p{ws:List Nat}{N:Nat}{t:Xt ws}{b:Xd ws}(hm:∀{σ h n},ce t.m b.m n σ h≠.bad->mWh t.m b.m σ h=ce t.m b.m n σ h){env:aB}{s:Pen}:(xWh N t b hm).p env s=dI t.p b.p N env s:=rfl
def sK{b r:Int}(h0:0<r)(h1:r<b):0<=b % r/\b % r<r/\2 * (b % r)<b:=by
 have a1:=qbM b (show r≠0 by ext);have a2:=qby b h0;have a3:=Int.mul_ediv_add_emod b r;have a4:1<=b / r:=by rw[qcv h0];ext
 have a5:r * 1<=r * (b / r):=Int.mul_le_mul_of_nonneg_left a4 (by ext);ext
def fB{a:Int}(h:0<=a):((Int.gcd a 0:Nat):Int)=a:=by rw[Int.gcd_zero_right];ext
abbrev lowT:Xt []:=xB (ak oGt (ad 3) (xC (.int 0)))
abbrev lowB:Xd []:=xPar 2 3 (ac (ad 3) (ac (ak k6 (ad 2) (ad 3)) xNil))
def low1{x y:Option D}{a b:Int}{n:Nat}{s:Pen}(hb:0<b):dI lowT.p lowB.p (n+1) [x,y,some (.int a),some (.int b)] s=dI lowT.p lowB.p n [x,y,some (.int b),some (.int (a % b))] s:=by
 rw[dI];simp[tI hb,hb,PR.bl]
def low0{x y:Option D}{a:Int}{n:Nat}{s:Pen}:dI lowT.p lowB.p (n+1) [x,y,some (.int a),some (.int 0)] s=.nx [x,y,some (.int a),some (.int 0)] s:=by
 rw[dI];simp[PR.bl]
def low_run{x y:Option D}{s:Pen}:∀(k n:Nat) (a b:Int),0<=a->0<=b->b<2 ^ k->2 * k+1<=n->dI lowT.p lowB.p n [x,y,some (.int a),some (.int b)] s=.nx [x,y,some (.int (Int.gcd a b)),some (.int 0)] s:=by
 intro k
 induction k with
 | zero =>
  intro n a b ha hb hk hn;obtain⟨m,rfl⟩:∃m,n=m+1:=⟨n - 1,by ext⟩
  have:b=0:=by simp at hk;ext
  subst this;rw[low0,fB ha]
 | succ k ih =>
  intro n a b ha hb hk hn;obtain⟨m,rfl⟩:∃m,n=m+1+1:=⟨n - 2,by ext⟩;by_cases e:b=0
  ·subst e;rw[low0,fB ha]
  ·have hb':0<b:=by ext
   rw[low1 hb',<-jG ha hb];have r0:=qbM a e;have r1:=qby a hb';generalize a % b=r at r0 r1 ⊢;by_cases er:r=0
   ·subst er;rw[low0,fB hb]
   ·obtain⟨h0,h1,h2⟩:=sK (b:=b) (r:=r) (by ext) r1;rw[low1 (by ext),<-jG hb r0];refine ih m r (b % r) r0 h0 ?_ (by ext);rw[Int.pow_succ] at hk;ext
abbrev gsT:Xt []:=xB (ak oNe (ad 1) (xC (.int 0)))
abbrev gsB:Xd []:=aG (bx 2 (ak k6 (ad 0) (ad 1))) (aG (bx 0 (ad 1)) (bx 1 (ad 2)))
def gs1{z:Option D}{a b:Int}{n:Nat}{s:Pen}(hb:0<b):dI gsT.p gsB.p (n+1) [some (.int a),some (.int b),z] s=dI gsT.p gsB.p n [some (.int b),some (.int (a % b)),some (.int (a % b))] s:=by
 rw[dI];simp[tI hb,show ¬b=0 by ext,PR.bl]
def gs0{z:Option D}{a:Int}{n:Nat}{s:Pen}:dI gsT.p gsB.p (n+1) [some (.int a),some (.int 0),z] s=.nx [some (.int a),some (.int 0),z] s:=by
 rw[dI];simp[PR.bl]
def gs_run{s:Pen}:∀(k n:Nat) (a b:Int) (z:Option D),0<=a->0<=b->b<2 ^ k->2 * k+1<=n->∃z',dI gsT.p gsB.p n [some (.int a),some (.int b),z] s=.nx [some (.int (Int.gcd a b)),some (.int 0),z'] s:=by
 intro k
 induction k with
 | zero =>
  intro n a b z ha hb hk hn;obtain⟨m,rfl⟩:∃m,n=m+1:=⟨n - 1,by ext⟩
  have:b=0:=by simp at hk;ext
  subst this;exact⟨z,by rw[gs0,fB ha]⟩
 | succ k ih =>
  intro n a b z ha hb hk hn;obtain⟨m,rfl⟩:∃m,n=m+1+1:=⟨n - 2,by ext⟩;by_cases e:b=0
  ·subst e;exact⟨z,by rw[gs0,fB ha]⟩
  ·have hb':0<b:=by ext
   rw[gs1 hb',<-jG ha hb];have r0:=qbM a e;have r1:=qby a hb';generalize a % b=r at r0 r1 ⊢;by_cases er:r=0
   ·subst er;exact⟨_,by rw[gs0,fB hb]⟩
   ·obtain⟨h0,h1,h2⟩:=sK (b:=b) (r:=r) (by ext) r1;rw[gs1 (by ext),<-jG hb r0];refine ih m r (b % r) _ r0 h0 ?_ (by ext);rw[Int.pow_succ] at hk;ext
def gs_p{a b:Int}{s:Pen}(ha:0<=a)(hb:0<=b)(hk:b<2 ^ 190):eR.p [.int a,.int b] s=.ok (.int (Int.gcd a b)) s:=by
 rw[lH (by rfl)];unfold eS;obtain⟨z',q⟩:=gs_run (s:=s) 190 400 a b none ha hb hk (by ext);have e0:dSt 3 [D.int a,.int b]=[some (.int a),some (.int b),none]:=rfl;rw[e0,aE];rw[xWh_p om];refine (congrArg (fun z:PS=>(z.then _).fin) q).trans ?_;simp
def ye{t b:Int}(hb:0<b):0<(Nat.gcd t.natAbs b.natAbs:Int)/\(t / (Nat.gcd t.natAbs b.natAbs:Int)).natAbs<=t.natAbs/\1<=b / (Nat.gcd t.natAbs b.natAbs:Int)/\b / (Nat.gcd t.natAbs b.natAbs:Int)<=b:=by
 have e:((b.natAbs:Int))=b:=by ext
 have h1:(Nat.gcd t.natAbs b.natAbs:Int) ∣ b:=by
  have:=Int.gcd_dvd_right (t.natAbs:Int) (b.natAbs:Int)
  rw[qcm] at this
  rwa [e] at this
 have h0:0<(Nat.gcd t.natAbs b.natAbs:Int):=by
  have:0<Nat.gcd t.natAbs b.natAbs:=qch _ (by ext)
  ext
 generalize (Nat.gcd t.natAbs b.natAbs:Int)=g at h0 h1 ⊢;refine⟨h0,?_,?_,Int.ediv_le_self _ (by ext)⟩
 ·rcases Int.lt_or_le t 0 with z|z
  ·have a1:t / g<0:=Int.ediv_neg_of_neg_of_pos z h0;have a2:t<=t / g:=by
    rw[qcv h0]
    have:t * g<=t * 1:=Int.mul_le_mul_of_nonpos_left (by ext) (by ext)
    ext
   ext
  ·have a1:0<=t / g:=Int.ediv_nonneg z (by ext);have a2:t / g<=t:=Int.ediv_le_self _ z;ext
 ·obtain⟨c,rfl⟩:=h1;rw[Int.mul_ediv_cancel_left _ (by ext)]
  have:0<g * c:=hb
  rcases Int.lt_or_le 0 c with z|z
  ·ext
  ·have:=Int.mul_nonpos_of_nonneg_of_nonpos (a:=g) (b:=c) (by ext) z
   ext
def log_of{b:Int}{k:Nat}(hk:0<k)(h:b.natAbs<2 ^ k):b.natAbs.log2<k:=by
 rcases Nat.eq_zero_or_pos b.natAbs with e|e
 ·rw[e];simpa using hk
 ·exact (Nat.log2_lt (by ext)).mpr h
def gcd_log{t b:Int}(hb:0<b)(hk:b<2 ^ 190):(Nat.gcd t.natAbs b.natAbs:Int).natAbs.log2<9000:=by
 have h:Nat.gcd t.natAbs b.natAbs ∣ b.natAbs:=Nat.gcd_dvd_right _ _;have h2:=Nat.le_of_dvd (by ext) h;have h3:b.natAbs<2 ^ 190:=by
  have e:((b.natAbs:Int))=b:=by ext
  have:((b.natAbs:Nat):Int)<((2 ^ 190:Nat):Int):=by rw[e];simpa using hk
  exact Int.ofNat_lt.mp this
 refine log_of (k:=9000) (by decide) ?_;rw[Int.natAbs_natCast];exact qcb (Nat.lt_of_le_of_lt h2 h3) (Nat.pow_lt_pow_right (by decide) (by decide))
def gcd1{t b:Int}(hb:0<b):Int.gcd (t / (Nat.gcd t.natAbs b.natAbs:Int)) (b / (Nat.gcd t.natAbs b.natAbs:Int))=1:=by
 have h:0<Int.gcd t b:=qch _ (by ext);have e:(Nat.gcd t.natAbs b.natAbs:Int)=(Int.gcd t b:Int):=rfl;rw[e];exact Int.gcd_ediv_gcd_ediv_gcd h
structure Num (t b:Int):Prop where
 t6:t.natAbs<=1000000
 b1:1<=b
 b6:b<=1000000
 g1:Int.gcd t b=1
local macro_rules | `(tactic| simp! [$a,*]) => `(tactic| simp only [$a,*, Out.bind_ok, bu])
local macro_rules | `(tactic| dsimp! [$a,*]) => `(tactic| simp only [$a,*, PU.aq, qaq, qar])
local macro_rules | `(tactic| simp_all! [$a,*]) => `(tactic| simp only [$a,*, Pg, dC, if_false, qag])
def rM{t b:Int}{s:Pen}(hb:0<b)(hk:b<=1000000)(ht:t.natAbs<=1000000):∃t' b':Int,g8.p [.int t,.int b] s=.ok (nD t' b') s/\Num t' b':=by
 obtain⟨h0,h1,h2,h3⟩:=ye (t:=t) hb;have hk2:b<2 ^ 190:=Int.lt_of_le_of_lt hk (by decide +kernel);refine⟨_,_,?_,by ext,h2,by ext,gcd1 hb⟩;have hk':(b.natAbs:Int)<2 ^ 190:=by rw[show ((b.natAbs:Int))=b by ext];exact hk2
 rw[ut (by rfl)];unfold ki;have e0:dSt 4 [D.int t,.int b]=[some (.int t),some (.int b),none,none]:=rfl;have q:=low_run (x:=some (.int t)) (y:=some (.int b)) (s:=s) 190 400 (t.natAbs:Int) (b.natAbs:Int) (by ext) (by ext) hk' (by ext);rw[e0];dsimp![aE,xPar_p,aD,aM,fK,aL,aS,Pb,xm,Pf,Pg];rw[xWh_p om];refine (congrArg (fun z:PS=>(z.then _).fin) q).trans ?_;rw[qcm];simp[PR.bl,show ¬b<0 by ext,oFd_pos h0 (gcd_log hb hk2),nD]
def p6:fo.p (.int 10) (.int 6)=some (.int 1000000):=qae ⟨by decide,by decide,by decide⟩
def yS{s:Pen}:∃t b s',dq.p [.pen] s=.ok (nD t b) s'/\Num t b:=by
 obtain⟨w,s1,w0,w1,q1⟩:=dB (s:=s) (size:=8) (by decide) (by decide);by_cases z:w=7
 ·subst z;obtain⟨a,s2,a0,a1,q2⟩:=dB (s:=s1) (size:=2 * 1000000 - 1) (by decide) (by decide);obtain⟨b,s3,b0,b1,q3⟩:=dB (s:=s2) (size:=1000000 - 1) (by decide) (by decide);obtain⟨t',b',q4,h⟩:=rM (t:=a - 1000000+1) (b:=1+b) (s:=s3) (by ext) (by ext) (by ext);refine⟨t',b',s3,?_,h⟩;rw[mM (by rfl)];unfold gX;rw[show dSt 2 [D.pen]=[some .pen,none] from rfl];have m2:oMul.p (.int 2) (.int 1000000)=some (.int (2 * 1000000)):=oMul_r (by decide);simp[q1,PR.bl,p6,m2] at q2 q3 ⊢;simp[q2,q3,q4]
 ·obtain⟨a,s2,a0,a1,q2⟩:=dB (s:=s1) (size:=13) (by decide) (by decide);obtain⟨m,em,m0,m1⟩:∃m:Int,atI [D.int 1,.int 1,.int 5] (w.fmod 3)=some (.int m)/\0<m/\m<=5:=by
   have f0:0<=w.fmod 3/\w.fmod 3<3:=by rw[qbf _ (by decide)];ext
   obtain e|e | e:w.fmod 3=0\/w.fmod 3=1\/w.fmod 3=2:=by ext
   ·rw[e];exact⟨1,rfl,by decide,by decide⟩
   ·rw[e];exact⟨1,rfl,by decide,by decide⟩
   ·rw[e];exact⟨5,rfl,by decide,by decide⟩
  obtain⟨b,s3,b0,b1,q3⟩:=dB (s:=s2) (size:=m) m0 (by ext);obtain⟨t',b',q4,h⟩:=rM (t:=a - 6) (b:=1+b) (s:=s3) (by ext) (by ext) (by ext);refine⟨t',b',s3,?_,h⟩;rw[mM (by rfl)];unfold gX;rw[show dSt 2 [D.pen]=[some .pen,none] from rfl];have m3:k6.p (.int w) (.int 3)=some (.int (w.fmod 3)):=uV (by decide);simp[q1,PR.bl,z,q2,m3,em,q3,q4]
def Kd(d:D):Prop:=∃t,tyD d=some t
def isI:D->Bool
 | .int _=>true
 | _=>false
def plB(n:Int):D->Bool
 | .int i=>decide (0<=i) && decide (i<n)
 | _=>false
def bT:D->Bool
 | .int i=>decide (0<=i) && decide (i<=12)
 | _=>false
def prB:D->Bool
 | .tup [_,_]=>true
 | _=>false
def sm:List D->Bool
 | [.int _,.int b]=>decide (b<2 ^ 190)
 | _=>true
mutual
def gd:D->Bool
 | .exc _ | .pen=>false
 | .lst ds=>gds ds
 | .tup ds=>gds ds && sm ds
 | _=>true
def gds:List D->Bool
 | []=>true
 | d::ds=>gd d && gds ds
end
def bJ{d:D}(h:gd d=true):Kd d:=by
 cases d <;> first | exact⟨_,rfl⟩ | (simp[gd] at h)
def dX:∀{ds:List D},gds ds=true->∀x∈ds,gd x=true
 | [],_,x,hx=>by cases hx
 | d::ds,h,x,hx=>by
  simp only[gds,qaG] at h;rcases qaj.mp hx with rfl|hx
  ·exact h.1
  ·exact dX h.2 x hx
def jl:∀{ds:List D},(∀x∈ds,gd x=true)->gds ds=true
 | [],_=>by simp[gds]
 | d::ds,h=>by simp only[gds,qaG];exact⟨h d (by simp),jl fun x hx=>h x (qal _ hx)⟩
def iG{ds:List D}(h:gd (.tup ds)=true):gds ds=true/\sm ds=true:=by simpa [gd] using h
def gd_lst{ds:List D}(h:gd (.lst ds)=true):gds ds=true:=by simpa [gd] using h
def di{d:D}{s:Pen}(h:Kd d):eJ.p [d] s=.ok (.bl (isI d)) s:=by
 rw[uw (by rfl)];unfold jZ;obtain⟨t,ht⟩:=h;cases d <;> first | (cases ht;done) | (simp[dSt,ba,isI,tyD];done) | (simp[dSt,ba,isI,tyD] at ht ⊢)
def ju{n:Int}{d:D}{s:Pen}(h:Kd d):gU.p [.int n,d] s=.ok (.bl (plB n d)) s:=by
 rw[ug (by rfl)];unfold jK
 cases d with
 | int i=>by_cases z:0<=i <;> simp[dSt,di h,isI,plB,z]
 | _=>simp[dSt,di h,isI,plB]
def fC{d:D}{s:Pen}(h:Kd d):eK.p [d] s=.ok (.bl (bT d)) s:=by
 rw[uv (by rfl)];unfold j4
 cases d with
 | int i=>by_cases z:0<=i <;> simp[dSt,di h,isI,bT,z]
 | _=>simp[dSt,di h,isI,bT]
def len2{ds:List D}:decide ((ds.length:Int)=2)=prB (.tup ds):=by
 match ds with
 | []=>rfl
 | [_]=>rfl
 | [_,_]=>rfl
 | _::_::_::r =>
  simp[prB];ext
def dh{d:D}{s:Pen}(h:Kd d):fF.p [d] s=.ok (.bl (prB d)) s:=by
 rw[vP (by rfl)];unfold kQ;obtain⟨t,ht⟩:=h
 cases d with
 | tup ds=>simp[dSt,ba,tyD,len2]
 | _=>first | (cases ht;done) | (simp[dSt,ba,tyD,prB];done) | (simp[dSt,ba,tyD,prB] at ht ⊢)
def pE{d:D}(h:prB d=true):∃x y,d=.tup [x,y]:=by
 match d,h with
 | .tup [x,y],_=>exact⟨x,y,rfl⟩
def uK{d:D}(h:isI d=true):∃i:Int,d=.int i:=by
 match d,h with
 | .int i,_=>exact⟨i,rfl⟩
def plB_inv{n:Int}{d:D}(h:plB n d=true):∃i:Int,d=.int i/\0<=i/\i<n:=by
 match d,h with
 | .int i,h=>exact⟨i,rfl,by simpa [plB] using h⟩
def eQ:D->Bool
 | .tup [.int t,.int b]=>decide (1<=b) && decide (Int.gcd t b=1)
 | _=>false
def numB_no{d:D}(h:prB d=false):eQ d=false:=by
 unfold eQ;split
 ·cases h
 ·rfl
def w9{x y:D}(h:eQ (.tup [x,y])=true):isI x=true/\isI y=true:=by
 unfold eQ at h
 split at h
 ·rename_i a b e
  injection e with e
  injection e with e1 e2
  injection e2 with e2
  subst e1;subst e2;exact⟨rfl,rfl⟩
 ·cases h
def at0{x y:D}:atI [x,y] 0=some x:=rfl
def at1{x y:D}:atI [x,y] 1=some y:=rfl
def rH{d:D}{s:Pen}(h:gd d=true):jh.p [d] s=.ok (.bl (eQ d)) s:=by
 rw[sU (by rfl)];unfold jg;rw[show dSt 1 [d]=[some d] from rfl,aE,dv]
 cases z:prB d with
 | false=>simp[dh (bJ h),z,numB_no z,PR.bl]
 | true =>
  obtain⟨x,y,rfl⟩:=pE z;obtain⟨h1,h2⟩:=iG h;have hx:=bJ (dX h1 x (by simp));have hy:=bJ (dX h1 y (by simp))
  cases zx:isI x with
  | false =>
   have:eQ (.tup [x,y])=false:=qbv.mpr fun q=>by rw[(w9 q).1] at zx;cases zx
   simp[dh (bJ h),z,PR.bl,at0,at1,di hx,zx,this]
  | true =>
   cases zy:isI y with
   | false =>
    have:eQ (.tup [x,y])=false:=qbv.mpr fun q=>by rw[(w9 q).2] at zy;cases zy
    simp[dh (bJ h),z,PR.bl,at0,at1,di hx,di hy,zx,zy,this]
   | true =>
    obtain⟨t,rfl⟩:=uK zx;obtain⟨b,rfl⟩:=uK zy;have hb:b<2 ^ 190:=by simpa [sm] using h2
    by_cases z1:1<=b
    ·have g:=gs_p (a:=(t.natAbs:Int)) (b:=b) (s:=s) (by ext) (by ext) hb;have e:Int.gcd (t.natAbs:Int) b=Int.gcd t b:=by simp[Int.gcd]
     rw[e] at g;simp[dh (bJ h),z,PR.bl,at0,at1,di hx,di hy,zx,zy,xm,g,z1,eQ];ext
    ·simp[dh (bJ h),z,PR.bl,at0,at1,di hx,di hy,zx,zy,z1,eQ]
def zrB:D->Bool
 | .tup [.int t,.int b]=>decide (t=0) && decide (b=1)
 | _=>false
def cP(n:Int):D->Bool
 | .tup [x,y]=>plB n x && (eQ y && !zrB y)
 | _=>false
def yz{n:Int}{d:D}(h:prB d=false):cP n d=false:=by
 unfold cP;split
 ·cases h
 ·rfl
def re{d:D}(h:eQ d=true):∃t b:Int,d=nD t b/\1<=b/\Int.gcd t b=1:=by
 unfold eQ at h
 split at h
 ·rename_i t b;simp at h;exact⟨t,b,rfl,h.1,h.2⟩
 ·cases h
def ne_zero{t b:Int}:eqD true (nD t b) (nD 0 1)=some (.bl (!zrB (nD t b))):=by
 simp[eqD,py,pys,dep,deps,SeqAt.shaped,PyData.canLay0,PyData.canLayAll0,PyData.depth,PyData.depthAll,PyData.eqv,PyData.eqvAll,zrB,qbt]
def xCT_p{i j:Int}{ws:List Nat}{env:aB}{s:Pen}:(xCT i j:Xe ws).p env s=.ok (nD i j) s:=rfl
def part_k{n:Int}{d:D}{s:Pen}(h:gd d=true):iP.p [.int n,d] s=.ok (.bl (cP n d)) s:=by
 rw[wn (by rfl)];unfold lv;rw[show dSt 2 [D.int n,d]=[some (.int n),some d] from rfl]
 cases z:prB d with
 | false=>simp[dh (bJ h),z,yz z,PR.bl]
 | true =>
  obtain⟨x,y,rfl⟩:=pE z;obtain⟨h1,h2⟩:=iG h;have hx:=dX h1 x (by simp);have hy:=dX h1 y (by simp)
  cases zx:plB n x with
  | false=>simp[dh (bJ h),z,PR.bl,at0,ju (bJ hx),zx,cP]
  | true =>
   cases zy:eQ y with
   | false=>simp[dh (bJ h),z,PR.bl,at0,at1,ju (bJ hx),zx,rH hy,zy,cP]
   | true =>
    obtain⟨t,b,rfl,b1,g1⟩:=re zy;simp[dh (bJ h),z,PR.bl,at0,at1,ju (bJ hx),zx,rH hy,zy,cP,oNe,ne_zero,xCT_p]
abbrev Prt:=Int × Int × Int
def prtD(p:Prt):D:=.tup [.int p.1,nD p.2.1 p.2.2]
def u9:∀(bs:List Bool),nk (bs.map .bl)=some bs
 | []=>rfl
 | b::bs=>by rw[qaE,nk,u9 bs];rfl
def vM{ds:List D}{f:D->Bool}:sR.p [.lst (ds.map fun x=>.bl (f x))]=some (.bl (ds.all f)):=by
 show ((some (ds.map fun x=>D.bl (f x))).bind nk).map _=_
 have:(ds.map fun x=>D.bl (f x))=(ds.map f).map .bl:=by rw[qbe];rfl
 rw[this,qbl,u9,qbK,List.all_map];rfl
def xj{n:Int}{d:D}(h:cP n d=true):∃p:Prt,d=prtD p/\0<=p.1/\p.1<n:=by
 unfold cP at h
 split at h
 ·rename_i x y
  rw[qaG,qaG] at h;obtain⟨i,rfl,h0,h1⟩:=plB_inv h.1;obtain⟨t,b,rfl,_⟩:=re h.2.1;exact⟨(i,t,b),rfl,h0,h1⟩
 ·cases h
def iQ{n:Int}:∀{ds:List D},ds.all (cP n)=true->∃ps:List Prt,ds=ps.map prtD
 | [],_=>⟨[],rfl⟩
 | d::ds,h=>by
  rw[qci,qaG] at h;obtain⟨ps,rfl⟩:=iQ h.2;obtain⟨p,rfl,_⟩:=xj h.1;exact⟨p::ps,rfl⟩
def ndB(ds:List D):Bool:=decide ((ds.map rkD).Nodup)
def bH(n:Int)(ds:List D):Bool:=ds.all (cP n) && ndB ds
def lw(ps:List Prt):(ps.map prtD).map rkD=ps.map (·.1):=by rw[qbe];rfl
def pe{n:Int}{d:D}{ds:List D}{s:Pen}(e:d.items=some ds)(hl:ds.length<=1000)(h:gds ds=true):eX.p [.int n,d] s=.ok (.bl (bH n ds)) s:=by
 rw[tP (by rfl)];unfold jd;rw[show dSt 2 [D.int n,d]=[some (.int n),some d] from rfl,aE,dv];have q:=jc (ws:=[]) (ws':=[]) (env:=[some (.int n),some d]) (s:=s) (fm:=[0]) (i:=bL (ad 1)) (t:=xTrue) (e:=(ar iP (ac (ad 1) (ac (ad 0) xNil)))) (ds:=ds) (fun _=>true) (fun x=>.bl (cP n x)) (by simp[e]) (by ext) (fun x hx=>⟨rfl,fun _=>by simp[part_k (dX h x hx)]⟩);rw[cQ] at q;rw[xNot_p,j9,fK,aD,q];simp only[Pb,aM,vM,Pf,Pl]
 cases z:ds.all (cP n) with
 | false=>simp[bH,z]
 | true =>
  obtain⟨ps,rfl⟩:=iQ z
  have q2:=jc (ws:=[]) (ws':=[]) (env:=[some (.int n),some d]) (s:=s) (fm:=[]) (i:=bL (ad 1)) (t:=xTrue) (e:=(ak oIx (ad 0) (xC (.int 0)))) (ds:=ps.map prtD) (fun _=>true) (fun x=>.int (rkD x)) (by simp[e]) (by ext) (fun x hx=>⟨rfl,fun _=>by
   obtain⟨p,_,rfl⟩:=qaz.mp hx
   simp[prtD,at0,rkD,ff]⟩)
  rw[cQ] at q2;have e3:(ps.map prtD).map (fun x=>D.int (rkD x))=(ps.map (·.1)).map .int:=by rw[qbe,qbe];rfl
  rw[e3] at q2;have e4:fI.p [d]=some (.int ((ps.map prtD).length:Int)):=by
   cases d with
   | lst es=>cases e;rfl
   | tup es=>cases e;rfl
   | _=>cases e
  simp_all![qaU,PU.aq,iO,bo,fK,aD,q2,Pb,aM,cLS_i (ns:=ps.map (·.1)) (by simpa using hl),Pf,aS,aL,e4];have e5:decide ((many (ps.map (·.1)):Int)=((ps.map prtD).length:Int))=ndB (ps.map prtD):=by
   unfold ndB;rw[lw];refine decide_eq_decide.mpr ?_;rw[<-many_nd];simp;ext
  rw[qaF] at e5;simp[bH,z,oEq,e5]
def nN:∀(ps qs:List Prt),PyData.eqvAll (ps.map fun p=>PyData.tuple [.int p.1,.tuple [.int p.2.1,.int p.2.2]]) (qs.map fun p=>PyData.tuple [.int p.1,.tuple [.int p.2.1,.int p.2.2]])=decide (ps=qs)
 | [],[]=>by simp[PyData.eqvAll]
 | [],_::_=>by simp[PyData.eqvAll]
 | _::_,[]=>by simp[PyData.eqvAll]
 | p::ps,q::qs=>by
  obtain⟨a,b,c⟩:=p;obtain⟨x,y,z⟩:=q;rw[qaE,qaE,PyData.eqvAll,nN ps qs];by_cases e:ps=qs <;> simp[PyData.eqv,PyData.eqvAll,qbt,e,and_assoc]
def uz:∀ps:List Prt,pys (ps.map prtD)=some (ps.map fun p=>PyData.tuple [.int p.1,.tuple [.int p.2.1,.int p.2.2]])
 | []=>by simp[pys]
 | p::ps=>by rw[qaE,pys,uz ps];simp[prtD,py,pys]
def nA:∀ps:List Prt,deps (ps.map prtD)<=3
 | []=>by simp[deps]
 | p::ps=>by have:=nA ps;rw[qaE,deps];simp[prtD,dep,deps];ext
def pP:∀ps:List Prt,PyData.canLayAll0 (ps.map fun p=>PyData.tuple [.int p.1,.tuple [.int p.2.1,.int p.2.2]])=true
 | []=>by simp[PyData.canLayAll0]
 | p::ps=>by rw[qaE,PyData.canLayAll0,pP ps];simp[PyData.canLay0,PyData.canLayAll0]
def pF:∀ps:List Prt,PyData.depthAll (ps.map fun p=>PyData.tuple [.int p.1,.tuple [.int p.2.1,.int p.2.2]])<=3
 | []=>by simp[PyData.depthAll]
 | p::ps=>by have:=pF ps;rw[qaE,PyData.depthAll];simp[PyData.depth,PyData.depthAll];ext
def eqD_prt{ps qs:List Prt}:eqD false (.lst (ps.map prtD)) (.lst (qs.map prtD))=some (.bl (decide (ps=qs))):=by
 have h1:=nA ps;have h2:=nA qs;have h3:=pF ps;have h4:=pF qs;simp only[eqD,py,uz,qbK];rw[qae ⟨⟨by simp[dep];ext,by simp[dep];ext⟩,by simp[SeqAt.shaped,PyData.canLay0,pP,PyData.depth];ext,by simp[SeqAt.shaped,PyData.canLay0,pP,PyData.depth];ext⟩];simp[PyData.eqv,nN]
def iC(ds:List D):Bool:=decide ((ds.map rkD).Pairwise (·<=·))
def ft(n:Int):D->Bool
 | .tup ds=>bH n ds && iC ds
 | _=>false
open Classical in
theorem vo{d:D}{ds:List D}(e:d.items=some ds){n:Int}(h:bH n ds=true)(hl:ds.length<=66):lD.p [d]=some (.lst (aN rkD ds)):=by
 unfold bH at h;rw[qaG] at h;obtain⟨ps,rfl⟩:=iQ h.1;show d.items.bind _=_;rw[e,qbl,qae ⟨fun d hd=>by obtain⟨p,_,rfl⟩:=qaz.mp hd;rfl,by have:=h.2;unfold ndB at this;simpa using this,hl⟩]
def jI{d:D}{ds:List D}(e:d.items=some ds)(hl:ds.length<=100000):f9.p [d]=some (.lst ds):=by
 show d.items.bind _=_;rw[e,qbl,qae hl]
def row_k{n:Int}{d:D}{s:Pen}(h:gd d=true)(hl:∀ds,d=.tup ds->ds.length<=66):jJ.p [.int n,d] s=.ok (.bl (ft n d)) s:=by
 rw[xY (by rfl)];unfold nq;rw[show dSt 2 [D.int n,d]=[some (.int n),some d] from rfl];obtain⟨t,ht⟩:=bJ h
 cases d with
 | tup ds =>
  have hl':=hl ds rfl;have pk:=pe (n:=n) (d:=.tup ds) (ds:=ds) (s:=s) rfl (by ext) (iG h).1
  cases z:bH n ds with
  | false=>simp[ba,tyD,PR.bl,pk,z,ft]
  | true =>
   have sr:=vo (d:=.tup ds) rfl z hl';obtain⟨ps,rfl⟩:=iQ (by unfold bH at z;rw[qaG] at z;exact z.1);have s1:aN rkD (ps.map prtD)=(aN (fun p:Prt=>p.1) ps).map prtD:=by rw[gv];rfl
   have nd:(ps.map fun p:Prt=>p.1).Nodup:=by
    unfold bH ndB at z;rw[qaG,lw] at z;simpa using z.2
   have s2:iC (ps.map prtD)=decide (ps=aN (fun p:Prt=>p.1) ps):=by
    unfold iC;rw[lw];refine decide_eq_decide.mpr ⟨fun e=>jT (.refl _) nd (qbn.mp e),fun e=>?_⟩;rw[e];exact qbn.mpr (kO _ _)
   have cl:f9.p [.tup (ps.map prtD)]=some (.lst (ps.map prtD)):=jI rfl (by ext);simp[ba,tyD,PR.bl,pk,z,ft,sr,s1,oEq,eqD_prt,s2,cl]
 | _=>first | (cases ht;done) | (simp[ba,tyD,PR.bl,ft];done) | (simp[ba,tyD,PR.bl,ft] at ht ⊢)
def shB:D->Bool
 | .tup [.int c,.tup rs]=>bT (.int c) && (decide ((rs.length:Int)=c) && rs.all (ft c))
 | _=>false
def rsOk(d:D):Prop:=∀c rs,d=.tup [c,.tup rs]->rs.length<=1000/\∀r∈rs,∀ds,r=.tup ds->ds.length<=66
def shB_no{d:D}(h:prB d=false):shB d=false:=by
 unfold shB;split
 ·cases h
 ·rfl
def shB_c{x y:D}(h:shB (.tup [x,y])=true):bT x=true/\∃rs,y=.tup rs:=by
 unfold shB at h
 split at h
 ·rename_i c rs e
  injection e with e
  injection e with e1 e2
  injection e2 with e2
  subst e1;subst e2;rw[qaG] at h;exact⟨h.1,rs,rfl⟩
 ·cases h
def yH{d:D}(h:bT d=true):∃i:Int,d=.int i/\0<=i/\i<=12:=by
 match d,h with
 | .int i,h=>exact⟨i,rfl,by simpa [bT] using h⟩
def pB{d:D}{s:Pen}(h:gd d=true)(hr:rsOk d):ck.p [d] s=.ok (.bl (shB d)) s:=by
 rw[ud (by rfl)];unfold jV;rw[show dSt 1 [d]=[some d] from rfl,aE,dv]
 cases z:prB d with
 | false=>simp[dh (bJ h),z,PR.bl,shB_no z]
 | true =>
  obtain⟨x,y,rfl⟩:=pE z;have hx:=dX (iG h).1 x (by simp);have hy:=dX (iG h).1 y (by simp)
  cases zx:bT x with
  | false =>
   have:shB (.tup [x,y])=false:=qbv.mpr fun q=>by rw[(shB_c q).1] at zx;cases zx
   simp[dh (bJ h),z,PR.bl,at0,fC (bJ hx),zx,this]
  | true =>
   obtain⟨c,rfl,c0,c1⟩:=yH zx;obtain⟨t,ht⟩:=bJ hy
   cases y with
   | tup rs =>
    obtain⟨hl,hrs⟩:=hr _ _ rfl;have q:=jc (ws:=[]) (ws':=[]) (env:=[some (.tup [.int c,.tup rs])]) (s:=s) (fm:=[0]) (i:=bL (ak oIx (ad 0) (xC (.int 1)))) (t:=xTrue) (e:=(ar jJ (ac (ak oIx (ad 1) (xC (.int 0))) (ac (ad 0) xNil)))) (ds:=rs) (fun _=>true) (fun x=>.bl (ft c x)) (by simp[at1]) (by ext) (fun x hx=>⟨rfl,fun _=>by simp[at0,row_k (n:=c) (dX (iG hy).1 x hx) (hrs x hx)]⟩);rw[cQ] at q;have tst:(xOr (cD (xB (ar fF (ac (ad 0) xNil)))) (xOr (cD (xB (ar eK (ac (ak oIx (ad 0) (xC (.int 0))) xNil)))) (cD (xB (xUn (b8 ["tuple"]) (ak oIx (ad 0) (xC (.int 1))))))):Xt []).p [some (.tup [.int c,.tup rs])] s=.ok false s:=by
     simp[dh (bJ h),z,PR.bl,at0,at1,fC (bJ hx),zx,ba,tyD]
    rw[tst];simp_all![PU.aq,iO,pQ];have ln:(ak oEq (xCb fI (ac (ak oIx (ad 0) (xC (.int 1))) xNil)) (ak oIx (ad 0) (xC (.int 0))):Xe []).p [some (.tup [.int c,.tup rs])] s=.ok (.bl (decide ((rs.length:Int)=c))) s:=by simp[at0,at1,oEq]
    rw[ln,Pl,Pb];by_cases zl:(rs.length:Int)=c
    ·rw[fK,aD,q];simp[zl,vM,shB,zx,PR.bl]
    ·simp[zl,shB]
   | _=>first | (cases ht;done) | (simp[dh (bJ h),z,PR.bl,at0,at1,fC (bJ hx),zx,ba,tyD,shB];done) | (simp[gd] at hy)
def okR(n:Int):D->Bool
 | .lst ds=>bH n ds
 | .tup ds=>bH n ds
 | _=>false
def Rk(d:D):Prop:=gd d=true/\∀ds,d.items=some ds->ds.length<=66
abbrev soB:Xd []:=xIf (xOr (cD (xB (xUn (b8 ["list","tuple"]) (ad 2)))) (cD (xB (ar eX (ac (ad 0) (ac (ad 2) xNil)))))) (jw "NoSheet" (ac (xC (.str "a row is a list or a tuple of tuples, each of a place and a number")) xNil)) xSkip
def so_body{n:Int}{d r:D}{s:Pen}(h:Rk r):soB.p [some (.int n),some d,some r] s=if okR n r=true then .nx [some (.int n),some d,some r] s else .rse "NoSheet" [some (.int n),some d,some r] s:=by
 rw[dv];obtain⟨h1,h2⟩:=h;obtain⟨t,ht⟩:=bJ h1
 cases r with
 | lst ds =>
  have pk:=pe (n:=n) (d:=.lst ds) (ds:=ds) (s:=s) rfl (by have:=h2 ds rfl;ext) (gd_lst h1);cases z:bH n ds <;> simp[ba,tyD,PR.bl,pk,z,okR]
 | tup ds =>
  have pk:=pe (n:=n) (d:=.tup ds) (ds:=ds) (s:=s) rfl (by have:=h2 ds rfl;ext) (iG h1).1;cases z:bH n ds <;> simp[ba,tyD,PR.bl,pk,z,okR]
 | _=>first | (cases ht;done) | (simp[ba,tyD,PR.bl,okR];done) | (simp[gd] at h1)
def pj{n:Int}{d:D}{s:Pen}:∀(rs:List D) (z:Option D),(∀r∈rs,Rk r)->(rs.all (okR n)=true->∃z',pGo (xNm 2:Xg []).p soB.p rs [some (.int n),some d,z] s=.nx [some (.int n),some d,z'] s)/\(rs.all (okR n)=false->∃e,pGo (xNm 2:Xg []).p soB.p rs [some (.int n),some d,z] s=.rse "NoSheet" e s)
 | [],z,_=>⟨fun _=>⟨_,rfl⟩,fun h=>by cases h⟩
 | r::rs,z,h=>by
  have e1:(xNm 2:Xg []).p r [some (.int n),some d,z]=some [some (.int n),some d,some r]:=rfl;rw[sv e1,so_body (h r (by simp)),qci]
  cases zo:okR n r with
  | false=>exact⟨fun q=>by simp at q,fun _=>⟨[some (.int n),some d,some r],by simp⟩⟩
  | true =>
   have ih:=pj (n:=n) (d:=d) (s:=s) rs (some r) fun x hx=>h x (qal _ hx);simpa using ih
def so_cnt{c d:D}{s:Pen}(h:Kd c)(hb:bT c=false):bq.p [c,d] s=.exc "NoSheet" s:=by
 rw[gr (by rfl)];unfold eM;simp[dSt,fC h,hb]
def so_kind{n:Int}{d:D}{s:Pen}(hn:bT (.int n)=true)(h:Kd d)(hb:d.items=none):bq.p [.int n,d] s=.exc "NoSheet" s:=by
 rw[gr (by rfl)];unfold eM;obtain⟨t,ht⟩:=h;cases d <;> first | (cases ht;done) | (cases hb;done) | (simp[dSt,fC (d:=.int n) ⟨_,rfl⟩,hn,ba,tyD,PR.bl];done)
def sD{n:Int}{d:D}{ds:List D}{s:Pen}(hn:bT (.int n)=true)(e:d.items=some ds)(hb:(ds.length:Int)≠n):bq.p [.int n,d] s=.exc "NoSheet" s:=by
 rw[gr (by rfl)];unfold eM
 cases d with
 | lst es=>cases e;simp[dSt,fC (d:=.int n) ⟨_,rfl⟩,hn,ba,tyD,PR.bl,hb]
 | tup es=>cases e;simp[dSt,fC (d:=.int n) ⟨_,rfl⟩,hn,ba,tyD,PR.bl,hb]
 | _=>cases e
def vg{n:Int}{d:D}{ds:List D}{s:Pen}(hn:bT (.int n)=true)(e:d.items=some ds)(hl:(ds.length:Int)=n):bq.p [.int n,d] s=((pGo (xNm 2:Xg []).p soB.p ds [some (.int n),some d,none] s).then
  (bi (au (ac (ad 0) (ac (xCb cS (ac (bU 1 [] (bL (ad 1)) (ws':=[]) (xNm 0) xTrue (xCb cS (ac (xCb lD (ac (ad 0) xNil)) xNil))) xNil)) xNil))):Xd []).p).fin:=by
 rw[gr (by rfl)];unfold eM;rw[show dSt 3 [D.int n,d]=[some (.int n),some d,none] from rfl,aE,dv];have t1:(cD (xB (ar eK (ac (ad 0) xNil))):Xt []).p [some (.int n),some d,none] s=.ok false s:=by simp[fC (d:=.int n) ⟨_,rfl⟩,hn,PR.bl]
 have t2:(xOr (cD (xB (xUn (b8 ["list","tuple"]) (ad 1)))) (xB (ak oNe (xCb fI (ac (ad 1) xNil)) (ad 0))):Xt []).p [some (.int n),some d,none] s=.ok false s:=by
  cases d with
  | lst es=>cases e;simp[ba,tyD,PR.bl,hl]
  | tup es=>cases e;simp[ba,tyD,PR.bl,hl]
  | _=>cases e
 rw[t1];simp_all![PU.aq];rw[aE,dv,t2];simp_all![PU.aq];rw[aE,gz,fH,aS,aL,Pb,e];rfl
def so_row{n:Int}{d:D}{ds:List D}{s:Pen}(hn:bT (.int n)=true)(e:d.items=some ds)(hl:(ds.length:Int)=n)(h:∀r∈ds,Rk r)(hb:ds.all (okR n)=false):bq.p [.int n,d] s=.exc "NoSheet" s:=by
 obtain⟨e',q⟩:=(pj (n:=n) (d:=d) (s:=s) ds none h).2 hb;rw[vg hn e hl,q];rfl
def soK(n:Int)(d:D):Prop:=(d.items=none\/∃ds,d.items=some ds/\((ds.length:Int)≠n\/((ds.length:Int)=n/\(∀r∈ds,Rk r)/\ds.all (okR n)=false)))
def xL{n:Int}{d:D}{s:Pen}(hn:bT (.int n)=true)(h:Kd d)(hb:soK n d):bq.p [.int n,d] s=.exc "NoSheet" s:=by
 rcases hb with hb|⟨ds,e,hb|⟨hl,hr,hb⟩⟩
 ·exact so_kind hn h hb
 ·exact sD hn e hb
 ·exact so_row hn e hl hr hb
def so_ok{n:Int}{d:D}{rs:List D}{s:Pen}(hn:bT (.int n)=true)(e:d.items=some rs)(hl:(rs.length:Int)=n)(h:∀r∈rs,Rk r)(hb:rs.all (okR n)=true) :
  bq.p [.int n,d] s=.ok (.tup [.int n,.tup (rs.map fun r=>.tup (aN rkD (r.items.getD [])))]) s:=by
 obtain⟨z',q⟩:=(pj (n:=n) (d:=d) (s:=s) rs none h).1 hb;have hle:rs.length<=12:=by
  have:n<=12:=by
   simp[bT] at hn;exact hn.2
  ext
 rw[vg hn e hl,q,PU.aq,iO,bY]
 have c:=jc (ws:=[]) (ws':=[]) (env:=[some (.int n),some d,z']) (s:=s) (fm:=[]) (i:=bL (ad 1)) (t:=xTrue) (e:=(xCb cS (ac (xCb lD (ac (ad 0) xNil)) xNil))) (ds:=rs) (fun _=>true) (fun r=>.tup (aN rkD (r.items.getD []))) (by simp[e]) (by ext) (fun x hx=>⟨rfl,fun _=>by
  have ok:=qbr.mp hb x hx;obtain⟨ds,ei,hp⟩:∃ds,x.items=some ds/\bH n ds=true:=by
   cases x with
   | lst ds=>exact⟨ds,rfl,ok⟩
   | tup ds=>exact⟨ds,rfl,ok⟩
   | _=>cases ok
  simp[vo ei hp ((h x hx).2 ds ei),ei]⟩)
 rw[cQ] at c;rw[aD,aL,Pb,aD,fK,aD,c];simp
def word_s{s:Pen}:iM.p [.exc "NoSheet"] s=.ok (.str "sheet") s:=by
 rw[qz (by rfl)];unfold kA;rw[show dSt 2 [D.exc "NoSheet"]=[some (.exc "NoSheet"),none] from rfl];rfl
def word_p{s:Pen}:iM.p [.exc "NoPlace"] s=.ok (.str "place") s:=by
 rw[qz (by rfl)];unfold kA;rw[show dSt 2 [D.exc "NoPlace"]=[some (.exc "NoPlace"),none] from rfl];rfl
def k8{c d:D}{s:Pen}(h:bq.p [c,d] s=.exc "NoSheet" s):bP.p [c,d] s=.ok (.str "sheet") s:=by
 rw[xq (by rfl)];unfold m6;rw[show dSt 4 [c,d]=[some c,some d,none,none] from rfl,aE,bO];dsimp![cw,gE,Pg];rw[aE];have b:(fG (ar bq (ac (ad 0) (ac (ad 1) xNil))):Xd []).p [some c,some d,some .non,none] s=.exc "NoSheet" [some c,some d,some .non,none] s:=by
  rw[vj,bG];simp[h]
 have t:(xTry ["NoPlace","NoSheet"] 2 3 (fG (ar bq (ac (ad 0) (ac (ad 1) xNil)))):Xd []).p [some c,some d,some .non,none] s=.nx [some c,some d,some (.exc "NoSheet"),none] s:=by
  show (match (fG (ar bq (ac (ad 0) (ac (ad 1) xNil))):Xd []).p _ s with | .exc c e s=>_ | .rse _ _ _=>_ | r=>r)=_;rw[b];dsimp only;rw[qae (by simp)];rfl
 rw[t,PU.aq];simp[word_s]
def xR{n:Int}{rows i j:D}{s:Pen}(hi:Kd i)(hj:Kd j)(h:plB n i=false\/(plB n i=true/\plB n j=false)):cT.p [.tup [.int n,rows],i,j] s=.exc "NoPlace" s:=by
 have bad:∀d:D,Kd d->plB n d=false->dA.p [.int n,d] s=.exc "NoPlace" s:=fun d hd hb=>by
  rw[jz (by rfl)];unfold fe;simp[dSt,ju hd,hb]
 have good:∀d:D,Kd d->plB n d=true->dA.p [.int n,d] s=.ok .non s:=fun d hd hb=>by
  rw[jz (by rfl)];unfold fe;simp[dSt,ju hd,hb]
 rw[tL (by rfl)];unfold jf;rw[show dSt 3 [D.tup [.int n,rows],i,j]=[some (.tup [.int n,rows]),some i,some j] from rfl];rcases h with h|⟨h1,h⟩
 ·simp[at0,bad i hi h]
 ·simp[at0,good i hi h1,bad j hj h]
def vD{a i j:D}{s:Pen}(h:cT.p [a,i,j] s=.exc "NoPlace" s):dm.p [a,i,j] s=.ok (.str "place") s:=by
 rw[v9 (by rfl)];unfold lb;rw[show dSt 5 [a,i,j]=[some a,some i,some j,none,none] from rfl,aE,bO];dsimp![cw,gE,Pg];rw[aE];have b:(fG (ar cT (ac (ad 0) (ac (ad 1) (ac (ad 2) xNil)))):Xd []).p [some a,some i,some j,some .non,none] s=.exc "NoPlace" [some a,some i,some j,some .non,none] s:=by
  rw[vj,bG];simp[h]
 have t:(xTry ["NoPlace","NoSheet"] 3 4 (fG (ar cT (ac (ad 0) (ac (ad 1) (ac (ad 2) xNil))))):Xd []).p [some a,some i,some j,some .non,none] s=.nx [some a,some i,some j,some (.exc "NoPlace"),none] s:=by
  show (match (fG (ar cT (ac (ad 0) (ac (ad 1) (ac (ad 2) xNil)))):Xd []).p _ s with | .exc c e s=>_ | .rse _ _ _=>_ | r=>r)=_;rw[b];dsimp only;rw[qae (by simp)];rfl
 rw[t,PU.aq];simp[word_p]
structure Rw (n:Int) (ps:List Prt):Prop where
 ris:ps.Pairwise fun p q=>p.1<q.1
 len:ps.length<=5
 mem:∀p∈ps,0<=p.1/\p.1<n/\Num p.2.1 p.2.2/\p.2.1≠0
abbrev rwD(ps:List Prt):D:=.tup (ps.map prtD)
def rngD_c(lo:Int)(c:Nat):iK lo (c+1)=.int lo::iK (lo+1) c:=by
 unfold iK;rw[qcu,qaE,qbe];refine congr (congrArg _ (by simp)) (qbY fun i _=>?_);show D.int _=D.int _;congr 1;simp;ext
def ph{k:Int}(k0:0<k)(k4:k<=4):∀(c:Nat) (lo:Int) (z:Option D) (s:Pen),∃(ps:List Prt) (s':Pen),fh (xNm 0:Xg []).p (xB (ak oEq (ar bA (ac (ad 1) (ac (ad 2) xNil))) (xC (.int 0))):Xt []).p (au (ac (ad 0) (ac (ar dq (ac (ad 1) xNil)) xNil)):Xe []).p (iK lo c) [z,some .pen,some (.int k)] s=.ok (ps.map prtD) s' /\
  ps.Pairwise (fun p q=>p.1<q.1)/\ps.length<=c/\∀p∈ps,lo<=p.1/\p.1<lo+c/\Num p.2.1 p.2.2
 | 0,lo,z,s=>⟨[],s,rfl,.nil,by simp,by simp⟩
 | c+1,lo,z,s=>by
  obtain⟨d,s1,d0,d1,q1⟩:=dB (s:=s) (size:=k) k0 (by ext);have e1:(xNm 0:Xg []).p (.int lo) [z,some .pen,some (.int k)]=some [some (.int lo),some .pen,some (.int k)]:=rfl;have e2:(xB (ak oEq (ar bA (ac (ad 1) (ac (ad 2) xNil))) (xC (.int 0))):Xt []).p [some (.int lo),some .pen,some (.int k)] s=.ok (decide (d=0)) s1:=by
   simp[q1,oEq,PR.bl]
  rw[rngD_c,fh,e1];dsimp only;rw[e2,Pb];by_cases zd:d=0
  ·obtain⟨t,b,s2,q2,nm⟩:=yS (s:=s1);obtain⟨ps,s3,q3,ri,le,me⟩:=ph k0 k4 c (lo+1) (some (.int lo)) s2;have e3:(au (ac (ad 0) (ac (ar dq (ac (ad 1) xNil)) xNil)):Xe []).p [some (.int lo),some .pen,some (.int k)] s1=.ok (prtD (lo,t,b)) s2:=by
    simp[q2,prtD]
   refine⟨(lo,t,b)::ps,s3,by rw[decide_eq_true zd,qae rfl,e3,Pb,q3,Pb];rfl,qbc.mpr ⟨fun p hp=>by have:=(me p hp).1;show lo<p.1;ext,ri⟩,by simp;ext,fun p hp=>?_⟩;rcases qaj.mp hp with rfl|hp
   ·exact⟨by simp,by show lo<_;ext,nm⟩
   ·have:=me p hp;exact⟨by ext,by ext,this.2.2⟩
  ·obtain⟨ps,s3,q3,ri,le,me⟩:=ph k0 k4 c (lo+1) (some (.int lo)) s1;refine⟨ps,s3,by rw[decide_eq_false zd,qao (by simp),q3],ri,by ext,fun p hp=>?_⟩
   have:=me p hp;exact⟨by ext,by ext,this.2.2⟩
def jq{ws:List Nat}{env:aB}{s s1:Pen}{o:OpM}{i:Nat}{a:Xs ws}{hi:ws.contains i=true}{hz:a.fz=true}{as ds ds':List D}{r:D}(e1:a.p env s=.ok as s1)(e2:env[i]?=some (some (.lst ds)))(e3:o.p ds as=some (r,ds')):(xMt o i a hi hz).p env s=.nx (env.set i (some (.lst ds'))) s1:=by
 rw[xMt_p,xo e1 e2 e3]
abbrev drB:Xd [3]:=(aG (bx 5 (bU 1 [0,2] (ni iR1 (ac (ad 1) xNil)) (ws':=[]) (xNm 0) (xB (ak oEq (ar bA (ac (ad 1) (ac (ad 2) xNil))) (xC (.int 0)))) (au (ac (ad 0) (ac (ar dq (ac (ad 1) xNil)) xNil)))))
 (xMt d6 3 (ac (xCb cS (ac (bU 2 [] (bL (ad 5)) (ws':=[]) (xGp (xGc (xNm 0) (xGc (xNm 1) xGl)) 2) (xB (ak oNe (ak oIx (ad 1) (xC (.int 0))) (xC (.int 0)))) (au (ac (ad 0) (ac (ad 1) xNil)))) xNil)) xNil)))
def dr_turn{n k:Int}{rs:List (List Prt)}{z4 z5:Option D}{s:Pen}(n0:1<=n)(n5:n<=5)(k0:0<k)(k4:k<=4)(hl:rs.length<=100):∃ps z5' s',Rw n ps/\drB.p [some .pen,some (.int n),some (.int k),some (.lst (rs.map rwD)),z4,z5] s=.nx [some .pen,some (.int n),some (.int k),some (.lst ((rs++[ps]).map rwD)),z4,z5'] s':=by
 obtain⟨ps,s1,q1,ri,le,me⟩:=ph k0 k4 n.toNat 0 none s;have c1:(bU 1 [0,2] (ni iR1 (ac (ad 1) xNil)) (ws':=[]) (xNm 0) (xB (ak oEq (ar bA (ac (ad 1) (ac (ad 2) xNil))) (xC (.int 0)))) (au (ac (ad 0) (ac (ar dq (ac (ad 1) xNil)) xNil))):Xe [3]).p [some .pen,some (.int n),some (.int k),some (.lst (rs.map rwD)),z4,z5] s=.ok (.lst (ps.map prtD)) s1:=by
  rw[pg,wT,aD,aS,aL,Pb,aM,Pb,Pb,iR1_i (by ext),Pf,Pb,qae (by unfold iK;simp;ext)];rw[show cenv 1 [0,2] [some D.pen,some (.int n),some (.int k),some (.lst (rs.map rwD)),z4,z5]=[none,some .pen,some (.int k)] from rfl,q1]
 have c2:=comp2 (ws:=[3]) (ws':=[]) (env:=[some .pen,some (.int n),some (.int k),some (.lst (rs.map rwD)),z4,some (.lst (ps.map prtD))]) (s:=s1) (fm:=[]) (i:=bL (ad 5)) (t:=xB (ak oNe (ak oIx (ad 1) (xC (.int 0))) (xC (.int 0)))) (e:=au (ac (ad 0) (ac (ad 1) xNil))) (ds:=ps.map prtD) (fun d=>!(match d with | .tup [_,.tup [.int t,_]]=>decide (t=0) | _=>false)) id (by simp[D.items]) (by simp;ext) (fun x hx=>by
  obtain⟨p,_,rfl⟩:=qaz.mp hx;refine⟨_,_,rfl,?_,fun _=>?_⟩
  ·simp[at0,oNe,PR.bl];rfl
  ·simp[prtD])
 have e2:((ps.map prtD).filter (fun d=>!(match d with | .tup [_,.tup [.int t,_]]=>decide (t=0) | _=>false))).map id=(ps.filter fun p=>!decide (p.2.1=0)).map prtD:=by
  rw[List.map_id,List.filter_map];rfl
 rw[e2] at c2;have lf:=qcA (fun p:Prt=>!decide (p.2.1=0)) ps;refine⟨(ps.filter fun p=>!decide (p.2.1=0)),some (.lst (ps.map prtD)),s1,⟨ri.filter _,by ext,fun p hp=>?_⟩,?_⟩
 ·obtain⟨hp,hz⟩:=qbz.mp hp
  have:=me p hp
  exact⟨by ext,by ext,this.2.2,by simpa using hz⟩
 ·rw[aE,bO,c1,Pg];dsimp![PU.aq];rw[jq (s1:=s1) (as:=[rwD (ps.filter fun p=>!decide (p.2.1=0))]) (ds:=rs.map rwD) (ds':=(rs++[ps.filter fun p=>!decide (p.2.1=0)]).map rwD) (r:=.non) (by rw[aD,fK,aD,c2];rfl) rfl (by rw[gC (by simp;ext)];simp)];rfl
def rows_p{n:Int}{s:Pen}(n0:1<=n)(n5:n<=5):∃(rs:List (List Prt)) (s':Pen),mY.p [.pen,.int n] s=.ok (.tup (rs.map rwD)) s'/\(rs.length:Int)=n/\∀ps∈rs,Rw n ps:=by
 obtain⟨k,s1,k0,k1,q1⟩:=dB (s:=s) (size:=4) (by ext) (by ext);obtain⟨env',s',e,rs,z4,z5,rfl,hl,hr⟩:=jp (g:=(xNm 4:Xg [3]).p) (b:=drB.p)
  (fun j env _=>∃rs z4 z5,env=[some .pen,some (.int n),some (.int (1+k)),some (.lst (rs.map rwD)),z4,z5]/\rs.length=j/\∀ps∈rs,Rw n ps) (iK 0 n.toNat) 0 [some .pen,some (.int n),some (.int (1+k)),some (.lst []),none,none] s1 ⟨[],none,none,rfl,rfl,by simp⟩ (fun j env s' d ⟨rs,z4,z5,hE,hl,hr⟩ hd=>by
   subst hE;have hj:j<n.toNat:=by have:=(qaf.mp hd).1;simpa [iK] using this
   obtain⟨ps,y5,s2,hps,e⟩:=dr_turn (rs:=rs) (z4:=some d) (z5:=z5) (s:=s') n0 n5 (k:=1+k) (by ext) (by ext) (by ext)
   exact⟨_,_,s2,rfl,e,_,_,_,rfl,by simp[hl],fun x hx=>by
    rcases qap.mp hx with hx|hx
    ·exact hr x hx
    ·rw[qaR.mp hx];exact hps⟩)
 refine⟨rs,s',?_,by rw[hl];simp[iK];ext,hr⟩;rw[xE (by rfl)];unfold nr;rw[show dSt 6 [D.pen,D.int n]=[some .pen,some (.int n),none,none,none,none] from rfl,aE,bO];dsimp![bo,bG,aD,aS,aL,Pb,cw,cu,aM,q1,im,Pf,Pg];rw[aE,pc,dk,aM,Pb,qae (by decide),Pg];dsimp![PU.aq];rw[aE,gz,wT,aD,aS,aL,Pb,aM,Pb,Pb,iR1_i (by ext),Pf,Pg];refine (congrArg (fun z:PS=>(z.then _).fin) e).trans ?_;rw[PU.aq];simp
def dD{ds:List D}{lo hi:Option Int}{x:D}(h:x∈aO ds lo hi):x∈ds:=List.mem_of_mem_drop (List.mem_of_mem_take h)
def og{ds:List D}{lo hi:Option Int}:(aO ds lo hi).length<=ds.length:=by
 unfold aO;rw[qbx,qco];ext
def El(x:D):Prop:=gd x=true/\∀b,x=.int b->b<2 ^ 190
def oM{ds:List D}(h:∀x∈ds,∀b,x=.int b->b<2 ^ 190):sm ds=true:=by
 unfold sm;split
 ·rename_i a b
  simpa using h (.int b) (by simp) b rfl
 ·rfl
def tu:D->D
 | .lst ds=>.tup ds
 | d=>d
def Gr(r:D):Prop:=Rk r/\El (tu r)/\∀es,tu r=.tup es->es.length<=66
def gr_l{ds:List D}(h:∀x∈ds,El x)(hl:ds.length<=66):Gr (.lst ds):=by
 have h1:gds ds=true:=jl fun x hx=>(h x hx).1;have h2:sm ds=true:=oM fun x hx=>(h x hx).2;exact⟨⟨by simp[gd,h1],fun es e=>by cases e;exact hl⟩,⟨by simp[tu,gd,h1,h2],fun b e=>by cases e⟩,fun es e=>by cases e;exact hl⟩
def gr_t{ds:List D}(h:∀x∈ds,El x)(hl:ds.length<=66):Gr (.tup ds):=by
 have h1:gds ds=true:=jl fun x hx=>(h x hx).1;have h2:sm ds=true:=oM fun x hx=>(h x hx).2;exact⟨⟨by simp[gd,h1,h2],fun es e=>by cases e;exact hl⟩,⟨by simp[tu,gd,h1,h2],fun b e=>by cases e⟩,fun es e=>by cases e;exact hl⟩
def el_prt{p:Prt}(h:Num p.2.1 p.2.2):El (prtD p):=by
 have:=h.b6
 refine⟨?_,fun b e=>by cases e⟩;simp[prtD,gd,gds,sm];ext
def oE{n:Int}{ps:List Prt}(h:Rw n ps):∀x∈ps.map prtD,El x:=fun x hx=>by
 obtain⟨p,hp,rfl⟩:=qaz.mp hx;exact el_prt (h.mem p hp).2.2.1
def Bw(n:Int)(d:D):Prop:=∃ds,d=.lst ds/\ds.length<=66/\(∀r∈ds,Gr r)/\((ds.length:Int)≠n\/ds.all (okR n)=false)
def bw_so{n:Int}{d:D}(h:Bw n d):Kd d/\soK n d:=by
 obtain⟨ds,rfl,hl,hg,hb⟩:=h;refine⟨⟨_,rfl⟩,.inr ⟨ds,rfl,?_⟩⟩;by_cases z:(ds.length:Int)=n
 ·exact .inr ⟨z,fun r hr=>(hg r hr).1,hb.resolve_left fun q=>q z⟩
 ·exact .inl z
def tu_row{n:Int}{r:D}(h:ft n (tu r)=true):okR n r=true:=by
 cases r with
 | lst ds=>exact (qaG ..▸(show (bH n ds && iC ds)=true from h)).1
 | tup ds=>exact (qaG ..▸(show (bH n ds && iC ds)=true from h)).1
 | _=>cases h
def ze{ds:List D}{s:Pen}(hl:ds.length<=66)(hk:∀r∈ds,Kd r):fM.p [.lst ds] s=.ok (.tup (ds.map tu)) s:=by
 obtain⟨env',s',e,z2,rfl,rfl⟩:=jp (g:=(xNm 2:Xg [1]).p) (b:=(aG (xIf (xB (xUn (b8 ["list"]) (ad 2))) (bx 2 (xCb cS (ac (ad 2) xNil))) xSkip) (xMt d6 1 (ac (ad 2) xNil)):Xd [1]).p)
  (fun j env s'=>∃z2,env=[some (.lst ds),some (.lst ((ds.take j).map tu)),z2]/\s'=s) ds 0 [some (.lst ds),some (.lst []),none] s ⟨none,rfl,rfl⟩ (fun j env s' d ⟨z2,hE,hs⟩ hd=>by
   subst hE;subst hs;obtain⟨hj,hd'⟩:=qaf.mp hd;have t1:(xIf (xB (xUn (b8 ["list"]) (ad 2))) (bx 2 (xCb cS (ac (ad 2) xNil))) xSkip:Xd [1]).p [some (.lst ds),some (.lst ((ds.take (0+j)).map tu)),some d] s'=.nx [some (.lst ds),some (.lst ((ds.take (0+j)).map tu)),some (tu d)] s':=by
    obtain⟨t,ht⟩:=hk d (hd'▸qcs hj);rw[dv];cases d <;> first | (cases ht;done) | (simp[ba,tyD,PR.bl,tu];done) | (simp[ba,tyD,PR.bl,tu] at ht ⊢)
   refine⟨_,[some (.lst ds),some (.lst ((ds.take (0+j+1)).map tu)),some (tu d)],s',rfl,?_,_,rfl,rfl⟩;rw[aE];refine (congrArg (fun z:PS=>z.then _) t1).trans ?_;rw[PU.aq,jq (s1:=s') (as:=[tu d]) (ds:=(ds.take (0+j)).map tu) (ds':=(ds.take (0+j+1)).map tu) (r:=.non) (by simp) rfl (by rw[gC (by simp;ext),show 0+j+1=j+1 by ext,qbR,hd];simp)]
   rfl)
 rw[uq (by rfl)];unfold km;rw[show dSt 3 [D.lst ds]=[some (.lst ds),none,none] from rfl,aE,pc,dk,aM,Pb,qae (by decide),Pg];dsimp![PU.aq];rw[aE,gz,fH,aL,Pb,show (D.lst ds).items=some ds from rfl,Pf,Pg];refine (congrArg (fun z:PS=>(z.then _).fin) e).trans ?_;rw[PU.aq];simp
def gd_sh{n:Int}{ds:List D}(h1:gds ds=true)(h2:sm ds=true):gd (.tup [.int n,.tup ds])=true:=by
 simp only[gd,gds,h1,h2,Bool.and_true];rfl
def bw_sh{n:Int}{d:D}{s:Pen}(h:Bw n d):∃d',fM.p [d] s=.ok d' s/\ck.p [.tup [.int n,d']] s=.ok (.bl false) s:=by
 obtain⟨ds,rfl,hl,hg,hb⟩:=h;refine⟨_,ze hl fun r hr=>bJ (hg r hr).1.1,?_⟩;have hm:∀x∈ds.map tu,El x/\∀es,x=.tup es->es.length<=66:=fun x hx=>by obtain⟨r,hr,rfl⟩:=qaz.mp hx;exact (hg r hr).2
 have g1:gds (ds.map tu)=true:=jl fun x hx=>(hm x hx).1.1;have g2:sm (ds.map tu)=true:=oM fun x hx=>(hm x hx).1.2;have sb:shB (.tup [.int n,.tup (ds.map tu)])=false:=by
  show (bT (.int n) && (decide (((ds.map tu).length:Int)=n) && (ds.map tu).all (ft n)))=false;rcases hb with hb|hb
  ·rw[decide_eq_false (by rw[qaF];exact hb)];simp
  ·have:(ds.map tu).all (ft n)=false:=qbv.mpr fun q=>by
    rw[qbr] at q
    have:ds.all (okR n)=true:=qbr.mpr fun r hr=>tu_row (q _ (List.mem_map_of_mem hr))
    rw[this] at hb;cases hb
   rw[this];simp
 rw[pB (gd_sh g1 g2) fun c rs e=>?_,sb];cases e;exact⟨by rw[qaF];ext,fun r hr=>(hm r hr).2⟩
def gr_kind{d:D}(h:gd d=true)(h0:d.items=none)(h1:tu d=d)(hb:∀b,d=.int b->b<2 ^ 190):Gr d:=by
 refine⟨⟨h,fun ds e=>by rw[h0] at e;cases e⟩,by rw[h1];exact⟨h,hb⟩,fun es e=>?_⟩;rw[h1] at e;subst e;cases h0
def bw_put{n:Int}{ls:List D}{i j:Option Int}{x:D}(hl:ls.length<=5)(hg:∀r∈ls,Gr r)(hx:Gr x)(hb:okR n x=false):Bw n (.lst (aO ls none i++[x]++aO ls j none)):=by
 have l1:=og (ds:=ls) (lo:=none) (hi:=i);have l2:=og (ds:=ls) (lo:=j) (hi:=none);refine⟨_,rfl,by simp;ext,fun r hr=>?_,.inr ?_⟩
 ·simp only[qap,qaR] at hr;rcases hr with (hr|rfl)|hr
  ·exact hg r (dD hr)
  ·exact hx
  ·exact hg r (dD hr)
 ·simp[hb]
def ok_part{n:Int}{A B:List D}{x:D}(hb:cP n x=false):okR n (.lst (A++[x]++B))=false:=by
 show (List.all _ _ && _)=false;simp[hb]
def rR{n:Int}{A B:List D}{x y:D}(hb:rkD x=rkD y):okR n (.lst (A++[x]++B++[y]))=false:=by
 show (_ && ndB _)=false
 have:ndB (A++[x]++B++[y])=false:=by
  unfold ndB;refine decide_eq_false fun q=>?_;rw[List.map_append] at q
  have:=(qcf.mp q).2.2 (rkD x) (by simp) (rkD y) (by simp)
  exact this hb
 rw[this,Bool.and_false]
def bpL(n j:Int)(v:D):List D:=[.lst [.int j,v],.tup [.int j],.tup [.int j,v,v],.tup [],.non,.int j,.str "0",.dic,.tup [.int n,v],.tup [.int (-1),v],.tup [.bl true,v]] ++
 [.tup [.non,v],.tup [.str "0",v],.tup [.int j,.tup [.int 0,.int 1]],.tup [.int j,.tup [.int 2,.int 4]],.tup [.int j,.tup [.int 1,.int 0]],.tup [.int j,.tup [.int 1,.int (-1)]],.tup [.int j,.lst [.int 1,.int 2]]] ++
 [.tup [.lst [.int j],v],.tup [.dic,v],.tup [.int j,.tup [.int 2,.bl true]],.tup [.int j,.dic],.str "01"] ++
 [.tup [.int j,.int 1],.tup [.int j,.tup [.bl true,.int 1]],.tup [.int j,.tup [.int 1,.int 2,.int 3]],.tup [.int j,.tup [.int 0,.int 5]],.tup [.int j,.non],.tup [.tup [.int j,v],v]]
def bp_p{n j:Int}{v:D}{s:Pen}:gH.p [.int n,.int j,v] s=.ok (.lst (bpL n j v)) s:=by
 rw[pG (by rfl)];unfold gI;rw[show dSt 4 [D.int n,.int j,v]=[some (.int n),some (.int j),some v,none] from rfl];simp[fQ,cf,bpL]
def bp_no{n j:Int}(j5:j<100):∀x∈bpL n j (nD 1 3),El x/\cP n x=false:=fun x hx=>by
 simp only[bpL,qap,qaj,qaB,or_false,false_or,or_assoc] at hx;rcases hx with rfl|rfl|rfl|rfl|rfl|rfl|rfl|rfl|rfl|rfl|rfl|rfl|rfl|rfl|rfl|rfl|rfl|rfl|rfl|rfl|rfl|rfl|rfl|rfl|rfl|rfl|rfl|rfl|rfl
 all_goals refine⟨⟨by simp[gd,gds,sm],fun b e=>by first | (cases e;done) | (cases e;ext)⟩,by first | (simp[cP,plB,eQ,zrB];done) | (simp[cP,plB,eQ,zrB];intros;decide)⟩
def lsD(rs:List (List Prt)):List D:=rs.map fun ps=>.lst (ps.map prtD)
def qX{n:Int}{rs:List (List Prt)}(h:∀ps∈rs,Rw n ps):∀r∈lsD rs,Gr r:=fun r hr=>by
 obtain⟨ps,hp,rfl⟩:=qaz.mp hr;exact gr_l (oE (h ps hp)) (by rw[qaF];have:=(h ps hp).len;ext)
abbrev brE(n:Int)(rs:List (List Prt))(a j k:Int)(R out:List D)(z8 z9 z10 z11:Option D):aB:=[some .pen,some (.int n),some (.lst (lsD rs)),some (.int a),some (.int j),some (.lst R),some (.int k),some (.lst out),z8,z9,z10,z11]
abbrev bpB:Xd [7]:=(aG (bx 11 (ak aI (ak aI (xSl (ad 5) xNo (xPt (ad 6))) (bt (ac (ad 8) xNil))) (xSl (ad 5) (xPt (ad 6)) xNo)))
 (xMt d6 7 (ac (ak aI (ak aI (xSl (ad 2) xNo (xPt (ad 3))) (bt (ac (ad 11) xNil))) (xSl (ad 2) (xPt (ak aI (ad 3) (xC (.int 1)))) xNo)) xNil)))
abbrev pu1(rs:List (List Prt))(a:Int)(x:D):D:=.lst (aO (lsD rs) none (some a)++[x]++aO (lsD rs) (some (a+1)) none)
def cutl{ds:List D}{lo hi:Option Int}{m:Nat}(h:ds.length<=m):(aO ds lo hi).length<=m:=qax og h
def wN{n a j k:Int}{rs:List (List Prt)}{R out:List D}{z8 z9 z10 z11:Option D}{s:Pen}{v:Nat}{x:D}{hz:(ac (ad v) xNil:Xs [7]).fz=true}(hl:(lsD rs).length<=5)(hv:(brE n rs a j k R out z8 z9 z10 z11)[v]?=some (some x)) :
  (ac (ak aI (ak aI (xSl (ad 2) xNo (xPt (ad 3))) (bt (ac (ad v) xNil) hz)) (xSl (ad 2) (xPt (ak aI (ad 3) (xC (.int 1)))) xNo)) xNil:Xs [7]).p (brE n rs a j k R out z8 z9 z10 z11) s=.ok [pu1 rs a x] s:=by
 have l1:=cutl (lo:=none) (hi:=some a) hl;have l2:=cutl (lo:=some (a+1)) (hi:=none) hl;have xv:(ad v:Xe [7]).p (brE n rs a j k R out z8 z9 z10 z11) s=.ok x s:=by
  show (match (brE n rs a j k R out z8 z9 z10 z11)[v]? with | some (some d)=>PR.ok d s | _=>.bad)=_;rw[hv]
 have e1:aI.p (.lst (aO (lsD rs) none (some a))) (.lst [x])=some (.lst (aO (lsD rs) none (some a)++[x])):=cf (by simp;ext);have e2:aI.p (.lst (aO (lsD rs) none (some a)++[x])) (.lst (aO (lsD rs) (some (a+1)) none))=some (.lst (aO (lsD rs) none (some a)++[x]++aO (lsD rs) (some (a+1)) none)):=cf (by simp;ext);have u1:∀{x:D} {s:Pen},(if [x].length<=100000 then PR.ok (D.lst [x]) s else .bad)=.ok (.lst [x]) s:=fun {x s}=>qae (by simp);simp only[aD,bo,oH,aS,aL,Pb,jE,jH,nQ,Pf,dk,xv,aM,u1,e1,cw,cu,im,e2]
def br_turn{n a j k:Int}{rs:List (List Prt)}{R out:List D}{x:D}{z9 z10 z11:Option D}{s:Pen}(hl:(lsD rs).length<=5)(hR:R.length<=5)(ho:out.length<=1000):bpB.p (brE n rs a j k R out (some x) z9 z10 z11) s=.nx (brE n rs a j k R (out++[pu1 rs a (.lst (aO R none (some k)++[x]++aO R (some k) none))]) (some x) z9 z10 (some (.lst (aO R none (some k)++[x]++aO R (some k) none)))) s:=by
 have l1:=cutl (lo:=none) (hi:=some k) hR;have l2:=cutl (lo:=some k) (hi:=none) hR;have e1:aI.p (.lst (aO R none (some k))) (.lst [x])=some (.lst (aO R none (some k)++[x])):=cf (by simp;ext);have e2:aI.p (.lst (aO R none (some k)++[x])) (.lst (aO R (some k) none))=some (.lst (aO R none (some k)++[x]++aO R (some k) none)):=cf (by simp;ext);have u1:∀{x:D} {s:Pen},(if [x].length<=100000 then PR.ok (D.lst [x]) s else .bad)=.ok (.lst [x]) s:=fun {x s}=>qae (by simp);rw[aE,bO];dsimp![bo,oH,aS,aL,Pb,jE,jH,nQ,Pf,dk,aD,aM,u1,e1,e2,Pg];rw[jq (s1:=s) (as:=[pu1 rs a (.lst (aO R none (some k)++[x]++aO R (some k) none))]) (ds:=out) (ds':=out++[pu1 rs a (.lst (aO R none (some k)++[x]++aO R (some k) none))]) (r:=.non) (wN (z11:=some _) hl rfl) rfl (by rw[gC (by ext)])];rfl
def wZ{ds:List D}{i:Int}(h0:0<=i)(h1:i<(ds.length:Int)):∃d,atI ds i=some d/\d∈ds:=by
 obtain⟨k,rfl⟩:=sX h0;have hk:k<ds.length:=by ext
 exact⟨ds[k],L2.ij (by simp[hk]),qcs hk⟩
def qW{n a j:Int}{rs:List (List Prt)}{x:D}(hl:(lsD rs).length<=5)(hr:∀ps∈rs,Rw n ps)(hx:Gr x)(hb:okR n x=false):Bw n (pu1 rs a x):=bw_put hl (qX hr) hx hb
def el_j{j:Int}{t b:Int}(hb:b<2 ^ 190):El (.tup [.int j,nD t b]):=by
 refine⟨?_,fun b e=>by cases e⟩;simp[gd,gds,sm];ext
def br_row{R:List D}{k:Int}{x:D}(hR:R.length<=5)(hE:∀x∈R,El x)(hx:El x):Gr (.lst (aO R none (some k)++[x]++aO R (some k) none)):=by
 have l1:=cutl (lo:=none) (hi:=some k) hR;have l2:=cutl (lo:=some k) (hi:=none) hR;refine gr_l (fun y hy=>?_) (by simp;ext);simp only[qap,qaR] at hy;rcases hy with (hy|rfl)|hy
 ·exact hE y (dD hy)
 ·exact hx
 ·exact hE y (dD hy)
def uD:∀x∈[D.non,.int 3,.str "row",.str "",.dic],Gr x/\∀n,okR n x=false:=fun x hx=>by
 simp only[qaj,qaB,or_false] at hx;rcases hx with rfl|rfl|rfl|rfl|rfl
 all_goals exact⟨gr_kind (by simp[gd]) rfl rfl (fun b e=>by first | (cases e;done) | (cases e;decide)),fun n=>rfl⟩
def yo{ls:List D}(h:0<ls.length):(aO ls none (some (-1))).length<ls.length:=by
 unfold aO;rw[qbx]
 have:HT.sIx ls.length ls.length (some (-1))=ls.length - 1:=by
  unfold HT.sIx;dsimp only;rw[qae (by decide)];ext
 rw[this];ext
def vO{n:Int}{rs:List (List Prt)}{s:Pen}(n0:1<=n)(n5:n<=5)(hn:(rs.length:Int)=n)(hr:∀ps∈rs,Rw n ps):∃out s',iL.p [.pen,.int n,.lst (lsD rs)] s=.ok (.lst out) s'/\∀d∈out,Bw n d:=by
 have hl:(lsD rs).length<=5:=by simp[lsD];ext
 obtain⟨a,s1,a0,a1,qa⟩:=dB (s:=s) (size:=n) (by ext) (by ext);obtain⟨j,s2,j0,j1,qj⟩:=dB (s:=s1) (size:=n) (by ext) (by ext);obtain⟨r,er,mr⟩:=wZ (ds:=lsD rs) a0 (by simp[lsD];ext);obtain⟨ps,hp,rfl⟩:=qaz.mp mr
 have c1:=jc (ws:=[7]) (ws':=[]) (env:=[some .pen,some (.int n),some (.lst (lsD rs)),some (.int a),some (.int j),none,none,none,none,none,none,none]) (s:=s2) (fm:=[4]) (i:=bL (ak oIx (ad 2) (ad 3))) (t:=xB (ak oNe (ak oIx (ad 0) (xC (.int 0))) (ad 1))) (e:=ad 0) (ds:=ps.map prtD) (fun x=>!decide (rkD x=j)) id (by simp[er,D.items]) (by have:=(hr ps hp).len;simp;ext) (fun x hx=>by
  obtain⟨p,_,rfl⟩:=qaz.mp hx
  exact⟨by simp[prtD,at0,rkD,ff,PR.bl];congr,fun _=>by simp⟩)
 rw[List.map_id] at c1;have hE:∀x∈(ps.map prtD).filter (fun x=>!decide (rkD x=j)),El x:=fun x hx=>oE (hr ps hp) x (qbz.mp hx).1;have hR:((ps.map prtD).filter (fun x=>!decide (rkD x=j))).length<=5:=by
  refine qax (qcA _ _) ?_;rw[qaF];exact (hr ps hp).len
 generalize (ps.map prtD).filter (fun x=>!decide (rkD x=j))=R at c1 hE hR;obtain⟨k,s3,k0,k1,qk⟩:=dB (s:=s2) (size:=(R.length:Int)+1) (by ext) (by ext);have five:∀{z8 z9 z10 z11:Option D},(bU 1 [2,3] (bL (au (ac (xC .non) (ac (xC (.int 3)) (ac (xC (.str "row")) (ac (xC (.str "")) (ac xDic xNil))))))) (ws':=[]) (xNm 0) xTrue (ak aI (ak aI (xSl (ad 1) xNo (xPt (ad 2))) (bt (ac (ad 0) xNil))) (xSl (ad 1) (xPt (ak aI (ad 2) (xC (.int 1)))) xNo)):Xe [7]).p [some .pen,some (.int n),some (.lst (lsD rs)),some (.int a),some (.int j),some (.lst R),some (.int k),none,z8,z9,z10,z11] s3=.ok (.lst ([D.non,.int 3,.str "row",.str "",.dic].map (pu1 rs a))) s3:=fun {z8 z9 z10 z11}=>by
  have l1:=cutl (lo:=none) (hi:=some a) hl;have l2:=cutl (lo:=some (a+1)) (hi:=none) hl
  have c:=jc (ws:=[7]) (ws':=[]) (env:=[some .pen,some (.int n),some (.lst (lsD rs)),some (.int a),some (.int j),some (.lst R),some (.int k),none,z8,z9,z10,z11]) (s:=s3) (fm:=[2,3]) (i:=(bL (au (ac (xC .non) (ac (xC (.int 3)) (ac (xC (.str "row")) (ac (xC (.str "")) (ac xDic xNil)))))))) (t:=xTrue) (e:=(ak aI (ak aI (xSl (ad 1) xNo (xPt (ad 2))) (bt (ac (ad 0) xNil))) (xSl (ad 1) (xPt (ak aI (ad 2) (xC (.int 1)))) xNo))) (ds:=[D.non,.int 3,.str "row",.str "",.dic]) (fun _=>true) (pu1 rs a) (by simp[D.items]) (by simp) (fun x hx=>⟨rfl,fun _=>by
   have e1:aI.p (.lst (aO (lsD rs) none (some a))) (.lst [x])=some (.lst (aO (lsD rs) none (some a)++[x])):=cf (by simp;ext);have e2:aI.p (.lst (aO (lsD rs) none (some a)++[x])) (.lst (aO (lsD rs) (some (a+1)) none))=some (.lst (aO (lsD rs) none (some a)++[x]++aO (lsD rs) (some (a+1)) none)):=cf (by simp;ext);have u1:∀{x:D} {s:Pen},(if [x].length<=100000 then PR.ok (D.lst [x]) s else .bad)=.ok (.lst [x]) s:=fun {x s}=>qae (by simp)
   simp only[qaE,qca,qbL,qcn,qcp,aD,bo,oH,aS,aL,Pb,jE,jH,nQ,Pf,dk,aM,u1,e1,cw,cu,im,e2]⟩)
  rw[cQ] at c;exact c
 obtain⟨env',s',e,out,z8,z9,z10,z11,rfl,rfl,ho,hob⟩:=jp (g:=(xNm 8:Xg [7]).p) (b:=bpB.p)
  (fun i env s'=>∃out z8 z9 z10 z11,env=brE n rs a j k R out z8 z9 z10 z11/\s'=s3/\out.length=5+i/\∀d∈out,Bw n d) (bpL n j (nD 1 3)) 0 (brE n rs a j k R ([D.non,.int 3,.str "row",.str "",.dic].map (pu1 rs a)) none none none none) s3 ⟨_,_,_,_,_,rfl,rfl,rfl,fun d hd=>by
   obtain⟨x,hx,rfl⟩:=qaz.mp hd;obtain⟨g1,g2⟩:=uD x hx
   exact qW (j:=j) hl hr g1 (g2 n)⟩ (fun i env s' d ⟨out,z8,z9,z10,z11,hE',hs,ho,hob⟩ hd=>by
   subst hE';obtain⟨hi,hd'⟩:=qaf.mp hd;have hi:i<29:=hi;obtain⟨b1,b2⟩:=bp_no (n:=n) (j:=j) (by ext) d (hd'▸qcs _);refine⟨_,_,s',rfl,br_turn hl hR (by ext),_,_,_,_,_,rfl,hs,by simp;ext,fun d' hd=>?_⟩;rcases qap.mp hd with hd|hd
   ·exact hob d' hd
   ·rw[qaR.mp hd]
    exact qW (j:=j) hl hr (br_row hR hE b1) (ok_part b2))
 have ho:out.length=34:=ho;have l1:=cutl (lo:=none) (hi:=some k) hR;have l2:=cutl (lo:=some k) (hi:=none) hR;generalize hA:aO R none (some k)=A at l1;generalize hB:aO R (some k) none=B at l2;have mA:∀x∈A,El x:=fun x hx=>hE x (dD (hA▸hx));have mB:∀x∈B,El x:=fun x hx=>hE x (dD (hB▸hx));have u1:∀{x:D} {s:Pen},(if [x].length<=100000 then PR.ok (D.lst [x]) s else .bad)=.ok (.lst [x]) s:=fun {x s}=>qae (by simp);have u3:∀{x y z:D} {s:Pen},(if [x,y,z].length<=100000 then PR.ok (D.lst [x,y,z]) s else .bad)=.ok (.lst [x,y,z]) s:=fun {x y z s}=>qae (by simp);have v0:∀{s:Pen},(if ([]:List D).length<=100000 then PR.ok (D.tup []) s else .bad)=.ok (.tup []) s:=fun {s}=>qae (by decide);have v2:∀{x y:D} {s:Pen},(if [x,y].length<=100000 then PR.ok (D.tup [x,y]) s else .bad)=.ok (.tup [x,y]) s:=fun {x y s}=>qae (by simp);have eA:∀{x:D},aI.p (.lst A) (.lst [x])=some (.lst (A++[x])):=fun {x}=>cf (by simp;ext);have eB:∀{x:D},aI.p (.lst (A++[x])) (.lst B)=some (.lst (A++[x]++B)):=fun {x}=>cf (by simp;ext);have eC:∀{x y:D},aI.p (.lst (A++[x]++B)) (.lst [y])=some (.lst (A++[x]++B++[y])):=fun {x y}=>cf (by simp;ext);have eD:∀{x:D},aI.p (.lst [x]) (.lst R)=some (.lst ([x]++R)):=fun {x}=>cf (by simp;ext);have eE:∀{x y:D},aI.p (.lst ([x]++R)) (.lst [y])=some (.lst ([x]++R++[y])):=fun {x y}=>cf (by simp;ext);have eF:∀{y:D},aI.p (.lst (lsD rs)) (.lst [y])=some (.lst (lsD rs++[y])):=fun {y}=>cf (by simp;ext)
 have g9:Gr (.lst (A++[.tup [.int j,nD 1 3]]++B++[.tup [.int j,nD 1 3]])):=gr_l (fun x hx=>by
  simp only[qap,qaR] at hx;rcases hx with ((hx|rfl)|hx)|rfl
  ·exact mA x hx
  ·exact el_j (by decide)
  ·exact mB x hx
  ·exact el_j (by decide)) (by simp;ext)
 have g10:Gr (.lst ([.tup [.int j,nD 2 1]]++R++[.tup [.int j,nD 1 3]])):=gr_l (fun x hx=>by
  simp only[qap,qaR] at hx;rcases hx with (rfl|hx)|rfl
  ·exact el_j (by decide)
  ·exact hE x hx
  ·exact el_j (by decide)) (by simp;ext)
 have o9:=rR (n:=n) (A:=A) (B:=B) (x:=.tup [.int j,nD 1 3]) (y:=.tup [.int j,nD 1 3]) rfl;have o10:okR n (.lst ([.tup [.int j,nD 2 1]]++R++[.tup [.int j,nD 1 3]]))=false:=rR (n:=n) (A:=[]) (B:=R) (x:=.tup [.int j,nD 2 1]) (y:=.tup [.int j,nD 1 3]) rfl;have b9:=qW (a:=a) (j:=j) hl hr g9 o9;have b10:=qW (a:=a) (j:=j) hl hr g10 o10;have b11:Bw n (.lst (aO (lsD rs) none (some (-1)))):=⟨_,rfl,qax og (by ext),fun r h=>qX hr r (dD h),.inl (by have:=yo (ls:=lsD rs) (by simp[lsD];ext);simp[lsD] at this ⊢;ext)⟩
 have b12:∀y:D,Gr y->Bw n (.lst (lsD rs++[y])):=fun y hy=>⟨_,rfl,by simp;ext,fun r h=>by
  rcases qap.mp h with h|h
  ·exact qX hr r h
  ·rw[qaR.mp h];exact hy,.inl (by simp[lsD];ext)⟩
 have eG:∀{X Y Z P Q:D},aI.p (.lst (out++[P]++[Q])) (.lst [X,Y,Z])=some (.lst (out++[P]++[Q]++[X,Y,Z])):=fun {X Y Z P Q}=>cf (by simp;ext);refine⟨out++[pu1 rs a (.lst (A++[.tup [.int j,nD 1 3]]++B++[.tup [.int j,nD 1 3]]))]++[pu1 rs a (.lst ([.tup [.int j,nD 2 1]]++R++[.tup [.int j,nD 1 3]]))]++[.lst (aO (lsD rs) none (some (-1))),.lst (lsD rs++[.tup []]),.lst (lsD rs++[.non])],s',?_,fun d hd=>?_⟩
 ·rw[qR (by rfl)];unfold iB;rw[show dSt 12 [D.pen,D.int n,.lst (lsD rs)]=[some .pen,some (.int n),some (.lst (lsD rs)),none,none,none,none,none,none,none,none,none] from rfl,aE,bO];dsimp![bG,aD,aS,aL,Pb,aM,qa,Pg];rw[aE,bO];dsimp![bG,aD,aS,aL,Pb,aM,qj,Pg];rw[aE,bO,c1];dsimp![Pg];rw[aE,bO];dsimp![bG,aD,aS,aL,Pb,aM,bo,fK,cLen_l,Pf,cw,cu,im,qk,Pg];rw[aE,pc,five];dsimp![Pg];rw[aE,gz,fH];simp only[bG,aD,aS,aL,Pb,aM,bY,cw,cu,v2,bp_p];rw[show (D.lst (bpL n j (nD 1 3))).items=some (bpL n j (nD 1 3)) from rfl,Pf,Pg];refine (congrArg (fun z:PS=>(z.then _).fin) e).trans ?_;rw[PU.aq,aE,bO];dsimp![bo,oH,aS,aL,Pb,jE,jH,nQ,Pf,dk,bY,cw,cu,aD,aM,u1,v2,hA,hB,eA,eB,eC,Pg];rw[aE,jq (s1:=s') (as:=[pu1 rs a (.lst (A++[.tup [.int j,nD 1 3]]++B++[.tup [.int j,nD 1 3]]))]) (ds:=out) (ds':=out++[pu1 rs a (.lst (A++[.tup [.int j,nD 1 3]]++B++[.tup [.int j,nD 1 3]]))]) (r:=.non) (wN (z9:=some _) hl rfl) rfl (by rw[gC (by ext)])];dsimp![PU.aq];rw[aE,bO];dsimp![bo,aS,aL,Pb,Pf,dk,bY,cw,cu,aD,aM,u1,v2,eD,eE,Pg];rw[aE,jq (s1:=s') (as:=[pu1 rs a (.lst ([.tup [.int j,nD 2 1]]++R++[.tup [.int j,nD 1 3]]))]) (ds:=out++[pu1 rs a (.lst (A++[.tup [.int j,nD 1 3]]++B++[.tup [.int j,nD 1 3]]))]) (ds':=out++[pu1 rs a (.lst (A++[.tup [.int j,nD 1 3]]++B++[.tup [.int j,nD 1 3]]))]++[pu1 rs a (.lst ([.tup [.int j,nD 2 1]]++R++[.tup [.int j,nD 1 3]]))]) (r:=.non) (wN (z10:=some _) hl rfl) rfl (by rw[gC (by simp;ext)])];dsimp![PU.aq];simp only[iO,bo,oH,aS,aL,Pb,jE,jH,mn,show fQ.p (.int 1)=some (.int (-1)) from rfl,nQ,Pf,dk,bY,cw,cu,gE,aD,aM,u1,u3,v0,eF,eG,Pg,PU.rE]
 ·simp only[qap,qaj,qaB,or_false] at hd;rcases hd with ((hd|rfl)|rfl)|rfl|rfl|rfl
  ·exact hob d hd
  ·exact b9
  ·exact b10
  ·exact b11
  ·exact b12 _ (gr_t (by simp) (by simp))
  ·exact b12 _ (uD _ (by simp)).1
def Ns(d:D):Prop:=gd d=true/\rsOk d/\shB d=false
def ns_k{d:D}{s:Pen}(h:Ns d):ck.p [d] s=.ok (.bl false) s:=by rw[pB h.1 h.2.1,h.2.2]
def xX{n:Int}{rs:List (List Prt)}(h:∀ps∈rs,Rw n ps):∀x∈rs.map rwD,El x/\∀ds,x=.tup ds->ds.length<=66:=fun x hx=>by
 obtain⟨ps,hp,rfl⟩:=qaz.mp hx;have g:=gr_t (oE (h ps hp)) (by rw[qaF];have:=(h ps hp).len;ext);exact g.2
def gR{ds:List D}(h:∀x∈ds,El x):gd (.tup ds)=true/\gd (.lst ds)=true:=by
 have h1:gds ds=true:=jl fun x hx=>(h x hx).1;have h2:sm ds=true:=oM fun x hx=>(h x hx).2;exact⟨by simp[gd,h1,h2],by simp[gd,h1]⟩
def fR{c:D}{rs:List D}(hc:El c)(hm:∀x∈rs,El x/\∀ds,x=.tup ds->ds.length<=66)(hl:rs.length<=1000)(hb:shB (.tup [c,.tup rs])=false):Ns (.tup [c,.tup rs]) :=
 ⟨(gR fun x hx=>by
  simp only[qaj,qaB,or_false] at hx;rcases hx with rfl|rfl
  ·exact hc
  ·exact⟨(gR fun x hx=>(hm x hx).1).1,fun b e=>by cases e⟩).1,fun c' rs' e=>by cases e;exact⟨hl,fun r hr=>(hm r hr).2⟩,hb⟩
def cv{d:D}(h:gd d=true)(hb:∀c rs,d≠.tup [c,.tup rs]):Ns d:=by
 refine⟨h,fun c rs e=>absurd e (hb c rs),?_⟩;unfold shB;split
 ·rename_i c rs;exact absurd rfl (hb _ _)
 ·rfl
def tU{i:Int}(h:i<2 ^ 190):El (.int i):=⟨by simp[gd],fun b e=>by cases e;exact h⟩
def xt{c:Int}{rs:List D}(h:(rs.length:Int)≠c):shB (.tup [.int c,.tup rs])=false:=by
 show (_ && (decide _ && _))=false;rw[decide_eq_false h];simp
def sh_row{c:Int}{rs:List D}{x:D}(hx:x∈rs)(h:ft c x=false):shB (.tup [.int c,.tup rs])=false:=by
 show (_ && (_ && List.all _ _))=false;rw[show rs.all (ft c)=false from List.all_eq_false.mpr ⟨x,hx,by rw[h];simp⟩];simp
def nT{c:D}{rs:List D}(h:bT c=false):shB (.tup [c,.tup rs])=false:=qbv.mpr fun q=>by rw[(shB_c q).1] at h;cases h
def wrD(n:Int):D:=.tup [.tup [.int (n - 1),nD 1 2],.tup [.int 0,nD 1 1]]
def wr_no{n:Int}(n0:1<=n):ft n (wrD n)=false:=by
 show (bH n _ && iC _)=false;by_cases z:n=1
 ·have:ndB [.tup [.int (n - 1),nD 1 2],.tup [.int 0,nD 1 1]]=false:=by
   subst z;rfl
  unfold bH;rw[this];simp
 ·have:iC [.tup [.int (n - 1),nD 1 2],.tup [.int 0,nD 1 1]]=false:=by
   unfold iC;refine decide_eq_false fun q=>?_
   have:=(qbc.mp q).1 0 (by simp[rkD,ff])
   simp[rkD,ff] at this;ext
  rw[this];simp
def slT_t{ds:List D}{lo hi:Option Int}:slT (.tup ds) lo hi=some (.tup (aO ds lo hi)):=rfl
def tY{A B:List D}(h:A.length+B.length<=100000):da.p (.tup A) (.tup B)=some (.tup (A++B)):=by
 cases A with
 | nil=>rfl
 | cons a A =>
  show (if A.length+1+B.length<=100000 then _ else _)=_;rw[qae (by simp at h;ext)]
def yC{A B:List D}(h:A.length+B.length<=100000):da.p (.lst A) (.lst B)=some (.lst (A++B)):=cf h
def tK{i j:Int}:da.p (.int i) (.int j)=some (.int (i+j)):=rfl
def va{ds:List D}:(D.lst ds).items=some ds:=rfl
def ib{ds:List D}:(D.tup ds).items=some ds:=rfl
def uo{n:Int}{rs:List (List Prt)}{s:Pen}(n0:1<=n)(n5:n<=5)(hn:(rs.length:Int)=n)(hr:∀ps∈rs,Rw n ps):∃out s',fc.p [.tup [.int n,.tup (rs.map rwD)],.pen] s=.ok (.lst out) s'/\out.length<=1000/\∀d∈out,Ns d:=by
 have hm:=xX hr;have hl:((rs.map rwD).length:Int)=n:=by rw[qaF];exact hn
 obtain⟨a,s1,a0,a1,qa⟩:=dB (s:=s) (size:=n) (by ext) (by ext);obtain⟨r,er,mr⟩:=wZ (ds:=rs.map rwD) a0 (by ext);obtain⟨ps,hp,rfl⟩:=qaz.mp mr;have lp:ps.length<=5:=(hr ps hp).len;have hT:∀c rs',D.tup (rs.map rwD)≠.tup [c,.tup rs']\/∃es,c=.tup es:=fun c rs'=>by
  by_cases z:D.tup (rs.map rwD)=.tup [c,.tup rs']
  ·injection z with z
   have:c∈rs.map rwD:=by rw[z];simp
   obtain⟨q,_,rfl⟩:=qaz.mp this;exact .inr ⟨_,rfl⟩
  ·exact .inl z
 have hq:∀x∈rs.map rwD,∃ps,x=rwD ps/\ps.length<=5:=fun x hx=>by obtain⟨q,hq,rfl⟩:=qaz.mp hx;exact⟨q,rfl,(hr q hq).len⟩
 generalize rs.map rwD=T at hm hl er hT hq;have hl5:T.length<=5:=by ext
 have l1:=cutl (lo:=none) (hi:=some a) hl5;have l2:=cutl (lo:=some (a+1)) (hi:=none) hl5;have m1:=fun x=>dD (ds:=T) (lo:=none) (hi:=some a) (x:=x);have m2:=fun x=>dD (ds:=T) (lo:=some (a+1)) (hi:=none) (x:=x);have m3:=fun x=>dD (ds:=T) (lo:=none) (hi:=some 1) (x:=x);have l3:=cutl (lo:=none) (hi:=some 1) hl5;have lc:f9.p [rwD ps]=some (.lst (ps.map prtD)):=jI rfl (by rw[qaF];ext);have lT:f9.p [.tup T]=some (.lst T):=jI rfl (by ext);have u4:∀{x1 x2 x3 x4 x5:D} {s:Pen},(if [x1,x2,x3,x4,x5].length<=100000 then PR.ok (D.lst [x1,x2,x3,x4,x5]) s else .bad)=.ok (.lst [x1,x2,x3,x4,x5]) s:=fun {_ _ _ _ _ s}=>qae (by simp);have v4:∀{x1 x2 x3 x4 x5:D} {s:Pen},(if [x1,x2,x3,x4,x5].length<=100000 then PR.ok (D.tup [x1,x2,x3,x4,x5]) s else .bad)=.ok (.tup [x1,x2,x3,x4,x5]) s:=fun {_ _ _ _ _ s}=>qae (by simp);have u8:∀{x1 x2 x3 x4 x5 x6 x7 x8:D} {s:Pen},(if [x1,x2,x3,x4,x5,x6,x7,x8].length<=100000 then PR.ok (D.lst [x1,x2,x3,x4,x5,x6,x7,x8]) s else .bad)=.ok (.lst [x1,x2,x3,x4,x5,x6,x7,x8]) s:=fun {_ _ _ _ _ _ _ _ s}=>qae (by simp);have v0:∀{s:Pen},(if ([]:List D).length<=100000 then PR.ok (D.tup []) s else .bad)=.ok (.tup []) s:=fun {s}=>qae (by decide);have v1:∀{x:D} {s:Pen},(if [x].length<=100000 then PR.ok (D.tup [x]) s else .bad)=.ok (.tup [x]) s:=fun {x s}=>qae (by simp);have v2:∀{x y:D} {s:Pen},(if [x,y].length<=100000 then PR.ok (D.tup [x,y]) s else .bad)=.ok (.tup [x,y]) s:=fun {x y s}=>qae (by simp);have v3:∀{x y z:D} {s:Pen},(if [x,y,z].length<=100000 then PR.ok (D.tup [x,y,z]) s else .bad)=.ok (.tup [x,y,z]) s:=fun {x y z s}=>qae (by simp);have u2:∀{x y:D} {s:Pen},(if [x,y].length<=100000 then PR.ok (D.lst [x,y]) s else .bad)=.ok (.lst [x,y]) s:=fun {x y s}=>qae (by simp);have pw:fo.p (.int 10) (.int 60)=some (.int (10 ^ 60)):=qae ⟨by decide,by decide,by decide⟩;have ng:fQ.p (.int 1)=some (.int (-1)):=rfl;have ml:wB.p (.tup [.tup []]) (.int 13)=some (.tup (List.replicate 13 [D.tup []]).flatten):=by
  unfold wB;dsimp only;rw[qae ⟨by simp,by decide,by decide,by simp⟩];rfl
 generalize hK:(10:Int) ^ 60=K at pw
 have c:=jc (ws:=[]) (ws':=[]) (env:=[some (.tup [.int n,.tup T]),some .pen,some (.int a),some (wrD n),none,some (.int n),some (.tup T)]) (s:=s1) (fm:=[5,6,2]) (i:=(bL (au (ac (xCb f9 (ac (ak oIx (ad 6) (ad 2)) xNil)) (ac (ad 3) (ac xDic (ac (xC .non) (ac (xC (.int 0)) xNil)))))))) (t:=xTrue) (e:=(au (ac (ad 1) (ac (ak da (ak da (pH (ad 2) xNo (xPt (ad 3))) (au (ac (ad 0) xNil))) (pH (ad 2) (xPt (ak da (ad 3) (xC (.int 1)))) xNo)) xNil)))) (ds:=[.lst (ps.map prtD),wrD n,.dic,.non,.int 0]) (fun _=>true) (fun x=>.tup [.int n,.tup (aO T none (some a)++[x]++aO T (some (a+1)) none)]) (by
   simp only[fH,bY,aD,fK,bo,aS,aL,Pb,oIx_t,er,Pf,aM,lc,rO,cw,gE,cu,v4,ib]) (by simp) (fun x hx=>⟨rfl,fun _=>by
   have e1:da.p (.tup (aO T none (some a))) (.tup [x])=some (.tup (aO T none (some a)++[x])):=tY (by simp;ext);have e2:da.p (.tup (aO T none (some a)++[x])) (.tup (aO T (some (a+1)) none))=some (.tup (aO T none (some a)++[x]++aO T (some (a+1)) none)):=tY (by simp;ext)
   simp only[qaE,qca,qbL,qcn,qcp,bY,aD,bo,wX,aS,aL,Pb,jE,jH,slT_t,Pf,aM,v1,v2,e1,cw,cu,tK,e2]⟩)
 rw[cQ] at c;have p1:∀{A B:List D},A.length<=1000->B.length<=1000->da.p (.lst A) (.lst B)=some (.lst (A++B)):=fun h1 h2=>yC (by ext);generalize hC:[D.lst (ps.map prtD),wrD n,.dic,.non,.int 0].map (fun x=>D.tup [.int n,.tup (aO T none (some a)++[x]++aO T (some (a+1)) none)])=C at c;have lC:C.length=5:=by rw[<-hC];rfl
 refine⟨C++[.tup [.int n,.lst T],.lst [.int n,.tup T],.tup [.int n,.tup T,.tup []],.tup [.int n],.tup T]++[.int n,.str "sheet",.dic,.non,.bl true,.int K,.tup [.int n,.non],.tup [.non,.tup T]]++[.tup [.bl true,.tup (aO T none (some 1))],.tup [.int (n+1),.tup T],.tup [.int (n - 1),.tup T],.tup [.int (-1),.tup []],.tup [.int 13,.tup (List.replicate 13 [D.tup []]).flatten]],s1,?_,by simp[lC],fun d hd=>?_⟩
 ·rw[pd (by rfl)];unfold gJ;rw[show dSt 7 [D.tup [.int n,.tup T],.pen]=[some (.tup [.int n,.tup T]),some .pen,none,none,none,none,none] from rfl];have st0:(xAsg (ad 0) (xGp (xGc (xNm 5) (xGc (xNm 6) xGl)) 2):Xd []).p [some (.tup [.int n,.tup T]),some .pen,none,none,none,none,none] s=.nx [some (.tup [.int n,.tup T]),some .pen,none,none,none,some (.int n),some (.tup T)] s:=rfl;rw[aE,st0,PU.aq,aE,bO];dsimp![bG,aD,aS,aL,Pb,aM,qa,Pg];rw[aE,bO];dsimp![bY,bo,aD,aS,aL,Pb,aM,cw,cu,jB,Pf,v2,Pg];rw[aE,bO];refine (congrArg (fun z:PR D=>(((z.go _ _).then _).fin)) c).trans ?_;dsimp![Pg];rw[aE,bO];simp only[bo,dk,bY,fK,aD,aS,aL,Pb,aM,lT,Pf,v0,v1,v2,v3,u2,u4];rw[p1 (by ext) (by simp)];dsimp![Pf,Pg];rw[aE,bO];simp only[bo,dk,bY,rO,aD,aS,aL,Pb,aM,cw,cu,iJ,gE,kf,pw,Pf,v2,u8];rw[p1 (by simp[lC]) (by simp)];dsimp![Pf,Pg];rw[iO];simp only[bo,mn,dk,bY,wX,jE,jH,slT_t,aD,aS,aL,Pb,aM,cw,cu,kf,ng,ml,tK,jB,Pf,v0,v1,v2,u4];rw[p1 (by simp[lC]) (by simp)];rfl
 ·simp only[qap,qaj,qaB,or_false] at hd;have gT:=(gR fun x hx=>(hm x hx).1);have eT:El (.tup T):=⟨gT.1,fun b e=>by cases e⟩;have eL:El (.lst T):=⟨gT.2,fun b e=>by cases e⟩;have eN:El (.int n):=tU (by ext);have eO:El .non:=⟨by simp[gd],fun b e=>by cases e⟩;have eB:El (.bl true):=⟨by simp[gd],fun b e=>by cases e⟩;have e0:El (.tup []):=⟨by simp[gd,gds,sm],fun b e=>by cases e⟩;rcases hd with ((hd|hd|hd|hd|hd|hd)|hd|hd|hd|hd|hd|hd|hd|hd)|hd|hd|hd|hd|hd
  ·rw[<-hC] at hd;obtain⟨x,hx,rfl⟩:=qaz.mp hd;have hx':(El x/\∀ds,x=.tup ds->ds.length<=66)/\ft n x=false:=by
    simp only[qaj,qaB,or_false] at hx;rcases hx with rfl|rfl|rfl|rfl|rfl
    ·exact⟨⟨⟨(gR (oE (hr ps hp))).2,fun b e=>by cases e⟩,fun ds e=>by cases e⟩,rfl⟩
    ·exact⟨⟨⟨by simp[wrD,gd,gds,sm],fun b e=>by cases e⟩,fun ds e=>by cases e;simp⟩,wr_no n0⟩
    ·exact⟨⟨⟨by simp[gd],fun b e=>by cases e⟩,fun ds e=>by cases e⟩,rfl⟩
    ·exact⟨⟨⟨by simp[gd],fun b e=>by cases e⟩,fun ds e=>by cases e⟩,rfl⟩
    ·exact⟨⟨⟨by simp[gd],fun b e=>by cases e;decide⟩,fun ds e=>by cases e⟩,rfl⟩
   refine fR eN (fun y hy=>?_) (by simp;ext) (sh_row (x:=x) (by simp) hx'.2);simp only[qap,qaR] at hy;rcases hy with (hy|rfl)|hy
   ·exact hm y (m1 y hy)
   ·exact hx'.1
   ·exact hm y (m2 y hy)
  all_goals subst hd
  ·exact cv (gR (by simp;exact⟨eN,eL⟩)).1 fun c rs e=>by cases e
  ·exact cv (gR (by simp;exact⟨eN,eT⟩)).2 fun c rs e=>by cases e
  ·exact cv (gR (by simp;exact⟨eN,eT,e0⟩)).1 fun c rs e=>by cases e
  ·exact cv (gR (by simp;exact eN)).1 fun c rs e=>by cases e
  ·by_cases z:∃c rs',D.tup T=.tup [c,.tup rs']
   ·obtain⟨c,rs',z⟩:=z;rcases hT c rs' with q|⟨es,rfl⟩
    ·exact absurd z q
    ·refine⟨gT.1,fun c' rs2 e=>?_,by rw[z];rfl⟩;rw[z] at e;cases e;injection z with z
     obtain⟨q,eq,lq⟩:=hq (.tup rs') (by rw[z];simp);cases eq;refine⟨by rw[qaF];ext,fun r hr es e=>?_⟩;obtain⟨p,_,rfl⟩:=qaz.mp hr;cases e;simp
   ·exact cv gT.1 fun c rs e=>z ⟨c,rs,e⟩
  ·exact cv (by simp[gd]) fun c rs e=>by cases e
  ·exact cv (by simp[gd]) fun c rs e=>by cases e
  ·exact cv (by simp[gd]) fun c rs e=>by cases e
  ·exact cv (by simp[gd]) fun c rs e=>by cases e
  ·exact cv (by simp[gd]) fun c rs e=>by cases e
  ·exact cv (by simp[gd]) fun c rs e=>by cases e
  ·exact cv (gR (by simp;exact⟨eN,eO⟩)).1 fun c rs e=>by cases e
  ·exact fR eO hm (by ext) (nT rfl)
  ·exact fR eB (fun x hx=>hm x (m3 x hx)) (by ext) (nT rfl)
  ·exact fR (tU (by ext)) hm (by ext) (xt (by ext))
  ·exact fR (tU (by ext)) hm (by ext) (xt (by ext))
  ·exact fR (tU (by decide)) (by simp) (by simp) (nT rfl)
  ·exact fR (tU (by decide)) (fun x hx=>by
    have:x=.tup []:=by simpa using hx
    subst this
    exact⟨e0,fun ds e=>by cases e;simp⟩) (by simp) (nT rfl)
def smO(k:Nat)(d:D):Prop:=∀s,(fT k).p [d,d] s=.ok (.bl true) s
def sT{k:Nat}{i:Int}:smO (k+1) (.int i):=fun s=>by
 rw[pW (by rfl)];unfold jY;simp[dSt,ba,PR.bl,oIs]
def lG{k:Nat}{ds:List D}(hl:ds.length<=1000)(h:∀x∈ds,smO k x):smO (k+1) (.tup ds):=fun s=>by
 rw[pW (by rfl)];unfold jY;rw[show dSt 2 [D.tup ds,.tup ds]=[some (.tup ds),some (.tup ds)] from rfl]
 have c:=comp2 (ws:=[]) (ws':=[]) (env:=[some (.tup ds),some (.tup ds)]) (s:=s) (fm:=[]) (i:=ni iZ (ac (ad 0) (ac (ad 1) xNil))) (t:=xTrue) (e:=ar (fT k) (ac (ad 0) (ac (ad 1) xNil))) (ds:=jX ds ds) (fun _=>true) (fun _=>.bl true) (by simp) (by simp[jX];ext) (fun x hx=>by
  obtain⟨p,hp,rfl⟩:=qaz.mp hx;have e:p.1=p.2:=by
   have:=qbJ hp
   rw[List.zip_eq_zipWith,List.zipWith_self] at hp;obtain⟨x,_,rfl⟩:=qaz.mp hp;rfl
  have h1:=h p.1 (qbJ hp).1 s;rw[<-e]
  exact⟨_,_,rfl,rfl,fun _=>by simp[h1]⟩)
 rw[cQ] at c;have ca:sR.p [.lst ((jX ds ds).map fun _=>.bl true)]=some (.bl true):=by
  rw[vM (f:=fun _=>true)];simp
 have t1:(xB (ak (oIs false) (ad 1) (xC .non)):Xt []).p [some (.tup ds),some (.tup ds)] s=.ok false s:=rfl;have t2:(xB (xUn (b8 ["list","tuple"]) (ad 1)):Xt []).p [some (.tup ds),some (.tup ds)] s=.ok true s:=by simp[ba,PR.bl]
 have t3:(xOr (cD (xB (xUn (b8 ["list","tuple"]) (ad 0)))) (xB (ak oNe (xUn (b8 ["list"]) (ad 0)) (xUn (b8 ["list"]) (ad 1)))):Xt []).p [some (.tup ds),some (.tup ds)] s=.ok false s:=by simp[ba,PR.bl]
 rw[aE,dv,t1];simp_all![PU.aq];rw[aE,dv,t2];simp only[Pg,if_true];rw[aE,dv,t3];simp_all![PU.aq];rw[iO,pQ];have ln:(ak oEq (xCb fI (ac (ad 0) xNil)) (xCb fI (ac (ad 1) xNil)):Xe []).p [some (.tup ds),some (.tup ds)] s=.ok (.bl true) s:=by simp
 rw[ln,Pl,Pb,qae rfl,fK,aD,c];simp only[Pb,aM,ca,Pf];rfl
def sm_prt{k:Nat}{p:Prt}:smO (k+3) (prtD p):=lG (by simp) fun x hx=>by
 simp only[qaj,qaB,or_false] at hx;rcases hx with rfl|rfl
 ·exact sT
 ·exact lG (by simp) fun x hx=>by
   simp only[qaj,qaB,or_false] at hx;rcases hx with rfl|rfl <;> exact sT
def same_p{n:Int}{rs:List (List Prt)}{s:Pen}(hl:rs.length<=5)(hr:∀ps∈rs,Rw n ps):sJ.p [.tup [.int n,.tup (rs.map rwD)],.tup [.int n,.tup (rs.map rwD)]] s=.ok (.bl true) s:=by
 refine lG (k:=7) (by simp) (fun x hx=>?_) s;simp only[qaj,qaB,or_false] at hx;rcases hx with rfl|rfl
 ·exact sT
 ·refine lG (k:=6) (by rw[qaF];ext) fun x hx=>?_;obtain⟨ps,hp,rfl⟩:=qaz.mp hx;refine lG (k:=5) (by rw[qaF];have:=(hr ps hp).len;ext) fun x hx=>?_;obtain⟨p,_,rfl⟩:=qaz.mp hx;exact sm_prt
def rG{n:Int}{ps:List Prt}(h:Rw n ps):bH n (ps.map prtD)=true/\iC (ps.map prtD)=true:=by
 have ri:(ps.map fun p:Prt=>p.1).Pairwise (·<·):=qbn.mpr h.ris;refine⟨?_,?_⟩
 ·unfold bH;rw[qaG];refine⟨qbr.mpr fun x hx=>?_,?_⟩
  ·obtain⟨p,hp,rfl⟩:=qaz.mp hx;obtain⟨h0,h1,h2,h3⟩:=h.mem p hp;have hb:=h2.b1;have hg:=h2.g1;simp[prtD,cP,plB,eQ,zrB,h0,h1,hb,hg,h3]
  ·unfold ndB;rw[lw];exact decide_eq_true (ri.imp fun h=>by ext)
 ·unfold iC;rw[lw];exact decide_eq_true (ri.imp fun h=>by ext)
def srt_rw{n:Int}{ps:List Prt}(h:Rw n ps):aN rkD (ps.map prtD)=ps.map prtD:=by
 have ri:(ps.map fun p:Prt=>p.1).Pairwise (·<·):=qbn.mpr h.ris;have s1:aN rkD (ps.map prtD)=(aN (fun p:Prt=>p.1) ps).map prtD:=by rw[gv];rfl
 rw[s1,<-jT (.refl _) (ri.imp fun h=>by ext) (qbn.mp (ri.imp fun h=>by ext))]
def xP{n:Int}{rs:List (List Prt)}{s:Pen}(n0:1<=n)(n5:n<=5)(hn:(rs.length:Int)=n)(hr:∀ps∈rs,Rw n ps):bq.p [.int n,.lst (lsD rs)] s=.ok (.tup [.int n,.tup (rs.map rwD)]) s:=by
 rw[so_ok (rs:=lsD rs) (by simp[bT];ext) rfl (by simp[lsD];exact hn) (fun r h=>(qX hr r h).1) (qbr.mpr fun x hx=>by
  obtain⟨ps,hp,rfl⟩:=qaz.mp hx
  exact (rG (hr ps hp)).1)]
 congr 5;unfold lsD;rw[qbe];refine qbY fun ps hp=>?_;show D.tup (aN rkD (ps.map prtD))=_;rw[srt_rw (hr ps hp)]
def is_rows{n:Int}{rs:List (List Prt)}{s:Pen}(n0:1<=n)(n5:n<=5)(hn:(rs.length:Int)=n)(hr:∀ps∈rs,Rw n ps):ck.p [.tup [.int n,.tup (rs.map rwD)]] s=.ok (.bl true) s:=by
 have hm:=xX hr;rw[pB (gd_sh (jl fun x hx=>(hm x hx).1.1) (oM fun x hx=>(hm x hx).1.2)) fun c rs' e=>by cases e;exact⟨by rw[qaF];ext,fun r hr=>(hm r hr).2⟩]
 have:shB (.tup [.int n,.tup (rs.map rwD)])=true:=by
  show (bT (.int n) && (decide (((rs.map rwD).length:Int)=n) && (rs.map rwD).all (ft n)))=true;rw[qaG,qaG];refine⟨by simp[bT];ext,decide_eq_true (by rw[qaF];exact hn),qbr.mpr fun x hx=>?_⟩;obtain⟨ps,hp,rfl⟩:=qaz.mp hx;obtain⟨h1,h2⟩:=rG (hr ps hp);show (bH n _ && iC _)=true;rw[h1,h2];rfl
 rw[this]
def oz{a b:D}{x y:PyData}(h1:py a=some x)(h2:py b=some y)(d1:dep a<=60)(d2:dep b<=60)(s1:SeqAt.shaped x=true)(s2:SeqAt.shaped y=true):∃v,eqD true a b=some (.bl v):=by
 unfold eqD;rw[h1,h2];dsimp only;rw[qae ⟨⟨d1,d2⟩,s1,s2⟩];exact⟨_,rfl⟩
def xu{neg:Bool}{x:Str}(hs:PyData.strOk x=true):eqD neg (.str x) (.str x)=some (.bl (!neg)):=by
 cases neg <;> simp[eqD,py,dep,SeqAt.shaped,PyData.canLay0,PyData.depth,PyData.eqv,hs]
def nB:eqD true (.str "sheet") (.str "sheet")=some (.bl false):=xu (by decide +kernel)
def yE:eqD true (.str "place") (.str "place")=some (.bl false):=xu (by decide +kernel)
abbrev rgE(n:Int)(T L:D)(z4 z5 z6 z7:Option D):aB:=[some .pen,some (.int n),some T,some L,z4,z5,z6,z7]
def cnL(n K:Int):List D:=[.int (n+1),.int (n - 1),.int (-1),.int 13,.int K,.int (0 - K),.bl true,.non,.str (toString n),.tup [.int n]]
abbrev cnB:Xd []:=(xIf (xAnd (xOr (xB (ak oNe (ad 4) (ad 1))) (xB (xUn (b8 ["bool"]) (ad 4)))) (xB (ak oNe (ar bP (ac (ad 4) (ac (ad 3) xNil))) (xC (.str "sheet"))))) (bi (xC (.bl false))) xSkip)
def cn_turn{n:Int}{T L d:D}{z5 z6 z7:Option D}{s:Pen}(h1:∃v,eqD true d (.int n)=some (.bl v))(hk:Kd d)(hm:bP.p [d,L] s=.ok (.str "sheet") s):cnB.p (rgE n T L (some d) z5 z6 z7) s=.nx (rgE n T L (some d) z5 z6 z7) s:=by
 obtain⟨v,h1⟩:=h1;obtain⟨t,ht⟩:=hk;have t2:(xB (ak oNe (ar bP (ac (ad 4) (ac (ad 3) xNil))) (xC (.str "sheet"))):Xt []).p (rgE n T L (some d) z5 z6 z7) s=.ok false s:=by
  simp only[j9,bo,bG,aD,aS,aL,Pb,aM,hm,cw,iJ,ko,nB,Pf,Pl]
 have t1:∃b,(xOr (xB (ak oNe (ad 4) (ad 1))) (xB (xUn (b8 ["bool"]) (ad 4))):Xt []).p (rgE n T L (some d) z5 z6 z7) s=.ok b s:=by
  cases v
  ·exact⟨["bool"].any (ba t),by simp only[qS,j9,bo,mn,aS,aL,Pb,ko,h1,Pf,Pl,qag,if_false,oIsi_p,ht,qbK]⟩
  ·exact⟨true,by simp only[qS,j9,bo,mn,aS,aL,Pb,ko,h1,Pf,Pl,if_true]⟩
 obtain⟨b,t1⟩:=t1;rw[dv,xAnd_p,t1,Pb];cases b
 ·simp
 ·rw[qae rfl,t2];simp
def str_n{n:Int}(n0:1<=n)(n5:n<=5):PyData.strOk (toString n:Str)=true:=by
 have:n=1\/n=2\/n=3\/n=4\/n=5:=by ext
 rcases this with rfl|rfl|rfl|rfl|rfl <;> decide +kernel
def cn_good{n K:Int}{ls:List D}{s:Pen}(n0:1<=n)(n5:n<=5)(hl:(ls.length:Int)=n)(hK:13<=K):∀d∈cnL n K,(∃v,eqD true d (.int n)=some (.bl v))/\Kd d/\bP.p [d,.lst ls] s=.ok (.str "sheet") s:=fun d hd=>by
 have i1:py (.int n)=some (.int n):=by simp[py]
 have i2:dep (.int n)<=60:=by simp[dep]
 have i3:SeqAt.shaped (PyData.int n)=true:=by simp[SeqAt.shaped,PyData.canLay0,PyData.depth]
 have ii:∀i:Int,∃v,eqD true (.int i) (.int n)=some (.bl v):=fun i=>⟨_,eqD_ii⟩;have bad:∀c:D,Kd c->bT c=false->bP.p [c,.lst ls] s=.ok (.str "sheet") s:=fun c h1 h2=>k8 (so_cnt h1 h2);have st:=str_n n0 n5;unfold cnL at hd;simp only[qaj,qaB,or_false] at hd;rcases hd with rfl|rfl|rfl|rfl|rfl|rfl|rfl|rfl|rfl|rfl
 ·exact⟨ii _,⟨_,rfl⟩,k8 (sD (by simp[bT];ext) rfl (by ext))⟩
 ·exact⟨ii _,⟨_,rfl⟩,k8 (sD (by simp[bT];ext) rfl (by ext))⟩
 ·exact⟨ii _,⟨_,rfl⟩,bad _ ⟨_,rfl⟩ rfl⟩
 ·exact⟨ii _,⟨_,rfl⟩,bad _ ⟨_,rfl⟩ rfl⟩
 ·exact⟨ii _,⟨_,rfl⟩,bad _ ⟨_,rfl⟩ (by simp[bT];ext)⟩
 ·exact⟨ii _,⟨_,rfl⟩,bad _ ⟨_,rfl⟩ (by simp[bT];ext)⟩
 ·exact⟨oz (by simp[py];rfl) i1 (by simp[dep]) i2 (by simp[SeqAt.shaped,PyData.canLay0,PyData.depth]) i3,⟨_,rfl⟩,bad _ ⟨_,rfl⟩ rfl⟩
 ·exact⟨oz (by simp[py];rfl) i1 (by simp[dep]) i2 (by simp[SeqAt.shaped,PyData.canLay0,PyData.depth]) i3,⟨_,rfl⟩,bad _ ⟨_,rfl⟩ rfl⟩
 ·exact⟨oz (by simp[py];rfl) i1 (by simp[dep]) i2 (by simp[SeqAt.shaped,PyData.canLay0,PyData.depth];exact st) i3,⟨_,rfl⟩,bad _ ⟨_,rfl⟩ rfl⟩
 ·exact⟨oz (by simp[py,pys];rfl) i1 (by simp[dep,deps]) i2 (by simp[SeqAt.shaped,PyData.canLay0,PyData.canLayAll0,PyData.depth,PyData.depthAll]) i3,⟨_,rfl⟩,bad _ ⟨_,rfl⟩ rfl⟩
abbrev rwB:Xd []:=(xIf (xB (ak oNe (ar bP (ac (ad 1) (ac (ad 5) xNil))) (xC (.str "sheet")))) (bi (xC (.bl false))) xSkip)
def roL(n:Int):List D:=[.non,.int n,.str "rows",.dic,.tup []]
def ro_turn{n:Int}{T L:D}{z4 z6 z7:Option D}{s:Pen}(n0:1<=n)(n5:n<=5):∀d∈roL n,rwB.p (rgE n T L z4 (some d) z6 z7) s=.nx (rgE n T L z4 (some d) z6 z7) s:=fun d hd=>by
 have hm:bP.p [.int n,d] s=.ok (.str "sheet") s:=by
  refine k8 (xL (by simp[bT];ext) ?_ ?_)
  ·unfold roL at hd;simp only[qaj,qaB,or_false] at hd;rcases hd with rfl|rfl|rfl|rfl|rfl <;> exact⟨_,rfl⟩
  ·unfold roL at hd;simp only[qaj,qaB,or_false] at hd;rcases hd with rfl|rfl|rfl|rfl|rfl
   ·exact .inl rfl
   ·exact .inl rfl
   ·exact .inl rfl
   ·exact .inl rfl
   ·exact .inr ⟨[],rfl,.inl (by simp;ext)⟩
 rw[dv];simp_all![j9,bo,bG,aD,aS,aL,Pb,aM,hm,cw,iJ,ko,nB,Pf,Pl]
abbrev bdB:Xd []:=(xIf (xOr (xB (ak oNe (ar bP (ac (ad 1) (ac (ad 6) xNil))) (xC (.str "sheet")))) (xB (ak (oIs true) (ar ck (ac (au (ac (ad 1) (ac (ar fM (ac (ad 6) xNil)) xNil))) xNil)) (xC (.bl false))))) (bi (xC (.bl false))) xSkip)
def bd_turn{n:Int}{T L d:D}{z4 z5 z7:Option D}{s:Pen}(n0:1<=n)(n5:n<=5)(h:Bw n d):bdB.p (rgE n T L z4 z5 (some d) z7) s=.nx (rgE n T L z4 z5 (some d) z7) s:=by
 obtain⟨h1,h2⟩:=bw_so h;have hm:bP.p [.int n,d] s=.ok (.str "sheet") s:=k8 (xL (by simp[bT];ext) h1 h2);obtain⟨d',q1,q2⟩:=bw_sh (s:=s) h;have v2:∀{x y:D} {s:Pen},(if [x,y].length<=100000 then PR.ok (D.tup [x,y]) s else .bad)=.ok (.tup [x,y]) s:=fun {x y s}=>qae (by simp);have is1:(oIs true).p (.bl false) (.bl false)=some (.bl false):=rfl;rw[dv];simp_all![qS,j9,bo,bG,aD,aS,aL,Pb,aM,hm,cw,iJ,kf,ko,nB,Pf,Pl,q1,bY,v2,q2,is1]
abbrev plT:Xd []:=(xIf (xOr (xB (ak oNe (ar dm (ac (au (ac (ad 1) (ac (ad 2) xNil))) (ac (ad 7) (ac (xC (.int 0)) xNil)))) (xC (.str "place")))) (xB (ak oNe (ar dm (ac (au (ac (ad 1) (ac (ad 2) xNil))) (ac (ak fu (ad 1) (xC (.int 1))) (ac (ad 7) xNil)))) (xC (.str "place"))))) (bi (xC (.bl false))) xSkip)
def plL(n K:Int):List D:=[.int n,.int (-1),.bl true,.non,.str "0",.tup [.int 0],.int K,.int (0 - K),.lst []]
def pl_turn{n K:Int}{T L:D}{z4 z5 z6:Option D}{s:Pen}(n0:1<=n)(n5:n<=5)(hK:13<=K):∀d∈plL n K,plT.p (rgE n T L z4 z5 z6 (some d)) s=.nx (rgE n T L z4 z5 z6 (some d)) s:=fun d hd=>by
 have hd':Kd d/\plB n d=false:=by
  unfold plL at hd;simp only[qaj,qaB,or_false] at hd;rcases hd with rfl|rfl|rfl|rfl|rfl|rfl|rfl|rfl|rfl
  all_goals refine⟨⟨_,rfl⟩,?_⟩
  all_goals first | (rfl;done) | (simp[plB];done) | (simp[plB];ext)
 have a1:dm.p [.tup [.int n,T],d,.int 0] s=.ok (.str "place") s:=vD (xR hd'.1 ⟨_,rfl⟩ (.inl hd'.2));have a2:dm.p [.tup [.int n,T],.int (n - 1),d] s=.ok (.str "place") s:=vD (xR ⟨_,rfl⟩ hd'.1 (.inr ⟨by simp[plB];ext,hd'.2⟩));have v2:∀{x y:D} {s:Pen},(if [x,y].length<=100000 then PR.ok (D.tup [x,y]) s else .bad)=.ok (.tup [x,y]) s:=fun {x y s}=>qae (by simp);rw[dv];simp_all![qS,j9,bo,bG,aD,aS,aL,Pb,aM,bY,v2,a1,a2,cw,iJ,cu,jB,ko,yE,Pf,Pl]
def oX{g:D->aB->Option aB}{b:aB->Pen->PS}{s:Pen}(E:Option D->aB)(hg:∀d z,g d (E z)=some (E (some d)))(ds:List D)(h:∀d∈ds,b (E (some d)) s=.nx (E (some d)) s):∃z,pGo g b ds (E none) s=.nx (E z) s:=by
 obtain⟨env',s',e,z,rfl,rfl⟩:=jp (g:=g) (b:=b) (fun _ env s'=>∃z,env=E z/\s'=s) ds 0 (E none) s ⟨none,rfl,rfl⟩ (fun j env s' d ⟨z,hE,hs⟩ hd=>by
  subst hE;subst hs
  exact⟨_,_,s',hg d z,h d (qbm hd),_,rfl,rfl⟩)
 exact⟨z,e⟩
def comp_st{ws ws':List Nat}{env:aB}{s s0:Pen}{fm:List Nat}{i:Xi ws}{t:Xt ws'}{e:Xe ws'}{ds:List D}(p:D->Bool)(f:D->D)(ei:i.p env s=.ok ds s0)(hl:ds.length<=100000)
  (body:∀x∈ds,t.p (some x::fm.map fun i=>(env[i]?).getD none) s0=.ok (p x) s0/\(p x=true->e.p (some x::fm.map fun i=>(env[i]?).getD none) s0=.ok (f x) s0)) (h0:ws'.contains 0=false:=by exact ys rfl) (hw:cws 1 fm ws=ws':=by exact ys rfl) (hz:e.fz=true:=by exact ys rfl) :
  (bU 1 fm i (xNm 0 h0) t e hw hz).p env s=.ok (.lst ((ds.filter p).map f)) s0:=by
 rw[pg,ei,Pb,qae hl];unfold cenv
 rw[jS p f ds _ (by simp) fun x hx vs hv=>match vs,hv with
  | [_],_=>⟨[some x],rfl,rfl,body x hx⟩]
def right_p{s:Pen}:∃s',i8.p [.pen] s=.ok (.bl true) s':=by
 obtain⟨k,s1,k0,k1,qk⟩:=dB (s:=s) (size:=5) (by ext) (by ext);have n0:1<=1+k:=by ext
 have n5:1+k<=5:=by ext
 generalize hn:1+k=n at n0 n5;obtain⟨rs,s2,qr,hl,hr⟩:=rows_p (s:=s1) n0 n5;obtain⟨out,s3,qb,hb⟩:=vO (s:=s2) n0 n5 hl hr;obtain⟨out2,s4,qo,lo,ho⟩:=uo (s:=s3) n0 n5 hl hr;have hK:(13:Int)<=10 ^ 60:=by decide
 have pw:fo.p (.int 10) (.int 60)=some (.int (10 ^ 60)):=qae ⟨by decide,by decide,by decide⟩;generalize (10:Int) ^ 60=K at pw hK;have ll:((lsD rs).length:Int)=n:=by simp[lsD];exact hl
 have v1:∀{x:D} {s:Pen},(if [x].length<=100000 then PR.ok (D.tup [x]) s else .bad)=.ok (.tup [x]) s:=fun {x s}=>qae (by simp);have v2:∀{x y:D} {s:Pen},(if [x,y].length<=100000 then PR.ok (D.tup [x,y]) s else .bad)=.ok (.tup [x,y]) s:=fun {x y s}=>qae (by simp);have v0:∀{s:Pen},(if ([]:List D).length<=100000 then PR.ok (D.tup []) s else .bad)=.ok (.tup []) s:=fun {s}=>qae (by decide);have u0:∀{s:Pen},(if ([]:List D).length<=100000 then PR.ok (D.lst []) s else .bad)=.ok (.lst []) s:=fun {s}=>qae (by decide);have ng:fQ.p (.int 1)=some (.int (-1)):=rfl
 have cs:cStr.p [.int n]=some (.str (toString n)):=qae (by
  have:n=1\/n=2\/n=3\/n=4\/n=5:=by ext
  rcases this with rfl|rfl|rfl|rfl|rfl <;> decide +kernel)
 refine⟨s4,?_⟩;rw[vZ (by rfl)];unfold iY;rw[show dSt 8 [D.pen]=[some .pen,none,none,none,none,none,none,none] from rfl,aE,bO];dsimp![bo,bG,aD,aS,aL,Pb,aM,cw,cu,qk,im,hn,Pf,Pg];rw[aE,bO];dsimp![bG,aD,aS,aL,Pb,aM,qr,Pg]
 have c:=jc (ws:=[]) (ws':=[]) (env:=[some .pen,some (.int n),some (.tup (rs.map rwD)),none,none,none,none,none]) (s:=s2) (fm:=[]) (i:=bL (ad 2)) (t:=xTrue) (e:=xCb f9 (ac (ad 0) xNil)) (ds:=rs.map rwD) (fun _=>true) (fun x=>.lst (x.items.getD [])) (by simp[ib]) (by rw[qaF];ext) (fun x hx=>⟨rfl,fun _=>by
  obtain⟨ps,hp,rfl⟩:=qaz.mp hx
  have:=(hr ps hp).len
  simp[jI (d:=rwD ps) (ds:=ps.map prtD) rfl (by rw[qaF];ext),ib]⟩)
 rw[cQ] at c;have ec:(rs.map rwD).map (fun x=>D.lst (x.items.getD []))=lsD rs:=by rw[qbe];rfl
 rw[ec] at c;rw[aE,bO,c];dsimp![Pg];obtain⟨y4,e4⟩:=oX (g:=(xNm 4:Xg []).p) (b:=cnB.p) (s:=s2) (fun z=>rgE n (.tup (rs.map rwD)) (.lst (lsD rs)) z none none none) (fun d z=>rfl) (cnL n K) fun d hd=>by
  obtain⟨h1,h2,h3⟩:=cn_good (s:=s2) n0 n5 ll hK d hd;exact cn_turn h1 h2 h3
 rw[aE,gz,fH];have i4:(au (ac (ak aI (ad 1) (xC (.int 1))) (ac (ak fu (ad 1) (xC (.int 1))) (ac (xUn fQ (xC (.int 1))) (ac (xC (.int 13)) (ac (ak fo (xC (.int 10)) (xC (.int 60))) (ac (ak fu (xC (.int 0)) (ak fo (xC (.int 10)) (xC (.int 60)))) (ac (xC (.bl true)) (ac (xC .non) (ac (xCb cStr (ac (ad 1) xNil)) (ac (au (ac (ad 1) xNil)) xNil)))))))))):Xe []).p [some .pen,some (.int n),some (.tup (rs.map rwD)),some (.lst (lsD rs)),none,none,none,none] s2=.ok (.tup (cnL n K)) s2:=by
  simp only[bY,aD,bo,mn,fK,aS,aL,Pb,aM,cw,cu,kf,gE,im,jB,pw,ng,cs,v1,Pf];exact qae (by simp)
 rw[i4,Pb,ib,Pf,Pg];refine (congrArg (fun z:PS=>(z.then _).fin) e4).trans ?_;rw[PU.aq];obtain⟨y5,e5⟩:=oX (g:=(xNm 5:Xg []).p) (b:=rwB.p) (s:=s2) (fun z=>rgE n (.tup (rs.map rwD)) (.lst (lsD rs)) y4 z none none) (fun d z=>rfl) (roL n) (ro_turn n0 n5);rw[aE,gz,fH];have i5:(au (ac (xC .non) (ac (ad 1) (ac (xC (.str "rows")) (ac xDic (ac (au xNil) xNil))))):Xe []).p (rgE n (.tup (rs.map rwD)) (.lst (lsD rs)) y4 none none none) s2=.ok (.tup (roL n)) s2:=by
  simp only[bY,aD,aS,aL,Pb,aM,cw,gE,iJ,rO,v0];exact qae (by simp)
 rw[i5,Pb,ib,Pf,Pg];refine (congrArg (fun z:PS=>(z.then _).fin) e5).trans ?_;rw[PU.aq];obtain⟨y6,e6⟩:=oX (g:=(xNm 6:Xg []).p) (b:=bdB.p) (s:=s3) (fun z=>rgE n (.tup (rs.map rwD)) (.lst (lsD rs)) y4 y5 z none) (fun d z=>rfl) out fun d hd=>bd_turn n0 n5 (hb d hd);rw[aE,gz,fH];simp only[bG,aD,aS,aL,Pb,aM,qb];rw[va,Pf,Pg];refine (congrArg (fun z:PS=>(z.then _).fin) e6).trans ?_;rw[PU.aq];have qo':(bL (ar fc (ac (au (ac (ad 1) (ac (ad 2) xNil))) (ac (ad 0) xNil))):Xi []).p (rgE n (.tup (rs.map rwD)) (.lst (lsD rs)) y4 y5 y6 none) s3=.ok out2 s4:=by
  simp only[fH,bG,aD,bY,aS,aL,Pb,aM,v2,qo,va,Pf]
 have c7:=comp_st (ws:=[]) (ws':=[]) (env:=rgE n (.tup (rs.map rwD)) (.lst (lsD rs)) y4 y5 y6 none) (fm:=[]) (t:=xB (ak (oIs true) (ar ck (ac (ad 0) xNil)) (xC (.bl false)))) (e:=ad 0) (fun _=>false) id qo' (by ext) (fun x hx=>⟨by
  have is1:(oIs true).p (.bl false) (.bl false)=some (.bl false):=rfl
  simp only[j9,bo,bG,aD,aL,Pb,aM,ns_k (ho x hx),cw,kf,is1,Pf,Pl],fun q=>by cases q⟩)
 rw[show out2.filter (fun _=>false)=[] from List.filter_eq_nil_iff.mpr (by simp),qca] at c7;have q0:eqD true (.lst []) (.lst [])=some (.bl false):=by simp[eqD,py,pys,dep,deps,SeqAt.shaped,PyData.canLay0,PyData.canLayAll0,PyData.depth,PyData.depthAll,PyData.eqv,PyData.eqvAll]
 rw[aE,dv,j9,bo,c7];simp_all![Pb,dk,aM,u0,ko,q0,Pf,Pl,PU.aq];obtain⟨y7,e7⟩:=oX (g:=(xNm 7:Xg []).p) (b:=plT.p) (s:=s4) (fun z=>rgE n (.tup (rs.map rwD)) (.lst (lsD rs)) y4 y5 y6 z) (fun d z=>rfl) (plL n K) (pl_turn n0 n5 hK);rw[aE,gz,fH];have i7:(au (ac (ad 1) (ac (xUn fQ (xC (.int 1))) (ac (xC (.bl true)) (ac (xC .non) (ac (xC (.str "0")) (ac (au (ac (xC (.int 0)) xNil)) (ac (ak fo (xC (.int 10)) (xC (.int 60))) (ac (ak fu (xC (.int 0)) (ak fo (xC (.int 10)) (xC (.int 60)))) (ac (bt xNil) xNil))))))))):Xe []).p (rgE n (.tup (rs.map rwD)) (.lst (lsD rs)) y4 y5 y6 none) s4=.ok (.tup (plL n K)) s4:=by
  simp only[bY,dk,aD,bo,mn,aS,aL,Pb,aM,cw,cu,kf,gE,iJ,jB,pw,ng,v1,u0,Pf];exact qae (by simp)
 rw[i7,Pb,ib,Pf,Pg];refine (congrArg (fun z:PS=>(z.then _).fin) e7).trans ?_;have is2:(oIs false).p (.bl true) (.bl true)=some (.bl true):=rfl;rw[PU.aq];simp only[iO,pQ,bo,bG,aD,bY,aS,aL,Pb,aM,v2,xP n0 n5 hl hr,same_p (n:=n) (by ext) hr,is_rows n0 n5 hl hr,cw,kf,is2,Pf,Pl,if_true,Pg,PU.rE]
def uQ{i:Int}{h:MH}:cy [.int i] h=.ok (.bl true) h:=by
 unfold cy;rw[bF (by rfl)];unfold m_is_whole;simp[be,List.replicate,bM,tyP,ba]
def lZ{i:Int}{h:MH}:d4 [.int i] h=.ok (.bl (decide (0<=i) && decide (i<=12))) h:=by
 unfold d4;rw[bF (by rfl)];unfold m_is_count;by_cases z:0<=i <;> simp[be,List.replicate,uQ,z]
def place_m{n i:Int}{h:MH}:d3 [.int n,.int i] h=.ok (.bl (decide (0<=i) && decide (i<n))) h:=by
 unfold d3;rw[bF (by rfl)];unfold m_is_place;by_cases z:0<=i <;> simp[be,List.replicate,uQ,z]
def sE{a b:Str}{c:Bool}{σ:PSt}{h:MH}{m:Mx PV}(em:m σ (h++[.lst [.str a,.str b]])=.ok (.bl c) (h++[.lst [.str a,.str b]])):(ai aU (aT (aa (mC (.str a)) (aa (mC (.str b)) mNil))) (mCB fInt (aa m mNil))) σ h=.ok (.str (if c then b else a)) (h++[.lst [.str a,.str b]]):=by
 have e:(h++[MO.lst [.str a,.str b]])[h.length]?=some (.lst [.str a,.str b]):=gh;have i1:atI [PV.str a,PV.str b] 1=some (.str b):=rfl;have i0:atI [PV.str a,PV.str b] 0=some (.str a):=rfl;cases c <;> simp[eP,em,fInt,iE e,i0,i1]
def w8{x w:Str}{h:MH}{n:Nat}{b1 b2:Bool}(e:h[n]?=some (.exc ⟨x,[]⟩))(h0:(["NoPlace","NoSheet"]:List Str).contains x=true)(h1:(["NoSheet"]:List Str).contains x=b1)(h2:(["NoPlace"]:List Str).contains x=b2)
  (hw:JoinOk "" [if b1 then "sheet" else "",if b2 then "place" else "",""]=true) (hj:Txt.join "" [if b1 then "sheet" else "",if b2 then "place" else "",""]=w):∃g,dN [.loc n] h=.ok (.str w) (h++g):=by
 have I:∀(sup:List Str) (g:MH),bn ["NoPlace","NoSheet"] sup (.loc n) (h++g)=.ok (.bl (sup.contains x)) (h++g):=fun sup g=>xf (rc e) h0;have I0:=fun sup=>I sup [];rw[qbo] at I0;unfold dN;rw[bF (by rfl)];unfold m_l_word;rw[show be 2 [PV.loc n]=[some (.loc n),none] from rfl,bp];have s1:mIf (mOr (mB (ai (fw false) (af 0) (mC .non))) (df (mB (mUn (bn ["NoPlace","NoSheet"] ["NoPlace","NoSheet"]) (af 0))))) (aP (mC (.str ""))) mSkip [some (.loc n),none] h=.nx [some (.loc n),none] h:=by
  have is0:fw false (.loc n) .non h=.ok (.bl false) h:=by simp[fw]
  simp![cH,jy,de,du,dH,fO,dY,is0,Out.ne_ok,I0,h0,qaU,qag,if_false,aA,cU]
 have s2:aX 1 (mUn (bn ["NoPlace","NoSheet"] ([]++([]++([]++([]++([]++([]++([]++([]++([]++[])))))))))) (af 0)) [some (.loc n),none] h=.nx [some (.loc n),some (.bl false)] h:=by
  simp![pr,fO,I0,Out.ne_ok,aA];rfl
 have p1:=sE (a:="") (b:="sheet") (c:=b1) (σ:=[some (.loc n),some (.bl false)]) (h:=h) (m:=mUn (bn ["NoPlace","NoSheet"] ["NoSheet"]) (af 0)) (by simp![fO,I,Out.ne_ok,h1]);have p2:=sE (a:="") (b:="place") (c:=b2) (σ:=[some (.loc n),some (.bl false)]) (h:=h++[.lst [.str "",.str "sheet"]]) (m:=mUn (bn ["NoPlace","NoSheet"] ["NoPlace"]) (af 0)) (by rw[qaH];simp![fO,I,Out.ne_ok,h2]);have p3:=sE (a:="") (b:="other") (c:=false) (σ:=[some (.loc n),some (.bl false)]) (h:=h++[.lst [.str "",.str "sheet"]]++[.lst [.str "",.str "place"]]) (m:=af 1) rfl;generalize (if b1 then ("sheet":Str) else "")=w1 at p1 hw hj;generalize (if b2 then ("place":Str) else "")=w2 at p2 hw hj;rw[qao (by simp)] at p3;rw[s1,MM.aq,bp,s2,MM.aq,ik];have l:(aT (aa (ai aU (aT (aa (mC (.str "")) (aa (mC (.str "sheet")) mNil))) (mCB fInt (aa (mUn (bn ["NoPlace","NoSheet"] ["NoSheet"]) (af 0)) mNil))) (aa (ai aU (aT (aa (mC (.str "")) (aa (mC (.str "place")) mNil))) (mCB fInt (aa (mUn (bn ["NoPlace","NoSheet"] ["NoPlace"]) (af 0)) mNil))) (aa (ai aU (aT (aa (mC (.str "")) (aa (mC (.str "other")) mNil))) (mCB fInt (aa (af 1) mNil))) mNil)))) [some (.loc n),some (.bl false)] h=.ok (.loc (h++[MO.lst [.str "",.str "sheet"]]++[MO.lst [.str "",.str "place"]]++[MO.lst [.str "",.str "other"]]).length) (h++[.lst [.str "",.str "sheet"]]++[.lst [.str "",.str "place"]]++[.lst [.str "",.str "other"]]++[.lst [.str w1,.str w2,.str ""]]):=by
  rw[uO,aW,p1,Out.bind_ok,aW,p2,Out.bind_ok,aW,p3,Out.bind_ok,bz];exact eP (by simp)
 refine⟨[.lst [.str "",.str "sheet"]]++[.lst [.str "",.str "place"]]++[.lst [.str "",.str "other"]]++[.lst [.str w1,.str w2,.str ""]],?_⟩;have jn:∀H:MH,iV "" [.loc H.length] (H++[.lst [.str w1,.str w2,.str ""]])=.ok (.str w) (H++[.lst [.str w1,.str w2,.str ""]]):=fun H=>by
  have e:(H++[MO.lst [.str w1,.str w2,.str ""]])[H.length]?=some (.lst [.str w1,.str w2,.str ""]):=gh;have sp:iX [.str w1,.str w2,.str ""]=some [w1,w2,""]:=rfl;simp only[iV,e,sp,hw,if_true,hj]
 simp only[mSm,dY,Out.bind_ok];rw[aW,l,Out.bind_ok,bz,Out.bind_ok,Out.bind_ok,jn];simp
def word_s1{h:MH}{n:Nat}(e:h[n]?=some (.exc ⟨"NoSheet",[]⟩)):∃g,dN [.loc n] h=.ok (.str "sheet") (h++g):=w8 (b1:=true) (b2:=false) e (by decide +kernel) (by decide +kernel) (by decide +kernel) (by decide +kernel) (by decide +kernel)
def word_s2{h:MH}{n:Nat}(e:h[n]?=some (.exc ⟨"NoPlace",[]⟩)):∃g,dN [.loc n] h=.ok (.str "place") (h++g):=w8 (b1:=false) (b2:=true) e (by decide +kernel) (by decide +kernel) (by decide +kernel) (by decide +kernel) (by decide +kernel)
def j7{x:PV}:[x].length<=sizeLine:=qax (by simp:[x].length<=1000) (by unfold sizeLine;ext)
def yg{i:Int}{v:PV}{h:MH}(hi:12<i):aY [.int i,v] h=.exc ⟨"NoSheet",[]⟩ h:=by
 unfold aY;rw[bF (by rfl)];unfold m_sheet_of
 have:decide (i<=12)=false:=decide_eq_false (by ext)
 rw[show be 3 [PV.int i,v]=[some (.int i),some v,none] from rfl,bp];simp![cH,de,du,cj,aW,bz,lZ,this,Bool.and_false,qbQ,aA,if_true,i9,dY];rw[qae (j7)];rfl
def jb{t:String}{v:PV}{h:MH}(ht:tyP h v=some t)(hb:["list","tuple"].any (ba t)=false):aY [.int 0,v] h=.exc ⟨"NoSheet",[]⟩ h:=by
 unfold aY;rw[bF (by rfl)];unfold m_sheet_of;rw[show be 3 [PV.int 0,v]=[some (.int 0),some v,none] from rfl,bp];simp![cH,de,du,cj,aW,bz,lZ,show (decide ((0:Int)<=0) && decide ((0:Int)<=12))=true from rfl,qaU,aA,qag,if_false,cU,MM.aq];rw[bp];simp![cH,jy,de,du,fO,cx,bM,ht,hb,Out.ne_ok,qbQ,aA,if_true,i9,aW,dY,bz];rw[qae (j7)];rfl
def rD{t:String}{v:PV}{m:Nat}{h:MH}(ht:tyP h v=some t)(hb:["list","tuple"].any (ba t)=true)(hl:fLen [v] h=.ok (.int (m:Int)) h)(hm:m≠0):aY [.int 0,v] h=.exc ⟨"NoSheet",[]⟩ h:=by
 unfold aY;rw[bF (by rfl)];unfold m_sheet_of;have hd:decide ((m:Int)=0)=false:=decide_eq_false (by ext);rw[show be 3 [PV.int 0,v]=[some (.int 0),some v,none] from rfl,bp];simp![cH,de,du,cj,aW,bz,lZ,show (decide ((0:Int)<=0) && decide ((0:Int)<=12))=true from rfl,qaU,aA,qag,if_false,cU,MM.aq];rw[bp];simp![cH,jy,de,du,fO,dH,lj,cx,bM,ht,hb,Out.ne_ok,qaU,qag,if_false,aW,bz,hl,vm,hd,qbQ,aA,if_true,i9,dY];rw[qae (j7)];rfl
def xk{i:Int}{v:PV}{h:MH}(e:aY [.int i,v] h=.exc ⟨"NoSheet",[]⟩ h):∃g,cI [.int i,v] h=.ok (.str "sheet") (h++g):=by
 obtain⟨g,w⟩:=word_s1 (h:=h++[.exc ⟨"NoSheet",[]⟩]) (n:=h.length) gh;unfold cI;rw[bF (by rfl)];unfold m_l_made;refine⟨[.exc ⟨"NoSheet",[]⟩]++g,?_⟩;have q:kj ["NoPlace","NoSheet"] 2 3 (cK (aw aY (aa (af 0) (aa (af 1) mNil)))) [some (.int i),some v,some .non,none] h=.nx [some (.int i),some v,some (.loc h.length),none] (h++[.exc ⟨"NoSheet",[]⟩]):=by
  have:cK (aw aY (aa (af 0) (aa (af 1) mNil))) [some (.int i),some v,some .non,none] h=.exc ⟨"NoSheet",[]⟩ [some (.int i),some v,some .non,none] h:=by
   simp![nu,cj,aW,bz,cx,e];rfl
  rw[vv,this];unfold SOut.caught;dsimp only;rw[qae ⟨rfl,by decide +kernel⟩];rfl
 rw[show be 4 [PV.int i,v]=[some (.int i),some v,none,none] from rfl,bp];simp only[pr,dY,aA,qaq,qar,MM.aq];rw[bp,q,MM.aq];simp![ik,cj,aW,bz,cx,w,aA];rw[qaH];rfl
def asked_m{h:MH}:∃g,dl [.tup [.int 0,.tup []],.int 0,.int 0] h=.ok (.str "place") (h++g):=by
 have cp:dy [.int 0,.int 0] h=.exc ⟨"NoPlace",[]⟩ h:=by
  unfold dy;rw[bF (by rfl)];unfold m_check_place;rw[show be 2 [PV.int 0,.int 0]=[some (.int 0),some (.int 0)] from rfl];simp![cH,de,du,cj,aW,bz,cx,place_m,show (decide ((0:Int)<=0) && decide ((0:Int)<0))=false from rfl,qbQ,aA,if_true,i9,dY];rw[qae (j7)];rfl
 have na:dG [.tup [.int 0,.tup []],.int 0,.int 0] h=.exc ⟨"NoPlace",[]⟩ h:=by
  unfold dG;rw[bF (by rfl)];unfold m_number_at;rw[show be 3 [PV.tup [.int 0,.tup []],.int 0,.int 0]=[some (.tup [.int 0,.tup []]),some (.int 0),some (.int 0)] from rfl,bp];have ix:aU (.tup [.int 0,.tup []]) (.int 0) h=.ok (.int 0) h:=rfl;simp![nu,cj,aW,dH,bz,cx,dY,ix,Out.ne_ok,cp];rfl
 obtain⟨g,w⟩:=word_s2 (h:=h++[.exc ⟨"NoPlace",[]⟩]) (n:=h.length) gh;unfold dl;rw[bF (by rfl)];unfold m_l_asked;refine⟨[.exc ⟨"NoPlace",[]⟩]++g,?_⟩;have q:kj ["NoPlace","NoSheet"] 3 4 (cK (aw dG (aa (af 0) (aa (af 1) (aa (af 2) mNil))))) [some (.tup [.int 0,.tup []]),some (.int 0),some (.int 0),some .non,none] h=.nx [some (.tup [.int 0,.tup []]),some (.int 0),some (.int 0),some (.loc h.length),none] (h++[.exc ⟨"NoPlace",[]⟩]):=by
  have:cK (aw dG (aa (af 0) (aa (af 1) (aa (af 2) mNil)))) [some (.tup [.int 0,.tup []]),some (.int 0),some (.int 0),some .non,none] h=.exc ⟨"NoPlace",[]⟩ [some (.tup [.int 0,.tup []]),some (.int 0),some (.int 0),some .non,none] h:=by
   simp![nu,cj,aW,bz,cx,na];rfl
  rw[vv,this];unfold SOut.caught;dsimp only;rw[qae ⟨rfl,by decide +kernel⟩];rfl
 rw[show be 5 [PV.tup [.int 0,.tup []],.int 0,.int 0]=[some (.tup [.int 0,.tup []]),some (.int 0),some (.int 0),none,none] from rfl,bp];simp only[pr,dY,aA,qaq,qar,MM.aq];rw[bp,q,MM.aq];simp![ik,cj,aW,bz,cx,w,aA];rw[qaH];rfl
def xG{h:MH}{n:Nat}(e:h[n]?=some (.lst [])):∃g,aY [.int 0,.loc n] h=.ok (.tup [.int 0,.tup []]) (h++g):=by
 unfold aY;rw[bF (by rfl)];unfold m_sheet_of;have ht:tyP h (.loc n)=some "list":=by simp[tyP,e]
 have hl:fLen [.loc n] h=.ok (.int ((0:Nat):Int)) h:=yk e;obtain⟨g,c⟩:=qq (it:=⟨[],[(n,[])]⟩) (σ:=[some (.int 0),some (.loc n),none]) (h:=h) (h1:=h) (mi:=ci (af 1)) (gt:=gNm 0) (mt:=mTrue) (me:=mCB fTuple (aa (mCB fSortR (aa (af 0) mNil)) mNil)) (nv:=1) (fm:=[]) (by simp[qi e]) (uA.mpr e) (by simp) (fun _=>true) id (by simp);have e2:(h++MO.lst []::g)[h.length]?=some (.lst []):=gh;refine⟨.lst []::g,?_⟩;rw[show be 3 [PV.int 0,.loc n]=[some (.int 0),some (.loc n),none] from rfl,bp];simp![cH,de,du,cj,aW,bz,lZ,show (decide ((0:Int)<=0) && decide ((0:Int)<=12))=true from rfl,qaU,aA,qag,if_false,cU,MM.aq];rw[bp];simp![cH,jy,de,du,fO,dH,lj,cx,bM,ht,show (["list","tuple"].any (ba "list"))=true from rfl,Out.ne_ok,qaU,qag,if_false,aW,bz,hl,vm,show decide (((0:Nat):Int)=0)=true from rfl,aA,cU,MM.aq];rw[bp,pI,mItS_ap,cx,bu,Out.bind_ok,qi e,aA,uy (uA.mpr e),MM.aq,ik,u5,aW,bu,Out.bind_ok,aW,lj,aW,c];simp[v6 e2]
def same_i{k:Nat}{i:Int}{h:MH}:cV (k+1) [.int i,.int i] h=.ok (.bl true) h:=by
 unfold cV;rw[bF (by rfl)];unfold iq;simp[be,List.replicate,bM,tyP,ba,fw]
def xT{k:Nat}{xs:List PV}{h:MH}(hl:xs.length<=1000)(hx:∀x∈xs,∀h:MH,∃g,cV k [x,x] h=.ok (.bl true) (h++g)):∃g,cV (k+1) [.tup xs,.tup xs] h=.ok (.bl true) (h++g):=by
 unfold cV;rw[bF (by rfl)];unfold iq
 obtain⟨g,c⟩:=qq (it:=⟨cN xs xs,[]⟩) (σ:=[some (.tup xs),some (.tup xs)]) (h:=h) (h1:=h) (mi:=mItZ (aa (af 0) (aa (af 1) mNil))) (gt:=gTp (gCn (gNm 0) (gCn (gNm 1) gNl)) 2) (mt:=mTrue) (me:=aw (cV k) (aa (af 0) (aa (af 1) mNil))) (nv:=2) (fm:=[]) (by unfold mItZ;simp[cZ]) (jo.mpr trivial) (by simp[cN];ext) (fun _=>true) (fun _=>.bl true) (fun x hx' vs g hv=>by
  obtain⟨y,hy,rfl⟩:∃y∈xs,x=.tup [y,y]:=by
   have:x∈cN xs xs:=hx'
   unfold cN at this;rw[List.zip_eq_zipWith,List.zipWith_self,qbe] at this;obtain⟨y,hy,rfl⟩:=qaz.mp this;exact⟨y,hy,rfl⟩
  obtain⟨g2,q⟩:=hx y hy (h++g)
  match vs,hv with
  | [_,_],_=>exact⟨[some y,some y],rfl,rfl,[],by rw[qbo];rfl,fun _=>⟨g2,by simpa using q⟩⟩)
 have er:((cN xs xs).filter (fun _=>true)).map (fun _=>PV.bl true)=List.replicate (cN xs xs).length (.bl true):=by rw[cQ,List.map_const']
 rw[show (⟨cN xs xs,[]⟩:MIt).xs=cN xs xs from rfl,er] at c;have al:fAll [.loc h.length] (h++MO.lst (List.replicate (cN xs xs).length (.bl true))::g)=.ok (.bl true) (h++MO.lst (List.replicate (cN xs xs).length (.bl true))::g):=qu gh;refine⟨MO.lst (List.replicate (cN xs xs).length (.bl true))::g,?_⟩;rw[show be 2 [PV.tup xs,.tup xs]=[some (.tup xs),some (.tup xs)] from rfl,bp];have t1:tyP h (.tup xs)=some "tuple":=rfl;have i0:fw false (.tup xs) .non h=.ok (.bl false) h:=by simp[fw]
 simp![cH,du,dH,cx,dY,i0,Out.ne_ok,aA,qag,if_false,cU,MM.aq];rw[bp];simp![cH,du,fO,cx,bM,t1,show (["list","tuple"].any (ba "tuple"))=true from rfl,Out.ne_ok,aA,if_true];rw[bp];simp![cH,jy,de,du,fO,dH,cx,bM,t1,show (["list","tuple"].any (ba "tuple"))=true from rfl,Out.ne_ok,qaU,qag,if_false,opNe_bb,beq_self_eq_true,aA,cU,MM.aq];rw[ik,yY];simp![dH,lj,aW,bz,cx,yA,Out.ne_ok,opEq_ii,decide_true,if_true,c,al];rfl
def same_m{h:MH}:∃g,fq [.tup [.int 0,.tup []],.tup [.int 0,.tup []]] h=.ok (.bl true) (h++g):=by
 unfold fq;refine xT (k:=7) (by simp) fun x hx h=>?_;simp only[qaj,qaB,or_false] at hx;rcases hx with rfl|rfl
 ·exact⟨[],by rw[same_i (k:=6),qbo]⟩
 ·exact xT (k:=6) (by simp) fun x hx=>by cases hx
def wp{lo:Int}{c:Nat}{x:PV}(h:x∈bX lo c):∃i:Int,x=.int i/\lo<=i/\i<lo+c:=by
 unfold bX at h;obtain⟨k,hk,rfl⟩:=qaz.mp h;rw[qcB] at hk;exact⟨_,rfl,by ext,by ext⟩
def uU{ns:List Int}{k:Nat}(hk:k<ns.length):atI (ns.map PV.int) (k:Int)=some (.int ns[k]):=L2.ij (by simp[hk])
def rV{h:MH}:opPow (.int 10) (.int 18) h=.ok (.int (10 ^ 18)) h:=tO (by decide)
def yO{h:MH}:opPow (.int 10) (.int 15) h=.ok (.int (10 ^ 15)) h:=tO (by decide)
def za{h:MH}{ns:List Int}{k:Nat}(hk:k<64):∃m c:Int,ig [.frl (ns.map .int),.int k] h=.ok (.loc h.length) (h++[.lst [.int m,.int c,.int 0]]):=by
 unfold ig;have k1:∀{i:Int} {h:MH},opMul (.int 7919) (.int i) h=.ok (.int (7919 * i)) h:=ie (by decide);have k2:∀{i:Int} {h:MH},opMul (.int 48271) (.int i) h=.ok (.int (48271 * i)) h:=ie (by decide);have k3:∀{i:Int} {h:MH},opMul (.int 40009) (.int i) h=.ok (.int (40009 * i)) h:=ie (by decide);have n3:∀{a b c:PV} {h:MH},newL [a,b,c] h=.ok (.loc h.length) (h++[.lst [a,b,c]]):=eP (by simp)
 have fin:∀cell:Int,∃m c:Int,(aC (mIf (mB (ai opGe (mCB fAbs (aa (af 2) mNil)) (ai opPow (mC (.int 10)) (mC (.int 18))))) (aP (aT (aa (mC (.int 1)) (aa (mCB fAbs (aa (af 2) mNil)) (aa (mC (.int 0)) mNil))))) mSkip)
   (aP (aT (aa (mC (.int 0)) (aa (ai opAdd (ai opMod (af 2) (mC (.int 2147483587))) (ai opMul (mC (.int 40009)) (af 1))) (aa (mC (.int 0)) mNil)))))) [some (.frl (ns.map .int)),some (.int k),some (.int cell)] h=.rt (.loc h.length) (h++[.lst [.int m,.int c,.int 0]]):=fun cell=>by
  by_cases z:(10:Int) ^ 18<=(if cell<0 then -cell else cell)
  ·exact⟨1,(if cell<0 then -cell else cell),by simp[rV,n3,z,-Int.reducePow]⟩
  ·exact⟨0,cell.fmod 2147483587+40009 * k,by simp[rV,n3,z,k3,fS,-Int.reducePow]⟩
 have fin':∀cell:Int,∃m c:Int,((aC (mIf (mB (ai opGe (mCB fAbs (aa (af 2) mNil)) (ai opPow (mC (.int 10)) (mC (.int 18))))) (aP (aT (aa (mC (.int 1)) (aa (mCB fAbs (aa (af 2) mNil)) (aa (mC (.int 0)) mNil))))) mSkip)
   (aP (aT (aa (mC (.int 0)) (aa (ai opAdd (ai opMod (af 2) (mC (.int 2147483587))) (ai opMul (mC (.int 40009)) (af 1))) (aa (mC (.int 0)) mNil)))))) [some (.frl (ns.map .int)),some (.int k),some (.int cell)] h).fin=.ok (.loc h.length) (h++[.lst [.int m,.int c,.int 0]]):=fun cell=>by
  obtain⟨m,c,q⟩:=fin cell;exact⟨m,c,by rw[q];rfl⟩
 have lift:∀cell:Int,(aC (aX 2 (ai opAdd (ai opMul (mC (.int 7919)) (af 1)) (mC (.int 11))))
 (mIf (mB (ai opLt (af 1) (mCB fMin (aa (mCB fLen (aa (af 0) mNil)) (aa (mC (.int 63)) mNil))))) (aX 2 (ai aU (af 0) (af 1))) (mIf (mB (ai opGt (mCB fLen (aa (af 0) mNil)) (mC (.int 0)))) (aX 2 (ai opAdd (ai opMod (ai aU (af 0) (ai opMod (af 1) (mCB fMin (aa (mCB fLen (aa (af 0) mNil)) (aa (mC (.int 63)) mNil))))) (ai opPow (mC (.int 10)) (mC (.int 15)))) (ai opMul (mC (.int 48271)) (af 1)))) mSkip))) [some (.frl (ns.map .int)),some (.int k),none] h=.nx [some (.frl (ns.map .int)),some (.int k),some (.int cell)] h ->
   ∃m c:Int,bj 3 2 m_l_pen [.frl (ns.map .int),.int k] h=.ok (.loc h.length) (h++[.lst [.int m,.int c,.int 0]]):=fun cell q=>by
  obtain⟨m,c,q2⟩:=fin' cell;refine⟨m,c,(bF (by rfl)).trans ?_⟩;rw[<-q2];unfold m_l_pen;simp only[bp] at q ⊢;have e0:be 3 [PV.frl (ns.map .int),PV.int k]=[some (.frl (ns.map .int)),some (.int k),none]:=rfl;rw[e0];generalize (aX 2 (ai opAdd (ai opMul (mC (.int 7919)) (af 1)) (mC (.int 11)))) [some (.frl (ns.map .int)),some (.int k),none] h=o1 at q ⊢
  cases o1 with
  | nx σ1 h1 =>
   simp only[MM.aq,bp] at q ⊢;rw[q];rfl
  | _=>cases q
 have hlim:∃lim:Nat,(if (63:Int)<(ns.length:Int) then (63:Int) else (ns.length:Int))=(lim:Int)/\lim<=ns.length/\(0<ns.length->0<lim):=by
  by_cases z:(63:Int)<(ns.length:Int)
  ·exact⟨63,by rw[qae z];rfl,by ext,by ext⟩
  ·exact⟨ns.length,by rw[qao z],by ext,by ext⟩
 obtain⟨lim,el,hl1,hl2⟩:=hlim;by_cases h1:k<lim
 ·refine lift (ns[k]'(by ext)) ?_;simp[k1,el,h1,uU (show k<ns.length by ext)]
 ·by_cases h0:0<ns.length
  ·have hm0:(lim:Int)≠0:=by have:=hl2 h0;ext
   have hj:k % lim<ns.length:=qau (Nat.mod_lt _ (hl2 h0)) hl1;have ej:(k:Int).fmod (lim:Int)=((k % lim:Nat):Int):=by rw[qbf _ (by ext)];rfl
   refine lift ((ns[k % lim]'hj).fmod (10 ^ 15)+48271 * k) ?_;have p0:((10:Int) ^ 15)≠0:=by decide
   have a1:=uU hj;rw[Int.natCast_emod] at a1;simp[k1,el,h1,h0,fS hm0,ej,a1,yO,fS p0,k2,-Int.reducePow]
  ·have h0':ns=[]:=qbw.mp (by ext);refine lift (7919 * k+11) ?_;have z:¬((k:Int)<(lim:Int)):=by ext
   simp[k1,el,z,h0]
def wz{h:MH}{p:Nat}{s:Pen}(pn:cL h p s):∃h',fE [.loc p] h=.ok (.bl true) h'/\∀n:Nat,n<h.length->n≠p->h'[n]?=h[n]?:=by
 obtain⟨s',q⟩:=right_p (s:=s)
 have k:=i8.ok (q:=p) (h:=h) (O:=[p]) (vs:=[.loc p]) (ds:=[.pen]) (s:=s) (fun o ho=>by
  have:o=p:=by simpa using ho
  subst this;exact bw pn) (by simp) pn ⟨_,_,rfl,rfl,rfl⟩
 rw[q,ul] at k;obtain⟨v,h',e,kb,_,r,_⟩:=k;exact⟨h',by rw[e];rw[show v=PV.bl true from r],kb.2⟩
def wU{z:Str}{h:MH}(hs:PyData.strOk z=true):opNe (.str z) (.str z) h=.ok (.bl false) h:=by
 simp[opNe,rd,SeqAt.shaped,PyData.canLay0,PyData.depth,PyData.eqv,hs]
def vA{h:MH}{n:Nat}{o o':MO}(e:h[n]?=some o'):(h.set n o)[n]?=some o:=qat (qaf.mp e).1
def sG{it:MIt}{n:Nat}(hi:∀h,it.ok h):∀(xs:List PV) (ys:List PV) (z:Option PV) (h:MH),h[n]?=some (.lst ys)->ys.length+xs.length<=100->∃h',cGo it n (gNm 0) mTrue (aT mNil) xs [z] h=.ok () h'
 | [],ys,z,h,e,hl=>⟨h,pq (hi h)⟩
 | x::xs,ys,z,h,e,hl=>by
  have hl':ys.length+(xs.length+1)<=100:=hl;have e3:(h++[MO.lst []])[n]?=some (.lst ys):=rc e;obtain⟨h',q⟩:=sG hi xs (ys++[.loc h.length]) (some x) ((h++[MO.lst []]).set n (.lst (ys++[.loc h.length]))) (vA e3) (by simp;ext);exact⟨h',by rw[pS (σ:=[z]) (σ1:=[some x]) (h1:=h) (h2:=h) (v:=.loc h.length) (h3:=h++[.lst []]) (ys:=ys) (hi h) rfl rfl (eP (xs:=[]) (by simp)) e3 (by ext)];exact q⟩
def tH{ns:List Int}{it:MIt}{n:Nat}(hi:∀h,it.ok h):∀(xs:List PV) (m:Nat) (z:Option PV) (h:MH),(∀x∈xs,∃k:Nat,x=.int (k:Int)/\k<64)->h[n]?=some (.lst (List.replicate m (.bl true)))->m+xs.length<=100->∃h',cGo it n (gNm 0) mTrue (aw fE (aa (aw ig (aa (af 1) (aa (af 0) mNil))) mNil)) xs [z,some (.frl (ns.map .int))] h=.ok () h'/\h'[n]?=some (.lst (List.replicate (m+xs.length) (.bl true)))
 | [],m,z,h,hx,e,hl=>⟨h,pq (hi h),e⟩
 | x::xs,m,z,h,hx,e,hl=>by
  have hl':m+(xs.length+1)<=100:=hl;obtain⟨k,rfl,hk⟩:=hx x (by simp);obtain⟨a,b,qp⟩:=za (h:=h) (ns:=ns) (k:=k) hk;obtain⟨h3,qr,kb⟩:=wz (h:=h++[.lst [.int a,.int b,.int 0]]) (p:=h.length) (s:=(a,b,0)) (by show (h++[MO.lst [.int a,.int b,.int 0]])[h.length]?=some (.lst [.int a,.int b,.int 0]);exact gh);have hn:n<h.length:=(qaf.mp e).1;have e3:h3[n]?=some (.lst (List.replicate m (.bl true))):=by
   rw[kb n (by simp;ext) (by ext)];exact rc e
  obtain⟨h',q,e'⟩:=tH (ns:=ns) hi xs (m+1) (some (.int (k:Int))) (h3.set n (.lst (List.replicate m (.bl true)++[.bl true]))) (fun y hy=>hx y (qal _ hy)) (by rw[vA e3,List.replicate_succ']) (by ext);refine⟨h',?_,by rw[e',qbd,show m+1+xs.length=m+(xs.length+1) by ext]⟩;rw[pS (σ:=[z,some (.frl (ns.map .int))]) (σ1:=[some (.int (k:Int)),some (.frl (ns.map .int))]) (h1:=h) (h2:=h) (v:=.bl true) (h3:=h3) (ys:=List.replicate m (.bl true)) (hi h) rfl rfl (by simp -implicitDefEqProofs [qp,qr]) e3 (by simp;ext)];exact q
def stX:List PV:=[.non,.int 0,.str "",.loc 0,.loc 1,.tup [.tup []]]
abbrev stH:MH:=[.dic [],.lst [.tup []]]
def st_made{g:MH}:∀x∈stX,aY [.int 0,x] (stH++g)=.exc ⟨"NoSheet",[]⟩ (stH++g):=fun x hx=>by
 unfold stX at hx;simp only[qaj,qaB,or_false] at hx;rcases hx with rfl|rfl|rfl|rfl|rfl|rfl
 ·exact jb (t:="NoneType") rfl rfl
 ·exact jb (t:="int") rfl rfl
 ·exact jb (t:="str") rfl rfl
 ·exact jb (t:="dict") rfl rfl
 ·exact rD (t:="list") (m:=1) rfl rfl rfl (by decide)
 ·exact rD (t:="tuple") (m:=1) rfl rfl rfl (by decide)
def law_true(ns:List Int)(hn:ns.length<=63):∃h',f_law [.frl (ns.map .int)] []=.ok (.bl true) h':=by
 unfold f_law;rw[bF (by rfl)];unfold m_law;have sS:∀{h:MH},opNe (.str "sheet") (.str "sheet") h=.ok (.bl false) h:=fun {h}=>wU (by decide +kernel);have sP:∀{h:MH},opNe (.str "place") (.str "place") h=.ok (.bl false) h:=fun {h}=>wU (by decide +kernel);obtain⟨σ1,h1,q1,z1,e1,g1,eg1⟩:=pC (it:=⟨stX,[]⟩) (g:=gNm 1) (b:=mIf (mB (ai opNe (aw cI (aa (mC (.int 0)) (aa (af 1) mNil))) (mC (.str "sheet")))) (aP (mC (.bl false))) mSkip)
  (fun _ σ h=>∃z,σ=[some (.frl (ns.map .int)),z,none]/\∃g,h=stH++g) stX 0 [some (.frl (ns.map .int)),none,none] stH ⟨none,rfl,[],rfl⟩ (fun _ _ _ _=>jo.mpr trivial) (fun m σ h x ⟨z,eσ,g,eg⟩ hx=>by
   subst eσ;subst eg;obtain⟨g2,w⟩:=xk (st_made (g:=g) x (qbm hx));refine⟨_,_,[some (.frl (ns.map .int)),some x,none],stH++g++g2,rfl,?_,_,rfl,g++g2,by rw[qaH]⟩
   simp -implicitDefEqProofs only[cH,du,dH,cj,aW,bz,dY,qaq,qar,cx,bu,Out.bind_ok,w,Out.ne_ok,sS,aA,qag,if_false,cU])
 subst e1;have i1:ci (av (aa (mC .non) (aa (mC (.int 0)) (aa (mC (.str "")) (aa mDic (aa (aT (aa (av mNil) mNil)) (aa (av (aa (av mNil) mNil)) mNil))))))) (be 3 [PV.frl (ns.map .int)]) []=.ok ⟨stX,[]⟩ stH:=by
  have n1:newL [.tup []] [.dic []]=.ok (.loc 1) stH:=eP (by simp);have n6:∀{h:MH},newT [.non,.int 0,.str "",.loc 0,.loc 1,.tup [.tup []]] h=.ok (.tup stX) h:=fun {h}=>fJ (by simp);simp -implicitDefEqProofs [n1,n6]
 obtain⟨g2,w2⟩:=asked_m (h:=h1);obtain⟨g3,w3⟩:=xG (h:=h1++g2++[.lst []]) (n:=(h1++g2).length) gh;obtain⟨g4,w4⟩:=same_m (h:=h1++g2++[.lst []]++g3);have n0:newL [] (h1++g2)=.ok (.loc (h1++g2).length) (h1++g2++[.lst []]):=eP (by simp);have s2:∀z,mIf (mOr (mB (ai opNe (aw dl (aa (av (aa (mC (.int 0)) (aa (av mNil) mNil))) (aa (mC (.int 0)) (aa (mC (.int 0)) mNil)))) (mC (.str "place")))) (df (mB (aw fq (aa (aw aY (aa (mC (.int 0)) (aa (aT mNil) mNil))) (aa (av (aa (mC (.int 0)) (aa (av mNil) mNil))) mNil)))))) (aP (mC (.bl false))) mSkip [some (.frl (ns.map .int)),z,none] h1=.nx [some (.frl (ns.map .int)),z,none] (h1++g2++[.lst []]++g3++g4):=fun z=>by
  simp -implicitDefEqProofs only[cH,jy,de,du,dH,cj,aW,bz,dY,u5,uO,newT_0,newT_2,Out.bind_ok,w2,Out.ne_ok,sP,qag,if_false,n0,w3,w4,qaU,aA,cU]
 generalize h1++g2++[.lst []]++g3++g4=h5 at s2;obtain⟨σ6,h6,q6,z6,e6⟩:=pC (it:=⟨[.int 13,.int 14],[]⟩) (g:=gNm 2) (b:=mIf (mB (ai opNe (aw cI (aa (af 2) (aa (bI 1 [] (d7 (aa (af 2) mNil)) (gNm 0) mTrue (aT mNil)) mNil))) (mC (.str "sheet")))) (aP (mC (.bl false))) mSkip)
  (fun _ σ _=>∃z,σ=[some (.frl (ns.map .int)),z1,z]) [.int 13,.int 14] 0 [some (.frl (ns.map .int)),z1,none] h5 ⟨none,rfl⟩ (fun _ _ _ _=>jo.mpr trivial) (fun m σ h x ⟨z,eσ⟩ hx=>by
   subst eσ;obtain⟨c,rfl,c12,c14⟩:∃c:Nat,x=.int (c:Int)/\12<c/\c<=14:=by
    have:=qbm hx
    simp only[qaj,qaB,or_false] at this;rcases this with rfl|rfl
    ·exact⟨13,rfl,by decide,by decide⟩
    ·exact⟨14,rfl,by decide,by decide⟩
   obtain⟨h2,qc⟩:=sG (it:=⟨bX 0 c,[]⟩) (n:=h.length) (fun _=>jo.mpr trivial) (bX 0 c) [] none (h++[.lst []]) gh (by rw[MM.jU];simp;ext);obtain⟨g3,w⟩:=xk (yg (i:=(c:Int)) (v:=.loc h.length) (h:=h2) (by ext));have it:d7 (aa (af 2) mNil) [some (.frl (ns.map .int)),z1,some (.int (c:Int))] h=.ok ⟨bX 0 c,[]⟩ h:=itR1 rfl (by ext);have cm:bI 1 [] (d7 (aa (af 2) mNil)) (gNm 0) mTrue (aT mNil) [some (.frl (ns.map .int)),z1,some (.int (c:Int))] h=.ok (.loc h.length) h2:=by
    rw[m5,it,Out.bind_ok];refine (congrArg (fun o:Out Unit=>o.bind _) qc).trans ?_;rfl
   refine⟨_,_,[some (.frl (ns.map .int)),z1,some (.int (c:Int))],h2++g3,rfl,?_,_,rfl⟩
   simp -implicitDefEqProofs only[cH,du,dH,cj,aW,bz,dY,qaq,qar,cx,bu,Out.bind_ok,cm,w,Out.ne_ok,sS,aA,qag,if_false,cU])
 subst e6;have i6:ci (av (aa (mC (.int 13)) (aa (mC (.int 14)) mNil))) [some (.frl (ns.map .int)),z1,none] h5=.ok ⟨[.int 13,.int 14],[]⟩ h5:=by simp -implicitDefEqProofs
 obtain⟨c,hc,ec⟩:∃c:Nat,c<=63/\(aa (mCB fMax (aa (mC (.int 1)) (aa (mCB fMin (aa (mCB fLen (aa (af 0) mNil)) (aa (mC (.int 12)) mNil))) mNil))) mNil) [some (.frl (ns.map .int)),z1,z6] h6=.ok [.int (c:Int)] h6:=by
  have e:(aa (mCB fMax (aa (mC (.int 1)) (aa (mCB fMin (aa (mCB fLen (aa (af 0) mNil)) (aa (mC (.int 12)) mNil))) mNil))) mNil) [some (.frl (ns.map .int)),z1,z6] h6=.ok [.int (if (if (12:Int)<(ns.length:Int) then 12 else (ns.length:Int))>1 then (if (12:Int)<(ns.length:Int) then 12 else (ns.length:Int)) else 1)] h6:=by
   simp -implicitDefEqProofs
  have hi:0<=(if (if (12:Int)<(ns.length:Int) then 12 else (ns.length:Int))>1 then (if (12:Int)<(ns.length:Int) then 12 else (ns.length:Int)) else 1)/\(if (if (12:Int)<(ns.length:Int) then 12 else (ns.length:Int))>1 then (if (12:Int)<(ns.length:Int) then 12 else (ns.length:Int)) else 1)<=63:=by
   constructor <;> (repeat' split) <;> ext
  generalize (if (if (12:Int)<(ns.length:Int) then 12 else (ns.length:Int))>1 then (if (12:Int)<(ns.length:Int) then 12 else (ns.length:Int)) else 1)=i at e hi;obtain⟨c,rfl⟩:=sX hi.1;exact⟨c,by ext,e⟩
 have it:=itR1 ec (by ext)
 obtain⟨h7,q7,e7⟩:=tH (ns:=ns) (it:=⟨bX 0 c,[]⟩) (n:=h6.length) (fun _=>jo.mpr trivial) (bX 0 c) 0 none (h6++[.lst []]) (fun x hx=>by
  obtain⟨i,rfl,h0,hi⟩:=wp hx;obtain⟨k,rfl⟩:=sX h0
  exact⟨k,rfl,by ext⟩) gh (by rw[MM.jU];ext)
 have cm:bI 1 [0] (d7 (aa (mCB fMax (aa (mC (.int 1)) (aa (mCB fMin (aa (mCB fLen (aa (af 0) mNil)) (aa (mC (.int 12)) mNil))) mNil))) mNil)) (gNm 0) mTrue (aw fE (aa (aw ig (aa (af 1) (aa (af 0) mNil))) mNil)) [some (.frl (ns.map .int)),z1,z6] h6=.ok (.loc h6.length) h7:=by
  rw[m5,it,Out.bind_ok];refine (congrArg (fun o:Out Unit=>o.bind _) q7).trans ?_;rfl
 have al:=qu e7;refine⟨h7,?_⟩;rw[bp,pI,i1,aA];refine (congrArg (fun z:SOut=>(z.then _).fin) q1).trans ?_;rw[MM.aq,bp,s2,MM.aq,bp,pI,i6,aA];refine (congrArg (fun z:SOut=>(z.then _).fin) q6).trans ?_;rw[MM.aq,ik,lj,aW,cm,Out.bind_ok,bz,Out.bind_ok,Out.bind_ok,al];rfl
end Law
namespace Law
open PySem PySem.Spec PyProof.Rows L2 MM
set_option maxHeartbeats 4000000
def top(i:Nat):Stmt:=PySem.Challenge.pw_fewfills_k28_no_sheets.main.body.getD i (.Pass ⟨0,0,0,0⟩)
structure Cl (K:qab) (mg:MGl):Prop where
 r_NoPlace:∃C,ExcK K mg "NoPlace" C
 r_NoSheet:∃C,ExcK K mg "NoSheet" C
 t_FillError:∃D,ExcK K mg "FillError" D/\∀x∈(["NoPlace","NoSheet"]:List Str),∃C,ExcK K mg x C/\PySem.W.mroIn K C (.ref D)=some true
 i_NoNumber:∃D,mg "NoNumber"=some (.ref D)/\IsiC K mg (.ref D) ["NoPlace","NoSheet"] []
 i_NoOrder:∃D,mg "NoOrder"=some (.ref D)/\IsiC K mg (.ref D) ["NoPlace","NoSheet"] []
 i_NoParting:∃D,mg "NoParting"=some (.ref D)/\IsiC K mg (.ref D) ["NoPlace","NoSheet"] []
 i_NoPivot:∃D,mg "NoPivot"=some (.ref D)/\IsiC K mg (.ref D) ["NoPlace","NoSheet"] []
 i_NoPlace:∃D,mg "NoPlace"=some (.ref D)/\IsiC K mg (.ref D) ["NoPlace","NoSheet"] ["NoPlace"]
 i_NoRow:∃D,mg "NoRow"=some (.ref D)/\IsiC K mg (.ref D) ["NoPlace","NoSheet"] []
 i_NoSheet:∃D,mg "NoSheet"=some (.ref D)/\IsiC K mg (.ref D) ["NoPlace","NoSheet"] ["NoSheet"]
 i_NoText:∃D,mg "NoText"=some (.ref D)/\IsiC K mg (.ref D) ["NoPlace","NoSheet"] []
 i_NoWeb:∃D,mg "NoWeb"=some (.ref D)/\IsiC K mg (.ref D) ["NoPlace","NoSheet"] []
 i_NoWord:∃D,mg "NoWord"=some (.ref D)/\IsiC K mg (.ref D) ["NoPlace","NoSheet"] []
 i_TooMany:∃D,mg "TooMany"=some (.ref D)/\IsiC K mg (.ref D) ["NoPlace","NoSheet"] []
 i_ValueError:IsiC K mg (.type "ValueError") ["NoPlace","NoSheet"] ["NoPlace","NoSheet"]
def ClK(K:qab):Prop:=∀(mg:MGl) (base:Heap),K.In base->base.Ns mainGlobals mg->Cl K mg
def clK_mk{K:qab}{C_FillError:Addr}{C_NoNumber:Addr}{C_NoOrder:Addr}{C_NoParting:Addr}{C_NoPivot:Addr}{C_NoPlace:Addr}{C_NoRow:Addr}{C_NoSheet:Addr}{C_NoText:Addr}{C_NoWeb:Addr}{C_NoWord:Addr}{C_TooMany:Addr}
  (a_FillError:PySem.W.nsIn K mainGlobals "FillError"=some (some (.ref C_FillError)))
  (a_NoNumber:PySem.W.nsIn K mainGlobals "NoNumber"=some (some (.ref C_NoNumber)))
  (a_NoOrder:PySem.W.nsIn K mainGlobals "NoOrder"=some (some (.ref C_NoOrder)))
  (a_NoParting:PySem.W.nsIn K mainGlobals "NoParting"=some (some (.ref C_NoParting)))
  (a_NoPivot:PySem.W.nsIn K mainGlobals "NoPivot"=some (some (.ref C_NoPivot)))
  (a_NoPlace:PySem.W.nsIn K mainGlobals "NoPlace"=some (some (.ref C_NoPlace)))
  (a_NoRow:PySem.W.nsIn K mainGlobals "NoRow"=some (some (.ref C_NoRow)))
  (a_NoSheet:PySem.W.nsIn K mainGlobals "NoSheet"=some (some (.ref C_NoSheet)))
  (a_NoText:PySem.W.nsIn K mainGlobals "NoText"=some (some (.ref C_NoText)))
  (a_NoWeb:PySem.W.nsIn K mainGlobals "NoWeb"=some (some (.ref C_NoWeb)))
  (a_NoWord:PySem.W.nsIn K mainGlobals "NoWord"=some (some (.ref C_NoWord)))
  (a_TooMany:PySem.W.nsIn K mainGlobals "TooMany"=some (some (.ref C_TooMany)))
  (e_FillError:PySem.W.excIn K C_FillError bmVE "ValueError.__new__"=true)
  (e_NoPlace:PySem.W.excIn K C_NoPlace bmVE "ValueError.__new__"=true)
  (e_NoSheet:PySem.W.excIn K C_NoSheet bmVE "ValueError.__new__"=true)
  (ga_NoPlace:PySem.W.findIn K (.ref C_NoPlace) "__getattribute__"=some (some (.builtin "BaseException.__getattribute__")))
  (cl_NoPlace:PySem.W.findIn K (.ref C_NoPlace) "__class__"=some (some (.builtin "object.__class__")))
  (gt_NoPlace:PySem.W.findIn K (.ref C_NoPlace) "__getattr__"=some none)
  (mo_NoPlace:PySem.W.mroIn K C_NoPlace (.type "object")=some true)
  (mb_NoPlace:PySem.W.mroIn K C_NoPlace (.type "BaseException")=some true)
  (ga_NoSheet:PySem.W.findIn K (.ref C_NoSheet) "__getattribute__"=some (some (.builtin "BaseException.__getattribute__")))
  (cl_NoSheet:PySem.W.findIn K (.ref C_NoSheet) "__class__"=some (some (.builtin "object.__class__")))
  (gt_NoSheet:PySem.W.findIn K (.ref C_NoSheet) "__getattr__"=some none)
  (mo_NoSheet:PySem.W.mroIn K C_NoSheet (.type "object")=some true)
  (mb_NoSheet:PySem.W.mroIn K C_NoSheet (.type "BaseException")=some true)
  (m_FillError_NoPlace:PySem.W.mroIn K C_NoPlace (.ref C_FillError)=some true)
  (m_FillError_NoSheet:PySem.W.mroIn K C_NoSheet (.ref C_FillError)=some true)
  (y_NoNumber:PySem.W.kitOne K (.type "NoneType") (.ref C_NoNumber)=some false)
  (k_NoNumber_NoPlace:PySem.W.kitOne K (.ref C_NoPlace) (.ref C_NoNumber)=some false)
  (k_NoNumber_NoSheet:PySem.W.kitOne K (.ref C_NoSheet) (.ref C_NoNumber)=some false)
  (y_NoOrder:PySem.W.kitOne K (.type "NoneType") (.ref C_NoOrder)=some false)
  (k_NoOrder_NoPlace:PySem.W.kitOne K (.ref C_NoPlace) (.ref C_NoOrder)=some false)
  (k_NoOrder_NoSheet:PySem.W.kitOne K (.ref C_NoSheet) (.ref C_NoOrder)=some false)
  (y_NoParting:PySem.W.kitOne K (.type "NoneType") (.ref C_NoParting)=some false)
  (k_NoParting_NoPlace:PySem.W.kitOne K (.ref C_NoPlace) (.ref C_NoParting)=some false)
  (k_NoParting_NoSheet:PySem.W.kitOne K (.ref C_NoSheet) (.ref C_NoParting)=some false)
  (y_NoPivot:PySem.W.kitOne K (.type "NoneType") (.ref C_NoPivot)=some false)
  (k_NoPivot_NoPlace:PySem.W.kitOne K (.ref C_NoPlace) (.ref C_NoPivot)=some false)
  (k_NoPivot_NoSheet:PySem.W.kitOne K (.ref C_NoSheet) (.ref C_NoPivot)=some false)
  (y_NoPlace:PySem.W.kitOne K (.type "NoneType") (.ref C_NoPlace)=some false)
  (k_NoPlace_NoPlace:PySem.W.kitOne K (.ref C_NoPlace) (.ref C_NoPlace)=some true)
  (k_NoPlace_NoSheet:PySem.W.kitOne K (.ref C_NoSheet) (.ref C_NoPlace)=some false)
  (y_NoRow:PySem.W.kitOne K (.type "NoneType") (.ref C_NoRow)=some false)
  (k_NoRow_NoPlace:PySem.W.kitOne K (.ref C_NoPlace) (.ref C_NoRow)=some false)
  (k_NoRow_NoSheet:PySem.W.kitOne K (.ref C_NoSheet) (.ref C_NoRow)=some false)
  (y_NoSheet:PySem.W.kitOne K (.type "NoneType") (.ref C_NoSheet)=some false)
  (k_NoSheet_NoPlace:PySem.W.kitOne K (.ref C_NoPlace) (.ref C_NoSheet)=some false)
  (k_NoSheet_NoSheet:PySem.W.kitOne K (.ref C_NoSheet) (.ref C_NoSheet)=some true)
  (y_NoText:PySem.W.kitOne K (.type "NoneType") (.ref C_NoText)=some false)
  (k_NoText_NoPlace:PySem.W.kitOne K (.ref C_NoPlace) (.ref C_NoText)=some false)
  (k_NoText_NoSheet:PySem.W.kitOne K (.ref C_NoSheet) (.ref C_NoText)=some false)
  (y_NoWeb:PySem.W.kitOne K (.type "NoneType") (.ref C_NoWeb)=some false)
  (k_NoWeb_NoPlace:PySem.W.kitOne K (.ref C_NoPlace) (.ref C_NoWeb)=some false)
  (k_NoWeb_NoSheet:PySem.W.kitOne K (.ref C_NoSheet) (.ref C_NoWeb)=some false)
  (y_NoWord:PySem.W.kitOne K (.type "NoneType") (.ref C_NoWord)=some false)
  (k_NoWord_NoPlace:PySem.W.kitOne K (.ref C_NoPlace) (.ref C_NoWord)=some false)
  (k_NoWord_NoSheet:PySem.W.kitOne K (.ref C_NoSheet) (.ref C_NoWord)=some false)
  (y_TooMany:PySem.W.kitOne K (.type "NoneType") (.ref C_TooMany)=some false)
  (k_TooMany_NoPlace:PySem.W.kitOne K (.ref C_NoPlace) (.ref C_TooMany)=some false)
  (k_TooMany_NoSheet:PySem.W.kitOne K (.ref C_NoSheet) (.ref C_TooMany)=some false)
  (k_ValueError_NoPlace:PySem.W.kitOne K (.ref C_NoPlace) (.type "ValueError")=some true)
  (k_ValueError_NoSheet:PySem.W.kitOne K (.ref C_NoSheet) (.type "ValueError")=some true)
   :ClK K:=fun mg base kin ns=>by
 have g_FillError:=PySem.W.mg_of kin ns a_FillError;have g_NoNumber:=PySem.W.mg_of kin ns a_NoNumber;have g_NoOrder:=PySem.W.mg_of kin ns a_NoOrder;have g_NoParting:=PySem.W.mg_of kin ns a_NoParting;have g_NoPivot:=PySem.W.mg_of kin ns a_NoPivot;have g_NoPlace:=PySem.W.mg_of kin ns a_NoPlace;have g_NoRow:=PySem.W.mg_of kin ns a_NoRow;have g_NoSheet:=PySem.W.mg_of kin ns a_NoSheet;have g_NoText:=PySem.W.mg_of kin ns a_NoText;have g_NoWeb:=PySem.W.mg_of kin ns a_NoWeb;have g_NoWord:=PySem.W.mg_of kin ns a_NoWord;have g_TooMany:=PySem.W.mg_of kin ns a_TooMany;exact⟨⟨_,g_NoPlace,e_NoPlace⟩,⟨_,g_NoSheet,e_NoSheet⟩,⟨_,⟨g_FillError,e_FillError⟩,(aK ⟨_,⟨g_NoPlace,e_NoPlace⟩,m_FillError_NoPlace⟩ (aK ⟨_,⟨g_NoSheet,e_NoSheet⟩,m_FillError_NoSheet⟩ cC))⟩,⟨_,g_NoNumber,cO (dW y_NoNumber) (aK ⟨_,g_NoPlace,⟨ga_NoPlace,cl_NoPlace,gt_NoPlace,mo_NoPlace,mb_NoPlace⟩,k_NoNumber_NoPlace⟩ (aK ⟨_,g_NoSheet,⟨ga_NoSheet,cl_NoSheet,gt_NoSheet,mo_NoSheet,mb_NoSheet⟩,k_NoNumber_NoSheet⟩ cC))⟩,⟨_,g_NoOrder,cO (dW y_NoOrder) (aK ⟨_,g_NoPlace,⟨ga_NoPlace,cl_NoPlace,gt_NoPlace,mo_NoPlace,mb_NoPlace⟩,k_NoOrder_NoPlace⟩ (aK ⟨_,g_NoSheet,⟨ga_NoSheet,cl_NoSheet,gt_NoSheet,mo_NoSheet,mb_NoSheet⟩,k_NoOrder_NoSheet⟩ cC))⟩,⟨_,g_NoParting,cO (dW y_NoParting) (aK ⟨_,g_NoPlace,⟨ga_NoPlace,cl_NoPlace,gt_NoPlace,mo_NoPlace,mb_NoPlace⟩,k_NoParting_NoPlace⟩ (aK ⟨_,g_NoSheet,⟨ga_NoSheet,cl_NoSheet,gt_NoSheet,mo_NoSheet,mb_NoSheet⟩,k_NoParting_NoSheet⟩ cC))⟩,⟨_,g_NoPivot,cO (dW y_NoPivot) (aK ⟨_,g_NoPlace,⟨ga_NoPlace,cl_NoPlace,gt_NoPlace,mo_NoPlace,mb_NoPlace⟩,k_NoPivot_NoPlace⟩ (aK ⟨_,g_NoSheet,⟨ga_NoSheet,cl_NoSheet,gt_NoSheet,mo_NoSheet,mb_NoSheet⟩,k_NoPivot_NoSheet⟩ cC))⟩,⟨_,g_NoPlace,cO (dW y_NoPlace) (aK ⟨_,g_NoPlace,⟨ga_NoPlace,cl_NoPlace,gt_NoPlace,mo_NoPlace,mb_NoPlace⟩,k_NoPlace_NoPlace⟩ (aK ⟨_,g_NoSheet,⟨ga_NoSheet,cl_NoSheet,gt_NoSheet,mo_NoSheet,mb_NoSheet⟩,k_NoPlace_NoSheet⟩ cC))⟩,⟨_,g_NoRow,cO (dW y_NoRow) (aK ⟨_,g_NoPlace,⟨ga_NoPlace,cl_NoPlace,gt_NoPlace,mo_NoPlace,mb_NoPlace⟩,k_NoRow_NoPlace⟩ (aK ⟨_,g_NoSheet,⟨ga_NoSheet,cl_NoSheet,gt_NoSheet,mo_NoSheet,mb_NoSheet⟩,k_NoRow_NoSheet⟩ cC))⟩,⟨_,g_NoSheet,cO (dW y_NoSheet) (aK ⟨_,g_NoPlace,⟨ga_NoPlace,cl_NoPlace,gt_NoPlace,mo_NoPlace,mb_NoPlace⟩,k_NoSheet_NoPlace⟩ (aK ⟨_,g_NoSheet,⟨ga_NoSheet,cl_NoSheet,gt_NoSheet,mo_NoSheet,mb_NoSheet⟩,k_NoSheet_NoSheet⟩ cC))⟩,⟨_,g_NoText,cO (dW y_NoText) (aK ⟨_,g_NoPlace,⟨ga_NoPlace,cl_NoPlace,gt_NoPlace,mo_NoPlace,mb_NoPlace⟩,k_NoText_NoPlace⟩ (aK ⟨_,g_NoSheet,⟨ga_NoSheet,cl_NoSheet,gt_NoSheet,mo_NoSheet,mb_NoSheet⟩,k_NoText_NoSheet⟩ cC))⟩,⟨_,g_NoWeb,cO (dW y_NoWeb) (aK ⟨_,g_NoPlace,⟨ga_NoPlace,cl_NoPlace,gt_NoPlace,mo_NoPlace,mb_NoPlace⟩,k_NoWeb_NoPlace⟩ (aK ⟨_,g_NoSheet,⟨ga_NoSheet,cl_NoSheet,gt_NoSheet,mo_NoSheet,mb_NoSheet⟩,k_NoWeb_NoSheet⟩ cC))⟩,⟨_,g_NoWord,cO (dW y_NoWord) (aK ⟨_,g_NoPlace,⟨ga_NoPlace,cl_NoPlace,gt_NoPlace,mo_NoPlace,mb_NoPlace⟩,k_NoWord_NoPlace⟩ (aK ⟨_,g_NoSheet,⟨ga_NoSheet,cl_NoSheet,gt_NoSheet,mo_NoSheet,mb_NoSheet⟩,k_NoWord_NoSheet⟩ cC))⟩,⟨_,g_TooMany,cO (dW y_TooMany) (aK ⟨_,g_NoPlace,⟨ga_NoPlace,cl_NoPlace,gt_NoPlace,mo_NoPlace,mb_NoPlace⟩,k_TooMany_NoPlace⟩ (aK ⟨_,g_NoSheet,⟨ga_NoSheet,cl_NoSheet,gt_NoSheet,mo_NoSheet,mb_NoSheet⟩,k_TooMany_NoSheet⟩ cC))⟩,cO (ty_VE K) (aK ⟨_,g_NoPlace,⟨ga_NoPlace,cl_NoPlace,gt_NoPlace,mo_NoPlace,mb_NoPlace⟩,k_ValueError_NoPlace⟩ (aK ⟨_,g_NoSheet,⟨ga_NoSheet,cl_NoSheet,gt_NoSheet,mo_NoSheet,mb_NoSheet⟩,k_ValueError_NoSheet⟩ cC))⟩
abbrev hG:Stmt:=top 15
abbrev oO:List Str:=["thing"]
abbrev oG:List Str:=["isinstance","int","bool"]
abbrev g7:List Str:=["thing"]
def wE(hsc:Sc X hG)(g:Gd X oO oG k)(dc:DefCx X)(n6:Nn X "isinstance")(n3:Nn X "bool")(n5:Nn X "int"):MSs X (aH hG) m_is_whole :=
 (MS2.h (m1n (r_1 (e_1 (cF (dS g (i:=0) (j:=1) rfl n6 rfl n5 k9 uX (kV g 0)) (dU (wR (dS g (i:=0) (j:=2) rfl n6 rfl n3 pD mW (kV g 0)))))))))
abbrev iW:Stmt:=top 16
abbrev qg:List Str:=["thing"]
abbrev pX:List Str:=["isinstance","tuple","len"]
abbrev iS:List Str:=["thing"]
def xi(hsc:Sc X iW)(g:Gd X qg pX k)(dc:DefCx X)(n7:Nn X "len")(n6:Nn X "isinstance")(n15:Nn X "tuple"):MSs X (aH iW) m_is_pair :=
 (MS2.h (m1n (r_1 (e_1 (cF (dS g (i:=0) (j:=1) rfl n6 rfl n15 cg dR (kV g 0)) (dU (kCm (gj g.room) (kCb g 2 dQ n7 dP (ag (kV g 0) aj)) ah)))))))
abbrev db:Stmt:=top 17
abbrev gK:List Str:=["a","b","rest"]
abbrev gL:List Str:=[]
abbrev gN:List Str:=["a","b"]
def my(hsc:Sc X db)(g:Gd X gK gL k)(dc:DefCx X):MSs X (aH db) m_greatest_shared :=
 (MS2.h (m1c (s_1 (rB g (kTc (cY g.room) (kV g 1) ah) (MS2.h (m1c (a_1 g 2 (e_1 (ao dj (kV g 0) (kV g 1))))
 (m1c (a_1 g 0 (e_1 (kV g 1)))
 (m1n (a_1 g 1 (e_1 (kV g 2)))))))))
 (m1n (r_1 (e_1 (kV g 0))))))
abbrev gi:Stmt:=top 18
abbrev mH:List Str:=["thing"]
abbrev mD:List Str:=["is_pair","is_whole","greatest_shared","abs"]
abbrev mP:List Str:=["thing"]
def ue(hsc:Sc X gi)(g:Gd X mH mD k)(dc:DefCx X)(c2:Cal X "greatest_shared" gN gM k)(c0:Cal X "is_whole" g7 cy k)(c1:Cal X "is_pair" iS fD k)(n1:Nn X "abs"):MSs X (aH gi) m_is_number :=
 (MS2.h (m1c (s_1 (bE (MW.mt (fj (cG (b7 (kCa g 0 c1 (ag (kV g 0) aj)))) (fj (cG (b7 (kCa g 1 c0 (ag (kIx (kV g 0) ah) aj)))) (e8 (cG (b7 (kCa g 1 c0 (ag (kIx (kV g 0) ah) aj)))))))) (MS2.h (m1n (r_1 (e_1 bW)))) bf))
 (m1n (r_1 (e_1 (cF (kCm oj_ge (kIx (kV g 0) ah) ah) (dU (kCm (gj g.room) (kCa g 2 c2 (ag (kCb g 3 lu n1 lr (ag (kIx (kV g 0) ah) aj)) (ag (kIx (kV g 0) ah) aj))) ah))))))))
abbrev gW:Stmt:=top 21
abbrev oC:List Str:=["thing"]
abbrev nK:List Str:=["is_whole","MOST_PLACES"]
abbrev kg:List Str:=["thing"]
def vJ(hsc:Sc X gW)(g:Gd X oC nK k)(dc:DefCx X)(c0:Cal X "is_whole" g7 cy k)(v_MOST_PLACES:∃t,X.mg "MOST_PLACES"=some (.int 12 t)):MSs X (aH gW) m_is_count :=
 (MS2.h (m1n (r_1 (e_1 (cF (kCa g 0 c0 (ag (kV g 0) aj)) (dU (tR wO wO ah (kV g 0) (me_glI g (j:=1) rfl v_MOST_PLACES))))))))
abbrev gQ:Stmt:=top 22
abbrev oP:List Str:=["n","thing"]
abbrev nW:List Str:=["is_whole"]
abbrev jL:List Str:=["n","thing"]
def wq(hsc:Sc X gQ)(g:Gd X oP nW k)(dc:DefCx X)(c0:Cal X "is_whole" g7 cy k):MSs X (aH gQ) m_is_place :=
 (MS2.h (m1n (r_1 (e_1 (cF (kCa g 0 c0 (ag (kV g 1) aj)) (dU (tR wO we ah (kV g 1) (kV g 0))))))))
abbrev fg:Stmt:=top 23
abbrev kK:List Str:=["n","thing"]
abbrev kC:List Str:=["is_place","NoPlace"]
abbrev kI:List Str:=["n","thing"]
def qK(hsc:Sc X fg)(g:Gd X kK kC k)(dc:DefCx X)(c5:Cal X "is_place" jL d3 k)(cl:Cl X.K X.mg):MSs X (aH fg) m_check_place :=
 (MS2.h (m1n (s_1 (bE (cG (b7 (kCa g 0 c5 (ag (kV g 0) (ag (kV g 1) aj))))) (MS2.h (m1n (s_1 (iR g (j:=1) rfl cl.r_NoPlace (ag bg aj))))) bf))))
abbrev ja:Stmt:=top 25
abbrev qh:List Str:=["n","thing"]
abbrev qm:List Str:=["is_pair","is_place","is_number","NOUGHT"]
abbrev pV:List Str:=["n","thing"]
def xy(hsc:Sc X ja)(g:Gd X qh qm k)(dc:DefCx X)(c3:Cal X "is_number" mP mL k)(c5:Cal X "is_place" jL d3 k)(c1:Cal X "is_pair" iS fD k)(v_NOUGHT:TupG X.K X.mg "NOUGHT" 0 1):MSs X (aH ja) m_is_part :=
 (MS2.h (m1n (r_1 (e_1 (cF (kCa g 0 c1 (ag (kV g 1) aj)) (cF (kCa g 1 c5 (ag (kV g 0) (ag (kIx (kV g 1) ah) aj))) (cF (kCa g 2 c3 (ag (kIx (kV g 1) ah) aj)) (dU (kCm (cY g.room) (kIx (kV g 1) ah) (xn g (q:=3) rfl v_NOUGHT))))))))))
abbrev gf:Stmt:=top 26
abbrev mR:List Str:=["n","things"]
abbrev mF:List Str:=["all","len","set"]
abbrev ji:List Str:=["n","things"]
def ur(hsc:Sc X gf)(g:Gd X mR mF k)(dc:DefCx X)(c7:Cal X "is_part" pV qv k)(n7:Nn X "len")(n12:Nn X "set")(n2:Nn X "all"):MSs X (aH gf) m_are_parts :=
 (MS2.h (m1c (s_1 (bE (cG (b7 (kCb g 0 (ot g) n2 nS (ag (kCp g hsc ["thing"] ["n"] ["is_part"] [0] (bN (kV g 1)) fun Y y g=>⟨(kNm g 0),dE,(kCa g 0 (y.c c7) (ag (kV g 1) (ag (kV g 0) aj)))⟩) aj)))) (MS2.h (m1n (r_1 (e_1 bW)))) bf))
 (m1n (r_1 (e_1 (kCm (gj g.room) (xS g 1 2 n7 n12 (ag (kCp g hsc ["part"] [] [] [] (bN (kV g 1)) fun Y y g=>⟨(kNm g 0),dE,(kIx (kV g 0) ah)⟩) aj)) (kCb g 1 dQ n7 dP (ag (kV g 1) aj))))))))
abbrev jW:Stmt:=top 27
abbrev sH:List Str:=["n","thing"]
abbrev sF:List Str:=["isinstance","tuple","are_parts","list","sorted"]
abbrev rn:List Str:=["n","thing"]
def y0(hsc:Sc X jW)(g:Gd X sH sF k)(dc:DefCx X)(c8:Cal X "are_parts" ji gm k)(n8:Nn X "list")(n13:Nn X "sorted")(n6:Nn X "isinstance")(n15:Nn X "tuple"):MSs X (aH jW) m_is_row :=
 (MS2.h (m1n (r_1 (e_1 (cF (dS g (i:=0) (j:=1) rfl n6 rfl n15 cg dR (kV g 1)) (cF (kCa g 2 c8 (ag (kV g 0) (ag (kV g 1) aj))) (dU (kCm (gj g.room) (kCt g 3 lO n8 dg (ag (kV g 1) aj)) (kCb g 4 tN n13 pZ (ag (kV g 1) aj))))))))))
abbrev g6:Stmt:=top 28
abbrev nG:List Str:=["n","rows","row"]
abbrev oD:List Str:=["is_count","NoSheet","isinstance","list","tuple","len","are_parts"]
abbrev gZ:List Str:=["n","rows"]
def wA(hsc:Sc X g6)(g:Gd X nG oD k)(dc:DefCx X)(c8:Cal X "are_parts" ji gm k)(c4:Cal X "is_count" kg d4 k)(n13:Nn X "sorted")(n15:Nn X "tuple")(n6:Nn X "isinstance")(n8:Nn X "list")(n7:Nn X "len")(cl:Cl X.K X.mg):MSs X (aH g6) m_sheet_of :=
 (MS2.h (m1c (s_1 (bE (cG (b7 (kCa g 0 c4 (ag (kV g 0) aj)))) (MS2.h (m1n (s_1 (iR g (j:=1) rfl cl.r_NoSheet (ag bg aj))))) bf))
 (m1c (s_1 (bE (MW.mt (fj (cG (b7 (lJ g (i:=2) (j:=3) (j':=4) rfl n6 rfl n8 dg fv rfl n15 cg dR (kV g 1)))) (e8 (kTc (cY g.room) (kCb g 5 dQ n7 dP (ag (kV g 1) aj)) (kV g 0))))) (MS2.h (m1n (s_1 (iR g (j:=1) rfl cl.r_NoSheet (ag bg aj))))) bf))
 (m1c (s_1 (eV g (bN (kV g 1)) (kNm g 2) (MS2.h (m1n (s_1 (bE (MW.mt (fj (cG (b7 (lJ g (i:=2) (j:=3) (j':=4) rfl n6 rfl n8 dg fv rfl n15 cg dR (kV g 2)))) (e8 (cG (b7 (kCa g 6 c8 (ag (kV g 0) (ag (kV g 2) aj)))))))) (MS2.h (m1n (s_1 (iR g (j:=1) rfl cl.r_NoSheet (ag bg aj))))) bf))))))
 (m1n (r_1 (t_1 (ae (e_1 (kV g 0)) (ae (e_1 (kCt g 4 fZ n15 cg (ag (kCp g hsc ["row"] [] ["tuple","sorted"] [] (bN (kV g 1)) fun Y y g=>⟨(kNm g 0),dE,(kCt g 0 fZ (y.n n15) cg (ag (kCb g 1 tN (y.n n13) pZ (ag (kV g 0) aj)) aj))⟩) aj))) am)))))))))
abbrev gP:Stmt:=top 29
abbrev oA:List Str:=["thing"]
abbrev oV:List Str:=["is_pair","is_count","isinstance","tuple","len","all"]
abbrev oR:List Str:=["thing"]
def wu(hsc:Sc X gP)(g:Gd X oA oV k)(dc:DefCx X)(c9:Cal X "is_row" rn rQ k)(c4:Cal X "is_count" kg d4 k)(c1:Cal X "is_pair" iS fD k)(n2:Nn X "all")(n7:Nn X "len")(n6:Nn X "isinstance")(n15:Nn X "tuple"):MSs X (aH gP) m_is_sheet :=
 (MS2.h (m1c (s_1 (bE (MW.mt (fj (cG (b7 (kCa g 0 c1 (ag (kV g 0) aj)))) (fj (cG (b7 (kCa g 1 c4 (ag (kIx (kV g 0) ah) aj)))) (e8 (cG (b7 (dS g (i:=2) (j:=3) rfl n6 rfl n15 cg dR (kIx (kV g 0) ah)))))))) (MS2.h (m1n (r_1 (e_1 bW)))) bf))
 (m1n (r_1 (e_1 (cF (kCm (gj g.room) (kCb g 4 dQ n7 dP (ag (kIx (kV g 0) ah) aj)) (kIx (kV g 0) ah)) (dU (kCb g 5 (ot g) n2 nS (ag (kCp g hsc ["row"] ["thing"] ["is_row"] [0] (bN (kIx (kV g 0) ah)) fun Y y g=>⟨(kNm g 0),dE,(kCa g 0 (y.c c9) (ag (kIx (kV g 1) ah) (ag (kV g 0) aj)))⟩) aj)))))))))
abbrev gp:Stmt:=top 30
abbrev mO:List Str:=["sheet","i","j"]
abbrev mK:List Str:=["check_place","dict","NOUGHT"]
abbrev mQ:List Str:=["sheet","i","j"]
def uh(hsc:Sc X gp)(g:Gd X mO mK k)(dc:DefCx X)(c6:Cal X "check_place" kI dy k)(n4:Nn X "dict")(v_NOUGHT:TupG X.K X.mg "NOUGHT" 0 1):MSs X (aH gp) m_number_at :=
 (MS2.h (m1c (s_1 (d8 (kCa g 0 c6 (ag (kIx (kV g 0) ah) (ag (kV g 1) aj)))))
 (m1c (s_1 (d8 (kCa g 0 c6 (ag (kIx (kV g 0) ah) (ag (kV g 2) aj)))))
 (m1n (r_1 (e_1 (me_dget g (j:=1) rfl n4 (kIx (kIx (kV g 0) ah) (kV g 1)) (ag (kV g 2) (ag (xn g (q:=2) rfl v_NOUGHT) aj)))))))))
abbrev lW:Stmt:=top 32
abbrev vx:List Str:=["_law_script","_law_k","_law_cell"]
abbrev vB:List Str:=["min","len","abs"]
abbrev vE:List Str:=["_law_script","_law_k"]
def b_l_pen(hsc:Sc X lW)(g:Gd X vx vB k)(dc:DefCx X)(n1:Nn X "abs")(n7:Nn X "len")(n10:Nn X "min"):MSs X (aH lW) m_l_pen :=
 (MS2.h (m1c (a_1 g 2 (e_1 (ao aJ (ao gB ah (kV g 1)) ah)))
 (m1c (s_1 (bE (kTc we (kV g 1) (kCb g 0 (rf g) n10 t7 (ag (kCb g 1 dQ n7 dP (ag (kV g 0) aj)) (ag ah aj)))) (MS2.h (m1n (a_1 g 2 (e_1 (kIx (kV g 0) (kV g 1)))))) (MS2.h (m1n (s_1 (bE (kTc oj_gt (kCb g 1 dQ n7 dP (ag (kV g 0) aj)) ah) (MS2.h (m1n (a_1 g 2 (e_1 (ao aJ (ao dj (kIx (kV g 0) (ao dj (kV g 1) (kCb g 0 (rf g) n10 t7 (ag (kCb g 1 dQ n7 dP (ag (kV g 0) aj)) (ag ah aj))))) (ao eW ah ah)) (ao gB ah (kV g 1))))))) bf))))))
 (m1c (s_1 (bE (kTc oj_ge (kCb g 2 lu n1 lr (ag (kV g 2) aj)) (ao eW ah ah)) (MS2.h (m1n (r_1 (l_1 (ae (e_1 ah) (ae (e_1 (kCb g 2 lu n1 lr (ag (kV g 2) aj))) (ae (e_1 ah) am))))))) bf))
 (m1n (r_1 (l_1 (ae (e_1 ah) (ae (e_1 (ao aJ (ao dj (kV g 2) ah) (ao gB ah (kV g 1)))) (ae (e_1 ah) am))))))))))
abbrev jF:Stmt:=top 33
abbrev sO:List Str:=["_law_pen_here","_law_size","_law_number_here","_law_drawn"]
abbrev rq:List Str:=[]
abbrev fX:List Str:=["_law_pen_here","_law_size"]
def zf(hsc:Sc X jF)(g:Gd X sO rq k)(dc:DefCx X):MSs X (aH jF) m_l_draw :=
 (MS2.h (m1c (s_1 (sY (ao aJ (kIx (kV g 0) ah) ah) (w5 (kV g 0) ah)))
 (m1c (s_1 (bE (kTc (gj g.room) (kIx (kV g 0) ah) ah) (MS2.h (m1c (a_1 g 3 (e_1 (ao dj (kIx (kV g 0) ah) (kV g 1))))
 (m1c (s_1 (sY (ao qV (kIx (kV g 0) ah) (kV g 1)) (w5 (kV g 0) ah)))
 (m1n (r_1 (e_1 (kV g 3))))))) bf))
 (m1c (a_1 g 2 (e_1 (ao dj (ao gB (ao aJ (ao aJ (kIx (kV g 0) ah) (ao gB ah (kIx (kV g 0) ah))) ah) ah) ah)))
 (m1c (a_1 g 2 (e_1 (ao dj (ao gB (kV g 2) (ao aJ (ao aJ (ao dj (kV g 2) ah) (kIx (kV g 0) ah)) ah)) ah)))
 (m1n (r_1 (e_1 (ao dj (ao qV (ao dj (ao gB (kV g 2) (ao aJ (ao dj (kV g 2) ah) ah)) ah) ah) (kV g 1))))))))))
abbrev hZ:Stmt:=top 34
abbrev nH:List Str:=["_law_top","_law_bottom","_law_one","_law_other"]
abbrev oN:List Str:=["abs"]
abbrev nF:List Str:=["_law_top","_law_bottom"]
def wK(hsc:Sc X hZ)(g:Gd X nH oN k)(dc:DefCx X)(n1:Nn X "abs"):MSs X (aH hZ) m_l_lowest :=
 (MS2.h (m1c (s_1 (xJ g 2 3 rfl rfl (by decide) (ag (kCb g 0 lu n1 lr (ag (kV g 0) aj)) (ag (kCb g 0 lu n1 lr (ag (kV g 1) aj)) aj)) (by rw[hsc];rfl) (by rw[hsc];rfl) (by revert hsc;unfold Sc;generalize X.env=env;intro h;cases env;cases h;rfl)))
 (m1c (s_1 (rB g (kTc oj_gt (kV g 3) ah) (MS2.h (m1n (s_1 (xJ g 2 3 rfl rfl (by decide) (ag (kV g 3) (ag (ao dj (kV g 2) (kV g 3)) aj)) (by rw[hsc];rfl) (by rw[hsc];rfl) (by revert hsc;unfold Sc;generalize X.env=env;intro h;cases env;cases h;rfl)))))))
 (m1c (s_1 (bE (kTc we (kV g 1) ah) (MS2.h (m1n (a_1 g 2 (e_1 (jM iu (kV g 2)))))) bf))
 (m1n (r_1 (t_1 (ae (e_1 (ao qV (kV g 0) (kV g 2))) (ae (e_1 (ao qV (kV g 1) (kV g 2))) am)))))))))
abbrev ir:Stmt:=top 35
abbrev m4:List Str:=["_law_found","_law_due"]
abbrev nz:List Str:=["isinstance","list","tuple","len","all","zip","int","bool"]
abbrev ku:List Str:=["_law_found","_law_due"]
def yu(hsc:Sc X ir)(g:Gd X m4 nz k)(dc:DefCx X)(c16:Cal X "_law_same" ku F k)(n6:Nn X "isinstance")(n3:Nn X "bool")(n5:Nn X "int")(n8:Nn X "list")(n15:Nn X "tuple")(n16:Nn X "zip")(n2:Nn X "all")(n7:Nn X "len"):MSs X (aH ir) (iq F) :=
 (MS2.h (m1c (s_1 (bE (kTc qU (kV g 1) bZ) (MS2.h (m1n (r_1 (e_1 (kCm qU (kV g 0) bZ))))) bf))
 (m1c (s_1 (bE (b7 (lJ g (i:=0) (j:=1) (j':=2) rfl n6 rfl n8 dg fv rfl n15 cg dR (kV g 1))) (MS2.h (m1c (s_1 (bE (MW.mt (fj (cG (b7 (lJ g (i:=0) (j:=1) (j':=2) rfl n6 rfl n8 dg fv rfl n15 cg dR (kV g 0)))) (e8 (kTc (cY g.room) (dS g (i:=0) (j:=1) rfl n6 rfl n8 dg fv (kV g 0)) (dS g (i:=0) (j:=1) rfl n6 rfl n8 dg fv (kV g 1)))))) (MS2.h (m1n (r_1 (e_1 bW)))) bf))
 (m1n (r_1 (e_1 (cF (kCm (gj g.room) (kCb g 3 dQ n7 dP (ag (kV g 0) aj)) (kCb g 3 dQ n7 dP (ag (kV g 1) aj))) (dU (kCb g 4 (ot g) n2 nS (ag (kCp g hsc ["_law_one","_law_other"] [] ["_law_same"] [] (mi_zip g (j:=5) rfl n16 (ag (kV g 0) (ag (kV g 1) aj))) fun Y y g=>⟨(sC g (fY (kNm g 0) (fY (kNm g 1) pA))),dE,(kCa g 0 (y.c c16) (ag (kV g 0) (ag (kV g 1) aj)))⟩) aj))))))))) bf))
 (m1n (r_1 (e_1 (cF (dS g (i:=0) (j:=6) rfl n6 rfl n5 k9 uX (kV g 0)) (cF (wR (dS g (i:=0) (j:=7) rfl n6 rfl n3 pD mW (kV g 0))) (dU (kCm (gj g.room) (kV g 0) (kV g 1)))))))))))
def qe{K:qab}{k:Nat}(b:Ba P w K mg base)(D:DefAt K "_law_same" ir)(z6:Zn K "isinstance")(z3:Zn K "bool")(z5:Zn K "int")(z8:Zn K "list")(z15:Zn K "tuple")(z16:Zn K "zip")(z2:Zn K "all")(z7:Zn K "len"):∀n:Nat,FnAt P w K mg base "_law_same" ku (cV n) (k+n+1)
 | 0=>fnN (N:=m4) (G:=nz) (m:=fun _ _=>.bad) b D fun X e h g d=>mss_bad
 | n+1=>fnN (N:=m4) (G:=nz) (k:=k+n+1) (m:=iq (cV n)) b D fun X e h g d=>yu h g d ((qe b D z6 z3 z5 z8 z15 z16 z2 z7 n).c e (qai _)) (e.n z6) (e.n z3) (e.n z5) (e.n z8) (e.n z15) (e.n z16) (e.n z2) (e.n z7)
abbrev gO:Stmt:=top 36
abbrev nY:List Str:=["_law_pen_here","_law_way"]
abbrev oB:List Str:=["_law_draw","_law_lowest"]
abbrev nV:List Str:=["_law_pen_here"]
def wt(hsc:Sc X gO)(g:Gd X nY oB k)(dc:DefCx X)(c14:Cal X "_law_draw" fX bh k)(c15:Cal X "_law_lowest" nF ky k):MSs X (aH gO) m_l_number :=
 (MS2.h (m1c (a_1 g 1 (e_1 (kCa g 0 c14 (ag (kV g 0) (ag ah aj)))))
 (m1c (s_1 (bE (kTc (gj g.room) (kV g 1) ah) (MS2.h (m1n (r_1 (e_1 (kCa g 1 c15 (ag (ao aJ (ao eZ (kCa g 0 c14 (ag (kV g 0) (ag (ao eZ (ao gB ah (ao eW ah ah)) ah) aj))) (ao eW ah ah)) ah) (ag (ao aJ ah (kCa g 0 c14 (ag (kV g 0) (ag (ao eZ (ao eW ah ah) ah) aj)))) aj))))))) bf))
 (m1n (r_1 (e_1 (kCa g 1 c15 (ag (ao eZ (kCa g 0 c14 (ag (kV g 0) (ag ah aj))) ah) (ag (ao aJ ah (kCa g 0 c14 (ag (kV g 0) (ag (kIx (ME1.h (l_1 (ae (e_1 ah) (ae (e_1 ah) (ae (e_1 ah) am))))) (ao dj (kV g 1) ah)) aj)))) aj)))))))))
abbrev kB:Stmt:=top 37
abbrev sB:List Str:=["_law_pen_here","_law_n","_law_some","_law_rows_here","_law_i","_law_row"]
abbrev sA:List Str:=["_law_draw","range","tuple"]
abbrev tW:List Str:=["_law_pen_here","_law_n"]
def zn(hsc:Sc X kB)(g:Gd X sB sA k)(dc:DefCx X)(c14:Cal X "_law_draw" fX bh k)(c17:Cal X "_law_number" nV oi k)(n15:Nn X "tuple")(n11:Nn X "range"):MSs X (aH kB) m_l_rows :=
 (MS2.h (m1c (a_1 g 2 (e_1 (ao aJ ah (kCa g 0 c14 (ag (kV g 0) (ag ah aj))))))
 (m1c (a_1 g 3 (e_1 (iI aj)))
 (m1c (s_1 (eV g (kR1 g 1 n11 (ag (kV g 1) aj)) (kNm g 4) (MS2.h (m1c (s_1 (kSc g hsc 5 ["_law_j"] ["_law_pen_here","_law_some"] ["_law_number","_law_draw"] [0,2] (kR1 g 1 n11 (ag (kV g 1) aj)) fun Y y g=>⟨(kNm g 0),(lP (kTc (gj g.room) (kCa g 1 (y.c c14) (ag (kV g 1) (ag (kV g 2) aj))) ah)),(ME1.h (t_1 (ae (e_1 (kV g 0)) (ae (e_1 (kCa g 0 (y.c c17) (ag (kV g 1) aj))) am))))⟩))
 (m1n (s_1 (d8 (o3 gu gw gA (kV g 3) (ag (kCt g 2 fZ n15 cg (ag (kCp g hsc ["_law_j","_law_number_here"] [] [] [] (bN (kV g 5)) fun Y y g=>⟨(sC g (fY (kNm g 0) (fY (kNm g 1) pA))),(lP (kTc (cY g.room) (kIx (kV g 1) ah) ah)),(ME1.h (t_1 (ae (e_1 (kV g 0)) (ae (e_1 (kV g 1)) am))))⟩) aj)) aj)))))))))
 (m1n (r_1 (e_1 (kCt g 2 fZ n15 cg (ag (kV g 3) aj)))))))))
abbrev jC:Stmt:=top 38
abbrev rF:List Str:=["_law_caught","_law_others"]
abbrev sM:List Str:=["isinstance","ValueError","NoNumber","NoOrder","NoParting","NoPivot","NoRow","NoText","NoWeb","NoWord","TooMany","int","NoSheet","NoPlace"]
abbrev nE:List Str:=["_law_caught"]
def yR(hsc:Sc X jC)(g:Gd X rF sM k)(dc:DefCx X)(n5:Nn X "int")(n6:Nn X "isinstance")(n0:Nn X "ValueError")(cl:Cl X.K X.mg):MSs X (aH jC) m_l_word :=
 (MS2.h (m1c (s_1 (bE (MW.mt (fj (kTc qU (kV g 0) bZ) (e8 (cG (b7 (me_isiB g (i:=0) (j:=1) rfl n6 rfl n0 qQ cl.i_ValueError (kV g 0))))))) (MS2.h (m1n (r_1 (e_1 bg)))) bf))
 (m1c (a_1 g 1 (e_1 (yF g (i:=0) rfl n6 (dt g (j:=2) rfl cl.i_NoNumber (dt g (j:=3) rfl cl.i_NoOrder (dt g (j:=4) rfl cl.i_NoParting (dt g (j:=5) rfl cl.i_NoPivot (dt g (j:=6) rfl cl.i_NoRow (dt g (j:=7) rfl cl.i_NoText (dt g (j:=8) rfl cl.i_NoWeb (dt g (j:=9) rfl cl.i_NoWord (dt g (j:=10) rfl cl.i_TooMany ics_nil))))))))) cl.i_NoNumber (by decide) (kV g 0))))
 (m1n (r_1 (e_1 (me_sm PySem.F.slot_str_join PySem.F.type_str_join mj_join bg (ag (ME1.h (l_1 (ae (i_1 (l_1 (ae (e_1 bg) (ae (e_1 bg) am))) (e_1 (kCt g 11 sQ n5 k9 (ag (uL g (i:=0) (j:=12) rfl n6 rfl cl.i_NoSheet (kV g 0)) aj)))) (ae (i_1 (l_1 (ae (e_1 bg) (ae (e_1 bg) am))) (e_1 (kCt g 11 sQ n5 k9 (ag (uL g (i:=0) (j:=13) rfl n6 rfl cl.i_NoPlace (kV g 0)) aj)))) (ae (i_1 (l_1 (ae (e_1 bg) (ae (e_1 bg) am))) (e_1 (kCt g 11 sQ n5 k9 (ag (kV g 1) aj)))) am))))) aj))))))))
abbrev jQ:Stmt:=top 39
abbrev tV:List Str:=["_law_n","_law_rows_here","_law_caught","e"]
abbrev sI:List Str:=["sheet_of","FillError","_law_word"]
abbrev nC:List Str:=["_law_n","_law_rows_here"]
def yn(hsc:Sc X jQ)(g:Gd X tV sI k)(dc:DefCx X)(c19:Cal X "_law_word" nE dN k)(c10:Cal X "sheet_of" gZ aY k)(cl:Cl X.K X.mg):MSs X (aH jQ) m_l_made :=
 (MS2.h (m1c (a_1 g 2 (e_1 bZ))
 (m1c (s_1 (vh g dc (j:=1) rfl cl.t_FillError 2 3 rfl rfl rfl rfl (by rw[hsc];decide +kernel) (fun Y y1 y2 y3 y4 y5 y6 g dc=>have c10:=c10.at y1 y2 y3 y4 y5;(MS2.h (m1n (s_1 (d8 (kCa g 0 c10 (ag (kV g 0) (ag (kV g 1) aj)))))))) (by revert hsc;unfold Sc;generalize X.env=env;intro h;cases env;cases h;rfl)))
 (m1n (r_1 (e_1 (kCa g 2 c19 (ag (kV g 2) aj))))))))
abbrev iT:Stmt:=top 40
abbrev qB:List Str:=["_law_sheet","_law_i","_law_j","_law_caught","e"]
abbrev qH:List Str:=["number_at","FillError","_law_word"]
abbrev kU:List Str:=["_law_sheet","_law_i","_law_j"]
def xI(hsc:Sc X iT)(g:Gd X qB qH k)(dc:DefCx X)(c19:Cal X "_law_word" nE dN k)(c12:Cal X "number_at" mQ dG k)(cl:Cl X.K X.mg):MSs X (aH iT) m_l_asked :=
 (MS2.h (m1c (a_1 g 3 (e_1 bZ))
 (m1c (s_1 (vh g dc (j:=1) rfl cl.t_FillError 3 4 rfl rfl rfl rfl (by rw[hsc];decide +kernel) (fun Y y1 y2 y3 y4 y5 y6 g dc=>have c12:=c12.at y1 y2 y3 y4 y5;(MS2.h (m1n (s_1 (d8 (kCa g 0 c12 (ag (kV g 0) (ag (kV g 1) (ag (kV g 2) aj))))))))) (by revert hsc;unfold Sc;generalize X.env=env;intro h;cases env;cases h;rfl)))
 (m1n (r_1 (e_1 (kCa g 2 c19 (ag (kV g 3) aj))))))))
abbrev fi:Stmt:=top 41
abbrev kE:List Str:=["_law_n","_law_j","_law_number_here","_law_some"]
abbrev kL:List Str:=[]
abbrev kD:List Str:=["_law_n","_law_j","_law_number_here"]
def qN(hsc:Sc X fi)(g:Gd X kE kL k)(dc:DefCx X):MSs X (aH fi) m_l_bad_parts :=
 (MS2.h (m1c (a_1 g 3 (l_1 (ae (l_1 (ae (e_1 (kV g 1)) (ae (e_1 (kV g 2)) am))) (ae (t_1 (ae (e_1 (kV g 1)) am)) (ae (t_1 (ae (e_1 (kV g 1)) (ae (e_1 (kV g 2)) (ae (e_1 (kV g 2)) am)))) (ae (e_1 (dM aj)) (ae (e_1 bZ) (ae (e_1 (kV g 1)) (ae (e_1 bg) (ae (e_1 fA) (ae (t_1 (ae (e_1 (kV g 0)) (ae (e_1 (kV g 2)) am))) (ae (t_1 (ae (e_1 (jM iu ah)) (ae (e_1 (kV g 2)) am))) (ae (t_1 (ae (e_1 bW) (ae (e_1 (kV g 2)) am))) am)))))))))))))
 (m1c (a_1 g 3 (b_1 aJ (e_1 (kV g 3)) (l_1 (ae (t_1 (ae (e_1 bZ) (ae (e_1 (kV g 2)) am))) (ae (t_1 (ae (e_1 bg) (ae (e_1 (kV g 2)) am))) (ae (t_1 (ae (e_1 (kV g 1)) (ae (t_1 (ae (e_1 ah) (ae (e_1 ah) am))) am))) (ae (t_1 (ae (e_1 (kV g 1)) (ae (t_1 (ae (e_1 ah) (ae (e_1 ah) am))) am))) (ae (t_1 (ae (e_1 (kV g 1)) (ae (t_1 (ae (e_1 ah) (ae (e_1 ah) am))) am))) (ae (t_1 (ae (e_1 (kV g 1)) (ae (t_1 (ae (e_1 ah) (ae (e_1 (jM iu ah)) am))) am))) (ae (t_1 (ae (e_1 (kV g 1)) (ae (l_1 (ae (e_1 ah) (ae (e_1 ah) am))) am))) am))))))))))
 (m1c (a_1 g 3 (b_1 aJ (e_1 (kV g 3)) (l_1 (ae (t_1 (ae (l_1 (ae (e_1 (kV g 1)) am)) (ae (e_1 (kV g 2)) am))) (ae (t_1 (ae (e_1 fA) (ae (e_1 (kV g 2)) am))) (ae (t_1 (ae (e_1 (kV g 1)) (ae (t_1 (ae (e_1 ah) (ae (e_1 bW) am))) am))) (ae (t_1 (ae (e_1 (kV g 1)) (ae (e_1 fA) am))) (ae (e_1 bg) am))))))))
 (m1n (r_1 (b_1 aJ (e_1 (kV g 3)) (l_1 (ae (t_1 (ae (e_1 (kV g 1)) (ae (e_1 ah) am))) (ae (t_1 (ae (e_1 (kV g 1)) (ae (t_1 (ae (e_1 bW) (ae (e_1 ah) am))) am))) (ae (t_1 (ae (e_1 (kV g 1)) (ae (t_1 (ae (e_1 ah) (ae (e_1 ah) (ae (e_1 ah) am)))) am))) (ae (t_1 (ae (e_1 (kV g 1)) (ae (t_1 (ae (e_1 ah) (ae (e_1 ah) am))) am))) (ae (t_1 (ae (e_1 (kV g 1)) (ae (e_1 bZ) am))) (ae (t_1 (ae (t_1 (ae (e_1 (kV g 1)) (ae (e_1 (kV g 2)) am))) (ae (e_1 (kV g 2)) am))) am))))))))))))))
abbrev fL:Stmt:=top 42
abbrev lE:List Str:=["_law_pen_here","_law_n","_law_rows_here","_law_i","_law_j","_law_row","_law_at","_law_found","_law_part","_law_twice","_law_other","_law_bent"]
abbrev kX:List Str:=["_law_draw","len","_law_bad_parts"]
abbrev lF:List Str:=["_law_pen_here","_law_n","_law_rows_here"]
def tQ(hsc:Sc X fL)(g:Gd X lE kX k)(dc:DefCx X)(c22:Cal X "_law_bad_parts" kD kH k)(c14:Cal X "_law_draw" fX bh k)(n7:Nn X "len"):MSs X (aH fL) m_l_bad_rows :=
 (MS2.h (m1c (a_1 g 3 (e_1 (kCa g 0 c14 (ag (kV g 0) (ag (kV g 1) aj)))))
 (m1c (a_1 g 4 (e_1 (kCa g 0 c14 (ag (kV g 0) (ag (kV g 1) aj)))))
 (m1c (s_1 (kSc g hsc 5 ["_law_part"] ["_law_j"] [] [4] (bN (kIx (kV g 2) (kV g 3))) fun Y y g=>⟨(kNm g 0),(lP (kTc (cY g.room) (kIx (kV g 0) ah) (kV g 1))),(kV g 0)⟩))
 (m1c (a_1 g 6 (e_1 (kCa g 0 c14 (ag (kV g 0) (ag (ao aJ (kCb g 1 dQ n7 dP (ag (kV g 5) aj)) ah) aj)))))
 (m1c (s_1 (kSc g hsc 7 ["_law_other"] ["_law_rows_here","_law_i"] [] [2,3] (bN (ME1.h (t_1 (ae (e_1 bZ) (ae (e_1 ah) (ae (e_1 bg) (ae (e_1 bg) (ae (e_1 fA) am)))))))) fun Y y g=>⟨(kNm g 0),dE,(ao aJ (ao aJ (dZ (kV g 1) bQ (bS (kV g 2))) (ME1.h (l_1 (ae (e_1 (kV g 0)) am)))) (dZ (kV g 1) (bS (ao aJ (kV g 2) ah)) bQ))⟩))
 (m1c (s_1 (eV g (bN (kCa g 2 c22 (ag (kV g 1) (ag (kV g 4) (ag (ME1.h (t_1 (ae (e_1 ah) (ae (e_1 ah) am)))) aj))))) (kNm g 8) (MS2.h (m1c (a_1 g 11 (b_1 aJ (b_1 aJ (e_1 (dZ (kV g 5) bQ (bS (kV g 6)))) (l_1 (ae (e_1 (kV g 8)) am))) (e_1 (dZ (kV g 5) (bS (kV g 6)) bQ))))
 (m1n (s_1 (d8 (o3 gu gw gA (kV g 7) (ag (ao aJ (ao aJ (dZ (kV g 2) bQ (bS (kV g 3))) (ME1.h (l_1 (ae (e_1 (kV g 11)) am)))) (dZ (kV g 2) (bS (ao aJ (kV g 3) ah)) bQ)) aj)))))))))
 (m1c (a_1 g 9 (b_1 aJ (b_1 aJ (b_1 aJ (e_1 (dZ (kV g 5) bQ (bS (kV g 6)))) (l_1 (ae (t_1 (ae (e_1 (kV g 4)) (ae (t_1 (ae (e_1 ah) (ae (e_1 ah) am))) am))) am))) (e_1 (dZ (kV g 5) (bS (kV g 6)) bQ))) (l_1 (ae (t_1 (ae (e_1 (kV g 4)) (ae (t_1 (ae (e_1 ah) (ae (e_1 ah) am))) am))) am))))
 (m1c (s_1 (d8 (o3 gu gw gA (kV g 7) (ag (ao aJ (ao aJ (dZ (kV g 2) bQ (bS (kV g 3))) (ME1.h (l_1 (ae (e_1 (kV g 9)) am)))) (dZ (kV g 2) (bS (ao aJ (kV g 3) ah)) bQ)) aj))))
 (m1c (a_1 g 10 (b_1 aJ (b_1 aJ (l_1 (ae (t_1 (ae (e_1 (kV g 4)) (ae (t_1 (ae (e_1 ah) (ae (e_1 ah) am))) am))) am)) (e_1 (kV g 5))) (l_1 (ae (t_1 (ae (e_1 (kV g 4)) (ae (t_1 (ae (e_1 ah) (ae (e_1 ah) am))) am))) am))))
 (m1c (s_1 (d8 (o3 gu gw gA (kV g 7) (ag (ao aJ (ao aJ (dZ (kV g 2) bQ (bS (kV g 3))) (ME1.h (l_1 (ae (e_1 (kV g 10)) am)))) (dZ (kV g 2) (bS (ao aJ (kV g 3) ah)) bQ)) aj))))
 (m1n (r_1 (b_1 aJ (e_1 (kV g 7)) (l_1 (ae (e_1 (dZ (kV g 2) bQ (bS (jM iu ah)))) (ae (b_1 aJ (e_1 (kV g 2)) (l_1 (ae (e_1 (dM aj)) am))) (ae (b_1 aJ (e_1 (kV g 2)) (l_1 (ae (e_1 bZ) am))) am))))))))))))))))))
abbrev hV:Stmt:=top 43
abbrev oS:List Str:=["_law_rows_here","_law_found","_law_row"]
abbrev oY:List Str:=["isinstance","list","tuple"]
abbrev oq:List Str:=["_law_rows_here"]
def wj(hsc:Sc X hV)(g:Gd X oS oY k)(dc:DefCx X)(n15:Nn X "tuple")(n6:Nn X "isinstance")(n8:Nn X "list"):MSs X (aH hV) m_l_tupled :=
 (MS2.h (m1c (a_1 g 1 (e_1 (iI aj)))
 (m1c (s_1 (eV g (bN (kV g 0)) (kNm g 2) (MS2.h (m1c (s_1 (bE (b7 (dS g (i:=0) (j:=1) rfl n6 rfl n8 dg fv (kV g 2))) (MS2.h (m1n (a_1 g 2 (e_1 (kCt g 2 fZ n15 cg (ag (kV g 2) aj)))))) bf))
 (m1n (s_1 (d8 (o3 gu gw gA (kV g 1) (ag (kV g 2) aj)))))))))
 (m1n (r_1 (e_1 (kCt g 2 fZ n15 cg (ag (kV g 1) aj))))))))
abbrev fb:Stmt:=top 44
abbrev kG:List Str:=["_law_sheet","_law_pen_here","_law_i","_law_two","_law_near","_law_n","_law_rows_here"]
abbrev kF:List Str:=["_law_draw","list"]
abbrev kN:List Str:=["_law_sheet","_law_pen_here"]
def qJ(hsc:Sc X fb)(g:Gd X kG kF k)(dc:DefCx X)(c14:Cal X "_law_draw" fX bh k)(n8:Nn X "list"):MSs X (aH fb) m_l_no_sheets :=
 (MS2.h (m1c (s_1 (sY (kV g 0) (sC g (fY (kNm g 5) (fY (kNm g 6) pA)))))
 (m1c (a_1 g 2 (e_1 (kCa g 0 c14 (ag (kV g 1) (ag (kV g 5) aj)))))
 (m1c (a_1 g 3 (t_1 (ae (t_1 (ae (e_1 (ao eZ (kV g 5) ah)) (ae (t_1 (ae (e_1 ah) (ae (e_1 ah) am))) am))) (ae (t_1 (ae (e_1 ah) (ae (t_1 (ae (e_1 ah) (ae (e_1 ah) am))) am))) am))))
 (m1c (s_1 (kSc g hsc 4 ["_law_other"] ["_law_n","_law_rows_here","_law_i"] [] [5,6,2] (bN (ME1.h (t_1 (ae (e_1 (kCt g 1 lO n8 dg (ag (kIx (kV g 6) (kV g 2)) aj))) (ae (e_1 (kV g 3)) (ae (e_1 fA) (ae (e_1 bZ) (ae (e_1 ah) am)))))))) fun Y y g=>⟨(kNm g 0),dE,(ME1.h (t_1 (ae (e_1 (kV g 1)) (ae (b_1 fW (b_1 fW (e_1 (tE (kV g 2) bQ (bS (kV g 3)))) (t_1 (ae (e_1 (kV g 0)) am))) (e_1 (tE (kV g 2) (bS (ao fW (kV g 3) ah)) bQ))) am))))⟩))
 (m1c (a_1 g 4 (b_1 fW (e_1 (kV g 4)) (l_1 (ae (t_1 (ae (e_1 (kV g 5)) (ae (e_1 (kCt g 1 lO n8 dg (ag (kV g 6) aj))) am))) (ae (l_1 (ae (e_1 (kV g 5)) (ae (e_1 (kV g 6)) am))) (ae (t_1 (ae (e_1 (kV g 5)) (ae (e_1 (kV g 6)) (ae (e_1 (dM aj)) am)))) (ae (t_1 (ae (e_1 (kV g 5)) am)) (ae (e_1 (kV g 6)) am))))))))
 (m1c (a_1 g 4 (b_1 fW (e_1 (kV g 4)) (l_1 (ae (e_1 (kV g 5)) (ae (e_1 bg) (ae (e_1 fA) (ae (e_1 bZ) (ae (e_1 bW) (ae (e_1 (ao eW ah ah)) (ae (t_1 (ae (e_1 (kV g 5)) (ae (e_1 bZ) am))) (ae (t_1 (ae (e_1 bZ) (ae (e_1 (kV g 6)) am))) am)))))))))))
 (m1n (r_1 (b_1 fW (e_1 (kV g 4)) (l_1 (ae (t_1 (ae (e_1 bW) (ae (e_1 (tE (kV g 6) bQ (bS ah))) am))) (ae (t_1 (ae (e_1 (ao fW (kV g 5) ah)) (ae (e_1 (kV g 6)) am))) (ae (t_1 (ae (e_1 (ao eZ (kV g 5) ah)) (ae (e_1 (kV g 6)) am))) (ae (t_1 (ae (e_1 (jM iu ah)) (ae (e_1 (dM aj)) am))) (ae (t_1 (ae (e_1 ah) (ae (b_1 oj_mulT (t_1 (ae (e_1 (dM aj)) am)) (e_1 ah)) am))) am))))))))))))))))
abbrev iU:Stmt:=top 45
abbrev qD:List Str:=["_law_pen_here","_law_n","_law_rows_here","_law_plain","_law_number_here","_law_other","_law_bad","_law_place"]
abbrev qt:List Str:=["_law_draw","_law_rows","str","isinstance","bool","_law_made","_law_bad_rows","is_sheet","_law_tupled","_law_no_sheets","_law_asked","_law_same","sheet_of"]
abbrev pT:List Str:=["_law_pen_here"]
def wQ(hsc:Sc X iU)(g:Gd X qD qt k)(dc:DefCx X)(c11:Cal X "is_sheet" oR gS k)(c10:Cal X "sheet_of" gZ aY k)(c16:Cal X "_law_same" ku fq k)(c21:Cal X "_law_asked" kU dl k)(c25:Cal X "_law_no_sheets" kN kM k)(c23:Cal X "_law_bad_rows" lF lx k)(c24:Cal X "_law_tupled" oq nP k)(c20:Cal X "_law_made" nC cI k)(c18:Cal X "_law_rows" tW tf k)(c14:Cal X "_law_draw" fX bh k)(n14:Nn X "str")(n6:Nn X "isinstance")(n3:Nn X "bool")(n8:Nn X "list"):MSs X (aH iU) m_l_right :=
 (MS2.h (m1c (a_1 g 1 (e_1 (ao aJ ah (kCa g 0 c14 (ag (kV g 0) (ag ah aj))))))
 (m1c (a_1 g 2 (e_1 (kCa g 1 c18 (ag (kV g 0) (ag (kV g 1) aj)))))
 (m1c (s_1 (kSc g hsc 3 ["_law_row"] [] ["list"] [] (bN (kV g 2)) fun Y y g=>⟨(kNm g 0),dE,(kCt g 0 lO (y.n n8) dg (ag (kV g 0) aj))⟩))
 (m1c (s_1 (eV g (bN (ME1.h (t_1 (ae (e_1 (ao aJ (kV g 1) ah)) (ae (e_1 (ao eZ (kV g 1) ah)) (ae (e_1 (jM iu ah)) (ae (e_1 ah) (ae (e_1 (ao eW ah ah)) (ae (e_1 (ao eZ ah (ao eW ah ah))) (ae (e_1 bW) (ae (e_1 bZ) (ae (e_1 (kCt g 2 cj_str n14 bt_str (ag (kV g 1) aj))) (ae (t_1 (ae (e_1 (kV g 1)) am)) am))))))))))))) (kNm g 4) (MS2.h (m1n (s_1 (bE (MW.mt (mw_and (MW.mt (fj (kTc (cY g.room) (kV g 4) (kV g 1)) (e8 (b7 (dS g (i:=3) (j:=4) rfl n6 rfl n3 pD mW (kV g 4)))))) (mw_and1 (kTc (cY g.room) (kCa g 5 c20 (ag (kV g 4) (ag (kV g 3) aj))) bg)))) (MS2.h (m1n (r_1 (e_1 bW)))) bf))))))
 (m1c (s_1 (eV g (bN (ME1.h (t_1 (ae (e_1 bZ) (ae (e_1 (kV g 1)) (ae (e_1 bg) (ae (e_1 fA) (ae (e_1 (dM aj)) am)))))))) (kNm g 5) (MS2.h (m1n (s_1 (bE (kTc (cY g.room) (kCa g 5 c20 (ag (kV g 1) (ag (kV g 5) aj))) bg) (MS2.h (m1n (r_1 (e_1 bW)))) bf))))))
 (m1c (s_1 (eV g (bN (kCa g 6 c23 (ag (kV g 0) (ag (kV g 1) (ag (kV g 3) aj))))) (kNm g 6) (MS2.h (m1n (s_1 (bE (MW.mt (fj (kTc (cY g.room) (kCa g 5 c20 (ag (kV g 1) (ag (kV g 6) aj))) bg) (e8 (kTc xF (kCa g 7 c11 (ag (ME1.h (t_1 (ae (e_1 (kV g 1)) (ae (e_1 (kCa g 8 c24 (ag (kV g 6) aj))) am)))) aj)) bW)))) (MS2.h (m1n (r_1 (e_1 bW)))) bf))))))
 (m1c (s_1 (bE (kTc (cY g.room) (kCp g hsc ["_law_thing"] [] ["is_sheet"] [] (bN (kCa g 9 c25 (ag (ME1.h (t_1 (ae (e_1 (kV g 1)) (ae (e_1 (kV g 2)) am)))) (ag (kV g 0) aj)))) fun Y y g=>⟨(kNm g 0),(lP (kTc xF (kCa g 0 (y.c c11) (ag (kV g 0) aj)) bW)),(kV g 0)⟩) (iI aj)) (MS2.h (m1n (r_1 (e_1 bW)))) bf))
 (m1c (s_1 (eV g (bN (ME1.h (t_1 (ae (e_1 (kV g 1)) (ae (e_1 (jM iu ah)) (ae (e_1 bW) (ae (e_1 bZ) (ae (e_1 bg) (ae (t_1 (ae (e_1 ah) am)) (ae (e_1 (ao eW ah ah)) (ae (e_1 (ao eZ ah (ao eW ah ah))) (ae (e_1 (iI aj)) am)))))))))))) (kNm g 7) (MS2.h (m1n (s_1 (bE (MW.mt (fj (kTc (cY g.room) (kCa g 10 c21 (ag (ME1.h (t_1 (ae (e_1 (kV g 1)) (ae (e_1 (kV g 2)) am)))) (ag (kV g 7) (ag ah aj)))) bg) (e8 (kTc (cY g.room) (kCa g 10 c21 (ag (ME1.h (t_1 (ae (e_1 (kV g 1)) (ae (e_1 (kV g 2)) am)))) (ag (ao eZ (kV g 1) ah) (ag (kV g 7) aj)))) bg)))) (MS2.h (m1n (r_1 (e_1 bW)))) bf))))))
 (m1n (r_1 (e_1 (cF (kCa g 11 c16 (ag (kCa g 12 c10 (ag (kV g 1) (ag (kV g 3) aj))) (ag (ME1.h (t_1 (ae (e_1 (kV g 1)) (ae (e_1 (kV g 2)) am)))) aj))) (dU (kCm qU (kCa g 7 c11 (ag (ME1.h (t_1 (ae (e_1 (kV g 1)) (ae (e_1 (kV g 2)) am)))) aj)) bW)))))))))))))))
abbrev nL:Stmt:=top 46
abbrev N_law:List Str:=["_law_script","_law_rows_here","_law_many"]
abbrev G_law:List Str:=["_law_made","_law_asked","_law_same","sheet_of","range","all","max","min","len"]
abbrev P_law:List Str:=["_law_script"]
def b_law(hsc:Sc X nL)(g:Gd X N_law G_law k)(dc:DefCx X)(c13:Cal X "_law_pen" vE ig k)(c26:Cal X "_law_right" pT fE k)(c20:Cal X "_law_made" nC cI k)(c10:Cal X "sheet_of" gZ aY k)(c16:Cal X "_law_same" ku fq k)(c21:Cal X "_law_asked" kU dl k)(n11:Nn X "range")(n7:Nn X "len")(n10:Nn X "min")(n9:Nn X "max")(n2:Nn X "all"):MSs X (aH nL) m_law :=
 (MS2.h (m1c (s_1 (eV g (bN (ME1.h (t_1 (ae (e_1 bZ) (ae (e_1 ah) (ae (e_1 bg) (ae (e_1 fA) (ae (l_1 (ae (e_1 (dM aj)) am)) (ae (t_1 (ae (e_1 (dM aj)) am)) am))))))))) (kNm g 1) (MS2.h (m1n (s_1 (bE (kTc (cY g.room) (kCa g 0 c20 (ag ah (ag (kV g 1) aj))) bg) (MS2.h (m1n (r_1 (e_1 bW)))) bf))))))
 (m1c (s_1 (bE (MW.mt (fj (kTc (cY g.room) (kCa g 1 c21 (ag (ME1.h (t_1 (ae (e_1 ah) (ae (e_1 (dM aj)) am)))) (ag ah (ag ah aj)))) bg) (e8 (cG (b7 (kCa g 2 c16 (ag (kCa g 3 c10 (ag ah (ag (iI aj) aj))) (ag (ME1.h (t_1 (ae (e_1 ah) (ae (e_1 (dM aj)) am)))) aj)))))))) (MS2.h (m1n (r_1 (e_1 bW)))) bf))
 (m1c (s_1 (eV g (bN (ME1.h (t_1 (ae (e_1 ah) (ae (e_1 ah) am))))) (kNm g 2) (MS2.h (m1n (s_1 (bE (kTc (cY g.room) (kCa g 0 c20 (ag (kV g 2) (ag (kCp g hsc ["_law_k"] [] [] [] (kR1 g 4 n11 (ag (kV g 2) aj)) fun Y y g=>⟨(kNm g 0),dE,(iI aj)⟩) aj))) bg) (MS2.h (m1n (r_1 (e_1 bW)))) bf))))))
 (m1n (r_1 (e_1 (kCb g 5 (ot g) n2 nS (ag (kCp g hsc ["_law_k"] ["_law_script"] ["_law_right","_law_pen"] [0] (kR1 g 4 n11 (ag (kCb g 6 (cj_max g) n9 bt_max (ag ah (ag (kCb g 7 (rf g) n10 t7 (ag (kCb g 8 dQ n7 dP (ag (kV g 0) aj)) (ag ah aj))) aj))) aj)) fun Y y g=>⟨(kNm g 0),dE,(kCa g 0 (y.c c26) (ag (kCa g 1 (y.c c13) (ag (kV g 1) (ag (kV g 0) aj))) aj))⟩) aj)))))))))
def bi_law:lI "law" nL P_law:=fun _ _ _ _ _ _=>ar1 fun _=>rfl
def all_fn{K:qab}(b:Ba P w K mg base)
  (D0:DefAt K "is_whole" hG)
  (D1:DefAt K "is_pair" iW)
  (D2:DefAt K "greatest_shared" db)
  (D3:DefAt K "is_number" gi)
  (D4:DefAt K "is_count" gW)
  (D5:DefAt K "is_place" gQ)
  (D6:DefAt K "check_place" fg)
  (D7:DefAt K "is_part" ja)
  (D8:DefAt K "are_parts" gf)
  (D9:DefAt K "is_row" jW)
  (D10:DefAt K "sheet_of" g6)
  (D11:DefAt K "is_sheet" gP)
  (D12:DefAt K "number_at" gp)
  (D13:DefAt K "_law_pen" lW)
  (D14:DefAt K "_law_draw" jF)
  (D15:DefAt K "_law_lowest" hZ)
  (D16:DefAt K "_law_same" ir)
  (D17:DefAt K "_law_number" gO)
  (D18:DefAt K "_law_rows" kB)
  (D19:DefAt K "_law_word" jC)
  (D20:DefAt K "_law_made" jQ)
  (D21:DefAt K "_law_asked" iT)
  (D22:DefAt K "_law_bad_parts" fi)
  (D23:DefAt K "_law_bad_rows" fL)
  (D24:DefAt K "_law_tupled" hV)
  (D25:DefAt K "_law_no_sheets" fb)
  (D26:DefAt K "_law_right" iU)
  (D27:DefAt K "law" nL)
  (z0:Zn K "ValueError")
  (z1:Zn K "abs")
  (z2:Zn K "all")
  (z3:Zn K "bool")
  (z4:Zn K "dict")
  (z5:Zn K "int")
  (z6:Zn K "isinstance")
  (z7:Zn K "len")
  (z8:Zn K "list")
  (z9:Zn K "max")
  (z10:Zn K "min")
  (z11:Zn K "range")
  (z12:Zn K "set")
  (z13:Zn K "sorted")
  (z14:Zn K "str")
  (z15:Zn K "tuple")
  (z16:Zn K "zip")
  (y_MOST_PLACES:∃t,PySem.W.nsIn K mainGlobals "MOST_PLACES"=some (some (.int 12 t)))
  (y_NOUGHT:oj K "NOUGHT" 0 1)
  (cl:Cl K mg)
   :FnAt P w K mg base "law" P_law f_law 11:=by
 have v_MOST_PLACES:∃t,mg "MOST_PLACES"=some (.int 12 t):=let ⟨t,e⟩:=y_MOST_PLACES;⟨t,PySem.W.mg_of b.kin b.ns e⟩;have v_NOUGHT:=y_NOUGHT.mg b.kin b.ns;have a0:=fnN (k:=0) (N:=oO) (G:=oG) (ps:=g7) b D0 fun X e h g d=>wE h g d (e.n z6) (e.n z3) (e.n z5);have a1:=fnN (k:=0) (N:=qg) (G:=pX) (ps:=iS) b D1 fun X e h g d=>xi h g d (e.n z7) (e.n z6) (e.n z15);have a2:=fnN (k:=0) (N:=gK) (G:=gL) (ps:=gN) b D2 fun X e h g d=>my h g d;have a3:=fnN (k:=1) (N:=mH) (G:=mD) (ps:=mP) b D3 fun X e h g d=>ue h g d (a2.c e) (a0.c e) (a1.c e) (e.n z1);have a4:=fnN (k:=1) (N:=oC) (G:=nK) (ps:=kg) b D4 fun X e h g d=>vJ h g d (a0.c e) (e.e4▸v_MOST_PLACES);have a5:=fnN (k:=1) (N:=oP) (G:=nW) (ps:=jL) b D5 fun X e h g d=>wq h g d (a0.c e);have a6:=fnN (k:=2) (N:=kK) (G:=kC) (ps:=kI) b D6 fun X e h g d=>qK h g d (a5.c e) (e.e3▸e.e4▸cl);have a7:=fnN (k:=2) (N:=qh) (G:=qm) (ps:=pV) b D7 fun X e h g d=>xy h g d (a3.c e) (a5.c e) (a1.c e) (e.e3▸e.e4▸v_NOUGHT);have a8:=fnN (k:=3) (N:=mR) (G:=mF) (ps:=ji) b D8 fun X e h g d=>ur h g d (a7.c e) (e.n z7) (e.n z12) (e.n z2);have a9:=fnN (k:=4) (N:=sH) (G:=sF) (ps:=rn) b D9 fun X e h g d=>y0 h g d (a8.c e) (e.n z8) (e.n z13) (e.n z6) (e.n z15);have a10:=fnN (k:=4) (N:=nG) (G:=oD) (ps:=gZ) b D10 fun X e h g d=>wA h g d (a8.c e) (a4.c e) (e.n z13) (e.n z15) (e.n z6) (e.n z8) (e.n z7) (e.e3▸e.e4▸cl);have a11:=fnN (k:=5) (N:=oA) (G:=oV) (ps:=oR) b D11 fun X e h g d=>wu h g d (a9.c e) (a4.c e) (a1.c e) (e.n z2) (e.n z7) (e.n z6) (e.n z15);have a12:=fnN (k:=3) (N:=mO) (G:=mK) (ps:=mQ) b D12 fun X e h g d=>uh h g d (a6.c e) (e.n z4) (e.e3▸e.e4▸v_NOUGHT);have a13:=fnN (k:=0) (N:=vx) (G:=vB) (ps:=vE) b D13 fun X e h g d=>b_l_pen h g d (e.n z1) (e.n z7) (e.n z10);have a14:=fnN (k:=0) (N:=sO) (G:=rq) (ps:=fX) b D14 fun X e h g d=>zf h g d;have a15:=fnN (k:=0) (N:=nH) (G:=oN) (ps:=nF) b D15 fun X e h g d=>wK h g d (e.n z1);have a16:=qe (P:=P) (w:=w) (k:=0) b D16 z6 z3 z5 z8 z15 z16 z2 z7 8;have a17:=fnN (k:=1) (N:=nY) (G:=oB) (ps:=nV) b D17 fun X e h g d=>wt h g d (a14.c e) (a15.c e);have a18:=fnN (k:=2) (N:=sB) (G:=sA) (ps:=tW) b D18 fun X e h g d=>zn h g d (a14.c e) (a17.c e) (e.n z15) (e.n z11);have a19:=fnN (k:=0) (N:=rF) (G:=sM) (ps:=nE) b D19 fun X e h g d=>yR h g d (e.n z5) (e.n z6) (e.n z0) (e.e3▸e.e4▸cl);have a20:=fnN (k:=5) (N:=tV) (G:=sI) (ps:=nC) b D20 fun X e h g d=>yn h g d (a19.c e) (a10.c e) (e.e3▸e.e4▸cl);have a21:=fnN (k:=4) (N:=qB) (G:=qH) (ps:=kU) b D21 fun X e h g d=>xI h g d (a19.c e) (a12.c e) (e.e3▸e.e4▸cl);have a22:=fnN (k:=0) (N:=kE) (G:=kL) (ps:=kD) b D22 fun X e h g d=>qN h g d;have a23:=fnN (k:=1) (N:=lE) (G:=kX) (ps:=lF) b D23 fun X e h g d=>tQ h g d (a22.c e) (a14.c e) (e.n z7);have a24:=fnN (k:=0) (N:=oS) (G:=oY) (ps:=oq) b D24 fun X e h g d=>wj h g d (e.n z15) (e.n z6) (e.n z8);have a25:=fnN (k:=1) (N:=kG) (G:=kF) (ps:=kN) b D25 fun X e h g d=>qJ h g d (a14.c e) (e.n z8);have a26:=fnN (k:=9) (N:=qD) (G:=qt) (ps:=pT) b D26 fun X e h g d=>wQ h g d (a11.c e) (a10.c e) (a16.c e) (a21.c e) (a25.c e) (a23.c e) (a24.c e) (a20.c e) (a18.c e) (a14.c e) (e.n z14) (e.n z6) (e.n z3) (e.n z8);have a27:=fnN (k:=10) (N:=N_law) (G:=G_law) (ps:=P_law) b D27 fun X e h g d=>b_law h g d (a13.c e) (a26.c e) (a20.c e) (a10.c e) (a16.c e) (a21.c e) (e.n z11) (e.n z7) (e.n z10) (e.n z9) (e.n z2);exact a27
end Law
namespace PySem.W.Fast
def tw13577454897623591117:=0
def tw3664402826557531883:=0
def tw15051632407175059341:=0
def tw7309977800122357937:=0
def tw9578107564377987439:=0
def tw7853304532485470792:=0
def tw980449285384855768:=0
def tw4408702099280395573:=0
def tw1682976388136751333:=0
def tw10331076700413449169:=0
def tw746311017290762985:=0
def tw4143106305157933322:=0
def tw18040688520661015607:=0
def tw2411508002591121131:=0
def tw5265303723168850587:=0
def tw9267210570947402309:=0
def tw9059865837681155081:=0
def tw1619379148117017765:=0
def tw13242429778556768518:=0
def tw7034396279931258733:=0
def tw8128928555103765:=0
def tw17973983833747748440:=0
def tw146437450802489802:=0
def tw927916565956372863:=0
def tw6730421169243511146:=0
def tw1873887283968071494:=0
def tw6942365683374979722:=0
def tw12541971867563147999:=0
def tw3103534931307597159:=0
def tw11006312841465450480:=0
def tw10331028399469687467:=0
def tw18264582213123201096:=0
def tw4689376363705062318:=0
def tw12031995030501905054:=0
def tw11768003518827844986:=0
def tw8183697689609863275:=0
def tw1091560548740906846:=0
def tw9590914967934559215:=0
def tw11036016693175265059:=0
def tw11654943984230686604:=0
def tw6766329850377489795:=0
def tw10666045844870227787:=0
def tw7123052639813321642:=0
def tw7937310627251016113:=0
def tw2032790951573800527:=0
def tw14118603452532534293:=0
def tw5164144588151813615:=0
def tw2088686839073189985:=0
def tw7620792172048499456:=0
def tw9761329822264182260:=0
def tw10822073394580622890:=0
def tw17674951550641573540:=0
def tw10898690854112626414:=0
def tw11108288637407657612:=0
def tw9770957253424721104:=0
def tw4993681605087476661:=0
def tw5259668705887483238:=0
def tw10980398319703161995:=0
def tw16689130530925729917:=0
def tw7727598300756176382:=0
def tw4918886582450326759:=0
def tw8343084188431186662:=0
def tw3214328602454910325:=0
def tw17032937955579447456:=0
def tw11641845031494261734:=0
def tw1658382645118748690:=0
def tw17205528384445046592:=0
def tw18252954826293164734:=0
def tw13253535133506447377:=0
def tw4171556839473295586:=0
def tw16928600488326532018:=0
def tw16239482916975919792:=0
def tw16775979544354135121:=0
def tw10306569170660160833:=0
def tw9867919252849036461:=0
def tw6339947333516688166:=0
def tw18353418775253970057:=0
def tw14289491536622201777:=0
def tw15193052530895799078:=0
def tw4688167515603557545:=0
def tw9767214869991154044:=0
def tw16614354827845559946:=0
def tw794406896813743436:=0
def tw367719775344305052:=0
def tw896773179676925222:=0
def tw12407245209233664362:=0
def tw14846105113779346392:=0
def tw9175705782430952115:=0
def tw4551081288655469566:=0
def tw5865365660123870700:=0
def tw18364203678834974456:=0
def tw2678080339109893287:=0
def tw14594590419725816468:=0
end PySem.W.Fast
open PySem PySem.W PyProof.Rows
local macro_rules | `(tactic| and_intros) => `(tactic| (dsimp only [L2.KOf]; first | k_is | (refine' MM.defAt_mk ?a ?l ?c ?k; (case a => k_is); (case l => k_is); (case c => k_is); (case k => k_is))))
set_option maxRecDepth 100000 in
set_option maxHeartbeats 0 in
theorem PySem.Challenge.cw_fewfills_k28_no_sheets_holds : PySem.Challenge.rw_fewfills_k28_no_sheets.Holds := by
  w_on; o_law; k_head; (case hw=>w_witness2)
  k_fill
  refine MM.walk_M (l:=PySem.Challenge.rw_fewfills_k28_no_sheets) (k:=11) (x:="_law_script") (F:=Law.f_law) rfl rfl ⟨rfl,by decide,by decide,rfl⟩ (fun w h Y=>PySem.W.kIn_of Y) ?F Law.law_true
  case F=>
    intro w mg fa h KX G hmg
    have Dlaw:MM.DefAt (L2.KOf KX) "law" Law.nL:=by and_intros
    have D0:MM.DefAt (L2.KOf KX) "is_whole" Law.hG:=by and_intros
    have D1:MM.DefAt (L2.KOf KX) "is_pair" Law.iW:=by and_intros
    have D2:MM.DefAt (L2.KOf KX) "greatest_shared" Law.db:=by and_intros
    have D3:MM.DefAt (L2.KOf KX) "is_number" Law.gi:=by and_intros
    have D4:MM.DefAt (L2.KOf KX) "is_count" Law.gW:=by and_intros
    have D5:MM.DefAt (L2.KOf KX) "is_place" Law.gQ:=by and_intros
    have D6:MM.DefAt (L2.KOf KX) "check_place" Law.fg:=by and_intros
    have D7:MM.DefAt (L2.KOf KX) "is_part" Law.ja:=by and_intros
    have D8:MM.DefAt (L2.KOf KX) "are_parts" Law.gf:=by and_intros
    have D9:MM.DefAt (L2.KOf KX) "is_row" Law.jW:=by and_intros
    have D10:MM.DefAt (L2.KOf KX) "sheet_of" Law.g6:=by and_intros
    have D11:MM.DefAt (L2.KOf KX) "is_sheet" Law.gP:=by and_intros
    have D12:MM.DefAt (L2.KOf KX) "number_at" Law.gp:=by and_intros
    have D13:MM.DefAt (L2.KOf KX) "_law_pen" Law.lW:=by and_intros
    have D14:MM.DefAt (L2.KOf KX) "_law_draw" Law.jF:=by and_intros
    have D15:MM.DefAt (L2.KOf KX) "_law_lowest" Law.hZ:=by and_intros
    have D16:MM.DefAt (L2.KOf KX) "_law_same" Law.ir:=by and_intros
    have D17:MM.DefAt (L2.KOf KX) "_law_number" Law.gO:=by and_intros
    have D18:MM.DefAt (L2.KOf KX) "_law_rows" Law.kB:=by and_intros
    have D19:MM.DefAt (L2.KOf KX) "_law_word" Law.jC:=by and_intros
    have D20:MM.DefAt (L2.KOf KX) "_law_made" Law.jQ:=by and_intros
    have D21:MM.DefAt (L2.KOf KX) "_law_asked" Law.iT:=by and_intros
    have D22:MM.DefAt (L2.KOf KX) "_law_bad_parts" Law.fi:=by and_intros
    have D23:MM.DefAt (L2.KOf KX) "_law_bad_rows" Law.fL:=by and_intros
    have D24:MM.DefAt (L2.KOf KX) "_law_tupled" Law.hV:=by and_intros
    have D25:MM.DefAt (L2.KOf KX) "_law_no_sheets" Law.fb:=by and_intros
    have D26:MM.DefAt (L2.KOf KX) "_law_right" Law.iU:=by and_intros
    have ZValueError:PySem.W.nsIn (L2.KOf KX) mainGlobals "ValueError" = some none:=by and_intros
    have Z27:PySem.W.nsIn (L2.KOf KX) mainGlobals "abs" = some none:=by and_intros
    have Z28:PySem.W.nsIn (L2.KOf KX) mainGlobals "all" = some none:=by and_intros
    have Z29:PySem.W.nsIn (L2.KOf KX) mainGlobals "bool" = some none:=by and_intros
    have Z30:PySem.W.nsIn (L2.KOf KX) mainGlobals "dict" = some none:=by and_intros
    have Z31:PySem.W.nsIn (L2.KOf KX) mainGlobals "int" = some none:=by and_intros
    have Z32:PySem.W.nsIn (L2.KOf KX) mainGlobals "isinstance" = some none:=by and_intros
    have Z33:PySem.W.nsIn (L2.KOf KX) mainGlobals "len" = some none:=by and_intros
    have Z34:PySem.W.nsIn (L2.KOf KX) mainGlobals "list" = some none:=by and_intros
    have Z35:PySem.W.nsIn (L2.KOf KX) mainGlobals "max" = some none:=by and_intros
    have Z36:PySem.W.nsIn (L2.KOf KX) mainGlobals "min" = some none:=by and_intros
    have Z37:PySem.W.nsIn (L2.KOf KX) mainGlobals "range" = some none:=by and_intros
    have Z38:PySem.W.nsIn (L2.KOf KX) mainGlobals "set" = some none:=by and_intros
    have Z39:PySem.W.nsIn (L2.KOf KX) mainGlobals "sorted" = some none:=by and_intros
    have Z40:PySem.W.nsIn (L2.KOf KX) mainGlobals "str" = some none:=by and_intros
    have Z41:PySem.W.nsIn (L2.KOf KX) mainGlobals "tuple" = some none:=by and_intros
    have Z42:PySem.W.nsIn (L2.KOf KX) mainGlobals "zip" = some none:=by and_intros
    have YMOST_PLACES:∃ t,PySem.W.nsIn (L2.KOf KX) mainGlobals "MOST_PLACES" = some (some (.int 12 t)):=by
      dsimp only [L2.KOf]
      refine' MM.int_mk ?h
      (case h=>k_is)
    have YNOUGHT:MM.oj (L2.KOf KX) "NOUGHT" 0 1:=by
      dsimp only [L2.KOf]
      refine' MM.tupK_mk ?h ?l
      (case h=>k_is)
      (case l=>k_is)
    have CL:Law.ClK (L2.KOf KX):=by
      dsimp only [L2.KOf]
      refine' Law.clK_mk ?p0 ?p1 ?p2 ?p3 ?p4 ?p5 ?p6 ?p7 ?p8 ?p9 ?p10 ?p11 ?p12 ?p13 ?p14 ?p15 ?p16 ?p17 ?p18 ?p19 ?p20 ?p21 ?p22 ?p23 ?p24 ?p25 ?p26 ?p27 ?p28 ?p29 ?p30 ?p31 ?p32 ?p33 ?p34 ?p35 ?p36 ?p37 ?p38 ?p39 ?p40 ?p41 ?p42 ?p43 ?p44 ?p45 ?p46 ?p47 ?p48 ?p49 ?p50 ?p51 ?p52 ?p53 ?p54 ?p55 ?p56 ?p57 ?p58 ?p59 ?p60 ?p61
      (case p0=>k_is)
      (case p1=>k_is)
      (case p2=>k_is)
      (case p3=>k_is)
      (case p4=>k_is)
      (case p5=>k_is)
      (case p6=>k_is)
      (case p7=>k_is)
      (case p8=>k_is)
      (case p9=>k_is)
      (case p10=>k_is)
      (case p11=>k_is)
      (case p12=>k_exc)
      (case p13=>k_exc)
      (case p14=>k_exc)
      (case p15=>k_is)
      (case p16=>k_is)
      (case p17=>k_is)
      (case p18=>k_is)
      (case p19=>k_is)
      (case p20=>k_is)
      (case p21=>k_is)
      (case p22=>k_is)
      (case p23=>k_is)
      (case p24=>k_is)
      (case p25=>k_is)
      (case p26=>k_is)
      (case p27=>kit_is)
      (case p28=>kit_is)
      (case p29=>kit_is)
      (case p30=>kit_is)
      (case p31=>kit_is)
      (case p32=>kit_is)
      (case p33=>kit_is)
      (case p34=>kit_is)
      (case p35=>kit_is)
      (case p36=>kit_is)
      (case p37=>kit_is)
      (case p38=>kit_is)
      (case p39=>kit_is)
      (case p40=>kit_is)
      (case p41=>kit_is)
      (case p42=>kit_is)
      (case p43=>kit_is)
      (case p44=>kit_is)
      (case p45=>kit_is)
      (case p46=>kit_is)
      (case p47=>kit_is)
      (case p48=>kit_is)
      (case p49=>kit_is)
      (case p50=>kit_is)
      (case p51=>kit_is)
      (case p52=>kit_is)
      (case p53=>kit_is)
      (case p54=>kit_is)
      (case p55=>kit_is)
      (case p56=>kit_is)
      (case p57=>kit_is)
      (case p58=>kit_is)
      (case p59=>kit_is)
      (case p60=>kit_is)
      (case p61=>kit_is)
    exact MM.head_M Dlaw Law.bi_law hmg KX G fun base kb nb=>Law.all_fn ⟨kb,nb⟩ D0 D1 D2 D3 D4 D5 D6 D7 D8 D9 D10 D11 D12 D13 D14 D15 D16 D17 D18 D19 D20 D21 D22 D23 D24 D25 D26 Dlaw ZValueError Z27 Z28 Z29 Z30 Z31 Z32 Z33 Z34 Z35 Z36 Z37 Z38 Z39 Z40 Z41 Z42 YMOST_PLACES YNOUGHT (CL _ _ kb nb)
