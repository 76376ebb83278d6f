import PyProof.Rows.All
import Wide.All
import OpenK.AllK
import Wide.FinOn
import Lean
import PyProof.EqAt
import PyProof.EqKinds
import PyProof.TupleCall
import PyProof.ReprRoads
import PyProof.FitsInt
import PyProof.FitsBits
import PyProof.Rows.IntMath
import PyProof.ConsumeWalk
import PyProof.WalkInts
import PyProof.ListRange
import PySem.SetTable
import PyProof.SetKind
import PyProof.TupleKey
import PyProof.DictKinds
import PyProof.IsRules
import PyProof.Rows.SetFrom
import PyProof.CollectIter
import PyProof.ForAny
import PyProof.Rows.SortRuns
import PyProof.Rows.SortKey
import KE.KSortTup
import PyProof.ZipIter
import PyProof.Draws
import PyProof.EnumMake
import PyProof.TupleIter
import PyProof.P3Eq
import PyProof.StrCalls2
import PyProof.StrCalls3
import PyProof.FString
import PyProof.SetRoads
import PyProof.Rows.SeqMore
import PyProof.Rows.Chain
import PyProof.Rows.TupDisplay
import PySem.Challenge.RW_fewfills_k05_no_webs
set_option Elab.async false
set_option bootstrap.genMatcherCode false
set_option compiler.extract_closed false
set_option linter.all false
set_option maxRecDepth 100000
open PySem
abbrev qaa:=@wpAny_bind
abbrev qab:=@PySem.W.Frag
abbrev qac:=@Bool.false_eq_true
abbrev qad:=@Heap.get?_push_of_some
abbrev qae:=@wpAny_pure
abbrev qaf:=@List.mem_append_right
abbrev qag:=@List.getElem?_eq_some_iff
abbrev qah:=@Nat.le_refl
abbrev qai:=@if_pos
abbrev qaj:=@List.getElem?_set_ne
abbrev qak:=@List.size_toArray
abbrev qal:=@if_neg
abbrev qam:=@List.mem_cons_of_mem
abbrev qan:=@List.getElem?_append_left
abbrev qao:=@List.mem_cons
abbrev qap:=@Heap.lt_size
abbrev qaq:=@Array.getElem?_toList
abbrev qar:=@Heap.get?_push_size
abbrev qas:=@Array.length_toList
abbrev qat:=@List.getElem?_set_self
abbrev qau:=@List.mem_append
abbrev qav:=@Nat.lt_of_lt_of_le
abbrev qaw:=@Nat.le_trans
abbrev qax:=@List.mem_iff_getElem?
abbrev qay:=@List.getElem?_append_right
abbrev qaz:=@List.getElem?_map
abbrev qaA:=@List.set_cons_succ
abbrev qaB:=@List.set_cons_zero
abbrev qaC:=@List.mem_append_left
abbrev qaD:=@Option.map_eq_some_iff
abbrev qaE:=@List.getElem?_eq_getElem
abbrev qaF:=@List.mem_cons_self
abbrev qaG:=@Nat.ne_of_lt
abbrev qaH:=@Bool.not_true
abbrev qaI:=@List.extract_eq_take_drop
abbrev qaJ:=@List.mem_map
abbrev qaK:=@Bool.false_ne_true
abbrev qaL:=@List.map_cons
abbrev qaM:=@Nat.zero_le
abbrev qaN:=@Int.toNat_natCast
abbrev qaO:=@List.mem_of_getElem?
abbrev qaP:=@List.lookup_cons
abbrev qaQ:=@List.length_cons
abbrev qaR:=@List.length_append
abbrev qaS:=@List.getElem?_eq_none
abbrev qaT:=@Option.bind_eq_some_iff
abbrev qaU:=@Nat.lt_irrefl
abbrev qaV:=@Array.toList_append
abbrev qaW:=@List.length_map
abbrev qaX:=@List.replicate_succ
abbrev qaY:=@List.getElem?_toArray
abbrev qaZ:=@Nat.zero_add
abbrev qba:=@List.not_mem_nil
abbrev qbb:=@Array.toList_push
abbrev qbc:=@Array.getElem?_eq_some_iff
abbrev qbd:=@List.pairwise_cons
abbrev qbe:=@List.drop_eq_nil_of_le
abbrev qbf:=@Array.getElem?_eq_getElem
abbrev qbg:=@Array.toList_inj
abbrev qbh:=@List.append_assoc
abbrev qbi:=@List.take_append_drop
abbrev qbj:=@List.getElem?_replicate
abbrev qbk:=@List.flatten_cons
abbrev qbl:=@List.pairwise_iff_getElem
abbrev qbm:=@List.length_replicate
abbrev qbn:=@Array.size_push
abbrev qbo:=@List.length_nil
abbrev qbp:=@List.length_eq_zero_iff
abbrev qbq:=@List.filterMap_cons
abbrev qbr:=@List.take_of_length_le
abbrev qbs:=@Array.getElem?_eq_none
abbrev qbt:=@Array.getElem?_extract
abbrev qbu:=@List.length_drop
abbrev qbv:=@Option.bind_some
abbrev qbw:=@Heap.get?_update_self
abbrev qbx:=@List.contains_iff_mem
abbrev qby:=@Heap.size_push
abbrev qbz:=@Array.toList_extract
abbrev qbA:=@List.getElem?_take_of_lt
abbrev qbB:=@Option.map_some
abbrev qbC:=@Bool.not_eq_true'
abbrev qbD:=@List.reverse_cons
abbrev qbE:=@Nat.ne_of_gt
abbrev qbF:=@List.map_map
abbrev qbG:=@List.perm_middle
abbrev qbH:=@List.mem_range
abbrev qbI:=@Heap.get?_update_other
abbrev qbJ:=@List.mem_filterMap
abbrev qbK:=@Array.getElem?_setIfInBounds
abbrev qbL:=@Bool.beq_eq_decide_eq
abbrev qbM:=@Array.size_append
abbrev qbN:=@Nat.lt_succ_of_lt
abbrev qbO:=@List.ext_getElem?
abbrev qbP:=@Array.getElem?_eq_none_iff
abbrev qbQ:=@Array.perm_iff_toList_perm
abbrev qbR:=@Int.fmod_eq_emod_of_nonneg
abbrev qbS:=@List.length_take
abbrev qbT:=@Bool.and_eq_true
abbrev qbU:=@Nat.le_of_lt
abbrev qbV:=@List.append_nil
abbrev qbW:=@List.getElem?_drop
abbrev qbX:=@Bool.eq_false_iff
abbrev qbY:=@List.pairwise_map
abbrev qbZ:=@List.cons_append
abbrev qca:=@Nat.lt_succ_self
abbrev qcb:=@List.all_eq_true
abbrev qcc:=@List.mem_of_mem_drop
abbrev qcd:=@Array.toList_reverse
abbrev qce:=@List.mem_filter
abbrev qcf:=@List.nodup_cons
abbrev qcg:=@List.foldl_cons
abbrev qch:=@List.nil_append
abbrev qci:=@Heap.get?_update_ne
abbrev qcj:=@List.perm_ext_iff_of_nodup
abbrev qck:=@List.perm_append_singleton
abbrev qcl:=@List.filterMap_map
abbrev qcm:=@Int.emod_lt_of_pos
abbrev qcn:=@Bool.not_eq_false'
abbrev qco:=@List.zip_cons_cons
abbrev qcp:=@List.drop_eq_getElem_cons
abbrev qcq:=@List.take_succ
abbrev qcr:=@List.nodup_append
abbrev qcs:=@List.getElem?_cons_succ
abbrev qct:=@List.nodup_range
abbrev qcu:=@List.getElem_mem
abbrev qcv:=@List.range_succ_eq_map
abbrev qcw:=@List.pairwise_lt_range
abbrev qcx:=@List.getElem_cons_drop
abbrev qcy:=@List.of_mem_zip
abbrev qcz:=@Int.ediv_one
abbrev qcA:=@Nat.lt_trans
abbrev qcB:=@Int.emod_nonneg
abbrev qcC:=@List.perm_append_comm
abbrev qcD:=@List.range_succ
abbrev qcE:=@Bool.and_false
abbrev qcF:=@List.nodup_nil
abbrev qcG:=@List.all_cons
abbrev qcH:=@List.map_nil
noncomputable section
local macro_rules | `(tactic| ext) => `(tactic| omega)
namespace L2
open PySem PySem.Spec PyProof.Rows
abbrev Key:=Sum Int Str
def qQ:Key->Value->Bool
 | .inl k,v=>Value.isInt k v
 | .inr x,v=>Value.isStrOf x v
def keyH(w:World):Key->Int
 | .inl k=>hashInt k
 | .inr x=>hashStr w x
def bN:∀{k:Key} {v:Value},qQ k v=true->(∃i t,k=Sum.inl i/\v=Value.int i t)\/(∃x t,k=Sum.inr x/\v=Value.str x t)
 | .inl i,v,h=>by
  obtain⟨t,e⟩:=Value.isInt_shape (k:=i) (v:=v) h;exact .inl ⟨i,t,rfl,e⟩
 | .inr x,v,h=>by
  obtain⟨t,e⟩:=Value.isStrOf_shape (x:=x) (v:=v) h;exact .inr ⟨x,t,rfl,e⟩
def xY(i:Int)(t:Tok):qQ (.inl i) (.int i t)=true:=by simp[qQ,Value.isInt]
def key_ll(a b:Int):decide ((Sum.inl a:Key)=Sum.inl b)=(a == b):=by
 by_cases e:a=b
 ·subst e;simp
 ·have h:¬(Sum.inl a:Key)=Sum.inl b:=fun q=>e (Sum.inl.inj q);rw[decide_eq_false h];exact (beq_eq_false_iff_ne.mpr e).symm
def key_rr(a b:Str):decide ((Sum.inr a:Key)=Sum.inr b)=decide (a=b):=by
 by_cases e:a=b
 ·subst e;simp
 ·have h:¬(Sum.inr a:Key)=Sum.inr b:=fun q=>e (Sum.inr.inj q);rw[decide_eq_false h,decide_eq_false e]
def key_lr(a:Int)(b:Str):decide ((Sum.inl a:Key)=Sum.inr b)=false:=decide_eq_false (fun q=>nomatch q)
def key_rl(a:Str)(b:Int):decide ((Sum.inr a:Key)=Sum.inl b)=false:=decide_eq_false (fun q=>nomatch q)
def iR(prog:Program)(w:World):PySem.KeyKind prog w Key where
 is:=qQ
 hash:=keyH w
 inj:=fun v a b ha hb=>by
  rcases bN ha with ⟨i,t,rfl,rfl⟩|⟨x,t,rfl,rfl⟩
  ·rcases bN hb with ⟨j,u,rfl,e⟩|⟨y,u,rfl,e⟩
   ·injection e with e1 _;rw[e1]
   ·exact nomatch e
  ·rcases bN hb with ⟨j,u,rfl,e⟩|⟨y,u,rfl,e⟩
   ·exact nomatch e
   ·injection e with e1 _;rw[e1]
 byValue:=fun k v h=>by
  rcases bN h with ⟨i,t,rfl,rfl⟩|⟨x,t,rfl,rfl⟩ <;> rfl
 pyHash:=fun hv h=>by
  rcases bN hv with ⟨i,t,rfl,rfl⟩|⟨x,t,rfl,rfl⟩
  ·exact wpAny_pyHash_int h
  ·exact wpAny_pyHash_str h
 eqBool:=fun hu hv h=>by
  rcases bN hu with ⟨i,t,rfl,rfl⟩|⟨x,t,rfl,rfl⟩
  ·rcases bN hv with ⟨j,u,rfl,rfl⟩|⟨y,u,rfl,rfl⟩
   ·rw[key_ll] at h;exact wpAny_eqBool_int h
   ·rw[key_lr] at h;exact SeqAt.EqAt.int_str i t y u _ _ _ _ h
  ·rcases bN hv with ⟨j,u,rfl,rfl⟩|⟨y,u,rfl,rfl⟩
   ·rw[key_rl] at h;exact SeqAt.EqAt.str_int x t j u _ _ _ _ h
   ·rw[key_rr] at h;exact wpAny_eqBool_str h
 «strs»:=fun k x t v h=>by
  rcases bN h with ⟨i,u,rfl,e⟩|⟨y,u,rfl,e⟩
  ·exact nomatch e
  ·injection e with e1 _
   subst e1;cases v <;> rfl
def lN(prog:Program)(w:World)(i:Int)(t:Tok):(iR prog w).is (.inl i) (.int i t)=true:=xY i t
inductive V where
 | non | bl (b:Bool) | int (i:Int) | str (x:Str) | byt (b:Array UInt8) | flt (b:UInt64) | ref (a:Addr) | ty (n:String)
 deriving DecidableEq
def aX:V->Value->Prop
 | .non,u=>u=Value.none
 | .bl b,u=>u=Value.bool b
 | .int i,u=>∃t,u=Value.int i t
 | .str x,u=>∃t,u=Value.str x t
 | .byt b,u=>∃t,u=Value.bytes b t
 | .flt b,u=>∃t,u=Value.float b t
 | .ref a,u=>u=Value.ref a
 | .ty n,u=>u=Value.type n
abbrev aB:List V->List Value->Prop:=Paired aX
def aB.length(r:aB xs us):xs.length=us.length:=Paired.length r
def aB.get{xs:List V}{us:List Value}{i:Nat}{x:V}(r:aB xs us)(e:xs[i]?=some x):∃u,us[i]?=some u/\aX x u:=by
 induction r generalizing i with
 | nil=>cases e
 | cons r t ih =>
  cases i with
  | zero=>cases e;exact⟨_,rfl,r⟩
  | succ i=>have z:=@ih i e;exact z
def aB.set(r:aX x u)(i:Nat)(q:aB xs us):aB (xs.set i x) (us.set i u):=by
 induction q generalizing i with
 | nil=>exact .nil
 | cons a t ih =>
  cases i with
  | zero=>exact .cons r t
  | succ i=>exact .cons a (ih i)
def aB.append(r:aB xs us)(s:aB ys ws):aB (xs++ys) (us++ws):=by
 induction r with
 | nil=>exact s
 | cons r t ih=>exact .cons r ih
def aB.take(n:Nat)(r:aB xs us):aB (xs.take n) (us.take n):=by
 induction r generalizing n with
 | nil=>cases n <;> exact .nil
 | cons a t ih =>
  cases n with
  | zero=>exact .nil
  | succ n=>exact .cons a (ih n)
def aB.drop(n:Nat)(r:aB xs us):aB (xs.drop n) (us.drop n):=by
 induction r generalizing n with
 | nil=>cases n <;> exact .nil
 | cons a t ih =>
  cases n with
  | zero=>exact .cons a t
  | succ n=>exact ih n
def RelO:Option V->Option Value->Prop
 | some v,some u=>aX v u
 | none,none=>True
 | _,_=>False
def KV{κ:Type}:List (κ × V)->List (κ × Value)->Prop:=Paired fun (p:κ × V) (q:κ × Value)=>p.1=q.1/\aX p.2 q.2
def kV:Key->V
 | .inl i=>.int i
 | .inr x=>.str x
inductive HO where
 | lst (xs:List V)
 | tup (xs:List V)
 | dK (kvs:List (Key × V)) | dT (kvs:List (List Key × V))
 | set (S:Int->Bool) (n:Nat)
 | ins (C dx:Addr) (fs:List (Str × V))
 | own (x:Addr)
 | xd (fs:List (Str × V))
 | met (f x:Addr)
 | rng (lo hi:Int)
 | frz (o:Obj) (u:HO)
 | tbl (ps:Array Value)
 | ext (φ:Heap->Prop)
abbrev Hp:=Addr->Option HO
def upd(H:Hp)(a:Addr)(o:HO):Hp:=fun b=>if b=a then some o else H b
def br:upd H a o a=some o:=by unfold upd;rw[qai rfl]
def aU(h:b≠a):upd H a o b=H b:=by unfold upd;rw[qal h]
def bA{H:Hp}{a b:Addr}{o:HO}(h:H a=some o)(h':H b=none):a≠b:=by
 intro e;subst e;rw[h] at h';cases h'
def ft(h:Heap)(a:Addr)(its:Array Value):Prop:=∃o,h.get? a=some o/\o.cls=.type "tuple"/\(∃n,o.data=.seq its n)/\o.dict=none
def ft.tup(t:ft h a its):IsTup h a its:=let ⟨o,e,c,d,_⟩:=t;⟨o,e,c,d⟩
def ft.lt(t:ft h a its):a<h.objs.size:=t.tup.lt
def ft.new(h:Heap)(its:Array Value):ft (h.push { cls:=.type "tuple",data:=.seq its}) h.objs.size its:=⟨_,qar h rfl,rfl,⟨_,rfl⟩,rfl⟩
section
variable (P:Program) (w:World)
def ObjOk(H:Hp)(h:Heap)(a:Addr):HO->Prop
 | .lst xs=>xs.length<=sizeLine/\∃(its:List Value) (n:Nat),aB xs its/\h.get? a=some { cls:=.type "list",data:=.seq its.toArray n}
 | .tup xs=>xs.length<=sizeLine/\∃its:List Value,aB xs its/\ft h a its.toArray
 | .dK kvs=>kvs.length<=sizeLine/\(a == sysModules)=false/\∃vs,KV kvs vs/\h.DictOf (iR P w) a vs
 | .dT kvs=>kvs.length<=sizeLine/\(a == sysModules)=false/\∃xs:List (List Key × Addr × Value),
   Paired (fun (p:List Key × V) (q:List Key × Addr × Value)=>p.1=q.1/\H q.2.1=some (.tup (p.1.map kV))/\aX p.2 q.2.2) kvs xs /\
   ∃o es ep,h.get? a=some o/\o.ExactDict/\o.data=.dict es ep/\es.toList=xs.map (entryOfKey (tupleKind (iR P w)))/\(xs.map (·.1)).Nodup
 | .set S n=>h.SetOf (intKind P w) a S n
 | .ins C dx fs=>H dx=some (.own a)/\fs.length<=1000/\dx≠a/\h.get? a=some (PySem.W.instObj C dx) /\
   ∃mA,h.Ns1 dx mA/\(∀f,RelO (fs.lookup f) (mA f))/\PySem.Within mA (fs.map (·.1))
 | .own _=>∃o,h.get? a=some o
 | .xd fs=>∃mA,h.Ns1 a mA/\∀f,RelO (fs.lookup f) (mA f)
 | .rng lo hi=>∃t u v,h.get? a=some { cls:=.type "range",data:=.fields #[.int lo t,.int hi u,.int 1 v]}
 | .frz o u=>h.get? a=some o/\ObjOk H h a u
 | .tbl ps=>h.get? a=some { cls:=.none,data:=.fields ps}
 | .met f x=>h.get? a=some (PySem.W.methodObj (.ref f) (.ref x))
 | .ext φ=>φ h/\(∃o,h.get? a=some o)/\∀h1 h2:Heap,φ h1->(∀o,h1.get? a=some o->h2.get? a=some o)->φ h2
def HOk(H:Hp)(h:Heap):Prop:=∀a o,H a=some o->ObjOk P w H h a o
end
section
variable {P:Program} {w:World} {H H':Hp} {h h':Heap} {a:Addr} {o:HO}
def ObjOk.lt(x:ObjOk P w H h a o):a<h.objs.size:=by
 cases o with
 | lst xs=>obtain⟨_,_,_,_,e⟩:=x;exact qap e
 | tup xs=>obtain⟨_,_,_,p⟩:=x;exact p.lt
 | dK kvs=>obtain⟨_,_,_,_,o,_,_,e,_⟩:=x;exact qap e
 | dT kvs=>obtain⟨_,_,_,_,o,_,_,e,_⟩:=x;exact qap e
 | set S n=>obtain⟨o,_,_,_,e,_⟩:=x;exact qap e
 | ins C dx fs=>obtain⟨_,_,_,e,_⟩:=x;exact qap e
 | own y=>obtain⟨_,e⟩:=x;exact qap e
 | xd fs=>obtain⟨_,⟨_,_,_,e,_⟩,_⟩:=x;exact qap e
 | rng lo hi=>obtain⟨_,_,_,e⟩:=x;exact qap e
 | frz ob u=>obtain⟨e,_⟩:=x;exact qap e
 | tbl ps=>exact qap (show h.get? a=some _ from x)
 | met f y=>exact qap (show h.get? a=some _ from x)
 | ext φ=>obtain⟨_,⟨_,e⟩,_⟩:=x;exact qap e
def Paired.mapP{α β:Type}{F G:α->β->Prop}{l₁:List α}{l₂:List β}(r:Paired F l₁ l₂)(f:∀a b,F a b->G a b):Paired G l₁ l₂:=by
 induction r with
 | nil=>exact .nil
 | cons r t ih=>exact .cons (f _ _ r) ih
def ObjOk.stay(x:ObjOk P w H h a o)(k:∀b u,(b=a\/H b=some (.own a))->h.get? b=some u->h'.get? b=some u)
  (ho:∀b,H b=some (.own a)->H' b=some (.own a)) (ht:∀b xs,H b=some (.tup xs)->H' b=some (.tup xs)):ObjOk P w H' h' a o:=by
 induction o with
 | lst xs=>obtain⟨z,its,n,r,e⟩:=x;exact⟨z,its,n,r,k _ _ (.inl rfl) e⟩
 | tup xs=>obtain⟨z,its,r,ob,e,c⟩:=x;exact⟨z,its,r,ob,k _ _ (.inl rfl) e,c⟩
 | dK kvs=>obtain⟨z,y,vs,r,ob,es,ep,e,c⟩:=x;exact⟨z,y,vs,r,ob,es,ep,k _ _ (.inl rfl) e,c⟩
 | dT kvs =>
  obtain⟨z,y,xs,r,ob,es,ep,e,c⟩:=x;exact⟨z,y,xs,Paired.mapP r fun p q z=>⟨z.1,ht _ _ z.2.1,z.2.2⟩,ob,es,ep,k _ _ (.inl rfl) e,c⟩
 | set S n=>obtain⟨ob,es,ep,t,e,c⟩:=x;exact⟨ob,es,ep,t,k _ _ (.inl rfl) e,c⟩
 | ins C dx fs =>
  obtain⟨d,z,ne,e,mA,⟨od,es,ep,e2,c⟩,r⟩:=x;exact⟨ho _ d,z,ne,k _ _ (.inl rfl) e,mA,⟨od,es,ep,k _ _ (.inr d) e2,c⟩,r⟩
 | own y=>obtain⟨ob,e⟩:=x;exact⟨ob,k _ _ (.inl rfl) e⟩
 | xd fs=>obtain⟨mA,⟨od,es,ep,e,c⟩,r⟩:=x;exact⟨mA,⟨od,es,ep,k _ _ (.inl rfl) e,c⟩,r⟩
 | rng lo hi=>obtain⟨t,u,v,e⟩:=x;exact⟨t,u,v,k _ _ (.inl rfl) e⟩
 | frz ob u ih=>obtain⟨e,q⟩:=x;exact⟨k _ _ (.inl rfl) e,ih q⟩
 | tbl ps =>
  have e:h.get? a=some { cls:=.none,data:=.fields ps}:=x;show h'.get? a=some { cls:=.none,data:=.fields ps};exact k a _ (.inl rfl) e
 | met f y =>
  have e:h.get? a=some (PySem.W.methodObj (.ref f) (.ref y)):=x;show h'.get? a=some (PySem.W.methodObj (.ref f) (.ref y));exact k a _ (.inl rfl) e
 | ext φ=>obtain⟨p,⟨o,e⟩,st⟩:=x;exact⟨st _ _ p fun o q=>k _ _ (.inl rfl) q,⟨o,k _ _ (.inl rfl) e⟩,st⟩
def HOk.lt(x:HOk P w H h)(e:H a=some o):a<h.objs.size:=(x a o e).lt
def HOk.fresh(x:HOk P w H h)(e:h.objs.size<=a):H a=none:=by
 cases q:H a with
 | none=>rfl
 | some u=>exact absurd (qav (x.lt q) e) (qaU _)
def HOk.kept(x:HOk P w H h)(k:∀b u,h.get? b=some u->h'.get? b=some u):HOk P w H h':=fun a o e =>
 (x a o e).stay (fun b u _ q=>k b u q) (fun _ q=>q) fun _ _ q=>q
def HOk.laid(x:HOk P w H h)(k:∀b u,h.get? b=some u->h'.get? b=some u)(hp:h.objs.size<=a)(new:ObjOk P w (upd H a o) h' a o):HOk P w (upd H a o) h':=fun b u e=>by
 have hn:=x.fresh hp;by_cases hb:b=a
 ·subst hb;rw[br] at e;cases e;exact new
 ·rw[aU hb] at e;exact (x b u e).stay (fun c v _ q=>k c v q) (fun c q=>by rw[aU (bA q hn)];exact q) fun c xs q=>by rw[aU (bA q hn)];exact q
end
def Rd(H:Hp)(a:Addr)(u:HO):Prop:=H a=some u\/∃o,H a=some (.frz o u)
def Rd.ok(r:Rd H a u)(x:HOk P w H h):ObjOk P w H h a u:=by
 rcases r with r|⟨o,r⟩
 ·exact x a u r
 ·obtain⟨_,q⟩:=x a _ r;exact q
def Mut:Option HO->Prop
 | some (.lst _)=>True
 | some (.dK _)=>True
 | some (.dT _)=>True
 | some (.set _ _)=>True
 | some (.ins _ _ _)=>True
 | some (.ext _)=>True
 | _=>False
section
variable {P:Program} {w:World} {H:Hp} {h h':Heap} {x e:Addr} {o':HO}
def HOk.write(ok:HOk P w H h)(mu:Mut (H x))(he:e=x\/H e=some (.own x))(k:∀b u,b≠e->h.get? b=some u->h'.get? b=some u)(heo:∃u,h'.get? e=some u)
  (new:ObjOk P w (upd H x o') h' x o'):HOk P w (upd H x o') h':=fun b u q=>by
 have nown:∀c y,H c=some (.own y)->c≠x:=fun c y r z=>by subst z;rw[r] at mu;exact mu
 have ntup:∀c xs,H c=some (.tup xs)->c≠x:=fun c xs r z=>by subst z;rw[r] at mu;exact mu
 by_cases hb:b=x
 ·subst hb;rw[br] at q;cases q;exact new
 ·rw[aU hb] at q;by_cases hbe:b=e
  ·have q':H b=some (.own x):=by
    rcases he with z|z
    ·exact absurd (hbe.trans z) hb
    ·rw[hbe];exact z
   rw[q] at q';cases q';obtain⟨v,hv⟩:=heo;exact⟨v,by rw[hbe];exact hv⟩
  ·refine (ok b u q).stay (fun c v hc r=>k c v ?_ r) (fun c r=>by rw[aU (nown c b r)];exact r) fun c xs r=>by rw[aU (ntup c xs r)];exact r
   rcases hc with rfl|hc
   ·exact hbe
   ·rintro rfl;rcases he with z|z
    ·exact nown c b hc z
    ·rw[hc] at z;cases z;exact hb rfl
end
structure Un (fs ex:List Addr) (H H':Hp) (h h':Heap):Prop where
 keep:∀b o,h.get? b=some o->H b=none->b∉fs->b∉ex->h'.get? b=some o
 slot:∀b o,h.get? b=some o->H b=none->b∈fs->b∉ex->∃sl,h'.get? b=some { o with slots:=sl}
 free:∀b o,h.get? b=some o->H b=none->b∉ex->H' b=none
 there:∀b o,h.get? b=some o->b∉ex->∃o',h'.get? b=some o'
 tups:∀b xs,H b=some (.tup xs)->H' b=some (.tup xs)
 frzs:∀b o u,H b=some (.frz o u)->H' b=some (.frz o u)
 tbls:∀b ps,H b=some (.tbl ps)->∃more,H' b=some (.tbl (ps++more))
section
variable {fs fs' ex ex':List Addr} {H H1 H2:Hp} {h h1 h2 h':Heap} {a x e:Addr} {o:HO}
def Un.any(u:Un fs ex H H1 h h1)(q:h.get? b=some ob)(n:H b=none)(hx:b∉ex):∃sl,h1.get? b=some { ob with slots:=sl}:=by
 by_cases hb:b∈fs
 ·exact u.slot b ob q n hb hx
 ·exact⟨ob.slots,u.keep b ob q n hb hx⟩
def Un.kept(k:∀b u,h.get? b=some u->h'.get? b=some u):Un fs ex H H h h' :=
 ⟨fun b ob q _ _ _=>k b ob q,fun b ob q _ _ _=>⟨ob.slots,k b ob q⟩,fun _ _ _ n _=>n,fun b ob q _=>⟨ob,k b ob q⟩,fun _ _ q=>q,fun _ _ _ q=>q,fun _ ps q=>⟨#[],by rw[q];simp⟩⟩
def Un.refl:Un fs ex H H h h:=Un.kept fun _ _ q=>q
def Un.laid(k:∀b u,h.get? b=some u->h'.get? b=some u)(hp:h.objs.size<=a)(hn:H a=none):Un fs ex H (upd H a o) h h' where
 keep:=fun b u q _ _ _=>k b u q
 slot:=fun b u q _ _ _=>⟨u.slots,k b u q⟩
 free:=fun b u q n _=>by rw[aU (qaG (qav (qap q) hp))];exact n
 there:=fun b u q _=>⟨u,k b u q⟩
 tups:=fun b xs q=>by rw[aU (bA q hn)];exact q
 frzs:=fun b u xs q=>by rw[aU (bA q hn)];exact q
 tbls:=fun b ps q=>⟨#[],by rw[aU (bA q hn),q];simp⟩
def Un.write(mu:Mut (H x))(he:e=x\/H e=some (.own x))(k:∀b u,b≠e->h.get? b=some u->h'.get? b=some u)(heo:∃u,h'.get? e=some u):Un fs ex H (upd H x o) h h':=by
 have hx:∀b,H b=none->b≠x:=fun b n z=>by subst z;rw[n] at mu;exact mu
 have hb:∀b,H b=none->b≠e:=fun b n z=>by
  subst z;rcases he with r|r
  ·exact hx b n r
  ·rw[n] at r;cases r
 have hm:∀b u,H b=some u->¬Mut (some u)->b≠x:=fun b u q nm z=>by subst z;rw[q] at mu;exact nm mu
 refine⟨fun b u q n _ _=>k b u (hb b n) q,fun b u q n _ _=>⟨u.slots,k b u (hb b n) q⟩,fun b u q n _=>by rw[aU (hx b n)];exact n,fun b u q _=>?_,
  fun b xs q=>by rw[aU (hm b _ q fun z=>z)];exact q,fun b u xs q=>by rw[aU (hm b _ q fun z=>z)];exact q,fun b ps q=>⟨#[],by rw[aU (hm b _ q fun z=>z),q];simp⟩⟩
 by_cases hbe:b=e
 ·subst hbe;exact heo
 ·exact⟨u,k b u hbe q⟩
end
def trk(h:Heap)(H:Hp):List Addr:=(List.range h.objs.size).filter fun a=>(H a).isSome
def iX(h:Heap)(H:Hp):Heap:=PySem.W.hideAll h (trk h H)
def xG(h:Heap)(H:Hp):(iX h H).objs.size=h.objs.size:=PySem.W.hideAll_size _ _
def Ak(e:h.get? b=some o)(n:H b=none):(iX h H).get? b=some o :=
 PySem.W.hideAll_get _ e fun hm=>by
  have q:(H b).isSome=true:=(qce.mp hm).2;rw[n] at q;simp at q
def of_hidT(e:(iX h H).get? b=some o):h.get? b=some o/\H b=none:=by
 have e':h.get? b=some o:=PySem.W.of_hideAll (trk h H) e;refine⟨e',?_⟩
 cases q:H b with
 | none=>rfl
 | some x =>
  have hm:b∈trk h H:=qce.mpr ⟨qbH.mpr (qap e'),by simp[q]⟩;have z:(iX h H).get? b=none:=PySem.W.hideAll_none (trk h H) hm;rw[z] at e;cases e
structure Mod (K:qab) (mg:Str->Option Value) (base:Heap):Prop where
 kin:K.In base
 glob:base.Ns mainGlobals mg
 blt:∃mb,base.Ns builtinsNs mb/\∀x:Str,x≠"__name__"->mb x=bootBuiltins x
 nolimit:base.NoLimit
structure Cx where
 prog:Program
 w:World
 K:qab
 mg:Str->Option Value
 base:Heap
 A:Around
 N:List Str
 s₀:Shared
 H₀:Hp
 env:Env
 outer:List Env
 stack:List Env
 ex:List Addr
 fn:Str->Bool
 calm:Bool
 pn:List (Addr × Obj)
 xe:Value->Shared->Prop
def frs(l:List Env):List Addr:=l.filterMap (·.frame)
abbrev Cx.fs(X:Cx):List Addr:=frs X.outer
def Vis(sc:Scope)(x:Str):Prop:=sc.names.lookup x=some .local\/sc.names.lookup x=some .cell\/sc.names.lookup x=some .free
def Loc(sc:Scope)(x:Str):Prop:=sc.names.lookup x=some .local\/sc.names.lookup x=some .cell
def Look(env:Env)(h:Heap)(m:Str->Option Value)(x:Str)(u:Value):Prop :=
 (env.kindOf x=some .local/\m x=some u)\/((env.kindOf x=some .cell\/env.kindOf x=some .free)/\∃c,env.cells.lookup x=some c/\h.IsCell c (some u))
structure Cx.Ok (X:Cx):Prop where
 mod:Mod X.K X.mg X.base
 kind:X.env.scope.kind=.function
 glob:X.env.globals=mainGlobals
 blt:X.env.builtins=builtinsNs
 above:X.s₀.heap.objs.size<=X.env.locals
 inj:∀x y c,X.env.cells.lookup x=some c->X.env.cells.lookup y=some c->x=y
 has:∀x,(X.env.kindOf x=some .cell\/X.env.kindOf x=some .free)->∃c,X.env.cells.lookup x=some c
 cab:∀x c,X.fn x=true->X.env.cells.lookup x=some c->X.s₀.heap.objs.size<=c
 hd:X.calm=true->X.A.handled=none
 frames:X.A.frames=some X.stack
 stk:X.stack=X.outer\/(X.stack=X.env::X.outer/\X.env.frame=some X.env.locals)
 exf:∀b∈X.ex,b≠X.env.locals/\∀x c,X.env.cells.lookup x=some c->c≠b
 bs:∀b o,X.base.get? b=some o->X.s₀.heap.get? b=some o/\X.H₀ b=none
 bsz:X.base.objs.size<=X.s₀.heap.objs.size
 noex:∀b o,X.base.get? b=some o->b∉X.ex
 exfs:∀b∈X.ex,b∉X.fs
 funs:X.s₀.heap.FunFrames X.base X.outer
 frf:∀b∈X.fs,X.H₀ b=none
structure Inv (X:Cx) (Ie:List (Addr × Obj)) (σ:List (Option V)) (H:Hp) (s:Shared):Prop where
 ok:X.Ok
 os:s.os=X.s₀.os
 bare:AllBare s.gens
 base:Un X.fs X.ex X.H₀ H X.s₀.heap s.heap
 loc:∃m,s.heap.Ns X.env.locals m/\∀(i:Nat) (x:Str) (v:V),X.N[i]?=some x->σ[i]?=some (some v)->Vis X.env.scope x->∃u,aX v u/\Look X.env s.heap m x u
 cell:∀x c,X.env.cells.lookup x=some c->∃v,s.heap.IsCell c v
 free:H X.env.locals=none
 freeC:∀x c,X.env.cells.lookup x=some c->H c=none
 pin:∀p∈X.pn++Ie,s.heap.get? p.1=some p.2/\H p.1=none/\p.1≠X.env.locals/\p.1∉X.fs/\∀v,p.2.data≠.cell v
 hok:HOk X.prog X.w H s.heap
 len:σ.length=X.N.length
section
variable {X:Cx} {Ie:List (Addr × Obj)} {σ:List (Option V)} {H H':Hp} {s:Shared} {h':Heap}
def Cx.Ok.nofr(ok:X.Ok)(e:X.base.get? b=some o):b∉X.fs:=fun hb=>by
 have:=(ok.funs.mem hb).1
 rw[e] at this;cases this
def Inv.bs(I:Inv X Ie σ H s):∀b o,X.base.get? b=some o->s.heap.get? b=some o/\H b=none:=fun b o e =>
 ⟨I.base.keep b o (I.ok.bs b o e).1 (I.ok.bs b o e).2 (I.ok.nofr e) (I.ok.noex b o e),I.base.free b o (I.ok.bs b o e).1 (I.ok.bs b o e).2 (I.ok.noex b o e)⟩
def Inv.bk(I:Inv X Ie σ H s):∀b o,X.base.get? b=some o->s.heap.get? b=some o:=fun b o e=>(I.bs b o e).1
def Inv.mod(I:Inv X Ie σ H s):Mod X.K X.mg X.base:=I.ok.mod
def Inv.kIn(I:Inv X Ie σ H s):X.K.In s.heap:=I.ok.mod.kin.keeps I.bk
def Inv.lt(I:Inv X Ie σ H s):X.env.locals<s.heap.objs.size:=let ⟨_,hn,_⟩:=I.loc;hn.lt
def Inv.sz(I:Inv X Ie σ H s):X.s₀.heap.objs.size<=s.heap.objs.size:=qaw I.ok.above (qbU I.lt)
def Inv.nofs(I:Inv X Ie σ H s){a:Addr}(h:s.heap.objs.size<=a):a∉X.fs:=fun hb=>by
 obtain⟨_,o,ho,_⟩:=I.ok.funs.mem hb;exact absurd (qav (qap ho) (qaw I.sz h)) (qaU _)
def Inv.cne(I:Inv X Ie σ H s):∀x c,X.env.cells.lookup x=some c->c≠X.env.locals:=fun x c e z=>by
 obtain⟨v,o,ho,hd⟩:=I.cell x c e;obtain⟨m,⟨o',es,ep,ho',hd',_⟩,_⟩:=I.loc;rw[z,ho'] at ho;cases ho;rw[hd'] at hd;cases hd
def Inv.funs(I:Inv X Ie σ H s):s.heap.FunFrames X.base X.outer:=by
 have all:∀(l:List Env),(∀b∈frs l,b∈X.fs)->X.s₀.heap.FunFrames X.base l->s.heap.FunFrames X.base l:=by
  intro l
  induction l with
  | nil=>intro _ _;trivial
  | cons env r ih =>
   intro hs hl;obtain⟨hk,⟨L,o,hf,hn,ho,hd⟩,hr⟩:=hl;have hL:L∈X.fs:=hs L (by unfold frs;rw[qbq,hf];exact qaF);obtain⟨sl,e⟩:=I.base.slot L o ho (I.ok.frf L hL) hL fun z=>I.ok.exfs L z hL;exact⟨hk,⟨L,_,hf,hn,e,hd⟩,ih (fun b hb=>hs b (by unfold frs;rw[qbq,hf];exact qam _ hb)) hr⟩
 exact all X.outer (fun _ hb=>hb) I.ok.funs
def Inv.stack(I:Inv X Ie σ H s):s.heap.FunFrames X.base X.stack:=by
 rcases I.ok.stk with e|⟨e,hf⟩
 ·rw[e];exact I.funs
 ·rw[e];obtain⟨m,hn,_⟩:=I.loc;refine .cons (by rw[I.ok.kind];decide) hf hn ?_ I.funs;exact Heap.get?_none_of_le (qaw I.ok.bsz I.ok.above)
def Inv.stkSub(I:Inv X Ie σ H s):∀b∈frs X.stack,b∈X.env.locals::X.fs:=fun b hb=>by
 rcases I.ok.stk with e|⟨e,hf⟩
 ·rw[e] at hb;exact qam _ hb
 ·rw[e] at hb;unfold frs at hb;rw[qbq,hf] at hb;exact hb
def Inv.stkFree(I:Inv X Ie σ H s):∀b∈frs X.stack,H b=none:=fun b hb=>by
 rcases qao.mp (I.stkSub b hb) with e|hb
 ·rw[e];exact I.free
 ·obtain⟨_,o,ho,_⟩:=I.ok.funs.mem hb;exact I.base.free b o ho (I.ok.frf b hb) fun z=>I.ok.exfs b z hb
def Inv.step{g':Array GenState}{t':Nat}{d':Drawn}{ch:List Addr}(I:Inv X Ie σ H s)
  (hch:∀b∈ch,(b∈X.ex\/X.s₀.heap.objs.size<=b)/\b≠X.env.locals/\(∀x c,X.env.cells.lookup x=some c->c≠b)/\∀p∈X.pn++Ie,p.1≠b)
  (keep:∀b o,b≠X.env.locals->b∉X.fs->b∉ch->s.heap.get? b=some o->H b=none->h'.get? b=some o)
  (slot:∀b o,b≠X.env.locals->b∈X.fs->b∉ch->s.heap.get? b=some o->H b=none->∃sl,h'.get? b=some { o with slots:=sl}) (free:∀b o,b∉ch->s.heap.get? b=some o->H b=none->H' b=none)
  (there:∀b o,b∉ch->s.heap.get? b=some o->∃o',h'.get? b=some o')
  (tups:∀b xs,H b=some (.tup xs)->H' b=some (.tup xs)) (frzs:∀b o u,H b=some (.frz o u)->H' b=some (.frz o u)) (tbls:∀b ps,H b=some (.tbl ps)->∃more,H' b=some (.tbl (ps++more)))
  (ns:∀m,s.heap.Ns X.env.locals m->h'.Ns X.env.locals m) (hok:HOk X.prog X.w H' h') (hg:AllBare g') :
  Inv X Ie σ H' { s with heap:=h',gens:=g',drawn:=d',toks:=t'}:=by
 have neL:∀b o,X.s₀.heap.get? b=some o->b≠X.env.locals:=fun b o e=>qaG (qav (qap e) I.ok.above);have neC:∀b o,X.s₀.heap.get? b=some o->b∉X.ex->b∉ch:=fun b o e hx hb=>by
  rcases (hch b hb).1 with z|z
  ·exact hx z
  ·exact absurd (qav (qap e) z) (qaU _)
 have cellK:∀x c,X.env.cells.lookup x=some c->∀v,s.heap.IsCell c v->h'.IsCell c v:=fun x c e v ⟨o,ho,hd⟩=>by
  have nch:c∉ch:=fun z=>(hch c z).2.2.1 x c e rfl;by_cases hc:c∈X.fs
  ·obtain⟨sl,q⟩:=slot c o (I.cne x c e) hc nch ho (I.freeC x c e);exact⟨_,q,hd⟩
  ·exact⟨o,keep c o (I.cne x c e) hc nch ho (I.freeC x c e),hd⟩
 refine⟨I.ok,I.os,hg,⟨fun b o e n hb hx=>?_,fun b o e n hb hx=>?_,fun b o e n hx=>?_,fun b o e hx=>?_,fun b xs e=>tups b xs (I.base.tups b xs e),fun b o xs e=>frzs b o xs (I.base.frzs b o xs e),fun b ps e=>?_⟩,?_,fun x c e=>?_,?_,fun x c e=>?_,fun p hp=>?_,hok,I.len⟩
 ·exact keep b o (neL b o e) hb (neC b o e hx) (I.base.keep b o e n hb hx) (I.base.free b o e n hx)
 ·obtain⟨sl,e1⟩:=I.base.slot b o e n hb hx;obtain⟨sl',e2⟩:=slot b _ (neL b o e) hb (neC b o e hx) e1 (I.base.free b o e n hx);exact⟨sl',e2⟩
 ·obtain⟨o',e1⟩:=I.base.there b o e hx;exact free b o' (neC b o e hx) e1 (I.base.free b o e n hx)
 ·obtain⟨o',e1⟩:=I.base.there b o e hx;exact there b o' (neC b o e hx) e1
 ·obtain⟨m1,e1⟩:=I.base.tbls b ps e;obtain⟨m2,e2⟩:=tbls b _ e1;exact⟨m1++m2,by rw[e2,Array.append_assoc]⟩
 ·obtain⟨m,hn,hl⟩:=I.loc;refine⟨m,ns m hn,fun i x v e1 e2 e3=>?_⟩;obtain⟨u,r,l⟩:=hl i x v e1 e2 e3;refine⟨u,r,?_⟩;rcases l with l|⟨k,c,e,z⟩
  ·exact .inl l
  ·exact .inr ⟨k,c,e,cellK x c e _ z⟩
 ·obtain⟨v,z⟩:=I.cell x c e;exact⟨v,cellK x c e v z⟩
 ·obtain⟨m,⟨o,_,_,ho,_⟩,_⟩:=I.loc;exact free _ o (fun z=>(hch _ z).2.1 rfl) ho I.free
 ·obtain⟨v,o,ho,hd⟩:=I.cell x c e;exact free c o (fun z=>(hch c z).2.2.1 x c e rfl) ho (I.freeC x c e)
 ·obtain⟨e,n,ne,nf,d⟩:=I.pin p hp;have nch:p.1∉ch:=fun z=>(hch p.1 z).2.2.2 p hp rfl;exact⟨keep p.1 p.2 ne nf nch e n,free p.1 p.2 nch e n,ne,nf,d⟩
def Inv.un{t':Nat}(I:Inv X Ie σ H s)(u:Un X.fs [] H H' s.heap h')(hok:HOk X.prog X.w H' h'):Inv X Ie σ H' { s with heap:=h',toks:=t'}:=by
 obtain⟨m,⟨o,es,ep,ho,r⟩,_⟩:=id I.loc;obtain⟨sl,hL⟩:=u.any ho I.free (by simp)
 exact I.step (g':=s.gens) (d':=s.drawn) (ch:=[]) (fun _ z=>nomatch z) (fun b o _ hb _ e n=>u.keep b o e n hb (by simp)) (fun b o _ hb _ e n=>u.slot b o e n hb (by simp)) (fun b o _ e n=>u.free b o e n (by simp)) (fun b o _ e=>u.there b o e (by simp)) u.tups u.frzs u.tbls (fun m' hm=>by
  obtain⟨o',es',ep',ho',r'⟩:=hm;rw[ho] at ho';cases ho'
  exact⟨_,es',ep',hL,r'⟩) hok I.bare
def Inv.call{g':Array GenState}{t':Nat}{d':Drawn}{ch:List Addr}(I:Inv X Ie σ H s)(u:Un (frs X.stack) ch H H' s.heap h')(hok:HOk X.prog X.w H' h')(hg:AllBare g')
  (hch:∀b∈ch,(b∈X.ex\/X.s₀.heap.objs.size<=b)/\b≠X.env.locals/\(∀x c,X.env.cells.lookup x=some c->c≠b)/\∀p∈X.pn++Ie,p.1≠b) :
  Inv X Ie σ H' { s with heap:=h',gens:=g',drawn:=d',toks:=t'}:=by
 obtain⟨m,⟨o,es,ep,ho,r⟩,_⟩:=id I.loc;obtain⟨sl,hL⟩:=u.any ho I.free fun z=>(hch _ z).2.1 rfl
 exact I.step (ch:=ch) hch (fun b o hL hb hc e n=>u.keep b o e n (fun z=>(qao.mp (I.stkSub b z)).elim hL hb) hc) (fun b o _ _ hc e n=>u.any e n hc) (fun b o hc e n=>u.free b o e n hc) (fun b o hc e=>u.there b o e hc) u.tups u.frzs u.tbls (fun m' hm=>by
  obtain⟨o',es',ep',ho',r'⟩:=hm;rw[ho] at ho';cases ho'
  exact⟨_,es',ep',hL,r'⟩) hok hg
def Inv.turned{t':Nat}{it:Addr}(I:Inv X Ie σ H s)(k:∀b o,b≠it->s.heap.get? b=some o->h'.get? b=some o)(hn:H it=none)(hL:it≠X.env.locals)
  (h1:it∈X.ex\/X.s₀.heap.objs.size<=it) (h2:∀x c,X.env.cells.lookup x=some c->c≠it) (h3:∀p∈X.pn++Ie,p.1≠it):Inv X Ie σ H { s with heap:=h',toks:=t'}:=by
 have nit:∀b u,H b=some u->b≠it:=fun b u e z=>by rw[z,hn] at e;cases e
 refine I.step (g':=s.gens) (d':=s.drawn) (ch:=[it]) (fun b hb=>?_) (fun b o _ _ hc e _=>k b o (fun z=>hc (by simp[z])) e) (fun b o _ _ hc e _=>⟨o.slots,k b o (fun z=>hc (by simp[z])) e⟩) (fun _ _ _ _ n=>n)
  (fun b o hc e=>⟨o,k b o (fun z=>hc (by simp[z])) e⟩) (fun _ _ e=>e) (fun _ _ _ e=>e) (fun b ps e=>⟨#[],by rw[e];simp⟩) (fun m hm=>?_) (fun b u e=>?_) I.bare
 ·have e:b=it:=by simpa using hb
  subst e;exact⟨h1,hL,h2,h3⟩
 ·obtain⟨o,es,ep,ho,r⟩:=hm;exact⟨o,es,ep,k _ o (Ne.symm hL) ho,r⟩
 ·refine (I.hok b u e).stay (fun c v hc q=>k c v ?_ q) (fun _ q=>q) fun _ _ q=>q;rcases hc with z|z
  ·rw[z];exact nit b u e
  ·exact nit c _ z
def Inv.tok(I:Inv X Ie σ H s)(t:Nat):Inv X Ie σ H { s with toks:=t}:=I.un (h':=s.heap) (t':=t) Un.refl I.hok
def Inv.kept(I:Inv X Ie σ H s)(k:∀b u,s.heap.get? b=some u->h'.get? b=some u):Inv X Ie σ H { s with heap:=h',toks:=t'}:=I.un (Un.kept k) (I.hok.kept k)
def Inv.laid{a:Addr}{o:HO}{t':Nat}(I:Inv X Ie σ H s)(k:∀b u,s.heap.get? b=some u->h'.get? b=some u)(hp:s.heap.objs.size<=a)(new:ObjOk X.prog X.w (upd H a o) h' a o) :
  Inv X Ie σ (upd H a o) { s with heap:=h',toks:=t'}:=I.un (Un.laid k hp (I.hok.fresh hp)) (I.hok.laid k hp new)
def Inv.write(I:Inv X Ie σ H s)(mu:Mut (H x))(he:e=x\/H e=some (.own x))(k:∀b u,b≠e->s.heap.get? b=some u->h'.get? b=some u)(heo:∃u,h'.get? e=some u)
  (new:ObjOk X.prog X.w (upd H x o) h' x o):Inv X Ie σ (upd H x o) { s with heap:=h',toks:=t'}:=I.un (Un.write mu he k heo) (I.hok.write mu he k heo new)
def Inv.pins_of(I:Inv X Ie σ H s)(h:∀p∈pins',s.heap.get? p.1=some p.2/\H p.1=none/\p.1≠X.env.locals/\p.1∉X.fs/\∀v,p.2.data≠.cell v):Inv X pins' σ H s :=
 ⟨I.ok,I.os,I.bare,I.base,I.loc,I.cell,I.free,I.freeC,fun p hp=>(qau.mp hp).elim (fun z=>I.pin p (qaC _ z)) (h p),I.hok,I.len⟩
def mz{N:List Str}(hN:N.Nodup){i j:Nat}{x:Str}(a:N[i]?=some x)(b:N[j]?=some x):i=j:=by
 obtain⟨h1,e1⟩:=qag.mp a;obtain⟨h2,e2⟩:=qag.mp b;exact (List.getElem_inj hN).mp (e1.trans e2.symm)
def xD{M:Model}{A:Around}{E:Value->Shared->Prop}{i:Nat}{x:Str}{v:V}{u:Value}{Q:Unit->Shared->Prop}(I:Inv X Ie σ H s)(hN:X.N.Nodup)(hi:X.N[i]?=some x)(hx:Loc X.env.scope x)(r:aX v u)
  (h:∀s',Inv X Ie (σ.set i (some v)) H s'->(∃a,Heap.SameBut a s.heap s'.heap/\(a=X.env.locals\/X.env.cells.lookup x=some a))->Q () s') (hf:X.fn x=true\/X.env.scope.names.lookup x=some .local:=by first | exact .inl rfl | exact .inr rfl | assumption):wpAny M A (storeName X.env x u) Q E s:=by
 obtain⟨m,hn,hl⟩:=id I.loc;have hcls:(X.env.scope.kind == .class || (X.env.scope.kind == .module && X.env.locals != X.env.globals))=false:=by rw[I.ok.kind];rfl
 have hiσ:i<σ.length:=by rw[I.len];exact (qag.mp hi).1
 have cne:=I.cne;have tracked:∀{a:Addr} {h':Heap},(∃o,s.heap.get? a=some o/\H a=none)->Heap.SameBut a s.heap h'->HOk X.prog X.w H h':=fun {a h'} ha hs b ob e=>by
  obtain⟨_,_,hfree⟩:=ha;refine (I.hok b ob e).stay (fun c w' hc q=>(hs.2 c ?_).trans q) (fun _ q=>q) fun _ _ q=>q;rintro rfl;rcases hc with rfl|hc
  ·rw[hfree] at e;cases e
  ·rw[hfree] at hc;cases hc
 rcases hx with hk|hk
 ·refine wpAny_storeName_local hk hn (fun h' hn' hs=>?_) hcls;obtain⟨oL,_,_,hoL,_⟩:=id hn;refine h _ ⟨I.ok,I.os,I.bare,⟨fun b o e n hb hx=>?_,fun b o e n hb hx=>?_,I.base.free,fun b o e hx=>?_,I.base.tups,I.base.frzs,I.base.tbls⟩,⟨_,hn',fun j y v' e1 e2 e3=>?_⟩,fun y c e=>?_,I.free,I.freeC,fun p hp=>?_,tracked ⟨oL,hoL,I.free⟩ hs,by simpa using I.len⟩ ⟨_,hs,.inl rfl⟩
  ·exact (hs.2 b (qaG (qav (qap e) I.ok.above))).trans (I.base.keep b o e n hb hx)
  ·obtain⟨sl,e1⟩:=I.base.slot b o e n hb hx;exact⟨sl,(hs.2 b (qaG (qav (qap e) I.ok.above))).trans e1⟩
  ·obtain⟨o',e1⟩:=I.base.there b o e hx;exact⟨o',(hs.2 b (qaG (qav (qap e) I.ok.above))).trans e1⟩
  ·by_cases hj:j=i
   ·subst hj;rw[hi] at e1;cases e1;rw[qat hiσ] at e2;cases e2;exact⟨u,r,.inl ⟨hk,by simp⟩⟩
   ·rw[qaj (Ne.symm hj)] at e2;obtain⟨u',r',q⟩:=hl j y v' e1 e2 e3;refine⟨u',r',?_⟩;rcases q with ⟨k,e⟩|⟨k,c,e,z⟩
    ·refine .inl ⟨k,?_⟩
     have:y≠x:=fun e=>hj (mz hN e1 (e▸hi))
     simp[this,e]
    ·exact .inr ⟨k,c,e,z.sameBut hs (cne y c e)⟩
  ·obtain⟨w',z⟩:=I.cell y c e;exact⟨w',z.sameBut hs (cne y c e)⟩
  ·obtain⟨e,n,ne,nf,d⟩:=I.pin p hp;exact⟨(hs.2 p.1 ne).trans e,n,ne,nf,d⟩
 ·have hfn:X.fn x=true:=by
   rcases hf with z|z
   ·exact z
   ·rw[z] at hk;cases hk
  obtain⟨c,hc⟩:=I.ok.has x (.inl hk);obtain⟨w',z⟩:=I.cell x c hc;refine wpAny_storeName_cell I.ok.kind hk hc z (fun h' hc' hs=>?_);obtain⟨oc,hoc,hocd⟩:=id z;refine h { s with heap:=h'} ⟨I.ok,I.os,I.bare,⟨fun b o e n hb hx=>?_,fun b o e n hb hx=>?_,I.base.free,fun b o e hx=>?_,I.base.tups,I.base.frzs,I.base.tbls⟩,⟨m,hn.sameBut hs (Ne.symm (cne x c hc)),fun j y v' e1 e2 e3=>?_⟩,fun y c' e=>?_,I.free,I.freeC,fun p hp=>?_,tracked ⟨oc,hoc,I.freeC x c hc⟩ hs,by simpa using I.len⟩ ⟨c,hs,.inr hc⟩
  ·exact (hs.2 b (qaG (qav (qap e) (I.ok.cab x c hfn hc)))).trans (I.base.keep b o e n hb hx)
  ·obtain⟨sl,e1⟩:=I.base.slot b o e n hb hx;exact⟨sl,(hs.2 b (qaG (qav (qap e) (I.ok.cab x c hfn hc)))).trans e1⟩
  ·obtain⟨o',e1⟩:=I.base.there b o e hx;exact⟨o',(hs.2 b (qaG (qav (qap e) (I.ok.cab x c hfn hc)))).trans e1⟩
  ·by_cases hj:j=i
   ·subst hj;rw[hi] at e1;cases e1;rw[qat hiσ] at e2;cases e2;exact⟨u,r,.inr ⟨.inl hk,c,hc,hc'⟩⟩
   ·rw[qaj (Ne.symm hj)] at e2;obtain⟨u',r',q⟩:=hl j y v' e1 e2 e3;refine⟨u',r',?_⟩;rcases q with q|⟨k,c',e,z'⟩
    ·exact .inl q
    ·refine .inr ⟨k,c',e,z'.sameBut hs ?_⟩;rintro rfl;exact hj (mz hN e1 (I.ok.inj _ _ _ e hc▸hi))
  ·by_cases hcc:c'=c
   ·subst hcc;exact⟨_,hc'⟩
   ·obtain⟨w2,z2⟩:=I.cell y c' e;exact⟨w2,z2.sameBut hs hcc⟩
  ·obtain⟨e,n,ne,nf,d⟩:=I.pin p hp;refine⟨(hs.2 p.1 ?_).trans e,n,ne,nf,d⟩;intro q;rw[q,hoc] at e;have q':oc=p.2:=Option.some.inj e;exact d w' (by rw[<-q'];exact hocd)
def mE(I:Inv X Ie σ H s)(hN:X.N.Nodup)(hi:X.N[i]?=some x)(hx:Loc X.env.scope x)(r:aX v u)
  (h:∀s',Inv X Ie (σ.set i (some v)) H s'->Q () s') (hf:X.fn x=true\/X.env.scope.names.lookup x=some .local:=by first | exact .inl rfl | exact .inr rfl | assumption):wpAny M A (storeName X.env x u) Q E s :=
 xD I hN hi hx r (fun s' I' _=>h s' I') hf
def Inv.call'(I:Inv X Ie σ H s)(ho:s'.os=s.os)(u:Un (frs X.stack) ch H H' s.heap s'.heap)(hok:HOk X.prog X.w H' s'.heap)(hg:AllBare s'.gens)
  (hch:∀b∈ch,(b∈X.ex\/X.s₀.heap.objs.size<=b)/\b≠X.env.locals/\(∀x c,X.env.cells.lookup x=some c->c≠b)/\∀p∈X.pn++Ie,p.1≠b):Inv X Ie σ H' s':=by
 obtain⟨h',g',d',t',o'⟩:=s';have e:o'=s.os:=ho;subst e;exact I.call (g':=g') (t':=t') (d':=d') u hok hg hch
end
abbrev XK:=Value->Option Addr->Hp->Prop
abbrev St:=List (Option V)
abbrev VK:=V->Hp->Prop
abbrev TE:=St->Hp->VK->Prop
abbrev TT:=St->Hp->(Bool->Hp->Prop)->Prop
abbrev TA:=St->Hp->(List V->Hp->Prop)->Prop
structure Ends where
 nx:St->Hp->Prop
 rt:VK
 bk:St->Hp->Prop:=fun _ _=>False
 ct:St->Hp->Prop:=fun _ _=>False
abbrev TS:=Ends->St->Hp->Prop
inductive EP (X:Cx) (Ie:List (Addr × Obj)) (σ:St) (Q:VK) (u:Value) (s':Shared):Prop
 | mk (v:V) (H':Hp) (i:Inv X Ie σ H' s') (r:aX v u) (q:Q v H'):EP X Ie σ Q u s'
inductive TP (X:Cx) (Ie:List (Addr × Obj)) (σ:St) (Q:Bool->Hp->Prop) (b:Bool) (s':Shared):Prop
 | mk (H':Hp) (i:Inv X Ie σ H' s') (q:Q b H'):TP X Ie σ Q b s'
inductive AP (X:Cx) (Ie:List (Addr × Obj)) (σ:St) (Q:List V->Hp->Prop) (us:List Value) (s':Shared):Prop
 | mk (vs:List V) (H':Hp) (i:Inv X Ie σ H' s') (r:aB vs us) (q:Q vs H'):AP X Ie σ Q us s'
inductive SN (X:Cx) (Ie:List (Addr × Obj)) (Q:St->Hp->Prop) (s':Shared):Prop
 | mk (σ':St) (H':Hp) (i:Inv X Ie σ' H' s') (q:Q σ' H'):SN X Ie Q s'
inductive SR (X:Cx) (Ie:List (Addr × Obj)) (Q:VK) (u:Value) (s':Shared):Prop
 | mk (v:V) (σ':St) (H':Hp) (i:Inv X Ie σ' H' s') (r:aX v u) (q:Q v H'):SR X Ie Q u s'
def SP(X:Cx)(Ie:List (Addr × Obj))(D:Ends)(f:Flow)(s':Shared):Prop :=
 match f with
 | .next=>SN X Ie D.nx s'
 | .brk=>SN X Ie D.bk s'
 | .cont=>SN X Ie D.ct s'
 | .ret u=>SR X Ie D.rt u s'
def PE(X:Cx)(e:Expr)(t:TE):Prop :=
 ∀(Ie:List (Addr × Obj)) (s:Shared) (σ:St) (H:Hp) (Q:VK),Inv X Ie σ H s->t σ H Q->wpAny (model X.prog X.w) X.A (eval e X.env) (EP X Ie σ Q) X.xe s
def PT(X:Cx)(e:Expr)(t:TT):Prop :=
 ∀(Ie:List (Addr × Obj)) (s:Shared) (σ:St) (H:Hp) (Q:Bool->Hp->Prop),Inv X Ie σ H s->t σ H Q->wpAny (model X.prog X.w) X.A (isTrue e X.env (eval e X.env)) (TP X Ie σ Q) X.xe s
def PW(X:Cx)(e:Expr)(t:TT):Prop :=
 ∀(whole:Sem Value) (Ie:List (Addr × Obj)) (s:Shared) (σ:St) (H:Hp) (Q:Bool->Hp->Prop),Inv X Ie σ H s->t σ H Q->wpAny (model X.prog X.w) X.A (isTrue e X.env whole) (TP X Ie σ Q) X.xe s
def PW.pt(h:PW X e t):PT X e t:=h _
def PA(X:Cx)(es:List Expr)(t:TA):Prop :=
 ∀(pos:Pos) (Ie:List (Addr × Obj)) (s:Shared) (σ:St) (H:Hp) (Q:List V->Hp->Prop),Inv X Ie σ H s->t σ H Q->wpAny (model X.prog X.w) X.A (spliced (backTo pos (starEach es X.env))) (AP X Ie σ Q) X.xe s
def PS(X:Cx)(st:Stmt)(t:TS):Prop :=
 ∀(Ie:List (Addr × Obj)) (s:Shared) (σ:St) (H:Hp) (D:Ends),Inv X Ie σ H s->t D σ H->wpAny (model X.prog X.w) X.A (exec st X.env) (SP X Ie D) X.xe s
def PSs(X:Cx)(st:List Stmt)(t:TS):Prop :=
 ∀(Ie:List (Addr × Obj)) (s:Shared) (σ:St) (H:Hp) (D:Ends),Inv X Ie σ H s->t D σ H->wpAny (model X.prog X.w) X.A (execs st X.env) (SP X Ie D) X.xe s
def thn(h:wpAny M A t Q E s)(hQ:∀a s,Q a s->Q' a s):wpAny M A t Q' E s:=wpAny_mono h hQ fun _ _ x=>x
section
variable {X:Cx}
def tVar(i:Nat):TE:=fun σ H Q=>∃v,σ[i]?=some (some v)/\Q v H
def tC(v:V):TE:=fun _ H Q=>Q v H
def xM{i:Nat}{x:Str}{pos:Pos}(hN:X.N[i]?=some x)(hv:Vis X.env.scope x)(hd:(x == ("__debug__":Str))=false:=by decide)(hcd:(x == ("__classdict__":Str))=false:=by decide):PE X (.Name x pos) (tVar i):=by
 intro Ie s σ H Q I h;obtain⟨v,e,h⟩:=h;obtain⟨m,hn,hl⟩:=I.loc;obtain⟨u,r,l⟩:=hl i x v hN e hv;have fin:EP X Ie σ Q u s:=⟨v,H,I,r,h⟩;rcases l with ⟨hk,hm⟩|⟨hk,c,hc,hcell⟩
 ·exact wpAny_Name (wpAny_loadName_local I.ok.kind hk hn hm fin) hd
 ·rcases hk with hk|hk
  ·exact wpAny_Name (wpAny_loadName_cell I.ok.kind hk hc hcell fin) hd
  ·exact wpAny_Name (wpAny_loadName_free I.ok.kind hk hc hcell fin hcd) hd
def pe_int{i j pos}:PE X (.Constant (.int i) j pos) (tC (.int i)):=fun _ _ _ H _ I h=>wpAny_Constant_int ⟨.int i,H,I.tok _,⟨_,rfl⟩,h⟩
def pe_bl{b j pos}:PE X (.Constant (.bool b) j pos) (tC (.bl b)):=fun _ _ _ H _ I h=>Constant_bool ⟨.bl b,H,I,rfl,h⟩
def pe_non{j pos}:PE X (.Constant .none j pos) (tC .non):=fun _ _ _ H _ I h=>Constant_none ⟨.non,H,I,rfl,h⟩
def pe_str{x j pos}:PE X (.Constant (.str x) j pos) (tC (.str x)):=fun _ _ _ H _ I h=>Calls.Constant_str ⟨.str x,H,I.tok _,⟨_,rfl⟩,h⟩
def Gl(X:Cx)(x:Str):Prop:=X.env.kindOf x=some .globalImplicit
def oV{E:Value->Shared->Prop}{Ie:List (Addr × Obj)}{s:Shared}{σ:St}{H:Hp}{x:Str}{u:Value}{pos:Pos}{Q:Value->Shared->Prop}(I:Inv X Ie σ H s)(hg:Gl X x)(hm:X.mg x=some u)(h:Q u s)
  (hd:(x == ("__debug__":Str))=false:=by decide):wpAny (model X.prog X.w) X.A (eval (.Name x pos) X.env) Q E s :=
 Calls.Name_function_global I.ok.kind hg (Calls.loadGlobal_global (by rw[I.ok.glob];exact I.mod.glob.keeps I.bk) hm h) hd
def gF{E:Value->Shared->Prop}{Ie:List (Addr × Obj)}{s:Shared}{σ:St}{H:Hp}{x:Str}{u:Value}{pos:Pos}{Q:Value->Shared->Prop}(I:Inv X Ie σ H s)(hg:Gl X x)(hm:X.mg x=none)(hv:bootBuiltins x=some u)(h:Q u s)
  (hn:x≠"__name__":=by decide) (hd:(x == ("__debug__":Str))=false:=by decide):wpAny (model X.prog X.w) X.A (eval (.Name x pos) X.env) Q E s:=by
 obtain⟨mb,h1,h2⟩:=I.mod.blt;exact Calls.Name_function_global I.ok.kind hg (Calls.loadGlobal_builtin (by rw[I.ok.glob];exact I.mod.glob.keeps I.bk) hm (by rw[I.ok.blt];exact h1.keeps I.bk) ((h2 x hn).trans hv) h) hd
def oG(hg:Gl X x)(hm:X.mg x=some u)(r:aX v u)(hd:(x == ("__debug__":Str))=false:=by decide):PE X (.Name x pos) (tC v) :=
 fun _ _ _ H _ I h=>oV I hg hm ⟨v,H,I,r,h⟩ hd
def kX{x:Str}{v:V}{u:Value}{pos:Pos}(hg:Gl X x)(hm:X.mg x=none)(hv:bootBuiltins x=some u)(r:aX v u)(hn:x≠"__name__":=by decide)(hd:(x == ("__debug__":Str))=false:=by decide):PE X (.Name x pos) (tC v) :=
 fun _ _ _ H _ I h=>gF I hg hm hv ⟨v,H,I,r,h⟩ hn hd
variable {a b:Expr} {ta tb:TE} {pos:Pos}
def tB(t:TE):TT:=fun σ H Q=>t σ H fun x H1=>∃c,x=.bl c/\Q c H1
def pt_val(h:PE X e t)(he:∀whole,isTrue e X.env whole=(do let v <-whole;standAt e.pos;holding [v] (truthy v)):=by intro _;rfl):PT X e (tB t):=by
 intro Ie s σ H Q I hw;refine isTrue_plain (thn (h Ie s σ H _ I hw) fun v s1 ⟨x,H1,I1,r1,q1⟩=>?_) (he _);obtain⟨d,rfl,q⟩:=q1;cases r1;exact wpAny_truthy_bool ⟨H1,I1,q⟩
variable {tA tB':TT} {rest:List Expr}
def tOr(t u:TT):TT:=fun σ H Q=>t σ H fun c H1=>if c=true then Q true H1 else u σ H1 Q
def tNot(t:TT):TT:=fun σ H Q=>t σ H fun c H1=>Q (!c) H1
def pw_or1(ha:PT X a tA):PW X (.BoolOp .Or [a] pos) tA:=by
 intro wh Ie s σ H Q I h;refine isTrue_or (thn (ha Ie s σ H Q I h) fun c s1 e=>?_)
 cases c with
 | false=>exact isTrue_or_nil e
 | true=>exact e
def pw_or(ha:PT X a tA)(hb:PW X (.BoolOp .Or (b::rest) pos) tB'):PW X (.BoolOp .Or (a::b::rest) pos) (tOr tA tB'):=by
 intro wh Ie s σ H Q I h;refine isTrue_or (thn (ha Ie s σ H _ I h) fun c s1 ⟨H1,I1,q1⟩=>?_)
 cases c with
 | true=>exact⟨H1,I1,q1⟩
 | false=>exact hb wh Ie s1 σ H1 Q I1 q1
def pt_not(ha:PT X a tA):PT X (.UnaryOp .Not a pos) (tNot tA):=by
 intro Ie s σ H Q I h;exact isTrue_not (thn (ha Ie s σ H (fun c H1=>Q (!c) H1) I h) fun _ _ ⟨H1,I1,q⟩=>⟨H1,I1,q⟩)
def tAndV(ta tb:TE):TE:=fun σ H Q=>ta σ H fun x H1=>∃c,x=.bl c/\if c=true then tb σ H1 Q else Q (.bl false) H1
def tNotV(ta:TE):TE:=fun σ H Q=>ta σ H fun x H1=>∃c,x=.bl c/\Q (.bl (!c)) H1
def pe_one{op}(h:PE X a t):PE X (.BoolOp op [a] pos) t:=fun Ie s σ H Q I hw=>BoolOp_one (h Ie s σ H Q I hw)
def pe_and(ha:PE X a ta)(hb:PE X (.BoolOp .And (b::rest) pos) tb):PE X (.BoolOp .And (a::b::rest) pos) (tAndV ta tb):=by
 intro Ie s σ H Q I h;refine BoolOp_and (thn (ha Ie s σ H _ I h) fun v s1 ⟨x,H1,I1,r1,q1⟩=>?_);obtain⟨c,rfl,q1⟩:=q1;cases r1;refine wpAny_truthy_bool ?_
 cases c with
 | true=>exact hb Ie s1 σ H1 Q I1 q1
 | false=>exact⟨.bl false,H1,I1,rfl,q1⟩
def pe_not(ha:PE X a ta):PE X (.UnaryOp .Not a pos) (tNotV ta):=by
 intro Ie s σ H Q I h;refine UnaryOp_ (thn (ha Ie s σ H _ I h) fun v s1 ⟨x,H1,I1,r1,q1⟩=>?_);obtain⟨c,rfl,q1⟩:=q1;cases r1;exact not_of (wpAny_truthy_bool ⟨.bl (!c),H1,I1,rfl,q1⟩)
end
def SqL(K:qab)(H:Hp)(a:Addr)(xs:List V):Prop :=
 Rd H a (.lst xs) \/
  ∃(o:Obj) (its:Array Value) (n:Nat),K.lookup a=some o/\o.cls=.type "list"/\o.dict=none/\o.data=.seq its n/\its.size<=sizeLine/\aB xs its.toList
def SqT(K:qab)(H:Hp)(a:Addr)(xs:List V):Prop :=
 Rd H a (.tup xs) \/
  ∃(o:Obj) (its:Array Value) (n:Nat),K.lookup a=some o/\o.cls=.type "tuple"/\(o.data=.seq its n/\o.dict=none)/\its.size<=sizeLine/\aB xs its.toList
def absV:Value->Option V
 | .none=>some .non
 | .bool b=>some (.bl b)
 | .int i _=>some (.int i)
 | .str x _=>some (.str x)
 | .bytes b _=>some (.byt b)
 | .float b _=>some (.flt b)
 | .ref a=>some (.ref a)
 | .type n=>some (.ty n)
 | _=>none
def aX.abs(r:aX x u):absV u=some x:=by
 cases x with
 | non=>cases r;rfl
 | bl _=>cases r;rfl
 | int _=>obtain⟨t,rfl⟩:=r;rfl
 | str _=>obtain⟨t,rfl⟩:=r;rfl
 | byt _=>obtain⟨t,rfl⟩:=r;rfl
 | flt _=>obtain⟨t,rfl⟩:=r;rfl
 | ref _=>cases r;rfl
 | ty _=>cases r;rfl
def aX.inj(r:aX x u)(q:aX y u):x=y:=Option.some.inj (r.abs.symm.trans q.abs)
def aB.inj(r:aB xs us)(q:aB ys us):xs=ys:=by
 induction r generalizing ys with
 | nil=>cases q;rfl
 | cons r t ih=>cases q with | cons r' t'=>rw[r.inj r',ih t']
section
variable {X:Cx} {Ie:List (Addr × Obj)} {σ:St} {H:Hp} {s:Shared} {a:Addr} {xs ys:List V}
def SqL.of{K:qab}(h:H a=some (.lst xs)):SqL K H a xs:=.inl (.inl h)
def SqT.of{K:qab}(h:H a=some (.tup xs)):SqT K H a xs:=.inl (.inl h)
def Inv.list(I:Inv X Ie σ H s)(h:SqL X.K H a xs):∃its:List Value,aB xs its/\PlainL s.heap a its.toArray/\xs.length<=sizeLine:=by
 rcases h with h|⟨o,its,n,hk,hc,hd,hs,hz,r⟩
 ·obtain⟨z,its,n,r,e⟩:=h.ok I.hok;exact⟨its,r,⟨_,n,e,rfl,rfl,rfl⟩,z⟩
 ·refine⟨its.toList,r,⟨o,n,I.kIn a o hk,hc,hd,by simpa using hs⟩,?_⟩;have e:=r.length;simp only[qas] at e;ext
def Inv.tupleN(I:Inv X Ie σ H s)(h:SqT X.K H a xs):∃its:List Value,aB xs its/\ft s.heap a its.toArray/\xs.length<=sizeLine:=by
 rcases h with h|⟨o,its,n,hk,hc,hs,hz,r⟩
 ·obtain⟨z,its,r,p⟩:=h.ok I.hok;exact⟨its,r,p,z⟩
 ·refine⟨its.toList,r,⟨o,I.kIn a o hk,hc,⟨n,by simpa using hs.1⟩,hs.2⟩,?_⟩;have e:=r.length;simp only[qas] at e;ext
def Inv.tuple(I:Inv X Ie σ H s)(h:SqT X.K H a xs):∃its:List Value,aB xs its/\IsTup s.heap a its.toArray/\xs.length<=sizeLine :=
 let ⟨its,r,p,z⟩:=I.tupleN h
 ⟨its,r,p.tup,z⟩
def Inv.list_inj(I:Inv X Ie σ H s)(h:SqL X.K H a xs)(h':SqL X.K H a ys):xs=ys:=by
 obtain⟨its,r,⟨o,n,e,_,_,d⟩,_⟩:=I.list h;obtain⟨its',r',⟨o',n',e',_,_,d'⟩,_⟩:=I.list h';rw[e] at e';cases e';rw[d] at d';injection d' with d1 _
 have:its=its':=by simpa using congrArg Array.toList d1
 subst this;exact r.inj r'
def Inv.tuple_inj(I:Inv X Ie σ H s)(h:SqT X.K H a xs)(h':SqT X.K H a ys):xs=ys:=by
 obtain⟨its,r,⟨o,e,_,n,d⟩,_⟩:=I.tuple h;obtain⟨its',r',⟨o',e',_,n',d'⟩,_⟩:=I.tuple h';rw[e] at e';cases e';rw[d] at d';injection d' with d1 _
 have:its=its':=by simpa using congrArg Array.toList d1
 subst this;exact r.inj r'
end
section
variable {X:Cx} {Ie:List (Addr × Obj)} {σ:St} {H:Hp} {s:Shared} {E:Value→Shared→Prop}
end
section
variable {X:Cx} {st:Stmt} {rest:List Stmt} {t u:TS} {e:Expr} {te:TE} {pos:Pos}
def tNext:TS:=fun D σ H=>D.nx σ H
def tSeq(t u:TS):TS:=fun D σ H=>t { D with nx:=u D} σ H
def pss_nil:PSs X [] tNext:=fun _ _ σ H _ I h=>wpAny_execs_nil ⟨σ,H,I,h⟩
def yE(h1:PS X st t)(h2:PSs X rest u):PSs X (st::rest) (tSeq t u):=by
 intro Ie s σ H D I h;refine wpAny_execs_cons (thn (h1 Ie s σ H { D with nx:=u D} I h) fun f s1 q=>?_)
 cases f with
 | next =>
  obtain⟨σ',H',I',q⟩:=q;exact h2 Ie s1 σ' H' D I' q
 | ret v=>exact q
 | brk=>exact q
 | cont=>exact q
def uy(h1:PS X st t):PSs X [st] t:=by
 intro Ie s σ H D I h;refine wpAny_execs_cons (thn (h1 Ie s σ H D I h) fun f s1 q=>?_)
 cases f with
 | next=>exact wpAny_execs_nil q
 | ret v=>exact q
 | brk=>exact q
 | cont=>exact q
def Inv.quiet{Ie:List (Addr × Obj)}{σ:St}{H:Hp}{s:Shared}(I:Inv X Ie σ H s):interactive X.env=false:=by simp[interactive,I.ok.kind]
def tDrop(te:TE):TS:=fun D σ H=>te σ H fun _ H1=>D.nx σ H1
def ps_expr(he:PE X e te)(hs:swapsWith e none pos.line X.env=pure false:=by rfl):PS X (.Expr e pos) (tDrop te):=by
 intro Ie s σ H D I h;exact wpAny_Expr_any (thn (he Ie s σ H _ I h) fun v s1 ⟨x,H1,I1,r1,q1⟩=>⟨σ,H1,I1,q1⟩) I.quiet hs
def tRet(te:TE):TS:=fun D σ H=>te σ H D.rt
def ps_ret(he:PE X e te):PS X (.Return (some e) pos) (tRet te):=by
 intro Ie s σ H D I h;exact wpAny_Return_some (thn (he Ie s σ H _ I h) fun v s1 ⟨x,H1,I1,r1,q1⟩=>⟨x,σ,H1,I1,r1,q1⟩)
def tIfS(c:TT)(t u:TS):TS:=fun D σ H=>c σ H fun b H1=>if b=true then t D σ H1 else u D σ H1
def ps_if(hc:PT X c tc)(ha:PSs X a t)(hb:PSs X b u):PS X (.If c a b pos) (tIfS tc t u):=by
 intro Ie s σ H D I h;refine wpAny_If (thn (hc Ie s σ H _ I h) fun d s1 ⟨H1,I1,q1⟩=>?_)
 cases d with
 | true=>exact ha Ie s1 σ H1 D I1 q1
 | false=>exact hb Ie s1 σ H1 D I1 q1
end
abbrev TG:=V->St->Hp->(St->Hp->Prop)->Prop
abbrev TGs:=List V->St->Hp->(St->Hp->Prop)->Prop
def PG(X:Cx)(target:Expr)(t:TG):Prop :=
 ∀(Ie:List (Addr × Obj)) (s:Shared) (σ:St) (H:Hp) (v:V) (u:Value) (Q:St->Hp->Prop),Inv X Ie σ H s->aX v u->t v σ H Q ->
  wpAny (model X.prog X.w) X.A (assign target X.env u) (fun _ s'=>SN X Ie Q s') X.xe s
def PGs(X:Cx)(ts:List Expr)(t:TGs):Prop :=
 ∀(Ie:List (Addr × Obj)) (s:Shared) (σ:St) (H:Hp) (vs:List V) (us:List Value) (Q:St->Hp->Prop),Inv X Ie σ H s->aB vs us->t vs σ H Q ->
  wpAny (model X.prog X.w) X.A (assignInOrder ((assignEach ts X.env).map (·.2)) us) (fun _ s'=>SN X Ie Q s') X.xe s
abbrev cW:=V->V->V->Hp->(Hp->Prop)->Prop
inductive SE (X:Cx) (Ie:List (Addr × Obj)) (σ:St) (Q:Hp->Prop) (s':Shared):Prop
 | mk (H':Hp) (i:Inv X Ie σ H' s') (q:Q H'):SE X Ie σ Q s'
def PSet(X:Cx)(t:cW):Prop :=
 ∀(Ie:List (Addr × Obj)) (s:Shared) (σ:St) (H:Hp) (o i v:V) (ov iv u:Value) (Q:Hp->Prop),Inv X Ie σ H s->aX o ov->aX i iv->aX v u->t o i v H Q ->
  wpAny (model X.prog X.w) X.A (setItem ov iv u) (fun _ s'=>SE X Ie σ Q s') X.xe s
section
variable {X:Cx} {pos:Pos}
def gName(i:Nat):TG:=fun v σ H Q=>Q (σ.set i (some v)) H
def u5(hN:X.N.Nodup)(hi:X.N[i]?=some x)(hx:Loc X.env.scope x)(hf:X.fn x=true\/X.env.scope.names.lookup x=some .local:=by first | exact .inl rfl | exact .inr rfl | assumption):PG X (.Name x pos) (gName i):=by
 intro Ie s σ H v u Q I r h;exact wpAny_assign_Name (mE I hN hi hx r (fun s' I'=>⟨_,H,I',h⟩) hf)
def gNil:TGs:=fun vs σ H Q=>vs=[]/\Q σ H
def gCons(t:TG)(u:TGs):TGs:=fun vs σ H Q=>∃v r,vs=v::r/\t v σ H fun σ' H'=>u r σ' H' Q
def pgs_nil:PGs X [] gNil:=by
 intro Ie s σ H vs us Q I r h;obtain⟨e,h⟩:=h;subst e;cases r;exact assignInOrder_nil ⟨σ,H,I,h⟩
def zb(h1:PG X e t)(h2:PGs X es u)
  (hs:(assignEach (e::es) X.env).map (·.2)=assign e X.env::(assignEach es X.env).map (·.2):=by rfl):PGs X (e::es) (gCons t u):=by
 intro Ie s σ H vs us Q I r h;obtain⟨v,vr,e1,h⟩:=h;subst e1
 cases r with
 | cons r rr =>
  rw[hs];refine assignInOrder_cons (thn (h1 Ie s σ H _ _ _ I r h) fun _ s1 ⟨σ1,H1,I1,q1⟩=>?_);exact h2 Ie s1 σ1 H1 _ _ Q I1 rr q1
def gTup(K:qab)(n:Nat)(t:TGs):TG:=fun v σ H Q=>∃a xs,v=.ref a/\SqT K H a xs/\xs.length=n/\t xs σ H Q
def pg_tup{es:List Expr}{k:Nat}{t:TGs}{n:Nat}(hc:X.calm=true)(h:PGs X es t)
  (hn:(assignEach es X.env).length=n:=by rfl) (hst:(assignEach es X.env).findIdx? (·.1)=none:=by rfl):PG X (.Tuple es k pos) (gTup X.K n t):=by
 intro Ie s σ H v u Q I r hw;obtain⟨a,xs,e1,hq,hl,hw⟩:=hw;subst e1;cases r;obtain⟨its,rv,ht,hz⟩:=I.tuple hq;refine assign_Tuple_tuple (I.ok.hd hc) ht (by simp[hn,<-hl,rv.length]) hst fun h' hx=>?_;have I1:Inv X Ie σ H { s with heap:=h'}:=I.kept (t':=s.toks) fun b o e=>hx b o (qaG (qap e)) e;exact h Ie _ σ H xs _ Q I1 (by simpa using rv) hw
def gSub(to ti:TE)(t:cW):TG:=fun v σ H Q=>to σ H fun o H1=>ti σ H1 fun i H2=>t o i v H2 fun H3=>Q σ H3
def pg_sub(ho:PE X o to)(hi:PE X i ti)(hs:PSet X t)
  (ha:∀v,assign (.Subscript o i pos) X.env v=(do
   let ov <-holding [v] (eval o X.env)
   let iv <-holding [v,ov] (eval i X.env)
   standAt pos
   holding [v,ov,iv] (setItem ov iv v)
   release [v,ov,iv] []):=by intro _;rfl):PG X (.Subscript o i pos) (gSub to ti t):=by
 intro Ie s σ H v u Q I r h;rw[ha];refine qaa (wpAny_holding (thn (ho Ie s σ H _ I h) fun ov s1 ⟨x,H1,I1,r1,q1⟩=>?_));refine qaa (wpAny_holding (thn (hi Ie s1 σ H1 _ I1 q1) fun iv s2 ⟨y,H2,I2,r2,q2⟩=>?_));refine qaa (wpAny_standAt (qaa (wpAny_holding (thn (hs Ie s2 σ H2 x y v ov iv u _ I2 r1 r2 r q2) fun _ s3 ⟨H3,I3,q3⟩=>?_))));exact wpAny_release ⟨σ,H3,I3,q3⟩
def tAsg(te:TE)(g:TG):TS:=fun D σ H=>te σ H fun x H1=>g x σ H1 D.nx
def ps_asg(he:PE X e te)(hg:PG X tg g)(hs:swapsWithSole [tg] e pos.line X.env=pure false:=by rfl)(hw:swappedStores [tg] e X.env=pure none:=by rfl)
  (h1:(assignEach [tg] X.env).map (·.2)=[assign tg X.env]:=by rfl):PS X (.Assign [tg] e pos) (tAsg te g):=by
 intro Ie s σ H D I h;refine wpAny_Assign_stores (thn (he Ie s σ H _ I h) fun v s1 ⟨x,H1,I1,r1,q1⟩=>?_) hs hw;rw[h1];exact thn (hg Ie s1 σ H1 x v _ I1 r1 q1) fun _ s2 q=>q
def yq(hN:X.N.Nodup)(hi:X.N[i]?=some x)(hx:Loc X.env.scope x)(he:PE X e te)(hs:swapsWith e (some (.Name x pos')) pos.line X.env=pure false:=by rfl)(hf:X.fn x=true\/X.env.scope.names.lookup x=some .local:=by first | exact .inl rfl | exact .inr rfl | assumption) :
  PS X (.Assign [.Name x pos'] e pos) (tAsg te (gName i)):=by
 intro Ie s σ H D I h;refine wpAny_Assign_Name (thn (he Ie s σ H _ I h) fun v s1 ⟨y,H1,I1,r1,q1⟩=>?_) hs;exact mE I1 hN hi hx r1 (fun s2 I2=>⟨_,H1,I2,q1⟩) hf
end
structure It where
 go:Nat->Hp->Prop
 yld:Nat->Hp->V->Hp->Prop
 stop:Nat->Hp->Prop
def ig(X:Cx)(Ie:List (Addr × Obj))(H:Hp)(b:Addr):Prop :=
 H b=none/\b≠X.env.locals/\b∉X.fs/\(b∈X.ex\/X.s₀.heap.objs.size<=b)/\(∀x c,X.env.cells.lookup x=some c->c≠b)/\∀p∈X.pn++Ie,p.1≠b
def Inv.fpOk{X:Cx}{Ie:List (Addr × Obj)}{σ:St}{H H':Hp}{s:Shared}{b:Addr}(I:Inv X Ie σ H s)(hb:s.heap.objs.size<=b)(hn:H' b=none):ig X Ie H' b:=by
 refine⟨hn,qbE (qav I.lt hb),I.nofs hb,.inr (qaw I.sz hb),fun x c e z=>?_,fun p hp z=>?_⟩
 ·obtain⟨v,q⟩:=I.cell x c e;exact absurd (qav q.lt (by rw[z];exact hb)) (qaU _)
 ·exact absurd (qav (qap (I.pin p hp).1) (by rw[z];exact hb)) (qaU _)
inductive TIt (X:Cx) (Ie:List (Addr × Obj)) (σ:St) (u:Value) (Y:V->Hp->Prop) (n:Heap->Prop) (fp:List Addr) (s2:Shared):Prop
 | mk (x:V) (H':Hp) (i:Inv X Ie σ H' s2) (r:aX x u) (y:Y x H') (t:n s2.heap) (f:∀b∈fp,H' b=none):TIt X Ie σ u Y n fp s2
structure Turn (P:Program) (w:World) (K:qab) (tg:Expr) (J:It) (fp:List Addr) (it:Addr) (tn:Nat->Heap->Prop):Prop where
 mem:it∈fp
 obj:∀i h,tn i h->∀b∈fp,∃o,h.get? b=some o/\∀v,o.data≠.cell v
 keep:∀i h h',tn i h->(∀b∈fp,∀o,h.get? b=some o->h'.get? b=some o)->tn i h'
 item:∀(X:Cx),X.prog=P->X.w=w->X.K=K->X.calm=true->∀(i:Nat) (Ie:List (Addr × Obj)) (s:Shared) (σ:St) (H:Hp) (E:Value->Shared->Prop),Inv X Ie σ H s->(∀b∈fp,ig X Ie H b)->tn i s.heap->J.go i H ->
  wpAny (model P w) X.A (pyNext (.ref it)) (fun r s1=>∃u,r=some u /\
   wpAny (model P w) X.A (letOwnedTupleGo tg (.ref it) u) (fun _ s2=>TIt X Ie σ u (J.yld i H) (tn (i+1)) fp s2) E s1) E s
 done:∀(X:Cx),X.prog=P->X.w=w->X.K=K->X.calm=true->∀(i:Nat) (Ie:List (Addr × Obj)) (s:Shared) (σ:St) (H:Hp) (E:Value->Shared->Prop),Inv X Ie σ H s->(∀b∈fp,ig X Ie H b)->tn i s.heap->J.stop i H ->
  wpAny (model P w) X.A (pyNext (.ref it)) (fun r s1=>r=none/\Inv X Ie σ H s1) E s
 self:∀(A:Around) (i:Nat) (s:Shared) (Q:Value->Shared->Prop) (E:Value->Shared->Prop),tn i s.heap->Q (.ref it) s->wpAny (model P w) A (pyIter (.ref it)) Q E s
abbrev TI:=St->Hp->(It->Hp->Prop)->Prop
inductive PIE (X:Cx) (Ie:List (Addr × Obj)) (σ:St) (tg:Expr) (R:It->Hp->Prop) (itv:Value) (s2:Shared):Prop
 | mk (it:Addr) (fp:List Addr) (tn:Nat->Heap->Prop) (J:It) (H':Hp) (e:itv=.ref it) (i:Inv X Ie σ H' s2) (t:Turn X.prog X.w X.K tg J fp it tn) (n:tn 0 s2.heap) (f:∀b∈fp,ig X Ie H' b) (r:R J H'):PIE X Ie σ tg R itv s2
def PI(X:Cx)(tg iter:Expr)(wi:TI):Prop :=
 ∀(Ie:List (Addr × Obj)) (s:Shared) (σ:St) (H:Hp) (R:It->Hp->Prop),Inv X Ie σ H s->wi σ H R ->
  wpAny (model X.prog X.w) X.A (eval iter X.env) (fun v s1=>wpAny (model X.prog X.w) X.A (pyIter v) (PIE X Ie σ tg R) X.xe s1) X.xe s
def ww(ho:s.heap.get? it=some o)(hc:o.cls=.type n)(hd:o.data=.fields vs)
  (hn:["enumerate","zip","dict_itemiterator","dict_reverseitemiterator","odict_iterator","itertools.zip_longest","itertools.pairwise"].contains n=false) (hQ:Q () s):wpAny M A (letOwnedTupleGo tg (.ref it) u) Q E s:=by
 unfold letOwnedTupleGo;cases tg <;> first
  | exact qae hQ
  | (cases u <;> first
    | exact qae hQ
    | (refine qaa (wpAny_load ho ?_)
       rw[hc,hd];show wpAny M A (if (["enumerate","zip","dict_itemiterator","dict_reverseitemiterator","odict_iterator","itertools.zip_longest","itertools.pairwise"].contains n && vs[0]? == some (rawInt _))=true then _ else _) Q E s;rw[qal (by intro h;rw[hn,Bool.false_and] at h;cases h)]
       exact qae hQ))
def Itl(K:qab)(a:Addr):It :=
 ⟨fun i H=>∃xs x,SqL K H a xs/\xs[i]?=some x,fun i H x H'=>H'=H/\∀xs,SqL K H a xs->xs[i]?=some x,fun i H=>∃xs,SqL K H a xs/\xs.length<=i⟩
def Itt(K:qab)(a:Addr):It :=
 ⟨fun i H=>∃xs x,SqT K H a xs/\xs[i]?=some x,fun i H x H'=>H'=H/\∀xs,SqT K H a xs->xs[i]?=some x,fun i H=>∃xs,SqT K H a xs/\xs.length<=i⟩
def Itr(lo:Int)(n:Nat):It:=⟨fun i _=>i<n,fun i H x H'=>H'=H/\x=.int (lo+i),fun i _=>n<=i⟩
def xU{P:Program}{w:World}{K:qab}{tg:Expr}(a it:Addr):Turn P w K tg (Itl K a) [it] it (fun i h=>h.IsListIter it a i) where
 mem:=by simp
 obj:=fun i h st b hb=>by
  have e:b=it:=by simpa using hb
  subst e;obtain⟨o,e,c,d⟩:=st;exact⟨o,e,fun v z=>by rw[d] at z;cases z⟩
 keep:=fun i h h' st k=>st.at fun o e=>k it (by simp) o e
 item:=by
  intro X hP hw hK hc i Ie s σ H E I hf st hg;subst hP hw hK;obtain⟨xs,x,hq,hx⟩:=hg;obtain⟨its,rv,p,hz⟩:=I.list hq;obtain⟨u,hu,ru⟩:=rv.get hx;obtain⟨f0,f1,f2,f3,f4,f5⟩:=hf it (by simp);refine wpAny_pyNext_list_item st p.isList (x:=u) (by simpa using hu) fun h' st' sb=>?_;have I1:Inv X Ie σ H { s with heap:=h'}:=I.turned (t':=s.toks) (fun b o hb e=>(sb.2 b hb).trans e) f0 f1 f3 f4 f5;obtain⟨o,e,c,d⟩:=id st';exact⟨u,rfl,ww (s:={ s with heap:=h'}) e c d (by decide) ⟨x,H,I1,ru,⟨rfl,fun ys hy=>by rw[I.list_inj hy hq];exact hx⟩,st',fun b hb=>(hf b hb).1⟩⟩
 done:=by
  intro X hP hw hK hc i Ie s σ H E I hf st hg;subst hP hw hK;obtain⟨xs,hq,hx⟩:=hg;obtain⟨its,rv,p,hz⟩:=I.list hq;obtain⟨f0,f1,f2,f3,f4,f5⟩:=hf it (by simp);have hl:=rv.length;exact wpAny_pyNext_list_end (I.ok.hd hc) st p.isList (by simp;ext) fun h' eb=>⟨rfl,I.turned (t':=s.toks) (fun b o hb e=>eb b o hb e) f0 f1 f3 f4 f5⟩
 self:=fun _ _ _ _ _ st h=>wpAny_pyIter_listiter st h
def v7{P:Program}{w:World}{K:qab}{tg:Expr}(a it:Addr):Turn P w K tg (Itt K a) [it] it (fun i h=>h.IsTupleIter it a i) where
 mem:=by simp
 obj:=fun i h st b hb=>by
  have e:b=it:=by simpa using hb
  subst e;obtain⟨o,e,c,d⟩:=st;exact⟨o,e,fun v z=>by rw[d] at z;cases z⟩
 keep:=fun i h h' st k=>st.at fun o e=>k it (by simp) o e
 item:=by
  intro X hP hw hK hc i Ie s σ H E I hf st hg;subst hP hw hK;obtain⟨xs,x,hq,hx⟩:=hg;obtain⟨its,rv,p,hz⟩:=I.tuple hq;obtain⟨u,hu,ru⟩:=rv.get hx;obtain⟨f0,f1,f2,f3,f4,f5⟩:=hf it (by simp);refine wpAny_pyNext_tuple_item st (show s.heap.IsTuple a its.toArray from p) (x:=u) (by simpa using hu) fun h' st' sb=>?_;have I1:Inv X Ie σ H { s with heap:=h'}:=I.turned (t':=s.toks) (fun b o hb e=>(sb.2 b hb).trans e) f0 f1 f3 f4 f5;obtain⟨o,e,c,d⟩:=id st';exact⟨u,rfl,ww (s:={ s with heap:=h'}) e c d (by decide) ⟨x,H,I1,ru,⟨rfl,fun ys hy=>by rw[I.tuple_inj hy hq];exact hx⟩,st',fun b hb=>(hf b hb).1⟩⟩
 done:=by
  intro X hP hw hK hc i Ie s σ H E I hf st hg;subst hP hw hK;obtain⟨xs,hq,hx⟩:=hg;obtain⟨its,rv,p,hz⟩:=I.tuple hq;obtain⟨f0,f1,f2,f3,f4,f5⟩:=hf it (by simp);have hl:=rv.length;exact wpAny_pyNext_tuple_end (I.ok.hd hc) st (show s.heap.IsTuple a its.toArray from p) (by simp;ext) fun h' eb=>⟨rfl,I.turned (t':=s.toks) (fun b o hb e=>eb b o hb e) f0 f1 f3 f4 f5⟩
 self:=fun _ _ _ _ _ st h=>wpAny_pyIter_tupleiter st h
def vN{P:Program}{w:World}{K:qab}{tg:Expr}(it:Addr)(lo:Int)(n:Nat):Turn P w K tg (Itr lo n) [it] it (fun i h=>IsRangeIter h it (lo+(i:Nat) * 1) ((n:Int) - (i:Nat)) 1) where
 mem:=by simp
 obj:=fun i h st b hb=>by
  have e:b=it:=by simpa using hb
  subst e
  exact⟨_,st,fun v z=>by
   have z':Data.fields _=Data.cell v:=z
   cases z'⟩
 keep:=fun i h h' st k=>k it (by simp) _ st
 item:=by
  intro X hP hw hK hc i Ie s σ H E I hf st hg;subst hP hw hK;obtain⟨f0,f1,f2,f3,f4,f5⟩:=hf it (by simp);have W:=Walks.range (prog:=X.prog) (w:=X.w) (I.ok.hd hc) it lo 1 n;refine W.item i s _ _ hg st fun v h' tk hv st' kk=>?_;obtain⟨t,rfl⟩:=hv;have I1:Inv X Ie σ H { s with heap:=h',toks:=tk}:=I.turned (fun b o hb e=>kk b o (by simpa using hb) e) f0 f1 f3 f4 f5;refine⟨_,rfl,ww (s:={ s with heap:=h',toks:=tk}) (n:="range_iterator") st' rfl rfl (by decide) ⟨.int (lo+i),H,I1,⟨t,?_⟩,⟨rfl,rfl⟩,st',fun b hb=>(hf b hb).1⟩⟩;rw[Int.mul_one]
 done:=by
  intro X hP hw hK hc i Ie s σ H E I hf st hg;subst hP hw hK;obtain⟨f0,f1,f2,f3,f4,f5⟩:=hf it (by simp);exact wpAny_pyNext_range_end (I.ok.hd hc) st (by have:n<=i:=hg;ext) fun h' eb=>⟨rfl,I.turned (t':=s.toks) (fun b o hb e=>eb b o hb e) f0 f1 f3 f4 f5⟩
 self:=fun _ _ _ _ _ st h=>wpAny_pyIter_rangeiter st h
section
variable {X:Cx} {tg:Expr}
def iList(K:qab)(tl:TE):TI:=fun σ H R=>tl σ H fun x H1=>∃a,x=.ref a/\(∃xs,SqL K H1 a xs)/\R (Itl K a) H1
def iTup(K:qab)(tl:TE):TI:=fun σ H R=>tl σ H fun x H1=>∃a,x=.ref a/\(∃xs,SqT K H1 a xs)/\R (Itt K a) H1
def pi_list{l:Expr}{tl:TE}(hl:PE X l tl):PI X tg l (iList X.K tl):=by
 intro Ie s σ H R I h;refine thn (hl Ie s σ H _ I h) fun v s1 ⟨x,H1,I1,r1,q1⟩=>?_;obtain⟨a,e,⟨xs,hq⟩,q⟩:=q1;subst e;cases r1;obtain⟨its,rv,p,hz⟩:=I1.list hq;refine wpAny_pyIter_list p.isList ?_;refine⟨s1.heap.objs.size,[s1.heap.objs.size],_,_,H1,rfl,I1.kept (t':=s1.toks) fun b o e=>qad _ e,xU a _,⟨_,qar _ rfl,rfl,rfl⟩,fun b hb=>?_,q⟩;have e:b=s1.heap.objs.size:=by simpa using hb
 subst e;exact I1.fpOk (qah _) (I1.hok.fresh (qah _))
def pi_tup{l:Expr}{tl:TE}(hl:PE X l tl):PI X tg l (iTup X.K tl):=by
 intro Ie s σ H R I h;refine thn (hl Ie s σ H _ I h) fun v s1 ⟨x,H1,I1,r1,q1⟩=>?_;obtain⟨a,e,⟨xs,hq⟩,q⟩:=q1;subst e;cases r1;obtain⟨its,rv,p,hz⟩:=I1.tuple hq;refine wpAny_pyIter_tuple (show s1.heap.IsTuple a its.toArray from p) ?_;refine⟨s1.heap.objs.size,[s1.heap.objs.size],_,_,H1,rfl,I1.kept (t':=s1.toks) fun b o e=>qad _ e,v7 a _,⟨_,qar _ rfl,rfl,rfl⟩,fun b hb=>?_,q⟩;have e:b=s1.heap.objs.size:=by simpa using hb
 subst e;exact I1.fpOk (qah _) (I1.hok.fresh (qah _))
def sR{Ie:List (Addr × Obj)}{σ:St}{H:Hp}{s:Shared}{R:It->Hp->Prop}{E:Value->Shared->Prop}{lo hi:Int}{t u v:Tok}{tk:Nat}(I:Inv X Ie σ H s)(h1:-(2 ^ 62)<=lo)(h2:lo<2 ^ 62)(h3:-(2 ^ 62)<=hi)(h4:hi<2 ^ 62)
  (q:R (Itr lo (hi - lo).toNat) H):wpAny (model X.prog X.w) X.A (pyIter (.ref s.heap.objs.size)) (PIE X Ie σ tg R) E { s with heap:=s.heap.push { cls:=.type "range",data:=.fields #[.int lo t,.int hi u,.int 1 v]},toks:=tk}:=by
 refine wpAny_pyIter_range (IsRange.new ..) (small_one h1 h2 h3 h4) ?_;have I1:Inv X Ie σ H { s with heap:=s.heap.push { cls:=.type "range",data:=.fields #[.int lo t,.int hi u,.int 1 v]},toks:=tk}:=I.kept fun b o e=>qad _ e
 refine⟨(s.heap.push { cls:=.type "range",data:=.fields #[.int lo t,.int hi u,.int 1 v]}).objs.size,[(s.heap.push { cls:=.type "range",data:=.fields #[.int lo t,.int hi u,.int 1 v]}).objs.size],_,_,H,rfl,
  I1.kept (t':=tk) fun b o e=>qad _ e,vN _ lo (hi - lo).toNat,?_,fun b hb=>?_,q⟩
 ·have e1:lo+((0:Nat):Int) * 1=lo:=by simp
  have e2:(((hi - lo).toNat:Nat):Int) - ((0:Nat):Int)=Builtin.Range.rangeSize lo hi 1:=by rw[rangeSize_one];split <;> ext
  show IsRangeIter _ _ (lo+((0:Nat):Int) * 1) ((((hi - lo).toNat:Nat):Int) - ((0:Nat):Int)) 1;rw[e1,e2];exact qar _ rfl
 ·have e:b=(s.heap.push { cls:=.type "range",data:=.fields #[.int lo t,.int hi u,.int 1 v]}).objs.size:=by simpa using hb
  subst e;exact I1.fpOk (qah _) (I1.hok.fresh (qah _))
def iRng1(ta:TA):TI:=fun σ H R=>ta σ H fun vs H1=>∃j:Int,vs=[.int j] /\ -(2 ^ 62)<=j/\j<2 ^ 62/\R (Itr 0 j.toNat) H1
def iRng2(ta:TA):TI:=fun σ H R=>ta σ H fun vs H1=>∃i j:Int,vs=[.int i,.int j]/\(-(2 ^ 62)<=i/\i<2 ^ 62 /\ -(2 ^ 62)<=j/\j<2 ^ 62)/\R (Itr i (j - i).toNat) H1
def xn{a:Expr}{ta:TA}{p pos:Pos}(hg:Gl X "range")(hm:X.mg "range"=none)(ha:PA X [a] ta)(hs:starEach [a] X.env=[(false,eval a X.env)]:=by rfl):PI X tg (.Call (.Name "range" p) [a] [] pos) (iRng1 ta):=by
 intro Ie s σ H R I h;refine Call_ (gF I hg hm boot_range (PyProof.Rows.callWith_type1 (thn (ha pos Ie s σ H _ I h) fun us s1 ⟨vs,H1,I1,r1,q1⟩=>?_) hs rfl));obtain⟨j,e,q1,q2,q⟩:=q1;subst e
 cases r1 with
 | cons r rr =>
  cases rr;obtain⟨t,rfl⟩:=r;exact call_range_1 (sR I1 (by ext) (by ext) q1 q2 (by simpa using q))
def wR{a b:Expr}{ta:TA}{p pos:Pos}(hg:Gl X "range")(hm:X.mg "range"=none)(ha:PA X [a,b] ta)(hs:starEach [a,b] X.env=[(false,eval a X.env),(false,eval b X.env)]:=by rfl)(hs2:starEach [b] X.env=[(false,eval b X.env)]:=by rfl) :
  PI X tg (.Call (.Name "range" p) [a,b] [] pos) (iRng2 ta):=by
 intro Ie s σ H R I h;refine Call_ (gF I hg hm boot_range (PyProof.Rows.callWith_type1 (thn (ha pos Ie s σ H _ I h) fun us s1 ⟨vs,H1,I1,r1,q1⟩=>?_) (by rw[hs,hs2]) (by rw[hs2];rfl)));obtain⟨i,j,e,⟨q1,q2,q3,q4⟩,q⟩:=q1;subst e
 cases r1 with
 | cons r rr =>
  cases rr with
  | cons r' rr =>
   cases rr;obtain⟨t,rfl⟩:=r;obtain⟨t',rfl⟩:=r';exact call_range_2 (sR I1 q1 q2 q3 q4 q)
def tFor(wi:TI)(g:TG)(tb:TS):TS:=fun D σ H=>wi σ H fun J H1=>∃W:Nat->Nat->St->Hp->Prop,(∃m,W 0 m σ H1)/\∀i m σ H,W i m σ H ->
 (J.stop i H/\D.nx σ H)\/(J.go i H/\∃N:St->Hp->Prop,(∀σ' H',N σ' H'->∃m',m'<m/\W (i+1) m' σ' H')/\∀x H',J.yld i H x H'->g x σ H' fun σ2 H2=>tb { D with nx:=N,ct:=N,bk:=D.nx} σ2 H2)
def kG(fp:List Addr)(h:Heap):List (Addr × Obj):=fp.filterMap fun b=>(h.get? b).map fun o=>(b,o)
def fP(hb:b∈fp)(e:h.get? b=some o):(b,o)∈kG fp h:=qbJ.mpr ⟨b,hb,by rw[e];rfl⟩
def xa(hp:p∈kG fp h):p.1∈fp/\h.get? p.1=some p.2:=by
 obtain⟨b,hb,e⟩:=qbJ.mp hp
 cases q:h.get? b with
 | none=>rw[q] at e;cases e
 | some o =>
  rw[q] at e;have e':(b,o)=p:=Option.some.inj e;subst e';exact⟨hb,q⟩
def Inv.pinned{Ie:List (Addr × Obj)}{σ:St}{H:Hp}{s:Shared}{fp:List Addr}(I:Inv X Ie σ H s)(hf:∀b∈fp,ig X Ie H b)(ho:∀b∈fp,∃o,s.heap.get? b=some o/\∀v,o.data≠.cell v):Inv X (Ie++kG fp s.heap) σ H s :=
 I.pins_of fun p hp=>(qau.mp hp).elim (fun z=>I.pin p (qaf _ z)) fun z=>by
  obtain⟨hb,e⟩:=xa z;obtain⟨f0,f1,f2,_⟩:=hf p.1 hb;obtain⟨o,e',d⟩:=ho p.1 hb;rw[e] at e';cases e';exact⟨e,f0,f1,f2,d⟩
def Inv.unpinned{Ie pl:List (Addr × Obj)}{σ:St}{H:Hp}{s:Shared}(I:Inv X (Ie++pl) σ H s):Inv X Ie σ H s:=I.pins_of fun p hp=>I.pin p (qaf _ (qaC _ hp))
def ps_for(hp:PassesOwn (model X.prog X.w) X.A X.env X.xe)(hc:X.calm=true)(hi:PI X tg iter wi)(hg:PG X tg g)(hb:PSs X body tb)
  (hs:∀x,foldedSetIterable iter X.env x=pure x:=by intro _;rfl):PS X (.For tg iter body [] pos) (tFor wi g tb):=by
 intro Ie s σ H D I h;refine wpAny_For (thn (hi Ie s σ H _ I h) fun v s1 h1=>thn h1 fun itv s2 h2=>?_) hs;obtain⟨it,fp,tn,J,H2,e,I2,T,st2,f2,W,⟨m0,w0⟩,turn⟩:=h2;subst e;have stat:∀{H':Hp},(∀b∈fp,H' b=none)->∀b∈fp,ig X Ie H' b:=fun hn b hb=>⟨hn b hb,(f2 b hb).2⟩;refine codeAny_forLoop_any (fun n s'=>∃i σ' H',Inv X Ie σ' H' s'/\tn i s'.heap/\(∀b∈fp,H' b=none)/\W i n σ' H') ?_ m0 ⟨0,σ,H2,I2,st2,fun b hb=>(f2 b hb).1,w0⟩;rintro n s3 ⟨i,σ3,H3,I3,st3,fr3,w3⟩;rcases turn i n σ3 H3 w3 with ⟨stop,qn⟩|⟨go,N,hN,step⟩
 ·refine wpAny_passesOwn hp (thn (T.done X rfl rfl rfl hc i Ie s3 σ3 H3 X.xe I3 (stat fr3) st3 stop) fun r s4 ⟨hr,I4⟩=>?_);subst hr;exact wpAny_execs_nil ⟨σ3,H3,I4,qn⟩
 ·refine wpAny_passesOwn hp (thn (T.item X rfl rfl rfl hc i Ie s3 σ3 H3 X.xe I3 (stat fr3) st3 go) fun r s4 ⟨u,hr,h4⟩=>?_);subst hr;refine wpAny_passesOwn hp (thn h4 fun _ s5 ⟨x,H5,I5,r5,y5,st5,fr5⟩=>?_);have I5':=I5.pinned (stat fr5) (T.obj _ _ st5);refine wpAny_passesOwn hp (thn (hg _ s5 σ3 H5 x u _ I5' r5 (step x H5 y5)) fun _ s6 ⟨σ6,H6,I6,q6⟩=>?_);refine wpAny_passesOwn hp (thn (hb _ s6 σ6 H6 _ I6 q6) fun f s7 q7=>?_);have again:∀{σ7:St} {H7:Hp},Inv X (Ie++kG fp s5.heap) σ7 H7 s7->N σ7 H7->∃m,m<n/\∃i σ' H',Inv X Ie σ' H' s7/\tn i s7.heap/\(∀b∈fp,H' b=none)/\W i m σ' H':=fun {σ7 H7} I7 n7=>by
   obtain⟨m',hm,w7⟩:=hN σ7 H7 n7;refine⟨m',hm,i+1,σ7,H7,I7.unpinned,T.keep _ _ _ st5 fun b hb o e=>(I7.pin (b,o) (qaf _ (qaf _ (fP hb e)))).1,fun b hb=>?_,w7⟩;obtain⟨o,e,d⟩:=T.obj _ _ st5 b hb;exact (I7.pin (b,o) (qaf _ (qaf _ (fP hb e)))).2.1
  cases f with
  | next=>obtain⟨σ7,H7,I7,n7⟩:=q7;exact again I7 n7
  | cont=>obtain⟨σ7,H7,I7,n7⟩:=q7;exact again I7 n7
  | brk=>obtain⟨σ7,H7,I7,q7⟩:=q7;exact⟨σ7,H7,I7.unpinned,q7⟩
  | ret v=>obtain⟨x7,σ7,H7,I7,r7,q7⟩:=q7;exact⟨x7,σ7,H7,I7.unpinned,r7,q7⟩
end
abbrev R2:=V->V->Hp->VK->Prop
def OpR(X:Cx)(f:Value->Value->Sem Value)(r:R2):Prop :=
 ∀(Ie:List (Addr × Obj)) (s:Shared) (σ:St) (H:Hp) (x y:V) (v u:Value) (Q:VK),Inv X Ie σ H s->aX x v->aX y u->r x y H Q ->
  wpAny (model X.prog X.w) X.A (f v u) (EP X Ie σ Q) X.xe s
def UnR(X:Cx)(f:Value->Sem Value)(r:V->Hp->VK->Prop):Prop :=
 ∀(Ie:List (Addr × Obj)) (s:Shared) (σ:St) (H:Hp) (x:V) (v:Value) (Q:VK),Inv X Ie σ H s->aX x v->r x H Q ->
  wpAny (model X.prog X.w) X.A (f v) (EP X Ie σ Q) X.xe s
def bZ(X:Cx)(f:Value)(r:List V->Hp->VK->Prop):Prop :=
 ∀(Ie:List (Addr × Obj)) (s:Shared) (σ:St) (H:Hp) (xs:List V) (us:List Value) (Q:VK),Inv X Ie σ H s->aB xs us->r xs H Q ->
  wpAny (model X.prog X.w) X.A (call f us) (EP X Ie σ Q) X.xe s
def TruR(X:Cx)(r:V->Hp->(Bool->Hp->Prop)->Prop):Prop :=
 ∀(Ie:List (Addr × Obj)) (s:Shared) (σ:St) (H:Hp) (x:V) (v:Value) (Q:Bool->Hp->Prop),Inv X Ie σ H s->aX x v->r x H Q ->
  wpAny (model X.prog X.w) X.A (truthy v) (TP X Ie σ Q) X.xe s
def tOp(r:R2)(ta tb:TE):TE:=fun σ H Q=>ta σ H fun x H1=>tb σ H1 fun y H2=>r x y H2 Q
def tUn(r:V->Hp->VK->Prop)(ta:TE):TE:=fun σ H Q=>ta σ H fun x H1=>r x H1 Q
def rI(C:Int->Int->Prop)(g:Int->Int->V):R2:=fun x y H Q=>∃i j,x=.int i/\y=.int j/\C i j/\Q (g i j) H
def rI0(g:Int->Int->V):R2:=fun x y H Q=>∃i j,x=.int i/\y=.int j/\Q (g i j) H
def rU(g:Int->V):V->Hp->VK->Prop:=fun x H Q=>∃i,x=.int i/\Q (g i) H
section
variable {X:Cx} {a b c:Expr} {ta tb tc:TE} {pos:Pos}
def binT(ha:PE X a ta)(hb:PE X b tb){Ie:List (Addr × Obj)}{s:Shared}{σ:St}{H:Hp}{R:V->V->Hp->Prop}(I:Inv X Ie σ H s)
  (h:ta σ H fun x H1=>tb σ H1 fun y H2=>R x y H2) {Q:Value->Shared->Prop} {f:Value->Value->Sem Value}
  (hf:∀v u s2 x y H2,Inv X Ie σ H2 s2->aX x v->aX y u->R x y H2->wpAny (model X.prog X.w) X.A (f v u) Q X.xe s2) :
  wpAny (model X.prog X.w) X.A (eval a X.env) (fun v s₁=>wpAny (model X.prog X.w) X.A (eval b X.env) (fun u s₂=>wpAny (model X.prog X.w) X.A (f v u) Q X.xe s₂) X.xe s₁) X.xe s:=by
 refine thn (ha Ie s σ H _ I h) fun v s1 ⟨x,H1,I1,r1,q1⟩=>?_;refine thn (hb Ie s1 σ H1 _ I1 q1) fun u s2 ⟨y,H2,I2,r2,q2⟩=>?_;exact hf v u s2 x y H2 I2 r1 r2 q2
def pe_op{op:Operator}{r:R2}(ho:OpR X (binaryOp op) r)(ha:PE X a ta)(hb:PE X b tb):PE X (.BinOp a op b pos) (tOp r ta tb):=by
 intro Ie s σ H Q I h;exact wpAny_BinOp (binT ha hb I h fun v u s2 x y H2 I2 rx ry q=>ho Ie s2 σ H2 x y v u Q I2 rx ry q)
def pe_un(ho:UnR X (unaryOp op) r)(ha:PE X a ta):PE X (.UnaryOp op a pos) (tUn r ta):=by
 intro Ie s σ H Q I h;exact UnaryOp_ (thn (ha Ie s σ H _ I h) fun v s1 ⟨x,H1,I1,r1,q1⟩=>ho Ie s1 σ H1 x v Q I1 r1 q1)
def opI{f:Value->Value->Sem Value}{C:Int->Int->Prop}{g:Int->Int->Int}
  (rule:∀(i j:Int) (t u:Tok) (s:Shared) (Q:Value->Shared->Prop) (E:Value->Shared->Prop),C i j->Q (.int (g i j) s.toks) { s with toks:=s.toks+1}->wpAny (model X.prog X.w) X.A (f (.int i t) (.int j u)) Q E s) :
  OpR X f (rI C fun i j=>.int (g i j)):=by
 intro Ie s σ H x y v u Q I rx ry h;obtain⟨i,j,rfl,rfl,hc,q⟩:=h;obtain⟨t,rfl⟩:=rx;obtain⟨t',rfl⟩:=ry;exact rule i j t t' s _ _ hc ⟨.int (g i j),H,I.tok _,⟨_,rfl⟩,q⟩
def opI0{f:Value->Value->Sem Value}{g:Int->Int->Int}
  (rule:∀(i j:Int) (t u:Tok) (s:Shared) (Q:Value->Shared->Prop) (E:Value->Shared->Prop),Q (.int (g i j) s.toks) { s with toks:=s.toks+1}->wpAny (model X.prog X.w) X.A (f (.int i t) (.int j u)) Q E s) :
  OpR X f (rI0 fun i j=>.int (g i j)):=by
 intro Ie s σ H x y v u Q I rx ry h;obtain⟨i,j,rfl,rfl,q⟩:=h;obtain⟨t,rfl⟩:=rx;obtain⟨t',rfl⟩:=ry;exact rule i j t t' s _ _ ⟨.int (g i j),H,I.tok _,⟨_,rfl⟩,q⟩
def opB0{f:Value->Value->Sem Value}{g:Int->Int->Bool}
  (rule:∀(i j:Int) (t u:Tok) (s:Shared) (Q:Value->Shared->Prop) (E:Value->Shared->Prop),Q (.bool (g i j)) s->wpAny (model X.prog X.w) X.A (f (.int i t) (.int j u)) Q E s) :
  OpR X f (rI0 fun i j=>.bl (g i j)):=by
 intro Ie s σ H x y v u Q I rx ry h;obtain⟨i,j,rfl,rfl,q⟩:=h;obtain⟨t,rfl⟩:=rx;obtain⟨t',rfl⟩:=ry;exact rule i j t t' s _ _ ⟨.bl (g i j),H,I,rfl,q⟩
def eK(i j:Int):Prop:=0<=j/\j<=1000000/\i.natAbs<2 ^ 64
def op_add:OpR X (binaryOp .Add) (rI0 fun i j=>.int (i+j)):=opI0 fun _ _ _ _ _ _ _ q=>add_int q
def op_sub:OpR X (binaryOp .Sub) (rI0 fun i j=>.int (i - j)):=opI0 fun _ _ _ _ _ _ _ q=>sub_int q
def op_pow:OpR X (binaryOp .Pow) (rI eK fun i j=>.int (i ^ j.toNat)):=opI fun _ _ _ _ _ _ _ hc q=>pow_int_small hc.1 hc.2.1 hc.2.2 q
def unI{f:Value->Sem Value}{g:Int->Int}
  (rule:∀(i:Int) (t:Tok) (s:Shared) (Q:Value->Shared->Prop) (E:Value->Shared->Prop),Q (.int (g i) s.toks) { s with toks:=s.toks+1}->wpAny (model X.prog X.w) X.A (f (.int i t)) Q E s) :
  UnR X f (rU fun i=>.int (g i)):=by
 intro Ie s σ H x v Q I rx h;obtain⟨i,rfl,q⟩:=h;obtain⟨t,rfl⟩:=rx;exact rule i t s _ _ ⟨.int (g i),H,I.tok _,⟨_,rfl⟩,q⟩
def un_neg:UnR X (unaryOp .USub) (rU fun i=>.int (-i)):=unI fun _ _ _ _ _ q=>neg_int q
def fin_bl{Ie:List (Addr × Obj)}{σ:St}{H:Hp}{s:Shared}{Q:VK}{k k':Bool}(I:Inv X Ie σ H s)(q:Q (.bl k) H)(e:k=k'):EP X Ie σ Q (.bool k') s:=by
 subst e;exact⟨.bl k,H,I,rfl,q⟩
def op_lt:OpR X (compareOp .Lt) (rI0 fun i j=>.bl (decide (i<j))):=opB0 fun _ _ _ _ _ _ _ q=>lt_int q
def op_le:OpR X (compareOp .LtE) (rI0 fun i j=>.bl (decide (i<=j))):=opB0 fun _ _ _ _ _ _ _ q=>le_int q
def op_gt:OpR X (compareOp .Gt) (rI0 fun i j=>.bl (decide (j<i))):=opB0 fun _ _ _ _ _ _ _ q=>gt_int q
def op_ge:OpR X (compareOp .GtE) (rI0 fun i j=>.bl (decide (j<=i))):=opB0 fun _ _ _ _ _ _ _ q=>ge_int q
def op_isN:OpR X (compareOp .Is) (fun x y H Q=>y=.non/\Q (.bl (decide (x=.non))) H):=by
 intro Ie s σ H x y v u Q I rx ry h;obtain⟨rfl,q⟩:=h;cases ry;refine is_none_gen (fin_bl I q ?_);cases x <;> first
  | (cases rx;rfl)
  | (obtain⟨t,rfl⟩:=rx;rfl)
def nomark(b:Expr)(h:op≠.In:=by decide)(h2:op≠.NotIn:=by decide):behindInMarks op b=false:=by
 have e1:(op == CmpOp.In)=false:=by cases op <;> first | rfl | exact absurd rfl h
 have e2:(op == CmpOp.NotIn)=false:=by cases op <;> first | rfl | exact absurd rfl h2
 cases b <;> simp[behindInMarks,e1,e2]
def pe_cmpR{op:CmpOp}{r:R2}(ho:OpR X (compareOp op) r)(ha:PE X a ta)(hb:PE X b tb)(hm:behindInMarks op b=false):PE X (.Compare a [op] [b] pos) (tOp r ta tb):=by
 intro Ie s σ H Q I h;exact wpAny_Compare1 (binT ha hb I h fun v u s2 x y H2 I2 rx ry q=>ho Ie s2 σ H2 x y v u Q I2 rx ry q) hm
def tTest(t:TE):TT:=fun σ H Q=>t σ H fun x H'=>∃k,x=.bl k/\Q k H'
def pt_cmpR(ho:OpR X (compareOp op) r)(ha:PE X a ta)(hb:PE X b tb)(hm:behindInMarks op b=false):PT X (.Compare a [op] [b] pos) (tTest (tOp r ta tb)):=by
 intro Ie s σ H Q I h
 refine wpAny_isTrue_Compare1 (thn (ha Ie s σ H _ I h) fun v s1 ⟨x,H1,I1,r1,q1⟩=>thn (hb Ie s1 σ H1 _ I1 q1) fun u s2 ⟨y,H2,I2,r2,q2⟩ =>
  thn (ho Ie s2 σ H2 x y v u _ I2 r1 r2 q2) fun c s3 ⟨z,H3,I3,r3,k,e,q3⟩=>?_) hm
 subst e;cases r3;exact wpAny_truthy_bool ⟨H3,I3,q3⟩
def sK(r r':R2)(ta tb tc:TE):TE:=fun σ H Q=>ta σ H fun x H1=>tb σ H1 fun y H2=>r x y H2 fun z H3=>∃k,z=.bl k /\
 (if k=true then tc σ H3 fun w' H4=>r' y w' H4 Q else Q (.bl false) H3)
def zd(ho:OpR X (compareOp op) r)(ho':OpR X (compareOp op') r')(ha:PE X a ta)(hb:PE X b tb)(hc:PE X c tc)
  (hm:lastMarks [op,op'] [b,c]=false:=by with_unfolding_all rfl):PE X (.Compare a [op,op'] [b,c] pos) (sK r r' ta tb tc):=by
 intro Ie s σ H Q I h
 refine Compare_chain (thn (ha Ie s σ H _ I h) fun v s1 ⟨x,H1,I1,r1,q1⟩=>chain_link (thn (hb Ie s1 σ H1 _ I1 q1) fun u s2 ⟨y,H2,I2,r2,q2⟩ =>
  thn (ho Ie s2 σ H2 x y v u _ I2 r1 r2 q2) fun d s3 ⟨z,H3,I3,r3,k,e,q3⟩=>?_)) hm
 subst e;cases r3;refine wpAny_truthy_bool ?_
 cases k with
 | false=>exact ite_ff ⟨.bl false,H3,I3,rfl,q3⟩
 | true=>exact ite_tt (chain_last (thn (hc Ie s3 σ H3 _ I3 q3) fun w' s4 ⟨z',H4,I4,r4,q4⟩=>ho' Ie s4 σ H4 y z' u w' Q I4 r2 r4 q4))
def yH(ho:OpR X (compareOp op) r)(ho':OpR X (compareOp op') r')(ha:PE X a ta)(hb:PE X b tb)(hc:PE X c tc)
  (hm:lastMarks [op,op'] [b,c]=false:=by with_unfolding_all rfl):PT X (.Compare a [op,op'] [b,c] pos) (tTest (sK r r' ta tb tc)):=by
 intro Ie s σ H Q I h
 refine isTrue_chain (thn (ha Ie s σ H _ I h) fun v s1 ⟨x,H1,I1,r1,q1⟩=>test_link (thn (hb Ie s1 σ H1 _ I1 q1) fun u s2 ⟨y,H2,I2,r2,q2⟩ =>
  thn (ho Ie s2 σ H2 x y v u _ I2 r1 r2 q2) fun d s3 ⟨z,H3,I3,r3,k,e,q3⟩=>?_)) hm
 subst e;cases r3;refine wpAny_truthy_bool ?_
 cases k with
 | false =>
  obtain⟨k',e',q'⟩:=q3;cases e';exact ite_ff ⟨H3,I3,q'⟩
 | true =>
  refine ite_tt (test_last (thn (hc Ie s3 σ H3 _ I3 q3) fun w' s4 ⟨z',H4,I4,r4,q4⟩=>thn (ho' Ie s4 σ H4 y z' u w' _ I4 r2 r4 q4) fun d' s5 ⟨z2,H5,I5,r5,k2,e2,q5⟩=>?_));subst e2;cases r5;exact wpAny_truthy_bool ⟨H5,I5,q5⟩
def TruV(K:qab)(x:V)(H:Hp)(k:Bool):Prop :=
 match x with
 | .non=>k=false
 | .bl b=>k=b
 | .int i=>k=(i != 0)
 | .str y=>y.length<=sizeLine/\k=((y.length:Int) != 0)
 | .byt y=>y.size<=sizeLine/\k=((y.size:Int) != 0)
 | .ref p=>(∃xs,SqL K H p xs/\k=!xs.isEmpty)\/(∃xs,SqT K H p xs/\k=!xs.isEmpty)\/∃kvs,H p=some (.dK kvs)/\k=!kvs.isEmpty
 | _=>False
def wM{κ:Type}{kvs:List (κ × V)}{vs:List (κ × Value)}(r:KV kvs vs):(!vs.isEmpty)=!kvs.isEmpty:=by
 cases r <;> rfl
def nH(r:aB xs its):(!its.toArray.isEmpty)=!xs.isEmpty:=by
 cases r <;> simp
def iq:(sizeLine:Nat)<2 ^ 63:=by rw[sizeLine_eq];decide
def rH:TruR X (fun x H Q=>∃k,TruV X.K x H k/\Q k H):=by
 intro Ie s σ H x v Q I rx h;obtain⟨k,e,q⟩:=h;have hl:=iq;have hs:sizeLine=16777216:=sizeLine_eq
 cases x with
 | non =>
  cases rx;have e':k=false:=e;subst e';exact truthy_none ⟨H,I,q⟩
 | bl b =>
  cases rx;have e':k=b:=e;subst e';exact wpAny_truthy_bool ⟨H,I,q⟩
 | int i =>
  obtain⟨t,rfl⟩:=rx;have e':k=(i != 0):=e;subst e';exact PySem.P.truthy_int ⟨H,I,q⟩
 | str y =>
  obtain⟨t,rfl⟩:=rx;obtain⟨hy,e'⟩:y.length<=sizeLine/\k=((y.length:Int) != 0):=e;subst e';exact PySem.P.truthy_str (by ext) ⟨H,I.tok _,q⟩
 | byt y =>
  obtain⟨t,rfl⟩:=rx;obtain⟨hy,e'⟩:y.size<=sizeLine/\k=((y.size:Int) != 0):=e;subst e';exact PySem.W.truthy_bytes (by ext) ⟨H,I.tok _,q⟩
 | ref p =>
  cases rx;have e':(∃xs,SqL X.K H p xs/\k=!xs.isEmpty)\/(∃xs,SqT X.K H p xs/\k=!xs.isEmpty)\/∃kvs,H p=some (.dK kvs)/\k=!kvs.isEmpty:=e;rcases e' with ⟨xs,hx,e'⟩|⟨xs,hx,e'⟩|⟨kvs,hx,e'⟩
  ·subst e';obtain⟨its,r,pl,hz⟩:=I.list hx;have hlen:=r.length;exact wpAny_truthy_list pl.isList (by simp only[qak];ext) ⟨H,I.tok _,by rw[nH r];exact q⟩
  ·subst e';obtain⟨its,r,pl,hz⟩:=I.tuple hx;have hlen:=r.length;exact truthy_tuple pl (by simp only[qak];ext) ⟨H,I.tok _,by rw[nH r];exact q⟩
  ·subst e';obtain⟨hz,hS,vs,r,m⟩:kvs.length<=sizeLine/\(p == sysModules)=false/\∃vs,KV kvs vs/\s.heap.DictOf (iR X.prog X.w) p vs:=I.hok p _ hx;have hlen:kvs.length=vs.length:=Paired.length r;exact wpAny_truthy_dict hS m (by ext) ⟨H,I.tok _,by rw[wM r];exact q⟩
 | _=>exact (show False from e).elim
def zE(ha:PE X a ta)(he:∀whole,isTrue a X.env whole=(do let v <-whole;standAt a.pos;holding [v] (truthy v))) :
  PT X a (fun σ H Q=>ta σ H fun x H'=>∃k,TruV X.K x H' k/\Q k H'):=by
 intro Ie s σ H Q I h;exact isTrue_plain (thn (ha Ie s σ H _ I h) fun v s1 ⟨x,H1,I1,r1,q1⟩=>rH Ie s1 σ H1 x v Q I1 r1 q1) (he _)
def v5:OpR X (binaryOp .Add) (fun x y H Q=>∃i j,x=.str i/\y=.str j/\i.length+j.length<=sizeLine/\Q (.str (i++j)) H):=by
 intro Ie s σ H x y v u Q I rx ry h;obtain⟨i,j,rfl,rfl,hz,q⟩:=h;obtain⟨t,rfl⟩:=rx;obtain⟨t',rfl⟩:=ry;exact add_str (fun t' tk=>⟨.str (i++j),H,I.tok _,⟨_,rfl⟩,q⟩) hz
def eZ(r:aB [x] us):∃u,us=[u]/\aX x u:=by
 cases r with
 | cons r1 r2=>cases r2;exact⟨_,rfl,r1⟩
def vals2(r:aB [x,y] us):∃u w',us=[u,w']/\aX x u/\aX y w':=by
 cases r with
 | cons r1 r2 =>
  cases r2 with
  | cons r3 r4=>cases r4;exact⟨_,_,rfl,r1,r3⟩
def zV:bZ X (.builtin "abs") (fun xs H Q=>∃i,xs=[.int i]/\Q (.int (if i<0 then -i else i)) H):=by
 intro Ie s σ H xs us Q I r h;obtain⟨i,rfl,q⟩:=h;obtain⟨u,rfl,t,rfl⟩:=eZ r;exact call_abs_int fun u tk=>⟨.int (if i<0 then -i else i),H,I.tok _,⟨_,rfl⟩,q⟩
def o8(hc:X.calm=true):bZ X (.builtin "max") (fun xs H Q=>∃i j,xs=[.int i,.int j]/\Q (.int (if j>i then j else i)) H):=by
 intro Ie s σ H xs us Q I r h;obtain⟨i,j,rfl,q⟩:=h;obtain⟨u,w',rfl,⟨t,rfl⟩,⟨t',rfl⟩⟩:=vals2 r;refine max_two_ints (I.ok.hd hc) fun h' tk k=>⟨_,H,I.kept k,?_,q⟩;by_cases hj:j>i
 ·rw[qai hj,qai hj];exact⟨_,rfl⟩
 ·rw[qal hj,qal hj];exact⟨_,rfl⟩
def pC(hc:X.calm=true):bZ X (.builtin "min") (fun xs H Q=>∃i j,xs=[.int i,.int j]/\Q (.int (if j<i then j else i)) H):=by
 intro Ie s σ H xs us Q I r h;obtain⟨i,j,rfl,q⟩:=h;obtain⟨u,w',rfl,⟨t,rfl⟩,⟨t',rfl⟩⟩:=vals2 r;refine min_two_ints (I.ok.hd hc) fun h' tk k=>⟨_,H,I.kept k,?_,q⟩;by_cases hj:j<i
 ·rw[qai hj,qai hj];exact⟨_,rfl⟩
 ·rw[qal hj,qal hj];exact⟨_,rfl⟩
def pM:bZ X (.type "int") (fun xs H Q=>(∃i,xs=[.int i]/\Q (.int i) H)\/∃k,xs=[.bl k]/\Q (.int (if k then 1 else 0)) H):=by
 intro Ie s σ H xs us Q I r h;rcases h with ⟨i,rfl,q⟩|⟨k,rfl,q⟩
 ·obtain⟨u,rfl,t,rfl⟩:=eZ r;exact call_int_int ⟨.int i,H,I,⟨_,rfl⟩,q⟩
 ·obtain⟨u,rfl,r1⟩:=eZ r;cases r1;exact call_int_bool ⟨.int (if k then 1 else 0),H,I.tok _,⟨_,rfl⟩,q⟩
def qV:bZ X (.type "str") (fun xs H Q=>∃i,xs=[.int i]/\i.natAbs.log2<1920/\Q (.str (toString i)) H):=by
 intro Ie s σ H xs us Q I r h;obtain⟨i,rfl,hz,q⟩:=h;obtain⟨u,rfl,t,rfl⟩:=eZ r;exact PySem.P.str_of_int hz ⟨.str _,H,I.tok _,⟨_,rfl⟩,q⟩
def LenV(K:qab)(x:V)(H:Hp)(n:Nat):Prop :=
 match x with
 | .str y=>y.length<=sizeLine/\n=y.length
 | .byt y=>y.size<=sizeLine/\n=y.size
 | .ref p=>(∃xs,SqL K H p xs/\n=xs.length)\/∃xs,SqT K H p xs/\n=xs.length
 | _=>False
def jR:bZ X (.builtin "len") (fun xs H Q=>∃x n,xs=[x]/\LenV X.K x H n/\Q (.int n) H):=by
 intro Ie s σ H xs us Q I r h;obtain⟨x,n,rfl,e,q⟩:=h;obtain⟨u,rfl,rx⟩:=eZ r;have hl:=iq;have hs:sizeLine=16777216:=sizeLine_eq
 cases x with
 | str y =>
  obtain⟨t,rfl⟩:=rx;obtain⟨hy,e'⟩:y.length<=sizeLine/\n=y.length:=e;subst e';exact len_str (by ext) ⟨.int _,H,I.tok _,⟨_,rfl⟩,q⟩
 | byt y =>
  obtain⟨t,rfl⟩:=rx;obtain⟨hy,e'⟩:y.size<=sizeLine/\n=y.size:=e;subst e';exact PySem.W.len_bytes (by ext) ⟨.int _,H,I.tok _,⟨_,rfl⟩,q⟩
 | ref p =>
  cases rx;have e':(∃xs,SqL X.K H p xs/\n=xs.length)\/∃xs,SqT X.K H p xs/\n=xs.length:=e;rcases e' with ⟨xs,hx,e'⟩|⟨xs,hx,e'⟩
  ·subst e';obtain⟨its,r',pl,hz⟩:=I.list hx;have hlen:=r'.length;exact Calls.call_len_list pl.isList (by simp only[qak];ext) ⟨.int xs.length,H,I.tok _,⟨_,by simp only[qak];rw[hlen]⟩,q⟩
  ·subst e';obtain⟨its,r',pl,hz⟩:=I.tuple hx;have hlen:=r'.length;exact len_tuple pl (by simp only[qak];ext) ⟨.int xs.length,H,I.tok _,⟨_,by simp only[qak];rw[hlen]⟩,q⟩
 | _=>exact (show False from e).elim
end
section
variable {prog:Program} {w:World} {A:Around} {E:Value→Shared→Prop} {s:Shared} {K:qab} {x dx C f:Addr} {mA:Str→Option Value} {name:Str} {v:Value}
end
section
variable {P:Program} {w:World} {H H':Hp} {h h':Heap} {a C dx:Addr} {fs fs':List (Str × V)}
end
section
variable {X:Cx} {Ie:List (Addr × Obj)} {σ:St} {H:Hp} {s:Shared} {a C dx:Addr} {fs:List (Str × V)} {f:Str} {v:V} {A:Around} {E:Value→Shared→Prop}
end
section
variable {X:Cx} {o e value:Expr} {f:Str} {pos pos' tpos:Pos} {ta tv:TE}
end
section
variable {X:Cx} {Ie:List (Addr × Obj)} {σ:St} {H:Hp} {s:Shared} {A:Around} {E:Value→Shared→Prop} {Q:Value→Shared→Prop} {c:Value} {b:Bool}
end
structure Room (k:Nat) (A:Around):Prop where
 hd:A.handled=none
 dp:A.depth+3 * k+5<recursionLimit
 un:A.units+16 * k+200<cLine
 gd:A.guards=some []
def Room.mono(r:Room k A)(h:j<=k):Room j A:=⟨r.hd,by have:=r.dp;ext,by have:=r.un;ext,r.gd⟩
def Room.deeper(r:Room (k+1) A)(env:Env):Room k (A.deeper env) :=
 ⟨r.hd,by have:=r.dp;show A.depth+1+3 * k+5<_;ext,by have:=r.un;show A.units+3+16 * k+200<_;ext,r.gd⟩
def Room.depth(r:Room k A):A.depth<recursionLimit:=by have:=r.dp;ext
def Room.units(r:Room k A):A.units+64<cLine:=by have:=r.un;ext
def Room.units0(r:Room k A):A.units<cLine:=by have:=r.un;ext
def tNil:TA:=fun _ H Q=>Q [] H
def tCons(ta:TE)(tr:TA):TA:=fun σ H Q=>ta σ H fun x H1=>tr σ H1 fun xs H2=>Q (x::xs) H2
section
variable {X:Cx} {e:Expr} {es:List Expr} {te:TE} {t:TA} {pos:Pos}
def dB:PA X [] tNil:=fun _ _ _ _ H Q I h=>Calls.spliced_nil ⟨[],H,I,.nil,h⟩
def bI(ha:PE X e te)(hr:PA X es t)(hs:starEach (e::es) X.env=(false,eval e X.env)::starEach es X.env:=by rfl):PA X (e::es) (tCons te t):=by
 intro pos Ie s σ H Q I h;rw[hs];show wpAny _ _ (spliced ((false,eval e X.env)::backTo pos (starEach es X.env))) _ _ s;refine Calls.spliced_cons (thn (ha Ie s σ H _ I h) fun u s1 ⟨x,H1,I1,r1,q1⟩=>?_);exact thn (hr pos Ie s1 σ H1 _ I1 q1) fun us s2 ⟨xs,H2,I2,r2,q2⟩=>⟨x::xs,H2,I2,.cons r1 r2,q2⟩
def tTup(t:TA):TE:=fun σ H Q=>t σ H fun xs H1=>xs.length<=sizeLine/\∀p,H1 p=none->Q (.ref p) (upd H1 p (.tup xs))
def tLst(t:TA):TE:=fun σ H Q=>t σ H fun xs H1=>xs.length<=sizeLine/\∀p,H1 p=none->Q (.ref p) (upd H1 p (.lst xs))
def tT{x1}(h:PA X es t):PE X (.Tuple es x1 pos) (tTup t):=by
 intro Ie s σ H Q I hq;refine wpAny_Tuple_spliced (thn (h pos Ie s σ H _ I hq) fun us s1 ⟨xs,H1,I1,r,z,q⟩=>⟨by rw[<-r.length];exact z,?_⟩);have hf:H1 s1.heap.objs.size=none:=I1.hok.fresh (qah _);refine⟨.ref s1.heap.objs.size,upd H1 s1.heap.objs.size (.tup xs),I1.laid (t':=s1.toks) (fun b u e=>qad _ e) (qah _) ?_,rfl,q _ hf⟩;exact⟨z,us,r,⟨_,qar _ rfl,rfl,⟨_,rfl⟩,rfl⟩⟩
def pe_lst(h:PA X es t):PE X (.List es pos) (tLst t):=by
 intro Ie s σ H Q I hq;refine wpAny_List_spliced (thn (h pos Ie s σ H _ I hq) fun us s1 ⟨xs,H1,I1,r,z,q⟩=>⟨by rw[<-r.length];exact z,?_⟩);have hf:H1 s1.heap.objs.size=none:=I1.hok.fresh (qah _);refine⟨.ref s1.heap.objs.size,upd H1 s1.heap.objs.size (.lst xs),I1.laid (t':=s1.toks) (fun b u e=>qad _ e) (qah _) ?_,rfl,q _ hf⟩;exact⟨z,us,0,r,qar _ rfl⟩
end
abbrev Sp:=List V->Hp->VK->XK->Prop
abbrev CXT:=List Env->Hp->Shared->XK->Value->Shared->Prop
structure Env0 (P:Program) (w:World) (K:qab) (mg:Str->Option Value) (base:Heap) (A:Around) (outer:List Env) (s:Shared) (H:Hp):Prop where
 frames:A.frames=some outer
 mod:Mod K mg base
 bs:∀b o,base.get? b=some o->s.heap.get? b=some o/\H b=none
 bsz:base.objs.size<=s.heap.objs.size
 funs:s.heap.FunFrames base outer
 frf:∀b∈frs outer,H b=none
 hok:HOk P w H s.heap
 bare:AllBare s.gens
inductive CE (outer:List Env) (P:Program) (w:World) (H:Hp) (s:Shared) (Q:VK) (u:Value) (s':Shared):Prop
 | mk (v:V) (H':Hp) (o:s'.os=s.os) (b:AllBare s'.gens) (n:Un (frs outer) [] H H' s.heap s'.heap) (k:HOk P w H' s'.heap) (r:aX v u) (q:Q v H'):CE outer P w H s Q u s'
def CR(CX:CXT)(outer:List Env)(P:Program)(w:World)(H:Hp)(s:Shared)(Q:VK)(E:XK)(r:Result)(s':Shared):Prop :=
 match r with
 | .ok (.ret u)=>CE outer P w H s Q u s'
 | .ok _=>False
 | .error e=>CX outer H s E e s'
structure FnOk (P:Program) (w:World) (K:qab) (mg:Str->Option Value) (base:Heap) (CX:CXT) (k:Nat) (f:Addr) (fd:FuncData) (ps:List Str) (sp:Sp):Prop where
 len:∀vs H Q E,sp vs H Q E->vs.length=ps.length
 run:∀(A:Around) (outer:List Env) (s:Shared) (H:Hp) (args:Args) (us:List Value) (vs:List V) (Q:VK) (E:XK),Room k A->Env0 P w K mg base A outer s H->BindsTo s fd args (ps.zip us)->aB vs us->sp vs H Q E ->
  codeAny (model P w) A (.call (.ref f) args) (CR CX outer P w H s Q E) s
def FnOk.mono{P:Program}{w:World}{K:qab}{mg:Str->Option Value}{base:Heap}{CX:CXT}{j k:Nat}{f:Addr}{fd:FuncData}{ps:List Str}{sp:Sp}(F:FnOk P w K mg base CX j f fd ps sp)(h:j<=k) :
  FnOk P w K mg base CX k f fd ps sp:=⟨F.len,fun A outer s H args us vs Q E hr=>F.run A outer s H args us vs Q E (hr.mono h)⟩
def FnOk.imp{P:Program}{w:World}{K:qab}{mg:Str->Option Value}{base:Heap}{CX:CXT}{k:Nat}{f:Addr}{fd:FuncData}{ps:List Str}{sp sp':Sp}(F:FnOk P w K mg base CX k f fd ps sp)
  (h:∀vs H Q E,sp' vs H Q E->sp vs H Q E):FnOk P w K mg base CX k f fd ps sp' :=
 ⟨fun vs H Q E q=>F.len vs H Q E (h _ _ _ _ q),fun A outer s H args us vs Q E hr he hb hv hs=>F.run A outer s H args us vs Q E hr he hb hv (h _ _ _ _ hs)⟩
section
variable {X:Cx} {Ie:List (Addr × Obj)} {σ:St} {H:Hp} {s s':Shared}
def Inv.env0(I:Inv X Ie σ H s):Env0 X.prog X.w X.K X.mg X.base X.A X.stack s H :=
 ⟨I.ok.frames,I.ok.mod,I.bs,qaw I.ok.bsz I.sz,I.stack,I.stkFree,I.hok,I.bare⟩
def Inv.after(I:Inv X Ie σ H s)(h:CE X.stack X.prog X.w H s Q u s'):EP X Ie σ Q u s':=by
 obtain⟨v,H',os,bare,un,hok,r,q⟩:=h;obtain⟨hh,g,d,t,os'⟩:=s';obtain rfl:os'=s.os:=os;exact⟨v,H',I.call (h':=hh) (g':=g) (d':=d) (t':=t) (ch:=[]) un hok bare (fun b z=>absurd z (by simp)),r,q⟩
end
def nX(K:qab)(fd:FuncData)(ps:List Str)(ds:List Value):Prop :=
 ∀(s:Shared) (us:List Value),K.In s.heap->(us++ds).length=ps.length->BindsTo s fd ⟨us,[]⟩ (ps.zip (us++ds))
def nX.all{K:qab}{fd:FuncData}{ps:List Str}(h:∀us:List Value,us.length=ps.length->bindArgs fd ⟨us,[]⟩=pure (ps.zip us)):nX K fd ps []:=fun s us _ hl=>by
 rw[qbV] at hl ⊢;exact .of_eq (h us hl)
section
variable {X:Cx} {CX:CXT} {k:Nat} {f C:Addr} {fd:FuncData} {ps:List Str} {sp:Sp} {dvs:List V} {ds:List Value} {E:XK} {x m:Str} {p pos apos:Pos} {e o:Expr} {es:List Expr} {ta:TE} {t:TA}
end
section
variable {X:Cx} {CX:CXT} {k:Nat} {f C:Addr} {fd:FuncData} {ps ks:List Str} {sp:Sp} {E:XK} {x m:Str} {p pos apos kpos:Pos} {e o:Expr} {es:List Expr} {kws:List Keyword} {te ta:TE} {t tk:TA} {nm:Option Str} {g:List Value→List Value→List Value} {gV:List V→List V→List V}
end
structure FnScope (N P:List Str) (sc:Scope):Prop where
 kind:sc.kind=.function
 co:sc.isCoroutine=false
 gen:sc.isGenerator=false
 nd:N.Nodup
 pre:N.take P.length=P
 par:∀x∈P,sc.names.lookup x=some .local\/sc.names.lookup x=some .cell
 nofree:∀y∈sc.names,y.2≠.free
def pX{kindOf:Str->Option NameKind}{x:Str}:∀{binds:List (Str × Value)} {m:Str->Option Value},(∀v,(x,v)∉binds)->bindL kindOf binds m x=m x
 | [],_,_=>rfl
 | (n,v)::r,m,h=>by
  unfold bindL;rw[pX fun w hw=>h w (qam _ hw)];split
  ·have:x≠n:=by rintro rfl;exact h v qaF
   simp[this]
  ·rfl
def o5{kindOf:Str->Option NameKind}{x:Str}:∀{binds:List (Str × Value)} {m:Str->Option Value},(∀v,(x,v)∉binds)->bindC kindOf binds m x=m x
 | [],_,_=>rfl
 | (n,v)::r,m,h=>by
  unfold bindC;rw[o5 fun w hw=>h w (qam _ hw)];split
  ·rfl
  ·have:x≠n:=by rintro rfl;exact h v qaF
   simp[this]
def pi{kindOf:Str->Option NameKind}{x:Str}{v:Value}:∀{P:List Str} {vs:List Value} {i:Nat} {m:Str->Option Value},P.Nodup->P[i]?=some x->vs[i]?=some v->kindOf x=some .local ->
  bindL kindOf (P.zip vs) m x=some v
 | [],_,_,_,_,h,_,_=>by simp at h
 | _::_,[],_,_,_,_,h,_=>by simp at h
 | p::P,w::vs,0,m,nd,h1,h2,hk=>by
  simp at h1 h2;subst h1;subst h2;show bindL kindOf ((p,w)::P.zip vs) m p=_;unfold bindL;rw[pX fun v hv=>(qcf.mp nd).1 (qcy hv).1,qai hk];simp
 | p::P,w::vs,i+1,m,nd,h1,h2,hk=>by
  show bindL kindOf ((p,w)::P.zip vs) m x=_;unfold bindL;exact pi (i:=i) (qcf.mp nd).2 (by simpa using h1) (by simpa using h2) hk
def pP{kindOf:Str->Option NameKind}{x:Str}{v:Value}:∀{P:List Str} {vs:List Value} {i:Nat} {m:Str->Option Value},P.Nodup->P[i]?=some x->vs[i]?=some v->kindOf x≠some .local ->
  bindC kindOf (P.zip vs) m x=some v
 | [],_,_,_,_,h,_,_=>by simp at h
 | _::_,[],_,_,_,_,h,_=>by simp at h
 | p::P,w::vs,0,m,nd,h1,h2,hk=>by
  simp at h1 h2;subst h1;subst h2;show bindC kindOf ((p,w)::P.zip vs) m p=_;unfold bindC;rw[o5 fun v hv=>(qcf.mp nd).1 (qcy hv).1,qal hk];simp
 | p::P,w::vs,i+1,m,nd,h1,h2,hk=>by
  show bindC kindOf ((p,w)::P.zip vs) m x=_;unfold bindC;exact pP (i:=i) (qcf.mp nd).2 (by simpa using h1) (by simpa using h2) hk
def start(N:List Str)(vs:List V):St:=vs.map some++List.replicate (N.length - vs.length) none
def si(CX:CXT)(P:Program)(w:World)(K:qab)(mg:Str->Option Value)(base:Heap)(N:List Str)(qual:Str)(scope:Scope)(f:Addr)(cd:Value)(A:Around)(outer:List Env)(s:Shared)(H:Hp)(E:XK):Cx where
 prog:=P
 w:=w
 K:=K
 mg:=mg
 base:=base
 A:=A.deeper (envOfC qual scope s.heap.objs.size f cd)
 N:=N
 s₀:=s
 H₀:=H
 env:=envOfC qual scope s.heap.objs.size f cd
 outer:=outer
 stack:=envOfC qual scope s.heap.objs.size f cd::outer
 ex:=[]
 calm:=true
 fn:=fun _=>true
 pn:=[]
 xe:=fun e s'=>wpAny (model P w) (A.deeper (envOfC qual scope s.heap.objs.size f cd)) (leaving (envOfC qual scope s.heap.objs.size f cd) e) (fun _ s''=>CX outer H s E e s'') (fun e' s''=>CX outer H s E e' s'') s'
def rl{sc:Scope}{n:Nat}{x:Str}(h:sc.names.lookup x=some .cell):∃c,(cellsFrom n sc.names []).lookup x=some c:=by
 have q:=PySem.W.cellsFrom_some sc.names n [] (.inl h);exact Option.isSome_iff_exists.mp q
def xQ{CX:CXT}{P:Program}{w:World}{K:qab}{mg:Str->Option Value}{base:Heap}{N ps:List Str}{qual:Str}{scope:Scope}{f:Addr}{cd:Value}{A:Around}{outer:List Env}{s s1:Shared}{H:Hp}{E:XK}{us:List Value}{vs:List V}
  (S:FnScope N ps scope) (hd:A.handled=none) (e0:Env0 P w K mg base A outer s H) (hl:vs.length=ps.length) (r:aB vs us)
  (x:InCallC s s.heap.objs.size (bindL (envOfC qual scope s.heap.objs.size f cd).kindOf (ps.zip us) fun _=>none) (cellsFrom (s.heap.objs.size+1) scope.names []) (bindC (envOfC qual scope s.heap.objs.size f cd).kindOf (ps.zip us) fun _=>none) s1) :
  Inv (si CX P w K mg base N qual scope f cd A outer s H E) [] (start N vs) H s1:=by
 have hpl:ps.length<=N.length:=by have:=congrArg List.length S.pre;rw[qbS] at this;ext
 obtain⟨h1,tk,rfl,hk⟩:=x.done;have noA:∀b:Addr,b∉(si CX P w K mg base N qual scope f cd A outer s H E).ex:=fun b z=>absurd (show b∈([]:List Addr) from z) (by simp)
 refine⟨⟨e0.mod,S.kind,rfl,rfl,qah _,fun y z c h1 h2=>?_,fun y hy=>?_,fun y c _ h=>?_,fun _=>hd,Around.frames_deeper e0.frames,.inr ⟨rfl,rfl⟩,fun b z=>absurd z (noA b),e0.bs,e0.bsz,fun b _ _=>noA b,fun b z=>absurd z (noA b),e0.funs,e0.frf⟩,
  rfl,e0.bare,Un.kept hk,⟨_,x.toInCall.ns,fun i y v h1 h2 h3=>?_⟩,fun y c h=>⟨_,x.cell y c h⟩,e0.hok.fresh (qah _),fun y c h=>?_,fun p hp=>absurd (show p∈([]:List (Addr × Obj)) from hp) (by simp),e0.hok.kept hk,?_⟩
 ·exact name_of_addr x.apart (PySem.mem_of_lookup h1) (PySem.mem_of_lookup h2)
 ·have hy:scope.names.lookup y=some .cell\/scope.names.lookup y=some .free:=hy;rcases hy with hy|hy
  ·exact rl hy
  ·exact absurd rfl (S.nofree _ (PySem.mem_of_lookup hy))
 ·exact qbU (x.above y c (PySem.mem_of_lookup h))
 ·have hi:i<vs.length:=by
   unfold start at h2;by_cases hi:i<vs.length
   ·exact hi
   ·rw[qay (by simpa using hi)] at h2;rw[qbj] at h2
    split at h2 <;> cases h2
  have ha:vs[i]?=some v:=by
   unfold start at h2;rw[qan (by simpa using hi),qaz] at h2
   cases e:vs[i]? with
   | none=>rw[e] at h2;cases h2
   | some a=>rw[e] at h2;cases h2;rfl
  obtain⟨u,hu,rv⟩:=r.get ha;have hp:ps[i]?=some y:=by
   rw[<-S.pre,qbA (by ext)];exact h1
  have ndP:ps.Nodup:=by rw[<-S.pre];exact S.nd.sublist (List.take_sublist _ _)
  refine⟨u,rv,?_⟩;rcases S.par y (qaO hp) with k|k
  ·exact .inl ⟨k,pi ndP hp hu k⟩
  ·obtain⟨c,e⟩:=rl (n:=s.heap.objs.size+1) k;refine .inr ⟨.inl k,c,e,?_⟩;have q:=x.cell y c e;rw[pP ndP hp hu (by show scope.names.lookup y≠_;rw[k];decide)] at q;exact q
 ·exact e0.hok.fresh (qbU (x.above y c (PySem.mem_of_lookup h)))
 ·unfold start;show _=N.length;rw[qaR,qaW,qbm];ext
def fn_of{CX:CXT}{P:Program}{w:World}{K:qab}{mg:Str->Option Value}{base:Heap}{k:Nat}{f:Addr}{name qual:Str}{params:Arguments}{body:List Stmt}{scope:Scope}{dV kV doc pm cdv ct oc:Value}{an od:Option Addr}
  {osl:Array (Option Value)} {N ps:List Str} {sp:Sp} (lk:K.lookup f=some ⟨oc,od,.func (PySem.W.fnOf name qual params body scope dV kV doc pm an cdv ct),osl⟩) (hcd:PySem.W.codeIn K cdv qual=true) (S:FnScope N ps scope)
  (len:∀vs H Q E,sp vs H Q E->vs.length=ps.length)
  (hbody:∀(A:Around) (outer:List Env) (s:Shared) (H:Hp) (vs:List V) (Q:VK) (E:XK),Room k (A.deeper (envOfC qual scope s.heap.objs.size f cdv))->sp vs H Q E ->
   ∃t,PSs (si CX P w K mg base N qual scope f cdv A outer s H E) body t/\t { nx:=fun _ H'=>Q .non H',rt:=Q} (start N vs) H) :
  FnOk P w K mg base CX (k+1) f (PySem.W.fnOf name qual params body scope dV kV doc pm an cdv ct) ps sp:=by
 refine⟨len,fun A outer s H args us vs Q E hr e0 hb r hsp=>?_⟩;have hl:=len _ _ _ _ hsp;have KX:K.In s.heap:=e0.mod.kin.keeps fun b o e=>(e0.bs b o e).1;have lim:s.heap.NoLimit:=e0.mod.nolimit.keeps fun b o e=>(e0.bs b o e).1;have hkind:∀y∈ps.zip us,scope.names.lookup y.1=some .local\/(scope.names.lookup y.1=some .cell/\((cellsFrom (s.heap.objs.size+1) scope.names []).lookup y.1).isSome=true):=fun ⟨n,v⟩ hy=>by
  rcases S.par n (qcy hy).1 with q|q
  ·exact .inl q
  ·exact .inr ⟨q,PySem.W.cellsFrom_some _ _ _ (.inl q)⟩
 refine codeAny_call_function hr.depth (KX _ _ lk) rfl S.co S.gen rfl (PySem.W.codeRec_of KX hcd) (hb _ _ _ _ ?_);refine wpAny_newFunctionEnv_cells S.kind hkind fun env he s1 x=>?_;subst he;refine⟨lim.keeps x.toInCall.keep,codeAny_func ?_⟩;obtain⟨t,ht,hq⟩:=hbody A outer s H vs Q E (hr.deeper _) hsp;have I:Inv (si CX P w K mg base N qual scope f cdv A outer s H E) [] (start N vs) H s1:=xQ S hr.hd e0 hl r x;refine wpAny_mono (ht [] s1 (start N vs) H _ I hq) (fun fl s' hs=>?_) fun e s' hs=>hs;have fin:∀{σ':St} {H':Hp} {v:V} {u:Value},Inv (si CX P w K mg base N qual scope f cdv A outer s H E) [] σ' H' s'->aX v u->Q v H'->CE outer P w H s Q u s' :=
  fun {σ' H' v u} J rv q=>⟨v,H',J.os,J.bare,J.base,J.hok,rv,q⟩
 cases fl with
 | ret u =>
  obtain⟨v,σ',H',J,rv,q⟩:=hs;exact fin J rv q
 | next =>
  obtain⟨σ',H',J,q⟩:=hs;exact fin (v:=V.non) (u:=Value.none) J rfl q
 | brk =>
  obtain⟨_,_,_,q⟩:=hs;exact False.elim q
 | cont =>
  obtain⟨_,_,_,q⟩:=hs;exact False.elim q
section
variable {X:Cx} {x:Str} {p pos:Pos} {e:Expr} {es:List Expr} {t:TA} {id T:String} {r:List V→Hp→VK→Prop}
def tCB(r:List V->Hp->VK->Prop)(t:TA):TE:=fun σ H Q=>t σ H fun vs H1=>r vs H1 Q
def dN(hc:bZ X (.builtin id) r)(hg:Gl X x)(hm:X.mg x=none)(hv:bootBuiltins x=some (.builtin id))(ha:PA X (e::es) t)(hn:x≠"__name__":=by decide)(hdb:(x == ("__debug__":Str))=false:=by decide)
  (he:starEach (e::es) X.env=(false,eval e X.env)::starEach es X.env:=by rfl) (hpl:(backTo pos (starEach es X.env)).any (·.1)=false:=by rfl):PE X (.Call (.Name x p) (e::es) [] pos) (tCB r t):=by
 intro Ie s σ H Q I h;refine wpAny_Call_Name_kw (gF I hg hm hv ?_ hn hdb);exact PyProof.Rows.callWith_builtin1 (thn (ha pos Ie s σ H _ I h) fun us s1 ⟨vs,H1,I1,r1,q1⟩=>hc Ie s1 σ H1 vs us Q I1 r1 q1) he hpl
def kA(hc:bZ X (.type T) r)(hg:Gl X x)(hm:X.mg x=none)(hv:bootBuiltins x=some (.type T))(ha:PA X (e::es) t)(hn:x≠"__name__":=by decide)(hdb:(x == ("__debug__":Str))=false:=by decide)
  (he:starEach (e::es) X.env=(false,eval e X.env)::starEach es X.env:=by rfl) (hpl:(backTo pos (starEach es X.env)).any (·.1)=false:=by rfl):PE X (.Call (.Name x p) (e::es) [] pos) (tCB r t):=by
 intro Ie s σ H Q I h;refine wpAny_Call_Name_kw (gF I hg hm hv ?_ hn hdb);exact PyProof.Rows.callWith_type1 (thn (ha pos Ie s σ H _ I h) fun us s1 ⟨vs,H1,I1,r1,q1⟩=>hc Ie s1 σ H1 vs us Q I1 r1 q1) he hpl
end
end L2
namespace HT
open PySem PyProof.Rows
def Ae(A:Around)(s:Shared)(a:Int)(t:Tok)(c:Int)(u:Tok):∃e,SeqAt.EqAt A s (.int a t) (.int c u) e/\(e=true↔a=c) :=
 ⟨(a == c),SeqAt.EqAt.int_int a t c u,by simp⟩
section
open PySem.SeqAt
open PySem.AutoSeq1 (wpAny_loadPart')
open PySem.MeetsSeq PySem.MeetsSeq2 PySem.MeetsSeq3
end
section
variable {prog:Program} {w:World} {A:Around} {E:Value→Shared→Prop} {s:Shared}
def cat_tup(ht:IsTup s.heap t vs.toArray)(hb:IsTup s.heap b ws.toArray)(hv:vs≠[])
  (h1:ws=[]->Q (.ref t) s) (h2:ws≠[]->Q (.ref s.heap.objs.size) { s with heap:=s.heap.push { cls:=.type "tuple",data:=.seq (vs++ws).toArray}})
  (hsz:vs.length+ws.length<=sizeLine):wpAny (model prog w) A (binaryOp .Add (.ref t) (.ref b)) Q E s:=by
 obtain⟨⟨cls,dd,data,sl⟩,ho,hc,n,hd⟩:=id ht;obtain⟨⟨cls2,dd2,data2,sl2⟩,ho2,hc2,n2,hd2⟩:=id hb;simp only at hc hd hc2 hd2;subst hc hd hc2 hd2;have e:vs.toArray++ws.toArray=(vs++ws).toArray:=by simp
 by_cases hw:ws=[]
 ·exact concat_meets ⟨_,ho,rfl⟩ ⟨_,ho2,rfl⟩ noFill_tuple_add seq_tuple_add PySem.F.slot_tuple_add PySem.F.entry_tuple_add (PySem.F.args_tuple_add_2 _ _)
   (tuple_addW1 t b vs.toArray ws.toArray n n2 dd dd2 sl sl2 (by simpa using hv) (by simp[hw])) ⟨ho,ho2,h1 hw⟩
 ·refine concat_meets ⟨_,ho,rfl⟩ ⟨_,ho2,rfl⟩ noFill_tuple_add seq_tuple_add PySem.F.slot_tuple_add PySem.F.entry_tuple_add (PySem.F.args_tuple_add_2 _ _)
   (tuple_addW2 t b vs.toArray ws.toArray n n2 dd dd2 sl sl2 (by simpa using hv) (by simpa using hw) (by rw[qak,qak];exact hsz)) ⟨ho,ho2,?_⟩
  rw[e];exact h2 hw
def sIx(n d:Nat):Option Int->Nat
 | none=>d
 | some v=>if v<0 then (v+(n:Int)).toNat else min v.toNat n
def yz(n d:Nat):sIx n d none=d:=rfl
def sIx_nat(n d k:Nat):sIx n d (some (k:Int))=min k n:=by
 show (if (k:Int)<0 then ((k:Int)+(n:Int)).toNat else min (k:Int).toNat n)=min k n;rw[qal (by ext),qaN]
def sIx_le(n d:Nat)(hd:d<=n)(o:Option Int):sIx n d o<=n:=by
 cases o with
 | none=>exact hd
 | some v =>
  show (if v<0 then (v+(n:Int)).toNat else min v.toNat n)<=n;by_cases hv:v<0
  ·rw[qai hv];ext
  ·rw[qal hv];exact Nat.min_le_right _ _
def uO(v:Int)(n d:Nat):(if v<0 then max (v+(n:Int)) 0 else min v (n:Int))=((sIx n d (some v):Nat):Int):=by
 show (if v<0 then max (v+(n:Int)) 0 else min v (n:Int))=(((if v<0 then (v+(n:Int)).toNat else min v.toNat n):Nat):Int);by_cases hv:v<0
 ·simp only[qai hv];ext
 ·simp only[qal hv];ext
def vZ(lo hi:Option Int)(n:Nat):Builtin.Slice.sliceAdjust lo hi 1 (n:Int)=(((sIx n 0 lo:Nat):Int),((sIx n n hi:Nat):Int)):=by
 have h1:¬((1:Int)<0):=by ext
 unfold Builtin.Slice.sliceAdjust;simp only[h1,if_false];refine Prod.ext ?_ ?_
 ·cases lo with
  | none=>rfl
  | some v=>exact uO v n 0
 ·cases hi with
  | none=>rfl
  | some v=>exact uO v n n
def vK(i j:Nat):Builtin.Slice.slicePlaces (i:Int) (j:Int) 1=j - i:=by
 unfold Builtin.Slice.slicePlaces;have h1:(1:Int)>0:=by ext
 simp only[h1,if_true,qcz]
 split <;> ext
def jB(p:IsPart v o)(h:Q o s):wpAny (model prog w) A (Builtin.Slice.slicePartIndex v) Q E s:=by
 cases p with
 | none=>exact slicePart_none h
 | int i t=>exact slicePart_int h
def gv{sl:Addr}{vl vu:Value}{lo hi:Option Int}{n:Nat}{Q:Int × Int × Nat->Shared->Prop}(hs:s.heap.IsSliceOf sl vl vu .none)(pl:IsPart vl lo)(pu:IsPart vu hi)
  (h:Q (((sIx n 0 lo:Nat):Int),1,sIx n n hi - sIx n 0 lo) s):wpAny (model prog w) A (Builtin.Slice.sliceApplied (.ref sl) (pure (n:Int))) Q E s:=by
 obtain⟨os,hos,hcs,hds⟩:=id hs;unfold Builtin.Slice.sliceApplied Builtin.Slice.sliceFields;refine qaa (qaa (wpAny_field hos hds (x:=vl) rfl (qaa (wpAny_field hos hds (x:=vu) rfl (qaa (wpAny_field hos hds (x:=.none) rfl (qae ?_)))))));refine qaa (slicePart_none ?_);show wpAny _ _ (if ((1:Int) == 0)=true then _ else _) _ _ s;rw[qal (by decide)];refine qaa (jB pl (qaa (jB pu (qaa (qae ?_)))));show wpAny _ _ (match Builtin.Slice.sliceAdjust lo hi 1 (n:Int) with | (lo,hi)=>pure (lo,(1:Int),Builtin.Slice.slicePlaces lo hi 1)) _ _ s;rw[vZ lo hi n];show wpAny _ _ (pure (((sIx n 0 lo:Nat):Int),(1:Int),Builtin.Slice.slicePlaces ((sIx n 0 lo:Nat):Int) ((sIx n n hi:Nat):Int) 1)) _ _ s;rw[vK];exact qae h
def Ao(xs:Array Value)(i k:Nat):((List.range k).filterMap fun (m:Nat)=>xs[((i:Int)+(m:Int) * 1).toNat]?).toArray=((xs.toList.drop i).take k).toArray:=by
 have e:(fun (m:Nat)=>xs[((i:Int)+(m:Int) * 1).toNat]?)=fun m=>xs[i+m]?:=by
  funext m
  have:((i:Int)+(m:Int) * 1).toNat=i+m:=by ext
  rw[this]
 rw[e]
 have:=pick_run xs i k
 rw[qcl] at this;have e2:((fun x=>xs[x]?)∘fun x=>i+x)=fun m=>xs[i+m]?:=rfl;rw[e2] at this;rw[this]
def lI{t sl:Addr}{items:Array Value}{vl vu:Value}{lo hi:Option Int}{Q:Value->Shared->Prop}(ht:IsTup s.heap t items)(hs:s.heap.IsSliceOf sl vl vu .none)(pl:IsPart vl lo)(pu:IsPart vu hi)
  (hw:¬(sIx items.size 0 lo=0/\sIx items.size items.size hi=items.size))
  (h:Q (.ref s.heap.objs.size) { s with heap:=s.heap.push { cls:=.type "tuple",data:=.seq ((items.toList.drop (sIx items.size 0 lo)).take (sIx items.size items.size hi - sIx items.size 0 lo)).toArray}})
  (hsz:items.size<=sizeLine):wpAny (model prog w) A (getItem (.ref t) (.ref sl)) Q E s:=by
 have htake:sizeOk (.seq ((items.toList.drop (sIx items.size 0 lo)).take (sIx items.size items.size hi - sIx items.size 0 lo)).toArray):=by
  show ((items.toList.drop (sIx items.size 0 lo)).take (sIx items.size items.size hi - sIx items.size 0 lo)).toArray.size<=sizeLine;rw[qak,qbS,qbu,qas];ext
 have hj:sIx items.size items.size hi<=items.size:=sIx_le _ _ (qah _) hi;obtain⟨os,hos,hcs,hds⟩:=id hs;have hTs:s.TypeIs (.ref sl) "slice":=⟨os,hos,hcs⟩;unfold getItem
 try with_reducible refine wpAny_holding ?_
 first | refine qaa (qae ?_) | skip
 refine qaa (wpAny_sequenceKey ht.typeIs (by decide) ?_)
 refine qaa (wpAny_callSpecial?_slot (name:=Str.ofString "__getitem__") ht.typeIs PyProof.Rows.slot_tuple_getitem
  (wpAny_call_entry PyProof.Rows.slot_tuple_getitem ht.typeIs entry_tuple_getitem ?_ (args_tuple_getitem _ _)))
 show wpAny _ _ (Builtin.Tuple.tupleItemsOf (.ref t) >>= _) _ _ s;refine qaa (tupleItemsOf_ ht ?_);refine qaa (wpAny_typeOf hTs ?_);rw[qai (by decide)];refine qaa (gv hs pl pu ?_);have hno:¬((((sIx items.size 0 lo:Nat):Int) == 0 && (1:Int) == 1 && (sIx items.size items.size hi - sIx items.size 0 lo) == items.size)=true):=by
  intro q;rw[qbT,qbT] at q;have q1:((sIx items.size 0 lo:Nat):Int)=0:=eq_of_beq q.1.1;have q2:sIx items.size items.size hi - sIx items.size 0 lo=items.size:=eq_of_beq q.2;exact hw ⟨by ext,by ext⟩
 show wpAny _ _ (if (((sIx items.size 0 lo:Nat):Int) == 0 && (1:Int) == 1 && (sIx items.size items.size hi - sIx items.size 0 lo) == items.size)=true then _ else _) _ _ s;rw[qal hno,Ao]
 first
  | exact qaa (m:=Builtin.Tuple.tupleExact _) (wpAny_newObj_type (qae ⟨_,rfl,qae h⟩) htake)
  | exact qaa (m:=Builtin.Tuple.tupleExact _) (wpAny_newObj_type (qaa (qae (qae ⟨_,rfl,qae h⟩))) htake)
  | exact qaa (qaa (m:=Builtin.Tuple.tupleExact _) (wpAny_newObj_type (qae (qae ⟨_,rfl,qae h⟩)) htake))
  | exact qaa (qaa (m:=Builtin.Tuple.tupleExact _) (wpAny_newObj_type (qae ⟨_,rfl,qae h⟩) htake))
end
end HT
namespace L2
open PySem PySem.Spec PyProof.Rows
abbrev TO:=St->Hp->(Option Int->Hp->Prop)->Prop
def PO(X:Cx)(e:Option Expr)(t:TO):Prop :=
 ∀(Ie:List (Addr × Obj)) (s:Shared) (σ:St) (H:Hp) (Q:Option Int->Hp->Prop),Inv X Ie σ H s->t σ H Q ->
  wpAny (model X.prog X.w) X.A (evalPart e X.env) (fun u s'=>∃o H',Inv X Ie σ H' s'/\IsPart u o/\Q o H') X.xe s
def tNoPart:TO:=fun _ H Q=>Q none H
def tPart(t:TE):TO:=fun σ H Q=>t σ H fun x H1=>∃i,x=.int i/\Q (some i) H1
def mS:∀{us:List Value},aB (ns.map V.int) us->IntsAre us ns:=by
 induction ns with
 | nil=>intro us r;rw[qcH] at r;cases r;exact .nil
 | cons n ns ih =>
  intro us r;rw[qaL] at r
  cases r with
  | cons r1 r2 =>
   obtain⟨t,e⟩:=r1;subst e;exact .cons n t (ih r2)
section
variable {X:Cx} {e:Expr} {te:TE} {lo hi:Option Expr} {tl th:TO} {pos p2:Pos}
def po_none:PO X none tNoPart:=by
 intro Ie s σ H Q I h;rw[evalPart_none];exact qae ⟨none,H,I,.none,h⟩
def po_some(h:PE X e te):PO X (some e) (tPart te):=by
 intro Ie s σ H Q I hw;rw[evalPart_some];refine thn (h Ie s σ H _ I hw) fun u s1 ⟨x,H1,I1,r1,q1⟩=>?_;obtain⟨i,rfl,q⟩:=q1;obtain⟨t,rfl⟩:=r1;exact⟨some i,H1,I1,.int i t,q⟩
def SlR(X:Cx)(r:V->Option Int->Option Int->Hp->VK->Prop):Prop :=
 ∀(Ie:List (Addr × Obj)) (s:Shared) (σ:St) (H:Hp) (x:V) (v vl vu:Value) (lo hi:Option Int) (sl:Addr) (Q:VK),Inv X Ie σ H s->aX x v->s.heap.IsSliceOf sl vl vu .none->IsPart vl lo->IsPart vu hi->r x lo hi H Q ->
  ∃T id,typeLookup (.type T) "__getitem__"=pure (some (.builtin id))/\s.TypeIs v T/\wpAny (model X.prog X.w) X.A (getItem v (.ref sl)) (EP X Ie σ Q) X.xe s
def tSl(r:V->Option Int->Option Int->Hp->VK->Prop)(te:TE)(tl th:TO):TE:=fun σ H Q=>te σ H fun x H1=>tl σ H1 fun l H2=>th σ H2 fun u H3=>r x l u H3 Q
def rO(hr:SlR X r)(he:PE X e te)(hl:PO X lo tl)(hu:PO X hi th):PE X (.Subscript e (.Slice lo hi none p2) pos) (tSl r te tl th):=by
 intro Ie s σ H Q I h;refine Subscript_ (thn (he Ie s σ H _ I h) fun v s1 ⟨x,H1,I1,r1,q1⟩=>?_);refine wpAny_Slice (thn (hl Ie s1 σ H1 _ I1 q1) fun vl s2 ⟨l,H2,I2,pl,q2⟩=>thn (hu Ie s2 σ H2 _ I2 q2) fun vu s3 ⟨u,H3,I3,pu,q3⟩=>?_);rw[evalPart_none];refine qae ?_;have I4:Inv X Ie σ H3 { s3 with heap:=s3.heap.push { cls:=.type "slice",data:=.fields #[vl,vu,.none]}}:=I3.kept (t':=s3.toks) fun b ob q=>qad _ q;obtain⟨T,id,hT,ht,hg⟩:=hr Ie { s3 with heap:=s3.heap.push { cls:=.type "slice",data:=.fields #[vl,vu,.none]}} σ H3 x v vl vu l u s3.heap.objs.size Q I4 r1 (Heap.IsSliceOf.new ..) pl pu q3;show wpAny (model X.prog X.w) X.A (subscriptTail e (.Slice lo hi none p2) v (.ref s3.heap.objs.size)) (EP X Ie σ Q) X.xe { s3 with heap:=s3.heap.push { cls:=.type "slice",data:=.fields #[vl,vu,.none]}};exact tail_any (ops:=[.ref s3.heap.objs.size,v]) ht hT hg (by with_unfolding_all rfl)
def fv(xs:List V)(lo hi:Option Int):List V:=(xs.drop (HT.sIx xs.length 0 lo)).take (HT.sIx xs.length xs.length hi - HT.sIx xs.length 0 lo)
def lQ(xs:List V)(lo hi:Option Int):(fv xs lo hi).length<=xs.length:=by
 unfold fv;rw[qbS,qbu];ext
def rSlT(K:qab):V->Option Int->Option Int->Hp->VK->Prop:=fun x lo hi H Q=>∃a xs,x=.ref a/\SqT K H a xs /\
 ¬(HT.sIx xs.length 0 lo=0/\HT.sIx xs.length xs.length hi=xs.length)/\∀p,H p=none->Q (.ref p) (upd H p (.tup (fv xs lo hi)))
def xy:SlR X (rSlT X.K):=by
 intro Ie s σ H x v vl vu lo hi sl Q I rx hs pl pu h;obtain⟨a,xs,rfl,hx,hw,q⟩:=h;cases rx;obtain⟨its,r,ht,hz⟩:=I.tuple hx;have hlen:its.toArray.size=xs.length:=by rw[qak];exact r.length.symm
 refine⟨"tuple",_,PyProof.Rows.slot_tuple_getitem.lookup,ht.typeIs,?_⟩;refine HT.lI ht hs pl pu (by rw[hlen];exact hw) ?_ (by rw[hlen];exact hz);rw[hlen];refine⟨.ref s.heap.objs.size,_,I.laid (t':=s.toks) (o:=.tup (fv xs lo hi)) (fun b ob q=>qad _ q) (qah _) ?_,rfl,q _ (I.hok.fresh (qah _))⟩;exact⟨qaw (lQ xs lo hi) hz,_,(r.drop (HT.sIx xs.length 0 lo)).take (HT.sIx xs.length xs.length hi - HT.sIx xs.length 0 lo),ft.new _ _⟩
def rCatT(K:qab):R2:=fun x y H Q=>∃a b xs ys,x=.ref a/\y=.ref b/\SqT K H a xs/\SqT K H b ys/\xs≠[]/\xs.length+ys.length<=sizeLine /\
 (ys=[]->Q (.ref a) H)/\(ys≠[]->∀p,H p=none->Q (.ref p) (upd H p (.tup (xs++ys))))
def aB.nil_iff(r:aB xs us):us=[]↔xs=[]:=by
 cases r with
 | nil=>simp
 | cons _ _=>simp
def op_catT:OpR X (binaryOp .Add) (rCatT X.K):=by
 intro Ie s σ H x y v u Q I rx ry h;obtain⟨a,b,xs,ys,rfl,rfl,ha,hb,hx,hz,q1,q2⟩:=h;cases rx;cases ry;obtain⟨its,r1,p1,_⟩:=I.tuple ha;obtain⟨its2,r2,p2,_⟩:=I.tuple hb;refine HT.cat_tup p1 p2 (fun z=>hx (r1.nil_iff.mp z)) (fun z=>⟨.ref a,H,I,rfl,q1 (r2.nil_iff.mp z)⟩) (fun z=>?_) (by rw[<-r1.length,<-r2.length];exact hz);refine⟨.ref s.heap.objs.size,_,I.laid (t':=s.toks) (o:=.tup (xs++ys)) (fun b ob q=>qad _ q) (qah _) ?_,rfl,q2 (fun w=>z (r2.nil_iff.mpr w)) _ (I.hok.fresh (qah _))⟩;exact⟨by rw[qaR];exact hz,_,r1.append r2,ft.new _ _⟩
end
def ixN(n:Nat)(i:Int):Option Nat:=if 0<=i then (if i<n then some i.toNat else none) else if -(n:Int)<=i then some (i+n).toNat else none
def atI{α:Type}(xs:List α)(i:Int):Option α:=(ixN xs.length i).bind fun j=>xs[j]?
def uV(h:ixN n i=some j):seqIndex? i n=some j/\j<n /\ -(n:Int)<=i/\i<n:=by
 unfold ixN at h;by_cases h0:0<=i
 ·rw[qai h0] at h;by_cases h1:i<n
  ·rw[qai h1] at h;have e:i.toNat=j:=Option.some.inj h;exact⟨by rw[seqIndex_of h0 h1,e],by ext,by ext,h1⟩
  ·rw[qal h1] at h;cases h
 ·rw[qal h0] at h;by_cases h1:-(n:Int)<=i
  ·rw[qai h1] at h;have e:(i+n).toNat=j:=Option.some.inj h;exact⟨by rw[seqIndex_neg (by ext) h1,e],by ext,h1,by ext⟩
  ·rw[qal h1] at h;cases h
def nZ(h:atI xs i=some v):∃j,seqIndex? i xs.length=some j/\xs[j]?=some v/\j<xs.length /\ -(xs.length:Int)<=i/\i<xs.length:=by
 unfold atI at h
 cases e:ixN xs.length i with
 | none=>rw[e] at h;cases h
 | some j =>
  rw[e] at h;obtain⟨h1,h2,h3,h4⟩:=uV e;exact⟨j,h1,h,h2,h3,h4⟩
def eB{α:Type}{xs:List α}{j:Nat}{v:α}(h:xs[j]?=some v):atI xs (j:Int)=some v:=by
 have hj:j<xs.length:=(qag.mp h).1;have e:ixN xs.length (j:Int)=some j:=by
  unfold ixN;rw[qai (by ext),qai (by ext)];simp
 unfold atI;rw[e];exact h
def lr(b:Expr):Prop:=∀o i,subscripted b false o i=operate [o,i] (getItem o i)
def IxR(X:Cx)(r:R2):Prop :=
 ∀(value slice:Expr) (Ie:List (Addr × Obj)) (s:Shared) (σ:St) (H:Hp) (x y:V) (v u:Value) (Q:VK),Inv X Ie σ H s->aX x v->aX y u->r x y H Q ->
  subscripted slice false v u=operate [v,u] (getItem v u)->wpAny (model X.prog X.w) X.A (subscriptTail value slice v u) (EP X Ie σ Q) X.xe s
def MtR(X:Cx)(id:String)(r:V->List V->Hp->VK->Prop):Prop :=
 ∀(Ie:List (Addr × Obj)) (s:Shared) (σ:St) (H:Hp) (x:V) (xs:List V) (v:Value) (us:List Value) (Q:VK),Inv X Ie σ H s->aX x v->aB xs us->r x xs H Q ->
  wpAny (model X.prog X.w) X.A (call (.builtin id) (v::us)) (EP X Ie σ Q) X.xe s
section
variable {X:Cx} {a b:Expr} {ta tb:TE} {pos:Pos}
def IxR.or(h:IxR X r)(h':IxR X r'):IxR X (fun x y H Q=>r x y H Q\/r' x y H Q):=by
 intro value slice Ie s σ H x y v u Q I rx ry q hs;rcases q with q|q
 ·exact h value slice Ie s σ H x y v u Q I rx ry q hs
 ·exact h' value slice Ie s σ H x y v u Q I rx ry q hs
def pe_ix{r:R2}(hr:IxR X r)(ha:PE X a ta)(hb:PE X b tb)(hs:lr b):PE X (.Subscript a b pos) (tOp r ta tb):=by
 intro Ie s σ H Q I h;exact Subscript_ (binT ha hb I h fun v u s2 x y H2 I2 rx ry q=>hr a b Ie s2 σ H2 x y v u Q I2 rx ry q (hs _ _))
def rIxL(K:qab):R2:=fun x y H Q=>∃p xs i v,x=.ref p/\y=.int i/\SqL K H p xs/\atI xs i=some v/\Q v H
def rIxT(K:qab):R2:=fun x y H Q=>∃p xs i v,x=.ref p/\y=.int i/\SqT K H p xs/\atI xs i=some v/\Q v H
def rIxS:R2:=fun x y H Q=>∃z i c,x=.str z/\y=.int i/\z.length<=sizeLine/\atI z.cps.toList i=some c/\Q (.str ⟨#[c]⟩) H
def ix_list:IxR X (rIxL X.K):=by
 intro value slice Ie s σ H x y v u Q I rx ry h hs;obtain⟨p,xs,i,z,rfl,rfl,hq,he,q⟩:=h;cases rx;obtain⟨t,rfl⟩:=ry;obtain⟨its,r,pl,hz⟩:=I.list hq;obtain⟨j,h1,h2,h3,h4,h5⟩:=nZ he;obtain⟨w,ew,rw'⟩:=r.get h2;have hl:=r.length;have hn:=iq;have fin:EP X Ie σ Q w s:=⟨z,H,I,rw',q⟩;by_cases h0:0<=i
 ·have hj:i.toNat=j:=by
   rw[seqIndex_of h0 h5] at h1;exact Option.some.inj h1
  exact item_listR pl.isList h0 (by ext) (by rw[hj];simpa using ew) fin hs
 ·have hj:(i+(its.toArray.size:Int)).toNat=j:=by
   rw[seqIndex_neg (by ext) h4] at h1;rw[qak,<-hl];exact Option.some.inj h1
  exact subscriptTail_builtinR (x:=w) pl.isList.typeIs slot_list_getitem.lookup
   (wpAny_getItem_list_neg (Q:=fun r s'=>r=w/\EP X Ie σ Q r s') pl.isList (by ext) (by rw[qak] <;> ext) (by ext) (by rw[hj];simpa using ew) ⟨rfl,fin⟩) hs
def ix_tup:IxR X (rIxT X.K):=by
 intro value slice Ie s σ H x y v u Q I rx ry h hs;obtain⟨p,xs,i,z,rfl,rfl,hq,he,q⟩:=h;cases rx;obtain⟨t,rfl⟩:=ry;obtain⟨its,r,pl,hz⟩:=I.tuple hq;obtain⟨j,h1,h2,h3,h4,h5⟩:=nZ he;obtain⟨w,ew,rw'⟩:=r.get h2;have hl:=r.length;have hn:=iq;have fin:EP X Ie σ Q w s:=⟨z,H,I,rw',q⟩;exact subscriptTail_builtinR (x:=w) pl.typeIs slot_tuple_getitem.lookup
  (getItem_tuple (j:=j) (Q:=fun r s'=>r=w/\EP X Ie σ Q r s') pl (by ext) (by ext) (by rw[qak,<-hl];exact h1) (by simpa using ew) ⟨rfl,fin⟩) hs
def ix_str:IxR X rIxS:=by
 intro value slice Ie s σ H x y v u Q I rx ry h hs;obtain⟨z,i,c,rfl,rfl,hz,he,q⟩:=h;obtain⟨t,rfl⟩:=rx;obtain⟨t',rfl⟩:=ry;obtain⟨j,h1,h2,h3,h4,h5⟩:=nZ he;have hl:z.cps.toList.length=z.length:=by simp[Str.length]
 rw[hl] at h1 h4 h5;have hn:=iq
 exact tail_any (typeIs_str s z t) slot_str_getitem.lookup (getItem_str (c:=c) (by
  have e1:decide (i < -(2 ^ 63:Int))=false:=decide_eq_false (by ext);have e2:decide (i>=2 ^ 63)=false:=decide_eq_false (by ext)
  rw[e1,e2,Bool.or_false]) (by rw[h1];simpa using h2) ⟨.str ⟨#[c]⟩,H,I.tok _,⟨_,rfl⟩,q⟩) hs
def rIx(K:qab):R2:=fun x y H Q=>rIxL K x y H Q\/rIxT K x y H Q\/rIxS x y H Q
def ix_seq:IxR X (rIx X.K):=ix_list.or (ix_tup.or ix_str)
def wq(its:List Value)(n j:Nat)(u:Value):Obj.mapSeq (·.setIfInBounds j u) { cls:=.type "list",data:=.seq its.toArray n}={ cls:=.type "list",data:=.seq (its.set j u).toArray n}:=by
 simp[Obj.mapSeq]
def Inv.lst{Ie:List (Addr × Obj)}{σ:St}{H:Hp}{s:Shared}{p:Addr}{xs:List V}(I:Inv X Ie σ H s)(h:H p=some (.lst xs)) :
  ∃(its:List Value) (n:Nat),aB xs its/\s.heap.get? p=some { cls:=.type "list",data:=.seq its.toArray n}/\xs.length<=sizeLine:=by
 obtain⟨z,its,n,r,e⟩:=I.hok p _ h;exact⟨its,n,r,e,z⟩
def Inv.lstUpd{Ie:List (Addr × Obj)}{σ:St}{H:Hp}{s:Shared}{p:Addr}{xs ys:List V}{its its':List Value}{n n':Nat}{f:Obj->Obj}(I:Inv X Ie σ H s)(h:H p=some (.lst xs))
  (ho:s.heap.get? p=some { cls:=.type "list",data:=.seq its.toArray n}) (hf:f { cls:=.type "list",data:=.seq its.toArray n}={ cls:=.type "list",data:=.seq its'.toArray n'}) (r:aB ys its') (hz:ys.length<=sizeLine) (t:Nat) :
  Inv X Ie σ (upd H p (.lst ys)) { s with heap:=s.heap.update p f,toks:=t}:=by
 have e:(s.heap.update p f).get? p=some { cls:=.type "list",data:=.seq its'.toArray n'}:=by
  rw[qbw f ho (by rw[hf] <;> rfl),hf]
 refine I.write (x:=p) (e:=p) (by rw[h];trivial) (.inl rfl) (fun b u hb q=>(qbI _ _ (Ne.symm hb)).trans q) ⟨_,e⟩ ?_;exact⟨hz,its',n',r,e⟩
def rSetL:V->V->V->Hp->(Hp->Prop)->Prop:=fun o i v H Q=>∃p xs k j,o=.ref p/\i=.int k/\H p=some (.lst xs)/\ixN xs.length k=some j/\Q (upd H p (.lst (xs.set j v)))
def yI:PSet X rSetL:=by
 intro Ie s σ H o i v ov iv u Q I ro ri rv h;obtain⟨p,xs,k,j,rfl,rfl,hp,hj,q⟩:=h;cases ro;obtain⟨t,rfl⟩:=ri;obtain⟨its,n,r,ho,hz⟩:=I.lst hp;obtain⟨h1,h2,h3,h4⟩:=uV hj;have hl:=r.length;have hn:=iq;have I':Inv X Ie σ (upd H p (.lst (xs.set j v))) { s with heap:=s.heap.update p (Obj.mapSeq (·.setIfInBounds j u))} :=
  I.lstUpd hp ho (wq its n j u) (r.set rv j) (by rw[List.length_set];exact hz) s.toks
 by_cases h0:0<=k
 ·have hk:k.toNat=j:=by
   rw[seqIndex_of h0 h4] at h1;exact Option.some.inj h1
  exact PySem.W.ki_setAt ho h0 (by ext) (by rw[qak,<-hl];exact h4) (by rw[hk];exact⟨_,I',q⟩)
 ·have hk:(k+(its.toArray.size:Int)).toNat=j:=by
   rw[seqIndex_neg (by ext) h3] at h1;rw[qak,<-hl];exact Option.some.inj h1
  exact PySem.W.ki_setBack ho (by ext) (by rw[qak,<-hl];exact h3) (by ext) (by rw[hk];exact⟨_,I',q⟩)
def sA(lo hi:Option Int)(n:Nat):(sliceBounds lo hi none n).1=((HT.sIx n 0 lo:Nat):Int)/\(sliceBounds lo hi none n).2.1=((HT.sIx n n hi:Nat):Int)/\(sliceBounds lo hi none n).2.2=1:=by
 refine⟨?_,?_,rfl⟩
 ·cases lo with
  | none=>simp[sliceBounds,HT.sIx]
  | some i =>
   simp only[sliceBounds,HT.sIx,Option.getD_none,show (1:Int)>0 by decide,if_true];by_cases h:i<0
   ·simp only[h,if_true] <;> ext
   ·simp only[h,if_false] <;> ext
 ·cases hi with
  | none=>simp[sliceBounds,HT.sIx]
  | some i =>
   simp only[sliceBounds,HT.sIx,Option.getD_none,show (1:Int)>0 by decide,if_true];by_cases h:i<0
   ·simp only[h,if_true] <;> ext
   ·simp only[h,if_false] <;> ext
def qB(its:List Value)(lo hi:Option Int):slicePick its.toArray lo hi none=((its.drop (HT.sIx its.length 0 lo)).take (HT.sIx its.length its.length hi - HT.sIx its.length 0 lo)).toArray:=by
 obtain⟨h1,h2,h3⟩:=sA lo hi its.toArray.size;unfold slicePick;rw[h1,h2,h3];simp only[sliceRange_one,pick_run,qak] <;> rfl
def rSlL(K:qab):V->Option Int->Option Int->Hp->VK->Prop:=fun x lo hi H Q=>∃a xs,x=.ref a/\SqL K H a xs/\∀p,H p=none->Q (.ref p) (upd H p (.lst (fv xs lo hi)))
def uU:SlR X (rSlL X.K):=by
 intro Ie s σ H x v vl vu lo hi sl Q I rx hs pl pu h;obtain⟨a,xs,rfl,hx,q⟩:=h;cases rx;obtain⟨its,r,ht,hz⟩:=I.list hx;have hlen:=r.length;refine⟨"list",_,slot_list_getitem.lookup,ht.isList.typeIs,?_⟩;refine wpAny_getItem_list_slice ht.isList hs pl pu .none (by simp) ?_ (by rw[qak] <;> ext);rw[qB,<-hlen];refine⟨.ref s.heap.objs.size,_,I.laid (t':=s.toks) (o:=.lst (fv xs lo hi)) (fun b ob q=>qad _ q) (qah _) ?_,rfl,q _ (I.hok.fresh (qah _))⟩;exact⟨qaw (lQ xs lo hi) hz,_,0,(r.drop (HT.sIx xs.length 0 lo)).take (HT.sIx xs.length xs.length hi - HT.sIx xs.length 0 lo),qar _ rfl⟩
def rG:bZ X (.type "list") (fun xs H Q=>∃p ys,xs=[.ref p]/\(SqL X.K H p ys\/SqT X.K H p ys)/\∀l,H l=none->Q (.ref l) (upd H l (.lst ys))):=by
 intro Ie s σ H xs us Q I r h;obtain⟨p,ys,rfl,hq,q⟩:=h;obtain⟨u,rfl,rx⟩:=eZ r;cases rx;have fin:∀(its:List Value),aB ys its->ys.length<=sizeLine->∀(h':Heap) (c':Nat),(∀b o',s.heap.get? b=some o'->h'.get? b=some o') ->
   h'.get? s.heap.objs.size=some { cls:=.type "list",dict:=none,data:=.seq its.toArray c',slots:=#[]}->EP X Ie σ Q (.ref s.heap.objs.size) { s with heap:=h'}:=fun its r' hz h' c' kp e =>
  ⟨.ref s.heap.objs.size,_,I.laid (t':=s.toks) kp (qah _) (show ObjOk X.prog X.w _ h' _ (.lst ys) from⟨hz,its,c',r',e⟩),rfl,q _ (I.hok.fresh (qah _))⟩
 rcases hq with hq|hq
 ·obtain⟨its,r',pl,hz⟩:=I.list hq;have hlen:=r'.length;obtain⟨o,ho,hc,n,hd⟩:=pl.isList;exact call_list_seq p (.inl rfl) ho hc hd (fun h' c' kp e=>fin its r' hz h' c' kp e) (by simp only[qak] <;> ext)
 ·obtain⟨its,r',pl,hz⟩:=I.tuple hq;have hlen:=r'.length;obtain⟨o,ho,hc,n,hd⟩:=pl;exact call_list_seq p (.inr rfl) ho hc hd (fun h' c' kp e=>fin its r' hz h' c' kp e) (by simp only[qak] <;> ext)
def jS:bZ X (.type "tuple") (fun xs H Q=>∃p ys,xs=[.ref p]/\((SqL X.K H p ys/\∀l,H l=none->Q (.ref l) (upd H l (.tup ys)))\/(SqT X.K H p ys/\Q (.ref p) H))):=by
 intro Ie s σ H xs us Q I r h;obtain⟨p,ys,rfl,h⟩:=h;obtain⟨u,rfl,rx⟩:=eZ r;cases rx;rcases h with ⟨hq,q⟩|⟨hq,q⟩
 ·obtain⟨its,r',pl,hz⟩:=I.list hq;have hlen:=r'.length;refine call_tuple_list pl.isList (fun h' kp=>?_) (by simp only[qak] <;> ext);have I1:Inv X Ie σ H { s with heap:=h'}:=I.kept (t':=s.toks) kp;have I2:Inv X Ie σ (upd H h'.objs.size (.tup ys)) { s with heap:=h'.push { cls:=.type "tuple",data:=.seq its.toArray}} :=
   I1.laid (t':=s.toks) (fun b o e=>qad _ e) (qah _) (show ObjOk X.prog X.w _ _ _ (.tup ys) from⟨hz,its,r',ft.new _ _⟩)
  exact⟨.ref h'.objs.size,_,I2,rfl,q _ (I1.hok.fresh (qah _))⟩
 ·obtain⟨its,r',pl,hz⟩:=I.tuple hq;exact call_tuple_same pl ⟨.ref p,H,I,rfl,q⟩
def tyV(K:qab)(T:String)(x:V)(H:Hp):Prop:=match x with
 | .str _=>T="str"
 | .int _=>T="int"
 | .ref p=>(T="list"/\∃xs,SqL K H p xs)\/(T="tuple"/\∃o,K.lookup p=some o/\o.cls=.type "tuple"/\o.dict=none) \/
   (T="dict"/\((∃kvs,H p=some (.dK kvs))\/∃kvs,H p=some (.dT kvs)))\/(T="set"/\∃S n,H p=some (.set S n))
 | _=>False
def tyV_is{Ie:List (Addr × Obj)}{σ:St}{H:Hp}{s:Shared}{T:String}{x:V}{v:Value}(I:Inv X Ie σ H s)(r:aX x v)(ty:tyV X.K T x H) :
  s.TypeIs v T/\∀a,v=.ref a->∃ob,s.heap.get? a=some ob/\ob.dict=none:=by
 cases x with
 | str z =>
  obtain⟨t,rfl⟩:=r;cases (show T="str" from ty);exact⟨typeIs_str s z t,fun _ e=>nomatch e⟩
 | int i =>
  obtain⟨t,rfl⟩:=r;cases (show T="int" from ty);exact⟨typeIs_int s i t,fun _ e=>nomatch e⟩
 | ref p =>
  cases r;rcases ty with ⟨rfl,xs,hq⟩|⟨rfl,o,hk,hc,hd⟩|⟨rfl,hk⟩|⟨rfl,S,n,hk⟩
  ·obtain⟨its,_,pl,_⟩:=I.list hq;refine⟨pl.isList.typeIs,fun a e=>?_⟩;cases e;obtain⟨o,n,e,c,hd,_⟩:=pl;exact⟨o,e,hd⟩
  ·refine⟨⟨o,I.kIn p o hk,hc⟩,fun a e=>?_⟩;cases e;exact⟨o,I.kIn _ o hk,hd⟩
  ·have z:∃o,s.heap.get? p=some o/\o.ExactDict:=by
    rcases hk with ⟨kvs,hk⟩|⟨kvs,hk⟩
    ·obtain⟨_,_,_,_,o,_,_,e,ex,_⟩:=I.hok p _ hk;exact⟨o,e,ex⟩
    ·obtain⟨_,_,_,_,o,_,_,e,ex,_⟩:=I.hok p _ hk;exact⟨o,e,ex⟩
   obtain⟨o,e,ex⟩:=z;refine⟨⟨o,e,ex.1⟩,fun a e2=>?_⟩;cases e2;exact⟨o,e,ex.2.1⟩
  ·obtain⟨o,_,_,_,e,ex,_⟩:=I.hok p _ hk;refine⟨⟨o,e,ex.1⟩,fun a e2=>?_⟩;cases e2;exact⟨o,e,ex.2.1⟩
 | _=>exact False.elim ty
def tBM(K:qab)(T:String)(r:V->List V->Hp->VK->Prop)(to:TE)(t:TA):TE:=fun σ H Q=>to σ H fun x H1=>tyV K T x H1/\t σ H1 fun xs H2=>r x xs H2 Q
variable {o e:Expr} {es:List Expr} {to:TE} {t:TA} {name:Str} {apos cpos:Pos} {T id:String} {r:V→List V→Hp→VK→Prop}
def pe_bm(pa:PlainAttrs T)(slot:Slot T name id)(hty:typeOf (.builtin id)=pure (.type "method_descriptor"))(hm:MtR X id r)(ho:PE X o to)(ha:PA X (e::es) t)
  (hbase:attributeBase o name X.env (eval o X.env)=eval o X.env:=by rfl)
  (hfew:((backTo cpos (starEach (e::es) X.env)).all (fun x=>!x.1) && (backToKw cpos (keywordEach [] X.env)).all (fun x=>x.1.isSome)
   && decide ((e::es).length+([]:List Keyword).length+(if ([]:List Keyword).isEmpty then 0 else 1)<30))=true:=by rfl)
  (hline:(apos.endLine == cpos.line)=true:=by rfl) (hs:starEach (e::es) X.env=(false,eval e X.env)::starEach es X.env:=by rfl) (hplain:(backTo cpos (starEach es X.env)).any (·.1)=false:=by rfl) :
  PE X (.Call (.Attribute o name apos) (e::es) [] cpos) (tBM X.K T r to t):=by
 intro Ie s σ H Q I h;refine wpAny_Call_method_late hbase hfew hline rfl (thn (ho Ie s σ H _ I h) fun v s1 ⟨x,H1,I1,r1,ty,q1⟩=>?_);obtain⟨h1,h2⟩:=tyV_is I1 r1 ty;refine⟨T,id,pa,slot,hty,h1,h2,?_⟩;have hA:=ha cpos Ie s1 σ H1 _ I1 q1;rw[hs] at hA ⊢;refine Calls.callWith_builtin (by show (false || (backTo cpos (starEach es X.env)).any (·.1))=false;rw[hplain] <;> rfl) (Calls.evalArgs_plain ?_);exact thn hA fun us s2 ⟨vs,H2,I2,r2,q2⟩=>hm Ie s2 σ H2 x vs v us Q I2 r1 r2 q2
end
def MtM(X:Cx)(id:String)(r:V->List V->Hp->VK->Prop):Prop :=
 ∀(Ie:List (Addr × Obj)) (s:Shared) (σ:St) (H:Hp) (x:V) (xs:List V) (v:Value) (us:List Value) (Q:VK),Inv X Ie σ H s->aX x v->aB xs us->r x xs H Q ->
  wpAny (model X.prog X.w) X.A (call (.builtin id) (v::us)) (EP X Ie σ Q) X.xe s
def aB.zero(h:aB [] us):us=[]:=by cases h;rfl
def aB.one(h:aB [x] us):∃u,us=[u]/\aX x u:=by
 cases h with|cons r t=>exact⟨_,by rw[aB.zero t],r⟩
def aB.rep(h:aB xs us):∀k:Nat,aB (List.replicate k xs).flatten (List.replicate k us).flatten
 | 0=>.nil
 | k+1=>by
  rw[qaX,qaX,qbk,qbk];exact aB.append h (aB.rep h k)
def px(its:List Value):∀(k:Nat) (acc:List Value),
  List.foldl (fun x1 x2=>x1++x2) acc.toArray (List.replicate k its.toArray)=(acc++(List.replicate k its).flatten).toArray
 | 0,acc=>by simp
 | k+1,acc=>by
  have e:acc.toArray++its.toArray=(acc++its).toArray:=by simp
  have e2:(acc++its)++(List.replicate k its).flatten=acc++(List.replicate (k+1) its).flatten:=by
   rw[qaX,qbk,qbh]
  rw[<-e2,<-px its k (acc++its),<-e,qaX,qcg]
section
variable {X:Cx} {Ie:List (Addr × Obj)} {σ:St} {H:Hp} {s:Shared} {l b:Addr} {xs ys zs:List V}
def Inv.lset{its its':List Value}{n:Nat}{f:Array Value->Array Value}{t':Nat}(I:Inv X Ie σ H s)(hH:H l=some (.lst xs))
  (e:s.heap.get? l=some { cls:=.type "list",data:=.seq its.toArray n}) (hf:f its.toArray=its'.toArray) (hv:aB ys its') (hz:ys.length<=sizeLine) :
  Inv X Ie σ (upd H l (.lst ys)) { s with heap:=s.heap.update l (Obj.mapSeq f),toks:=t'}:=by
 have q:=PySem.IsL.update e f;rw[hf] at q;refine I.write (x:=l) (e:=l) (by rw[hH];exact trivial) (.inl rfl) (fun b' u hb hu=>(qbI s.heap (Obj.mapSeq f) (Ne.symm hb)).trans hu) ⟨_,q⟩ ?_;exact⟨hz,its',_,hv,q⟩
def Inv.lnew(I:Inv X Ie σ H s)(hv:aB ys its)(hz:ys.length<=sizeLine) :
  Inv X Ie σ (upd H s.heap.objs.size (.lst ys)) { s with heap:=s.heap.push { cls:=.type "list",data:=.seq its.toArray},toks:=t'} :=
 I.laid (fun _ _ q=>qad _ q) (qah _) ⟨hz,its,0,hv,qar _ rfl⟩
def Inv.fresh(I:Inv X Ie σ H s):H s.heap.objs.size=none:=I.hok.fresh (qah _)
def Inv.lstM(I:Inv X Ie σ H s)(hH:H l=some (.lst xs)):xs.length<=sizeLine/\∃(its:List Value) (n:Nat),aB xs its/\xs.length=its.length/\s.heap.get? l=some { cls:=.type "list",data:=.seq its.toArray n}:=by
 obtain⟨z,its,n,r,e⟩:=I.hok l _ hH;exact⟨z,its,n,r,r.length,e⟩
def mm(h:n<=sizeLine):Builtin.List.listTooLong n=false:=by
 unfold Builtin.List.listTooLong;exact decide_eq_false (by ext)
end
section
variable {X:Cx}
def rAppend:V->List V->Hp->VK->Prop:=fun x vs H Q=>∃l xs y,x=.ref l/\vs=[y]/\H l=some (.lst xs)/\xs.length<sizeLine/\Q .non (upd H l (.lst (xs++[y])))
def pT:MtM X "list.append" rAppend:=by
 intro Ie s σ H x vs v us Q I rx rv h;obtain⟨l,xs,y,rfl,rfl,hH,hz,q⟩:=h;cases rx;obtain⟨u,rfl,ru⟩:=rv.one;obtain⟨z,its,n,r,hl,e⟩:=I.lstM hH;refine call_meets F.slot_list_append ⟨_,e,rfl⟩ F.entry_list_append (F.args_list_append_2 _ _) (PySem.list_append l its.toArray n u (by rw[qak];ext)) ⟨e,?_⟩;refine⟨.non,_,I.lset (its':=its++[u]) hH e (by simp) (r.append (.cons ru .nil)) ?_,rfl,q⟩;rw[qaR,List.length_singleton];ext
def rExtend:V->List V->Hp->VK->Prop:=fun x vs H Q=>∃l b xs zs,x=.ref l/\vs=[.ref b]/\H l=some (.lst xs)/\H b=some (.lst zs)/\xs.length+zs.length<=sizeLine/\Q .non (upd H l (.lst (xs++zs)))
def wZ:MtM X "list.extend" rExtend:=by
 intro Ie s σ H x vs v us Q I rx rv h;obtain⟨l,b,xs,zs,rfl,rfl,hH,hB,hz,q⟩:=h;cases rx;obtain⟨u,rfl,ru⟩:=rv.one;cases ru;obtain⟨z,its,n,r,hl,e⟩:=I.lstM hH;obtain⟨z2,its2,n2,r2,hl2,e2⟩:=I.lstM hB;have hsz:its.toArray.size+its2.toArray.size<=sizeLine:=by rw[qak,qak];ext
 have hlong:¬(!its.toArray.isEmpty && Builtin.List.listTooLong (its.toArray.size+its2.toArray.size))=true:=by
  rw[mm hsz,qcE];exact qaK
 refine call_meets F.slot_list_extend ⟨_,e,rfl⟩ F.entry_list_extend (F.args_list_extend_2 _ _)
  (AutoSeq1.list_extend_list_list_0 l its.toArray n b its2.toArray n2 hlong (by rw[qak];ext) (by ext)) ⟨e,e2,?_⟩
 refine⟨.non,_,I.lset (its':=its++its2) hH e (by simp) (r.append r2) ?_,rfl,q⟩;rw[qaR];ext
def rCat:R2:=fun x y H Q=>∃l b xs zs,x=.ref l/\y=.ref b/\H l=some (.lst xs)/\H b=some (.lst zs)/\xs.length+zs.length<=sizeLine/\∀p,H p=none->Q (.ref p) (upd H p (.lst (xs++zs)))
def op_cat:OpR X (binaryOp .Add) rCat:=by
 intro Ie s σ H x y v u Q I rx ry h;obtain⟨l,b,xs,zs,rfl,rfl,hH,hB,hz,q⟩:=h;cases rx;cases ry;obtain⟨z,its,n,r,hl,e⟩:=I.lstM hH;obtain⟨z2,its2,n2,r2,hl2,e2⟩:=I.lstM hB;refine PySem.P.add_list e e2 ?_ (by rw[qak,qak];ext);have ea:its.toArray++its2.toArray=(its++its2).toArray:=by simp
 rw[ea];exact⟨.ref _,_,I.lnew (t':=s.toks) (r.append r2) (by rw[qaR];ext),rfl,q _ I.fresh⟩
def rRep:R2:=fun x y H Q=>∃l k xs,x=.ref l/\y=.int k/\H l=some (.lst xs) /\ -(2 ^ 63)<=k/\k<2 ^ 63/\xs.length * k.toNat<=sizeLine /\
 ∀p,H p=none->Q (.ref p) (upd H p (.lst (List.replicate k.toNat xs).flatten))
def u7{α:Type}(xs:List α)(k:Nat):(List.replicate k xs).flatten.length=k * xs.length:=by
 induction k with
 | zero=>simp
 | succ k ih=>rw[qaX,qbk,qaR,ih,Nat.succ_mul,Nat.add_comm]
def op_rep:OpR X (binaryOp .Mult) rRep:=by
 intro Ie s σ H x y v u Q I rx ry h;obtain⟨l,k,xs,rfl,rfl,hH,h1,h2,hz,q⟩:=h;cases rx;obtain⟨t,rfl⟩:=ry;obtain⟨z,its,n,r,hl,e⟩:=I.lstM hH;have hlen:its.toArray.size * k.toNat<=sizeLine:=by rw[qak,<-hl];exact hz
 have hcap:¬its.toArray.size * k.toNat>(2 ^ 63 - 1) / 8:=by
  have:(sizeLine:Nat)<=(2 ^ 63 - 1) / 8:=by decide
  ext
 have hfit:¬(!Builtin.List.listFitsIndex k)=true:=by
  rw[fitsIndex_both h1 h2];exact qaK
 have hlong:¬Builtin.List.listTooLong (its.toArray.size * k.toNat)=true:=by
  rw[mm hlen];exact qaK
 have hnew:List.foldl (fun x1 x2=>x1++x2) #[] (List.replicate (if its.toArray.isEmpty=true then 0 else k.toNat) its.toArray)=(List.replicate k.toNat its).flatten.toArray:=by
  have f0:∀m:Nat,List.foldl (fun x1 x2=>x1++x2) #[] (List.replicate m its.toArray)=(List.replicate m its).flatten.toArray:=fun m=>by
   have:=px its m []
   rw[qch] at this;exact this
  rw[f0]
  cases its with
  | nil=>simp
  | cons a r'=>rw[qal (by simp)]
 refine wpAny_binaryOp_repeat_ref (T:="list") (U:="int") (by decide) ⟨_,e,rfl⟩ (fun s'=>typeIs_int s' k t) noFill_list_mul F.fills_int_mul F.slot_int_rmul repeat_list F.slot_int_index.lookup
  (call_meets F.slot_int_rmul (typeIs_int s k t) F.entry_int_rmul (F.args_int_rmul_2 _ _) (int___rmul___int_list k t l its.toArray n)
   ⟨e,rfl,⟨_,e,rfl⟩,call_meets F.slot_list_mul ⟨_,e,rfl⟩ F.entry_list_mul (F.args_list_mul_2 _ _) (AutoListH.list___mul___list_int_3 l its.toArray n k t hfit hcap hlong) ⟨e,?_⟩⟩)
 rw[hnew];exact⟨.ref _,_,I.lnew (t':=s.toks) (r.rep k.toNat) (by rw[u7,Nat.mul_comm];exact hz),rfl,q _ I.fresh⟩
end
section
variable {prog:Program} {w:World} {A:Around} {E:Value→Shared→Prop} {s:Shared}
end
section
variable {X:Cx}
end
end L2
namespace Att
open PySem PySem.W PySem.Calls PyProof.Rows
def nS:∀(ns:List Int) (vs:List Value),WellAll P h vs (ns.map WData.int)->IntsAre vs ns:=by
 intro ns
 induction ns with
 | nil =>
  intro vs w;rw[qcH] at w;cases w;exact .nil
 | cons n ns ih =>
  intro vs w;rw[qaL] at w
  cases w with
  | cons a b =>
   cases a;exact .cons _ _ (ih _ b)
def yi{l:OpenLaw}{n:Nat}(hn:l.most=some n){P:Params}{h:Heap}{args:List WData}{vals:List Value}
  (hpre:l.row.toRowW.claim.pre args=true) (hwl:WellAll P h vals args) :
  ∃a vs ns,vals=[Value.ref a]/\args=[WData.list (ns.map WData.int)]/\h.get? a=some { cls:=.type "list",data:=.seq vs.toArray}/\IntsAre vs ns/\ns.length<=n:=by
 have hsh:WShape.hasAll [] args [.list .int]=true:=(pre_splitW hpre).1;have hc:l.pre.holds [] { args:=args}=true:=(pre_splitW hpre).2;obtain⟨d,r,rfl,h1,h2⟩:=hasAllW_cons hsh;obtain rfl:=hasAllW_nil h2;obtain⟨xs,rfl,h3⟩:=hasW_list h1;obtain⟨ns,rfl⟩:=items_int h3;have hlen:ns.length<=n:=by
  unfold OpenLaw.pre at hc;have h4:(WTm.not (.lt (.lit (.int (n:Int))) (.len (.arg 0)))).holds [] { args:=[.list (ns.map .int)]}=true:=by
   have h4:=(holds_andW hc).1;rw[hn] at h4;exact h4
  have h5:=condW_of h4 (w_not (w_lt w_lit (w_len_list (w_arg rfl))));rw[qaW] at h5;refine Nat.le_of_not_lt fun q=>?_;have q':(n:Int)<((ns.length:Nat):Int):=by ext
  first
   | (rw[decide_eq_true q'] at h5;exact absurd h5 (by decide))
   | (simp at h5;ext)
 cases hwl with
 | cons w1 w2 =>
  cases w2
  cases w1 with
  | list ho hall=>exact⟨_,_,ns,rfl,rfl,ho,nS ns _ hall,hlen⟩
def x3(l:OpenLaw)(args:List WData):l.row.toRowW.claim.post args (.bool true) args=true :=
 postW_of (r:=l.row.toRowW) (X:=(true == true))
  (show WShape.has [] (.bool true) .bool=true by first | rfl | decide | simp[WShape.has,WShape.arms,WShape.armsAll])
  (show (WTm.eq .res (.lit (.bool true))).value [] { args:=args,res:=some (.bool true),after:=args}=some (.bool (true == true)) from w_eq_bool (w_res rfl) w_lit) rfl
def t8{l:OpenLaw}{n:Nat}{q:Program}{loose:List Str}{XP:(Str->Option Value)->Heap->Prop}{YP:World->Heap->Prop}{d:DefRec}
  (hn:l.most=some n) (hdf:d.params.defaults=[])
  (call:∀(w:World) (s₀ s₁:Shared) (mg mb:Str->Option Value) (fa:Addr) (o:Obj) (pm cd doc:Value) (a:Addr) (vs:List Value) (ns:List Int),
   Ground q loose [] XP w s₀ mg mb s₁.heap->YP w s₁.heap ->
   s₁.heap.get? fa=some o->o.data=.func (docDef d.name d.params d.body d.scope pm cd doc)->s₁.heap.CodeRec cd d.name->mg d.name=some (.ref fa) ->
   s₁.heap.get? a=some { cls:=.type "list",data:=.seq vs.toArray}->IntsAre vs ns->ns.length<=n->s₁.gens=#[] ->
   codeAny (model l.prog w) callerA (.call (.ref fa) ⟨[.ref a],[]⟩) (fun r s'=>r=.ok (.ret (.bool true))/\OldK s₁.heap s'.heap/\s'.os=s₁.os/\AllBare s'.gens) s₁) :
  WalkO q loose XP YP l.row.toRowW d [] (fun f vs=>PySem.call f vs):=by
 intro w s₀ s₁ mg mb G Y fa o pm cd doc dV kV ho hd hcd hD hmg hg args vals as hpre hlay hrd hwl hlo;obtain rfl:dV=.none:=Dflts.none hD hdf;obtain rfl:kV=.none:=Dflts.noKw hD;obtain⟨a,vs,ns,rfl,rfl,hobj,hints,hlen⟩:=yi hn hpre hwl;refine enter_call (codeAny_mono (call w s₀ s₁ mg mb fa o pm cd doc a vs ns G Y ho (fd_plain hd) hcd hmg hobj hints hlen hg) fun r s' hq=>?_);obtain⟨rfl,h2,h3,h4⟩:=hq;exact⟨.inl ⟨.bool true,.bool true,[],rfl,fun _=>rfl,.bool true,x3 l _,fun _=>⟨List.Pairwise.nil,fun _ hm=>(nomatch hm)⟩⟩,h2,h3,h4⟩
section
variable {prog:Program} {w:World} {A:Around} {E:Value→Shared→Prop} {s:Shared} {K:Frag}
end
end Att
namespace L2
open PySem PySem.Spec PyProof.Rows
def pV:∀{vs:List Value} {ns:List Int},IntsAre vs ns->aB (ns.map V.int) vs
 | _,_,.nil=>.nil
 | _,_,.cons n t h=>.cons ⟨t,rfl⟩ (pV h)
def Only(H:Hp):Prop:=∀b,H b=none\/∃o xs,H b=some (.frz o (.lst xs))
def zm{P:Program}{w:World}{K:qab}{mg mb:Str->Option Value}{CX:CXT}{k:Nat}{fa a:Addr}{fd:FuncData}{x:Str}{sp:Sp}{s₁:Shared}{vs:List Value}{ns:List Int}
  (KX:K.In s₁.heap) (hns:s₁.heap.Ns mainGlobals mg) (hb:s₁.heap.Ns builtinsNs mb) (hbb:∀x:Str,x≠"__name__"->mb x=bootBuiltins x) (hlim:s₁.heap.NoLimit) (hg:s₁.gens=#[])
  (ha:s₁.heap.get? a=some { cls:=.type "list",data:=.seq vs.toArray}) (hi:IntsAre vs ns) (hl:ns.length<=sizeLine) (hr:Room k callerA)
  (F:∀base:Heap,K.In base->base.Ns mainGlobals mg->FnOk P w K mg base CX k fa fd [x] sp) (hbind:∀(s:Shared) (u:Value),BindsTo s fd ⟨[u],[]⟩ [(x,u)])
  (hsp:∀H:Hp,Only H->SqL K H a (ns.map V.int)->sp [.ref a] H (fun v _=>v=.bl true) fun _ _ _=>False)
  (hCX:∀H e s',CX [] H s₁ (fun _ _ _=>False) e s'->False) :
  codeAny (model P w) callerA (.call (.ref fa) ⟨[.ref a],[]⟩) (fun r s'=>r=.ok (.ret (.bool true))/\OldK s₁.heap s'.heap/\s'.os=s₁.os/\AllBare s'.gens) s₁:=by
 have rv:=pV hi;have lenV:=hi.length;have core:∀H:Hp,Only H->SqL K H a (ns.map V.int)->HOk P w H s₁.heap->(∀b,H b≠none->b=a)->(H a≠none->K.lookup a=none) ->
   codeAny (model P w) callerA (.call (.ref fa) ⟨[.ref a],[]⟩) (fun r s'=>r=.ok (.ret (.bool true))/\OldK s₁.heap s'.heap/\s'.os=s₁.os/\AllBare s'.gens) s₁:=by
  intro H hO hS hok hA hK;have base_of:∀{b:Addr} {o:Obj},s₁.heap.get? b=some o->H b=none->(iX s₁.heap H).get? b=some o:=fun e n=>Ak e n;have noA:∀{b:Addr} {o:Obj} {es:Array DictEntry} {ep:Nat},s₁.heap.get? b=some o->o.data=.dict es ep->H b=none:=fun {b o es ep} e d=>by
   cases q:H b with
   | none=>rfl
   | some u =>
    have e':b=a:=hA b (by rw[q];simp);subst e';rw[ha] at e;cases e;have d':Data.seq vs.toArray _=Data.dict es ep:=d;cases d'
  have nsK:∀{b:Addr} {m:Str->Option Value},s₁.heap.Ns b m->(iX s₁.heap H).Ns b m:=fun {b m} ⟨o,es,ep,e,d,r⟩=>⟨o,es,ep,base_of e (noA e d),d,r⟩
  have hKb:K.In (iX s₁.heap H):=fun b o e=>base_of (KX b o e) (by
   cases q:H b with
   | none=>rfl
   | some u =>
    have e':b=a:=hA b (by rw[q];simp);subst e'
    rw[hK (by rw[q];simp)] at e;cases e)
  have hM:Mod K mg (iX s₁.heap H):=⟨hKb,nsK hns,⟨mb,nsK hb,hbb⟩,let ⟨mc,h1,h2⟩:=hlim;⟨mc,nsK h1,h2⟩⟩;have e0:Env0 P w K mg (iX s₁.heap H) callerA [] s₁ H:=⟨rfl,hM,fun b o e=>of_hidT e,Nat.le_of_eq (xG _ _),trivial,fun b hb=>absurd (show b∈([]:List Addr) from hb) (by simp),hok,.of_eq hg⟩;refine codeAny_mono ((F _ hKb (nsK hns)).run callerA [] s₁ H ⟨[.ref a],[]⟩ [.ref a] [.ref a] _ _ hr e0 (hbind s₁ (.ref a)) (.cons rfl .nil) (hsp H hO hS)) fun r s' h=>?_
  cases r with
  | error e=>exact (hCX H e s' h).elim
  | ok fl =>
   cases fl with
   | next=>exact False.elim h
   | brk=>exact False.elim h
   | cont=>exact False.elim h
   | ret u =>
    obtain⟨v,H',os,bare,un,hok',r',q⟩:=h;have q':v=.bl true:=q;subst q';obtain rfl:u=Value.bool true:=r';refine⟨rfl,OldK.of_keep fun b o e=>?_,os,bare⟩
    cases q:H b with
    | none=>exact un.keep b o e q (by intro z;exact absurd (show b∈([]:List Addr) from z) (by simp)) (by simp)
    | some u =>
     rcases hO b with z|⟨ob,xs,z⟩
     ·rw[q] at z;cases z
     ·have z2:=un.frzs b ob _ z;obtain⟨e1,_⟩:=hok b _ z;obtain⟨e2,_⟩:=hok' b _ z2;rw[e] at e1;cases e1;exact e2
 cases hk:K.lookup a with
 | some o =>
  have e:=KX a o hk;rw[ha] at e;cases e;refine core (fun _=>none) (fun _=>.inl rfl) (.inr ⟨_,vs.toArray,_,hk,rfl,rfl,rfl,by rw[qak,lenV];exact hl,by simpa using rv⟩) (fun b u z=>by have z':(none:Option HO)=some u:=z;cases z') (fun b z=>absurd rfl z) fun z=>absurd rfl z
 | none =>
  refine core (fun b=>if b=a then some (.frz { cls:=.type "list",data:=.seq vs.toArray} (.lst (ns.map V.int))) else none) (fun b=>?_) (.inl (.inr ⟨{ cls:=.type "list",data:=.seq vs.toArray},qai rfl⟩)) (fun b u z=>?_) (fun b z=>?_) fun _=>hk
  ·by_cases hb:b=a
   ·exact .inr ⟨_,_,qai hb⟩
   ·exact .inl (qal hb)
  ·by_cases hb:b=a
   ·have z':=(qai hb).symm.trans z;cases z';subst hb;exact⟨ha,by rw[qaW];exact hl,vs,_,rv,ha⟩
   ·have z':=(qal hb).symm.trans z;cases z'
  ·by_cases hb:b=a
   ·exact hb
   ·exact absurd (qal hb) z
abbrev KOf{K:qab}{h:Heap}(_:K.In h):qab:=K
def walk_of{l:PySem.W.OpenLaw}{n k:Nat}{q:Program}{loose:List Str}{XP:(Str->Option Value)->Heap->Prop}{YP:World->Heap->Prop}{d:DefRec}{K:Params->qab}{CX:World->CXT}{sp:World->Sp}{x:Str}
  (hn:l.most=some n) (hn2:n<=sizeLine) (hdf:d.params.defaults=[]) (hr:Room k callerA)
  (hY:∀(w:World) (h:Heap),YP w h->(K w.params).In h)
  (F:∀(w:World) (mg:Str->Option Value) (fa:Addr) (h:Heap),(K w.params).In h->h.Ns mainGlobals mg->mg d.name=some (.ref fa) ->
   ∃fd:FuncData,(∀(s:Shared) (u:Value),BindsTo s fd ⟨[u],[]⟩ [(x,u)]) /\
    ∀base:Heap,(K w.params).In base->base.Ns mainGlobals mg->FnOk l.prog w (K w.params) mg base (CX w) k fa fd [x] (sp w))
  (hsp:∀(w:World) (H:Hp) (a:Addr) (ns:List Int),ns.length<=n->Only H->SqL (K w.params) H a (ns.map V.int)->sp w [.ref a] H (fun v _=>v=.bl true) fun _ _ _=>False)
  (hCX:∀(w:World) (H:Hp) (s:Shared) (e:Value) (s':Shared),CX w [] H s (fun _ _ _=>False) e s'->False) :
  PySem.W.WalkO q loose XP YP l.row.toRowW d [] (fun f vs=>PySem.call f vs):=by
 refine Att.t8 hn hdf fun w s₀ s₁ mg mb fa o pm cd doc a vs ns G Y ho hd hcd hmg hobj hints hlen hg=>?_;have KX:=hY w _ Y;obtain⟨fd,hb,hF⟩:=F w mg fa _ KX G.T.g hmg;exact zm KX G.T.g G.T.b G.T.builtins G.T.nolimit hg hobj hints (qaw hlen hn2) hr hF hb (fun H hO hS=>hsp w H a ns hlen hO hS) fun H e s'=>hCX w H s₁ e s'
def gf(s:Stmt):Arguments:=match s with
 | .FunctionDef _ a _ _ _ _ _ _ _ _=>a
 | _=>{ posonlyargs:=[],args:=[],vararg:=none,kwonlyargs:=[],kw_defaults:=[],kwarg:=none,defaults:=[]}
def aO(s:Stmt):List Stmt:=match s with
 | .FunctionDef _ _ b _ _ _ _ _ _ _=>b
 | _=>[]
def aM(s:Stmt):Scope:=match s with
 | .FunctionDef _ _ _ _ _ _ sc _ _ _=>sc
 | _=>{ kind:=.function,names:=[],isGenerator:=false,isCoroutine:=false}
structure Fun (K:qab) (x qual:Str) (st:Stmt) (f:Addr) (fd:FuncData):Prop where
 ex:∃(oc:Value) (od:Option Addr) (kV doc pm:Value) (an:Option Addr) (cdv ct:Value) (osl:Array (Option Value)),
  fd=PySem.W.fnOf x qual (gf st) (aO st) (aM st) .none kV doc pm an cdv ct/\K.lookup f=some ⟨oc,od,.func fd,osl⟩/\PySem.W.codeIn K cdv qual=true
 kp:PySem.W.keepIn K (.ref f)=true
section
variable {P:Program} {w:World} {K:qab} {mg:Str→Option Value} {base:Heap}
def Fun.binds{x qual:Str}{st:Stmt}{f:Addr}{fd:FuncData}{ps:List Str}(F:Fun K x qual st f fd)
  (h:∀(kV doc pm:Value) (an:Option Addr) (cdv ct:Value) (us:List Value),us.length=ps.length->bindArgs (PySem.W.fnOf x qual (gf st) (aO st) (aM st) .none kV doc pm an cdv ct) ⟨us,[]⟩=pure (ps.zip us)):nX K fd ps []:=by
 obtain⟨oc,od,kV,doc,pm,an,cdv,ct,osl,rfl,lk,hcd⟩:=F.ex;exact .all (h kV doc pm an cdv ct)
def fun_mk{x qual:Str}{st:Stmt}{f:Addr}{oc:Value}{od an:Option Addr}{osl:Array (Option Value)}{kV doc pm cdv ct:Value}(l:K.lookup f=some ⟨oc,od,.func (PySem.W.fnOf x qual (gf st) (aO st) (aM st) .none kV doc pm an cdv ct),osl⟩)
  (c:PySem.W.codeIn K cdv qual=true) (k:PySem.W.keepIn K (.ref f)=true):Fun K x qual st f (PySem.W.fnOf x qual (gf st) (aO st) (aM st) .none kV doc pm an cdv ct):=⟨⟨oc,od,kV,doc,pm,an,cdv,ct,osl,rfl,l,c⟩,k⟩
end
section
variable {X:Cx}
end
end L2
namespace MM
open PySem PySem.Spec PyProof.Rows L2
inductive PV where
 | non | bl (b:Bool) | int (i:Int) | str (x:Str) | tup (xs:List PV) | frl (xs:List PV) | loc (n:Nat)
structure MExc where
 cls:Str
 fs:List (Str × PV):=[]
inductive MO where
 | lst (xs:List PV)
 | dic (kvs:List (PV × PV))
 | exc (x:MExc)
abbrev MH:=List MO
abbrev PSt:=List (Option PV)
inductive Out (α:Type) where
 | ok (a:α) (h:MH)
 | exc (x:MExc) (h:MH)
 | bad
def Out.bind{α β:Type}(o:Out α)(f:α->MH->Out β):Out β:=match o with
 | .ok a h=>f a h
 | .exc x h=>.exc x h
 | .bad=>.bad
@[simp] theorem Out.bind_ok(a:α)(h:MH)(f:α->MH->Out β):(Out.ok a h).bind f=f a h:=rfl
@[simp] theorem Out.bind_exc(x:MExc)(h:MH)(f:α->MH->Out β):(Out.exc x h).bind f=.exc x h:=rfl
@[simp] theorem Out.bind_bad(f:α->MH->Out β):(Out.bad:Out α).bind f=.bad:=rfl
inductive SOut where
 | nx (σ:PSt) (h:MH)
 | rt (v:PV) (h:MH)
 | bk (σ:PSt) (h:MH)
 | ct (σ:PSt) (h:MH)
 | exc (x:MExc) (σ:PSt) (h:MH)
 | rse (x:MExc) (σ:PSt) (h:MH)
 | bad
def Out.ne{α:Type}(o:Out α):Out α:=match o with
 | .exc _ _=>.bad
 | o=>o
@[simp] theorem Out.ne_ok(a:α)(h:MH):(Out.ok a h).ne=.ok a h:=rfl
@[simp] theorem Out.ne_bad:(Out.bad:Out α).ne=.bad:=rfl
@[simp] theorem Out.ne_ne(o:Out α):o.ne.ne=o.ne:=by cases o <;> rfl
def SqF(K:qab)(H:Hp)(a:Addr)(ys:List V):Prop :=
 (∃o,H a=some (.frz o (.lst ys))) \/
  ∃(o:Obj) (its:Array Value) (n:Nat),K.lookup a=some o/\o.cls=.type "list"/\o.dict=none/\o.data=.seq its n/\its.size<=sizeLine/\aB ys its.toList
def SqF.sq{K:qab}{H:Hp}{a:Addr}{ys:List V}(h:SqF K H a ys):SqL K H a ys:=by
 rcases h with h|h
 ·exact .inl (.inr h)
 ·exact .inr h
mutual
inductive RP (K:qab) (ρ:List Addr) (H:Hp):PV->V->Prop where
 | non:RP K ρ H .non .non
 | bl (b:Bool):RP K ρ H (.bl b) (.bl b)
 | int (i:Int):RP K ρ H (.int i) (.int i)
 | str (x:Str):RP K ρ H (.str x) (.str x)
 | tup {xs:List PV} {a:Addr} {ys:List V} (s:SqT K H a ys) (r:RPs K ρ H xs ys):RP K ρ H (.tup xs) (.ref a)
 | frl {xs:List PV} {a:Addr} {ys:List V} (s:SqF K H a ys) (r:RPs K ρ H xs ys):RP K ρ H (.frl xs) (.ref a)
 | loc {n:Nat} {a:Addr} (e:ρ[n]?=some a):RP K ρ H (.loc n) (.ref a)
inductive RPs (K:qab) (ρ:List Addr) (H:Hp):List PV->List V->Prop where
 | nil:RPs K ρ H [] []
 | cons {x:PV} {y:V} {xs:List PV} {ys:List V} (r:RP K ρ H x y) (t:RPs K ρ H xs ys):RPs K ρ H (x::xs) (y::ys)
end
structure Le (ρ:List Addr) (H:Hp) (ρ':List Addr) (H':Hp):Prop where
 pre:∃m,ρ'=ρ++m
 tup:∀a xs,H a=some (.tup xs)->H' a=some (.tup xs)
 frz:∀a o u,H a=some (.frz o u)->H' a=some (.frz o u)
def Le.refl(ρ:List Addr)(H:Hp):Le ρ H ρ H:=⟨⟨[],by simp⟩,fun _ _ h=>h,fun _ _ _ h=>h⟩
def Le.trans(a:Le ρ H ρ1 H1)(b:Le ρ1 H1 ρ2 H2):Le ρ H ρ2 H2:=by
 obtain⟨m,e⟩:=a.pre;obtain⟨m',e'⟩:=b.pre;exact⟨⟨m++m',by rw[e',e,qbh]⟩,fun c xs h=>b.tup c xs (a.tup c xs h),fun c o u h=>b.frz c o u (a.frz c o u h)⟩
def Le.get{ρ ρ':List Addr}{H H':Hp}(l:Le ρ H ρ' H'){n:Nat}{a:Addr}(e:ρ[n]?=some a):ρ'[n]?=some a:=by
 obtain⟨m,e'⟩:=l.pre;rw[e',qan (qag.mp e).1];exact e
def Le.sqt{K:qab}{ρ ρ':List Addr}{H H':Hp}(l:Le ρ H ρ' H'){a:Addr}{xs:List V}(h:SqT K H a xs):SqT K H' a xs:=by
 rcases h with (h|⟨o,h⟩)|h
 ·exact .inl (.inl (l.tup _ _ h))
 ·exact .inl (.inr ⟨o,l.frz _ _ _ h⟩)
 ·exact .inr h
def Le.sqf{K:qab}{ρ ρ':List Addr}{H H':Hp}(l:Le ρ H ρ' H'){a:Addr}{xs:List V}(h:SqF K H a xs):SqF K H' a xs:=by
 rcases h with ⟨o,h⟩|h
 ·exact .inl ⟨o,l.frz _ _ _ h⟩
 ·exact .inr h
section
variable {K:qab} {ρ ρ':List Addr} {H H':Hp}
def RP.le(l:Le ρ H ρ' H'){x:PV}{y:V}(r:RP K ρ H x y):RP K ρ' H' x y :=
 RP.rec (motive_1:=fun x y _=>RP K ρ' H' x y) (motive_2:=fun x y _=>RPs K ρ' H' x y) .non .bl .int .str (fun s _ i=>.tup (l.sqt s) i) (fun s _ i=>.frl (l.sqf s) i) (fun e=>.loc (l.get e)) .nil (fun _ _ a b=>.cons a b) r
def RPs.le(l:Le ρ H ρ' H')(r:RPs K ρ H xs ys):RPs K ρ' H' xs ys:=by
 induction xs generalizing ys with
 | nil=>cases r;exact .nil
 | cons x xs ih=>cases r with | cons a t=>exact .cons (a.le l) (ih t)
def RPs.length(r:RPs K ρ H xs ys):xs.length=ys.length:=by
 induction xs generalizing ys with
 | nil=>cases r;rfl
 | cons x xs ih=>cases r with | cons a t=>exact congrArg (·+1) (ih t)
def RPs.get{xs:List PV}{ys:List V}{i:Nat}{x:PV}(r:RPs K ρ H xs ys)(e:xs[i]?=some x):∃y,ys[i]?=some y/\RP K ρ H x y:=by
 induction xs generalizing ys i with
 | nil=>cases e
 | cons x xs ih =>
  cases r with
  | cons a t =>
   cases i with
   | zero=>cases e;exact⟨_,rfl,a⟩
   | succ i=>have z:=@ih _ i t e;exact z
def RPs.set(r:RP K ρ H x u)(i:Nat)(q:RPs K ρ H xs us):RPs K ρ H (xs.set i x) (us.set i u):=by
 induction xs generalizing us i with
 | nil=>cases q;exact .nil
 | cons x xs ih =>
  cases q with
  | cons a t =>
   cases i with
   | zero=>exact .cons r t
   | succ i=>exact .cons a (ih i t)
def RPs.append(r:RPs K ρ H xs us)(s:RPs K ρ H ys ws):RPs K ρ H (xs++ys) (us++ws):=by
 induction xs generalizing us with
 | nil=>cases r;exact s
 | cons x xs ih=>cases r with | cons a t=>exact .cons a (ih t)
def RPs.take(n:Nat)(r:RPs K ρ H xs us):RPs K ρ H (xs.take n) (us.take n):=by
 induction n generalizing xs us with
 | zero=>exact .nil
 | succ n ih =>
  cases xs with
  | nil=>cases r;exact .nil
  | cons x xs=>cases r with | cons a t=>exact .cons a (ih t)
def RPs.drop(n:Nat)(r:RPs K ρ H xs us):RPs K ρ H (xs.drop n) (us.drop n):=by
 induction n generalizing xs us with
 | zero=>exact r
 | succ n ih =>
  cases xs with
  | nil=>cases r;exact .nil
  | cons x xs=>cases r with | cons a t=>exact ih t
def RPs.ints:∀(ns:List Int),RPs K ρ H (ns.map PV.int) (ns.map V.int)
 | []=>.nil
 | n::r=>.cons (.int n) (RPs.ints r)
end
def fR(a C:Addr)(h:Heap):Prop:=∃o vs,h.get? a=some o/\o.cls=.ref C/\o.data=.fields vs
abbrev MGl:=Str->Option Value
def qS(a:Addr)(h:Heap):Prop:=∃o,h.get? a=some o/\o.cls=.type "dict"
def RO(K:qab)(mg:MGl)(ρ:List Addr)(H:Hp)(a:Addr):MO->Option HO->Prop
 | .lst xs,oh=>∃ys,oh=some (.lst ys)/\RPs K ρ H xs ys
 | .dic kvs,oh=>(kvs=[]/\oh=some (.dK []))\/(kvs≠[]/\oh=some (.ext (qS a)))
 | .exc x,oh=>x.fs=[]/\∃C,mg x.cls=some (.ref C)/\oh=some (.ext (fR a C))
structure RH (K:qab) (mg:MGl) (ρ:List Addr) (H:Hp) (h:MH):Prop where
 len:ρ.length=h.length
 nd:ρ.Nodup
 at':∀(n:Nat) (a:Addr) (o:MO),ρ[n]?=some a->h[n]?=some o->RO K mg ρ H a o (H a)
def RO.le{K:qab}{mg:MGl}{ρ ρ':List Addr}{H H':Hp}{a:Addr}(l:Le ρ H ρ' H'){o:MO}{oh:Option HO}(r:RO K mg ρ H a o oh):RO K mg ρ' H' a o oh:=by
 cases o with
 | lst xs=>obtain⟨ys,e,r⟩:=r;exact⟨ys,e,r.le l⟩
 | dic kvs=>exact r
 | exc x=>exact r
def RO.some{K:qab}{mg:MGl}{ρ:List Addr}{H:Hp}{a:Addr}{o:MO}{oh:Option HO}(r:RO K mg ρ H a o oh):oh≠none:=by
 cases o with
 | lst xs=>obtain⟨ys,e,_⟩:=r;rw[e];simp
 | dic kvs=>rcases r with ⟨_,e⟩ | ⟨_,e⟩ <;> rw[e] <;> simp
 | exc x=>obtain⟨_,C,_,e⟩:=r;rw[e];simp
def RO.plain{K:qab}{mg:MGl}{ρ:List Addr}{H:Hp}{a:Addr}{o:MO}{oh:Option HO}(r:RO K mg ρ H a o oh):(∀xs,oh≠Option.some (.tup xs))/\∀p u,oh≠Option.some (.frz p u):=by
 cases o with
 | lst xs=>obtain⟨ys,e,_⟩:=r;rw[e];exact⟨(fun _ z=>nomatch z),(fun _ _ z=>nomatch z)⟩
 | dic kvs=>rcases r with ⟨_,e⟩ | ⟨_,e⟩ <;> rw[e] <;> exact⟨(fun _ z=>nomatch z),(fun _ _ z=>nomatch z)⟩
 | exc x=>obtain⟨_,C,_,e⟩:=r;rw[e];exact⟨(fun _ z=>nomatch z),(fun _ _ z=>nomatch z)⟩
section
variable {K:qab} {mg:MGl} {ρ:List Addr} {H:Hp} {h:MH}
def RH.obj(r:RH K mg ρ H h){n:Nat}{a:Addr}(e:ρ[n]?=some a):∃o,h[n]?=some o/\RO K mg ρ H a o (H a):=by
 have hn:n<h.length:=by rw[<-r.len];exact (qag.mp e).1
 exact⟨h[n],by simp[hn],r.at' n a _ e (by simp[hn])⟩
def RH.new(r:RH K mg ρ H h){p:Addr}(hp:H p=none){o:MO}{ho:HO}(hn:RO K mg ρ H p o (some ho)):RH K mg (ρ++[p]) (upd H p ho) (h++[o])/\Le ρ H (ρ++[p]) (upd H p ho):=by
 have hne:∀n a,ρ[n]?=some a->a≠p:=fun n a e z=>by
  obtain⟨o',_,q⟩:=r.obj e;rw[z,hp] at q;exact q.some rfl
 have l:Le ρ H (ρ++[p]) (upd H p ho):=⟨⟨[p],rfl⟩,fun a xs e=>by rw[aU (bA e hp)];exact e,fun a ob u e=>by rw[aU (bA e hp)];exact e⟩;refine⟨⟨by simp[r.len],?_,fun n a o' e1 e2=>?_⟩,l⟩
 ·rw[qcr];refine⟨r.nd,by simp,fun a ha b hb=>?_⟩;obtain⟨n,e⟩:=qax.mp ha;have hb':b=p:=by simpa using hb
  rw[hb'];exact hne n a e
 ·by_cases hlt:n<ρ.length
  ·rw[qan hlt] at e1;rw[qan (by rw[<-r.len];exact hlt)] at e2;rw[aU (hne n a e1)];exact (r.at' n a o' e1 e2).le l
  ·rw[qay (by lia)] at e1;rw[qay (by rw[<-r.len];lia)] at e2;have hn0:n - ρ.length=0:=by
    rcases Nat.eq_zero_or_pos (n - ρ.length) with z|z
    ·exact z
    ·rw[qaS (by simp;lia)] at e1;cases e1
   rw[hn0] at e1;have hn1:n - h.length=0:=by have:=r.len;lia
   rw[hn1] at e2;simp at e1 e2;subst e1;subst e2;rw[br];exact hn.le l
def RH.put(r:RH K mg ρ H h){n:Nat}{a:Addr}(e:ρ[n]?=some a){o:MO}{ho:HO}(hn:RO K mg ρ H a o (some ho)):RH K mg ρ (upd H a ho) (h.set n o)/\Le ρ H ρ (upd H a ho):=by
 obtain⟨o0,_,q⟩:=r.obj e;obtain⟨q1,q2⟩:=q.plain
 have l:Le ρ H ρ (upd H a ho):=⟨⟨[],by simp⟩,fun b xs z=>by
   have:b≠a:=by rintro rfl;exact q1 _ z
   rw[aU this];exact z,fun b ob u z=>by
   have:b≠a:=by rintro rfl;exact q2 _ _ z
   rw[aU this];exact z⟩
 refine⟨⟨by simp[r.len],r.nd,fun m b o' e1 e2=>?_⟩,l⟩;by_cases hm:m=n
 ·subst hm;rw[e] at e1;cases e1;rw[br]
  have:m<h.length:=by rw[<-r.len];exact (qag.mp e).1
  rw[qat this] at e2;cases e2;exact hn.le l
 ·rw[qaj (fun z=>hm z.symm)] at e2;have hb:b≠a:=by
   rintro rfl;have h1:=qag.mp e;have h2:=qag.mp e1;obtain⟨l1,g1⟩:=h1;obtain⟨l2,g2⟩:=h2;exact hm ((List.getElem_inj r.nd).mp (g2.trans g1.symm))
  rw[aU hb];exact (r.at' m b o' e1 e2).le l
def RH.tup(r:RH K mg ρ H h){p:Addr}(hp:H p=none)(ys:List V):RH K mg ρ (upd H p (.tup ys)) h/\Le ρ H ρ (upd H p (.tup ys)):=by
 have hne:∀n a,ρ[n]?=some a->a≠p:=fun n a e z=>by
  obtain⟨o',_,q⟩:=r.obj e;rw[z,hp] at q;exact q.some rfl
 have l:Le ρ H ρ (upd H p (.tup ys)):=⟨⟨[],by simp⟩,fun a xs e=>by rw[aU (bA e hp)];exact e,fun a ob u e=>by rw[aU (bA e hp)];exact e⟩;exact⟨⟨r.len,r.nd,fun n a o e1 e2=>by rw[aU (hne n a e1)];exact (r.at' n a o e1 e2).le l⟩,l⟩
end
def RS(K:qab)(ρ:List Addr)(H:Hp)(σp:PSt)(σ:L2.St):Prop :=
 σ.length=σp.length/\∀(i:Nat) (v:PV),σp[i]?=some (some v)->∃v',σ[i]?=some (some v')/\RP K ρ H v v'
def RS.le{K:qab}{ρ ρ':List Addr}{H H':Hp}{σp:PSt}{σ:L2.St}(l:Le ρ H ρ' H')(r:RS K ρ H σp σ):RS K ρ' H' σp σ :=
 ⟨r.1,fun i v e=>by obtain⟨v',e',q⟩:=r.2 i v e;exact⟨v',e',q.le l⟩⟩
def RS.set{K:qab}{ρ:List Addr}{H:Hp}{σp:PSt}{σ:L2.St}(r:RS K ρ H σp σ)(i:Nat){v:PV}{v':V}(q:RP K ρ H v v'):RS K ρ H (σp.set i (some v)) (σ.set i (some v')):=by
 refine⟨by simp[r.1],fun j u e=>?_⟩;by_cases hj:j=i
 ·subst hj;by_cases hl:j<σp.length
  ·rw[qat hl] at e;cases e;exact⟨v',qat (by rw[r.1];exact hl),q⟩
  ·rw[qaS (by simp;lia)] at e;cases e
 ·rw[qaj (fun z=>hj z.symm)] at e;obtain⟨u',e',q'⟩:=r.2 j u e;exact⟨u',by rw[qaj (fun z=>hj z.symm)];exact e',q'⟩
def Cov(B:Heap)(fs:List Addr)(h:Heap):Prop:=∀b o,h.get? b=some o->b∉fs->∃ob,B.get? b=some ob
def Fly(l:List Env)(H:Hp)(lim:Heap)(C ea:Addr)(h:Heap):Prop :=
 ∃B t,Heap.FlyingW B l ea (.ref C) (.ref t) h/\(∀b o,H b=some o->∃ob,B.get? b=some ob)/\Cov B (frs l) lim/\H ea=none
structure Bears (X:Cx) (h:Heap):Prop where
 old:∀b o,X.s₀.heap.get? b=some o->b∉X.ex->∃o',h.get? b=some o'
 cell:∀x c,X.env.cells.lookup x=some c->∃o,h.get? c=some o
 pin:∀p∈X.pn,∃o,h.get? p.1=some o
def Inv.bears{X:Cx}{Ie:List (Addr × Obj)}{σ:L2.St}{H:Hp}{s:Shared}(I:Inv X Ie σ H s):Bears X s.heap :=
 ⟨fun b o e n=>I.base.there b o e n,fun x c e=>let ⟨_,o,eo,_⟩:=I.cell x c e;⟨o,eo⟩,fun p hp=>⟨_,(I.pin p (qaC _ hp)).1⟩⟩
def XP(X:Cx)(σp:PSt)(ρ:List Addr)(H:Hp)(x:MExc)(h:MH):Prop:=∀(ea C:Addr) (ρ':List Addr) (H':Hp) (σ':L2.St) (s':Shared) (lim:Heap),x.fs=[]->X.mg x.cls=some (.ref C)->Le ρ H ρ' H'->RH X.K X.mg ρ' H' h->RS X.K ρ' H' σp σ' ->
 Inv X [] σ' H' s'->Bears X lim->Fly X.stack H' lim C ea s'.heap->X.xe (.ref ea) s'
def XM(X:Cx)(σp:PSt)(ρ:List Addr)(H:Hp)(x:MExc)(h:MH):Prop:=∀(ea C:Addr) (ρ':List Addr) (H':Hp) (σ':L2.St) (s':Shared) (h0:Heap) (args:List Value),x.fs=[]->X.mg x.cls=some (.ref C)->Le ρ H ρ' H'->RH X.K X.mg ρ' H' h->RS X.K ρ' H' σp σ' ->
 Inv X [] σ' H' { s' with heap:=h0}->Heap.MadeExcOf h0 s'.heap ea (.ref C) args->X.xe (.ref ea) s'
def XP.le(l:Le ρ H ρ' H')(q:XP X σp ρ H x h):XP X σp ρ' H' x h :=
 fun ea C ρ2 H2 σ2 s2 lim e1 e2 l2=>q ea C ρ2 H2 σ2 s2 lim e1 e2 (l.trans l2)
def XM.le(l:Le ρ H ρ' H')(q:XM X σp ρ H x h):XM X σp ρ' H' x h :=
 fun ea C ρ2 H2 σ2 s2 lim args e1 e2 l2=>q ea C ρ2 H2 σ2 s2 lim args e1 e2 (l.trans l2)
abbrev Rl(α β:Type):=List Addr->Hp->α->β->Prop
def Ful{α β:Type}(X:Cx)(R:Rl α β)(σp:PSt)(ρ:List Addr)(H:Hp)(o:Out α)(Q:β->Hp->Prop):Prop:=match o with
 | .ok v h'=>∀ρ' H' v',Le ρ H ρ' H'->RH X.K X.mg ρ' H' h'->R ρ' H' v v'->Q v' H'
 | .exc x h'=>XP X σp ρ H x h'
 | .bad=>False
def hZ{α β:Type}(X:Cx)(R:Rl α β)(ρ:List Addr)(H:Hp)(o:Out α)(Q:β->Hp->Prop):Prop:=match o with
 | .ok v h'=>∀ρ' H' v',Le ρ H ρ' H'->RH X.K X.mg ρ' H' h'->R ρ' H' v v'->Q v' H'
 | _=>False
def Ful.zero(f:Ful X R σp ρ H o.ne Q):hZ X R ρ H o Q:=by
 cases o with
 | ok v h=>exact f
 | exc x h=>exact f
 | bad=>exact f
def Ful.le(l:Le ρ H ρ1 H1)(f:Ful X R σp ρ H o Q):Ful X R σp ρ1 H1 o Q:=by
 cases o with
 | ok v h=>exact fun ρ' H' v' l'=>f ρ' H' v' (l.trans l')
 | exc x h=>exact XP.le (X:=X) (σp:=σp) (x:=x) (h:=h) l f
 | bad=>exact f
def Ful.bind{α β γ δ:Type}{X:Cx}{R:Rl α β}{S:Rl γ δ}{σp:PSt}{ρ:List Addr}{H:Hp}{o:Out α}{f:α->MH->Out γ}{Q:δ->Hp->Prop}{Q':β->Hp->Prop}(q:Ful X S σp ρ H (o.bind f) Q)
  (k:∀ρ1 H1 v v' h1,o=.ok v h1->Le ρ H ρ1 H1->RH X.K X.mg ρ1 H1 h1->R ρ1 H1 v v'->Ful X S σp ρ1 H1 (f v h1) Q->Q' v' H1):Ful X R σp ρ H o Q':=by
 cases o with
 | ok v h=>exact fun ρ' H' v' l r w=>k ρ' H' v v' h rfl l r w (Ful.le l q)
 | exc x h=>exact q
 | bad=>exact q
abbrev RV'(X:Cx):Rl PV V:=fun ρ H=>RP X.K ρ H
abbrev RVs'(X:Cx):Rl (List PV) (List V):=fun ρ H=>RPs X.K ρ H
abbrev REq{α:Type}:Rl α α:=fun _ _ x y=>x=y
abbrev Mx(α:Type):=PSt->MH->Out α
inductive tM {α β:Type} (X:Cx) (R:Rl α β) (m:Mx α) (σ:L2.St) (H:Hp) (Q:β->Hp->Prop):Prop
 | mk (ρ:List Addr) (σp:PSt) (h:MH) (rs:RS X.K ρ H σp σ) (rh:RH X.K X.mg ρ H h) (q:Ful X R σp ρ H (m σp h) Q):tM X R m σ H Q
def ME(X:Cx)(e:Expr)(m:Mx PV):Prop:=PE X e (tM X (RV' X) m)
def MT(X:Cx)(e:Expr)(m:Mx Bool):Prop:=PT X e (tM X REq m)
def MW(X:Cx)(e:Expr)(m:Mx Bool):Prop:=PW X e (tM X REq m)
def MA(X:Cx)(es:List Expr)(m:Mx (List PV)):Prop:=PA X es (tM X (RVs' X) m)
def PE.imp(h:PE X e t)(i:∀σ H Q,t' σ H Q->t σ H Q):PE X e t':=fun Ie s σ H Q I q=>h Ie s σ H Q I (i σ H Q q)
def PT.imp(h:PT X e t)(i:∀σ H Q,t' σ H Q->t σ H Q):PT X e t':=fun Ie s σ H Q I q=>h Ie s σ H Q I (i σ H Q q)
def PW.imp(h:PW X e t)(i:∀σ H Q,t' σ H Q->t σ H Q):PW X e t':=fun whole Ie s σ H Q I q=>h whole Ie s σ H Q I (i σ H Q q)
def PA.imp(h:PA X e t)(i:∀σ H Q,t' σ H Q->t σ H Q):PA X e t':=fun pos Ie s σ H Q I q=>h pos Ie s σ H Q I (i σ H Q q)
def PS.imp(h:PS X e t)(i:∀D σ H,t' D σ H->t D σ H):PS X e t':=fun Ie s σ H D I q=>h Ie s σ H D I (i D σ H q)
def PSs.imp(h:PSs X e t)(i:∀D σ H,t' D σ H->t D σ H):PSs X e t':=fun Ie s σ H D I q=>h Ie s σ H D I (i D σ H q)
def bK(X:Cx)(ρ:List Addr)(H:Hp)(o:SOut)(D:Ends):Prop:=match o with
 | .nx σp h'=>∀ρ' H' σ',Le ρ H ρ' H'->RH X.K X.mg ρ' H' h'->RS X.K ρ' H' σp σ'->D.nx σ' H'
 | .bk σp h'=>∀ρ' H' σ',Le ρ H ρ' H'->RH X.K X.mg ρ' H' h'->RS X.K ρ' H' σp σ'->D.bk σ' H'
 | .ct σp h'=>∀ρ' H' σ',Le ρ H ρ' H'->RH X.K X.mg ρ' H' h'->RS X.K ρ' H' σp σ'->D.ct σ' H'
 | .rt v h'=>∀ρ' H' v',Le ρ H ρ' H'->RH X.K X.mg ρ' H' h'->RP X.K ρ' H' v v'->D.rt v' H'
 | .exc x σp h'=>XP X σp ρ H x h'
 | .rse x σp h'=>XM X σp ρ H x h'
 | .bad=>False
def bK.le(l:Le ρ H ρ1 H1)(f:bK X ρ H o D):bK X ρ1 H1 o D:=by
 cases o with
 | nx σp h=>exact fun ρ' H' v' l'=>f ρ' H' v' (l.trans l')
 | bk σp h=>exact fun ρ' H' v' l'=>f ρ' H' v' (l.trans l')
 | ct σp h=>exact fun ρ' H' v' l'=>f ρ' H' v' (l.trans l')
 | rt v h=>exact fun ρ' H' v' l'=>f ρ' H' v' (l.trans l')
 | exc x σp h=>exact XP.le (X:=X) (σp:=σp) (x:=x) (h:=h) l f
 | rse x σp h=>exact XM.le (X:=X) (σp:=σp) (x:=x) (h:=h) l f
 | bad=>exact f
abbrev Mst:=PSt->MH->SOut
inductive tMS (X:Cx) (m:Mst) (D:Ends) (σ:L2.St) (H:Hp):Prop
 | mk (ρ:List Addr) (σp:PSt) (h:MH) (rs:RS X.K ρ H σp σ) (rh:RH X.K X.mg ρ H h) (q:bK X ρ H (m σp h) D):tMS X m D σ H
def MS(X:Cx)(st:Stmt)(m:Mst):Prop:=PS X st (tMS X m)
def MSs(X:Cx)(st:List Stmt)(m:Mst):Prop:=PSs X st (tMS X m)
section
variable {X:Cx} {N W G:List Str} {k:Nat}
structure Good (X:Cx) (N W G:List Str) (k:Nat):Prop where
 hN:X.N=N
 nd:N.Nodup
 loc:∀x∈N,Loc X.env.scope x
 fn:∀x∈W,X.fn x=true\/X.env.scope.names.lookup x=some .local
 gl:∀x∈G,Gl X x
 dbg:∀x∈N++G,(x == ("__debug__":Str))=false/\(x == ("__classdict__":Str))=false/\x≠"__name__"
 calm:X.calm=true
 room:Room k X.A
 po:PassesOwn (model X.prog X.w) X.A X.env X.xe
def Good.x(g:Good X N W G k){i:Nat}{x:Str}(hi:N[i]?=some x):X.N[i]?=some x:=by rw[g.hN];exact hi
def av{l:List Str}{i:Nat}{x:Str}(hi:l[i]?=some x):x∈l:=qaO hi
def rJ(X:Cx)(g:PV->PV->MH->Out PV):R2:=fun x' y' H Q=>∃ρ h x y,RH X.K X.mg ρ H h/\RP X.K ρ H x x'/\RP X.K ρ H y y'/\hZ X (RV' X) ρ H (g x y h) Q
abbrev OpJ(X:Cx)(f:Value->Value->Sem Value)(g:PV->PV->MH->Out PV):Prop:=OpR X f (rJ X g)
def uJ(X:Cx)(g:PV->MH->Out PV):V->Hp->VK->Prop:=fun x' H Q=>∃ρ h x,RH X.K X.mg ρ H h/\RP X.K ρ H x x'/\hZ X (RV' X) ρ H (g x h) Q
abbrev UnJ(X:Cx)(f:Value->Sem Value)(g:PV->MH->Out PV):Prop:=UnR X f (uJ X g)
def cJ(X:Cx)(g:List PV->MH->Out PV):List V->Hp->VK->Prop:=fun xs' H Q=>∃ρ h xs,RH X.K X.mg ρ H h/\RPs X.K ρ H xs xs'/\hZ X (RV' X) ρ H (g xs h) Q
abbrev cH(X:Cx)(f:Value)(g:List PV->MH->Out PV):Prop:=bZ X f (cJ X g)
def ag(i:Nat):Mx PV:=fun σ h=>match σ[i]? with
 | some (some v)=>.ok v h
 | _=>.bad
def mC(v:PV):Mx PV:=fun _ h=>.ok v h
def me_var(g:Good X N W G k)(i:Nat){x:Str}{pos:Pos}(hi:N[i]?=some x):ME X (.Name x pos) (ag i):=by
 have d:=g.dbg x (qaC _ (av hi));have hv:Vis X.env.scope x:=by
  rcases g.loc x (av hi) with q|q
  ·exact .inl q
  ·exact .inr (.inl q)
 refine PE.imp (xM (g.x hi) hv d.1 d.2.1) fun σ H Q ⟨ρ,σp,h,rs,rh,f⟩=>?_;unfold ag at f
 cases e:σp[i]? with
 | none=>rw[e] at f;exact f.elim
 | some o =>
  rw[e] at f
  cases o with
  | none=>exact f.elim
  | some v =>
   obtain⟨v',e',r⟩:=rs.2 i v e;exact⟨v',e',f ρ H v' (Le.refl _ _) rh r⟩
def ai:ME X (.Constant (.int i) j pos) (mC (.int i)):=PE.imp pe_int fun _ H _ ⟨ρ,_,_,_,rh,f⟩=>f ρ H _ (Le.refl _ _) rh (.int i)
def bn:ME X (.Constant (.str i) j pos) (mC (.str i)):=PE.imp pe_str fun _ H _ ⟨ρ,_,_,_,rh,f⟩=>f ρ H _ (Le.refl _ _) rh (.str i)
def bF:ME X (.Constant (.bool i) j pos) (mC (.bl i)):=PE.imp pe_bl fun _ H _ ⟨ρ,_,_,_,rh,f⟩=>f ρ H _ (Le.refl _ _) rh (.bl i)
def dX:ME X (.Constant .none j pos) (mC .non):=PE.imp pe_non fun _ H _ ⟨ρ,_,_,_,rh,f⟩=>f ρ H _ (Le.refl _ _) rh .non
def ak(f:PV->PV->MH->Out PV)(ma mb:Mx PV):Mx PV:=fun σ h=>(ma σ h).bind fun x h1=>(mb σ h1).bind fun y h2=>(f x y h2).ne
def mUn(f:PV->MH->Out PV)(ma:Mx PV):Mx PV:=fun σ h=>(ma σ h).bind fun x h1=>(f x h1).ne
def sY{f:PV->PV->MH->Out PV}{ma mb:Mx PV}{σ:L2.St}{H:Hp}{Q:VK}(q:tM X (RV' X) (ak f ma mb) σ H Q):tOp (rJ X f) (tM X (RV' X) ma) (tM X (RV' X) mb) σ H Q:=by
 obtain⟨ρ,σp,h,rs,rh,q⟩:=q;refine⟨ρ,σp,h,rs,rh,Ful.bind q fun ρ1 H1 x x' h1 _ l1 rh1 rx q1=>?_⟩;refine⟨ρ1,σp,h1,rs.le l1,rh1,Ful.bind q1 fun ρ2 H2 y y' h2 _ l2 rh2 ry q2=>?_⟩;exact⟨ρ2,h2,x,y,rh2,rx.le l2,ry,q2.zero⟩
def az(ho:OpJ X (binaryOp op) f)(ha:ME X a ma)(hb:ME X b mb):ME X (.BinOp a op b pos) (ak f ma mb) :=
 PE.imp (pe_op ho ha hb) fun _ _ _ q=>sY q
def gO(ho:UnJ X (unaryOp op) f)(ha:ME X a ma):ME X (.UnaryOp op a pos) (mUn f ma) :=
 PE.imp (pe_un ho ha) fun _ _ _ ⟨ρ,σp,h,rs,rh,q⟩=>⟨ρ,σp,h,rs,rh,Ful.bind q fun ρ1 H1 x x' h1 _ l1 rh1 rx q1=>⟨ρ1,h1,x,rh1,rx,q1.zero⟩⟩
def me_cmp(ho:OpJ X (compareOp op) f)(ha:ME X a ma)(hb:ME X b mb)(hm:behindInMarks op b=false):ME X (.Compare a [op] [b] pos) (ak f ma mb) :=
 PE.imp (pe_cmpR ho ha hb hm) fun _ _ _ q=>sY q
def mB(m:Mx PV):Mx Bool:=fun σ h=>(m σ h).bind fun v h1=>match v with
 | .bl b=>.ok b h1
 | _=>.bad
def tM_B(q:tM X REq (mB m) σ H Q):tM X (RV' X) m σ H fun x H1=>∃c,x=.bl c/\Q c H1:=by
 obtain⟨ρ,σp,h,rs,rh,q⟩:=q;refine⟨ρ,σp,h,rs,rh,Ful.bind q fun ρ1 H1 x x' h1 _ l1 rh1 rx q1=>?_⟩
 cases rx with
 | bl b=>exact⟨b,rfl,q1 ρ1 H1 b (Le.refl _ _) rh1 rfl⟩
 | _=>exact q1.elim
def mt_cmp(ho:OpJ X (compareOp op) f)(ha:ME X a ma)(hb:ME X b mb)(hm:behindInMarks op b=false):MT X (.Compare a [op] [b] pos) (mB (ak f ma mb)) :=
 PT.imp (pt_cmpR ho ha hb hm) fun σ H Q q=>by
  obtain⟨ρ,σp,h,rs,rh,q⟩:=tM_B q;exact sY (Q:=fun x H'=>∃k,x=.bl k/\Q k H') ⟨ρ,σp,h,rs,rh,q⟩
def bS(h:ME X e m)(he:∀whole,isTrue e X.env whole=(do let v <-whole;standAt e.pos;holding [v] (truthy v)):=by intro _;rfl):MT X e (mB m) :=
 PT.imp (pt_val h he) fun _ _ _ q=>tM_B q
def cx(m:Mx Bool):Mx Bool:=fun σ h=>(m σ h).bind fun b h1=>.ok (!b) h1
def bQ(h:MT X e m):MT X (.UnaryOp .Not e pos) (cx m) :=
 PT.imp (pt_not h) fun _ _ _ ⟨ρ,σp,h,rs,rh,q⟩=>⟨ρ,σp,h,rs,rh,Ful.bind q fun ρ1 H1 x x' h1 _ l1 rh1 rx q1=>by
  cases rx;exact q1 ρ1 H1 _ (Le.refl _ _) rh1 rfl⟩
def mOr(a b:Mx Bool):Mx Bool:=fun σ h=>(a σ h).bind fun x h1=>if x=true then .ok true h1 else b σ h1
section
variable {a b:Expr} {rest:List Expr} {ma mb:Mx Bool} {pos:Pos}
def d4(ha:MT X a ma):MW X (.BoolOp .Or [a] pos) ma:=pw_or1 ha
def dL(ha:MT X a ma)(hb:MW X (.BoolOp .Or (b::rest) pos) mb):MW X (.BoolOp .Or (a::b::rest) pos) (mOr ma mb) :=
 PW.imp (pw_or ha hb) fun σ H Q ⟨ρ,σp,h,rs,rh,q⟩=>⟨ρ,σp,h,rs,rh,Ful.bind q fun ρ1 H1 x x' h1 _ l1 rh1 rx q1=>by
  cases rx
  cases x with
  | true=>rw[qai rfl] at q1 ⊢;exact q1 ρ1 H1 _ (Le.refl _ _) rh1 rfl
  | false=>rw[qal qaK] at q1 ⊢;exact⟨ρ1,σp,h1,rs.le l1,rh1,q1⟩⟩
def MW.mt(h:MW X e m):MT X e m:=PW.pt h
end
def eW(a b:Mx PV):Mx PV:=fun σ h=>(a σ h).bind fun x h1=>match x with
 | .bl c=>if c=true then b σ h1 else .ok (.bl false) h1
 | _=>.bad
def qI(a:Mx PV):Mx PV:=fun σ h=>(a σ h).bind fun x h1=>match x with
 | .bl c=>.ok (.bl (!c)) h1
 | _=>.bad
section
variable {a b:Expr} {rest:List Expr} {ma mb:Mx PV} {pos:Pos}
def iT(ha:ME X a ma):ME X (.BoolOp op [a] pos) ma:=pe_one ha
def gs(ha:ME X a ma)(hb:ME X (.BoolOp .And (b::rest) pos) mb):ME X (.BoolOp .And (a::b::rest) pos) (eW ma mb) :=
 PE.imp (pe_and ha hb) fun σ H Q ⟨ρ,σp,h,rs,rh,q⟩=>⟨ρ,σp,h,rs,rh,Ful.bind q fun ρ1 H1 x x' h1 _ l1 rh1 rx q1=>by
  cases rx with
  | bl c =>
   refine⟨c,rfl,?_⟩;dsimp only at q1
   cases c with
   | true=>rw[qai rfl] at q1 ⊢;exact⟨ρ1,σp,h1,rs.le l1,rh1,q1⟩
   | false=>rw[qal qaK] at q1 ⊢;exact q1 ρ1 H1 _ (Le.refl _ _) rh1 (.bl false)
  | _=>exact q1.elim⟩
def me_not(ha:ME X a ma):ME X (.UnaryOp .Not a pos) (qI ma) :=
 PE.imp (pe_not ha) fun σ H Q ⟨ρ,σp,h,rs,rh,q⟩=>⟨ρ,σp,h,rs,rh,Ful.bind q fun ρ1 H1 x x' h1 _ l1 rh1 rx q1=>by
  cases rx with
  | bl c=>exact⟨c,rfl,q1 ρ1 H1 _ (Le.refl _ _) rh1 (.bl _)⟩
  | _=>exact q1.elim⟩
end
def mNil:Mx (List PV):=fun _ h=>.ok [] h
def ac(a:Mx PV)(r:Mx (List PV)):Mx (List PV):=fun σ h=>(a σ h).bind fun x h1=>(r σ h1).bind fun xs h2=>.ok (x::xs) h2
def aj:MA X [] mNil:=PA.imp dB fun σ H Q ⟨ρ,σp,h,rs,rh,q⟩=>q ρ H _ (Le.refl _ _) rh .nil
def ah(ha:ME X e m)(hr:MA X es ms)(hs:starEach (e::es) X.env=(false,eval e X.env)::starEach es X.env:=by rfl):MA X (e::es) (ac m ms) :=
 PA.imp (bI ha hr hs) fun σ H Q ⟨ρ,σp,h,rs,rh,q⟩=>⟨ρ,σp,h,rs,rh,Ful.bind q fun ρ1 H1 x x' h1 _ l1 rh1 rx q1 =>
  ⟨ρ1,σp,h1,rs.le l1,rh1,Ful.bind q1 fun ρ2 H2 y y' h2 _ l2 rh2 ry q2=>q2 ρ2 H2 _ (Le.refl _ _) rh2 (.cons (rx.le l2) ry)⟩⟩
def newL(xs:List PV)(h:MH):Out PV:=if xs.length<=sizeLine then .ok (.loc h.length) (h++[.lst xs]) else .bad
def newT(xs:List PV)(h:MH):Out PV:=if xs.length<=sizeLine then .ok (.tup xs) h else .bad
def lx{ρ:List Addr}{H:Hp}{h:MH}{xs:List PV}{ys:List V}{Q:VK}(rh:RH X.K X.mg ρ H h)(rs:RPs X.K ρ H xs ys)(f:hZ X (RV' X) ρ H (newL xs h) Q):ys.length<=sizeLine/\∀p,H p=none->Q (.ref p) (upd H p (.lst ys)):=by
 unfold newL at f
 split at f
 ·rename_i hl
  refine⟨by rw[<-rs.length];exact hl,fun p hp=>?_⟩;obtain⟨r1,l1⟩:=rh.new hp (o:=.lst xs) (ho:=.lst ys) ⟨ys,rfl,rs⟩;refine f _ _ _ l1 r1 (.loc ?_);rw[<-rh.len];simp
 ·exact f.elim
def uq{ρ:List Addr}{H:Hp}{h:MH}{xs:List PV}{ys:List V}{Q:VK}(rh:RH X.K X.mg ρ H h)(rs:RPs X.K ρ H xs ys)(f:hZ X (RV' X) ρ H (newT xs h) Q):ys.length<=sizeLine/\∀p,H p=none->Q (.ref p) (upd H p (.tup ys)):=by
 unfold newT at f
 split at f
 ·rename_i hl
  refine⟨by rw[<-rs.length];exact hl,fun p hp=>?_⟩;obtain⟨r1,l1⟩:=rh.tup hp ys;exact f _ _ _ l1 r1 (.tup (.inl (.inl br)) (rs.le l1))
 ·exact f.elim
def newL_f{σp:PSt}{ρ:List Addr}{H:Hp}{h:MH}{xs:List PV}{Q:VK}(f:Ful X (RV' X) σp ρ H (newL xs h) Q):hZ X (RV' X) ρ H (newL xs h) Q:=by
 unfold newL at f ⊢
 split at f
 ·rw[qai (by assumption)];exact f
 ·exact f.elim
def newT_f{σp:PSt}{ρ:List Addr}{H:Hp}{h:MH}{xs:List PV}{Q:VK}(f:Ful X (RV' X) σp ρ H (newT xs h) Q):hZ X (RV' X) ρ H (newT xs h) Q:=by
 unfold newT at f ⊢
 split at f
 ·rw[qai (by assumption)];exact f
 ·exact f.elim
def bc(m:Mx (List PV)):Mx PV:=fun σ h=>(m σ h).bind newL
def aA(m:Mx (List PV)):Mx PV:=fun σ h=>(m σ h).bind newT
def d7(h:MA X es ms):ME X (.List es pos) (bc ms) :=
 PE.imp (pe_lst h) fun σ H Q ⟨ρ,σp,h,rs,rh,q⟩=>⟨ρ,σp,h,rs,rh,Ful.bind q fun ρ1 H1 x x' h1 _ l1 rh1 rx q1=>lx rh1 rx (newL_f q1)⟩
def fj(h:MA X es ms):ME X (.Tuple es j pos) (aA ms) :=
 PE.imp (tT h) fun σ H Q ⟨ρ,σp,h,rs,rh,q⟩=>⟨ρ,σp,h,rs,rh,Ful.bind q fun ρ1 H1 x x' h1 _ l1 rh1 rx q1=>uq rh1 rx (newT_f q1)⟩
def SOut.then(o:SOut)(k:Mst):SOut:=match o with
 | .nx σ h=>k σ h
 | o=>o
def aD(a b:Mst):Mst:=fun σ h=>(a σ h).then b
def mSkip:Mst:=fun σ h=>.nx σ h
def aZ:MSs X [] mSkip:=PSs.imp pss_nil fun D σ H ⟨ρ,σp,h,rs,rh,q⟩=>q ρ H σ (Le.refl _ _) rh rs
def mss_one{st:Stmt}{m:Mst}(h:MS X st m):MSs X [st] m:=uy h
def bK.then{ρ:List Addr}{H:Hp}{o:SOut}{k:Mst}{D:Ends}(q:bK X ρ H (o.then k) D):bK X ρ H o { D with nx:=fun σ H=>tMS X k D σ H}:=by
 cases o with
 | nx σp h=>exact fun ρ' H' σ' l r s=>⟨ρ',σp,h,s,r,bK.le l q⟩
 | _=>exact q
def zW{st:Stmt}{rest:List Stmt}{m u:Mst}(h1:MS X st m)(h2:MSs X rest u):MSs X (st::rest) (aD m u) :=
 PSs.imp (yE h1 h2) fun D σ H ⟨ρ,σp,h,rs,rh,q⟩=>⟨ρ,σp,h,rs,rh,bK.then q⟩
def aN(m:Mx PV):Mst:=fun σ h=>match m σ h with
 | .ok v h'=>.rt v h'
 | .exc x h'=>.exc x σ h'
 | .bad=>.bad
def ms_ret(he:ME X e m):MS X (.Return (some e) pos) (aN m) :=
 PS.imp (ps_ret he) fun D σ H ⟨ρ,σp,h,rs,rh,q⟩=>⟨ρ,σp,h,rs,rh,by
  unfold aN at q
  cases e:m σp h with
  | ok v h'=>rw[e] at q;exact q
  | exc x h'=>rw[e] at q;exact q
  | bad=>rw[e] at q;exact q⟩
def mEx{α:Type}(m:Mx α)(k:α->Mst):Mst:=fun σ h=>match m σ h with
 | .ok v h'=>k v σ h'
 | .exc x h'=>.exc x σ h'
 | .bad=>.bad
def bK.ex{α β:Type}{R:Rl α β}{m:Mx α}{k:α->Mst}{ρ:List Addr}{H:Hp}{σp:PSt}{h:MH}{D:Ends}{Q:β->Hp->Prop}(q:bK X ρ H (mEx m k σp h) D)
  (w:∀ρ1 H1 v v' h1,Le ρ H ρ1 H1->RH X.K X.mg ρ1 H1 h1->R ρ1 H1 v v'->bK X ρ1 H1 (k v σp h1) D->Q v' H1):Ful X R σp ρ H (m σp h) Q:=by
 unfold mEx at q
 cases e:m σp h with
 | ok v h'=>rw[e] at q;exact fun ρ1 H1 v' l r z=>w ρ1 H1 v v' h' l r z (bK.le l q)
 | exc x h'=>rw[e] at q;exact q
 | bad=>rw[e] at q;exact q
def eV(m:Mx PV):Mst:=mEx m fun _=>mSkip
def iB{e:Expr}{m:Mx PV}{pos:Pos}(he:ME X e m)(hs:swapsWith e none pos.line X.env=pure false:=by rfl):MS X (.Expr e pos) (eV m) :=
 PS.imp (ps_expr he hs) fun D σ H ⟨ρ,σp,h,rs,rh,q⟩=>⟨ρ,σp,h,rs,rh,bK.ex q fun ρ1 H1 v v' h1 l r z w=>w ρ1 H1 σ (Le.refl _ _) r (rs.le l)⟩
def mIf(c:Mx Bool)(a b:Mst):Mst:=mEx c fun x=>if x=true then a else b
def bp{c:Expr}{a b:List Stmt}{mc:Mx Bool}{ma mb:Mst}{pos:Pos}(hc:MT X c mc)(ha:MSs X a ma)(hb:MSs X b mb):MS X (.If c a b pos) (mIf mc ma mb) :=
 PS.imp (ps_if hc ha hb) fun D σ H ⟨ρ,σp,h,rs,rh,q⟩=>⟨ρ,σp,h,rs,rh,bK.ex q fun ρ1 H1 v v' h1 l r z w=>by
  cases z
  cases v with
  | true=>rw[qai rfl];exact⟨ρ1,σp,h1,rs.le l,r,w⟩
  | false=>rw[qal qaK];exact⟨ρ1,σp,h1,rs.le l,r,w⟩⟩
def aW(i:Nat)(m:Mx PV):Mst:=mEx m fun v σ h=>.nx (σ.set i (some v)) h
def ms_set(g:Good X N W G k)(i:Nat){x:Str}{e:Expr}{m:Mx PV}{pos pos':Pos}(hi:N[i]?=some x)(hw:W[i]?=some x)(he:ME X e m)(hs:swapsWith e (some (.Name x pos')) pos.line X.env=pure false:=by rfl) :
  MS X (.Assign [.Name x pos'] e pos) (aW i m):=by
 refine PS.imp (yq (X:=X) (i:=i) (by rw[g.hN];exact g.nd) (g.x hi) (g.loc x (av hi)) he hs (g.fn x (av hw))) fun D σ H ⟨ρ,σp,h,rs,rh,q⟩=>?_;exact⟨ρ,σp,h,rs,rh,bK.ex q fun ρ1 H1 v v' h1 l r z w=>w ρ1 H1 _ (Le.refl _ _) r ((rs.le l).set i z)⟩
end
end MM
namespace MM
open PySem PySem.Spec PyProof.Rows L2
local instance (priority:=1) cdec (p:Prop):Decidable p:=Classical.propDecidable p
section
variable {X:Cx} {N W G:List Str} {k:Nat}
abbrev Mg:=PV->Mst
def mR(X:Cx)(ρ:List Addr)(H:Hp)(o:SOut)(Q:L2.St->Hp->Prop):Prop:=match o with
 | .nx σp h'=>∀ρ' H' σ',Le ρ H ρ' H'->RH X.K X.mg ρ' H' h'->RS X.K ρ' H' σp σ'->Q σ' H'
 | .exc x σp h'=>XP X σp ρ H x h'
 | _=>False
def mR.le(l:Le ρ H ρ1 H1)(f:mR X ρ H o Q):mR X ρ1 H1 o Q:=by
 cases o with
 | nx σp h=>exact fun ρ' H' v' l'=>f ρ' H' v' (l.trans l')
 | exc x σp h=>exact XP.le (X:=X) (σp:=σp) (x:=x) (h:=h) l f
 | _=>exact f
inductive tG (X:Cx) (g:Mg) (v':V) (σ:L2.St) (H:Hp) (Q:L2.St->Hp->Prop):Prop
 | mk (ρ:List Addr) (σp:PSt) (h:MH) (v:PV) (rs:RS X.K ρ H σp σ) (rh:RH X.K X.mg ρ H h) (rv:RP X.K ρ H v v') (q:mR X ρ H (g v σp h) Q):tG X g v' σ H Q
def MG(X:Cx)(tg:Expr)(g:Mg):Prop:=PG X tg (tG X g)
def PG.imp(h:PG X e t)(i:∀v σ H Q,t' v σ H Q->t v σ H Q):PG X e t':=fun Ie s σ H v u Q I r q=>h Ie s σ H v u Q I r (i v σ H Q q)
def gNm(i:Nat):Mg:=fun v σ h=>.nx (σ.set i (some v)) h
def mg_name(g:Good X N W G k)(i:Nat)(hi:N[i]?=some x)(hw:W[i]?=some x):MG X (.Name x pos) (gNm i) :=
 PG.imp (u5 (by rw[g.hN];exact g.nd) (g.x hi) (g.loc x (av hi)) (g.fn x (av hw))) fun v' σ H Q ⟨ρ,σp,h,v,rs,rh,rv,q⟩=>q ρ H _ (Le.refl _ _) rh (rs.set i rv)
abbrev Mgs:=List PV->Mst
inductive tGs (X:Cx) (g:Mgs) (v':List V) (σ:L2.St) (H:Hp) (Q:L2.St->Hp->Prop):Prop
 | mk (ρ:List Addr) (σp:PSt) (h:MH) (v:List PV) (rs:RS X.K ρ H σp σ) (rh:RH X.K X.mg ρ H h) (rv:RPs X.K ρ H v v') (q:mR X ρ H (g v σp h) Q):tGs X g v' σ H Q
def MGs(X:Cx)(tg:List Expr)(g:Mgs):Prop:=PGs X tg (tGs X g)
def PGs.imp(h:PGs X e t)(i:∀v σ H Q,t' v σ H Q->t v σ H Q):PGs X e t':=fun Ie s σ H v u Q I r q=>h Ie s σ H v u Q I r (i v σ H Q q)
def gNl:Mgs:=fun vs σ h=>match vs with
 | []=>.nx σ h
 | _=>.bad
def gCn(a:Mg)(r:Mgs):Mgs:=fun vs σ h=>match vs with
 | v::vr=>(a v σ h).then (r vr)
 | []=>.bad
def ir:MGs X [] gNl:=PGs.imp pgs_nil fun v' σ H Q ⟨ρ,σp,h,v,rs,rh,rv,q⟩=>by
 cases rv with
 | nil=>exact⟨rfl,q ρ H σ (Le.refl _ _) rh rs⟩
 | cons _ _=>exact q.elim
def cG(h1:MG X e a)(h2:MGs X es r)
  (hs:(assignEach (e::es) X.env).map (·.2)=assign e X.env::(assignEach es X.env).map (·.2):=by rfl):MGs X (e::es) (gCn a r) :=
 PGs.imp (zb h1 h2 hs) fun v' σ H Q ⟨ρ,σp,h,v,rs,rh,rv,q⟩=>by
  cases rv with
  | nil=>exact q.elim
  | @cons x y xs ys rx rr =>
   refine⟨_,_,rfl,ρ,σp,h,x,rs,rh,rx,?_⟩;dsimp only[gCn] at q
   cases e:a x σp h with
   | nx σ1 h1=>rw[e] at q;exact fun ρ' H' σ' l r1 s1=>⟨ρ',σ1,h1,xs,s1,r1,rr.le l,mR.le l q⟩
   | exc x1 σ1 h1=>rw[e] at q;exact q
   | _=>rw[e] at q;exact q
def gTp(r:Mgs)(n:Nat):Mg:=fun v σ h=>match v with
 | .tup xs=>if xs.length=n then r xs σ h else .bad
 | _=>.bad
def ki(g:Good X N W G k){es:List Expr}{j:Nat}{r:Mgs}{n:Nat}{pos:Pos}(h:MGs X es r)(hn:(assignEach es X.env).length=n:=by rfl)(hst:(assignEach es X.env).findIdx? (·.1)=none:=by rfl) :
  MG X (.Tuple es j pos) (gTp r n) :=
 PG.imp (pg_tup g.calm h hn hst) fun v' σ H Q ⟨ρ,σp,h,v,rs,rh,rv,q⟩=>by
  cases rv with
  | tup s rr =>
   dsimp only[gTp] at q
   split at q
   ·rename_i hl
    exact⟨_,_,rfl,s,by rw[<-rr.length];exact hl,ρ,σp,h,_,rs,rh,rr,q⟩
   ·exact q.elim
  | _=>exact q.elim
def mF(m:Mx PV)(g:Mg):Mst:=mEx m fun v σ h=>match g v σ h with
 | .nx σ2 h2=>.nx σ2 h2
 | .exc x σ2 h2=>.exc x σ2 h2
 | _=>.bad
def mU{tg e:Expr}{m:Mx PV}{g:Mg}{pos:Pos}(he:ME X e m)(hg:MG X tg g)(hs:swapsWithSole [tg] e pos.line X.env=pure false:=by rfl)(hw:swappedStores [tg] e X.env=pure none:=by rfl)
  (h1:(assignEach [tg] X.env).map (·.2)=[assign tg X.env]:=by rfl):MS X (.Assign [tg] e pos) (mF m g) :=
 PS.imp (ps_asg he hg hs hw h1) fun D σ H ⟨ρ,σp,h,rs,rh,q⟩=>⟨ρ,σp,h,rs,rh,bK.ex q fun ρ1 H1 v v' h1 l r z w=>⟨ρ1,σp,h1,v,rs.le l,r,z,by
  cases e:g v σp h1 with
  | nx σ2 h2=>rw[e] at w;exact w
  | exc x σ2 h2=>rw[e] at w;exact w
  | _=>rw[e] at w;exact w⟩⟩
def tf(o i v:PV)(h:MH):Option MH:=match o,i with
 | .loc n,.int j=>(match h[n]? with
  | some (.lst xs)=>(ixN xs.length j).map fun p=>h.set n (.lst (xs.set p v))
  | _=>none)
 | _,_=>none
def gSb(mo mi:Mx PV):Mg:=fun v=>mEx mo fun o=>mEx mi fun i σ h=>match tf o i v h with
 | some h2=>.nx σ h2
 | none=>.bad
def yv(ho:ME X o mo)(hi:ME X i mi)
  (ha:∀v,assign (.Subscript o i pos) X.env v=(do
   let ov <-holding [v] (eval o X.env)
   let iv <-holding [v,ov] (eval i X.env)
   standAt pos
   holding [v,ov,iv] (setItem ov iv v)
   release [v,ov,iv] []):=by intro _;rfl):MG X (.Subscript o i pos) (gSb mo mi) :=
 PG.imp (pg_sub ho hi yI ha) fun v' σ H Q ⟨ρ,σp,h,v,rs,rh,rv,q⟩=>by
  refine⟨ρ,σp,h,rs,rh,?_⟩;unfold gSb mEx at q
  cases e:mo σp h with
  | exc x h1=>rw[e] at q;exact q
  | bad=>rw[e] at q;exact q
  | ok ov h1 =>
   rw[e] at q;intro ρ1 H1 o' l1 rh1 ro;refine⟨ρ1,σp,h1,rs.le l1,rh1,?_⟩;dsimp only at q
   cases e2:mi σp h1 with
   | exc x h2=>rw[e2] at q;exact XP.le (X:=X) (σp:=σp) (x:=x) (h:=h2) l1 q
   | bad=>rw[e2] at q;exact q
   | ok iv h2 =>
    rw[e2] at q;intro ρ2 H2 i' l2 rh2 ri;dsimp only at q;have ro2:=ro.le l2;have rv2:=(rv.le l1).le l2;unfold tf at q
    cases ro2 with
    | @loc n a en =>
     cases ri with
     | int j =>
      dsimp only at q;obtain⟨ob,eo,rob⟩:=rh2.obj en;rw[eo] at q
      cases ob with
      | dic kvs=>exact q.elim
      | exc x=>exact q.elim
      | lst xs =>
       obtain⟨ys,ey,ry⟩:=rob;dsimp only at q
       cases ep:ixN xs.length j with
       | none=>rw[ep] at q;exact q.elim
       | some p =>
        rw[ep] at q;refine⟨a,ys,j,p,rfl,rfl,ey,by rw[<-ry.length];exact ep,?_⟩;obtain⟨r3,l3⟩:=rh2.put en (o:=.lst (xs.set p v)) (ho:=.lst (ys.set p v')) ⟨_,rfl,RPs.set rv2 p ry⟩;exact q ρ2 _ σ (l1.trans (l2.trans l3)) r3 (rs.le (l1.trans (l2.trans l3)))
     | _=>exact q.elim
    | _=>exact q.elim
structure MIt where
 xs:List PV
 gd:List (Nat × List PV):=[]
def MIt.ok(it:MIt)(h:MH):Prop:=∀p∈it.gd,h[p.1]?=some (.lst p.2)
def qW(X:Cx):Rl MIt It:=fun ρ0 H0 it J=>∀ρ H h (i:Nat),Le ρ0 H0 ρ H->RH X.K X.mg ρ H h->it.ok h ->
 (i<it.xs.length->J.go i H/\∀x' H',J.yld i H x' H'->∃ρ' x,Le ρ H ρ' H'/\RH X.K X.mg ρ' H' h/\it.xs[i]?=some x/\RP X.K ρ' H' x x')/\(it.xs.length<=i->J.stop i H)
def MI(X:Cx)(tg iter:Expr)(m:Mx MIt):Prop:=PI X tg iter (tM X (qW X) m)
def PI.imp(h:PI X tg e t)(i:∀σ H Q,t' σ H Q->t σ H Q):PI X tg e t':=fun Ie s σ H Q I q=>h Ie s σ H Q I (i σ H Q q)
def mGo(it:MIt)(g:Mg)(b:Mst):List PV->Mst
 | []=>fun σ h=>if it.ok h then .nx σ h else .bad
 | x::r=>fun σ h=>if it.ok h then (match g x σ h with
   | .nx σ1 h1=>(match b σ1 h1 with
    | .nx σ2 h2=>mGo it g b r σ2 h2
    | .ct σ2 h2=>mGo it g b r σ2 h2
    | .bk σ2 h2=>.nx σ2 h2
    | .rt v h2=>.rt v h2
    | .exc e σ2 h2=>.exc e σ2 h2
    | .rse e σ2 h2=>.rse e σ2 h2
    | .bad=>.bad)
   | .exc e σ1 h1=>.exc e σ1 h1
   | _=>.bad) else .bad
def jD(mi:Mx MIt)(g:Mg)(b:Mst):Mst:=mEx mi fun it=>mGo it g b it.xs
def iF(gd:Good X N W G k)(hi:MI X tg iter mi)(hg:MG X tg g)(hb:MSs X body mb)
  (hs:∀x,foldedSetIterable iter X.env x=pure x:=by intro _;rfl):MS X (.For tg iter body [] pos) (jD mi g mb):=by
 refine PS.imp (ps_for gd.po gd.calm hi hg hb hs) fun D σ H ⟨ρ,σp,h,rs,rh,q⟩=>⟨ρ,σp,h,rs,rh,bK.ex q fun ρ1 H1 it J h1 l1 rh1 jr w=>?_⟩;refine⟨fun i m σ H=>m=it.xs.length - i/\i<=it.xs.length/\∃ρ σp h,Le ρ1 H1 ρ H/\RS X.K ρ H σp σ/\RH X.K X.mg ρ H h/\bK X ρ H (mGo it g mb (it.xs.drop i) σp h) D,⟨_,rfl,qaM _,ρ1,σp,h1,Le.refl _ _,rs.le l1,rh1,w⟩,?_⟩;rintro i m σ2 H2 ⟨rfl,hi,ρ2,σp2,h2,l2,rs2,rh2,w2⟩;by_cases hlt:i<it.xs.length
 ·have ed:it.xs.drop i=it.xs[i]::it.xs.drop (i+1):=qcp hlt;rw[ed] at w2;unfold mGo at w2
  split at w2
  ·rename_i hok
   obtain⟨j1,j2⟩:=jr ρ2 H2 h2 i l2 rh2 hok;obtain⟨go,yl⟩:=j1 hlt;refine .inr ⟨go,fun σ3 H3=>∃ρ3 σp3 h3,Le ρ1 H1 ρ3 H3/\RS X.K ρ3 H3 σp3 σ3/\RH X.K X.mg ρ3 H3 h3/\bK X ρ3 H3 (mGo it g mb (it.xs.drop (i+1)) σp3 h3) D,fun σ3 H3 z=>⟨_,by ext,rfl,hlt,z⟩,fun x' H' y=>?_⟩;obtain⟨ρ',x,l',rh',ex,rx⟩:=yl x' H' y;have ex':x=it.xs[i]:=by rw[qaE hlt] at ex;exact (Option.some.inj ex).symm
   subst ex';refine⟨ρ',σp2,h2,_,rs2.le l',rh',rx,?_⟩;have w2':=bK.le l' w2
   cases eg:g it.xs[i] σp2 h2 with
   | nx σ4 h4 =>
    rw[eg] at w2';intro ρ5 H5 σ5 l5 r5 s5;refine⟨ρ5,σ4,h4,s5,r5,?_⟩;have w3:=bK.le l5 w2';have l6:Le ρ1 H1 ρ5 H5:=l2.trans (l'.trans l5);dsimp only at w3
    cases em:mb σ4 h4 with
    | nx σ6 h6=>rw[em] at w3;exact fun ρ7 H7 σ7 l7 r7 s7=>⟨ρ7,σ6,h6,l6.trans l7,s7,r7,bK.le l7 w3⟩
    | ct σ6 h6=>rw[em] at w3;exact fun ρ7 H7 σ7 l7 r7 s7=>⟨ρ7,σ6,h6,l6.trans l7,s7,r7,bK.le l7 w3⟩
    | bk σ6 h6=>rw[em] at w3;exact w3
    | rt v h6=>rw[em] at w3;exact w3
    | exc e σ6 h6=>rw[em] at w3;exact w3
    | rse e σ6 h6=>rw[em] at w3;exact w3
    | bad=>rw[em] at w3;exact w3
   | exc e σ4 h4=>rw[eg] at w2';exact w2'
   | _=>rw[eg] at w2';exact w2'.elim
  ·exact w2.elim
 ·have e:i=it.xs.length:=by ext
  rw[e,List.drop_length] at w2;unfold mGo at w2
  split at w2
  ·rename_i hok
   obtain⟨j1,j2⟩:=jr ρ2 H2 h2 i l2 rh2 hok;exact .inl ⟨j2 (by ext),w2 ρ2 H2 σ2 (Le.refl _ _) rh2 rs2⟩
  ·exact w2.elim
def itSeq(v:PV)(h:MH):Out MIt:=match v with
 | .loc n=>(match h[n]? with
  | some (.lst xs)=>.ok ⟨xs,[(n,xs)]⟩ h
  | _=>.bad)
 | .frl xs=>.ok ⟨xs,[]⟩ h
 | _=>.bad
def mItL(m:Mx PV):Mx MIt:=fun σ h=>(m σ h).bind itSeq
def ux(hS:∀ρ' H' h,Le ρ H ρ' H'->RH X.K X.mg ρ' H' h->(⟨xs,gd⟩:MIt).ok h->∃ys,SqL X.K H' a ys/\RPs X.K ρ' H' xs ys):qW X ρ H ⟨xs,gd⟩ (Itl X.K a):=by
 intro ρ' H' h i l rh ok;obtain⟨ys,hs,rs⟩:=hS ρ' H' h l rh ok;refine⟨fun hi=>?_,fun hi=>⟨ys,hs,by rw[<-rs.length];exact hi⟩⟩;have hx:xs[i]?=some (xs[i]'hi):=qaE hi;obtain⟨y,ey,ry⟩:=rs.get hx;refine⟨⟨ys,y,hs,ey⟩,fun x' H2 ⟨e,z⟩=>?_⟩;subst e
 have:ys[i]?=some x':=z ys hs
 rw[ey] at this;cases this;exact⟨ρ',_,Le.refl _ _,rh,hx,ry⟩
def mi_list(hl:ME X l m):MI X tg l (mItL m) :=
 PI.imp (pi_list hl) fun σ H Q ⟨ρ,σp,h,rs,rh,q⟩=>⟨ρ,σp,h,rs,rh,Ful.bind q fun ρ1 H1 x x' h1 _ l1 rh1 rx q1=>by
  cases rx with
  | @loc n a e =>
   obtain⟨ob,eo,rob⟩:=rh1.obj e;dsimp only[itSeq] at q1;rw[eo] at q1
   cases ob with
   | dic kvs=>exact q1.elim
   | exc x=>exact q1.elim
   | lst xs =>
    obtain⟨ys,ey,ry⟩:=rob;refine⟨a,rfl,⟨ys,SqL.of ey⟩,q1 ρ1 H1 _ (Le.refl _ _) rh1 (ux fun ρ' H' h' l rh' ok=>?_)⟩;obtain⟨ys',ey',ry'⟩:=rh'.at' n a _ (l.get e) (ok (n,xs) (by simp));exact⟨ys',SqL.of ey',ry'⟩
  | frl s r =>
   exact⟨_,rfl,⟨_,s.sq⟩,q1 ρ1 H1 _ (Le.refl _ _) rh1 (ux fun ρ' H' h' l rh' ok=>⟨_,(l.sqf s).sq,r.le l⟩)⟩
  | _=>exact q1.elim⟩
def mItT(m:Mx PV):Mx MIt:=fun σ h=>(m σ h).bind fun v h1=>match v with
 | .tup xs=>.ok ⟨xs,[]⟩ h1
 | _=>.bad
def mi_tup(hl:ME X l m):MI X tg l (mItT m) :=
 PI.imp (pi_tup hl) fun σ H Q ⟨ρ,σp,h,rs,rh,q⟩=>⟨ρ,σp,h,rs,rh,Ful.bind q fun ρ1 H1 x x' h1 _ l1 rh1 rx q1=>by
  cases rx with
  | @tup xs a ys s r =>
   refine⟨_,rfl,⟨_,s⟩,q1 ρ1 H1 _ (Le.refl _ _) rh1 ?_⟩;intro ρ' H' h' i l rh' ok;have s':=l.sqt s;have r':=r.le l;refine⟨fun hi=>?_,fun hi=>⟨ys,s',by rw[<-r.length];exact hi⟩⟩;have hx:xs[i]?=some (xs[i]'hi):=qaE hi;obtain⟨y,ey,ry⟩:=r'.get hx;refine⟨⟨ys,y,s',ey⟩,fun x' H2 ⟨e,z⟩=>?_⟩;subst e
   have:ys[i]?=some x':=z ys s'
   rw[ey] at this;cases this;exact⟨ρ',_,Le.refl _ _,rh',hx,ry⟩
  | _=>exact q1.elim⟩
def bq(lo:Int)(n:Nat):List PV:=(List.range n).map fun (i:Nat)=>PV.int (lo+(i:Int))
def v9(lo:Int)(n:Nat):(bq lo n).length=n:=by simp[bq]
def um(lo:Int)(n:Nat):qW X ρ H ⟨bq lo n,[]⟩ (Itr lo n):=by
 intro ρ' H' h i l rh ok;have hl:(bq lo n).length=n:=v9 lo n;refine⟨fun hi=>⟨by rw[hl] at hi;exact hi,fun x' H2 ⟨e1,e2⟩=>?_⟩,fun hi=>by rw[hl] at hi;exact hi⟩;subst e1;subst e2;rw[hl] at hi;exact⟨ρ',.int (lo+i),Le.refl _ _,rh,by simp[bq,hi],.int _⟩
def gZ(m:Mx (List PV)):Mx MIt:=fun σ h=>(m σ h).bind fun vs h1=>match vs with
 | [.int j]=>if -(2 ^ 62)<=j/\j<2 ^ 62 then .ok ⟨bq 0 j.toNat,[]⟩ h1 else .bad
 | _=>.bad
def jy(m:Mx (List PV)):Mx MIt:=fun σ h=>(m σ h).bind fun vs h1=>match vs with
 | [.int i,.int j]=>if -(2 ^ 62)<=i/\i<2 ^ 62 /\ -(2 ^ 62)<=j/\j<2 ^ 62 then .ok ⟨bq i (j - i).toNat,[]⟩ h1 else .bad
 | _=>.bad
def yw(hg:Gl X "range")(hm:X.mg "range"=none)(ha:MA X [a] m)(hs:starEach [a] X.env=[(false,eval a X.env)]:=by rfl):MI X tg (.Call (.Name "range" p) [a] [] pos) (gZ m):=by
 refine PI.imp (xn hg hm ha hs) fun σ H Q ⟨ρ,σp,h,rs,rh,q⟩=>⟨ρ,σp,h,rs,rh,Ful.bind q fun ρ1 H1 x x' h1 _ l1 rh1 rx q1=>?_⟩
 cases rx with
 | nil=>exact q1.elim
 | cons r1 t1 =>
  cases t1 with
  | nil =>
   cases r1 with
   | int j =>
    dsimp only at q1
    split at q1
    ·rename_i hj
     exact⟨j,rfl,hj.1,hj.2,q1 ρ1 H1 _ (Le.refl _ _) rh1 (um 0 j.toNat)⟩
    ·exact q1.elim
   | _=>exact q1.elim
  | cons r2 t2=>cases r1 <;> exact q1.elim
def xi{tg a b:Expr}{m:Mx (List PV)}{p pos:Pos}(hg:Gl X "range")(hm:X.mg "range"=none)(ha:MA X [a,b] m)(hs:starEach [a,b] X.env=[(false,eval a X.env),(false,eval b X.env)]:=by rfl)(hs2:starEach [b] X.env=[(false,eval b X.env)]:=by rfl):MI X tg (.Call (.Name "range" p) [a,b] [] pos) (jy m):=by
 refine PI.imp (wR hg hm ha hs hs2) fun σ H Q ⟨ρ,σp,h,rs,rh,q⟩=>⟨ρ,σp,h,rs,rh,Ful.bind q fun ρ1 H1 x x' h1 _ l1 rh1 rx q1=>?_⟩
 split at q1
 ·cases rx with
  | cons r1 t1 =>
   cases t1 with
   | cons r2 t2 =>
    cases t2;cases r1;cases r2
    split at q1
    ·rename_i hj
     exact⟨_,_,rfl,hj,q1 ρ1 H1 _ (Le.refl _ _) rh1 (um _ _)⟩
    ·exact q1.elim
 ·exact q1.elim
def cY(f:PV->Option PyData):List PV->Option (List PyData)
 | []=>some []
 | x::r=>match f x,cY f r with
  | some d,some ds=>some (d::ds)
  | _,_=>none
def rd:Nat->MH->PV->Option PyData
 | 0,_,v=>(match v with
  | .non=>some .none
  | .bl b=>some (.bool b)
  | .int i=>some (.int i)
  | .str x=>some (.str x)
  | _=>none)
 | n+1,h,v=>(match v with
  | .non=>some .none
  | .bl b=>some (.bool b)
  | .int i=>some (.int i)
  | .str x=>some (.str x)
  | .tup xs=>(cY (rd n h) xs).map PyData.tuple
  | .frl xs=>(cY (rd n h) xs).map PyData.list
  | .loc m=>(match h[m]? with
   | some (.lst xs)=>(cY (rd n h) xs).map PyData.list
   | _=>none))
def im{hp:Heap}{f:PV->Option PyData}{K:qab}{ρ:List Addr}{H:Hp}(hf:∀v v' u d,RP K ρ H v v'->aX v' u->f v=some d->∃as,Reads hp u d as) :
  ∀{xs:List PV} {ys:List V} {us:List Value} {ds:List PyData},RPs K ρ H xs ys->aB ys us->cY f xs=some ds->∃as,ReadsAll hp us ds as:=by
 intro xs
 induction xs with
 | nil =>
  intro ys us ds r v e;cases r;cases v;cases e;exact⟨_,.nil⟩
 | cons x xs ih =>
  intro ys us ds r v e;cases r with|cons r t=>cases v with|cons v w =>
  simp only[cY] at e
  split at e
  ·rename_i d ds' e1 e2
   cases e;obtain⟨a1,q1⟩:=hf _ _ _ _ r v e1;obtain⟨a2,q2⟩:=ih t w e2;exact⟨_,.cons q1 q2⟩
  ·cases e
def jt{Ie:List (Addr × Obj)}{σ:L2.St}{H:Hp}{s:Shared}{ρ:List Addr}{h:MH}(I:Inv X Ie σ H s)(rh:RH X.K X.mg ρ H h) :
  ∀(n:Nat) (v:PV) (v':V) (u:Value) (d:PyData),RP X.K ρ H v v'->aX v' u->rd n h v=some d->∃as,Reads s.heap u d as:=by
 intro n
 induction n with
 | zero =>
  intro v v' u d rp r e
  cases rp with
  | non=>cases e;cases r;exact⟨_,.none⟩
  | bl b=>cases e;cases r;exact⟨_,.bool b⟩
  | int i=>cases e;obtain⟨t,rfl⟩:=r;exact⟨_,.int i t⟩
  | str i=>cases e;obtain⟨t,rfl⟩:=r;exact⟨_,.str i t⟩
  | _=>cases e
 | succ n ih =>
  intro v v' u d rp r e
  cases rp with
  | non=>cases e;cases r;exact⟨_,.none⟩
  | bl b=>cases e;cases r;exact⟨_,.bool b⟩
  | int i=>cases e;obtain⟨t,rfl⟩:=r;exact⟨_,.int i t⟩
  | str i=>cases e;obtain⟨t,rfl⟩:=r;exact⟨_,.str i t⟩
  | @tup xs a ys s rr =>
   cases r;simp only[rd] at e
   cases q:cY (rd n h) xs with
   | none=>rw[q] at e;cases e
   | some ds =>
    rw[q] at e;cases e;obtain⟨its,rv,⟨o,e1,e2,m,e3⟩,_⟩:=I.tuple s;obtain⟨as,ra⟩:=im (ih) rr rv q;exact⟨_,.tuple e1 e2 e3 (by simpa using ra)⟩
  | @frl xs a ys s rr =>
   cases r;simp only[rd] at e
   cases q:cY (rd n h) xs with
   | none=>rw[q] at e;cases e
   | some ds =>
    rw[q] at e;cases e;obtain⟨its,rv,⟨o,m,e1,e2,_,e3⟩,_⟩:=I.list s.sq;obtain⟨as,ra⟩:=im (ih) rr rv q;exact⟨_,.list e1 e2 e3 (by simpa using ra)⟩
  | loc en =>
   cases r;simp only[rd] at e;obtain⟨ob,eo,rob⟩:=rh.obj en;rw[eo] at e
   cases ob with
   | dic kvs=>cases e
   | exc x=>cases e
   | lst xs =>
    obtain⟨ys,ey,ry⟩:=rob;dsimp only at e
    cases q:cY (rd n h) xs with
    | none=>rw[q] at e;cases e
    | some ds =>
     rw[q] at e;cases e;obtain⟨its,rv,⟨o,m',e1,e2,_,e3⟩,_⟩:=I.list (SqL.of (K:=X.K) ey);obtain⟨as,ra⟩:=im (ih) ry rv q;exact⟨_,.list e1 e2 e3 (by simpa using ra)⟩
def opEq(x y:PV)(h:MH):Out PV:=match rd 60 h x,rd 60 h y with
 | some a,some b=>if SeqAt.shaped a=true/\SeqAt.shaped b=true then .ok (.bl (PyData.eqv a b)) h else .bad
 | _,_=>.bad
def opNe(x y:PV)(h:MH):Out PV:=match rd 60 h x,rd 60 h y with
 | some a,some b=>if SeqAt.shaped a=true/\SeqAt.shaped b=true then .ok (.bl (!PyData.eqv a b)) h else .bad
 | _,_=>.bad
def fS(hr:Room k X.A):OpJ X (compareOp .Eq) opEq:=by
 intro Ie s σ H x' y' u v Q I rx' ry' ⟨ρ,h,x,y,rh,rx,ry,q⟩;unfold opEq at q
 split at q
 ·rename_i a b ea eb
  split at q
  ·rename_i hs
   obtain⟨_,ra⟩:=jt I rh 60 x x' u a rx rx' ea;obtain⟨_,rb⟩:=jt I rh 60 y y' v b ry ry' eb;exact eq_dataH ra rb hs.1 hs.2 hr.units ⟨.bl _,H,I,rfl,q ρ H _ (Le.refl _ _) rh (.bl _)⟩
  ·exact q.elim
 ·exact q.elim
def eX(hr:Room k X.A):OpJ X (compareOp .NotEq) opNe:=by
 intro Ie s σ H x' y' u v Q I rx' ry' ⟨ρ,h,x,y,rh,rx,ry,q⟩;unfold opNe at q
 split at q
 ·rename_i a b ea eb
  split at q
  ·rename_i hs
   obtain⟨_,ra⟩:=jt I rh 60 x x' u a rx rx' ea;obtain⟨_,rb⟩:=jt I rh 60 y y' v b ry ry' eb;exact ne_dataH ra rb hs.1 hs.2 hr.units ⟨.bl _,H,I,rfl,q ρ H _ (Le.refl _ _) rh (.bl _)⟩
  ·exact q.elim
 ·exact q.elim
def mI(f:Int->Int->PV):PV->PV->MH->Out PV:=fun x y h=>match x,y with
 | .int i,.int j=>.ok (f i j) h
 | _,_=>.bad
def nC(ho:OpR X F (rI0 f))(hfg:∀ρ H i j,RP X.K ρ H (g i j) (f i j)):OpJ X F (mI g):=by
 intro Ie s σ H x' y' u v Q I rx' ry' ⟨ρ,h,x,y,rh,rx,ry,q⟩;unfold mI at q
 split at q
 ·cases rx;cases ry;exact ho Ie s σ H _ _ u v Q I rx' ry' ⟨_,_,rfl,rfl,q ρ H _ (Le.refl _ _) rh (hfg ρ H _ _)⟩
 ·exact q.elim
def opLt:=mI fun i j=>.bl (decide (i<j))
def opLe:=mI fun i j=>.bl (decide (i<=j))
def opGt:=mI fun i j=>.bl (decide (j<i))
def opGe:=mI fun i j=>.bl (decide (j<=i))
def lv:OpJ X (compareOp .Lt) opLt:=nC op_lt fun _ _ _ _=>.bl _
def jC:OpJ X (compareOp .LtE) opLe:=nC op_le fun _ _ _ _=>.bl _
def vI:OpJ X (compareOp .Gt) opGt:=nC op_gt fun _ _ _ _=>.bl _
def oj_ge:OpJ X (compareOp .GtE) opGe:=nC op_ge fun _ _ _ _=>.bl _
def opIs(neg:Bool):PV->PV->MH->Out PV:=fun x y h=>match y with
 | .non=>(match x with
  | .non=>.ok (.bl (!neg)) h
  | _=>.ok (.bl neg) h)
 | .bl b=>(match x with
  | .bl c=>.ok (.bl (if neg then !(c == b) else c == b)) h
  | .non=>.ok (.bl neg) h
  | .int _=>.ok (.bl neg) h
  | .str _=>.ok (.bl neg) h
  | .tup _=>.ok (.bl neg) h
  | _=>.bad)
 | _=>.bad
def opMul(x y:PV)(h:MH):Out PV:=match x,y with
 | .int i,.int j=>if IntMulOk i j then .ok (.int (i * j)) h else .bad
 | .loc n,.int j=>(match h[n]? with
  | some (.lst xs)=>if -(2 ^ 63)<=j/\j<2 ^ 63 then newL (List.flatten (List.replicate j.toNat xs)) h else .bad
  | _=>.bad)
 | _,_=>.bad
def opFd(x y:PV)(h:MH):Out PV:=match x,y with
 | .int i,.int j=>if j≠0/\Builtin.divisionGoesByPylong i j=false then .ok (.int (i.fdiv j)) h else .bad
 | _,_=>.bad
def opMod(x y:PV)(h:MH):Out PV:=match x,y with
 | .int i,.int j=>if j≠0 then .ok (.int (i.fmod j)) h else .bad
 | _,_=>.bad
def opPow(x y:PV)(h:MH):Out PV:=match x,y with
 | .int i,.int j=>if eK i j then .ok (.int (i ^ j.toNat)) h else .bad
 | _,_=>.bad
def opAdd(x y:PV)(h:MH):Out PV:=match x,y with
 | .int i,.int j=>.ok (.int (i+j)) h
 | .str a,.str b=>if a.length+b.length<=sizeLine then .ok (.str (a++b)) h else .bad
 | .loc n,.loc m=>(match h[n]?,h[m]? with
  | some (.lst xs),some (.lst ys)=>newL (xs++ys) h
  | _,_=>.bad)
 | .tup xs,.tup ys=>if xs≠[] then newT (xs++ys) h else .bad
 | _,_=>.bad
def opSub:=mI fun i j=>.int (i - j)
def opNeg(x:PV)(h:MH):Out PV:=match x with
 | .int i=>.ok (.int (-i)) h
 | _=>.bad
def dW:OpJ X (binaryOp .Sub) opSub:=nC op_sub fun _ _ _ _=>.int _
def fg:UnJ X (unaryOp .USub) opNeg:=by
 intro Ie s σ H x' u Q I rx' ⟨ρ,h,x,rh,rx,q⟩
 cases rx with
 | int i=>exact un_neg Ie s σ H _ u Q I rx' ⟨i,rfl,q ρ H _ (Le.refl _ _) rh (.int _)⟩
 | _=>exact q.elim
def oj_fd:OpJ X (binaryOp .FloorDiv) opFd:=by
 intro Ie s σ H x' y' u v Q I rx' ry' ⟨ρ,h,x,y,rh,rx,ry,q⟩;unfold opFd at q
 split at q
 ·rename_i i j
  cases rx;cases ry
  split at q
  ·rename_i hc
   obtain⟨t,rfl⟩:=rx';obtain⟨t',rfl⟩:=ry';exact floordiv_int hc.1 ⟨.int _,H,I.tok _,⟨_,rfl⟩,q ρ H _ (Le.refl _ _) rh (.int _)⟩ (.inl hc.2)
  ·exact q.elim
 ·exact q.elim
def df:OpJ X (binaryOp .Mod) opMod:=by
 intro Ie s σ H x' y' u v Q I rx' ry' ⟨ρ,h,x,y,rh,rx,ry,q⟩;unfold opMod at q
 split at q
 ·rename_i i j
  cases rx;cases ry
  split at q
  ·rename_i hc
   obtain⟨t,rfl⟩:=rx';obtain⟨t',rfl⟩:=ry';exact mod_int' hc ⟨.int _,H,I.tok _,⟨_,rfl⟩,q ρ H _ (Le.refl _ _) rh (.int _)⟩
  ·exact q.elim
 ·exact q.elim
def nz:OpJ X (binaryOp .Pow) opPow:=by
 intro Ie s σ H x' y' u v Q I rx' ry' ⟨ρ,h,x,y,rh,rx,ry,q⟩;unfold opPow at q
 split at q
 ·rename_i i j
  cases rx;cases ry
  split at q
  ·rename_i hc
   exact op_pow Ie s σ H _ _ u v Q I rx' ry' ⟨i,j,rfl,rfl,hc,q ρ H _ (Le.refl _ _) rh (.int _)⟩
  ·exact q.elim
 ·exact q.elim
def bj:OpJ X (binaryOp .Add) opAdd:=by
 intro Ie s σ H x' y' u v Q I rx' ry' ⟨ρ,h,x,y,rh,rx,ry,q⟩
 cases rx with
 | int i =>
  cases ry with
  | int j=>exact op_add Ie s σ H _ _ u v Q I rx' ry' ⟨i,j,rfl,rfl,q ρ H _ (Le.refl _ _) rh (.int _)⟩
  | _=>exact q.elim
 | str a =>
  cases ry with
  | str b =>
   dsimp only[opAdd] at q
   split at q
   ·rename_i hl
    exact v5 Ie s σ H _ _ u v Q I rx' ry' ⟨a,b,rfl,rfl,hl,q ρ H _ (Le.refl _ _) rh (.str _)⟩
   ·exact q.elim
  | _=>exact q.elim
 | @loc n a e =>
  cases ry with
  | @loc m b e2 =>
   dsimp only[opAdd] at q;obtain⟨o1,h1,r1⟩:=rh.obj e;obtain⟨o2,h2,r2⟩:=rh.obj e2;rw[h1,h2] at q
   cases o1 with
   | dic kvs=>exact q.elim
   | exc x=>exact q.elim
   | lst xs =>
    cases o2 with
    | dic kvs=>exact q.elim
    | exc x=>exact q.elim
    | lst ys =>
     obtain⟨xs',ex,rx1⟩:=r1;obtain⟨ys',ey,ry1⟩:=r2;obtain⟨z1,z2⟩:=lx rh (rx1.append ry1) q;exact op_cat Ie s σ H _ _ u v Q I rx' ry' ⟨a,b,xs',ys',rfl,rfl,ex,ey,by rw[<-qaR];exact z1,z2⟩
  | _=>exact q.elim
 | tup s1 r1 =>
  cases ry with
  | tup s2 r2 =>
   dsimp only[opAdd] at q
   split at q
   ·rename_i hne
    obtain⟨z1,z2⟩:=uq rh (r1.append r2) q;refine op_catT Ie s σ H _ _ u v Q I rx' ry' ⟨_,_,_,_,rfl,rfl,s1,s2,?_,by rw[<-qaR];exact z1,fun z=>?_,fun _=>z2⟩
    ·rintro rfl;cases r1;exact hne rfl
    ·subst z;cases r2;unfold newT at q
     split at q
     ·exact q ρ H _ (Le.refl _ _) rh (by rw[qbV];exact .tup s1 r1)
     ·exact q.elim
   ·exact q.elim
  | _=>exact q.elim
 | _=>cases ry <;> exact q.elim
def RPs.rep{K:qab}{ρ:List Addr}{H:Hp}{xs:List PV}{ys:List V}(r:RPs K ρ H xs ys):∀n:Nat,RPs K ρ H (List.replicate n xs).flatten (List.replicate n ys).flatten
 | 0=>.nil
 | n+1=>by rw[qaX,qaX,qbk,qbk];exact r.append (RPs.rep r n)
def fk:OpJ X (binaryOp .Mult) opMul:=by
 intro Ie s σ H x' y' u v Q I rx' ry' ⟨ρ,h,x,y,rh,rx,ry,q⟩
 cases rx with
 | int i =>
  cases ry with
  | int j =>
   dsimp only[opMul] at q
   split at q
   ·rename_i hc
    obtain⟨t,rfl⟩:=rx';obtain⟨t',rfl⟩:=ry';exact PyProof.Rows.mul_int ⟨.int _,H,I.tok _,⟨_,rfl⟩,q ρ H _ (Le.refl _ _) rh (.int _)⟩ hc
   ·exact q.elim
  | _=>exact q.elim
 | @loc n a e =>
  cases ry with
  | int j =>
   dsimp only[opMul] at q;obtain⟨o1,h1,r1⟩:=rh.obj e;rw[h1] at q
   cases o1 with
   | dic kvs=>exact q.elim
   | exc x=>exact q.elim
   | lst xs =>
    dsimp only at q
    split at q
    ·rename_i hj
     obtain⟨xs',ex,rx1⟩:=r1;obtain⟨z1,z2⟩:=lx rh (rx1.rep j.toNat) q;refine op_rep Ie s σ H _ _ u v Q I rx' ry' ⟨a,j,xs',rfl,rfl,ex,hj.1,hj.2,?_,z2⟩;rw[u7] at z1;rw[Nat.mul_comm];exact z1
    ·exact q.elim
  | _=>exact q.elim
 | _=>cases ry <;> exact q.elim
def nM{Ie:List (Addr × Obj)}{σ:L2.St}{H:Hp}{s:Shared}{Q:VK}{x':V}{u:Value}{b c:Bool}(I:Inv X Ie σ H s)(r:aX x' u)(hp:plainIs u (.bool b)=true)(hc:(u == .bool b)=c)(q:Q (.bl c) H) :
  wpAny (model X.prog X.w) X.A (compareOp .Is u (.bool b)) (EP X Ie σ Q) X.xe s:=by
 show wpAny _ _ (do return Value.bool (<-isSame u (.bool b))) _ _ _;exact qaa (wpAny_isSame_plain hp (qae (by rw[hc];exact⟨.bl c,H,I,rfl,q⟩)))
def oj_is:OpJ X (compareOp .Is) (opIs false):=by
 intro Ie s σ H x' y' u v Q I rx' ry' ⟨ρ,h,x,y,rh,rx,ry,q⟩
 cases ry with
 | non =>
  refine op_isN Ie s σ H _ _ u v Q I rx' ry' ⟨rfl,?_⟩;cases rx <;> exact q ρ H _ (Le.refl _ _) rh (by first | exact .bl true | exact .bl false)
 | bl b =>
  cases ry'
  cases rx with
  | non=>cases rx';exact nM (x':=.non) (c:=false) I rfl (by cases b <;> rfl) (by cases b <;> rfl) (q ρ H _ (Le.refl _ _) rh (.bl false))
  | bl c=>cases rx';exact nM (x':=.bl c) (c:=c == b) I rfl (by cases b <;> cases c <;> rfl) (by cases b <;> cases c <;> rfl) (q ρ H _ (Le.refl _ _) rh (.bl _))
  | int i=>obtain⟨t,rfl⟩:=rx';exact nM (x':=.int i) (c:=false) I ⟨_,rfl⟩ (by cases b <;> rfl) (by cases b <;> rfl) (q ρ H _ (Le.refl _ _) rh (.bl false))
  | str i=>obtain⟨t,rfl⟩:=rx';exact nM (x':=.str i) (c:=false) I ⟨_,rfl⟩ (by cases b <;> rfl) (by cases b <;> rfl) (q ρ H _ (Le.refl _ _) rh (.bl false))
  | tup s1 r1=>cases rx';exact nM (x':=.ref _) (c:=false) I rfl (by cases b <;> rfl) (by cases b <;> rfl) (q ρ H _ (Le.refl _ _) rh (.bl false))
  | _=>exact q.elim
 | _=>exact q.elim
def aR(x y:PV)(h:MH):Out PV:=match y with
 | .int i=>(match x with
  | .loc n=>(match h[n]? with
   | some (.lst xs)=>(match atI xs i with
    | some v=>.ok v h
    | none=>.bad)
   | _=>.bad)
  | .tup xs=>(match atI xs i with
   | some v=>.ok v h
   | none=>.bad)
  | .frl xs=>(match atI xs i with
   | some v=>.ok v h
   | none=>.bad)
  | .str z=>(match atI z.cps.toList i with
   | some c=>if z.length<=sizeLine then .ok (.str ⟨#[c]⟩) h else .bad
   | none=>.bad)
  | _=>.bad)
 | _=>.bad
def oC{K:qab}{ρ:List Addr}{H:Hp}{xs:List PV}{ys:List V}{i:Int}{v:PV}(r:RPs K ρ H xs ys)(e:atI xs i=some v):∃v',atI ys i=some v'/\RP K ρ H v v':=by
 unfold atI at e ⊢;rw[<-r.length]
 cases q:ixN xs.length i with
 | none=>rw[q] at e;cases e
 | some j =>
  rw[q] at e;exact r.get e
def me_ix{a b:Expr}{ma mb:Mx PV}{pos:Pos}(ha:ME X a ma)(hb:ME X b mb)(hs:lr b):ME X (.Subscript a b pos) (ak aR ma mb):=by
 refine PE.imp (pe_ix ix_seq ha hb hs) fun σ H Q q=>?_;obtain⟨ρ,σp,h,rs,rh,q⟩:=q;refine⟨ρ,σp,h,rs,rh,Ful.bind q fun ρ1 H1 x x' h1 _ l1 rh1 rx q1=>⟨ρ1,σp,h1,rs.le l1,rh1,Ful.bind q1 fun ρ2 H2 y y' h2 _ l2 rh2 ry q2=>?_⟩⟩;have rx2:=rx.le l2
 cases ry with
 | int i =>
  cases rx2 with
  | @loc n a e =>
   obtain⟨ob,eo,rob⟩:=rh2.obj e;dsimp only[aR] at q2;rw[eo] at q2
   cases ob with
   | dic kvs=>exact q2.elim
   | exc x=>exact q2.elim
   | lst xs =>
    obtain⟨ys,ey,rr⟩:=rob;dsimp only at q2
    cases ea:atI xs i with
    | none=>rw[ea] at q2;exact q2.elim
    | some v =>
     rw[ea] at q2;obtain⟨v',e',rv⟩:=oC rr ea;exact .inl ⟨a,ys,i,v',rfl,rfl,SqL.of ey,e',q2 ρ2 H2 _ (Le.refl _ _) rh2 rv⟩
  | @tup xs a ys s1 rr =>
   dsimp only[aR] at q2
   cases ea:atI xs i with
   | none=>rw[ea] at q2;exact q2.elim
   | some v =>
    rw[ea] at q2;obtain⟨v',e',rv⟩:=oC rr ea;exact .inr (.inl ⟨_,_,i,v',rfl,rfl,s1,e',q2 ρ2 H2 _ (Le.refl _ _) rh2 rv⟩)
  | @frl xs a ys s1 rr =>
   dsimp only[aR] at q2
   cases ea:atI xs i with
   | none=>rw[ea] at q2;exact q2.elim
   | some v =>
    rw[ea] at q2;obtain⟨v',e',rv⟩:=oC rr ea;exact .inl ⟨_,_,i,v',rfl,rfl,s1.sq,e',q2 ρ2 H2 _ (Le.refl _ _) rh2 rv⟩
  | str z =>
   dsimp only[aR] at q2
   cases ea:atI z.cps.toList i with
   | none=>rw[ea] at q2;exact q2.elim
   | some c =>
    rw[ea] at q2;dsimp only at q2
    split at q2
    ·rename_i hz
     exact .inr (.inr ⟨z,i,c,rfl,rfl,hz,ea,q2 ρ2 H2 _ (Le.refl _ _) rh2 (.str _)⟩)
    ·exact q2.elim
  | _=>exact q2.elim
 | _=>exact q2.elim
def mCB(f:List PV->MH->Out PV)(m:Mx (List PV)):Mx PV:=fun σ h=>(m σ h).bind fun xs h1=>(f xs h1).ne
section
variable {x:Str} {id T:String} {e:Expr} {es:List Expr} {f:List PV→MH→Out PV} {m:Mx (List PV)} {p pos:Pos}
def tM_cb{σ:L2.St}{H:Hp}{Q:VK}(q:tM X (RV' X) (mCB f m) σ H Q):tCB (cJ X f) (tM X (RVs' X) m) σ H Q:=by
 obtain⟨ρ,σp,h,rs,rh,q⟩:=q;exact⟨ρ,σp,h,rs,rh,Ful.bind q fun ρ1 H1 x x' h1 _ l1 rh1 rx q1=>⟨ρ1,h1,x,rh1,rx,q1.zero⟩⟩
def Ah(g:Good X N W G k)(j:Nat)(hj:G[j]?=some x)(hc:cH X (.builtin id) f)(hm:X.mg x=none)(hv:bootBuiltins x=some (.builtin id))(ha:MA X (e::es) m)
  (he:starEach (e::es) X.env=(false,eval e X.env)::starEach es X.env:=by rfl) (hpl:(backTo pos (starEach es X.env)).any (·.1)=false:=by rfl):ME X (.Call (.Name x p) (e::es) [] pos) (mCB f m) :=
 have d:=g.dbg x (qaf _ (av hj))
 PE.imp (dN hc (g.gl x (av hj)) hm hv ha d.2.2 d.1 he hpl) fun _ _ _ q=>tM_cb q
def xh(g:Good X N W G k)(j:Nat)(hj:G[j]?=some x)(hc:cH X (.type T) f)(hm:X.mg x=none)(hv:bootBuiltins x=some (.type T))(ha:MA X (e::es) m)
  (he:starEach (e::es) X.env=(false,eval e X.env)::starEach es X.env:=by rfl) (hpl:(backTo pos (starEach es X.env)).any (·.1)=false:=by rfl):ME X (.Call (.Name x p) (e::es) [] pos) (mCB f m) :=
 have d:=g.dbg x (qaf _ (av hj))
 PE.imp (kA hc (g.gl x (av hj)) hm hv ha d.2.2 d.1 he hpl) fun _ _ _ q=>tM_cb q
end
def fAbs(xs:List PV)(h:MH):Out PV:=match xs with
 | [.int i]=>.ok (.int (if i<0 then -i else i)) h
 | _=>.bad
def fMin(xs:List PV)(h:MH):Out PV:=match xs with
 | [.int i,.int j]=>.ok (.int (if j<i then j else i)) h
 | _=>.bad
def fMax(xs:List PV)(h:MH):Out PV:=match xs with
 | [.int i,.int j]=>.ok (.int (if j>i then j else i)) h
 | _=>.bad
def fInt(xs:List PV)(h:MH):Out PV:=match xs with
 | [.int i]=>.ok (.int i) h
 | [.bl b]=>.ok (.int (if b then 1 else 0)) h
 | _=>.bad
def fStr(xs:List PV)(h:MH):Out PV:=match xs with
 | [.int i]=>if i.natAbs.log2<1920 then .ok (.str (toString i)) h else .bad
 | _=>.bad
def fLen(xs:List PV)(h:MH):Out PV:=match xs with
 | [.loc n]=>(match h[n]? with
  | some (.lst ys)=>.ok (.int ys.length) h
  | _=>.bad)
 | [.tup ys]=>.ok (.int ys.length) h
 | [.frl ys]=>.ok (.int ys.length) h
 | [.str z]=>if z.length<=sizeLine then .ok (.int z.length) h else .bad
 | _=>.bad
def xL:cH X (.builtin "abs") fAbs:=by
 intro Ie s σ H xs us Q I r ⟨ρ,h,ps,rh,rp,q⟩
 cases rp with
 | nil=>exact q.elim
 | cons r1 t1 =>
  cases t1 with
  | cons _ _=>cases r1 <;> exact q.elim
  | nil =>
   cases r1 with
   | int i=>exact zV Ie s σ H _ us Q I r ⟨i,rfl,q ρ H _ (Le.refl _ _) rh (.int _)⟩
   | _=>exact q.elim
def tQ{f:List PV->MH->Out PV}{F:Int->Int->Int}{r:List V->Hp->VK->Prop}{V0:Value}(hf:∀i j h,f [.int i,.int j] h=.ok (.int (F i j)) h)(hb:∀xs h,(∀i j,xs≠[.int i,.int j])->f xs h=.bad)
  (hc:bZ X V0 (fun xs H Q=>∃i j,xs=[.int i,.int j]/\Q (.int (F i j)) H)):cH X V0 f:=by
 intro Ie s σ H xs us Q I r ⟨ρ,h,ps,rh,rp,q⟩;by_cases z:∃i j,ps=[.int i,.int j]
 ·obtain⟨i,j,rfl⟩:=z
  cases rp with
  | cons r1 t1=>cases t1 with
   | cons r2 t2 =>
    cases t2;cases r1;cases r2;rw[hf] at q;exact hc Ie s σ H _ us Q I r ⟨i,j,rfl,q ρ H _ (Le.refl _ _) rh (.int _)⟩
 ·rw[hb ps h fun i j e=>z ⟨i,j,e⟩] at q;exact q.elim
def nF(g:Good X N W G k):cH X (.builtin "min") fMin:=tQ (r:=fun _ _ _=>True) (F:=fun i j=>if j<i then j else i) (fun _ _ _=>rfl) (fun xs h z=>by unfold fMin;split <;> first | rfl | exact absurd rfl (z _ _)) (pC g.calm)
def yr(g:Good X N W G k):cH X (.builtin "max") fMax:=tQ (r:=fun _ _ _=>True) (F:=fun i j=>if j>i then j else i) (fun _ _ _=>rfl) (fun xs h z=>by unfold fMax;split <;> first | rfl | exact absurd rfl (z _ _)) (o8 g.calm)
def cj_int:cH X (.type "int") fInt:=by
 intro Ie s σ H xs us Q I r ⟨ρ,h,ps,rh,rp,q⟩
 cases rp with
 | nil=>exact q.elim
 | cons r1 t1 =>
  cases t1 with
  | cons _ _=>cases r1 <;> exact q.elim
  | nil =>
   cases r1 with
   | int i=>exact pM Ie s σ H _ us Q I r (.inl ⟨i,rfl,q ρ H _ (Le.refl _ _) rh (.int _)⟩)
   | bl b=>exact pM Ie s σ H _ us Q I r (.inr ⟨b,rfl,q ρ H _ (Le.refl _ _) rh (.int _)⟩)
   | _=>exact q.elim
def cj_str:cH X (.type "str") fStr:=by
 intro Ie s σ H xs us Q I r ⟨ρ,h,ps,rh,rp,q⟩
 cases rp with
 | nil=>exact q.elim
 | cons r1 t1 =>
  cases t1 with
  | cons _ _=>cases r1 <;> exact q.elim
  | nil =>
   cases r1 with
   | int i =>
    dsimp only[fStr] at q
    split at q
    ·rename_i hz
     exact qV Ie s σ H _ us Q I r ⟨i,rfl,hz,q ρ H _ (Le.refl _ _) rh (.str _)⟩
    ·exact q.elim
   | _=>exact q.elim
def cS:cH X (.builtin "len") fLen:=by
 intro Ie s σ H xs us Q I r ⟨ρ,h,ps,rh,rp,q⟩
 cases rp with
 | nil=>exact q.elim
 | cons r1 t1 =>
  cases t1 with
  | cons _ _=>cases r1 <;> exact q.elim
  | nil =>
   cases r1 with
   | @loc n a e =>
    obtain⟨ob,eo,rob⟩:=rh.obj e;dsimp only[fLen] at q;rw[eo] at q
    cases ob with
    | dic kvs=>exact q.elim
    | exc x=>exact q.elim
    | lst xs =>
     obtain⟨ys,ey,rr⟩:=rob;exact jR Ie s σ H _ us Q I r ⟨_,_,rfl,.inl ⟨ys,SqL.of ey,rfl⟩,by rw[<-rr.length];exact q ρ H _ (Le.refl _ _) rh (.int _)⟩
   | tup s1 rr=>exact jR Ie s σ H _ us Q I r ⟨_,_,rfl,.inr ⟨_,s1,rfl⟩,by rw[<-rr.length];exact q ρ H _ (Le.refl _ _) rh (.int _)⟩
   | frl s1 rr=>exact jR Ie s σ H _ us Q I r ⟨_,_,rfl,.inl ⟨_,s1.sq,rfl⟩,by rw[<-rr.length];exact q ρ H _ (Le.refl _ _) rh (.int _)⟩
   | str z =>
    dsimp only[fLen] at q
    split at q
    ·rename_i hz
     exact jR Ie s σ H _ us Q I r ⟨_,_,rfl,⟨hz,rfl⟩,q ρ H _ (Le.refl _ _) rh (.int _)⟩
    ·exact q.elim
   | _=>exact q.elim
def tyP(h:MH):PV->Option String
 | .non=>some "NoneType"
 | .bl _=>some "bool"
 | .int _=>some "int"
 | .str _=>some "str"
 | .tup _=>some "tuple"
 | .frl _=>some "list"
 | .loc n=>match h[n]? with
  | some (.lst _)=>some "list"
  | some (.dic _)=>some "dict"
  | _=>none
def bH(t:String)(T:String):Bool:=t == T || (t == "bool" && T == "int")
def cz(Ts:List String)(x:PV)(h:MH):Out PV:=match tyP h x with
 | some t=>.ok (.bl (Ts.any (bH t))) h
 | none=>.bad
def okT(T:String):Prop:=∀K:qab,∀t∈["NoneType","bool","int","str","tuple","list","dict"],PySem.W.kitOne K (.type t) (.type T)=some (bH t T)
def nE(h1:∀K,PySem.W.kitOne K (.type "NoneType") (.type T)=some (bH "NoneType" T))(h2:∀K,PySem.W.kitOne K (.type "bool") (.type T)=some (bH "bool" T))(h3:∀K,PySem.W.kitOne K (.type "int") (.type T)=some (bH "int" T))
  (h4:∀K,PySem.W.kitOne K (.type "str") (.type T)=some (bH "str" T)) (h5:∀K,PySem.W.kitOne K (.type "tuple") (.type T)=some (bH "tuple" T)) (h6:∀K,PySem.W.kitOne K (.type "list") (.type T)=some (bH "list" T))
  (h7:∀K,PySem.W.kitOne K (.type "dict") (.type T)=some (bH "dict" T)):okT T:=by
 intro K t ht;simp only[qao,qba,or_false] at ht;rcases ht with rfl|rfl|rfl|rfl|rfl|rfl|rfl
 ·exact h1 K
 ·exact h2 K
 ·exact h3 K
 ·exact h4 K
 ·exact h5 K
 ·exact h6 K
 ·exact h7 K
def oE:okT "int":=nE (fun _=>rfl) (fun _=>rfl) (fun _=>rfl) (fun _=>rfl) (fun _=>rfl) (fun _=>rfl) (fun _=>rfl)
def jA:okT "bool":=nE (fun _=>rfl) (fun _=>rfl) (fun _=>rfl) (fun _=>rfl) (fun _=>rfl) (fun _=>rfl) (fun _=>rfl)
def zM:okT "list":=nE (fun _=>rfl) (fun _=>rfl) (fun _=>rfl) (fun _=>rfl) (fun _=>rfl) (fun _=>rfl) (fun _=>rfl)
def dU:okT "tuple":=nE (fun _=>rfl) (fun _=>rfl) (fun _=>rfl) (fun _=>rfl) (fun _=>rfl) (fun _=>rfl) (fun _=>rfl)
def lE{Ie:List (Addr × Obj)}{σ:L2.St}{H:Hp}{s:Shared}{ρ:List Addr}{h:MH}{x:PV}{x':V}{u:Value}{t:String}(I:Inv X Ie σ H s)(rh:RH X.K X.mg ρ H h)(rx:RP X.K ρ H x x')(ru:aX x' u)(e:tyP h x=some t) :
  t∈["NoneType","bool","int","str","tuple","list","dict"]/\u≠.builtin "__main__.__loader__#opaque"/\∃Hq,PySem.W.KitX X.K u (.type t) Hq/\Hq s.heap:=by
 cases rx with
 | non=>cases e;cases ru;exact⟨by simp,(fun z=>nomatch z),_,PySem.W.kitx_none,trivial⟩
 | bl b=>cases e;cases ru;exact⟨by simp,(fun z=>nomatch z),_,PySem.W.kitx_bool,trivial⟩
 | int i=>cases e;obtain⟨t,rfl⟩:=ru;exact⟨by simp,(fun z=>nomatch z),_,PySem.W.kitx_int,trivial⟩
 | str i=>cases e;obtain⟨t,rfl⟩:=ru;exact⟨by simp,(fun z=>nomatch z),_,PySem.W.kitx_str,trivial⟩
 | tup s1 r1 =>
  cases e;cases ru;obtain⟨its,rv,⟨o,e1,e2,_⟩,_⟩:=I.tuple s1;exact⟨by simp,(fun z=>nomatch z),_,PySem.W.kitx_tuple,⟨o,e1,e2⟩⟩
 | frl s1 r1 =>
  cases e;cases ru;obtain⟨its,rv,⟨o,m,e1,e2,_,e3⟩,_⟩:=I.list s1.sq;exact⟨by simp,(fun z=>nomatch z),_,PySem.W.kitx_list,⟨o,e1,e2⟩⟩
 | @loc n a en =>
  obtain⟨ob,eo,rob⟩:=rh.obj en;dsimp only[tyP] at e;rw[eo] at e;cases ru
  cases ob with
  | lst xs =>
   cases e;obtain⟨ys,ey,_⟩:=rob;obtain⟨its,rv,⟨o,m,e1,e2,_,e3⟩,_⟩:=I.list (SqL.of (K:=X.K) ey);exact⟨by simp,(fun z=>nomatch z),_,PySem.W.kitx_list,⟨o,e1,e2⟩⟩
  | dic kvs =>
   cases e;rcases rob with ⟨_,ey⟩|⟨_,ey⟩
   ·obtain⟨_,_,vs,_,p⟩:=(show ObjOk X.prog X.w H s.heap a (.dK []) from I.hok a _ ey);obtain⟨o,es,ep,h1,h2,_⟩:=p;exact⟨by simp,(fun z=>nomatch z),_,PySem.W.kitx_dict,⟨o,h1,h2.1⟩⟩
   ·obtain⟨⟨o,h1,h2⟩,_⟩:=(show ObjOk X.prog X.w H s.heap a (.ext (qS a)) from I.hok a _ ey);exact⟨by simp,(fun z=>nomatch z),_,PySem.W.kitx_dict,⟨o,h1,h2⟩⟩
  | exc x=>cases e
def cQ(g:Good X N W G k){a:Expr}{m:Mx PV}{T:String}{c:Str}{i j:Nat}{p q pos:Pos}(hi:G[i]?=some "isinstance")(hm:X.mg "isinstance"=none)(hj:G[j]?=some c)(hc:X.mg c=none)(hv:bootBuiltins c=some (.type T))(hT:okT T)(ha:ME X a m)
  (he:starEach [a,.Name c q] X.env=(false,eval a X.env)::starEach [.Name c q] X.env:=by rfl) (he2:starEach [.Name c q] X.env=[(false,eval (.Name c q) X.env)]:=by rfl) (hpl:(backTo pos (starEach [.Name c q] X.env)).any (·.1)=false:=by rfl) :
  ME X (.Call (.Name "isinstance" p) [a,.Name c q] [] pos) (mUn (cz [T]) m):=by
 have d1:=g.dbg _ (qaf _ (av hi));have d:=g.dbg c (qaf _ (av hj));have hcall:bZ X (.builtin "isinstance") (fun xs H Q=>∃x',xs=[x',.ty T]/\uJ X (cz [T]) x' H Q):=by
  intro Ie s σ H xs us Q I r ⟨x',e,ρ,h,x,rh,rx,q⟩;subst e
  cases r with
  | cons r1 t1=>cases t1 with
   | cons r2 t2 =>
    cases t2;obtain rfl:=(show _=Value.type T from r2);unfold cz at q
    cases et:tyP h x with
    | none=>rw[et] at q;exact q.elim
    | some t =>
     rw[et] at q;obtain⟨ht,hne,Hq,Z,hz⟩:=lE I rh rx r1 et
     exact PySem.W.kia_one Z I.kIn hz (hT X.K t ht) hne fun tk=>⟨.bl _,H,I.tok _,rfl,by
      have q':=q ρ H _ (Le.refl _ _) rh (.bl _)
      simpa using q'⟩
 refine PE.imp (dN hcall (g.gl _ (av hi)) hm PyProof.Rows.Boot.«isinstance» (bI ha (bI (kX (v:=.ty T) (u:=.type T) (g.gl c (av hj)) hc hv rfl d.2.2 d.1) dB he2) he) d1.2.2 d1.1 he hpl) fun σ H Q ⟨ρ,σp,h,rs,rh,q⟩=>?_;exact⟨ρ,σp,h,rs,rh,Ful.bind q fun ρ1 H1 x x' h1 _ l1 rh1 rx q1=>⟨x',rfl,ρ1,h1,x,rh1,rx,q1.zero⟩⟩
def spM(K:qab)(mg:MGl)(F:List PV->MH->Out PV):Sp:=fun vs H Q E=>∃ρ ps h,RPs K ρ H ps vs/\RH K mg ρ H h/\match F ps h with
 | .ok v h'=>∀ρ' H' v',Le ρ H ρ' H'->RH K mg ρ' H' h'->RP K ρ' H' v v'->Q v' H'
 | .exc x h'=>∀C ρ' H',x.fs=[]->mg x.cls=some (.ref C)->Le ρ H ρ' H'->RH K mg ρ' H' h'->E (.ref C) none H'
 | .bad=>False
def CXm(P:Program)(w:World):CXT:=fun outer H s E e s'=>∃ea C H',e=.ref ea/\s'.os=s.os/\AllBare s'.gens/\Un (frs outer) [] H H' s.heap s'.heap/\HOk P w H' s'.heap/\Fly outer H' s.heap C ea s'.heap/\E (.ref C) none H'
structure Cal (X:Cx) (x:Str) (ps:List Str) (F:List PV->MH->Out PV) (k:Nat):Prop where
 ex:∃f fd,X.mg x=some (.ref f)/\PySem.W.keepIn X.K (.ref f)=true/\nX X.K fd ps []/\FnOk X.prog X.w X.K X.mg X.base (CXm X.prog X.w) k f fd ps (spM X.K X.mg F)
def Cal.to(c:Cal X x ps F i)(e1:Y.prog=X.prog)(e2:Y.w=X.w)(e3:Y.K=X.K)(e4:Y.mg=X.mg)(e5:Y.base=X.base):Cal Y x ps F i:=by
 obtain⟨f,fd,a,b,d,e⟩:=c.ex;refine⟨f,fd,by rw[e4];exact a,by rw[e3];exact b,by rw[e3];exact d,?_⟩;rw[e1,e2,e3,e4,e5];exact e
def aF(F:List PV->MH->Out PV)(m:Mx (List PV)):Mx PV:=fun σ h=>(m σ h).bind F
def me_call(g:Good X N W G k){x:Str}{j:Nat}(hj:G[j]?=some x){ps:List Str}{F:List PV->MH->Out PV}(C:Cal X x ps F k){e:Expr}{es:List Expr}{m:Mx (List PV)}{p pos:Pos}(ha:MA X (e::es) m)
  (he:starEach (e::es) X.env=(false,eval e X.env)::starEach es X.env:=by rfl) (hpl:(backTo pos (starEach es X.env)).any (·.1)=false:=by rfl):ME X (.Call (.Name x p) (e::es) [] pos) (aF F m):=by
 obtain⟨f,fd,hm,hk,hb,F'⟩:=C.ex;have d:=g.dbg x (qaf _ (av hj));intro Ie s σ H Q I ⟨ρ,σp,h,rs,rh,q⟩;refine wpAny_Call_Name_kw (oV I (g.gl x (av hj)) hm ?_ d.1)
 refine PySem.W.callWith_K (h₀:=X.base) I.ok.mod.kin hk (thn (ha pos Ie s σ H (fun vs H1=>∃ρ1 xs h1,Le ρ H ρ1 H1/\RH X.K X.mg ρ1 H1 h1/\RPs X.K ρ1 H1 xs vs/\Ful X (RV' X) σp ρ1 H1 (F xs h1) Q) I
  ⟨ρ,σp,h,rs,rh,Ful.bind q fun ρ1 H1 xs vs h1 _ l1 rh1 rx q1=>⟨ρ1,xs,h1,l1,rh1,rx,q1⟩⟩) fun us s1 ⟨vs,H1,I1,r,ρ1,xs,h1,l1,rh1,rx,q1⟩=>⟨I1.kIn,?_⟩) he hpl
 have run:∀E:XK,spM X.K X.mg F vs H1 Q E->(∀ea C H' s',s'.os=s1.os->AllBare s'.gens->Un (frs X.stack) [] H1 H' s1.heap s'.heap->HOk X.prog X.w H' s'.heap->Fly X.stack H' s1.heap C ea s'.heap->E (.ref C) none H'->X.xe (.ref ea) s') ->
   wpAny (model X.prog X.w) X.A (call (.ref f) us) (EP X Ie σ Q) X.xe s1:=fun E hsp hE=>by
  have hl:(us++[]).length=ps.length:=by rw[qbV,<-r.length];exact F'.len _ _ _ _ hsp
  have hb1:=hb s1 us I1.kIn hl;rw[qbV] at hb1;refine wpAny_call (codeAny_mono (F'.run X.A X.stack s1 H1 ⟨us,[]⟩ us vs Q E g.room I1.env0 hb1 r hsp) fun r s' hq=>?_)
  cases r with
  | error e =>
   obtain⟨ea,C,H',rfl,a1,a2,a3,a4,a5,a6⟩:=hq;exact hE ea C H' s' a1 a2 a3 a4 a5 a6
  | ok fl =>
   cases fl with
   | ret u=>exact I1.after hq
   | next=>exact False.elim hq
   | brk=>exact False.elim hq
   | cont=>exact False.elim hq
 cases eF:F xs h1 with
 | bad=>rw[eF] at q1;exact q1.elim
 | ok v h' =>
  rw[eF] at q1;exact run (fun _ _ _=>False) ⟨ρ1,xs,h1,rx,rh1,by rw[eF];exact q1⟩ fun _ _ _ _ _ _ _ _ _ z=>z.elim
 | exc x' h' =>
  rw[eF] at q1;refine run (fun c _ H'=>∃C ρ',c=.ref C/\x'.fs=[]/\X.mg x'.cls=some (.ref C)/\Le ρ1 H1 ρ' H'/\RH X.K X.mg ρ' H' h') ⟨ρ1,xs,h1,rx,rh1,by rw[eF];exact fun C ρ' H' a b c d=>⟨C,ρ',rfl,a,b,c,d⟩⟩ fun ea C H' s' a1 a2 a3 a4 a5 a6=>?_;obtain⟨C',ρ',eC,b1,b2,b3,b4⟩:=a6;cases eC;have IX:=I1.call' (s':=s') (ch:=[]) a1 a3 a4 a2 (fun b z=>absurd z (by simp));have IX0:Inv X [] σ H' s':=Inv.unpinned (Ie:=[]) (pl:=Ie) IX;exact q1 ea C ρ' H' σ s' s1.heap b1 b2 b3 b4 (rs.le (l1.trans b3)) IX0 (Inv.bears I1) a5
def bR(n:Nat)(ps:List PV):PSt:=ps.map some++List.replicate (n - ps.length) none
def bh(n np:Nat)(m:Mst):List PV->MH->Out PV:=fun ps h=>if ps.length=np then (match m (bR n ps) h with
 | .nx _ h'=>.ok .non h'
 | .rt v h'=>.ok v h'
 | .exc x _ h'=>.exc x h'
 | .rse x _ h'=>.exc x h'
 | _=>.bad) else .bad
def yB{K:qab}{ρ:List Addr}{H:Hp}{N:List Str}{ps:List PV}{vs:List V}(r:RPs K ρ H ps vs):RS K ρ H (bR N.length ps) (L2.start N vs):=by
 have hl:=r.length;refine⟨by simp[bR,L2.start,hl],fun i v e=>?_⟩;unfold bR at e;by_cases hi:i<ps.length
 ·rw[qan (by simpa using hi),qaz] at e
  cases q:ps[i]? with
  | none=>rw[q] at e;cases e
  | some x =>
   rw[q] at e;cases e;obtain⟨v',e',rv⟩:=r.get q;refine⟨v',?_,rv⟩;unfold L2.start;rw[qan (by simp;lia),qaz,e'];rfl
 ·rw[qay (by simpa using hi),qbj] at e
  split at e <;> cases e
def tE{B h:Heap}(k:B.StaysIn h){b:Addr}{o ob:Obj}(e1:B.get? b=some ob)(e2:h.get? b=some o):ob=o:=by
 have:=k b ob e1
 rw[e2] at this;exact (Option.some.inj this).symm
def vh{X:Cx}{σ':L2.St}{H':Hp}{s':Shared}{h' B:Heap}(I:Inv X [] σ' H' s')(hex:X.ex=[])(hB:B.StaysIn s'.heap)(hB':B.StaysIn h')(sm:s'.heap.UpToSlots h')
  (cov:∀b o,X.s₀.heap.get? b=some o->b∉X.fs->∃ob,B.get? b=some ob) (cvH:∀b o,H' b=some o->∃ob,B.get? b=some ob):Un X.fs [] X.H₀ H' X.s₀.heap h'/\HOk X.prog X.w H' h':=by
 have nex:∀b:Addr,b∉X.ex:=fun b=>by rw[hex];simp
 have kp:∀b o ob,B.get? b=some ob->s'.heap.get? b=some o->h'.get? b=some o:=fun b o ob e1 e2=>by
  have:=tE hB e1 e2
  subst this;exact hB' b ob e1
 refine⟨⟨fun b o e n hf _=>?_,fun b o e n hf _=>?_,fun b o e n _=>I.base.free b o e n (nex b),fun b o e _=>?_,I.base.tups,I.base.frzs,I.base.tbls⟩,fun a o e=>?_⟩
 ·obtain⟨ob,eb⟩:=cov b o e hf;exact kp b o ob eb (I.base.keep b o e n hf (nex b))
 ·obtain⟨sl,e1⟩:=I.base.slot b o e n hf (nex b);obtain⟨_,oF,eF,dF⟩:=I.ok.funs.mem hf;rw[e] at eF;cases eF;obtain⟨sl',e2⟩:=sm b _ e1 (fun vs z=>dF vs z);exact⟨sl',e2⟩
 ·by_cases hf:b∈X.fs
  ·obtain⟨_,oF,eF,dF⟩:=I.ok.funs.mem hf;rw[e] at eF;cases eF;obtain⟨sl,e1⟩:=I.base.slot b o e (I.ok.frf b hf) hf (nex b);obtain⟨sl',e2⟩:=sm b _ e1 (fun vs z=>dF vs z);exact⟨_,e2⟩
  ·obtain⟨ob,eb⟩:=cov b o e hf;exact⟨ob,hB' b ob eb⟩
 ·refine (I.hok a o e).stay (fun b u hb z=>?_) (fun _ z=>z) fun _ _ z=>z;rcases hb with rfl|hb
  ·obtain⟨ob,eb⟩:=cvH _ _ e;exact kp _ u ob eb z
  ·obtain⟨ob,eb⟩:=cvH _ _ hb;exact kp _ u ob eb z
def _root_.L2.ObjOk.has(x:ObjOk P w H h a o):∃u,h.get? a=some u:=by
 cases o with
 | lst xs=>obtain⟨_,_,_,_,e⟩:=x;exact⟨_,e⟩
 | tup xs=>obtain⟨_,_,_,o,e,_⟩:=x;exact⟨o,e⟩
 | dK kvs=>obtain⟨_,_,_,_,o,_,_,e,_⟩:=x;exact⟨o,e⟩
 | dT kvs=>obtain⟨_,_,_,_,o,_,_,e,_⟩:=x;exact⟨o,e⟩
 | set S n=>obtain⟨o,_,_,_,e,_⟩:=x;exact⟨o,e⟩
 | ins C dx fs=>obtain⟨_,_,_,e,_⟩:=x;exact⟨_,e⟩
 | own y=>obtain⟨o,e⟩:=x;exact⟨o,e⟩
 | xd fs=>obtain⟨_,⟨o,_,_,e,_⟩,_⟩:=x;exact⟨o,e⟩
 | rng lo hi=>obtain⟨_,_,_,e⟩:=x;exact⟨_,e⟩
 | frz ob u=>obtain⟨e,_⟩:=x;exact⟨_,e⟩
 | tbl ps=>exact⟨_,(show h.get? a=some _ from x)⟩
 | met f y=>exact⟨_,(show h.get? a=some _ from x)⟩
 | ext φ=>obtain⟨_,⟨o,e⟩,_⟩:=x;exact⟨o,e⟩
structure DefCx (X:Cx):Prop where
 stk:X.stack=X.env::X.outer
 fr:X.env.frame=some X.env.locals
 ex:X.ex=[]
def fn_M{P:Program}{w:World}{K:qab}{mg:Str->Option Value}{base:Heap}{x qual:Str}{st:Stmt}{f:Addr}{fd:FuncData}{ps:List Str}{m:Mst}(Fu:Fun K x qual st f fd)(S:FnScope N ps (aM st))
  (hl:∀y∈N,Loc (aM st) y) (hgl:∀y∈G,(aM st).names.lookup y=some .globalImplicit)
  (dbg:∀x∈N++G,(x == ("__debug__":Str))=false/\(x == ("__classdict__":Str))=false/\x≠"__name__")
  (hb:∀X:Cx,X.prog=P->X.w=w->X.K=K->X.mg=mg->X.base=base->X.env.scope=aM st->Good X N N G k->DefCx X->MSs X (aO st) m) :
  FnOk P w K mg base (CXm P w) (k+1) f fd ps (spM K mg (bh N.length ps.length m)):=by
 have len:∀vs H Q E,spM K mg (bh N.length ps.length m) vs H Q E->vs.length=ps.length:=by
  rintro vs H Q E ⟨ρ,zs,h,r,rh,q⟩;rw[<-r.length];unfold bh at q;by_cases hp:zs.length=ps.length
  ·exact hp
  ·rw[qal hp] at q;exact q.elim
 obtain⟨oc,od,kV,doc,pm,an,cdv,ct,osl,rfl,lk,hcd⟩:=Fu.ex;refine fn_of lk hcd S len fun A outer s H vs Q E hr hsp=>?_;obtain⟨ρ,zs,h,r,rh,q⟩:=hsp;refine⟨_,hb _ rfl rfl rfl rfl rfl rfl ⟨rfl,S.nd,hl,fun _ _=>.inl rfl,hgl,dbg,rfl,hr,PassesOwn.leaving⟩ ⟨rfl,rfl,rfl⟩,ρ,bR N.length zs,h,yB r,rh,?_⟩;unfold bh at q;by_cases hp:zs.length=ps.length
 ·rw[qai hp] at q
  cases e:m (bR N.length zs) h with
  | nx σ' h'=>rw[e] at q;exact fun ρ' H' σ' l r' s'=>q ρ' H' .non l r' .non
  | rt v h'=>rw[e] at q;exact q
  | bk σ h'=>rw[e] at q;exact q.elim
  | ct σ h'=>rw[e] at q;exact q.elim
  | bad=>rw[e] at q;exact q.elim
  | exc x σ h' =>
   rw[e] at q;intro ea C ρ' H' σ' s' lim hfs hmg l rh' rs' I' brs fly;obtain⟨B,t,hfl,hBH,hcov,hea⟩:=fly;refine wpAny_leaves_onW (base:=B) (env:=envOfC qual (aM st) s.heap.objs.size f cdv) (outer:=outer) I'.ok.frames rfl hfl fun h'' hfl' sm=>?_;have hb1:∀b o,s.heap.get? b=some o->b∉frs outer->∃ob,B.get? b=some ob:=fun b o eb hf=>by
    obtain⟨o',e'⟩:=brs.old b o eb (by show b∉([]:List Addr);simp);refine hcov b o' e' fun hm=>?_;rcases qao.mp (I'.stkSub b hm) with z|z
    ·exact absurd (qap eb) (by rw[z];exact qaU _)
    ·exact hf z
   obtain⟨un,hk'⟩:=vh (B:=B) I' rfl hfl.1 hfl'.1 sm hb1 hBH;exact⟨ea,C,H',rfl,I'.os,I'.bare,un,hk',⟨B,t,hfl',hBH,hb1,hea⟩,q C ρ' H' hfs hmg l rh'⟩
  | rse x σ h' =>
   rw[e] at q;intro ea C ρ' H' σ' s' h0 args hfs hmg l rh' rs' I' made;have hst:=I'.stack;have hin:∀env∈(envOfC qual (aM st) s.heap.objs.size f cdv::outer),∀b,env.frame=some b->b∈frs (envOfC qual (aM st) s.heap.objs.size f cdv::outer):=fun env he b hb=>qbJ.mpr ⟨env,he,hb⟩;refine wpAny_leaves_madeW (base:=PySem.W.hideAll h0 (frs (envOfC qual (aM st) s.heap.objs.size f cdv::outer))) (h:=h0) (env:=envOfC qual (aM st) s.heap.objs.size f cdv) (outer:=outer) I'.ok.frames rfl (fun b o z=>PySem.W.of_hideAll _ z)
    (PySem.W.funFrames_hide (base:=base) hst hin) made fun h'' t hfl' _ _ sm=>?_
   have sub:∀b,b∈frs (envOfC qual (aM st) s.heap.objs.size f cdv::outer)->b=s.heap.objs.size\/b∈frs outer:=fun b hm=>qao.mp (I'.stkSub b hm);have hb1:∀b o,s.heap.get? b=some o->b∉frs outer->∃ob,(PySem.W.hideAll h0 (frs (envOfC qual (aM st) s.heap.objs.size f cdv::outer))).get? b=some ob:=fun b o eb hf=>by
    obtain⟨o',e'⟩:=I'.base.there b o eb (by show b∉([]:List Addr);simp);refine⟨o',PySem.W.hideAll_get _ e' fun hm=>?_⟩;rcases sub b hm with z|z
    ·exact absurd (qap eb) (by rw[z];exact qaU _)
    ·exact hf z
   have hBH:∀b o,H' b=some o->∃ob,(PySem.W.hideAll h0 (frs (envOfC qual (aM st) s.heap.objs.size f cdv::outer))).get? b=some ob:=fun b o eb=>by
    have hlt:=I'.hok.lt eb;obtain⟨u,eu⟩:∃u,h0.get? b=some u:=(I'.hok b o eb).has;refine⟨u,PySem.W.hideAll_get _ eu fun hm=>?_⟩
    have:=I'.stkFree b hm
    rw[eb] at this;cases this
   have sm0:h0.UpToSlots h'':=(Heap.UpToSlots.of_keeps made.keeps).trans sm;obtain⟨un,hk'⟩:=vh (B:=PySem.W.hideAll h0 (frs (envOfC qual (aM st) s.heap.objs.size f cdv::outer))) I' rfl (fun b o z=>PySem.W.of_hideAll _ z) hfl'.1 sm0 hb1 hBH;have hea:H' ea=none:=by
    cases z:H' ea with
    | none=>rfl
    | some o =>
     obtain⟨u,eu⟩:=(I'.hok ea o z).has;rw[made.new] at eu;cases eu
   exact⟨ea,C,H',rfl,I'.os,I'.bare,un,hk',⟨_,t,hfl',hBH,hb1,hea⟩,q C ρ' H' hfs hmg l rh'⟩
 ·rw[qal hp] at q;exact q.elim
def itAny(v:PV)(h:MH):Out MIt:=match v with
 | .loc n=>(match h[n]? with
  | some (.lst xs)=>.ok ⟨xs,[(n,xs)]⟩ h
  | _=>.bad)
 | .frl xs=>.ok ⟨xs,[]⟩ h
 | .tup xs=>.ok ⟨xs,[]⟩ h
 | _=>.bad
def eG(m:Mx PV):Mx MIt:=fun σ h=>(m σ h).bind itAny
def fi(hl:ME X l m):MI X tg l (eG m):=by
 intro Ie s σ H R I ⟨ρ,σp,h,rs,rh,q⟩;by_cases z:∃xs h1,m σp h=.ok (.tup xs) h1
 ·obtain⟨xs,h1,e⟩:=z;refine mi_tup (tg:=tg) hl Ie s σ H R I ⟨ρ,σp,h,rs,rh,?_⟩;unfold eG at q;unfold mItT;rw[e] at q ⊢;exact q
 ·refine mi_list (tg:=tg) hl Ie s σ H R I ⟨ρ,σp,h,rs,rh,?_⟩;unfold eG at q;unfold mItL
  cases e:m σp h with
  | ok v h1 =>
   rw[e] at q
   cases v with
   | tup xs=>exact absurd ⟨xs,h1,e⟩ z
   | _=>exact q
  | exc x h1=>rw[e] at q;exact q
  | bad=>rw[e] at q;exact q
def Inv.bigM{Ie:List (Addr × Obj)}{σ:L2.St}{H:Hp}{s:Shared}(I:Inv X Ie σ H s):sysModules<s.heap.objs.size:=by
 have h:mainGlobals<s.heap.objs.size:=(I.mod.glob.keeps I.bk).lt;exact qcA (by decide) h
def mDic:Mx PV:=fun _ h=>.ok (.loc h.length) (h++[.dic []])
def iS:ME X (.Dict [] [] pos) mDic:=fun Ie s σ H Q I ⟨ρ,σp,h,rs,rh,q⟩=>by
 have hf:H s.heap.objs.size=none:=I.hok.fresh (qah _);obtain⟨r1,l1⟩:=rh.new hf (o:=.dic []) (ho:=.dK []) (.inl ⟨rfl,rfl⟩);refine wpAny_Dict_empty ⟨.ref s.heap.objs.size,_,I.laid (a:=s.heap.objs.size) (o:=.dK []) (t':=s.toks) (fun _ _ q=>qad _ q) (qah _) ?_,rfl,q _ _ _ l1 r1 (.loc (by rw[<-rh.len];simp))⟩;exact⟨qaM _,beq_eq_false_iff_ne.mpr (Ne.symm (qaG (Inv.bigM I))),[],.nil,Heap.DictOf.new s.heap⟩
structure FnAt (P:Program) (w:World) (K:qab) (mg:Str->Option Value) (base:Heap) (x:Str) (ps:List Str) (F:List PV->MH->Out PV) (k:Nat):Prop where
 ex:∃f fd,mg x=some (.ref f)/\PySem.W.keepIn K (.ref f)=true/\nX K fd ps []/\FnOk P w K mg base (CXm P w) k f fd ps (spM K mg F)/\∃oc od osl,K.lookup f=some ⟨oc,od,.func fd,osl⟩
def FnAt.mono{P:Program}{w:World}{K:qab}{mg:Str->Option Value}{base:Heap}{x:Str}{ps:List Str}{F:List PV->MH->Out PV}{i j:Nat}(c:FnAt P w K mg base x ps F i)(h:i<=j):FnAt P w K mg base x ps F j :=
 let ⟨f,fd,a,b,d,e,z⟩:=c.ex;⟨f,fd,a,b,d,e.mono h,z⟩
def FnAt.cal{P:Program}{w:World}{K:qab}{mg:Str->Option Value}{base:Heap}{x:Str}{ps:List Str}{F:List PV->MH->Out PV}{i:Nat}(c:FnAt P w K mg base x ps F i){X:Cx}(e1:X.prog=P)(e2:X.w=w)(e3:X.K=K)(e4:X.mg=mg)(e5:X.base=base):Cal X x ps F i:=by
 subst e1;subst e2;subst e3;subst e4;subst e5;obtain⟨f,fd,a,b,d,e,_⟩:=c.ex;exact⟨f,fd,a,b,d,e⟩
structure DefAt (K:qab) (x:Str) (st:Stmt):Prop where
 ex:∃f fd,PySem.W.nsIn K mainGlobals x=some (some (.ref f))/\Fun K x x st f fd
def defAt_mk{K:qab}{x:Str}{st:Stmt}{f:Addr}{oc:Value}{od an:Option Addr}{sl:Array (Option Value)}{kV dc pm cd ct:Value}
  (a:PySem.W.nsIn K mainGlobals x=some (some (.ref f))) (l:K.lookup f=some ⟨oc,od,.func (PySem.W.fnOf x x (gf st) (aO st) (aM st) .none kV dc pm an cd ct),sl⟩) (c:PySem.W.codeIn K cd x=true) (kp:PySem.W.keepIn K (.ref f)=true):DefAt K x st :=
 ⟨f,_,a,fun_mk l c kp⟩
def lf(x:Str)(st:Stmt)(ps:List Str):Prop:=∀(kV doc pm:Value) (an:Option Addr) (cdv ct:Value) (us:List Value),us.length=ps.length->bindArgs (PySem.W.fnOf x x (gf st) (aO st) (aM st) .none kV doc pm an cdv ct) ⟨us,[]⟩=pure (ps.zip us)
def fnAt_M{P:Program}{w:World}{K:qab}{mg:Str->Option Value}{base:Heap}{x:Str}{st:Stmt}{ps:List Str}{m:Mst}(kin:K.In base)(ns:base.Ns mainGlobals mg)(D:DefAt K x st)(S:FnScope N ps (aM st))(B:lf x st ps)
  (hl:∀y∈N,(aM st).names.lookup y=some .local\/(aM st).names.lookup y=some .cell) (hgl:∀y∈G,(aM st).names.lookup y=some .globalImplicit)
  (dbg:∀x∈N++G,(x == ("__debug__":Str))=false/\(x == ("__classdict__":Str))=false/\x≠"__name__")
  (hb:∀X:Cx,X.prog=P->X.w=w->X.K=K->X.mg=mg->X.base=base->X.env.scope=aM st->Good X N N G k->DefCx X->MSs X (aO st) m) :
  FnAt P w K mg base x ps (bh N.length ps.length m) (k+1):=by
 obtain⟨f,fd,a,Fu⟩:=D.ex;have Fx:=Fu.ex;obtain⟨oc,od,kV,doc,pm,an,cdv,ct,osl,e1,e2,_⟩:=Fx;exact⟨f,fd,PySem.W.mg_of kin ns a,Fu.kp,Fu.binds B,fn_M Fu S hl hgl dbg hb,oc,od,osl,e2⟩
def head_M{P:Program}{w:World}{K:qab}{mg:Str->Option Value}{h:Heap}{x y:Str}{st:Stmt}{F:List PV->MH->Out PV}{fa:Addr}(D:DefAt K x st)(B:lf x st [y])(hmg:mg x=some (.ref fa))(kin:K.In h)(ns:h.Ns mainGlobals mg)
  (H:∀base:Heap,K.In base->base.Ns mainGlobals mg->FnAt P w K mg base x [y] F k) :
  ∃fd:FuncData,(∀(s:Shared) (u:Value),BindsTo s fd ⟨[u],[]⟩ [(y,u)])/\∀base:Heap,K.In base->base.Ns mainGlobals mg->FnOk P w K mg base (CXm P w) k fa fd [y] (spM K mg F):=by
 obtain⟨f,fd,a,Fu⟩:=D.ex;have e:=hmg.symm.trans (PySem.W.mg_of kin ns a);cases e;obtain⟨oc,od,kV,doc,pm,an,cdv,ct,osl,e1,e2,e3⟩:=Fu.ex;refine⟨fd,fun s u=>.of_eq ?_,fun base kb nb=>?_⟩
 ·rw[e1];exact B kV doc pm an cdv ct [u] rfl
 ·obtain⟨f',fd',g1,g2,g3,g4,oc',od',osl',g5⟩:=(H base kb nb).ex;rw[hmg] at g1;cases g1;rw[e2] at g5;cases g5;exact g4
def spLaw(K:qab):Sp:=fun vs H Q _=>∃(a:Addr) (ns:List Int),vs=[.ref a]/\SqF K H a (ns.map V.int)/\ns.length<=63/\∀H',Q (.bl true) H'
def walk_M{l:PySem.W.OpenLaw}{q:Program}{loose:List Str}{XP:(Str->Option Value)->Heap->Prop}{YP:World->Heap->Prop}{d:DefRec}{K:Params->qab}{x:Str}{F:List PV->MH->Out PV}(hn:l.most=some 63)(hdf:d.params.defaults=[])(hr:Room k callerA)
  (hY:∀(w:World) (h:Heap),YP w h->(K w.params).In h)
  (HF:∀(w:World) (mg:Str->Option Value) (fa:Addr) (h:Heap),(K w.params).In h->h.Ns mainGlobals mg->mg d.name=some (.ref fa) ->
   ∃fd:FuncData,(∀(s:Shared) (u:Value),BindsTo s fd ⟨[u],[]⟩ [(x,u)])/\∀base:Heap,(K w.params).In base->base.Ns mainGlobals mg->FnOk l.prog w (K w.params) mg base (CXm l.prog w) k fa fd [x] (spM (K w.params) mg F))
  (ht:∀ns:List Int,ns.length<=63->∃h',F [.frl (ns.map .int)] []=.ok (.bl true) h') :
  PySem.W.WalkO q loose XP YP l.row.toRowW d [] (fun f vs=>PySem.call f vs):=by
 refine L2.walk_of (n:=63) (k:=k) (x:=x) (CX:=fun w=>CXm l.prog w) (sp:=fun w=>spLaw (K w.params)) hn (by decide) hdf hr hY (fun w mg fa h hK hns hmg=>?_) (fun w H a ns hl hO hS=>?_) fun w H s e s' z=>?_
 ·obtain⟨fd,hb,hF⟩:=HF w mg fa h hK hns hmg;refine⟨fd,hb,fun base kb nb=>(hF base kb nb).imp fun vs H Q E z=>?_⟩;obtain⟨a,ns,rfl,sf,hl,hq⟩:=z;obtain⟨h',e⟩:=ht ns hl;refine⟨[],[.frl (ns.map .int)],[],.cons (.frl sf (RPs.ints ns)) .nil,⟨rfl,qcF,fun n a o z _=>by simp at z⟩,?_⟩;rw[e];intro ρ' H' v' _ _ r;cases r;exact hq H'
 ·have sf:SqF (K w.params) H a (ns.map V.int):=by
   rcases hS with (z|z)|z
   ·rcases hO a with y|⟨o,xs,y⟩
    ·rw[y] at z;cases z
    ·rw[y] at z;cases z
   ·exact .inl z
   ·exact .inr z
  exact⟨a,ns,rfl,sf,hl,fun _=>rfl⟩
 ·obtain⟨_,_,_,_,_,_,_,_,_,z⟩:=z;exact z
end
section
variable {α:Type} {σ:PSt} {h:MH}
@[simp] theorem mC_ap:mC v σ h=.ok v h:=rfl
@[simp] theorem mVar_0{v:PV}{r:PSt}:ag 0 (some v::r) h=.ok v h:=rfl
@[simp] theorem mVar_s{i:Nat}{o:Option PV}{r:PSt}:ag (i+1) (o::r) h=ag i r h:=by simp[ag]
@[simp] theorem mBin_ap:ak f a b σ h=(a σ h).bind fun x h1=>(b σ h1).bind fun y h2=>(f x y h2).ne:=rfl
@[simp] theorem mUn_ap:mUn f a σ h=(a σ h).bind fun x h1=>(f x h1).ne:=rfl
@[simp] theorem mCB_ap:mCB f a σ h=(a σ h).bind fun x h1=>(f x h1).ne:=rfl
@[simp] theorem mCall_ap:aF f a σ h=(a σ h).bind f:=rfl
@[simp] theorem mNil_ap:mNil σ h=.ok [] h:=rfl
@[simp] theorem mCons_ap:ac a r σ h=(a σ h).bind fun x h1=>(r σ h1).bind fun xs h2=>.ok (x::xs) h2:=rfl
@[simp] theorem mLst_ap:bc a σ h=(a σ h).bind newL:=rfl
@[simp] theorem mTup_ap:aA a σ h=(a σ h).bind newT:=rfl
@[simp] theorem mDic_ap:mDic σ h=.ok (.loc h.length) (h++[.dic []]):=rfl
@[simp] theorem mB_ap:mB a σ h=(a σ h).bind fun v h1=>match v with | .bl b=>.ok b h1 | _=>.bad:=rfl
@[simp] theorem mNot_ap:cx a σ h=(a σ h).bind fun b h1=>.ok (!b) h1:=rfl
@[simp] theorem mOr_ap:mOr a b σ h=(a σ h).bind fun x h1=>if x=true then .ok true h1 else b σ h1:=rfl
@[simp] theorem mAndV_ap:eW a b σ h=(a σ h).bind fun x h1=>match x with | .bl c=>if c=true then b σ h1 else .ok (.bl false) h1 | _=>.bad:=rfl
@[simp] theorem mNotV_ap:qI a σ h=(a σ h).bind fun x h1=>match x with | .bl c=>.ok (.bl (!c)) h1 | _=>.bad:=rfl
@[simp] theorem mSkip_ap:mSkip σ h=.nx σ h:=rfl
@[simp] theorem oP:aD a b σ h=(a σ h).then b:=rfl
@[simp] theorem aq:(SOut.nx σ h).then k=k σ h:=rfl
@[simp] theorem then_rt:(SOut.rt v h).then k=.rt v h:=rfl
@[simp] theorem then_bk:(SOut.bk σ h).then k=.bk σ h:=rfl
@[simp] theorem then_ct:(SOut.ct σ h).then k=.ct σ h:=rfl
@[simp] theorem zk:(SOut.rse x σ h).then k=.rse x σ h:=rfl
@[simp] theorem zu:(SOut.exc x σ h).then k=.exc x σ h:=rfl
@[simp] theorem zq:SOut.bad.then k=.bad:=rfl
def Out.rt(o:Out PV)(σ:PSt):SOut:=match o with
 | .ok v h'=>.rt v h'
 | .exc x h'=>.exc x σ h'
 | .bad=>.bad
@[simp] theorem rt_ok:(Out.ok v h).rt σ=.rt v h:=rfl
@[simp] theorem rt_exc:(Out.exc x h:Out PV).rt σ=.exc x σ h:=rfl
@[simp] theorem rt_bad:(Out.bad:Out PV).rt σ=.bad:=rfl
@[simp] theorem mRet_ap:aN m σ h=(m σ h).rt σ:=rfl
def Out.go{α:Type}(o:Out α)(σ:PSt)(k:α->Mst):SOut:=match o with
 | .ok v h'=>k v σ h'
 | .exc x h'=>.exc x σ h'
 | .bad=>.bad
@[simp] theorem aH:(Out.ok v h).go σ k=k v σ h:=rfl
@[simp] theorem go_exc:(Out.exc x h:Out α).go σ k=.exc x σ h:=rfl
@[simp] theorem go_bad:(Out.bad:Out α).go σ k=.bad:=rfl
@[simp] theorem mEx_ap:mEx m k σ h=(m σ h).go σ k:=rfl
@[simp] theorem mDrop_ap:eV m σ h=(m σ h).go σ fun _=>mSkip:=rfl
@[simp] theorem mIf_ap:mIf c a b σ h=(c σ h).go σ fun x=>if x=true then a else b:=rfl
@[simp] theorem mSet_ap:aW i m σ h=(m σ h).go σ fun v σ h=>.nx (σ.set i (some v)) h:=rfl
@[simp] theorem mAsg_ap:mF m g σ h=(m σ h).go σ fun v σ h=>match g v σ h with | .nx σ2 h2=>.nx σ2 h2 | .exc x σ2 h2=>.exc x σ2 h2 | _=>.bad:=rfl
@[simp] theorem gNm_ap:gNm i v σ h=.nx (σ.set i (some v)) h:=rfl
@[simp] theorem gNl_ap:gNl [] σ h=.nx σ h:=rfl
@[simp] theorem gCn_ap:gCn a r (v::vs) σ h=(a v σ h).then (r vs):=rfl
@[simp] theorem gTp_ap:gTp r n (.tup xs) σ h=if xs.length=n then r xs σ h else .bad:=rfl
@[simp] theorem mFor_ap:jD mi g b σ h=(mi σ h).go σ fun it=>mGo it g b it.xs:=rfl
@[simp] theorem mItS_ap:eG m σ h=(m σ h).bind itAny:=rfl
@[simp] theorem zg:gZ m σ h=(m σ h).bind fun vs h1=>match vs with
 | [.int j]=>if -(2 ^ 62)<=j/\j<2 ^ 62 then .ok ⟨bq 0 j.toNat,[]⟩ h1 else .bad
 | _=>.bad:=rfl
@[simp] theorem mItR2_ap:jy m σ h=(m σ h).bind fun vs h1=>match vs with
 | [.int i,.int j]=>if -(2 ^ 62)<=i/\i<2 ^ 62 /\ -(2 ^ 62)<=j/\j<2 ^ 62 then .ok ⟨bq i (j - i).toNat,[]⟩ h1 else .bad
 | _=>.bad:=rfl
@[simp] theorem gSb_ap:gSb mo mi v σ h=(mo σ h).go σ fun o=>mEx mi fun i σ h=>match tf o i v h with
 | some h2=>.nx σ h2
 | none=>.bad:=rfl
def SOut.fin(o:SOut):Out PV:=match o with
 | .nx _ h'=>.ok .non h'
 | .rt v h'=>.ok v h'
 | .exc x _ h'=>.exc x h'
 | .rse x _ h'=>.exc x h'
 | _=>.bad
@[simp] theorem fin_exc:(SOut.exc x σ h).fin=.exc x h:=rfl
@[simp] theorem fin_rse:(SOut.rse x σ h).fin=.exc x h:=rfl
@[simp] theorem de:(SOut.rt v h).fin=.ok v h:=rfl
@[simp] theorem fin_nx:(SOut.nx σ h).fin=.ok .non h:=rfl
theorem iG(e:ps.length=np):bh n np m ps h=(m (bR n ps) h).fin:=by unfold bh;rw[qai e];rfl
end
section
variable {h:MH} {i j:Int}
@[simp] theorem opAdd_ii:opAdd (.int i) (.int j) h=.ok (.int (i+j)) h:=rfl
@[simp] theorem opSub_ii:opSub (.int i) (.int j) h=.ok (.int (i - j)) h:=rfl
@[simp] theorem opNeg_i:opNeg (.int i) h=.ok (.int (-i)) h:=rfl
@[simp] theorem opLt_ii:opLt (.int i) (.int j) h=.ok (.bl (decide (i<j))) h:=rfl
@[simp] theorem opLe_ii:opLe (.int i) (.int j) h=.ok (.bl (decide (i<=j))) h:=rfl
@[simp] theorem opGt_ii:opGt (.int i) (.int j) h=.ok (.bl (decide (j<i))) h:=rfl
@[simp] theorem opGe_ii:opGe (.int i) (.int j) h=.ok (.bl (decide (j<=i))) h:=rfl
@[simp] theorem opEq_ii:opEq (.int i) (.int j) h=.ok (.bl (decide (i=j))) h:=by simp[opEq,rd,SeqAt.shaped,PyData.canLay0,PyData.depth,PyData.eqv,qbL]
@[simp] theorem opNe_ii:opNe (.int i) (.int j) h=.ok (.bl (!decide (i=j))) h:=by simp[opNe,rd,SeqAt.shaped,PyData.canLay0,PyData.depth,PyData.eqv,qbL]
@[simp] theorem opEq_bb:opEq (.bl a) (.bl b) h=.ok (.bl (a == b)) h:=by simp[opEq,rd,SeqAt.shaped,PyData.canLay0,PyData.depth,PyData.eqv]
@[simp] theorem opNe_bb:opNe (.bl a) (.bl b) h=.ok (.bl (!(a == b))) h:=by simp[opNe,rd,SeqAt.shaped,PyData.canLay0,PyData.depth,PyData.eqv]
theorem eN(hj:j≠0):opMod (.int i) (.int j) h=.ok (.int (i.fmod j)) h:=by simp[opMod,hj]
def uL(hj:j≠0)(hl:j.natAbs.log2<9000):opFd (.int i) (.int j) h=.ok (.int (i.fdiv j)) h:=by simp[opFd,hj,PyProof.noPylong_of_log2 hl]
def gh(hl:-(2 ^ 64)<i/\i<2 ^ 64):opMul (.int i) (.int j) h=.ok (.int (i * j)) h:=by simp[opMul,IntMulOk.of_left (intBits_le_64 hl.1 hl.2)]
def opMul_r(hl:-(2 ^ 64)<j/\j<2 ^ 64):opMul (.int i) (.int j) h=.ok (.int (i * j)) h:=by simp[opMul,IntMulOk.of_right (intBits_le_64 hl.1 hl.2)]
def rZ(hj:0<=j/\j<=1000000/\i.natAbs<2 ^ 64):opPow (.int i) (.int j) h=.ok (.int (i ^ j.toNat)) h:=by simp[opPow,eK,hj]
@[simp] theorem fAbs_i:fAbs [.int i] h=.ok (.int (if i<0 then -i else i)) h:=rfl
@[simp] theorem fMin_ii:fMin [.int i,.int j] h=.ok (.int (if j<i then j else i)) h:=rfl
@[simp] theorem fMax_ii:fMax [.int i,.int j] h=.ok (.int (if j>i then j else i)) h:=rfl
@[simp] theorem fInt_i:fInt [.int i] h=.ok (.int i) h:=rfl
@[simp] theorem fInt_b:fInt [.bl b] h=.ok (.int (if b then 1 else 0)) h:=rfl
@[simp] theorem fLen_frl:fLen [.frl xs] h=.ok (.int xs.length) h:=rfl
@[simp] theorem fLen_tup:fLen [.tup xs] h=.ok (.int xs.length) h:=rfl
theorem wu(hl:xs.length<=1000):newL xs h=.ok (.loc h.length) (h++[.lst xs]):=by
 unfold newL;rw[qai (qaw hl (by decide))]
def vy(hl:m<n):ixN n (m:Int)=some m:=by unfold ixN;rw[qai (by lia),qai (by lia)];simp
@[simp] theorem atI_0:atI (a::r) 0=some a:=eB (j:=0) rfl
@[simp] theorem atI_1:atI (a::b::r) 1=some b:=eB (j:=1) rfl
@[simp] theorem atI_2:atI (a::b::c::r) 2=some c:=eB (j:=2) rfl
@[simp] theorem atI_3:atI (a::b::c::d::r) 3=some d:=eB (j:=3) rfl
def Out.ofO(o:Option PV)(h:MH):Out PV:=match o with
 | some v=>.ok v h
 | none=>.bad
@[simp] theorem ofO_some:Out.ofO (some v) h=.ok v h:=rfl
@[simp] theorem opIx_tup:aR (.tup xs) (.int i) h=Out.ofO (atI xs i) h:=rfl
@[simp] theorem opIx_frl:aR (.frl xs) (.int i) h=Out.ofO (atI xs i) h:=rfl
theorem i5(e:h[n]?=some (.lst xs)):aR (.loc n) (.int i) h=Out.ofO (atI xs i) h:=by
 simp only[aR,e];rfl
def mO(e:h[n]?=some (.lst xs)):tf (.loc n) (.int i) v h=(ixN xs.length i).map fun p=>h.set n (.lst (xs.set p v)):=by simp only[tf,e]
@[simp] theorem itAny_tup:itAny (.tup xs) h=.ok ⟨xs,[]⟩ h:=rfl
@[simp] theorem itAny_frl:itAny (.frl xs) h=.ok ⟨xs,[]⟩ h:=rfl
@[simp] theorem ok_none:(⟨xs,[]⟩:MIt).ok h↔True:=⟨fun _=>trivial,fun _ p hp=>nomatch hp⟩
@[simp] theorem ok_some:(⟨xs,[(n,zs)]⟩:MIt).ok h↔h[n]?=some (.lst zs):=by
 constructor
 ·intro q;exact q (n,zs) (by simp)
 ·intro q p hp;have e:p=(n,zs):=List.mem_singleton.mp hp;subst e;exact q
end
def SOut.turn(o:SOut)(k:Mst):SOut:=match o with
 | .nx σ2 h2=>k σ2 h2
 | .ct σ2 h2=>k σ2 h2
 | .bk σ2 h2=>.nx σ2 h2
 | .rt v h2=>.rt v h2
 | .exc e σ2 h2=>.exc e σ2 h2
 | .rse e σ2 h2=>.rse e σ2 h2
 | .bad=>.bad
@[simp] theorem yZ:(SOut.rse x σ h).turn k=.rse x σ h:=rfl
@[simp] theorem yW:(SOut.exc x σ h).turn k=.exc x σ h:=rfl
@[simp] theorem turn_nx:(SOut.nx σ h).turn k=k σ h:=rfl
@[simp] theorem turn_ct:(SOut.ct σ h).turn k=k σ h:=rfl
@[simp] theorem turn_bk:(SOut.bk σ h).turn k=.nx σ h:=rfl
@[simp] theorem turn_rt:(SOut.rt v h).turn k=.rt v h:=rfl
theorem mGo_nil(e:it.ok h):mGo it g b [] σ h=.nx σ h:=by
 rw[mGo];dsimp only;rw[qai e]
def zN(e:it.ok h)(eg:g x σ h=.nx σ1 h1):mGo it g b (x::r) σ h=(b σ1 h1).turn (mGo it g b r):=by
 rw[mGo];dsimp only;rw[qai e,eg];rfl
def rP(I:Nat->Shared->Prop)
  (turn:∀n s,I n s->wpAny (model prog w) A (pyNext it) (fun r s₁=>match r with
   | none=>R (.ok .next) s₁
   | some v=>wpAny (model prog w) A (letOwnedTupleGo target it v) (fun _ s₂'=>wpAny (model prog w) A (assign target env v) (fun _ s₂ =>
     wpAny (model prog w) A (forIn ifs true fun c r=>if r=true then do let ok <-isTrue c env (eval c env);pure (ForInStep.yield ok) else pure (ForInStep.yield r)) (fun ok s₃ =>
      if ok=true then wpAny (model prog w) A (eval elt env) (fun x s₄ =>
       wpAny (model prog w) A (call (.builtin "list.append") [acc,x]) (fun _ s₅=>∃m,m<n/\I m s₅) (fun _ _=>False) s₄) (fun _ _=>False) s₃
      else ∃m,m<n/\I m s₃) (fun _ _=>False) s₂) (fun _ _=>False) s₂') (fun _ _=>False) s₁) (fun _ _=>False) s)
  (n:Nat) (h:I n s) :
  codeAny (model prog w) A (.compLoop (.ListComp elt [⟨target,iter,ifs,0⟩] scope pos) 0 it acc env) R s:=by
 refine codeAny_loop rfl I (fun n s hI=>?_) n h;show wpAny _ A ((compTurn (.ListComp elt [⟨target,iter,ifs,0⟩] scope pos) 0 it acc env).onRaise (fun x=>do noteFrame x env;theTreesLotGoes x)) _ _ s;refine wpAny_noted ?_;rw[compTurn_list];have no:∀(e:Value) (s':Shared),False->notedBy (model prog w) A env (fun e s'=>R (.error e) s') e s':=fun _ _ z=>z.elim;refine qaa (wpAny_standAt (qaa (wpAny_mono (turn n s hI) (fun r s₁ h₁=>?_) fun _ _ h'=>h'.elim)))
 cases r with
 | none=>exact qae h₁
 | some v =>
  refine qaa (wpAny_mono h₁ (fun _ s₂' h₂'=>?_) fun _ _ h'=>h'.elim);refine qaa (wpAny_mono h₂' (fun _ s₂ h₂=>qaa (wpAny_mono h₂ (fun ok s₃ h₃=>?_) fun _ _ h'=>h'.elim)) fun _ _ h'=>h'.elim)
  cases ok with
  | false=>exact qae ⟨rfl,h₃⟩
  | true =>
   exact qaa (qaa (wpAny_mono h₃ (fun x s₄ h₄=>qaa (wpAny_mono h₄ (fun _ s₅ h₅=>qae (qae ⟨rfl,h₅⟩)) fun _ _ h'=>h'.elim)) fun _ _ h'=>h'.elim))
def jh(env:Env):List (Str × NameKind)->List (Str × Addr)->List (Str × Addr)
 | [],cs=>cs
 | (n,k)::r,cs=>jh env r (if (k == NameKind.free)=true then (n,(env.cells.lookup n).getD 0)::cs else cs)
def qF(h:∀y∈scope.names,y.2=.free->∃c,env.cells.lookup y.1=some c):closureFor scope env=pure (jh env scope.names []):=by
 have key:∀(l:List (Str × NameKind)) (cs:List (Str × Addr)),(∀y∈l,y.2=.free->∃c,env.cells.lookup y.1=some c) ->
   (forIn l cs fun (x:Str × NameKind) (r:List (Str × Addr))=>if (x.2 == NameKind.free)=true then (do let a <-cellOf env x.1;pure (ForInStep.yield ((x.1,a)::r)):Sem _) else pure (ForInStep.yield r))=(pure (jh env l cs):Sem _):=by
  intro l
  induction l with
  | nil=>intro cs _;rfl
  | cons y l ih =>
   intro cs hh;obtain⟨n,k⟩:=y;rw[List.forIn_cons];have hl:=fun z hz=>hh z (qam _ hz);by_cases hk:(k == NameKind.free)=true
   ·obtain⟨c,hc⟩:=hh (n,k) qaF (by simpa using hk);dsimp only at hc ⊢;rw[qai hk];have hco:cellOf env n=pure c:=by unfold cellOf;rw[hc]
    rw[hco];refine (ih ((n,c)::cs) hl).trans ?_;simp only[jh,hk,if_true,hc,Option.getD_some]
   ·dsimp only;rw[qal hk];refine (ih cs hl).trans ?_;simp[jh,hk]
 unfold closureFor;exact (congrArg (fun z=>z >>= fun r=>pure r) (key scope.names [] h)).trans rfl
def lK:∀(l:List (Str × NameKind)) (cs:List (Str × Addr)),(∀a,cs.lookup x=some a->a=(env.cells.lookup x).getD 0)->(∀a,(jh env l cs).lookup x=some a->a=(env.cells.lookup x).getD 0)/\((∃k,(x,k)∈l/\k=.free)\/(∃a,cs.lookup x=some a)->∃a,(jh env l cs).lookup x=some a):=by
 intro l
 induction l with
 | nil =>
  intro cs h;refine⟨h,fun z=>?_⟩;rcases z with ⟨k,z,_⟩|z
  ·cases z
  ·exact z
 | cons y r ih =>
  intro cs h;obtain⟨n,k⟩:=y;have h':∀a,(if (k == NameKind.free)=true then (n,(env.cells.lookup n).getD 0)::cs else cs).lookup x=some a->a=(env.cells.lookup x).getD 0:=fun a ha=>by
   split at ha
   ·rw[qaP] at ha
    split at ha
    ·rename_i e
     have:x=n:=by simpa using e
     subst this;exact (Option.some.inj ha).symm
    ·exact h a ha
   ·exact h a ha
  obtain⟨i1,i2⟩:=ih _ h';refine⟨i1,fun z=>i2 ?_⟩;rcases z with ⟨k',z,hk⟩|⟨a,z⟩
  ·rcases qao.mp z with e|e
   ·cases e;right;subst hk;exact⟨(env.cells.lookup x).getD 0,by simp⟩
   ·exact .inl ⟨k',e,hk⟩
  ·right;split
   ·rw[qaP];split
    ·exact⟨_,rfl⟩
    ·exact⟨a,z⟩
   ·exact⟨a,z⟩
def ce{env:Env}(hk:env.scope.kind=.function):∀{names:List (Str × NameKind)} {x:Str} {k:NameKind},names.lookup x=some k ->
  (names.map fun (n,k)=>if (k == NameKind.free && env.scope.kind == .function && env.kindOf n == some .cell) then (n,NameKind.cell) else (n,k)).lookup x=some (if k=.free/\env.kindOf x=some .cell then .cell else k):=by
 intro names
 induction names with
 | nil=>intro x k h;simp at h
 | cons y r ih0 =>
  intro x k h;obtain⟨n,k'⟩:=y;have ih:=@ih0 x k;show List.lookup x ((if (k' == NameKind.free && env.scope.kind == .function && env.kindOf n == some .cell)=true then (n,NameKind.cell) else (n,k'))::_)=_
  cases hx:x == n with
  | true =>
   have e:x=n:=by simpa using hx
   subst e;simp only[qaP,hx] at h;cases h;by_cases z:k=.free/\env.kindOf x=some .cell
   ·rw[qai (by simp[z.1,z.2,hk]),qai z];simp[qaP]
   ·rw[qal (by simp[hk];intro q1 q2;exact z ⟨q1,q2⟩),qal z];simp[qaP]
  | false =>
   simp only[qaP,hx] at h;by_cases hc:(k' == NameKind.free && env.scope.kind == .function && env.kindOf n == some .cell)=true
   ·rw[qai hc];simp only[qaP,hx];exact ih h
   ·rw[qal hc];simp only[qaP,hx];exact ih h
def dl(X:Cx)(scope:Scope)(cl:List (Str × Addr))(s₃:Shared)(H₃:Hp)(fp:List Addr)(N':List Str):Cx :=
 { X with N:=N',s₀:=s₃,H₀:=H₃,env:=compEnvC scope cl s₃.heap.objs.size X.env,outer:=X.stack,ex:=fp,fn:=fun x=>decide (scope.names.lookup x=some .cell),pn:=[],xe:=fun _ _=>False}
structure CompOk (X:Cx) (N:List Str) (scope:Scope) (vars frees:List Str) (fm:List Nat):Prop where
 kind:scope.kind=.function
 cell:∀y∈scope.names,y.2=.cell->scope.names.lookup y.1=some .cell
 names:∀y∈scope.names,y.2=.local->scope.names.lookup y.1=some .local
 hv:∀x∈vars,scope.names.lookup x=some .local\/scope.names.lookup x=some .cell
 hf:∀x∈frees,scope.names.lookup x=some .free
 all:∀y∈scope.names,y.2=.free->y.1∈frees
 fm:fm.map (fun i=>N[i]?)=frees.map some
 cl:∀x∈frees,X.env.kindOf x=some .cell
def cSt(nv:Nat)(fm:List Nat)(σ:PSt):PSt:=List.replicate nv none++fm.map fun i=>(σ[i]?).getD none
def cGo(it:MIt)(n:Nat)(gt:Mg)(mt:Mx Bool)(me:Mx PV):List PV->PSt->MH->Out Unit
 | [],_,h=>if it.ok h then .ok () h else .bad
 | x::r,σ,h=>if it.ok h then (match gt x σ h with
  | .nx σ1 h1=>(mt σ1 h1).ne.bind fun b h2=>if b=true then (me σ1 h2).ne.bind fun v h3=>(match h3[n]? with
    | some (.lst ys)=>if ys.length<sizeLine then cGo it n gt mt me r σ1 (h3.set n (.lst (ys++[v]))) else .bad
    | _=>.bad) else cGo it n gt mt me r σ1 h2
  | _=>.bad) else .bad
def cv(nv:Nat)(fm:List Nat)(mi:Mx MIt)(gt:Mg)(mt:Mx Bool)(me:Mx PV):Mx PV:=fun σ h =>
 (mi σ h).bind fun it h1=>(cGo it h1.length gt mt me it.xs (cSt nv fm σ) (h1++[.lst []])).bind fun _ h3=>.ok (.loc h1.length) h3
def MTs(X:Cx)(ifs:List Expr)(m:Mx Bool):Prop :=
 ∀(Ie:List (Addr × Obj)) (s:Shared) (σ:L2.St) (H:Hp) (Q:Bool->Hp->Prop),Inv X Ie σ H s->tM X REq m σ H Q ->
  wpAny (model X.prog X.w) X.A (forIn ifs true fun c r=>if r=true then do let ok <-isTrue c X.env (eval c X.env);pure (ForInStep.yield ok) else pure (ForInStep.yield r)) (TP X Ie σ Q) X.xe s
def mTrue:Mx Bool:=fun _ h=>.ok true h
def f9:MTs X [] mTrue:=fun Ie s σ H Q I ⟨ρ,σp,h,rs,rh,q⟩=>wpAny_tests_nil ⟨H,I,q ρ H true (Le.refl _ _) rh rfl⟩
def lp(h:MT X c m):MTs X [c] m:=fun Ie s σ H Q I q=>wpAny_tests_one (h Ie s σ H Q I q)
inductive CS (X:Cx) (ρ:List Addr) (H:Hp) (σp:PSt) (gt:Mg) (mt:Mx Bool) (me:Mx PV) (σ0:PSt) (Q:VK) (J:It) (H1:Hp):Prop
 | mk (ρ1:List Addr) (it:MIt) (h1:MH) (l:Le ρ H ρ1 H1) (rh:RH X.K X.mg ρ1 H1 h1) (j:qW X ρ1 H1 it J) (q:Ful X (RV' X) σp ρ1 H1 ((cGo it h1.length gt mt me it.xs σ0 (h1++[.lst []])).bind fun _ h3=>.ok (.loc h1.length) h3) Q):CS X ρ H σp gt mt me σ0 Q J H1
inductive CI (X Y:Cx) (it:MIt) (tn:Nat->Heap->Prop) (fp ρ0:List Addr) (H0:Hp) (σp:PSt) (n1:Nat) (gt:Mg) (mt:Mx Bool) (me:Mx PV) (Q:VK) (n:Nat) (s6:Shared):Prop
 | mk (i:Nat) (σ6:L2.St) (H6:Hp) (ρ6:List Addr) (σp6:PSt) (h6:MH) (e:n=it.xs.length - i) (l:i<=it.xs.length) (v:Inv Y [] σ6 H6 s6) (t:tn i s6.heap) (f:∀b∈fp,H6 b=none) (le:Le ρ0 H0 ρ6 H6) (rs:RS X.K ρ6 H6 σp6 σ6) (rh:RH X.K X.mg ρ6 H6 h6)
   (q:Ful X (RV' X) σp ρ6 H6 ((cGo it n1 gt mt me (it.xs.drop i) σp6 h6).bind fun _ h3=>.ok (.loc n1) h3) Q):CI X Y it tn fp ρ0 H0 σp n1 gt mt me Q n s6
def qD
  (hQ:Q (newEnv scope s.heap.objs.size globals (cellsFrom (s.heap.objs.size+1) scope.names closure) qual none .none (some env) builtinsNs) { s with heap:=pushCells (s.heap.push { cls:=.type "dict",data:=.dict #[]}) scope.names}) :
  wpAny M A (newFunctionEnv scope globals closure [] qual none .none (some env)) Q E s:=by
 simp only[newFunctionEnv,Option.isSome_some,if_true];refine qaa (wpAny_alloc ?_);refine qaa (wpAny_layCells _ (fun name kind cells=>by cases hkc:kind == NameKind.cell <;> simp[hkc]) _ _ _ _ ?_);rw[show ({ s with heap:=s.heap.push { cls:=.type "dict",data:=.dict #[]}}:Shared).heap.objs.size=s.heap.objs.size+1 from qby ..];rw[List.forIn_nil];exact qaa (qae (qae hQ))
def cT:∀(names:List (Str × NameKind)) (n:Nat) (acc:List (Str × Addr)),cellsFrom n names acc=cellsFrom n names []++acc
 | [],n,acc=>rfl
 | (x,k)::r,n,acc=>by
  unfold cellsFrom;split
  ·rw[cT r (n+1) ((x,n)::acc),cT r (n+1) [(x,n)]];simp
  ·exact cT r n acc
def d8:∀(names:List (Str × NameKind)) (n:Nat) (x:Str),(∃c,(x,c)∈cellsFrom n names [])↔(x,NameKind.cell)∈names
 | [],n,x=>by simp[cellsFrom]
 | (y,k)::r,n,x=>by
  unfold cellsFrom;split
  ·rename_i hk
   have hk':k=NameKind.cell:=by simpa using hk
   subst hk';rw[cT];constructor
   ·rintro⟨c,hc⟩;rcases qau.mp hc with hc|hc
    ·exact qam _ ((d8 r (n+1) x).mp ⟨c,hc⟩)
    ·have:x=y:=by simp at hc;exact hc.1
     rw[this];exact qaF
   ·intro h;rcases qao.mp h with e|h
    ·have:x=y:=by simpa using e
     subst this;exact⟨n,qaf _ (by simp)⟩
    ·obtain⟨c,hc⟩:=(d8 r (n+1) x).mpr h;exact⟨c,qaC _ hc⟩
  ·rename_i hk
   rw[d8 r n x];constructor
   ·exact qam _
   ·intro h;rcases qao.mp h with e|h
    ·exfalso
     have:NameKind.cell=k:=by simpa using (Prod.mk.inj e).2
     rw[<-this] at hk;exact hk rfl
    ·exact h
def jQ{α:Type}:∀(a b:List (Str × α)) (x:Str),(a++b).lookup x=(a.lookup x).or (b.lookup x)
 | [],b,x=>rfl
 | (y,v)::a,b,x=>by
  rw[qbZ,qaP,qaP]
  cases x == y with
  | true=>rfl
  | false=>exact jQ a b x
def rf{α:Type}:∀(a:List (Str × α)) (x:Str),a.lookup x=none->∀c,(x,c)∉a
 | [],x,_,c,h=>nomatch h
 | (y,v)::a,x,e,c,h=>by
  rw[qaP] at e
  cases z:x == y with
  | true=>rw[z] at e;cases e
  | false =>
   rw[z] at e;rcases qao.mp h with q|q
   ·have:x=y:=(Prod.mk.inj q).1
    rw[this] at z;simp at z
   ·exact rf a x e c q
section
variable {X:Cx} {N W G:List Str} {k:Nat}
def pH(g:Good X N W G k){tg iter elt:Expr}{ifs:List Expr}{scope:Scope}{pos:Pos}{vars frees G':List Str}{fm:List Nat}{mi:Mx MIt}{gt:Mg}{mt:Mx Bool}{me:Mx PV}(C:CompOk X N scope vars frees fm)
  (nd:(vars++frees).Nodup) (hgl:∀x∈G',scope.names.lookup x=some .globalImplicit) (dbg:∀x∈(vars++frees)++G',(x == ("__debug__":Str))=false/\(x == ("__classdict__":Str))=false/\x≠"__name__")
  (hi:MI X tg iter mi)
  (hY:∀Y:Cx,Y.prog=X.prog->Y.w=X.w->Y.K=X.K->Y.mg=X.mg->Y.base=X.base->Y.env.scope=relabel scope X.env->Good Y (vars++frees) vars G' k->MG Y tg gt/\MTs Y ifs mt/\ME Y elt me)
  (hs:∀x,foldedSetIterable iter X.env x=pure x) {use:Option (Value->Sem Unit)} {Qv:Value->Shared->Prop} {pp:Pos} {Ie:List (Addr × Obj)} {s:Shared} {σ:L2.St} {H:Hp} {Q:VK} (I:Inv X Ie σ H s) (tm:tM X (RV' X) (cv vars.length fm mi gt mt me) σ H Q)
  (fin:∀(acc C:Addr) (H6:Hp) (s7:Shared) (m7:Str->Option Value),Inv X Ie σ H6 s7->H6 C=none->s7.heap.Ns C m7->C≠X.env.locals->X.s₀.heap.objs.size<=C->C∉X.fs->(∀x c,X.env.cells.lookup x=some c->c≠C)->(∀p∈X.pn++Ie,p.1≠C)->Q (.ref acc) H6 ->
   compPost (model X.prog X.w) X.A X.xe use Qv (.ref acc) C (.ok .next) s7) :
  wpAny (model X.prog X.w) X.A (comprehension (.ListComp elt [⟨tg,iter,ifs,0⟩] scope pos) scope X.env pp (newList []) false (eval iter X.env) use) Qv X.xe s:=by
 obtain⟨ρ,σp,h,rs,rh,q⟩:=tm;have hfree:∀y∈scope.names,y.2=.free->∃c,X.env.cells.lookup y.1=some c:=fun y hy e=>I.ok.has y.1 (.inl (C.cl _ (C.all y hy e)));refine wpAny_comprehension_free (use:=use) rfl hs (qF hfree) C.kind C.names ?_;generalize hcl:jh X.env scope.names []=cl;have clk:∀x a,cl.lookup x=some a->X.env.cells.lookup x=some a\/((X.env.cells.lookup x)=none/\a=0):=fun x a e=>by
  rw[<-hcl] at e
  have:=(lK (env:=X.env) (x:=x) scope.names [] (fun a z=>by simp at z)).1 a e
  cases z:X.env.cells.lookup x with
  | none=>right;rw[z] at this;exact⟨rfl,this⟩
  | some c=>left;rw[z] at this;rw[this];rfl
 have clf:∀x∈frees,∃c,cl.lookup x=some c/\X.env.cells.lookup x=some c:=fun x hx=>by
  obtain⟨c,hc⟩:=I.ok.has x (.inl (C.cl x hx));have hm:(∃kk,(x,kk)∈scope.names/\kk=.free):=⟨.free,PySem.mem_of_lookup (C.hf x hx),rfl⟩;obtain⟨a,ha⟩:=(lK (env:=X.env) (x:=x) scope.names [] (fun a z=>by simp at z)).2 (.inl hm);rw[hcl] at ha;rcases clk x a ha with z|⟨z,_⟩
  ·rw[hc] at z;cases z;exact⟨c,ha,hc⟩
  ·rw[hc] at z;cases z
 have clin:∀x a,cl.lookup x=some a->X.env.cells.lookup x=some a/\x∈frees:=fun x a e=>by
   have only:∀(l:List (Str × NameKind)) (cs:List (Str × Addr)) (x:Str) (a:Addr),(jh X.env l cs).lookup x=some a->(x,NameKind.free)∈l\/cs.lookup x=some a:=by
    intro l
    induction l with
    | nil=>intro cs x a e;exact .inr e
    | cons y l ih =>
     intro cs x a e;obtain⟨n,kk⟩:=y;rcases ih _ x a e with z|z
     ·exact .inl (qam _ z)
     ·split at z
      ·rename_i hk
       have hk':kk=NameKind.free:=by simpa using hk
       rw[qaP] at z
       split at z
       ·rename_i e'
        have:x=n:=by simpa using e'
        subst this;subst hk';exact .inl qaF
       ·exact .inr z
      ·exact .inr z
   have e':=e;rw[<-hcl] at e';rcases only _ _ x a e' with z'|z'
   ·refine⟨?_,C.all _ z' rfl⟩;rcases clk x a e with z|⟨z,_⟩
    ·exact z
    ·obtain⟨c,hc⟩:=hfree _ z' rfl;rw[z] at hc;cases hc
   ·simp at z'
 have start:=hi Ie s σ H (CS X ρ H σp gt mt me (cSt vars.length fm σp) Q) I
  ⟨ρ,σp,h,rs,rh,Ful.bind q fun ρ1 H1 it J h1 _ l1 rh1 jr q1=>⟨ρ1,it,h1,l1,rh1,jr,q1⟩⟩
 refine wpAny_mono start (fun x s₁ h₁=>wpAny_mono h₁ (fun itv s₂ h₂=>?_) fun _ _ e=>e) fun _ _ e=>e;obtain⟨ita,fp,tn,J,H2,rfl,I2,T,st2,f2,ρ1,it,h1,l1,rh1,jr,q1⟩:=h₂;refine wpAny_newObj_type ?_;have hf2:H2 s₂.heap.objs.size=none:=I2.hok.fresh (qah _);have I3:=I2.lnew (ys:=[]) (its:=[]) (t':=s₂.toks) .nil (qaM _);obtain⟨rh3,l3⟩:=rh1.new hf2 (o:=.lst []) (ho:=.lst []) ⟨[],rfl,.nil⟩;generalize hs3:({ s₂ with heap:=s₂.heap.push { cls:=.type "list",data:=.seq ([]:List Value).toArray},toks:=s₂.toks}:Shared)=s₃ at I3;generalize hH3:upd H2 s₂.heap.objs.size (.lst [])=H₃ at I3 rh3 l3;have hacc:H₃ s₂.heap.objs.size=some (.lst []):=by rw[<-hH3];exact br
 have es3:s₃.heap=s₂.heap.push { cls:=.type "list",data:=.seq ([]:List Value).toArray}:=by rw[<-hs3]
 have st3:tn 0 s₃.heap:=T.keep _ _ _ st2 fun b _ o e=>by rw[es3];exact qad _ e
 have fp3:∀b∈fp,ig X Ie H₃ b:=fun b hb=>by
  obtain⟨a0,a1⟩:=f2 b hb;refine⟨?_,a1⟩;obtain⟨o,eo,_⟩:=T.obj _ _ st2 b hb;rw[<-hH3,aU (qaG (qap eo))];exact a0
 have goal3:wpAny (model X.prog X.w) X.A (newFunctionEnv scope X.env.globals cl [] X.env.qual none .none (some X.env)) (fun cenv s₄ =>
    codeAny (model X.prog X.w) X.A (.compStart (.ListComp elt [⟨tg,iter,ifs,0⟩] scope pos) 0 (.ref ita) (.ref s₂.heap.objs.size) { cenv with scope:=relabel scope X.env}) (compPost (model X.prog X.w) X.A X.xe use Qv (.ref s₂.heap.objs.size) cenv.locals) s₄) X.xe s₃:=by
  refine qD ?_;have keep4:∀b o,s₃.heap.get? b=some o->(pushCells (s₃.heap.push { cls:=.type "dict",data:=.dict #[]}) scope.names).get? b=some o:=fun b o e=>pushCells_keeps _ _ b o (qad _ e);have hns:=(Heap.Ns.new s₃.heap (.type "dict")).keeps (pushCells_keeps scope.names _);have okc:=cellsFrom_ok scope.names (s₃.heap.push { cls:=.type "dict",data:=.dict #[]}) (s₃.heap.objs.size+1) [] ⟨fun _ _ hm=>(nomatch hm),List.Pairwise.nil⟩ (by rw[qby];exact qah _);rw[qby] at okc;rw[cT];have hin:=d8 scope.names (s₃.heap.objs.size+1);generalize cellsFrom (s₃.heap.objs.size+1) scope.names []=cn at okc hin ⊢;generalize pushCells (s₃.heap.push { cls:=.type "dict",data:=.dict #[]}) scope.names=h' at keep4 hns okc ⊢;dsimp only[newEnv];have csl:∀x c,(cn++cl).lookup x=some c->((x,c)∈cn/\scope.names.lookup x=some .cell/\s₃.heap.objs.size<c/\h'.IsCell c none)\/(X.env.cells.lookup x=some c/\scope.names.lookup x=some .free):=fun x c e=>by
   rw[jQ] at e
   cases z:cn.lookup x with
   | some c' =>
    rw[z] at e
    have:c'=c:=by simpa using e
    subst this;have m:=PySem.mem_of_lookup z;obtain⟨q1,q2⟩:=okc.empty x c' m;exact .inl ⟨m,C.cell _ ((hin x).mp ⟨c',m⟩) rfl,q2,q1⟩
   | none =>
    rw[z] at e;obtain⟨q1,q2⟩:=clin x c (by simpa using e);exact .inr ⟨q1,C.hf x q2⟩
  have csf:∀x c,x∈frees->cl.lookup x=some c->(cn++cl).lookup x=some c:=fun x c hx e=>by
   rw[jQ]
   cases z:cn.lookup x with
   | none=>simpa using e
   | some c' =>
    have:=C.cell _ ((hin x).mp ⟨c',PySem.mem_of_lookup z⟩) rfl
    rw[C.hf x hx] at this;cases this
  have old:∀x c,X.env.cells.lookup x=some c->c<s₃.heap.objs.size:=fun x c e=>by
   obtain⟨v,qc⟩:=I3.cell x c e;exact qc.lt
  have ok:(dl X scope (cn++cl) s₃ H₃ fp (vars++frees)).Ok:=by
   refine⟨I3.ok.mod,C.kind,I3.ok.glob,I3.ok.blt,qah _,fun x y c h1 h2=>?_,fun x hx=>?_,fun x c hx e=>?_,I3.ok.hd,I3.ok.frames,.inl rfl,
    fun b hb=>⟨?_,fun x c e z=>?_⟩,I3.bs,qaw I3.ok.bsz I3.sz,fun b o e hb=>?_,fun b hb z=>?_,I3.stack,I3.stkFree⟩
   ·rcases csl x c h1 with ⟨a1,_,a2,_⟩|⟨a1,_⟩ <;> rcases csl y c h2 with ⟨b1,_,b2,_⟩|⟨b1,_⟩
    ·exact PySem.name_of_addr okc.apart a1 b1
    ·exact absurd (qcA a2 (old y c b1)) (qaU _)
    ·exact absurd (qcA b2 (old x c a1)) (qaU _)
    ·exact I3.ok.inj x y c a1 b1
   ·
    have hx':(relabel scope X.env).names.lookup x=some .cell\/(relabel scope X.env).names.lookup x=some .free:=hx
    cases e:scope.names.lookup x with
    | none =>
     exfalso;have nn:∀(l:List (Str × NameKind)),l.lookup x=none->(l.map fun (n,k)=>if (k == NameKind.free && X.env.scope.kind == .function && X.env.kindOf n == some .cell) then (n,NameKind.cell) else (n,k)).lookup x=none:=by
      intro l
      induction l with
      | nil=>intro _;rfl
      | cons y l ih =>
       intro hl;obtain⟨n,kk⟩:=y;rw[qaP] at hl
       split at hl
       ·cases hl
       ·rename_i hx2
        rw[qaL];dsimp only
        split <;> (rw[qaP];simp only[hx2];exact ih hl)
     have e2:=nn scope.names e;rcases hx' with z|z
     ·rw[show (relabel scope X.env).names.lookup x=none from e2] at z;cases z
     ·rw[show (relabel scope X.env).names.lookup x=none from e2] at z;cases z
    | some kk =>
     have e2:=ce (env:=X.env) I3.ok.kind e;have hk:kk=.free\/kk=.cell:=by
      rcases hx' with z|z
      ·rw[show (relabel scope X.env).names.lookup x=_ from e2] at z;have z':=Option.some.inj z;by_cases zz:kk=.free/\X.env.kindOf x=some .cell
       ·exact .inl zz.1
       ·rw[qal zz] at z';exact .inr z'
      ·rw[show (relabel scope X.env).names.lookup x=_ from e2] at z;have z':=Option.some.inj z;by_cases zz:kk=.free/\X.env.kindOf x=some .cell
       ·exact .inl zz.1
       ·rw[qal zz] at z';exact .inl z'
     rcases hk with hk|hk
     ·subst hk;have hf:=C.all _ (PySem.mem_of_lookup e) rfl;obtain⟨c,h1,_⟩:=clf x hf;exact⟨c,csf x c hf h1⟩
     ·subst hk;obtain⟨c,hc⟩:=(hin x).mpr (PySem.mem_of_lookup e);show ∃c,(cn++cl).lookup x=some c;rw[jQ]
      cases z:cn.lookup x with
      | some c'=>exact⟨c',rfl⟩
      | none=>exact absurd hc (rf cn x z c)
   ·have hx':=of_decide_eq_true hx;rcases csl x c e with ⟨_,_,q,_⟩|⟨_,q⟩
    ·exact qbU q
    ·rw[q] at hx';cases hx'
   ·obtain⟨o,eo,_⟩:=T.obj _ _ st3 b hb;exact qaG (qap eo)
   ·rcases csl x c e with ⟨_,_,q,_⟩|⟨q,_⟩
    ·obtain⟨o,eo,_⟩:=T.obj _ _ st3 b hb;exact absurd (qcA q (z▸qap eo)) (qaU _)
    ·exact (fp3 b hb).2.2.2.2.1 x c q z
   ·obtain⟨_,_,_,h4,_⟩:=fp3 b hb;rcases h4 with h4|h4
    ·exact I3.ok.noex b o e h4
    ·exact absurd (qav (qap e) (qaw I3.ok.bsz h4)) (qaU _)
   ·obtain⟨_,h2,h3,_⟩:=fp3 b hb;rcases qao.mp (I3.stkSub b z) with e|e
    ·exact h2 e
    ·exact h3 e
  obtain⟨mX,nsX,lX⟩:=I3.loc;have l13:Le ρ H (ρ1++[s₂.heap.objs.size]) H₃:=l1.trans l3
  let σY:L2.St:=List.replicate vars.length none++fm.map fun i=>(σ[i]?).getD none
  have fml:fm.length=frees.length:=by have:=congrArg List.length C.fm;simpa using this
  have invY:Inv (dl X scope (cn++cl) s₃ H₃ fp (vars++frees)) [] σY H₃ { s₃ with heap:=h',toks:=s₃.toks}:=by
   refine⟨ok,rfl,I3.bare,Un.kept keep4,⟨_,hns,fun i x v hN hv hvis=>?_⟩,fun x c e=>?_,?_,fun x c e=>?_,fun p hp=>absurd (show p∈([]:List (Addr × Obj)) from hp) (by simp),I3.hok.kept keep4,?_⟩
   ·have hN':(vars++frees)[i]?=some x:=hN;have hiv:vars.length<=i:=by
     by_cases z:vars.length<=i
     ·exact z
     ·exfalso;have hv':σY[i]?=some (some v):=hv;rw[qan (by simp;ext),qbj] at hv'
      split at hv' <;> cases hv'
    have hv':σY[i]?=some (some v):=hv;rw[qay (by simpa using hiv),qbm,qaz] at hv';rw[qay hiv] at hN'
    cases ej:fm[i - vars.length]? with
    | none=>rw[ej] at hv';cases hv'
    | some j =>
     rw[ej] at hv';have ef:=congrArg (fun l=>l[i - vars.length]?) C.fm;simp only[qaz,ej,hN',qbB] at ef;have ef':N[j]?=some x:=by simpa using ef
     have ev:σ[j]?=some (some v):=by
      have:(σ[j]?).getD none=some v:=by simpa using hv'
      cases z:σ[j]? with
      | none=>rw[z] at this;cases this
      | some o=>rw[z] at this;simp at this;rw[this]
     have hx:x∈frees:=qaO hN';have vis:Vis X.env.scope x:=.inr (.inl (C.cl x hx));obtain⟨u,ru,look⟩:=lX j x v (by rw[g.hN];exact ef') ev vis;refine⟨u,ru,.inr ⟨?_,?_⟩⟩
     ·left;show (relabel scope X.env).names.lookup x=some .cell
      have:=ce (env:=X.env) I3.ok.kind (C.hf x hx)
      rw[qai ⟨rfl,C.cl x hx⟩] at this;exact this
     ·rcases look with ⟨hk,_⟩|⟨_,c,hc,hcell⟩
      ·rw[C.cl x hx] at hk;cases hk
      ·obtain⟨c',h1,h2⟩:=clf x hx;rw[hc] at h2;cases h2;obtain⟨o,eo,ed⟩:=hcell;exact⟨c,csf x c hx h1,o,keep4 _ _ eo,ed⟩
   ·rcases csl x c e with ⟨_,_,_,q⟩|⟨q,_⟩
    ·exact⟨none,q⟩
    ·obtain⟨v,o,eo,ed⟩:=I3.cell x c q;exact⟨v,o,keep4 _ _ eo,ed⟩
   ·exact I3.hok.fresh (qah _)
   ·rcases csl x c e with ⟨_,_,q,_⟩|⟨q,_⟩
    ·exact I3.hok.fresh (qbU q)
    ·exact I3.freeC x c q
   ·show σY.length=(vars++frees).length;simp[σY,fml]
  have gY:Good (dl X scope (cn++cl) s₃ H₃ fp (vars++frees)) (vars++frees) vars G' k:=by
   refine⟨rfl,nd,fun x hx=>?_,fun x hx=>?_,fun x hx=>?_,dbg,g.calm,g.room,PassesOwn.never⟩
   ·rcases qau.mp hx with z|z
    ·rcases C.hv x z with z|z
     ·left
      have:=ce (env:=X.env) I3.ok.kind z
      rw[qal (fun q=>nomatch q.1)] at this;exact this
     ·right
      have:=ce (env:=X.env) I3.ok.kind z
      rw[qal (fun q=>nomatch q.1)] at this;exact this
    ·right
     have:=ce (env:=X.env) I3.ok.kind (C.hf x z)
     rw[qai ⟨rfl,C.cl x z⟩] at this;exact this
   ·rcases C.hv x hx with z|z
    ·right
     have:=ce (env:=X.env) I3.ok.kind z
     rw[qal (fun q=>nomatch q.1)] at this;exact this
    ·exact .inl (decide_eq_true z)
   ·have:=ce (env:=X.env) I3.ok.kind (hgl x hx)
    rw[qal (fun q=>nomatch q.1)] at this;exact this
  obtain⟨hg,ht,he⟩:=hY (dl X scope (cn++cl) s₃ H₃ fp (vars++frees)) rfl rfl rfl rfl rfl rfl gY;have rsY:RS X.K (ρ1++[s₂.heap.objs.size]) H₃ (cSt vars.length fm σp) σY:=by
   refine⟨by simp[σY,cSt],fun i v e=>?_⟩;unfold cSt at e;by_cases z:vars.length<=i
   ·rw[qay (by simpa using z),qbm,qaz] at e
    cases ej:fm[i - vars.length]? with
    | none=>rw[ej] at e;cases e
    | some j =>
     rw[ej] at e;have ev:σp[j]?=some (some v):=by
      have:(σp[j]?).getD none=some v:=by simpa using e
      cases z:σp[j]? with
      | none=>rw[z] at this;cases this
      | some o=>rw[z] at this;simp at this;rw[this]
     obtain⟨v',e',rv⟩:=rs.2 j v ev;refine⟨v',?_,rv.le l13⟩;show σY[i]?=_;rw[qay (by simpa using z),qbm,qaz,ej];simp[e']
   ·rw[qan (by simp;ext),qbj] at e
    split at e <;> cases e
  have q3:Ful X (RV' X) σp (ρ1++[s₂.heap.objs.size]) H₃ ((cGo it h1.length gt mt me it.xs (cSt vars.length fm σp) (h1++[.lst []])).bind fun _ h3=>.ok (.loc h1.length) h3) Q:=Ful.le l3 q1;have hrho:(ρ1++[s₂.heap.objs.size])[h1.length]?=some s₂.heap.objs.size:=by rw[<-rh1.len];simp
  have loop:∀s₅:Shared,s₅={ s₃ with heap:=h',toks:=s₃.toks}->codeAny (model X.prog X.w) X.A (.compLoop (.ListComp elt [⟨tg,iter,ifs,0⟩] scope pos) 0 (.ref ita) (.ref s₂.heap.objs.size) (compEnvC scope (cn++cl) s₃.heap.objs.size X.env))
    (compPost (model X.prog X.w) X.A X.xe use Qv (.ref s₂.heap.objs.size) s₃.heap.objs.size) s₅:=by
   rintro s₅ rfl;refine rP (CI X (dl X scope (cn++cl) s₃ H₃ fp (vars++frees)) it tn fp (ρ1++[s₂.heap.objs.size]) H₃ σp h1.length gt mt me Q) ?_ it.xs.length
    ⟨0,σY,H₃,_,_,_,rfl,qaM _,invY,T.keep _ _ _ st3 (fun b _ o e=>keep4 b o e),fun b hb=>(fp3 b hb).1,Le.refl _ _,rsY,rh3,by simpa using q3⟩
   rintro n s6 ⟨i,σ6,H6,ρ6,σp6,h6,rfl,hi6,I6,st6,fr6,l6,rs6,rh6,q6⟩;have stat:∀{H':Hp},(∀b∈fp,H' b=none)->∀b∈fp,ig (dl X scope (cn++cl) s₃ H₃ fp (vars++frees)) [] H' b:=fun {H'} hn b hb =>
    ⟨hn b hb,(ok.exf b hb).1,ok.exfs b hb,.inl hb,(ok.exf b hb).2,fun p hp=>absurd (show p∈([]:List (Addr × Obj)) from hp) (by simp)⟩
   by_cases hlt:i<it.xs.length
   ·have ed:it.xs.drop i=it.xs[i]::it.xs.drop (i+1):=qcp hlt;rw[ed] at q6;simp only[cGo] at q6;by_cases hok:it.ok h6
    ·rw[qai hok] at q6;obtain⟨j1,_⟩:=jr ρ6 H6 h6 i (l3.trans l6) rh6 hok;obtain⟨go,yl⟩:=j1 hlt;refine thn (T.item (dl X scope (cn++cl) s₃ H₃ fp (vars++frees)) rfl rfl rfl g.calm i [] s6 σ6 H6 (fun _ _=>False) I6 (stat fr6) st6 go) fun r s7 ⟨u,hr,h7⟩=>?_;subst hr;refine thn h7 fun _ s8 ⟨x8,H8,I8,r8,y8,st8,fr8⟩=>?_;obtain⟨ρ8,x,l8,rh8,ex,rx⟩:=yl x8 H8 y8;have ex':x=it.xs[i]:=by rw[qaE hlt] at ex;exact (Option.some.inj ex).symm
     subst ex';have I8p:=I8.pinned (stat fr8) (T.obj _ _ st8);have q8:=Ful.le l8 q6;have back:∀{σ9:L2.St} {H9:Hp} {s9:Shared},Inv (dl X scope (cn++cl) s₃ H₃ fp (vars++frees)) ([]++kG fp s8.heap) σ9 H9 s9->Inv (dl X scope (cn++cl) s₃ H₃ fp (vars++frees)) [] σ9 H9 s9/\tn (i+1) s9.heap/\∀b∈fp,H9 b=none:=fun {σ9 H9 s9} I9=>by
      refine⟨I9.unpinned,T.keep _ _ _ st8 fun b hb o e=>(I9.pin (b,o) (qaf _ (qaf _ (fP hb e)))).1,fun b hb=>?_⟩;obtain⟨o,e,d⟩:=T.obj _ _ st8 b hb;exact (I9.pin (b,o) (qaf _ (qaf _ (fP hb e)))).2.1
     cases eg:gt it.xs[i] σp6 h6 with
     | nx σp9 h9 =>
      rw[eg] at q8;dsimp only at q8
      refine thn (hg _ s8 σ6 H8 x8 u (fun σ' H'=>∃ρ',Le ρ8 H8 ρ' H'/\RH X.K X.mg ρ' H' h9/\RS X.K ρ' H' σp9 σ') I8p r8 ⟨ρ8,σp6,h6,_,rs6.le l8,rh8,rx,by
       show mR _ _ _ (gt it.xs[i] σp6 h6) _
       rw[eg];exact fun ρ' H' σ' l r s=>⟨ρ',l,r,s⟩⟩) fun _ s9 ⟨σ9,H9,I9,ρ9,l9,rh9,rs9⟩=>?_
      have q9:=Ful.le l9 q8
      cases em:mt σp9 h9 with
      | ok b h10 =>
       rw[em,Out.ne_ok] at q9;rw[Out.bind_ok] at q9
       refine thn (ht _ s9 σ9 H9 (fun b' H'=>b'=b/\∃ρ',Le ρ9 H9 ρ' H'/\RH X.K X.mg ρ' H' h10) I9 ⟨ρ9,σp9,h9,rs9,rh9,by
        show Ful _ _ _ _ _ (mt σp9 h9) _
        rw[em];exact fun ρ' H' v' l r e=>⟨e.symm,ρ',l,r⟩⟩) fun b' s10 ⟨H10,I10,eb,ρ10,l10,rh10⟩=>?_
       subst eb;have q10:=Ful.le l10 q9
       cases b' with
       | false =>
        rw[qal qaK] at q10 ⊢;obtain⟨I10',st10,fr10⟩:=back I10;exact⟨_,by ext,i+1,σ9,H10,ρ10,σp9,h10,rfl,hlt,I10',st10,fr10,l6.trans (l8.trans (l9.trans l10)),rs9.le l10,rh10,q10⟩
       | true =>
        rw[qai rfl] at q10 ⊢
        cases ee:me σp9 h10 with
        | ok v h11 =>
         rw[ee,Out.ne_ok] at q10;rw[Out.bind_ok] at q10
         refine thn (he _ s10 σ9 H10 (fun v' H'=>∃ρ',Le ρ10 H10 ρ' H'/\RH X.K X.mg ρ' H' h11/\RP X.K ρ' H' v v') I10 ⟨ρ10,σp9,h10,rs9.le l10,rh10,by
          show Ful _ _ _ _ _ (me σp9 h10) _
          rw[ee];exact fun ρ' H' v' l r e=>⟨ρ',l,r,e⟩⟩) fun u11 s11 ⟨v',H11,I11,ru11,ρ11,l11,rh11,rv11⟩=>?_
         have q11:=Ful.le l11 q10;have lall:Le (ρ1++[s₂.heap.objs.size]) H₃ ρ11 H11:=l6.trans (l8.trans (l9.trans (l10.trans l11)));obtain⟨oa,eoa,roa⟩:=rh11.obj (lall.get hrho);rw[eoa] at q11
         cases oa with
         | dic kvs=>exact q11.elim
         | exc x=>exact q11.elim
         | lst ys =>
          dsimp only at q11;by_cases hl11:ys.length<sizeLine
          ·rw[qai hl11] at q11;obtain⟨ys',ey',ry⟩:=roa;obtain⟨rh12,l12⟩:=rh11.put (lall.get hrho) (o:=.lst (ys++[v])) (ho:=.lst (ys'++[v'])) ⟨_,rfl,ry.append (.cons rv11 .nil)⟩;have ap:=pT (X:=dl X scope (cn++cl) s₃ H₃ fp (vars++frees)) _ s11 σ9 H11 (.ref s₂.heap.objs.size) [v'] (.ref s₂.heap.objs.size) [u11] (fun _ H'=>H'=upd H11 s₂.heap.objs.size (.lst (ys'++[v']))) I11 rfl (.cons ru11 .nil) ⟨s₂.heap.objs.size,ys',v',rfl,rfl,ey',by rw[<-ry.length];exact hl11,rfl⟩;refine thn ap fun _ s12 ⟨_,H12,I12,_,eH⟩=>?_;subst eH;obtain⟨I12',st12,fr12⟩:=back I12;exact⟨_,by ext,i+1,σ9,_,ρ11,σp9,_,rfl,hlt,I12',st12,fr12,lall.trans l12,(rs9.le l10).le (l11.trans l12),rh12,Ful.le l12 q11⟩
          ·rw[qal hl11] at q11;exact q11.elim
        | exc x h11=>rw[ee] at q10;exact q10.elim
        | bad=>rw[ee] at q10;exact q10.elim
      | exc x h10=>rw[em] at q9;exact q9.elim
      | bad=>rw[em] at q9;exact q9.elim
     | _=>rw[eg] at q8;exact q8.elim
    ·rw[qal hok] at q6;exact q6.elim
   ·have e:i=it.xs.length:=by ext
    rw[e,List.drop_length] at q6;simp only[cGo] at q6;by_cases hok:it.ok h6
    ·rw[qai hok] at q6;obtain⟨_,j2⟩:=jr ρ6 H6 h6 i (l3.trans l6) rh6 hok;refine thn (T.done (dl X scope (cn++cl) s₃ H₃ fp (vars++frees)) rfl rfl rfl g.calm i [] s6 σ6 H6 (fun _ _=>False) I6 (stat fr6) st6 (j2 (by ext))) fun r s7 ⟨hr,I7⟩=>?_;subst hr;obtain⟨m7,ns7,_⟩:=I7.loc;have IX:=I3.call' (s':=s7) (ch:=fp) I7.os I7.base I7.hok I7.bare fun b hb=>by
      obtain⟨_,a2,_,a4,a5,a6⟩:=fp3 b hb;exact⟨a4,a2,a5,a6⟩
     exact fin _ _ H6 s7 m7 IX I7.free ns7 (qbE I3.lt) I3.sz (I3.nofs (qah _)) (fun x c e z=>by
      obtain⟨v,qc⟩:=I3.cell x c e
      exact absurd qc.lt (by rw[z];exact qaU _)) (fun p hp z=>absurd (qap (I3.pin p hp).1) (by rw[z];exact qaU _)) (q6 ρ6 H6 _ (Le.refl _ _) rh6 (.loc (l6.get hrho)))
    ·rw[qal hok] at q6;exact q6.elim
  exact codeAny_compStart_list (loop _ rfl) (T.self X.A 0 _ _ _ (T.keep _ _ _ st3 (fun b _ o e=>keep4 b o e)) (loop _ rfl))
 exact goal3
def me_comp(g:Good X N W G k){tg iter elt:Expr}{ifs:List Expr}{scope:Scope}{pos:Pos}{vars frees G':List Str}{fm:List Nat}{mi:Mx MIt}{gt:Mg}{mt:Mx Bool}{me:Mx PV}(C:CompOk X N scope vars frees fm)
  (nd:(vars++frees).Nodup) (hgl:∀x∈G',scope.names.lookup x=some .globalImplicit) (dbg:∀x∈(vars++frees)++G',(x == ("__debug__":Str))=false/\(x == ("__classdict__":Str))=false/\x≠"__name__")
  (hi:MI X tg iter mi)
  (hY:∀Y:Cx,Y.prog=X.prog->Y.w=X.w->Y.K=X.K->Y.mg=X.mg->Y.base=X.base->Y.env.scope=relabel scope X.env->Good Y (vars++frees) vars G' k->MG Y tg gt/\MTs Y ifs mt/\ME Y elt me)
  (hs:∀x,foldedSetIterable iter X.env x=pure x:=by intro _;rfl):ME X (.ListComp elt [⟨tg,iter,ifs,0⟩] scope pos) (cv vars.length fm mi gt mt me):=by
 intro Ie s σ H Q I tm;rw[eval_ListComp];refine pH g C nd hgl dbg hi hY hs I tm fun acc D H6 s7 m7 IX hC ns hL hz hfs hcl hp q=>?_;refine⟨m7,ns,fun h'' hsb=>⟨.ref acc,H6,?_,rfl,q⟩⟩;exact IX.turned (it:=D) (t':=s7.toks) (fun b o hb e=>hsb.extBut b o hb e) hC hL (.inr hz) hcl hp
def ms_setC(g:Good X N W G k)(i:Nat){y:Str}{py spos:Pos}{tg iter elt:Expr}{ifs:List Expr}{scope:Scope}{pos:Pos}{vars frees G':List Str}{fm:List Nat}{mi:Mx MIt}{gt:Mg}{mt:Mx Bool}{me:Mx PV}(hyi:N[i]?=some y)(hw:W[i]?=some y)
  (hsw:swapsWith (.ListComp elt [⟨tg,iter,ifs,0⟩] scope pos) (some (.Name y py)) spos.line X.env=pure true) (C:CompOk X N scope vars frees fm)
  (nd:(vars++frees).Nodup) (hgl:∀x∈G',scope.names.lookup x=some .globalImplicit) (dbg:∀x∈(vars++frees)++G',(x == ("__debug__":Str))=false/\(x == ("__classdict__":Str))=false/\x≠"__name__")
  (hi:MI X tg iter mi)
  (hY:∀Y:Cx,Y.prog=X.prog->Y.w=X.w->Y.K=X.K->Y.mg=X.mg->Y.base=X.base->Y.env.scope=relabel scope X.env->Good Y (vars++frees) vars G' k->MG Y tg gt/\MTs Y ifs mt/\ME Y elt me)
  (hs:∀x,foldedSetIterable iter X.env x=pure x:=by intro _;rfl):MS X (.Assign [.Name y py] (.ListComp elt [⟨tg,iter,ifs,0⟩] scope pos) spos) (aW i (cv vars.length fm mi gt mt me)):=by
 intro Ie s σ H D I tm;obtain⟨ρ,σp,h,rs,rh,q⟩:=tm;rw[exec_Assign_Name_used _ _ _ _ hsw];refine qaa (wpAny_standAt (qaa ?_));show wpAny _ X.A (do let _ <-comprehension (.ListComp elt [⟨tg,iter,ifs,0⟩] scope pos) scope X.env _ (newList []) false (eval iter X.env) (some (assign (.Name y py) X.env))) _ _ s
 refine qaa (wpAny_mono (pH (pos:=pos) g C nd hgl dbg hi hY hs (use:=some (assign (.Name y py) X.env)) (Qv:=fun _ s'=>SP X Ie D .next s') (pp:=firstIterPos [⟨tg,iter,ifs,0⟩] pos) (Q:=fun v H'=>D.nx (σ.set i (some v)) H') I
  ⟨ρ,σp,h,rs,rh,bK.ex q fun ρ1 H1 v v' h1 l r z w=>w ρ1 H1 _ (Le.refl _ _) r ((rs.le l).set i z)⟩ fun acc D' H6 s7 m7 IX hC ns hL hz hfs hcl hp q6=>?_) (fun _ s' hq=>qae (qae hq)) fun _ _ e=>e)
 ·obtain⟨o,es,ep,ho,hd,hr⟩:=id ns;have IP:Inv X (Ie++[(D',o)]) σ H6 s7:=IX.pins_of fun p hp'=>(qau.mp hp').elim (fun z=>IX.pin p (qaf _ z)) fun z=>by
   have e:p=(D',o):=by simpa using z
   subst e;exact⟨ho,hC,hL,hfs,fun v z=>by rw[hd] at z;cases z⟩
  have st:=u5 (X:=X) (pos:=py) (by rw[g.hN];exact g.nd) (g.x hyi) (g.loc y (av hyi)) (g.fn y (av hw)) (Ie++[(D',o)]) s7 σ H6 (.ref acc) (.ref acc) (fun σ' H'=>σ'=σ.set i (some (.ref acc))/\H'=H6) IP rfl ⟨rfl,rfl⟩;refine thn st fun _ s8 ⟨σ8,H8,I8,e1,e2⟩=>?_;subst e1;subst e2;have pn:=I8.pin (D',o) (qaf _ (qaf _ (by simp)));refine⟨m7,⟨o,es,ep,pn.1,hd,hr⟩,fun h'' hsb=>⟨_,_,?_,q6⟩⟩;exact (I8.unpinned).turned (it:=D') (t':=s8.toks) (fun b o hb e=>hsb.extBut b o hb e) hC hL (.inr hz) hcl hp
end
abbrev bmVE:List Value:=[.type "ValueError",.type "Exception",.type "BaseException",.type "object"]
structure ExcK (K:qab) (mg:MGl) (x:Str) (C:Addr):Prop where
 bd:mg x=some (.ref C)
 ok:PySem.W.excIn K C bmVE "ValueError.__new__"=true
abbrev oH(X:Cx)(x:Str)(C:Addr):Prop:=ExcK X.K X.mg x C
def oX{K:qab}{h:Heap}{C:Addr}{bmB:List Value}{newId:String}(hK:K.In h)(q:PySem.W.excIn K C bmB newId=true) :
  ∃bm N nm q bs hdct sn sub ab col dd k0 k1 k2 k3 k5 mN,h.get? C=some (excClassObj nm q C N bs bm hdct sn sub ab col dd k0 k1 k2 k3 k5 newId)/\h.Ns N mN/\mN "__init__"=none/\OwnTail h bmB bm/\∀base r,PySem.W.mroIn K C base=some r->(Value.ref C::bm).contains base=r:=by
 unfold PySem.W.excIn at q
 split at q
 ·rename_i dd cd sl ho
  split at q
  ·rename_i C' bm k0 k1 k2 k3 n k5 hm hs
   simp only[qbT,beq_iff_eq,qbC] at q;obtain⟨⟨⟨⟨⟨rfl,rfl⟩,hdel⟩,ht⟩,hok⟩,hni⟩:=q;obtain⟨nm,bs,mro,ns,qn,hd,sn,sub,ab,col,del⟩:=cd;dsimp only at hm hdel hok hni;subst hm hdel;have hsl:sl=#[k0,k1,k2,k3,some (.builtin n),k5]:=by
    obtain⟨l⟩:=sl;simp only at hs;rw[hs]
   subst hsl
   exact⟨bm,ns,nm,qn,bs,hd,sn,sub,ab,col,dd,k0,k1,k2,k3,k5,_,hK _ _ ho,.of_isNs (PySem.W.isNs_of_in hK hok),PySem.W.nsMap_none_of_in hK hok hni,PySem.W.tail_of_in hK ht,fun base r e=>by
    unfold PySem.W.mroIn PySem.W.clsIn at e;rw[ho] at e
    simpa using e⟩
  ·cases q
 ·cases q
section
variable {X:Cx} {N W G:List Str} {k:Nat}
def gq(x:Str)(m:Mx (List PV)):Mst:=mEx m fun vs σ h=>if vs.length<=sizeLine then .rse ⟨x,[]⟩ σ h else .bad
def yF(g:Good X N W G k){x:Str}{j:Nat}{C:Addr}(hj:G[j]?=some x)(EC:oH X x C){e:Expr}{es:List Expr}{m:Mx (List PV)}{np cpos pos:Pos}(ha:MA X (e::es) m)
  (he:starEach (e::es) X.env=(false,eval e X.env)::starEach es X.env:=by rfl) (hpl:(backTo cpos (starEach es X.env)).any (·.1)=false:=by rfl) :
  MS X (.Raise (some (.Call (.Name x np) (e::es) [] cpos)) none pos) (gq x m):=by
 intro Ie s σ H D I ⟨ρ,σp,h,rs,rh,q⟩;have d:=g.dbg x (qaf _ (av hj));obtain⟨bm,Nn,nm,qn,bs,hdct,sn,sub,ab,col,dd,k0,k1,k2,k3,k5,mN,hC,hN,hni,T,_⟩:=oX I.mod.kin EC.ok;refine wpAny_Raise_call_subT (C:=C) (nm:=nm) (q:=qn) (N:=Nn) (bs:=bs) (bm:=bm) (hdct:=hdct) (sn:=sn) (sub:=sub) (ab:=ab) (col:=col) (dd:=dd) (k0:=k0) (k1:=k1) (k2:=k2) (k3:=k3) (k5:=k5)
  PySem.F.excBase_ValueError (mN:=mN) (T.hasType PySem.F.excBase_ValueError.hasBase) (I.ok.hd g.calm) (by rw[he];show (false || (backTo cpos (starEach es X.env)).any (·.1))=false;rw[hpl];rfl) hni (oV I (g.gl x (av hj)) EC.bd ⟨rfl,?_⟩ d.1)
 have A:=ha cpos Ie s σ H (fun vs H1=>∃ρ1 xs h1,Le ρ H ρ1 H1/\RH X.K X.mg ρ1 H1 h1/\RPs X.K ρ1 H1 xs vs/\bK X ρ1 H1 (if xs.length<=sizeLine then .rse ⟨x,[]⟩ σp h1 else .bad) D) I
  ⟨ρ,σp,h,rs,rh,bK.ex q fun ρ1 H1 v v' h1 l r z w=>⟨ρ1,v,h1,l,r,z,w⟩⟩
 rw[he] at A ⊢;refine Calls.evalArgs_plain (wpAny_mono A (fun us s2 ⟨vs,H1,I1,rv,ρ1,xs,h1,l1,rh1,rx,w⟩=>?_) fun _ _ y=>y);by_cases hl:xs.length<=sizeLine
 ·rw[qai hl] at w;refine⟨rfl,by rw[<-rv.length,<-rx.length];exact hl,I1.bk _ _ hC,hN.keeps I1.bk,T.keeps I1.bk,fun h' ea made=>?_⟩;have I0:Inv X [] σ H1 { ({ s2 with heap:=h'}:Shared) with heap:=s2.heap}:=Inv.unpinned (Ie:=[]) (pl:=Ie) I1;exact w ea C ρ1 H1 σ { s2 with heap:=h'} s2.heap us rfl EC.bd (Le.refl _ _) rh1 (rs.le l1) I0 made
 ·rw[qal hl] at w;exact w.elim
def oj{M:Model}{A:Around}{E:Value->Shared->Prop}{h:Heap}{gn:Array GenState}{d:Drawn}{t:Nat}{os:OsState}{ea C D N1 N2:Addr}{oe:Obj}{nm1 q1 nm2 q2:Str}{bs1 bm1 bs2 bm2:List Value}{hd1 hd2:Bool}{sn1 sn2:List Str}{sub1 sub2:List Value}{ab1 ab2:Bool}{col1 col2:Option Bool}{dd1 dd2:Option Addr}
  {a0 a1 a2 a3 a5 b0 b1 b2 b3 b5:Option Value} {n1 n2:String} {Q:Bool->Shared->Prop} (hC:h.get? C=some (excClassObj nm1 q1 C N1 bs1 bm1 hd1 sn1 sub1 ab1 col1 dd1 a0 a1 a2 a3 a5 n1)) (hD:h.get? D=some (excClassObj nm2 q2 D N2 bs2 bm2 hd2 sn2 sub2 ab2 col2 dd2 b0 b1 b2 b3 b5 n2))
  (he:h.get? ea=some oe) (hcls:oe.cls=.ref C) (hB:bm2.contains (.type "BaseException")=true) (hsub:(Value.ref C::bm1).contains (.ref D)=true) (hq:Q true ⟨h,gn,d,t,os⟩):wpAny M A (excMatches (.ref ea) (.ref D)) Q E ⟨h,gn,d,t,os⟩:=by
 have hcB:(Value.ref D::bm2).contains (.type "BaseException")=true:=by rw[List.contains_cons,hB,Bool.or_true]
 have f:=tc_notTuple;unfold excMatches
 repeat (first | (with_reducible refine wpAny_loadPart_at he ?_;rw[hcls]) | with_reducible refine wpAny_loadPart_at hD ?_ | (with_reducible refine wpAny_isSubtype_exc hD ?_;rw[hcB]) | (with_reducible refine wpAny_isSubtype_exc hC ?_;rw[hsub]) | wp_step)
 exact hq
end
section
variable {X:Cx} {N W G:List Str} {k:Nat} {σ:L2.St} {H:Hp} {s:Shared}
abbrev oi(X:Cx)(Ie:List (Addr × Obj))(E:Value->Shared->Prop):Cx:={ X with pn:=X.pn++Ie,xe:=E}
def ok_pin(ok:X.Ok):(oi X Ie E).Ok :=
 ⟨ok.mod,ok.kind,ok.glob,ok.blt,ok.above,ok.inj,ok.has,ok.cab,ok.hd,ok.frames,ok.stk,ok.exf,ok.bs,ok.bsz,ok.noex,ok.exfs,ok.funs,ok.frf⟩
def yD(ok:(oi X Ie E).Ok):X.Ok :=
 ⟨ok.mod,ok.kind,ok.glob,ok.blt,ok.above,ok.inj,ok.has,ok.cab,ok.hd,ok.frames,ok.stk,ok.exf,ok.bs,ok.bsz,ok.noex,ok.exfs,ok.funs,ok.frf⟩
def Inv.toPin(I:Inv X Ie σ H s):Inv (oi X Ie E) [] σ H s :=
 ⟨ok_pin I.ok,I.os,I.bare,I.base,I.loc,I.cell,I.free,I.freeC,fun p hp=>I.pin p (by simpa using hp),I.hok,I.len⟩
def Inv.ofPin(I:Inv (oi X Ie E) [] σ H s):Inv X Ie σ H s :=
 ⟨yD I.ok,I.os,I.bare,I.base,I.loc,I.cell,I.free,I.freeC,fun p hp=>I.pin p (by simpa using hp),I.hok,I.len⟩
def nc{h h':Heap}{c:Addr}{v:Option Value}(sm:h.UpToSlots h')(q:h.IsCell c v):h'.IsCell c v:=by
 obtain⟨o,e,d⟩:=q;obtain⟨sl,e'⟩:=sm c o e (fun vs z=>by rw[d] at z;cases z);exact⟨_,e',d⟩
def Inv.flown(I:Inv X [] σ H s){B h' lim:Heap}(hB:B.StaysIn s.heap)(hB':B.StaysIn h')(sm:s.heap.UpToSlots h')(brs:Bears X lim)(cov:Cov B (frs X.stack) lim)(cvH:∀b o,H b=some o->∃ob,B.get? b=some ob):Inv X [] σ H { s with heap:=h'}:=by
 have kp:∀b o ob,B.get? b=some ob->s.heap.get? b=some o->h'.get? b=some o:=fun b o ob e1 e2=>by
  have:=tE hB e1 e2
  subst this;exact hB' b ob e1
 have nl:∀b o,X.s₀.heap.get? b=some o->b≠X.env.locals:=fun b o e z=>absurd (qav (qap e) I.ok.above) (by rw[z];exact qaU _);have inB:∀b o,X.s₀.heap.get? b=some o->b∉X.fs->b∉X.ex->∃ob,B.get? b=some ob:=fun b o e hf hx=>by
  obtain⟨o',e'⟩:=brs.old b o e hx;refine cov b o' e' fun hm=>?_;rcases qao.mp (I.stkSub b hm) with z|z
  ·exact nl b o e z
  ·exact hf z
 obtain⟨m,hn,hl⟩:=I.loc;have nfr:∀b o,X.s₀.heap.get? b=some o->b∈X.fs->∀vs,o.data≠.fields vs:=fun b o e hf vs z=>by
  obtain⟨_,oF,eF,dF⟩:=I.ok.funs.mem hf;rw[e] at eF;cases eF;exact dF vs z
 refine⟨I.ok,I.os,I.bare,⟨fun b o e n hf hx=>?_,fun b o e n hf hx=>?_,I.base.free,fun b o e hx=>?_,I.base.tups,I.base.frzs,I.base.tbls⟩,⟨m,sm.ns hn,fun i x v e1 e2 e3=>?_⟩,fun x c e=>?_,I.free,I.freeC,fun p hp=>?_,fun a o e=>?_,I.len⟩
 ·obtain⟨ob,eb⟩:=inB b o e hf hx;exact kp b o ob eb (I.base.keep b o e n hf hx)
 ·obtain⟨sl,e1⟩:=I.base.slot b o e n hf hx;obtain⟨sl',e2⟩:=sm b _ e1 (fun vs z=>nfr b o e hf vs z);exact⟨sl',e2⟩
 ·by_cases hf:b∈X.fs
  ·obtain⟨sl,e1⟩:=I.base.slot b o e (I.ok.frf b hf) hf hx;obtain⟨sl',e2⟩:=sm b _ e1 (fun vs z=>nfr b o e hf vs z);exact⟨_,e2⟩
  ·obtain⟨ob,eb⟩:=inB b o e hf hx;exact⟨ob,hB' b ob eb⟩
 ·obtain⟨u,ru,look⟩:=hl i x v e1 e2 e3;refine⟨u,ru,?_⟩;rcases look with z|⟨z1,c,z2,z3⟩
  ·exact .inl z
  ·exact .inr ⟨z1,c,z2,nc sm z3⟩
 ·obtain⟨v,q⟩:=I.cell x c e;exact⟨v,nc sm q⟩
 ·obtain⟨e,n,ne,nf,d⟩:=I.pin p hp;refine⟨?_,n,ne,nf,d⟩;have hp':p∈X.pn:=by simpa using hp
  obtain⟨o',e'⟩:=brs.pin p hp';obtain⟨ob,eb⟩:=cov p.1 o' e' fun hm=>by
   rcases qao.mp (I.stkSub p.1 hm) with z|z
   ·exact ne z
   ·exact nf z
  exact kp p.1 p.2 ob eb e
 ·refine (I.hok a o e).stay (fun b u hb z=>?_) (fun _ z=>z) fun _ _ z=>z;rcases hb with rfl|hb
  ·obtain⟨ob,eb⟩:=cvH _ _ e;exact kp _ u ob eb z
  ·obtain⟨ob,eb⟩:=cvH _ _ hb;exact kp _ u ob eb z
def Inv.track(I:Inv X Ie σ H s)(ha:H a=none)(h0:X.s₀.heap.get? a=none)(hL:a≠X.env.locals)(hc:∀x c,X.env.cells.lookup x=some c->c≠a)(hp:∀p∈X.pn++Ie,p.1≠a)
  (hφ:ObjOk X.prog X.w (upd H a (.ext φ)) s.heap a (.ext φ)):Inv X Ie σ (upd H a (.ext φ)) s:=by
 have ne0:∀b o,X.s₀.heap.get? b=some o->b≠a:=fun b o e z=>by rw[z,h0] at e;cases e
 have t:∀b u,H b=some u->upd H a (.ext φ) b=some u:=fun b u e=>by rw[aU (bA e ha)];exact e
 refine⟨I.ok,I.os,I.bare,⟨I.base.keep,I.base.slot,fun b o e n hx=>by rw[aU (ne0 b o e)];exact I.base.free b o e n hx,I.base.there,fun b xs e=>t b _ (I.base.tups b xs e),fun b o u e=>t b _ (I.base.frzs b o u e),fun b ps e=>?_⟩,
  I.loc,I.cell,by rw[aU (Ne.symm hL)];exact I.free,fun x c e=>by rw[aU (hc x c e)];exact I.freeC x c e,fun p hp'=>?_,fun b u e=>?_,I.len⟩
 ·obtain⟨more,e'⟩:=I.base.tbls b ps e;exact⟨more,t b _ e'⟩
 ·obtain⟨a1,a2,a3⟩:=I.pin p hp';exact⟨a1,by rw[aU (hp p hp')];exact a2,a3⟩
 ·by_cases hb:b=a
  ·subst hb;rw[br] at e;cases e;exact hφ
  ·rw[aU hb] at e;exact (I.hok b u e).stay (fun c v _ q=>q) (fun c q=>t c _ q) fun c xs q=>t c _ q
def ns_inj{h:Heap}{a:Addr}{m m0:Str->Option Value}(x:h.Ns a m)(y:h.Ns a m0):m=m0:=by
 obtain⟨o,es,ep,e,d,_,f⟩:=x;obtain⟨o',es',ep',e',d',_,f'⟩:=y;rw[e] at e';cases e';rw[d] at d';cases d';funext z;rw[<-f z,<-f' z]
def Inv.unbound(I:Inv X Ie σ H s)(hN:X.N.Nodup)(hi:X.N[i]?=some n)(hm:s.heap.Ns X.env.locals m)(hn':h'.Ns X.env.locals (fun x=>if x=n then v else m x))(hs:Heap.SameBut X.env.locals s.heap h') :
  Inv X Ie (σ.set i none) H { s with heap:=h',toks:=t'}:=by
 obtain⟨m0,hn0,hl⟩:=I.loc;have em:m=m0:=ns_inj hm hn0;subst em;have lt:∀b o,X.s₀.heap.get? b=some o->b≠X.env.locals:=fun b o e=>qaG (qav (qap e) I.ok.above);refine⟨I.ok,I.os,I.bare,⟨fun b o e n hb hx=>?_,fun b o e n hb hx=>?_,I.base.free,fun b o e hx=>?_,I.base.tups,I.base.frzs,I.base.tbls⟩,⟨_,hn',fun j y v' e1 e2 e3=>?_⟩,fun y c e=>?_,I.free,I.freeC,fun p hp=>?_,fun a o e=>?_,by simpa using I.len⟩
 ·exact (hs.2 b (lt b o e)).trans (I.base.keep b o e n hb hx)
 ·obtain⟨sl,e1⟩:=I.base.slot b o e n hb hx;exact⟨sl,(hs.2 b (lt b o e)).trans e1⟩
 ·obtain⟨o',e1⟩:=I.base.there b o e hx;exact⟨o',(hs.2 b (lt b o e)).trans e1⟩
 ·by_cases hj:j=i
  ·subst hj;exfalso;by_cases hlt:j<σ.length
   ·rw[qat hlt] at e2;cases e2
   ·rw[qaS (by simp;lia)] at e2;cases e2
  ·rw[qaj (Ne.symm hj)] at e2;obtain⟨u',r',q⟩:=hl j y v' e1 e2 e3;refine⟨u',r',?_⟩;rcases q with ⟨k,e⟩|⟨k,c,e,z⟩
   ·refine .inl ⟨k,?_⟩
    have:y≠n:=fun e=>hj (mz hN e1 (e▸hi))
    simp[this,e]
   ·exact .inr ⟨k,c,e,z.sameBut hs (I.cne y c e)⟩
 ·obtain⟨w',z⟩:=I.cell y c e;exact⟨w',z.sameBut hs (I.cne y c e)⟩
 ·obtain⟨e,n,ne,nf,d⟩:=I.pin p hp;exact⟨(hs.2 p.1 ne).trans e,n,ne,nf,d⟩
 ·have na:a≠X.env.locals:=fun z=>by rw[z,I.free] at e;cases e
  refine (I.hok a o e).stay (fun b u hb z=>(hs.2 b ?_).trans z) (fun _ z=>z) fun _ _ z=>z;rcases hb with rfl|hb
  ·exact na
  ·intro z;rw[z,I.free] at hb;cases hb
def tR(cs:List Str)(iy inn:Nat)(mb:Mst):Mst:=fun σ h=>match mb σ h with
 | .exc x σ1 h1=>if x.fs=[]/\x.cls∈cs then .nx (((σ1.set inn (some (.loc h1.length))).set iy (some (.loc h1.length))).set inn none) (h1++[.exc x]) else .bad
 | .rse _ _ _=>.bad
 | o=>o
def RS.unset{K:qab}{ρ:List Addr}{H:Hp}{σp:PSt}{σ:L2.St}(r:RS K ρ H σp σ)(i:Nat):RS K ρ H (σp.set i none) (σ.set i none):=by
 refine⟨by simp[r.1],fun j u e=>?_⟩;by_cases hj:j=i
 ·subst hj;exfalso;by_cases hlt:j<σp.length
  ·rw[qat hlt] at e;cases e
  ·rw[qaS (by simp;lia)] at e;cases e
 ·rw[qaj (fun z=>hj z.symm)] at e ⊢;exact r.2 j u e
def ms_try(g:Good X N W G k)(dc:DefCx X){c:Str}{j:Nat}{D:Addr}(hj:G[j]?=some c)(ED:oH X c D){cs:List Str}(hcs:∀x∈cs,∃C,oH X x C/\PySem.W.mroIn X.K C (.ref D)=some true)(iy inn:Nat){y n:Str}(hyi:N[iy]?=some y)(hyw:W[iy]?=some y)(hni:N[inn]?=some n)(hnw:W[inn]?=some n)
  (hnl:X.env.scope.names.lookup n=some .local) {body:List Stmt} {mb:Mst} {cp yp np sp hp pos:Pos}
  (hb:∀Y:Cx,Y.prog=X.prog->Y.w=X.w->Y.K=X.K->Y.mg=X.mg->Y.base=X.base->Y.env=X.env->Good Y N W G k->DefCx Y->MSs Y body mb) (hsw:swapsWith (.Name n np) (some (.Name y yp)) sp.line X.env=pure false:=by rfl) :
  MS X (.Try body [.ExceptHandler (some (.Name c cp)) (some n) [.Assign [.Name y yp] (.Name n np) sp] hp] [] [] pos) (tR cs iy inn mb):=by
 intro Ie s σ H Dd I ⟨ρ,σp,h,rs,rh,q⟩;refine wpAny_Try_except ?_;have gY:∀E,PassesOwn (model X.prog X.w) X.A X.env E->Good (oi X Ie E) N W G k:=fun E po=>⟨g.hN,g.nd,g.loc,g.fn,g.gl,g.dbg,g.calm,g.room,po⟩;have run:=hb (oi X Ie _) rfl rfl rfl rfl rfl rfl (gY _ (PassesOwn.looking (M:=model X.prog X.w) (A:=X.A) (env:=X.env) (K:=fun e s₂=>wpAny (model X.prog X.w) X.A (setFlight e none) (fun _ s₃=>wpAny (model X.prog X.w) X.A (handleBy e X.env [.ExceptHandler (some (.Name c cp)) (some n) [.Assign [.Name y yp] (.Name n np) sp] hp]) (SP X Ie Dd) X.xe s₃) X.xe s₂) (E₁:=X.xe))) ⟨dc.stk,dc.fr,dc.ex⟩;refine wpAny_mono (run [] s σ H Dd (Inv.toPin I) ⟨ρ,σp,h,rs,rh,?_⟩) (fun f s₁ z=>?_) fun _ _ z=>z
 ·unfold tR at q
  cases em:mb σp h with
  | nx σ1 h1=>rw[em] at q;exact q
  | rt v h1=>rw[em] at q;exact q
  | bk σ1 h1=>rw[em] at q;exact q
  | ct σ1 h1=>rw[em] at q;exact q
  | bad=>rw[em] at q;exact q.elim
  | rse x σ1 h1=>rw[em] at q;exact q.elim
  | exc x σ1 h1 =>
   rw[em] at q;dsimp only at q;by_cases hx:x.fs=[]/\x.cls∈cs
   ·rw[qai hx] at q;intro ea C ρ' H' σ' s' lim hfs hmg l rh' rs' I' brs fly;obtain⟨C',EC,hsubm⟩:=hcs x.cls hx.2;have eC:C'=C:=by
     have:=EC.bd
     rw[show X.mg x.cls=some (.ref C) from hmg] at this;cases this;rfl
    subst eC;obtain⟨B,t,hfl,hBH,hcov,hea⟩:=fly;have hst:X.stack=X.env::X.outer:=dc.stk;have hfl:Heap.FlyingW B (X.env::X.outer) ea (.ref C') (.ref t) s'.heap:=by rw[<-hst];exact hfl
    have hfrm:X.A.frames=some (X.env::X.outer):=by rw[<-hst];exact I'.ok.frames
    refine wpAny_looks_onW (base:=B) hfrm dc.fr hfl fun h₄ held₄ sm₄=>?_;refine wpAny_landsW held₄ fun h₅ fl₅ sm₅=>?_;have sm45:=sm₄.trans sm₅;have I5:=Inv.flown I' hfl.1 fl₅.1 sm45 brs hcov hBH;have I5x:=Inv.ofPin I5;refine wpAny_handleBy_cons (codeAny_handlers_test (Calls.Name_function_global I5x.ok.kind (g.gl c (av hj)) (Calls.loadGlobal_global (by rw[I5x.ok.glob];exact I5x.mod.glob.keeps I5x.bk) ED.bd ?_) (g.dbg c (qaf _ (av hj))).1)) (by intro z;cases z);obtain⟨bm1,N1,nm1,q1,bs1,hd1,sn1,sub1,ab1,col1,dd1,a0,a1,a2,a3,a5,mN1,hC1,_,_,_,mro1⟩:=oX I5x.kIn EC.ok;obtain⟨bm2,N2,nm2,q2,bs2,hd2,sn2,sub2,ab2,col2,dd2,b0,b1,b2,b3,b5,mN2,hD2,_,_,T2,_⟩:=oX I5x.kIn ED.ok;obtain⟨ob,hob,hobc⟩:=fl₅.there;obtain⟨hp5,g5,d5,t5,os5⟩:=s';refine oj hC1 hD2 hob hobc (T2.hasType PySem.F.excBase_ValueError.hasBase) (mro1 _ _ hsubm) ?_;refine codeAny_handlers_suite_as ?_;refine lands_againW fl₅ fun h₆ fl₆ sm₆=>?_;have I6:=Inv.flown I5 fl₅.1 fl₆.1 sm₆ brs hcov hBH;have I6x:=Inv.ofPin I6;obtain⟨oe,vs,T,oT,ts,he6,⟨hcls6,hv0⟩,hd6,_,_,_,_,_,_⟩:=fl₆.2.2.2;have eaB:B.get? ea=none:=fl₆.2.1;have nfr:ea∉frs X.stack:=fun hm=>by
     obtain⟨_,o,eo,dn⟩:=I6x.stack.mem hm;rw[show h₆.get? ea=some oe from he6] at eo;cases eo;exact dn vs hd6
    have eL:ea≠X.env.locals:=fun z=>nfr (by rw[hst,z];exact qbJ.mpr ⟨X.env,qaF,dc.fr⟩);have e0:X.s₀.heap.get? ea=none:=by
     cases z:X.s₀.heap.get? ea with
     | none=>rfl
     | some o =>
      obtain⟨o',e'⟩:=brs.old ea o z (by rw[dc.ex];simp);obtain⟨ob',eb⟩:=hcov ea o' e' nfr;rw[eaB] at eb;cases eb
    have ec:∀z cc,X.env.cells.lookup z=some cc->cc≠ea:=fun z cc e w=>by
     obtain⟨v,o,eo,ed⟩:=I6x.cell z cc e;rw[w,show h₆.get? ea=some oe from he6] at eo;cases eo;rw[hd6] at ed;cases ed
    have ep:∀p∈X.pn++Ie,p.1≠ea:=fun p hp' w=>by
     obtain⟨o',e'⟩:=brs.pin p hp';rw[w] at e';obtain⟨ob',eb⟩:=hcov ea o' e' nfr;rw[eaB] at eb;cases eb
    have I7:=Inv.track (φ:=fR ea C') I6x hea e0 eL ec ep ⟨⟨oe,vs,he6,hcls6,hd6⟩,⟨oe,he6⟩,fun h1 h2 ⟨o,ws,z1,z2,z3⟩ kk=>⟨o,ws,kk o z1,z2,z3⟩⟩;obtain⟨rh7,l7⟩:=rh'.new hea (o:=.exc x) (ho:=.ext (fR ea C')) ⟨hx.1,C',hmg,rfl⟩;have rv:RP X.K (ρ'++[ea]) (upd H' ea (.ext (fR ea C'))) (.loc h1.length) (.ref ea):=.loc (by rw[<-rh'.len];simp);have rs7:=RS.le l7 rs';have hNn:X.N.Nodup:=by rw[g.hN];exact g.nd
    refine mE I7 hNn (g.x hni) (g.loc n (av hni)) (v:=.ref ea) rfl (fun s8 I8=>?_) (g.fn n (av hnw));have rs8:=rs7.set inn rv
    let X':Cx:={ X with A:=X.A.mark (some (.ref ea)),calm:=false,xe:=fun _ _=>False}
    have ok':X'.Ok:=⟨I8.ok.mod,I8.ok.kind,I8.ok.glob,I8.ok.blt,I8.ok.above,I8.ok.inj,I8.ok.has,I8.ok.cab,(fun z=>nomatch z),I8.ok.frames,I8.ok.stk,I8.ok.exf,I8.ok.bs,I8.ok.bsz,I8.ok.noex,I8.ok.exfs,I8.ok.funs,I8.ok.frf⟩;have I8':Inv X' Ie _ _ s8:=⟨ok',I8.os,I8.bare,I8.base,I8.loc,I8.cell,I8.free,I8.freeC,I8.pin,I8.hok,I8.len⟩;have hlenn:inn<σ'.length:=by rw[I'.len];exact (qag.mp (g.x hni)).1
    have dn:=g.dbg n (qaC _ (av hni));have st:=uy (yq (X:=X') (i:=iy) (pos:=sp) (pos':=yp) hNn (g.x hyi) (g.loc y (av hyi)) (xM (X:=X') (i:=inn) (pos:=np) (g.x hni) (.inl hnl) dn.1 dn.2.1) hsw (g.fn y (av hyw))) Ie s8 _ _
     { nx:=fun σ9 H9=>σ9=(σ'.set inn (some (.ref ea))).set iy (some (.ref ea))/\H9=upd H' ea (.ext (fR ea C')),rt:=fun _ _=>False} I8' ⟨.ref ea,by rw[qat hlenn],rfl,rfl⟩
    refine wpAny_mono st (fun fl s9 z9=>?_) fun _ _ z=>z.elim
    cases fl with
    | ret u=>obtain⟨_,_,_,_,_,z⟩:=z9;exact z.elim
    | brk=>obtain⟨_,_,_,z⟩:=z9;exact z.elim
    | cont=>obtain⟨_,_,_,z⟩:=z9;exact z.elim
    | next =>
     obtain⟨σ9,H9,I9',e9,e9'⟩:=z9;subst e9;subst e9';have I9:Inv X Ie ((σ'.set inn (some (.ref ea))).set iy (some (.ref ea))) (upd H' ea (.ext (fR ea C'))) s9:=⟨I8.ok,I9'.os,I9'.bare,I9'.base,I9'.loc,I9'.cell,I9'.free,I9'.freeC,I9'.pin,I9'.hok,I9'.len⟩;obtain⟨m9,hn9,_⟩:=I9.loc;refine wpAny_nameGoes_keeps hnl hn9 (by rw[I9.ok.kind];rfl) fun h10 v10 ns10 sb10=>?_;have I10:=Inv.unbound I9 hNn (g.x hni) hn9 (t':=s9.toks+1) ns10 sb10;refine⟨_,_,I10,?_⟩;exact q (ρ'++[ea]) _ _ (l.trans l7) rh7 (RS.unset (rs8.set iy rv) inn)
   ·rw[qal hx] at q;exact q.elim
 ·cases f with
  | next =>
   obtain⟨σ',H',I',z⟩:=z;exact wpAny_execs_nil ⟨σ',H',Inv.ofPin I',z⟩
  | brk=>obtain⟨σ',H',I',z⟩:=z;exact⟨σ',H',Inv.ofPin I',z⟩
  | cont=>obtain⟨σ',H',I',z⟩:=z;exact⟨σ',H',Inv.ofPin I',z⟩
  | ret u=>obtain⟨v,σ',H',I',r,z⟩:=z;exact⟨v,σ',H',Inv.ofPin I',r,z⟩
end
structure ExcQ (K:qab) (C:Addr):Prop where
 ga:PySem.W.findIn K (.ref C) "__getattribute__"=some (some (.builtin "BaseException.__getattribute__"))
 cl:PySem.W.findIn K (.ref C) "__class__"=some (some (.builtin "object.__class__"))
 gt:PySem.W.findIn K (.ref C) "__getattr__"=some none
 mo:PySem.W.mroIn K C (.type "object")=some true
 mb:PySem.W.mroIn K C (.type "BaseException")=some true
section
variable {prog:Program} {w:World} {A:Around} {E:Value→Shared→Prop} {h:Heap} {g:Array GenState} {d:Drawn} {t:Nat} {os:OsState} {a C:Addr} {o:Obj} {K:qab}
def x_get(hK:K.In h)(q:ExcQ K C)(hx:h.get? a=some o)(hc:o.cls=.ref C)(hq:R (.ok (.ret (.ref C))) ⟨h,g,d,t,os⟩) :
  codeAny (model prog w) A (.call (.builtin "getset_descriptor.__get__") ⟨[.builtin "object.__class__",.ref a,.ref C],[]⟩) R ⟨h,g,d,t,os⟩:=by
 have hT5:(⟨h,g,d,t,os⟩:Shared).TypeIs (.builtin "object.__class__") "getset_descriptor":=PySem.F.typeOf_object_class;have f8:∀{A':Around} {E':Value->Shared->Prop} {Q':Bool->Shared->Prop},Q' true ⟨h,g,d,t,os⟩->wpAny (model prog w) A' (isSubtype (.ref C) (.type (".".intercalate ("object.__class__".cutAt '.').dropLast))) Q' E' ⟨h,g,d,t,os⟩:=fun z=>by
  rw[PySem.F.owner_object_class];exact (PySem.W.looks_mroIn (M:=model prog w) hK q.mo).at z
 refine codeAny_call_builtin PySem.F.slot_gs_get.plain PySem.F.entry_gs_get (PySem.F.slot_gs_get.check _ _ _ _ _ _ _ _ hT5 (PySem.F.args_gs_get _ _ _) ?_)
 repeat (any_goals (first | assumption | (with_reducible refine wpAny_loadPart_at hx ?_;rw[hc]) | with_reducible refine f8 ?_ | wp_step))
 refine⟨Code.quiet_builtin _ (by decide +kernel),codeAny_builtin PySem.F.entry_object_class ?_⟩
 repeat (any_goals (first | assumption | (with_reducible refine wpAny_loadPart_at hx ?_;rw[hc]) | wp_step))
def x_entry(hK:K.In h)(q:ExcQ K C)(hx:h.get? a=some o)(hc:o.cls=.ref C)(hq:Q (.done (.ret (.ref C))) ⟨h,g,d,t,os⟩) :
  wpAny (model prog w) A (Builtin.«object.__getattribute__» ⟨[.ref a,.str "__class__" tk],[]⟩) Q E ⟨h,g,d,t,os⟩:=by
 have hT5:(⟨h,g,d,t,os⟩:Shared).TypeIs (.builtin "object.__class__") "getset_descriptor":=PySem.F.typeOf_object_class;have f4:∀{A':Around} {E':Value->Shared->Prop} {Q':Option Value->Shared->Prop},Q' (some (.builtin "object.__class__")) ⟨h,g,d,t,os⟩->wpAny (model prog w) A' (typeLookup (.ref C) "__class__") Q' E' ⟨h,g,d,t,os⟩:=fun z=>(PySem.W.looks_findIn (M:=model prog w) hK q.cl).at z;have f5:=PySem.F.typeOf_object_class;have f6:=PySem.F.slot_gs_get.lookup;have f7:=PySem.F.slot_gs_set.lookup
 repeat (any_goals (first | assumption | (with_reducible refine wpAny_loadPart_at hx ?_;rw[hc]) | with_reducible refine f4 ?_ | wp_step))
 refine x_get hK q hx hc ?_
 repeat (any_goals (first | assumption | wp_step))
def x_call(hK:K.In h)(q:ExcQ K C)(hx:h.get? a=some o)(hc:o.cls=.ref C)(hq:R (.ok (.ret (.ref C))) ⟨h,g,d,t,os⟩) :
  codeAny (model prog w) A (.call (.builtin "BaseException.__getattribute__") ⟨[.ref a,.str "__class__" tk],[]⟩) R ⟨h,g,d,t,os⟩:=by
 have hk:builtinKind "BaseException.__getattribute__"=some .slot:=by decide +kernel
 have hsplit:splitId "BaseException.__getattribute__"=some ("BaseException","__getattribute__"):=by decide +kernel
 have ha:=PySem.F.args_bexc_ga (.ref a) (.str "__class__" tk);have f8:∀{A':Around} {E':Value->Shared->Prop} {Q':Bool->Shared->Prop},Q' true ⟨h,g,d,t,os⟩->wpAny (model prog w) A' (isSubtype (.ref C) (.type "BaseException")) Q' E' ⟨h,g,d,t,os⟩:=fun z=>(PySem.W.looks_mroIn (M:=model prog w) hK q.mb).at z;have chk:∀{A':Around} {E':Value->Shared->Prop} {Q':Unit->Shared->Prop},Q' () ⟨h,g,d,t,os⟩->wpAny (model prog w) A' (checkBuiltinCall "BaseException.__getattribute__" ⟨[.ref a,.str "__class__" tk],[]⟩) Q' E' ⟨h,g,d,t,os⟩:=fun z=>by
  simp only[checkBuiltinCall,hk,hsplit];refine qaa ?_
  ·unfold isInstance
   repeat (first | (with_reducible refine wpAny_loadPart_at hx ?_;rw[hc]) | with_reducible refine f8 ?_ | wp_step)
   exact z
 exact codeAny_call_builtin PySem.F.excAttr_ValueError.ga.plain PySem.F.entry_bexc_ga (chk (x_entry hK q hx hc hq))
def x_by(hK:K.In h)(q:ExcQ K C)(hx:h.get? a=some o)(hc:o.cls=.ref C)(hq:Q (.ref C) ⟨h,g,d,t,os⟩):wpAny (model prog w) A (getAttrBy (.ref a) (.str "__class__" tk) false) Q E ⟨h,g,d,t,os⟩:=by
 have f3:=PySem.F.excAttr_ValueError.ga.bind (.ref a);have hx2:(Value.builtin "BaseException.__getattribute__" == Value.builtin "object.__getattribute__")=false:=by decide +kernel
 have hx1:(onTheHeap (Value.ref C) && Value.builtin "BaseException.__getattribute__" == Value.builtin "object.__getattribute__")=false:=by rw[hx2];rfl
 have f1:∀{A':Around} {E':Value->Shared->Prop} {Q':Option Value->Shared->Prop},Q' (some (.builtin "BaseException.__getattribute__")) ⟨h,g,d,t,os⟩->wpAny (model prog w) A' (typeLookup (.ref C) "__getattribute__") Q' E' ⟨h,g,d,t,os⟩:=fun z=>(PySem.W.looks_findIn (M:=model prog w) hK q.ga).at z;have f2:∀{A':Around} {E':Value->Shared->Prop} {Q':Option Value->Shared->Prop},Q' none ⟨h,g,d,t,os⟩->wpAny (model prog w) A' (typeLookup (.ref C) "__getattr__") Q' E' ⟨h,g,d,t,os⟩:=fun z=>(PySem.W.looks_findIn (M:=model prog w) hK q.gt).at z
 repeat (any_goals (first | assumption | (with_reducible refine wpAny_loadPart_at hx ?_;rw[hc]) | with_reducible refine f1 ?_ | with_reducible refine f2 ?_ | wp_step))
 refine x_call hK q hx hc ?_
 repeat (any_goals (first | assumption | wp_step))
def x_attr(hK:K.In h)(q:ExcQ K C)(hx:h.get? a=some o)(hc:o.cls=.ref C)(hq:Q (some (.ref C)) ⟨h,g,d,t+1,os⟩):wpAny (model prog w) A (getAttr? (.ref a) "__class__") Q E ⟨h,g,d,t,os⟩:=by
 unfold getAttr? getAttrBy?
 repeat (any_goals (first | assumption | with_reducible apply x_by hK q hx hc | wp_step))
end
def rV{K:qab}{a C:Addr}(q:ExcQ K C)(hc:∃cd,PySem.W.clsIn K C=some cd):PySem.W.KitX K (.ref a) (.ref C) (fR a C) where
 ty:=fun M h _ ⟨o,vs,e,c,_⟩=>c▸(PySem.W.Looks.ld e).andThen .now
 it:=fun _ _ X _=>by
  obtain⟨cdD,hcD⟩:=hc;unfold PySem.W.clsIn at hcD
  split at hcD
  ·rename_i c' d' cd' sl' ho
   intro A' Q' E' s' k q;unfold isType loadHead;exact qaa (wpAny_loadPart (k _ _ (X _ _ ho)) (qae q))
  ·cases hcD
 ne:=fun h tp dd its n sl X htp=>by
  obtain⟨cdD,hcD⟩:=hc;refine qbX.mpr fun z=>?_;have e:C=tp:=Value.ref.inj (beq_iff_eq.mp z);subst e;unfold PySem.W.clsIn at hcD
  split at hcD
  ·rename_i c' d' cd' sl' ho
   have z:=(X _ _ ho).symm.trans htp;cases z
  ·cases hcD
 ca:=fun {prog w A E Q s} X ⟨o,vs,e,c,_⟩ k=>by
  obtain⟨hh,gg,dd,tt,oo⟩:=s;exact x_attr X q e c k
def bv(cs sup:List Str)(x:PV)(h:MH):Out PV:=match x with
 | .loc n=>(match h[n]? with
  | some (.exc e)=>if cs.contains e.cls=true then .ok (.bl (sup.contains e.cls)) h else .bad
  | some _=>.ok (.bl false) h
  | none=>.bad)
 | _=>.ok (.bl false) h
structure IsiC (K:qab) (mg:MGl) (T:Value) (cs sup:List Str):Prop where
 ty:∀t∈["NoneType","bool","int","str","tuple","list","dict"],PySem.W.kitOne K (.type t) T=some false
 ex:∀x∈cs,∃C,mg x=some (.ref C)/\ExcQ K C/\(∃cd,PySem.W.clsIn K C=some cd)/\PySem.W.kitOne K (.ref C) T=some (sup.contains x)
section
variable {X:Cx} {N W G:List Str} {k:Nat}
def ve(IC:IsiC X.K X.mg T cs sup)(hv:∀u,aX v u->u=T):bZ X (.builtin "isinstance") (fun xs H Q=>∃x',xs=[x',v]/\uJ X (bv cs sup) x' H Q):=by
 intro Ie s σ H xs us Q I r ⟨x',e,ρ,h,x,rh,rx,q⟩;subst e
 cases r with
 | cons r1 t1=>cases t1 with
  | cons r2 t2 =>
   cases t2;obtain rfl:=hv _ r2;have plain:∀t,tyP h x=some t->bv cs sup x h=.ok (.bl false) h->wpAny (model X.prog X.w) X.A (call (.builtin "isinstance") [_,_]) (EP X Ie σ Q) X.xe s:=fun t et ef=>by
    rw[ef] at q;obtain⟨ht,hne,Hq,Z,hz⟩:=lE I rh rx r1 et;exact PySem.W.kia_one Z I.kIn hz (IC.ty t ht) hne fun tk=>⟨.bl _,H,I.tok _,rfl,q ρ H _ (Le.refl _ _) rh (.bl _)⟩
   cases x with
   | non=>exact plain _ rfl rfl
   | bl b=>exact plain _ rfl rfl
   | int i=>exact plain _ rfl rfl
   | str i=>exact plain _ rfl rfl
   | tup i=>exact plain _ rfl rfl
   | frl i=>exact plain _ rfl rfl
   | loc n =>
    cases en:h[n]? with
    | none=>simp only[bv,en] at q;exact q.elim
    | some o =>
     cases o with
     | lst xs=>exact plain "list" (by simp[tyP,en]) (by simp[bv,en])
     | dic xs=>exact plain "dict" (by simp[tyP,en]) (by simp[bv,en])
     | exc ex =>
      simp only[bv,en] at q;by_cases hc:cs.contains ex.cls=true
      ·rw[qai hc] at q;obtain⟨C,hm,EQ,hcd,hk⟩:=IC.ex ex.cls (by simpa using hc)
       cases rx with
       | @loc n a e =>
        cases r1;obtain⟨o',eo',ro⟩:=rh.obj e;rw[en] at eo';cases eo';obtain⟨_,C',hm',hH⟩:=ro;rw[hm] at hm';cases hm';obtain⟨hz,_,_⟩:=(show ObjOk X.prog X.w H s.heap a (.ext (fR a C)) from I.hok a _ hH);exact PySem.W.kia_one (rV EQ hcd) I.kIn hz hk (fun z=>nomatch z) fun tk=>⟨.bl _,H,I.tok _,rfl,q ρ H _ (Le.refl _ _) rh (.bl _)⟩
      ·rw[qal hc] at q;exact q.elim
def me_isiC(g:Good X N W G k){a:Expr}{m:Mx PV}{c:Str}{D:Addr}{cs sup:List Str}{i j:Nat}{p q pos:Pos}(hi:G[i]?=some "isinstance")(hm:X.mg "isinstance"=none)(hj:G[j]?=some c)(hc:X.mg c=some (.ref D))(IC:IsiC X.K X.mg (.ref D) cs sup)(ha:ME X a m)
  (he:starEach [a,.Name c q] X.env=(false,eval a X.env)::starEach [.Name c q] X.env:=by rfl) (he2:starEach [.Name c q] X.env=[(false,eval (.Name c q) X.env)]:=by rfl) (hpl:(backTo pos (starEach [.Name c q] X.env)).any (·.1)=false:=by rfl) :
  ME X (.Call (.Name "isinstance" p) [a,.Name c q] [] pos) (mUn (bv cs sup) m):=by
 have d1:=g.dbg _ (qaf _ (av hi));have d:=g.dbg c (qaf _ (av hj));refine PE.imp (dN (ve IC (v:=.ref D) fun u r=>(show u=Value.ref D from r)) (g.gl _ (av hi)) hm PyProof.Rows.Boot.«isinstance» (bI ha (bI (oG (v:=.ref D) (u:=.ref D) (g.gl c (av hj)) hc rfl d.1) dB he2) he) d1.2.2 d1.1 he hpl) fun σ H Q ⟨ρ,σp,h,rs,rh,q⟩=>?_;exact⟨ρ,σp,h,rs,rh,Ful.bind q fun ρ1 H1 x x' h1 _ l1 rh1 rx q1=>⟨x',rfl,ρ1,h1,x,rh1,rx,q1.zero⟩⟩
def me_isiB(g:Good X N W G k){a:Expr}{m:Mx PV}{c:Str}{T:String}{cs sup:List Str}{i j:Nat}{p q pos:Pos}(hi:G[i]?=some "isinstance")(hm:X.mg "isinstance"=none)(hj:G[j]?=some c)(hc:X.mg c=none)(hv:bootBuiltins c=some (.type T))(IC:IsiC X.K X.mg (.type T) cs sup)(ha:ME X a m)
  (he:starEach [a,.Name c q] X.env=(false,eval a X.env)::starEach [.Name c q] X.env:=by rfl) (he2:starEach [.Name c q] X.env=[(false,eval (.Name c q) X.env)]:=by rfl) (hpl:(backTo pos (starEach [.Name c q] X.env)).any (·.1)=false:=by rfl) :
  ME X (.Call (.Name "isinstance" p) [a,.Name c q] [] pos) (mUn (bv cs sup) m):=by
 have d1:=g.dbg _ (qaf _ (av hi));have d:=g.dbg c (qaf _ (av hj));refine PE.imp (dN (ve IC (v:=.ty T) fun u r=>(show u=Value.type T from r)) (g.gl _ (av hi)) hm PyProof.Rows.Boot.«isinstance» (bI ha (bI (kX (v:=.ty T) (u:=.type T) (g.gl c (av hj)) hc hv rfl d.2.2 d.1) dB he2) he) d1.2.2 d1.1 he hpl) fun σ H Q ⟨ρ,σp,h,rs,rh,q⟩=>?_;exact⟨ρ,σp,h,rs,rh,Ful.bind q fun ρ1 H1 x x' h1 _ l1 rh1 rx q1=>⟨x',rfl,ρ1,h1,x,rh1,rx,q1.zero⟩⟩
end
def dj{K:qab}{D:Addr}(h:PySem.W.kitOne K (.type "NoneType") (.ref D)=some false):∀t∈["NoneType","bool","int","str","tuple","list","dict"],PySem.W.kitOne K (.type t) (.ref D)=some false:=by
 have hb:((PySem.W.clsIn K D).isSome && PySem.W.typeIn K (.ref D) == some (.type "type"))=true:=by
  cases z:((PySem.W.clsIn K D).isSome && PySem.W.typeIn K (.ref D) == some (.type "type")) with
  | true=>rfl
  | false =>
   have e:PySem.W.kitOne K (.type "NoneType") (.ref D)=PySem.W.kitCls K (.type "NoneType") (.ref D):=rfl;rw[e] at h;unfold PySem.W.kitCls at h;dsimp only at h;rw[z] at h;cases h
 have key:∀t,PySem.W.kitOne K (.type t) (.ref D)=(if ((PySem.W.clsIn K D).isSome && PySem.W.typeIn K (.ref D) == some (.type "type"))=true then PySem.W.subIn K (.type t) (.ref D) else none):=fun t=>rfl;intro t ht;rw[key,qai hb];simp only[qao,qba,or_false] at ht;rcases ht with rfl|rfl|rfl|rfl|rfl|rfl|rfl <;> rfl
def ty_VE:∀(K:qab),∀t∈["NoneType","bool","int","str","tuple","list","dict"],PySem.W.kitOne K (.type t) (.type "ValueError")=some false:=by
 intro K t ht;simp only[qao,qba,or_false] at ht;rcases ht with rfl|rfl|rfl|rfl|rfl|rfl|rfl <;> rfl
def wk{K:qab}{C:Addr}{b:Value}{r:Bool}(h:PySem.W.mroIn K C b=some r):∃cd,PySem.W.clsIn K C=some cd:=by
 unfold PySem.W.mroIn at h
 cases z:PySem.W.clsIn K C with
 | none=>rw[z] at h;cases h
 | some cd=>exact⟨cd,rfl⟩
def cq{K:qab}{mg:MGl}{T:Value}{cs sup:List Str}(ty:∀t∈["NoneType","bool","int","str","tuple","list","dict"],PySem.W.kitOne K (.type t) T=some false)
  (ex:∀x∈cs,∃C,mg x=some (.ref C)/\ExcQ K C/\PySem.W.kitOne K (.ref C) T=some (sup.contains x)):IsiC K mg T cs sup :=
 ⟨ty,fun x hx=>let ⟨C,a,b,c⟩:=ex x hx;⟨C,a,b,wk b.mo,c⟩⟩
def b9{p:Str->Prop}:∀x∈([]:List Str),p x:=fun _ h=>nomatch h
def bu{p:Str->Prop}{a:Str}{l:List Str}(h:p a)(t:∀x∈l,p x):∀x∈a::l,p x:=fun x hx=>by
 rcases qao.mp hx with rfl|z
 ·exact h
 ·exact t x z
section
variable {X:Cx} {N W G:List Str} {k:Nat}
def kl(g:Good X N W G k){x:Str}{j:Nat}(hj:G[j]?=some x)(EC:∃C,oH X x C){e:Expr}{es:List Expr}{m:Mx (List PV)}{np cpos pos:Pos}(ha:MA X (e::es) m)
  (he:starEach (e::es) X.env=(false,eval e X.env)::starEach es X.env:=by rfl) (hpl:(backTo cpos (starEach es X.env)).any (·.1)=false:=by rfl) :
  MS X (.Raise (some (.Call (.Name x np) (e::es) [] cpos)) none pos) (gq x m):=let ⟨_,h⟩:=EC;yF g hj h ha he hpl
def ms_tryE(g:Good X N W G k)(dc:DefCx X){c:Str}{j:Nat}(hj:G[j]?=some c){cs:List Str}(ED:∃D,oH X c D/\∀x∈cs,∃C,oH X x C/\PySem.W.mroIn X.K C (.ref D)=some true)(iy inn:Nat){y n:Str}(hyi:N[iy]?=some y)(hyw:W[iy]?=some y)(hni:N[inn]?=some n)(hnw:W[inn]?=some n)
  (hnl:X.env.scope.names.lookup n=some .local) {body:List Stmt} {mb:Mst} {cp yp np sp hp pos:Pos}
  (hb:∀Y:Cx,Y.prog=X.prog->Y.w=X.w->Y.K=X.K->Y.mg=X.mg->Y.base=X.base->Y.env=X.env->Good Y N W G k->DefCx Y->MSs Y body mb) (hsw:swapsWith (.Name n np) (some (.Name y yp)) sp.line X.env=pure false:=by rfl) :
  MS X (.Try body [.ExceptHandler (some (.Name c cp)) (some n) [.Assign [.Name y yp] (.Name n np) sp] hp] [] [] pos) (tR cs iy inn mb):=let ⟨_,h,h'⟩:=ED;ms_try g dc hj h h' iy inn hyi hyw hni hnw hnl hb hsw
def ly(g:Good X N W G k){a:Expr}{m:Mx PV}{c:Str}{cs sup:List Str}{i j:Nat}{p q pos:Pos}(hi:G[i]?=some "isinstance")(hm:X.mg "isinstance"=none)(hj:G[j]?=some c)(IC:∃D,X.mg c=some (.ref D)/\IsiC X.K X.mg (.ref D) cs sup)(ha:ME X a m)
  (he:starEach [a,.Name c q] X.env=(false,eval a X.env)::starEach [.Name c q] X.env:=by rfl) (he2:starEach [.Name c q] X.env=[(false,eval (.Name c q) X.env)]:=by rfl) (hpl:(backTo pos (starEach [.Name c q] X.env)).any (·.1)=false:=by rfl) :
  ME X (.Call (.Name "isinstance" p) [a,.Name c q] [] pos) (mUn (bv cs sup) m):=let ⟨_,h,h'⟩:=IC;me_isiC g hi hm hj h h' ha he he2 hpl
def Cal.at(e1:Y.prog=X.prog)(e2:Y.w=X.w)(e3:Y.K=X.K)(e4:Y.mg=X.mg)(e5:Y.base=X.base)(c:Cal X x ps F i):Cal Y x ps F i:=c.to e1 e2 e3 e4 e5
end
end MM
namespace MM
open PySem PySem.Spec PyProof.Rows L2
def compOk(hsc:X.env.scope=sc)(h1:scope.kind=.function)(h2:∀y∈scope.names,y.2=.cell->scope.names.lookup y.1=some .cell)(h3:∀y∈scope.names,y.2=.local->scope.names.lookup y.1=some .local)(h4:∀x∈vars,scope.names.lookup x=some .local\/scope.names.lookup x=some .cell)
  (h5:∀x∈frees,scope.names.lookup x=some .free) (h6:∀y∈scope.names,y.2=.free->y.1∈frees) (h7:fm.map (fun i=>N[i]?)=frees.map some) (h8:∀x∈frees,sc.names.lookup x=some .cell):CompOk X N scope vars frees fm :=
 ⟨h1,h2,h3,h4,h5,h6,h7,fun x hx=>by rw[<-hsc] at h8;exact h8 x hx⟩
end MM
namespace MM
open PySem PySem.Spec PyProof.Rows L2
local instance (priority:=1) cdec16 (p:Prop):Decidable p:=Classical.propDecidable p
section
variable {σ:PSt} {h:MH}
@[simp] theorem mRaise_ap:gq x m σ h=(m σ h).go σ fun vs σ h=>if vs.length<=sizeLine then .rse ⟨x,[]⟩ σ h else .bad:=rfl
@[simp] theorem mComp_ap{nv:Nat}{fm:List Nat}{mi:Mx MIt}{gt:Mg}{mt:Mx Bool}{me:Mx PV}:cv nv fm mi gt mt me σ h =
 (mi σ h).bind fun it h1=>(cGo it h1.length gt mt me it.xs (cSt nv fm σ) (h1++[.lst []])).bind fun _ h3=>.ok (.loc h1.length) h3:=rfl
def app_0{o:MO}{g:MH}:(h++o::g)[h.length]?=some o:=by simp
end
end MM
namespace MM
open PySem PySem.Spec PyProof.Rows L2
end MM
namespace MM
open PySem PySem.Spec PyProof.Rows L2
local instance (priority:=1) cdec18 (p:Prop):Decidable p:=Classical.propDecidable p
def mMt(f:Nat->List PV->MH->Out PV)(m:Mx PV)(ma:Mx (List PV)):Mx PV:=fun σ h=>(m σ h).bind fun o h1=>match o with
 | .loc n=>(match h1[n]? with
  | some (.lst _)=>(ma σ h1).bind fun vs h2=>(f n vs h2).ne
  | _=>.bad)
 | _=>.bad
def fX(n:Nat)(vs:List PV)(h:MH):Out PV:=match vs,h[n]? with
 | [v],some (.lst xs)=>if xs.length<sizeLine then .ok .non (h.set n (.lst (xs++[v]))) else .bad
 | _,_=>.bad
def fZ(n:Nat)(vs:List PV)(h:MH):Out PV:=match vs with
 | [.loc m]=>(match h[n]?,h[m]? with
  | some (.lst xs),some (.lst ys)=>if xs.length+ys.length<=sizeLine then .ok .non (h.set n (.lst (xs++ys))) else .bad
  | _,_=>.bad)
 | [.tup ys]=>(match h[n]? with
  | some (.lst xs)=>if xs.length+ys.length<=sizeLine then .ok .non (h.set n (.lst (xs++ys))) else .bad
  | _=>.bad)
 | _=>.bad
section
variable {X:Cx} {N W G:List Str} {k:Nat}
def mtJ(X:Cx)(f:Nat->List PV->MH->Out PV):V->List V->Hp->VK->Prop:=fun x vs H Q=>∃ρ h n a ps,x=.ref a/\ρ[n]?=some a/\RH X.K X.mg ρ H h/\RPs X.K ρ H ps vs/\hZ X (RV' X) ρ H (f n ps h) Q
def pj:MtR X "list.append" (mtJ X fX):=by
 intro Ie s σ H x vs v us Q I rx rv ⟨ρ,h,n,a,ps,e,en,rh,rp,q⟩;subst e;obtain⟨o,eo,ro⟩:=rh.obj en;unfold fX at q
 cases rp with
 | nil=>rw[eo] at q;exact q.elim
 | cons r1 t1 =>
  cases t1 with
  | cons _ _=>rw[eo] at q;exact q.elim
  | nil =>
   rw[eo] at q
   cases o with
   | lst xs =>
    dsimp only at q;by_cases hl:xs.length<sizeLine
    ·rw[qai hl] at q;obtain⟨ys,ey,ry⟩:=ro;obtain⟨rh',l'⟩:=rh.put en (o:=.lst (xs++[_])) (ho:=.lst (ys++[_])) ⟨_,rfl,ry.append (.cons r1 .nil)⟩;exact pT Ie s σ H _ _ v us Q I rx rv ⟨a,ys,_,rfl,rfl,ey,by rw[<-ry.length];exact hl,q ρ _ .non l' rh' .non⟩
    ·rw[qal hl] at q;exact q.elim
   | _=>exact q.elim
def qA(l b:Addr)(its:Array Value)(n:Nat)(items2:Array Value)(hs0:¬(!its.isEmpty && Builtin.List.listTooLong (its.size+items2.size))=true)(hs1:its.size<=sizeLine)(hs2:its.size+items2.size<=sizeLine+1) :
  Meets (Builtin.«list.extend» ⟨[.ref l,.ref b],[]⟩) (fun _ R s=>s.heap.get? l=some { cls:=.type "list",data:=.seq its n}/\IsTup s.heap b items2/\R (.ok (.ret Value.none)) { s with heap:=s.heap.update l (Obj.mapSeq fun x=>x++items2),toks:=s.toks}):=by
 intro prog w A R s ⟨hl,⟨o,ho,hc,n2,hd⟩,h⟩;have hz':(its++items2).size<=sizeLine+1:=by rw[qbM];exact hs2
 unfold Builtin.«list.extend»;show wpAny _ A.in1 (Builtin.List.listExtendWith (.ref l) (.ref b) .none) _ _ s;unfold Builtin.List.listExtendWith;refine qaa (wpAny_typeOf ⟨o,ho,hc⟩ ?_);have h1:(Builtin.List.listSameRef (.ref l) (.ref b) || Value.type "tuple" == Value.type "list" || Value.type "tuple" == Value.type "tuple")=true:=by simp
 simp only[h1,if_true];refine qaa ?_;unfold Builtin.List.listItems;refine qaa (wpAny_seqItems ho hd (qae ?_));refine qaa ?_;refine qaa (wpAny_seqItems hl rfl (qae ?_));simp only[hs0,if_false];show wpAny _ A.in1 (updateSeq l (·++items2) >>= fun _=>ret Value.none) _ _ s;refine qaa (wpAny_updateSeq hl rfl ?_ (hz:=hs1) (_hz':=hz'));exact qae h
def w9:MtR X "list.extend" (mtJ X fZ):=by
 intro Ie s σ H x vs v us Q I rx rv ⟨ρ,h,n,a,ps,e,en,rh,rp,q⟩;subst e;obtain⟨o,eo,ro⟩:=rh.obj en;unfold fZ at q
 cases rp with
 | nil=>exact q.elim
 | cons r1 t1 =>
  cases t1 with
  | cons _ _=>cases r1 <;> exact q.elim
  | nil =>
   cases r1 with
   | @loc m b em =>
    obtain⟨o2,eo2,ro2⟩:=rh.obj em;dsimp only at q;rw[eo,eo2] at q
    cases o with
    | lst xs =>
     cases o2 with
     | lst zs =>
      dsimp only at q;by_cases hl:xs.length+zs.length<=sizeLine
      ·rw[qai hl] at q;obtain⟨ys,ey,ry⟩:=ro;obtain⟨ws,ew,rw'⟩:=ro2;obtain⟨rh',l'⟩:=rh.put en (o:=.lst (xs++zs)) (ho:=.lst (ys++ws)) ⟨_,rfl,ry.append rw'⟩;exact wZ Ie s σ H _ _ v us Q I rx rv ⟨a,b,ys,ws,rfl,rfl,ey,ew,by rw[<-ry.length,<-rw'.length];exact hl,q ρ _ .non l' rh' .non⟩
      ·rw[qal hl] at q;exact q.elim
     | _=>exact q.elim
    | _=>exact q.elim
   | @tup zs a2 ws sq rr =>
    dsimp only at q;rw[eo] at q
    cases o with
    | lst xs =>
     dsimp only at q;by_cases hl:xs.length+zs.length<=sizeLine
     ·rw[qai hl] at q;obtain⟨ys,ey,ry⟩:=ro;obtain⟨rh',l'⟩:=rh.put en (o:=.lst (xs++zs)) (ho:=.lst (ys++ws)) ⟨_,rfl,ry.append rr⟩;cases rx;obtain⟨u,rfl,ru⟩:=rv.one;cases ru;obtain⟨z,its,n,r,hl1,e⟩:=I.lstM ey;obtain⟨its2,r2,pl,hz2⟩:=I.tuple sq;have hlen:ys.length+ws.length<=sizeLine:=by rw[<-ry.length,<-rr.length];exact hl
      have hl2:=r2.length;have hsz:its.toArray.size+its2.toArray.size<=sizeLine:=by rw[qak,qak];lia
      have hlong:¬(!its.toArray.isEmpty && Builtin.List.listTooLong (its.toArray.size+its2.toArray.size))=true:=by
       rw[mm hsz,qcE];exact qaK
      refine call_meets F.slot_list_extend ⟨_,e,rfl⟩ F.entry_list_extend (F.args_list_extend_2 _ _) (qA a _ its.toArray n its2.toArray hlong (by rw[qak];lia) (by lia)) ⟨e,pl,?_⟩;refine⟨.non,_,I.lset (its':=its++its2) ey e (by simp) (r.append r2) ?_,rfl,q ρ _ .non l' rh' .non⟩;rw[qaR];lia
     ·rw[qal hl] at q;exact q.elim
    | _=>exact q.elim
   | _=>exact q.elim
variable {o e:Expr} {es:List Expr} {name:Str} {apos cpos:Pos} {id:String} {f:Nat→List PV→MH→Out PV} {m:Mx PV} {ma:Mx (List PV)}
def tM_mt{ta:TA}(hna:∀σ H Q,tM X (RVs' X) ma σ H Q->ta σ H Q){σ:L2.St}{H:Hp}{Q:VK}(tm:tM X (RV' X) (mMt f m ma) σ H Q):tM X (RV' X) m σ H (fun x H1=>tyV X.K "list" x H1/\ta σ H1 fun xs H2=>mtJ X f x xs H2 Q):=by
 obtain⟨ρ,σp,h,rs,rh,q⟩:=tm;refine⟨ρ,σp,h,rs,rh,?_⟩;unfold mMt at q;refine Ful.bind q fun ρ1 H1 x x' h1 _ l1 rh1 rx q1=>?_
 cases rx with
 | @loc n a en =>
  obtain⟨ob,eo,ro⟩:=rh1.obj en;dsimp only at q1;rw[eo] at q1
  cases ob with
  | lst xs =>
   obtain⟨ys,ey,ry⟩:=ro;refine⟨.inl ⟨rfl,ys,SqL.of ey⟩,hna σ H1 _ ⟨ρ1,σp,h1,rs.le l1,rh1,?_⟩⟩;exact Ful.bind q1 fun ρ2 H2 vs vs' h2 _ l2 rh2 rvs q2=>⟨ρ2,h2,n,a,vs,rfl,l2.get en,rh2,rvs,q2.zero⟩
  | _=>exact q1.elim
 | _=>exact q1.elim
def qM(slot:Slot "list" name id)(hty:typeOf (.builtin id)=pure (.type "method_descriptor"))(hm:MtR X id (mtJ X f))(ho:ME X o m)(ha:MA X (e::es) ma)
  (hbase:attributeBase o name X.env (eval o X.env)=eval o X.env:=by rfl)
  (hfew:((backTo cpos (starEach (e::es) X.env)).all (fun x=>!x.1) && (backToKw cpos (keywordEach [] X.env)).all (fun x=>x.1.isSome)
   && decide ((e::es).length+([]:List Keyword).length+(if ([]:List Keyword).isEmpty then 0 else 1)<30))=true:=by rfl)
  (hline:(apos.endLine == cpos.line)=true:=by rfl) (hs:starEach (e::es) X.env=(false,eval e X.env)::starEach es X.env:=by rfl) (hplain:(backTo cpos (starEach es X.env)).any (·.1)=false:=by rfl) :
  ME X (.Call (.Attribute o name apos) (e::es) [] cpos) (mMt f m ma) :=
 PE.imp (pe_bm PySem.F.plainAttrs_list slot hty hm ho ha hbase hfew hline hs hplain) fun σ H Q q=>tM_mt (fun _ _ _ z=>z) q
@[simp] theorem mMt_ap:mMt f m ma σ h=(m σ h).bind fun o h1=>match o with
 | .loc n=>(match h1[n]? with
  | some (.lst _)=>(ma σ h1).bind fun vs h2=>(f n vs h2).ne
  | _=>.bad)
 | _=>.bad:=rfl
end
end MM
namespace MM
open PySem PySem.Spec PyProof.Rows L2
end MM
namespace MM
open PySem PySem.Spec PyProof.Rows L2
local instance (priority:=1) cdec20 (p:Prop):Decidable p:=Classical.propDecidable p
def bU(h:MH):PV->Option (List PV)
 | .tup xs=>some xs
 | .frl xs=>some xs
 | .loc n=>(match h[n]? with
  | some (.lst xs)=>some xs
  | _=>none)
 | _=>none
section
variable {X:Cx} {N W G:List Str} {k:Nat}
def ip(rh:RH X.K X.mg ρ H h)(rx:RP X.K ρ H x x')(e:bU h x=some xs):∃a ys,x'=.ref a/\(SqL X.K H a ys\/SqT X.K H a ys)/\RPs X.K ρ H xs ys:=by
 cases rx with
 | tup s r=>cases e;exact⟨_,_,rfl,.inr s,r⟩
 | frl s r=>cases e;exact⟨_,_,rfl,.inl s.sq,r⟩
 | @loc n a en =>
  obtain⟨o,eo,ro⟩:=rh.obj en;simp only[bU,eo] at e
  cases o with
  | lst ys =>
   cases e;obtain⟨zs,ez,rz⟩:=ro;exact⟨a,zs,rfl,.inl (SqL.of ez),rz⟩
  | _=>cases e
 | _=>cases e
def fo(f g:PV->PV->MH->Out PV)(a b c:Mx PV):Mx PV:=fun σ h=>(a σ h).bind fun x h1=>(b σ h1).bind fun y h2=>(f x y h2).ne.bind fun z h3=>match z with
 | .bl t=>if t=true then (c σ h3).bind fun w h4=>(g y w h4).ne else .ok (.bl false) h3
 | _=>.bad
variable {a b c:Expr} {ma mb mc:Mx PV} {f g':PV→PV→MH→Out PV} {op op':CmpOp} {pos:Pos}
def tz{σ:L2.St}{H:Hp}{Q:VK}(q:tM X (RV' X) (fo f g' ma mb mc) σ H Q):sK (rJ X f) (rJ X g') (tM X (RV' X) ma) (tM X (RV' X) mb) (tM X (RV' X) mc) σ H Q:=by
 obtain⟨ρ,σp,h,rs,rh,q⟩:=q;refine⟨ρ,σp,h,rs,rh,Ful.bind q fun ρ1 H1 x x' h1 _ l1 rh1 rx q1=>?_⟩;refine⟨ρ1,σp,h1,rs.le l1,rh1,Ful.bind q1 fun ρ2 H2 y y' h2 _ l2 rh2 ry q2=>?_⟩;refine⟨ρ2,h2,x,y,rh2,rx.le l2,ry,?_⟩;have key:Ful X (RV' X) σp ρ2 H2 (f x y h2).ne (fun z H3=>∃k,z=.bl k/\(if k=true then tM X (RV' X) mc σ H3 fun w' H4=>rJ X g' y' w' H4 Q else Q (.bl false) H3)):=Ful.bind q2 fun ρ3 H3 z z' h3 _ l3 rh3 rz q3=>by
  cases rz with
  | bl t =>
   refine⟨t,rfl,?_⟩;dsimp only at q3
   cases t with
   | true =>
    rw[qai rfl] at q3 ⊢;exact⟨ρ3,σp,h3,rs.le (l1.trans (l2.trans l3)),rh3,Ful.bind q3 fun ρ4 H4 w w' h4 _ l4 rh4 rw' q4=>⟨ρ4,h4,y,w,rh4,(ry.le l3).le l4,rw',q4.zero⟩⟩
   | false =>
    rw[qal qaK] at q3 ⊢;exact q3 ρ3 H3 _ (Le.refl _ _) rh3 (.bl _)
  | _=>exact q3.elim
 exact key.zero
def tK(ho:OpJ X (compareOp op) f)(ho':OpJ X (compareOp op') g')(ha:ME X a ma)(hb:ME X b mb)(hc:ME X c mc)(hm:lastMarks [op,op'] [b,c]=false:=by with_unfolding_all rfl):ME X (.Compare a [op,op'] [b,c] pos) (fo f g' ma mb mc) :=
 PE.imp (zd ho ho' ha hb hc hm) fun _ _ _ q=>tz q
def zK(ho:OpJ X (compareOp op) f)(ho':OpJ X (compareOp op') g')(ha:ME X a ma)(hb:ME X b mb)(hc:ME X c mc)(hm:lastMarks [op,op'] [b,c]=false:=by with_unfolding_all rfl):MT X (.Compare a [op,op'] [b,c] pos) (mB (fo f g' ma mb mc)) :=
 PT.imp (yH ho ho' ha hb hc hm) fun σ H Q ⟨ρ,σp,h,rs,rh,q⟩=>tz ⟨ρ,σp,h,rs,rh,Ful.bind q fun ρ1 H1 v v' h1 _ l1 rh1 rv q1=>by
  cases rv with
  | bl t=>exact⟨t,rfl,q1 ρ1 H1 t (Le.refl _ _) rh1 rfl⟩
  | _=>exact q1.elim⟩
@[simp] theorem mChain_ap:fo f g' ma mb mc σ h=(ma σ h).bind fun x h1=>(mb σ h1).bind fun y h2=>(f x y h2).ne.bind fun z h3=>match z with
 | .bl t=>if t=true then (mc σ h3).bind fun w h4=>(g' y w h4).ne else .ok (.bl false) h3
 | _=>.bad:=rfl
def fList(xs:List PV)(h:MH):Out PV:=match xs with
 | [x]=>(match bU h x with
  | some ys=>newL ys h
  | none=>.bad)
 | _=>.bad
def fTuple(xs:List PV)(h:MH):Out PV:=match xs with
 | [x]=>(match bU h x with
  | some ys=>.ok (.tup ys) h
  | none=>.bad)
 | _=>.bad
def iH:cH X (.type "list") fList:=by
 intro Ie s σ H xs us Q I r ⟨ρ,h,ps,rh,rp,q⟩
 cases rp with
 | nil=>exact q.elim
 | cons r1 t1 =>
  cases t1 with
  | cons _ _=>exact q.elim
  | nil =>
   rename_i x y
   unfold fList at q
   cases es:bU h x with
   | none=>simp only[es] at q;exact q.elim
   | some ys =>
    simp only[es] at q;obtain⟨a,zs,rfl,hsq,rzs⟩:=ip rh r1 es;obtain⟨_,q'⟩:=lx rh rzs q;exact rG Ie s σ H _ us Q I r ⟨a,zs,rfl,hsq,q'⟩
def mK:cH X (.type "tuple") fTuple:=by
 intro Ie s σ H xs us Q I r ⟨ρ,h,ps,rh,rp,q⟩
 cases rp with
 | nil=>exact q.elim
 | cons r1 t1 =>
  cases t1 with
  | cons _ _=>exact q.elim
  | nil =>
   rename_i x y
   unfold fTuple at q
   cases es:bU h x with
   | none=>simp only[es] at q;exact q.elim
   | some ys =>
    simp only[es] at q;obtain⟨a,zs,rfl,hsq,rzs⟩:=ip rh r1 es;rcases hsq with hq|hq
    ·refine jS Ie s σ H _ us Q I r ⟨a,zs,rfl,.inl ⟨hq,fun l hl=>?_⟩⟩;obtain⟨r',l'⟩:=rh.tup hl zs;exact q ρ _ _ l' r' (.tup (SqT.of br) (rzs.le l'))
    ·exact jS Ie s σ H _ us Q I r ⟨a,zs,rfl,.inr ⟨hq,q ρ H _ (Le.refl _ _) rh (.tup hq rzs)⟩⟩
def dv(xs:List PV)(lo hi:Option Int):List PV:=(xs.drop (HT.sIx xs.length 0 lo)).take (HT.sIx xs.length xs.length hi - HT.sIx xs.length 0 lo)
def fSl(x:PV)(lo hi:Option Int)(h:MH):Out PV:=match x with
 | .tup xs=>if HT.sIx xs.length 0 lo=0/\HT.sIx xs.length xs.length hi=xs.length then .bad else .ok (.tup (dv xs lo hi)) h
 | .frl xs=>.ok (.loc h.length) (h++[.lst (dv xs lo hi)])
 | .loc n=>(match h[n]? with
  | some (.lst xs)=>.ok (.loc h.length) (h++[.lst (dv xs lo hi)])
  | _=>.bad)
 | _=>.bad
def slJ(X:Cx)(f:PV->Option Int->Option Int->MH->Out PV):V->Option Int->Option Int->Hp->VK->Prop:=fun x' lo hi H Q=>∃ρ h x,RH X.K X.mg ρ H h/\RP X.K ρ H x x'/\hZ X (RV' X) ρ H (f x lo hi h) Q
def kS{K:qab}{ρ:List Addr}{H:Hp}{xs:List PV}{ys:List V}(r:RPs K ρ H xs ys)(lo hi:Option Int):RPs K ρ H (dv xs lo hi) (fv ys lo hi):=by
 unfold dv fv;rw[r.length];exact (r.drop _).take _
def sj_sl:SlR X (slJ X fSl):=by
 intro Ie s σ H x' v vl vu lo hi sl Q I rx hs pl pu ⟨ρ,h,x,rh,rxx,q⟩
 cases rxx with
 | tup s1 r1 =>
  unfold fSl at q;dsimp only at q
  rename_i xs a ys
  by_cases z:HT.sIx xs.length 0 lo=0/\HT.sIx xs.length xs.length hi=xs.length
  ·rw[qai z] at q;exact q.elim
  ·rw[qal z] at q;refine xy Ie s σ H _ v vl vu lo hi sl Q I rx hs pl pu ⟨a,ys,rfl,s1,by rw[<-r1.length];exact z,fun p hp=>?_⟩;obtain⟨r',l'⟩:=rh.tup hp (fv ys lo hi);exact q ρ _ _ l' r' (.tup (SqT.of br) ((kS r1 lo hi).le l'))
 | frl s1 r1 =>
  rename_i xs a ys
  refine uU Ie s σ H _ v vl vu lo hi sl Q I rx hs pl pu ⟨a,ys,rfl,s1.sq,fun p hp=>?_⟩;obtain⟨r',l'⟩:=rh.new hp (o:=.lst (dv xs lo hi)) (ho:=.lst (fv ys lo hi)) ⟨_,rfl,kS r1 lo hi⟩;exact q _ _ _ l' r' (.loc (by rw[<-rh.len];simp))
 | @loc n a en =>
  obtain⟨o,eo,ro⟩:=rh.obj en;unfold fSl at q;dsimp only at q;rw[eo] at q
  cases o with
  | lst xs =>
   obtain⟨ys,ey,ry⟩:=ro;refine uU Ie s σ H _ v vl vu lo hi sl Q I rx hs pl pu ⟨a,ys,rfl,SqL.of ey,fun p hp=>?_⟩;obtain⟨r',l'⟩:=rh.new hp (o:=.lst (dv xs lo hi)) (ho:=.lst (fv ys lo hi)) ⟨_,rfl,kS ry lo hi⟩;exact q _ _ _ l' r' (.loc (by rw[<-rh.len];simp))
  | _=>exact q.elim
 | _=>exact q.elim
def MO'(X:Cx)(e:Option Expr)(m:Mx (Option Int)):Prop:=PO X e (tM X REq m)
def mNo:Mx (Option Int):=fun _ h=>.ok none h
def mPt(m:Mx PV):Mx (Option Int):=fun σ h=>(m σ h).bind fun v h1=>match v with
 | .int i=>.ok (some i) h1
 | _=>.bad
def cK:MO' X none mNo:=fun Ie s σ H Q I ⟨ρ,σp,h,rs,rh,q⟩=>po_none Ie s σ H Q I (q ρ H none (Le.refl _ _) rh rfl)
def b8(h:ME X e m):MO' X (some e) (mPt m):=fun Ie s σ H Q I ⟨ρ,σp,hh,rs,rh,q⟩=>po_some h Ie s σ H Q I ⟨ρ,σp,hh,rs,rh,Ful.bind q fun ρ1 H1 v v' h1 _ l1 rh1 rv q1=>by
 cases rv with
 | int i=>exact⟨i,rfl,q1 ρ1 H1 (some i) (Le.refl _ _) rh1 rfl⟩
 | _=>exact q1.elim⟩
def mSl(m:Mx PV)(ml mh:Mx (Option Int)):Mx PV:=fun σ h=>(m σ h).bind fun x h1=>(ml σ h1).bind fun lo h2=>(mh σ h2).bind fun hi h3=>(fSl x lo hi h3).ne
def me_sl{e:Expr}{lo hi:Option Expr}{m:Mx PV}{ml mh:Mx (Option Int)}{p2:Pos}(he:ME X e m)(hl:MO' X lo ml)(hu:MO' X hi mh):ME X (.Subscript e (.Slice lo hi none p2) pos) (mSl m ml mh) :=
 PE.imp (rO sj_sl he hl hu) fun σ H Q ⟨ρ,σp,h,rs,rh,q⟩=>⟨ρ,σp,h,rs,rh,Ful.bind q fun ρ1 H1 x x' h1 _ l1 rh1 rx q1=>⟨ρ1,σp,h1,rs.le l1,rh1,Ful.bind q1 fun ρ2 H2 lo lo' h2 _ l2 rh2 el q2=>by
  subst el
  exact⟨ρ2,σp,h2,rs.le (l1.trans l2),rh2,Ful.bind q2 fun ρ3 H3 hi hi' h3 _ l3 rh3 eh q3=>by
   subst eh
   exact⟨ρ3,h3,x,rh3,(rx.le l2).le l3,q3.zero⟩⟩⟩⟩
end
section
variable {X:Cx} {N W G:List Str} {k:Nat}
def mQ{A:Around}{E:Value->Shared->Prop}{Ie:List (Addr × Obj)}{σ:L2.St}{H:Hp}{s:Shared}{a:Addr}{ys:List V}{Q:Value->Shared->Prop}(hh:A.handled=none)(I:Inv X Ie σ H s)(hq:SqL X.K H a ys\/SqT X.K H a ys)
  (h:∀(its:List Value) (h2:Heap) (It:Addr) (St:Nat->Heap->Prop),aB ys its->Walks X.prog X.w A It [It,a] [It] its.toArray.size (fun i v=>its.toArray[i]?=some v) St->St 0 h2->(∀b∈[It,a],b<h2.objs.size)->(∀b o,s.heap.get? b=some o->h2.get? b=some o)->s.heap.objs.size=It->Q (.ref It) { s with heap:=h2}) :
  wpAny (model X.prog X.w) A (pyIter (.ref a)) Q E s:=by
 have sz:∀(o:Obj),a<s.heap.objs.size->∀b∈[s.heap.objs.size,a],b<(s.heap.push o).objs.size:=fun o hlt b hb=>by
  rw[qby];rcases qao.mp hb with rfl|hb
  ·exact qca _
  ·rcases qao.mp hb with rfl|hb
   ·exact qbN hlt
   ·cases hb
 rcases hq with hq|hq
 ·obtain⟨its,rv,pl,_⟩:=I.list hq;have hl:=pl.isList;have hlt:a<s.heap.objs.size:=by obtain⟨_,e,_⟩:=hl;exact qap e
  exact wpAny_pyIter_list hl (h its _ _ _ rv (Walks.list hh _ a (qaG hlt) its.toArray) ⟨⟨_,qar _ rfl,rfl,rfl⟩,hl.push _⟩ (sz _ hlt) (fun b o e=>qad _ e) rfl)
 ·obtain⟨its,rv,hl,_⟩:=I.tuple hq;have hlt:a<s.heap.objs.size:=by obtain⟨_,e,_⟩:=hl;exact qap e
  exact wpAny_pyIter_tuple hl (h its _ _ _ rv (Walks.tuple hh _ a (qaG hlt) its.toArray) ⟨⟨_,qar _ rfl,rfl,rfl⟩,hl.push _⟩ (sz _ hlt) (fun b o e=>qad _ e) rfl)
def wz{s:Shared}{h2 h':Heap}{It:Addr}(k1:∀b o,s.heap.get? b=some o->h2.get? b=some o)(e:s.heap.objs.size=It)(k2:∀b o,b∉[It]->h2.get? b=some o->h'.get? b=some o):∀b o,s.heap.get? b=some o->h'.get? b=some o:=fun b o q=>by
 refine k2 b o (fun hm=>?_) (k1 b o q)
 have:b=It:=by simpa using hm
 exact absurd (qap q) (by rw[this,e];exact qaU _)
def my:List PV->Option (List Bool)
 | []=>some []
 | .bl b::r=>(my r).map (b::·)
 | _=>none
def fc:List PV->Option (List Int)
 | []=>some []
 | .int i::r=>(fc r).map (i::·)
 | _=>none
def bls_rel{K:qab}{ρ:List Addr}{H:Hp}:∀{xs:List PV} {ys:List V} {bs:List Bool} {us:List Value},RPs K ρ H xs ys->aB ys us->my xs=some bs->us=bs.map Value.bool:=by
 intro xs
 induction xs with
 | nil=>intro ys bs us r v e;cases r;cases v;cases e;rfl
 | cons x xs ih =>
  intro ys bs us r v e
  cases r with
  | cons r1 r2 =>
   cases v with
   | cons v1 v2 =>
    cases r1 with
    | bl b =>
     simp only[my,qaD] at e;obtain⟨bs',e',rfl⟩:=e;rw[ih r2 v2 e',show _=Value.bool b from v1];rfl
    | _=>cases e
def rD{K:qab}{ρ:List Addr}{H:Hp}:∀{xs:List PV} {ys:List V} {is:List Int} {us:List Value},RPs K ρ H xs ys->aB ys us->fc xs=some is->us.length=is.length/\∀(i:Nat) (u:Value),us[i]?=some u->∃t,u=.int (is.getD i 0) t:=by
 intro xs
 induction xs with
 | nil=>intro ys is us r v e;cases r;cases v;cases e;exact⟨rfl,fun i u h=>by simp at h⟩
 | cons x xs ih =>
  intro ys is us r v e
  cases r with
  | cons r1 r2 =>
   cases v with
   | cons v1 v2 =>
    cases r1 with
    | int b =>
     simp only[fc,qaD] at e;obtain⟨is',e',rfl⟩:=e;obtain⟨a,b'⟩:=ih r2 v2 e';obtain⟨t0,rfl⟩:=v1;refine⟨by simp[a],fun i u h=>?_⟩
     cases i with
     | zero=>simp at h;exact⟨t0,by rw[<-h];rfl⟩
     | succ i=>obtain⟨t,e⟩:=b' i u (by simpa using h);exact⟨t,by rw[e];simp⟩
    | _=>cases e
def t9(bs:List Bool):TruthOf X.prog X.w A (fun i v=>(bs.map Value.bool).toArray[i]?=some v) (fun i=>bs.getD i false):=fun i v s Q E hP hQ=>by
 have:v=.bool (bs.getD i false):=by
  have hP:(List.map Value.bool bs).toArray[i]?=some v:=hP;rw[qaY,qaz,qaD] at hP;obtain⟨b,e,rfl⟩:=hP;rw[List.getD_eq_getElem?_getD,e];rfl
 subst this;exact wpAny_truthy_bool hQ
def wY(bs:List Bool):(List.range bs.length).all (fun i=>bs.getD i false)=bs.all id:=by
 induction bs with
 | nil=>rfl
 | cons b r ih =>
  rw[qaQ,qcv,qcG,List.all_map,qcG,<-ih];rfl
def fAll(xs:List PV)(h:MH):Out PV:=match xs with
 | [x]=>(match (bU h x).bind my with
  | some bs=>.ok (.bl (bs.all id)) h
  | none=>.bad)
 | _=>.bad
def cj_all(g:Good X N W G k):cH X (.builtin "all") fAll:=by
 intro Ie s σ H xs us Q I r ⟨ρ,h,ps,rh,rp,q⟩
 cases rp with
 | nil=>exact q.elim
 | cons r1 t1 =>
  cases t1 with
  | cons _ _=>exact q.elim
  | nil =>
   rename_i x y
   unfold fAll at q
   cases es:(bU h x).bind my with
   | none=>simp only[es] at q;exact q.elim
   | some bs =>
    simp only[es] at q;obtain⟨ys,e1,e2⟩:=qaT.mp es;obtain⟨a,zs,rfl,hsq,rzs⟩:=ip rh r1 e1
    cases r with
    | cons ru tu =>
     cases tu;cases ru;refine call_all_walk (mQ (A:=X.A.in1) g.room.hd I hsq fun its h2 It St rv Wk st fp kp esz=>?_);have ei:=bls_rel rzs rv e2;refine⟨It,_,_,_,_,St,_,rfl,Wk,st,by rw[ei];exact t9 bs,fun h' tk kk=>?_⟩;have el:its.toArray.size=bs.length:=by rw[ei];simp
     rw[el,wY];exact⟨.bl _,H,I.kept (wz kp esz kk),rfl,q ρ H _ (Le.refl _ _) rh (.bl _)⟩
def k7(b:Nat->Nat->Bool)(is:List Int):Int:=is.getD (argBest b (is.length - 1)) 0
def fMaxS(xs:List PV)(h:MH):Out PV:=match xs with
 | [x]=>(match (bU h x).bind fc with
  | some is=>if 0<is.length then .ok (.int (k7 (fun i j=>decide (is.getD i 0>is.getD j 0)) is)) h else .bad
  | none=>.bad)
 | [.int i,.int j]=>.ok (.int (if j>i then j else i)) h
 | _=>.bad
def fMinS(xs:List PV)(h:MH):Out PV:=match xs with
 | [x]=>(match (bU h x).bind fc with
  | some is=>if 0<is.length then .ok (.int (k7 (fun i j=>decide (is.getD i 0<is.getD j 0)) is)) h else .bad
  | none=>.bad)
 | [.int i,.int j]=>.ok (.int (if j<i then j else i)) h
 | _=>.bad
def cj_maxS(g:Good X N W G k):cH X (.builtin "max") fMaxS:=by
 intro Ie s σ H xs us Q I r ⟨ρ,h,ps,rh,rp,q⟩;unfold fMaxS at q
 split at q
 ·rename_i x
  cases rp with
  | cons r1 t1 =>
  cases t1
  cases es:(bU h x).bind fc with
  | none=>simp only[es] at q;exact q.elim
  | some is =>
   simp only[es] at q;by_cases hn:0<is.length
   ·rw[qai hn] at q;obtain⟨ys,e1,e2⟩:=qaT.mp es;obtain⟨a,zs,rfl,hsq,rzs⟩:=ip rh r1 e1
    cases r with
    | cons ru tu =>
     cases tu;cases ru;refine call_max_walk (mQ (A:=X.A.in1) g.room.hd I hsq fun its h2 It St rv Wk st fp kp esz=>?_);obtain⟨el,ei⟩:=rD rzs rv e2;have el':its.toArray.size=is.length:=by rw[qak];exact el
     refine⟨It,_,_,_,_,St,_,rfl,Wk,st,fp,by rw[el'];exact hn,CmpOf.ints_gt (fun i=>is.getD i 0) (fun i v hv=>ei i v (by simpa using hv)),fun v h' tk hP kk=>?_⟩;have hP':its.toArray[argBest _ (its.toArray.size - 1)]?=some v:=hP;rw[el',qaY] at hP';obtain⟨t,rfl⟩:=ei _ v hP';exact⟨.int _,H,I.kept (wz kp esz kk),⟨t,rfl⟩,q ρ H _ (Le.refl _ _) rh (.int _)⟩
   ·rw[qal hn] at q;exact q.elim
 ·cases rp with
  | cons r1 t1 =>
   cases t1 with
   | cons r2 t2 =>
    cases t2;cases r1;cases r2;exact o8 g.calm Ie s σ H _ us Q I r ⟨_,_,rfl,q ρ H _ (Le.refl _ _) rh (.int _)⟩
 ·exact q.elim
def cj_minS(g:Good X N W G k):cH X (.builtin "min") fMinS:=by
 intro Ie s σ H xs us Q I r ⟨ρ,h,ps,rh,rp,q⟩;unfold fMinS at q
 split at q
 ·rename_i x
  cases rp with
  | cons r1 t1 =>
  cases t1
  cases es:(bU h x).bind fc with
  | none=>simp only[es] at q;exact q.elim
  | some is =>
   simp only[es] at q;by_cases hn:0<is.length
   ·rw[qai hn] at q;obtain⟨ys,e1,e2⟩:=qaT.mp es;obtain⟨a,zs,rfl,hsq,rzs⟩:=ip rh r1 e1
    cases r with
    | cons ru tu =>
     cases tu;cases ru;refine call_min_walk (mQ (A:=X.A.in1) g.room.hd I hsq fun its h2 It St rv Wk st fp kp esz=>?_);obtain⟨el,ei⟩:=rD rzs rv e2;have el':its.toArray.size=is.length:=by rw[qak];exact el
     refine⟨It,_,_,_,_,St,_,rfl,Wk,st,fp,by rw[el'];exact hn,CmpOf.ints_lt (fun i=>is.getD i 0) (fun i v hv=>ei i v (by simpa using hv)),fun v h' tk hP kk=>?_⟩;have hP':its.toArray[argBest _ (its.toArray.size - 1)]?=some v:=hP;rw[el',qaY] at hP';obtain⟨t,rfl⟩:=ei _ v hP';exact⟨.int _,H,I.kept (wz kp esz kk),⟨t,rfl⟩,q ρ H _ (Le.refl _ _) rh (.int _)⟩
   ·rw[qal hn] at q;exact q.elim
 ·cases rp with
  | cons r1 t1 =>
   cases t1 with
   | cons r2 t2 =>
    cases t2;cases r1;cases r2;exact pC g.calm Ie s σ H _ us Q I r ⟨_,_,rfl,q ρ H _ (Le.refl _ _) rh (.int _)⟩
 ·exact q.elim
end
def RH.loose{K:qab}{mg:MGl}{ρ:List Addr}{H:Hp}{h:MH}(r:RH K mg ρ H h){p:Addr}(hp:H p=none)(ho:HO):RH K mg ρ (upd H p ho) h/\Le ρ H ρ (upd H p ho):=by
 have hne:∀n a,ρ[n]?=some a->a≠p:=fun n a e z=>by
  obtain⟨o',_,q⟩:=r.obj e;rw[z,hp] at q;exact q.some rfl
 have l:Le ρ H ρ (upd H p ho):=⟨⟨[],by simp⟩,fun a xs e=>by rw[aU (bA e hp)];exact e,fun a ob u e=>by rw[aU (bA e hp)];exact e⟩;exact⟨⟨r.len,r.nd,fun n a o e1 e2=>by rw[aU (hne n a e1)];exact (r.at' n a o e1 e2).le l⟩,l⟩
section
variable {X:Cx} {N W G:List Str} {k:Nat}
def kg(xs:List PV)(i:Int)(v:PV):List PV :=
 let k:=if i<0 then (i+(xs.length:Int)).toNat else min i.toNat xs.length
 xs.take k++v::xs.drop k
def io(n:Nat)(vs:List PV)(h:MH):Out PV:=match vs with
 | [.int i,v]=>(match h[n]? with
  | some (.lst xs)=>if (-(2 ^ 63)<=i/\i<2 ^ 63)/\xs.length<sizeLine then .ok .non (h.set n (.lst (kg xs i v))) else .bad
  | _=>.bad)
 | _=>.bad
def xJ:MtR X "list.insert" (mtJ X io):=by
 intro Ie s σ H x vs v us Q I rx rv ⟨ρ,h,n,a,ps,e,en,rh,rp,q⟩;subst e;obtain⟨o,eo,ro⟩:=rh.obj en;unfold io at q
 split at q
 ·rename_i i vv
  cases rp with
  | cons r1 t1 =>
   cases t1 with
   | cons r2 t2 =>
    cases t2;cases r1;rw[eo] at q
    cases o with
    | lst xs =>
     dsimp only at q;by_cases hl:(-(2 ^ 63)<=i/\i<2 ^ 63)/\xs.length<sizeLine
     ·rw[qai hl] at q;obtain⟨ys,ey,ry⟩:=ro;cases rx
      cases rv with
      | cons rv1 tv1=>cases tv1 with
       | cons rv2 tv2 =>
        cases tv2
        rename_i v' u1 u2
        obtain⟨t,rfl⟩:=rv1;obtain⟨z,its,nn,r,hlen,e⟩:=I.lstM ey
        let kk:=if i<0 then (i+(its.length:Int)).toNat else min i.toNat its.length
        have rel:RPs X.K ρ H (kg xs i vv) (ys.take kk++v'::ys.drop kk):=by
         have:(if i<0 then (i+(xs.length:Int)).toNat else min i.toNat xs.length)=kk:=by
          show _=(if i<0 then (i+(its.length:Int)).toNat else min i.toNat its.length);rw[ry.length,hlen]
         unfold kg;rw[this];exact (ry.take kk).append (.cons r2 (ry.drop kk))
        obtain⟨rh',l'⟩:=rh.put en (o:=.lst (kg xs i vv)) (ho:=.lst (ys.take kk++v'::ys.drop kk)) ⟨_,rfl,rel⟩;refine call_meets PySem.F.slot_list_insert ⟨_,e,rfl⟩ PySem.F.entry_list_insert (PySem.F.args_list_insert_3 _ _ _) (AutoListH.list_insert_list_int_val_1 a its.toArray nn i t u2 (by rw[fitsIndex_both hl.1.1 hl.1.2];simp) (by rw[qak];ext)) ⟨e,?_⟩;have vals:aB (ys.take kk++v'::ys.drop kk) (its.take kk++u2::its.drop kk):=(r.take kk).append (.cons rv2 (r.drop kk));have hlz:(ys.take kk++v'::ys.drop kk).length<=sizeLine:=by
         rw[<-rel.length];have e1:(kg xs i vv).length=xs.length+1:=by
          unfold kg;simp only[qaR,qaQ,qbS,qbu];ext
         ext
        refine⟨.non,_,I.lset (its':=its.take kk++u2::its.drop kk) ey e ?_ vals hlz,rfl,q ρ _ .non l' rh' .non⟩;apply Array.ext';simp only[qaV,qbb,qbz,qak];simp[kk,List.extract];refine qbr ?_;rw[qbu];exact qah _
     ·rw[qal hl] at q;exact q.elim
    | _=>exact q.elim
 ·exact q.elim
def me_isiT(g:Good X N W G k){a:Expr}{m:Mx PV}{T T':String}{c c':Str}{i j j':Nat}{p q q' pos pt:Pos}{kt}(hi:G[i]?=some "isinstance")(hm:X.mg "isinstance"=none)(hj:G[j]?=some c)(hc:X.mg c=none)(hv:bootBuiltins c=some (.type T))(hT:okT T)
  (hj':G[j']?=some c') (hc':X.mg c'=none) (hv':bootBuiltins c'=some (.type T')) (hT':okT T') (ha:ME X a m)
  (he:starEach [a,.Tuple [.Name c q,.Name c' q'] kt pt] X.env=(false,eval a X.env)::starEach [.Tuple [.Name c q,.Name c' q'] kt pt] X.env:=by rfl) (he2:starEach [.Tuple [.Name c q,.Name c' q'] kt pt] X.env=[(false,eval (.Tuple [.Name c q,.Name c' q'] kt pt) X.env)]:=by rfl) (hpl:(backTo pos (starEach [.Tuple [.Name c q,.Name c' q'] kt pt] X.env)).any (·.1)=false:=by rfl)
  (ht1:starEach [.Name c q,.Name c' q'] X.env=(false,eval (.Name c q) X.env)::starEach [.Name c' q'] X.env:=by rfl) (ht2:starEach [.Name c' q'] X.env=[(false,eval (.Name c' q') X.env)]:=by rfl) :
  ME X (.Call (.Name "isinstance" p) [a,.Tuple [.Name c q,.Name c' q'] kt pt] [] pos) (mUn (cz [T,T']) m):=by
 have d1:=g.dbg _ (qaf _ (av hi));have d:=g.dbg c (qaf _ (av hj));have d':=g.dbg c' (qaf _ (av hj'));have hcall:bZ X (.builtin "isinstance") (fun xs H Q=>∃x' tp,xs=[x',.ref tp]/\SqT X.K H tp [.ty T,.ty T']/\uJ X (cz [T,T']) x' H Q):=by
  intro Ie s σ H xs us Q I r ⟨x',tp,e,hsq,ρ,h,x,rh,rx,q⟩;subst e
  cases r with
  | cons r1 t1=>cases t1 with
   | cons r2 t2 =>
    cases t2;cases r2;obtain⟨its,rv,ht,_⟩:=I.tuple hsq;have ei:its=[.type T,.type T']:=by
     cases rv with
     | cons v1 w1=>cases w1 with
      | cons v2 w2 =>
       cases w2;rw[show _=Value.type T from v1,show _=Value.type T' from v2]
    subst ei;obtain⟨⟨oc,od,odt,osl⟩,ho,hoc,nn,hod⟩:=ht;dsimp only at hoc hod;subst hoc;subst hod;unfold cz at q
    cases et:tyP h x with
    | none=>rw[et] at q;exact q.elim
    | some t =>
     rw[et] at q;obtain⟨htm,hne,Hq,Z,hz⟩:=lE I rh rx r1 et;have hany:PySem.W.kitAny X.K (.type t) [.type T,.type T']=some (bH t T || bH t T'):=by
      unfold PySem.W.kitAny;rw[hT X.K t htm]
      cases bH t T with
      | true=>rfl
      | false =>
       unfold PySem.W.kitAny;rw[hT' X.K t htm];cases bH t T' <;> rfl
     exact PySem.W.kia_tup Z I.kIn hz ho hany hne fun tk=>⟨.bl _,H,I.tok _,rfl,by
      have q':=q ρ H _ (Le.refl _ _) rh (.bl _)
      simpa using q'⟩
 refine PE.imp (dN hcall (g.gl _ (av hi)) hm PyProof.Rows.Boot.«isinstance» (bI ha (bI (tT (bI (kX (v:=.ty T) (u:=.type T) (g.gl c (av hj)) hc hv rfl d.2.2 d.1) (bI (kX (v:=.ty T') (u:=.type T') (g.gl c' (av hj')) hc' hv' rfl d'.2.2 d'.1) dB ht2) ht1)) dB he2) he) d1.2.2 d1.1 he hpl) fun σ H Q ⟨ρ,σp,h,rs,rh,q⟩=>?_;refine⟨ρ,σp,h,rs,rh,Ful.bind q fun ρ1 H1 x x' h1 _ l1 rh1 rx q1=>?_⟩;refine⟨by show 2<=sizeLine;decide,fun tp htp=>?_⟩;obtain⟨rh2,l2⟩:=rh1.tup htp [.ty T,.ty T'];exact⟨x',tp,rfl,SqT.of br,ρ1,h1,x,rh2,rx.le l2,(Ful.le l2 q1).zero⟩
def me_glI(g:Good X N W G k){x:Str}{j:Nat}{i:Int}{pos:Pos}(hj:G[j]?=some x)(hm:∃t,X.mg x=some (.int i t)):ME X (.Name x pos) (mC (.int i)):=by
 obtain⟨t,hm⟩:=hm;have d:=g.dbg x (qaf _ (av hj));exact PE.imp (oG (v:=.int i) (g.gl x (av hj)) hm ⟨t,rfl⟩ d.1) fun σ H Q ⟨ρ,σp,h,rs,rh,q⟩=>q ρ H _ (Le.refl _ _) rh (.int _)
def tRng1(ta:TA):TE:=fun σ H Q=>ta σ H fun vs H1=>∃j:Int,vs=[.int j] /\ -(2 ^ 62)<=j/\j<2 ^ 62/\∀p,H1 p=none->Q (.ref p) (upd H1 p (.rng 0 j))
def xq(hg:Gl X "range")(hm:X.mg "range"=none)(ha:PA X [a] ta)(hs:starEach [a] X.env=[(false,eval a X.env)]:=by rfl):PE X (.Call (.Name "range" p) [a] [] pos) (tRng1 ta):=by
 intro Ie s σ H R I h;refine Call_ (gF I hg hm boot_range (PyProof.Rows.callWith_type1 (thn (ha pos Ie s σ H _ I h) fun us s1 ⟨vs,H1,I1,r1,q1⟩=>?_) hs rfl));obtain⟨j,e,q1,q2,q⟩:=q1;subst e
 cases r1 with
 | cons r rr =>
  cases rr;obtain⟨t,rfl⟩:=r;refine call_range_1 ⟨.ref s1.heap.objs.size,_,I1.laid (o:=.rng 0 j) (fun b o e=>qad _ e) (qah _) ?_,rfl,q _ (I1.hok.fresh (qah _))⟩;exact⟨_,_,_,qar _ rfl⟩
def mZ:∀(n:Nat) (lo:Int) (us:List Value),us.length=n->(∀(i:Nat) (v:Value),us[i]?=some v->∃t,v=.int (lo+i) t)->aB ((List.range n).map fun i=>V.int (lo+(i:Nat))) us
 | 0,lo,us,hl,_=>by cases us with | nil=>exact .nil | cons _ _=>simp at hl
 | n+1,lo,us,hl,h=>by
  cases us with
  | nil=>simp at hl
  | cons u us =>
   rw[qcv,qaL,qbF];obtain⟨t,e⟩:=h 0 u rfl;refine .cons ⟨t,e⟩ ?_;have ih:=mZ n (lo+1) us (by simpa using hl) fun i v hv=>by
    obtain⟨t,e⟩:=h (i+1) v (by simpa using hv);exact⟨t,by rw[e];congr 1;push_cast;ext⟩
   have e2:((fun i=>V.int (lo+((i:Nat):Int)))∘Nat.succ)=fun i=>V.int (lo+1+((i:Nat):Int)):=by
    funext i;simp only[Function.comp];congr 1;push_cast;ext
   rw[e2];exact ih
def qu(hh:X.calm=true):bZ X (.type "list") (fun xs H Q=>∃r j,xs=[.ref r]/\H r=some (.rng 0 j) /\ -(2 ^ 62)<=j/\j<2 ^ 62/\j.toNat<=sizeLine/\∀l,H l=none->Q (.ref l) (upd H l (.lst ((List.range j.toNat).map fun i=>V.int (0+(i:Nat)))))):=by
 intro Ie s σ H xs us Q I r ⟨ra,j,e,hr,h1,h2,h3,q⟩;subst e
 cases r with
 | cons r1 t1 =>
  cases t1;cases r1;obtain⟨t,u,v,ho⟩:=(show ObjOk X.prog X.w H s.heap ra (.rng 0 j) from I.hok ra _ hr);refine call_list_range (n:=j.toNat) (I.ok.hd hh) ho (small_one (by ext) (by ext) h1 h2) (by rw[rangeSize_one];split <;> ext) h3 fun h' tk acc' c' kp e it=>?_;have va:aB ((List.range j.toNat).map fun i=>V.int (0+(i:Nat))) acc'.toList:=mZ _ 0 _ (by rw[qas];exact it.1) fun i v hv=>by
   obtain⟨t,e⟩:=it.2 i v (by rw[<-qaq];exact hv);exact⟨t,by rw[e];congr 1;ext⟩
  refine⟨.ref s.heap.objs.size,_,I.laid (o:=.lst _) kp (qah _) (show ObjOk X.prog X.w _ h' _ (.lst _) from⟨by simpa using h3,acc'.toList,c',va,by simpa using e⟩),rfl,q _ (I.hok.fresh (qah _))⟩
def mLR(m:Mx (List PV)):Mx PV:=fun σ h=>(m σ h).bind fun vs h1=>match vs with
 | [.int j]=>if -(2 ^ 62)<=j/\j<2 ^ 62/\j.toNat<=sizeLine then .ok (.loc h1.length) (h1++[.lst (bq 0 j.toNat)]) else .bad
 | _=>.bad
def pG{K:qab}{ρ:List Addr}{H:Hp}{lo:Int}:∀(l:List Nat),RPs K ρ H (l.map fun (i:Nat)=>PV.int (lo+(i:Int))) (l.map fun (i:Nat)=>V.int (lo+(i:Int)))
 | []=>.nil
 | i::l=>.cons (.int _) (pG l)
def Ag(g:Good X N W G k){a:Expr}{m:Mx (List PV)}{i j:Nat}{p p' pos pos':Pos}(hi:G[i]?=some "list")(hm:X.mg "list"=none)(hj:G[j]?=some "range")(hm':X.mg "range"=none)(ha:MA X [a] m)
  (hs:starEach [a] X.env=[(false,eval a X.env)]:=by rfl) (he:starEach [.Call (.Name "range" p') [a] [] pos'] X.env=[(false,eval (.Call (.Name "range" p') [a] [] pos') X.env)]:=by rfl):ME X (.Call (.Name "list" p) [.Call (.Name "range" p') [a] [] pos'] [] pos) (mLR m):=by
 have d:=g.dbg _ (qaf _ (av hi));refine PE.imp (kA (qu g.calm) (g.gl _ (av hi)) hm PyProof.Rows.Boot.«list» (bI (xq (g.gl _ (av hj)) hm' ha hs) dB he) d.2.2 d.1 he rfl) fun σ H Q ⟨ρ,σp,h,rs,rh,q⟩=>?_;refine⟨ρ,σp,h,rs,rh,Ful.bind q fun ρ1 H1 x x' h1 _ l1 rh1 rx q1=>?_⟩
 cases rx with
 | nil=>exact q1.elim
 | cons r1 t1 =>
  cases t1 with
  | cons _ _=>cases r1 <;> exact q1.elim
  | nil =>
   cases r1 with
   | int jj =>
    dsimp only at q1;by_cases z:-(2 ^ 62)<=jj/\jj<2 ^ 62/\jj.toNat<=sizeLine
    ·rw[qai z] at q1;refine⟨jj,rfl,z.1,z.2.1,fun r hr=>?_⟩;obtain⟨rh2,l2⟩:=rh1.loose hr (.rng 0 jj);refine⟨r,jj,rfl,br,z.1,z.2.1,z.2.2,fun l hl=>?_⟩;obtain⟨rh3,l3⟩:=rh2.new hl (o:=.lst (bq 0 jj.toNat)) (ho:=.lst _) ⟨_,rfl,pG _⟩;exact q1 _ _ _ (l2.trans l3) rh3 (.loc (by rw[<-rh1.len];simp))
    ·rw[qal z] at q1;exact q1.elim
   | _=>exact q1.elim
end
end MM
namespace SetT
open PySem PySem.SetTable
def dQ(xs:Array Nat):Prop:=∀a b u v:Nat,a<b->xs[a]?=some u->xs[b]?=some v->u<v
def zR(xs:Array Nat)(j:Nat)(hr:dQ xs):∀fuel lo hi:Nat,hi - lo<=fuel->lo<=hi->hi<=xs.size ->
  (∀a v,xs[a]?=some v->a<lo->v<j)->(∀a v,xs[a]?=some v->hi<=a->j<=v) ->
  below.go xs j fuel lo hi<=xs.size/\(∀a v,xs[a]?=some v->a<below.go xs j fuel lo hi->v<j) /\
   (∀a v,xs[a]?=some v->below.go xs j fuel lo hi<=a->j<=v):=by
 intro fuel
 induction fuel with
 | zero =>
  intro lo hi h1 h2 h3 h4 h5
  have:lo=hi:=by lia
  subst this;exact⟨h3,h4,h5⟩
 | succ f ih =>
  intro lo hi h1 h2 h3 h4 h5;unfold below.go;by_cases hlt:lo<hi
  ·simp only[hlt,if_true];have hm:(lo+hi) / 2<xs.size:=by lia
   have hg:xs[(lo+hi) / 2]?=some (xs[(lo+hi)/2]'hm):=qbf hm;have hd:xs.getD ((lo+hi) / 2) j=xs[(lo+hi)/2]'hm:=by simp[Array.getD,hm]
   rw[hd];by_cases hc:xs[(lo+hi)/2]'hm<j
   ·simp only[hc,if_true];apply ih
    ·lia
    ·lia
    ·lia
    ·intro a v ha hlt';by_cases he:a=(lo+hi) / 2
     ·subst he;rw[hg] at ha;cases ha;exact hc
     ·have:=hr a ((lo+hi)/2) v _ (by lia) ha hg;lia
    ·exact h5
   ·simp only[hc,if_false];apply ih
    ·lia
    ·lia
    ·lia
    ·exact h4
    ·intro a v ha hle;by_cases he:a=(lo+hi) / 2
     ·subst he;rw[hg] at ha;cases ha;lia
     ·have:=hr ((lo+hi)/2) a _ v (by lia) hg ha;lia
  ·simp only[hlt,if_false]
   have:lo=hi:=by lia
   subst this;exact⟨h3,h4,h5⟩
def dr(xs:Array Nat)(j:Nat)(hr:dQ xs) :
  below xs j<=xs.size/\(∀a v,xs[a]?=some v->a<below xs j->v<j)/\(∀a v,xs[a]?=some v->below xs j<=a->j<=v):=by
 unfold below;apply zR xs j hr
 ·lia
 ·lia
 ·lia
 ·intro a v _ h;lia
 ·intro a v ha h
  have:=qbs h
  rw[this] at ha;cases ha
def gE(xs:Array Nat)(i j:Nat)(hr:dQ xs)(h:xs[i]?=some j):below xs j=i:=by
 obtain⟨_,h2,h3⟩:=dr xs j hr;by_cases h4:i<below xs j
 ·have:=h2 i j h h4;lia
 ·by_cases h5:below xs j=i
  ·exact h5
  ·have hlt:below xs j<i:=by lia
   have hs:i<xs.size:=by
    by_cases h6:i<xs.size
    ·exact h6
    ·rw[qbs (by lia)] at h;cases h
   have hg:xs[below xs j]?=some (xs[below xs j]'(by lia)):=qbf (by lia);have h7:=hr _ i _ j hlt hg h;have h8:=h3 _ _ hg (qah _);lia
def Occ(pl:Array Nat)(s:Nat):Prop:=∃i:Nat,pl[i]?=some s
def vi(j:Nat):has (#[]:Array Nat) j=false:=by
 unfold has;simp
def pk(t:SetTable)(hr:dQ t.place)(i s:Nat)(h:t.place[i]?=some s):t.slot s=.live i:=by
 unfold SetTable.slot;simp only[gE t.place i s hr h,h];simp
def wK(t:SetTable)(hd:t.dummies=#[])(s:Nat)(h:¬Occ t.place s):t.slot s=.empty:=by
 unfold SetTable.slot;simp only[hd,vi];split
 ·rename_i h1
  exact absurd ⟨_,by simpa using h1⟩ h
 ·simp
def cf(xs:Array α)(p:Nat)(x:α)(hp:p<=xs.size)(i:Nat) :
  (insertAt xs p x)[i]?=if i<p then xs[i]? else if i=p then some x else xs[i - 1]?:=by
 unfold insertAt;have e1:(xs.extract 0 p).size=p:=by simp;lia
 rw[Array.getElem?_append];simp only[qbn,e1];split
 ·rename_i h1
  rw[Array.getElem?_push];simp only[e1];split
  ·rename_i h2;subst h2;simp
  ·rename_i h2
   have:i<p:=by lia
   simp only[this,if_true];rw[qbt];simp;lia
 ·rename_i h1
  have h2:¬i<p:=by lia
  have h3:¬i=p:=by lia
  simp only[h2,h3,if_false];rw[qbt];have e2:p+(i - (p+1))=i - 1:=by lia
  simp only[e2];split
  ·rfl
  ·rename_i h4
   rw[qbs];simp at h4;lia
def cP(xs:Array α)(p:Nat)(x:α)(hp:p<=xs.size):(insertAt xs p x).size=xs.size+1:=by
 unfold insertAt;simp;lia
def sd(f:α->β)(xs:Array α)(p:Nat)(x:α):(insertAt xs p x).map f=insertAt (xs.map f) p (f x):=by
 unfold insertAt;simp[Array.map_append,Array.map_push,Array.map_extract]
def m4(x M:Nat):x % (M+1)<=M:=Nat.le_of_lt_succ (Nat.mod_lt x (Nat.succ_pos M))
def adv(M:Nat)(p:Probe):Probe :=
 if p.more>0 then { p with j:=p.j+1,more:=p.more - 1} else
 { p with j:=(leap M p.i p.perturb).1,more:=runEnd M (leap M p.i p.perturb).1 - (leap M p.i p.perturb).1,i:=(leap M p.i p.perturb).1,perturb:=(leap M p.i p.perturb).2}
def vS(t:SetTable)(p:Probe):t.advance p=adv t.mask p:=by
 unfold SetTable.advance adv;rfl
def st0(M:Nat)(h:Int):Probe:={ j:=bits h % (M+1),more:=runEnd M (bits h % (M+1)) - bits h % (M+1),i:=bits h % (M+1),perturb:=bits h,dummy:=none}
def st(M:Nat)(h:Int):Nat->Probe
 | 0=>st0 M h
 | n+1=>adv M (st M h n)
def sl(M:Nat)(h:Int)(n:Nat):Nat:=(st M h n).j
def fe(M i:Nat)(h:i<=M):i<=runEnd M i/\runEnd M i<=M/\runEnd M i - i<=9:=by
 unfold runEnd;split <;> lia
def yo(M:Nat)(h:Int)(n:Nat):(st M h n).i<=M/\(st M h n).j+(st M h n).more=runEnd M (st M h n).i/\(st M h n).dummy=none:=by
 induction n with
 | zero =>
  have hi:bits h % (M+1)<=M:=m4 _ _
  have:=fe M _ hi
  refine⟨hi,?_,rfl⟩;show bits h % (M+1)+(runEnd M (bits h % (M+1)) - bits h % (M+1))=runEnd M (bits h % (M+1));lia
 | succ n ih =>
  show (adv M (st M h n)).i<=M/\(adv M (st M h n)).j+(adv M (st M h n)).more=runEnd M (adv M (st M h n)).i/\(adv M (st M h n)).dummy=none;unfold adv;split
  ·refine⟨ih.1,?_,ih.2.2⟩
   have:=ih.2.1
   show (st M h n).j+1+((st M h n).more - 1)=runEnd M (st M h n).i;lia
  ·have hi:(leap M (st M h n).i (st M h n).perturb).1<=M:=m4 _ _
   have:=fe M _ hi
   refine⟨hi,?_,ih.2.2⟩;show (leap M (st M h n).i (st M h n).perturb).1+(runEnd M (leap M (st M h n).i (st M h n).perturb).1 - (leap M (st M h n).i (st M h n).perturb).1)=runEnd M (leap M (st M h n).i (st M h n).perturb).1;lia
def sl_le(M:Nat)(h:Int)(n:Nat):sl M h n<=M:=by
 have:=yo M h n
 have h2:=fe M _ this.1;unfold sl;lia
def base(M:Nat)(h:Int):Nat->Nat × Nat
 | 0=>(bits h % (M+1),bits h)
 | b+1=>leap M (base M h b).1 (base M h b).2
def oR(M:Nat)(h:Int)(b:Nat):(base M h b).1<=M:=by
 cases b with
 | zero=>exact m4 _ _
 | succ b =>
  exact m4 _ _
def tb(M:Nat)(h:Int):Nat->Nat
 | 0=>0
 | b+1=>tb M h b+(runEnd M (base M h b).1 - (base M h b).1)+1
def tb_le(M:Nat)(h:Int)(b:Nat):tb M h b<=10 * b:=by
 induction b with
 | zero=>exact qah _
 | succ b ih =>
  have:=fe M _ (oR M h b)
  show tb M h b+(runEnd M (base M h b).1 - (base M h b).1)+1<=10 * (b+1);lia
def stB(M:Nat)(h:Int)(b k:Nat):Probe :=
 { j:=(base M h b).1+k,more:=runEnd M (base M h b).1 - (base M h b).1 - k,i:=(base M h b).1,perturb:=(base M h b).2,dummy:=none}
def sg(M:Nat)(h:Int)(b:Nat):∀k,k<=runEnd M (base M h b).1 - (base M h b).1->st M h (tb M h b+k)=stB M h b k:=by
 induction b with
 | zero =>
  intro k
  induction k with
  | zero=>intro _;rfl
  | succ k ih =>
   intro hk;show adv M (st M h (tb M h 0+k))=_;rw[ih (by lia)];unfold adv stB
   have:runEnd M (base M h 0).1 - (base M h 0).1 - k>0:=by lia
   simp only[this,if_true];simp only[Probe.mk.injEq,and_true];lia
 | succ b ihb =>
  intro k
  induction k with
  | zero =>
   intro _;show adv M (st M h (tb M h b+(runEnd M (base M h b).1 - (base M h b).1)))=_;rw[ihb _ (qah _)];unfold adv stB;simp;exact⟨rfl,rfl,rfl,rfl⟩
  | succ k ih =>
   intro hk;show adv M (st M h (tb M h (b+1)+k))=_;rw[ih (by lia)];unfold adv stB
   have:runEnd M (base M h (b+1)).1 - (base M h (b+1)).1 - k>0:=by lia
   simp only[this,if_true];simp only[Probe.mk.injEq,and_true];lia
def bits_lt(h:Int):bits h<2 ^ 64:=by
 unfold bits;have h1:0<=h % (2^64:Int):=qcB _ (by decide);have h2:h % (2^64:Int)<2^64:=qcm _ (by decide);lia
def xo(M:Nat)(h:Int):∀b,(base M h b).2=bits h / 32 ^ b:=by
 intro b
 induction b with
 | zero=>simp[base]
 | succ b ih =>
  show (base M h b).2 / 32=_;rw[ih,Nat.div_div_eq_div_mul,Nat.pow_succ]
def vC(M:Nat)(h:Int)(b:Nat)(hb:13<=b):(base M h b).2=0:=by
 rw[xo];apply Nat.div_eq_of_lt;have h1:=bits_lt h;have h2:32 ^ 13<=32 ^ b:=Nat.pow_le_pow_right (by decide) hb;have h3:(2:Nat)^64<32^13:=by decide
 lia
def lcg(M:Nat):Nat->Nat->Nat
 | 0,x=>x
 | n+1,x=>(lcg M n x * 5+1) % (M+1)
def yQ(M:Nat)(h:Int)(n:Nat):(base M h (13+n)).1=lcg M n (base M h 13).1:=by
 induction n with
 | zero=>rfl
 | succ n ih =>
  show ((base M h (13+n)).1 * 5+1+(base M h (13+n)).2 / 32) % (M+1)=(lcg M n (base M h 13).1 * 5+1) % (M+1);rw[ih,vC M h (13+n) (by lia)]
def ll(M:Nat)(a b x:Nat):lcg M (a+b) x=lcg M a (lcg M b x):=by
 induction a with
 | zero=>simp[lcg]
 | succ a ih=>rw[Nat.succ_add];show (lcg M (a+b) x * 5+1) % (M+1)=(lcg M a (lcg M b x) * 5+1) % (M+1);rw[ih]
def orb(M:Nat):Nat->Nat->List Nat
 | 0,_=>[]
 | n+1,x=>x::orb M n ((x * 5+1) % (M+1))
def yM(M n x:Nat):lcg M n ((x * 5+1) % (M+1))=lcg M (n+1) x:=by
 have:=ll M n 1 x
 rw[this];rfl
def uz(M:Nat)(s:Nat):∀n x,s∈orb M n x->∃m,m<n/\lcg M m x=s:=by
 intro n
 induction n with
 | zero=>intro x h;cases h
 | succ n ih =>
  intro x h
  cases h with
  | head=>exact⟨0,by lia,rfl⟩
  | tail _ h =>
   obtain⟨m,hm,e⟩:=ih _ h;exact⟨m+1,by lia,by rw[<-e,yM]⟩
def eP(M:Nat):Prop:=lcg M (M+1) 0=0/\∀s,s<=M->s∈orb M (M+1) 0
set_option maxRecDepth 100000 in
theorem full7:eP 7:=⟨by decide,by
 have:∀s:Fin 8,(orb 7 8 0).contains s.val=true:=by decide
 intro s hs;have:=this ⟨s,by lia⟩;simpa using this⟩
set_option maxRecDepth 100000 in
theorem full31:eP 31:=⟨by decide,by
 have:(List.range 32).all (fun s=>(orb 31 32 0).contains s)=true:=by decide
 intro s hs;have h2:=qcb.mp this s (by simp;lia)
 simpa using h2⟩
set_option maxRecDepth 100000 in
theorem full127:eP 127:=⟨by decide,by
 have:(List.range 128).all (fun s=>(orb 127 128 0).contains s)=true:=by decide
 intro s hs;have h2:=qcb.mp this s (by simp;lia)
 simpa using h2⟩
def yj(M:Nat)(hf:eP M)(x s:Nat)(hx:x<=M)(hs:s<=M):∃m,m<=2 * M+1/\m<=M/\lcg M m x=s:=by
 obtain⟨a,ha,ea⟩:=uz M x _ _ (hf.2 x hx);obtain⟨b,hb,eb⟩:=uz M s _ _ (hf.2 s hs);by_cases h:a<=b
 ·refine⟨b - a,by lia,by lia,?_⟩;rw[<-ea,<-ll,Nat.sub_add_cancel h];exact eb
 ·refine⟨M+1 - a+b,by lia,by lia,?_⟩;rw[<-ea,<-ll]
  have:M+1 - a+b+a=b+(M+1):=by lia
  rw[this,ll,hf.1];exact eb
def mW(M:Nat)(hf:eP M)(h:Int)(s:Nat)(hs:s<=M):∃b,b<=M+13/\(base M h b).1=s:=by
 obtain⟨m,_,hm,e⟩:=yj M hf (base M h 13).1 s (oR M h 13) hs;exact⟨13+m,by lia,by rw[yQ];exact e⟩
def zS(M:Nat)(hf:eP M)(h:Int)(s:Nat)(hs:s<=M):∃n,n<=10 * (M+13)/\sl M h n=s:=by
 obtain⟨b,hb,e⟩:=mW M hf h s hs;refine⟨tb M h b,?_,?_⟩
 ·have:=tb_le M h b;lia
 ·have:=sg M h b 0 (by lia)
  unfold sl;rw[Nat.add_zero] at this;rw[this];show (base M h b).1+0=s;lia
structure WF (M:Nat) (pl:Array Nat) (hs:Array Int):Prop where
 rise:dQ pl
 bound:∀i v:Nat,pl[i]?=some v->v<=M
 size:pl.size=hs.size
 reach:∀(i:Nat) (h:Int) (v:Nat),hs[i]?=some h->pl[i]?=some v->∃n,sl M h n=v/\∀m,m<n->Occ pl (sl M h m)
def cR{α:Type}{xs:Array α}{i:Nat}{v:α}(h:xs[i]?=some v):i<xs.size:=by
 by_cases h6:i<xs.size
 ·exact h6
 ·rw[qbs (by lia)] at h;cases h
def dh{α:Type}(xs:Array α)(i:Nat)(h:i<xs.size):∃v,xs[i]?=some v:=⟨_,qbf h⟩
def yb(pl:Array Nat)(hr:dQ pl)(M:Nat)(h:∀s,s<=M->Occ pl s):∀s i:Nat,s<=M->pl[i]?=some s->s<=i:=by
 intro s
 induction s with
 | zero=>intro i _ _;lia
 | succ s ih =>
  intro i hs hi;obtain⟨k,hk⟩:=h s (by lia);have h1:=ih k (by lia) hk;by_cases h2:k<i
  ·lia
  ·by_cases h3:k=i
   ·subst h3;rw[hk] at hi;cases hi
   ·have:=hr i k (s+1) s (by lia) hi hk;lia
def xT(pl:Array Nat)(hr:dQ pl)(M:Nat)(hsz:pl.size<=M):∃s,s<=M/\¬Occ pl s:=by
 apply Classical.byContradiction;intro hno;have hall:∀s,s<=M->Occ pl s:=by
  intro s hs;apply Classical.byContradiction;intro h;exact hno ⟨s,hs,h⟩
 obtain⟨i,hi⟩:=hall M (qah _)
 have:=yb pl hr M hall M i (qah _) hi
 have:=cR hi
 lia
def least(P:Nat->Prop):∀n,P n->∃m,m<=n/\P m/\∀k,k<m->¬P k:=by
 intro n
 induction n using Nat.strongRecOn with
 | _ n ih =>
  intro hn;by_cases h:∃k,k<n/\P k
  ·obtain⟨k,hk,hp⟩:=h;obtain⟨m,hm,r⟩:=ih k hk hp;exact⟨m,by lia,r⟩
  ·exact⟨n,qah _,hn,fun k hk hp=>h ⟨k,hk,hp⟩⟩
def vQ(pl:Array Nat)(hr:dQ pl)(M:Nat)(hf:eP M)(hsz:pl.size<=M)(h:Int) :
  ∃n,n<=10 * (M+13)/\¬Occ pl (sl M h n)/\∀m,m<n->Occ pl (sl M h m):=by
 obtain⟨s,hs,hno⟩:=xT pl hr M hsz;obtain⟨n,hn,e⟩:=zS M hf h s hs;obtain⟨m,hm,hp,hl⟩:=least (fun n=>¬Occ pl (sl M h n)) n (by rw[e];exact hno);exact⟨m,by lia,hp,fun k hk=>Classical.byContradiction (hl k hk)⟩
def yV(t:SetTable)(hd:t.dummies=#[])(hr:dQ t.place)(hashAt:Nat->Int)(h:Int)(n1:Nat)
  (hno:¬Occ t.place (sl t.mask h n1)) (hocc:∀m,m<n1->Occ t.place (sl t.mask h m)) :
  ∀fuel n,n<=n1->n1 - n<fuel ->
   (probe.go t hashAt h fuel (st t.mask h n)=some (.empty (sl t.mask h n1) none) /\
    ∀m i:Nat,n<=m->m<n1->t.place[i]?=some (sl t.mask h m)->hashAt i≠h) \/
   (∃m i:Nat,n<=m/\m<n1/\t.place[i]?=some (sl t.mask h m)/\hashAt i=h /\
    probe.go t hashAt h fuel (st t.mask h n)=some (.candidate (sl t.mask h m) i (st t.mask h (m+1))) /\
    ∀m' i':Nat,n<=m'->m'<m->t.place[i']?=some (sl t.mask h m')->hashAt i'≠h):=by
 intro fuel
 induction fuel with
 | zero=>intro n h1 h2;lia
 | succ f ih =>
  intro n h1 h2;by_cases he:n=n1
  ·subst he;left;refine⟨?_,fun m i h3 h4=>by lia⟩;unfold probe.go;have hsl:=wK t hd _ hno;unfold sl at hsl;simp only[hsl]
   have:=(yo t.mask h n).2.2
   rw[this];rfl
  ·obtain⟨i,hi⟩:=hocc n (by lia);have hsl:=pk t hr i _ hi;have hu:probe.go t hashAt h (f+1) (st t.mask h n)=if hashAt i == h then some (.candidate (sl t.mask h n) i (st t.mask h (n+1))) else probe.go t hashAt h f (st t.mask h (n+1)):=by
    conv=>lhs;unfold probe.go
    unfold sl at hsl;simp only[hsl,vS];rfl
   by_cases hh:hashAt i=h
   ·right;refine⟨n,i,qah _,by lia,hi,hh,?_,fun m' i' h3 h4=>by lia⟩;rw[hu];simp[hh]
   ·have hu2:probe.go t hashAt h (f+1) (st t.mask h n)=probe.go t hashAt h f (st t.mask h (n+1)):=by
     rw[hu];simp[hh]
    rw[hu2];have huniq:∀i':Nat,t.place[i']?=some (sl t.mask h n)->i'=i:=by
     intro i' hi';have a:=gE _ _ _ hr hi;have b:=gE _ _ _ hr hi';lia
    rcases ih (n+1) (by lia) (by lia) with ⟨r1,r2⟩|⟨m,i2,q1,q2,q3,q4,q5,q6⟩
    ·left;refine⟨r1,?_⟩;intro m i' h3 h4 h5;by_cases h6:m=n
     ·subst h6;rw[huniq i' h5];exact hh
     ·exact r2 m i' (by lia) h4 h5
    ·right;refine⟨m,i2,by lia,q2,q3,q4,q5,?_⟩;intro m' i' h3 h4 h5;by_cases h6:m'=n
     ·subst h6;rw[huniq i' h5];exact hh
     ·exact q6 m' i' (by lia) h4 h5
def oz(pl:Array Nat)(p s:Nat)(hp:p<=pl.size)(x:Nat)(h:Occ pl x):Occ (insertAt pl p s) x:=by
 obtain⟨i,hi⟩:=h;by_cases h1:i<p
 ·exact⟨i,by rw[cf _ _ _ hp];simp[h1,hi]⟩
 ·refine⟨i+1,?_⟩;rw[cf _ _ _ hp];have a:¬i+1<p:=by lia
  have b:¬i+1=p:=by lia
  simp[a,b,hi]
def ze(pl:Array Nat)(s:Nat)(hr:dQ pl)(hno:¬Occ pl s):dQ (insertAt pl (below pl s) s):=by
 obtain⟨hp,hlo,hhi⟩:=dr pl s hr;intro a b u v hab ha hb;rw[cf _ _ _ hp] at ha hb;have hne:∀i,pl[i]?≠some s:=fun i hi=>hno ⟨i,hi⟩
 split at ha
 ·rename_i h1
  have hu:=hlo a u ha h1
  split at hb
  ·exact hr a b u v hab ha hb
  ·split at hb
   ·cases hb;exact hu
   ·rename_i h2 h3
    exact hr a (b-1) u v (by lia) ha hb
 ·split at ha
  ·cases ha
   rename_i h1 h2
   have e1:¬b<below pl s:=by lia
   have e2:¬b=below pl s:=by lia
   simp only[e1,e2,if_false] at hb
   have:=hhi (b-1) v hb (by lia)
   have h4:v≠s:=fun e=>hne (b-1) (by rw[hb,e]);lia
  ·rename_i h1 h2
   have e1:¬b<below pl s:=by lia
   have e2:¬b=below pl s:=by lia
   simp only[e1,e2,if_false] at hb;exact hr (a-1) (b-1) u v (by lia) ha hb
def wf_put(M:Nat)(pl:Array Nat)(hs:Array Int)(w:WF M pl hs)(h:Int)(n:Nat)(hno:¬Occ pl (sl M h n))
  (hocc:∀m,m<n->Occ pl (sl M h m)) :
  WF M (insertAt pl (below pl (sl M h n)) (sl M h n)) (insertAt hs (below pl (sl M h n)) h):=by
 have hp:=(dr pl (sl M h n) w.rise).1;have hp2:below pl (sl M h n)<=hs.size:=by have:=w.size;lia
 refine⟨ze pl _ w.rise hno,?_,?_,?_⟩
 ·intro i v hi;rw[cf _ _ _ hp] at hi
  split at hi
  ·exact w.bound _ _ hi
  ·split at hi
   ·cases hi;exact sl_le M h n
   ·exact w.bound _ _ hi
 ·rw[cP _ _ _ hp,cP _ _ _ hp2,w.size]
 ·intro i h' v hh hv;rw[cf _ _ _ hp] at hv;rw[cf _ _ _ hp2] at hh
  split at hv
  ·rename_i h1
   simp only[h1,if_true] at hh;obtain⟨k,e,r⟩:=w.reach i h' v hh hv;exact⟨k,e,fun m hm=>oz _ _ _ hp _ (r m hm)⟩
  ·rename_i h1
   split at hv
   ·rename_i h2
    simp only[h2,if_true] at hh;cases hv;simp at hh;cases hh;exact⟨n,rfl,fun m hm=>oz _ _ _ hp _ (hocc m hm)⟩
   ·rename_i h2
    simp only[h1,h2,if_false] at hh;obtain⟨k,e,r⟩:=w.reach (i-1) h' v hh hv;exact⟨k,e,fun m hm=>oz _ _ _ hp _ (r m hm)⟩
def fy(ow:Array (Option Nat))(s:Nat):Prop:=∃i:Nat,ow[s]?=some (some i)
structure LC (M:Nat) (ow:Array (Option Nat)) (k:Nat) (hs:Array Int):Prop where
 size:ow.size=M+1
 own:∀i,i<k->∃j:Nat,ow[j]?=some (some i)
 inj:∀i j j':Nat,ow[j]?=some (some i)->ow[j']?=some (some i)->j=j'
 lt:∀j i:Nat,ow[j]?=some (some i)->i<k
 reach:∀(j i:Nat) (h:Int),ow[j]?=some (some i)->hs[i]?=some h->∃n,sl M h n=j/\∀m,m<n->fy ow (sl M h m)
def iV(ow:Array (Option Nat))(s:Nat)(hs:s<ow.size):(ow.getD s (some 0)).isNone=true↔¬fy ow s:=by
 unfold fy
 have:ow[s]?=some (ow[s]'hs):=qbf hs
 simp only[Array.getD,hs,dite_true,this]
 cases h:ow[s]'hs with
 | none=>simp[h]
 | some v=>simp[h]
def x6(M:Nat)(hf:eP M)(ow:Array (Option Nat))(hsz:ow.size=M+1)(h:Int)(s:Nat)(hs:s<=M)(hno:¬fy ow s) :
  ∀fuel b,M+13<b+fuel->(∀m,m<tb M h b->fy ow (sl M h m)) ->
   ∃n,layClean.free M ow fuel (base M h b).1 (base M h b).2=some (sl M h n)/\¬fy ow (sl M h n)/\∀m,m<n->fy ow (sl M h m):=by
 have tb_mono:∀b c,b<c->tb M h b<tb M h c:=by
  intro b c hbc
  induction c with
  | zero=>lia
  | succ c ih =>
   show tb M h b<tb M h c+(runEnd M (base M h c).1 - (base M h c).1)+1;by_cases e:b=c
   ·subst e;lia
   ·have:=ih (by lia);lia
 intro fuel
 induction fuel with
 | zero =>
  intro b hb hocc;obtain⟨b',hb',e⟩:=mW M hf h s hs;have h1:=tb_mono b' b (by lia);have h2:=hocc _ h1;have h3:=sg M h b' 0 (by lia);rw[Nat.add_zero] at h3;unfold sl at h2;rw[h3] at h2
  have:(stB M h b' 0).j=s:=by show (base M h b').1+0=s;lia
  rw[this] at h2;exact absurd h2 hno
 | succ f ih =>
  intro b hb hocc;have hbl:=oR M h b;have hre:=fe M _ hbl;have hrun:∀k,k<=runEnd M (base M h b).1 - (base M h b).1->sl M h (tb M h b+k)=(base M h b).1+k:=by
   intro k hk;unfold sl;rw[sg M h b k hk];rfl
  unfold layClean.free
  cases hfi:(List.range (runEnd M (base M h b).1+1 - (base M h b).1)).find? fun k=>(ow.getD ((base M h b).1+k) (some 0)).isNone with
  | some k =>
   rw[List.find?_range_eq_some] at hfi;obtain⟨p1,p2,p3⟩:=hfi;have hk:k<runEnd M (base M h b).1+1 - (base M h b).1:=by simpa using p2
   refine⟨tb M h b+k,?_,?_,?_⟩
   ·rw[hrun k (by lia)]
   ·rw[hrun k (by lia)];exact (iV ow _ (by lia)).mp p1
   ·intro m hm;by_cases h1:m<tb M h b
    ·exact hocc m h1
    ·have e:m=tb M h b+(m - tb M h b):=by lia
     rw[e,hrun _ (by lia)];have h2:=p3 (m - tb M h b) (by lia);have h3:=iV ow ((base M h b).1+(m - tb M h b)) (by lia);apply Classical.byContradiction;intro hc;rw[h3.mpr hc] at h2;simp at h2
  | none =>
   rw[List.find?_range_eq_none] at hfi;have hall:∀m,m<tb M h (b+1)->fy ow (sl M h m):=by
    intro m hm;by_cases h1:m<tb M h b
    ·exact hocc m h1
    ·have hm':m<tb M h b+(runEnd M (base M h b).1 - (base M h b).1)+1:=hm;have e:m=tb M h b+(m - tb M h b):=by lia
     rw[e,hrun _ (by lia)];have h2:=hfi (m - tb M h b) (by lia);have h3:=iV ow ((base M h b).1+(m - tb M h b)) (by lia);apply Classical.byContradiction;intro hc;rw[h3.mpr hc] at h2;simp at h2
   exact ih (b+1) (by lia) hall
def lc_free(M:Nat)(ow:Array (Option Nat))(k:Nat)(hs:Array Int)(c:LC M ow k hs)(hk:k<=M):∃s,s<=M/\¬fy ow s:=by
 apply Classical.byContradiction;intro hno;have hall:∀s,s<=M->fy ow s:=fun s hs=>Classical.byContradiction (fun h=>hno ⟨s,hs,h⟩);have hget:∀s,s<=M->ow[s]?=some (some ((ow.getD s none).getD 0)):=by
  intro s hs;obtain⟨i,hi⟩:=hall s hs
  have:ow.getD s none=some i:=by
   have hl:=cR hi;rw[qbf hl] at hi;simp only[Array.getD,hl,dite_true];exact Option.some.inj hi
  rw[this];exact hi
 have hnd:((List.range (M+1)).map (fun s=>(ow.getD s none).getD 0)).Nodup:=by
  unfold List.Nodup;rw[qbY];apply List.Pairwise.imp_of_mem (R:=fun a b=>a≠b) _ qct;intro a b ha hb hab e;have h1:=hget a (by simp at ha;lia);have h2:=hget b (by simp at hb;lia);rw[<-e] at h2;exact hab (c.inj _ _ _ h1 h2)
 have hsub:((List.range (M+1)).map (fun s=>(ow.getD s none).getD 0)) ⊆ List.range k:=by
  intro x hx;obtain⟨s,hs,e⟩:=qaJ.mp hx;have h1:=hget s (by simp at hs;lia)
  have:=c.lt _ _ h1
  rw[e] at this;simpa using this
 have:=List.Nodup.length_le_of_subset hnd hsub
 simp at this;lia
def lc_step(M:Nat)(hf:eP M)(ow:Array (Option Nat))(k:Nat)(hs:Array Int)(c:LC M ow k hs)(hk:k<=M)(h:Int)(hh:hs[k]?=some h) :
  ∃j,layClean.free M ow (turns M) (bits h % (M+1)) (bits h)=some j/\LC M (ow.setIfInBounds j (some k)) (k+1) hs:=by
 obtain⟨s,hs1,hs2⟩:=lc_free M ow k hs c hk;obtain⟨n,e,hno,hocc⟩:=x6 M hf ow c.size h s hs1 hs2 (turns M) 0 (by unfold turns;lia) (by intro m hm;exact absurd hm (Nat.not_lt_zero m));refine⟨sl M h n,e,?_⟩;have hj:=sl_le M h n;have hjs:sl M h n<ow.size:=by have:=c.size;lia
 have hget:∀s:Nat,(ow.setIfInBounds (sl M h n) (some k))[s]?=if s=sl M h n then some (some k) else ow[s]?:=by
  intro s;rw[qbK];by_cases e:sl M h n=s
  ·subst e;simp[hjs]
  ·have e2:¬s=sl M h n:=fun x=>e x.symm;simp[e,e2]
 have hmono:∀s,fy ow s->fy (ow.setIfInBounds (sl M h n) (some k)) s:=by
  intro s ⟨i,hi⟩;by_cases e:s=sl M h n
  ·exact⟨k,by rw[hget];simp[e]⟩
  ·exact⟨i,by rw[hget];simp[e,hi]⟩
 refine⟨by simp[c.size],?_,?_,?_,?_⟩
 ·intro i hi;by_cases e:i=k
  ·subst e;exact⟨sl M h n,by rw[hget];simp⟩
  ·obtain⟨j,hj⟩:=c.own i (by lia);refine⟨j,?_⟩;rw[hget]
   have:¬j=sl M h n:=fun e=>hno ⟨i,by rw[<-e];exact hj⟩
   simp[this,hj]
 ·intro i j j' h1 h2;rw[hget] at h1 h2;by_cases e1:j=sl M h n <;> by_cases e2:j'=sl M h n
  ·rw[e1,e2]
  ·simp[e1] at h1;simp[e2] at h2
   have:=c.lt _ _ h2;lia
  ·simp[e1] at h1;simp[e2] at h2
   have:=c.lt _ _ h1;lia
  ·simp[e1] at h1;simp[e2] at h2;exact c.inj _ _ _ h1 h2
 ·intro j i h1;rw[hget] at h1;by_cases e1:j=sl M h n
  ·simp[e1] at h1;lia
  ·simp[e1] at h1;have:=c.lt _ _ h1;lia
 ·intro j i h' h1 h2;rw[hget] at h1;by_cases e1:j=sl M h n
  ·simp[e1] at h1;subst h1;rw[hh] at h2;cases h2;exact⟨n,e1.symm,fun m hm=>hmono _ (hocc m hm)⟩
  ·simp[e1] at h1;obtain⟨n',e',r⟩:=c.reach _ _ _ h1 h2;exact⟨n',e',fun m hm=>hmono _ (r m hm)⟩
def lc_nil(M:Nat)(hs:Array Int):LC M (Array.replicate (M+1) none) 0 hs:=by
 have hget:∀(s i:Nat),(Array.replicate (M+1) (none:Option Nat))[s]?≠some (some i):=by
  intro s i h;rw[Array.getElem?_replicate] at h
  split at h <;> cases h
 exact⟨by simp,fun i hi=>by lia,fun i j j' h=>absurd h (hget _ _),fun j i h=>absurd h (hget _ _),fun j i h h1=>absurd h1 (hget _ _)⟩
def qz(M:Nat)(hf:eP M)(hs:Array Int)(hsz:hs.size<=M):∀(l:List Int) (ow:Array (Option Nat)) (k:Nat),
  LC M ow k hs->(∀q:Nat,l[q]?=hs[k+q]?)->k<=hs.size ->
  ∃ow',(l.foldl (init:=some (ow,k)) fun acc h=>do
   let (owner,k) <-acc
   let j <-layClean.free M owner (turns M) (bits h % (M+1)) (bits h)
   pure (owner.setIfInBounds j (some k),k+1))=some (ow',hs.size)/\LC M ow' hs.size hs:=by
 intro l
 induction l with
 | nil =>
  intro ow k c hl hk
  have:=hl 0
  simp at this;have hk2:k=hs.size:=by lia
  subst hk2;exact⟨ow,rfl,c⟩
 | cons h l ih =>
  intro ow k c hl hk;have h0:=hl 0;simp at h0;have hlt:=cR h0.symm;obtain⟨j,e,c'⟩:=lc_step M hf ow k hs c (by lia) h h0.symm
  obtain⟨ow',e2,c2⟩:=ih (ow.setIfInBounds j (some k)) (k+1) c' (by
   intro q
   have:=hl (q+1)
   simp at this;rw[this]
   congr 1;lia) (by lia)
  refine⟨ow',?_,c2⟩;rw[<-e2];rw[qcg];congr 1;simp[e]
def ua(M:Nat)(hf:eP M)(hs:Array Int)(hsz:hs.size<=M):∃ow,layClean M hs=some ow/\LC M ow hs.size hs:=by
 obtain⟨ow,e,c⟩:=qz M hf hs hsz hs.toList _ 0 (lc_nil M hs) (by intro q;simp) (by lia);refine⟨ow,?_,c⟩;unfold layClean;rw[<-Array.foldl_toList];rw[e];rfl
def rise_of{L:List Nat}(h:L.Pairwise (·<·)):dQ L.toArray:=by
 intro a b u v hab ha hb;simp at ha hb;obtain⟨ha1,ha2⟩:=qag.mp ha;obtain⟨hb1,hb2⟩:=qag.mp hb;rw[<-ha2,<-hb2];exact qbl.mp h a b ha1 hb1 hab
def dI{α β:Type}(f:α->Option β):∀(l:List α),(∀x,x∈l->∃v,f x=some v)->∀q:Nat,(l.filterMap f)[q]?=l[q]?.bind f:=by
 intro l
 induction l with
 | nil=>intro _ q;simp
 | cons x l ih =>
  intro h q;obtain⟨v,hv⟩:=h x (by simp);rw[qbq,hv]
  cases q with
  | zero=>simp[hv]
  | succ q=>simp;exact ih (fun y hy=>h y (by simp[hy])) q
def dq{α:Type}(es:Array α):(List.range es.size).filterMap (es[·]?)=es.toList:=by
 apply qbO;intro q;rw[dI _ _ (by intro x hx;exact dh es x (by simpa using hx))];by_cases h:q<es.size
 ·rw[List.getElem?_range h];simp
 ·rw[qaS (by simp;lia)];simp;lia
def laid_ok{α:Type}(M:Nat)(hf:eP M)(hsh:α->Int)(es:Array α)(hsz:es.size<=M)(fin mv:Nat)(led pln:Bool) :
  ∃pl order,laid M fin mv led pln (es.map hsh)=some ({ mask:=M,place:=pl,dummies:=#[],finger:=fin,led:=led,moves:=mv,plain:=pln},order) /\
   WF M pl ((order.filterMap (es[·]?)).map hsh)/\(order.filterMap (es[·]?)).size=es.size/\(order.filterMap (es[·]?)).toList.Perm es.toList /\
   order.toList.Perm (List.range es.size):=by
 obtain⟨ow,e,c⟩:=ua M hf (es.map hsh) (by simpa using hsz);have hn:(es.map hsh).size=es.size:=by simp
 rw[hn] at c
 let f:Nat->Option (Nat × Nat):=fun j=>(ow.getD j none).map (j,·)
 let live:=(List.range (M+1)).filterMap f
 have hf1:∀j b,f j=some b↔(b.1=j/\ow[j]?=some (some b.2)):=by
  intro j b;show (ow.getD j none).map (j,·)=some b↔_;by_cases hj:j<ow.size
  ·have:ow[j]?=some (ow[j]'hj):=qbf hj
   simp only[Array.getD,hj,dite_true,this]
   cases h:ow[j]'hj with
   | none=>simp[h]
   | some v =>
    simp[h];constructor
    ·intro e;subst e;simp
    ·rintro⟨e1,e2⟩;cases b;simp_all
  ·simp[Array.getD,hj]
 have hmem:∀b:Nat × Nat,b∈live↔ow[b.1]?=some (some b.2):=by
  intro b;show b∈(List.range (M+1)).filterMap f↔_;rw[qbJ];constructor
  ·rintro⟨j,_,hj⟩;obtain⟨e1,e2⟩:=(hf1 j b).mp hj;rw[e1];exact e2
  ·intro h;refine⟨b.1,?_,(hf1 b.1 b).mpr ⟨rfl,h⟩⟩
   have:=cR h
   have:=c.size
   simp;lia
 have hpw:live.Pairwise (fun a b=>a.1<b.1):=by
  show ((List.range (M+1)).filterMap f).Pairwise _;rw[List.pairwise_filterMap];apply List.Pairwise.imp _ (qcw (n:=M+1));intro a b hab x hx y hy;rw[((hf1 _ _).mp hx).1,((hf1 _ _).mp hy).1];exact hab
 have hnd:(live.map (·.2)).Nodup:=by
  unfold List.Nodup;rw[qbY];apply List.Pairwise.imp_of_mem _ hpw;intro a b ha hb hab e;have h1:=(hmem a).mp ha;have h2:=(hmem b).mp hb;have e':a.2=b.2:=e;rw[<-e'] at h2
  have:=c.inj _ _ _ h1 h2
  lia
 have hperm:(live.map (·.2)).Perm (List.range es.size):=by
  rw[qcj hnd qct];intro i;rw[qaJ];constructor
  ·rintro⟨b,hb,e⟩
   have:=c.lt _ _ ((hmem b).mp hb)
   rw[e] at this;simpa using this
  ·intro hi;obtain⟨j,hj⟩:=c.own i (by simpa using hi);exact⟨(j,i),(hmem (j,i)).mpr hj,rfl⟩
 have hes:((live.map (·.2)).filterMap (es[·]?)).Perm es.toList:=by
  have:=hperm.filterMap (es[·]?)
  rw[dq] at this;exact this
 have htl:((live.map (·.2)).toArray.filterMap (es[·]?)).toList=(live.map (·.2)).filterMap (es[·]?):=by simp
 have hsome:∀x,x∈live.map (·.2)->∃v,es[x]?=some v:=by
  intro x hx
  have:=hperm.mem_iff.mp hx
  exact dh es x (by simpa using this)
 refine⟨(live.map (·.1)).toArray,(live.map (·.2)).toArray,?_,?_,?_,?_,?_⟩
 ·unfold laid;rw[e];rfl
 ·refine⟨rise_of (by rw[qbY];exact hpw),?_,?_,?_⟩
  ·intro i v hi;simp at hi;obtain⟨b,hb⟩:=hi;have h1:=(hmem _).mp (qaO hb);have h2:=cR h1
   have:=c.size
   have h3:v<ow.size:=h2;lia
  ·have h1:=hes.length_eq;have h2:(((live.map (·.2)).toArray.filterMap (es[·]?)).map hsh).size=((live.map (·.2)).filterMap (es[·]?)).length:=by
    rw[Array.size_map,<-qas,htl]
   rw[h2,h1]
   have:=hperm.length_eq
   simp at this ⊢;exact this
  ·intro i h v hh hv;simp at hv;obtain⟨b,hb⟩:=hv;have h1:=(hmem _).mp (qaO hb);have h3:((live.map (·.2)).toArray.filterMap (es[·]?))[i]?=es[b]?:=by
    rw[<-qaq,htl,dI _ _ hsome];simp[hb]
   rw[Array.getElem?_map,h3] at hh;obtain⟨n,en,r⟩:=c.reach v b h h1 (by rw[Array.getElem?_map];exact hh);refine⟨n,en,?_⟩;intro m hm;obtain⟨i',hi'⟩:=r m hm;have h5:=(hmem (sl M h m,i')).mpr hi';have h6:sl M h m∈live.map (·.1):=qaJ.mpr ⟨_,h5,rfl⟩;obtain⟨q,hq⟩:=qax.mp h6;exact⟨q,by simpa using hq⟩
 ·rw[<-qas,htl,hes.length_eq];simp
 ·rw[htl];exact hes
 ·exact hperm
section
variable {prog:Program} {w:World} {A:Around} {E:Value→Shared→Prop} {s:Shared}
abbrev TK(prog:Program)(w:World)(h:Heap)(k:List Int)(a:Addr):Prop:=IsTupleKey (intKind prog w) h k a
abbrev TH(prog:Program)(w:World)(k:List Int):Int:=tupleKeyHash (intKind prog w) k
def ItemsAre.ints(h:ItemsAre (intKind prog w) ks vs):∀v∈vs,∃i t,v=.int i t:=by
 induction h with
 | nil=>intro v hv;cases hv
 | @cons k v ks vs h1 _ ih =>
  intro u hu
  cases hu with
  | head =>
   cases v with
   | int i t=>exact⟨i,t,rfl⟩
   | _=>simp[intKind,Value.isInt] at h1
  | tail _ hu=>exact ih u hu
def iU(hk:TK prog w s.heap ks a)(h:Q true s):wpAny (model prog w) A (hashByValue 8 (.ref a)) Q E s:=by
 have hT:=hk.typeIs;obtain⟨o,items,n,ho,_,hd,hi⟩:=hk;unfold hashByValue;refine qaa (wpAny_specialOf hT F.slot_tuple_hash.lookup ?_);dsimp only;refine qaa (wpAny_seqItems ho hd ?_);refine qaa ?_;show wpAny _ _ (forIn items _ _) _ _ s;rw[<-Array.forIn_toList];refine wpAny_forIn_list _ (fun rest r s'=>r.1=none/\s'=s/\∀v∈rest,∃i t,v=Value.int i t) _ ?_ ?_ _ _ ⟨rfl,rfl,ItemsAre.ints hi⟩
 ·rintro v rest r s' ⟨hr,rfl,hall⟩;obtain⟨i,t,rfl⟩:=hall v qaF
  have:hashByValue 7 (.int i t)=pure true:=by unfold hashByValue;rfl
  rw[this];refine qaa (qae ?_);simp only[qaH,qac,if_false];exact qae ⟨rfl,rfl,fun u hu'=>hall u (qam _ hu')⟩
 ·rintro⟨r1,r2⟩ s' ⟨hr,rfl,_⟩;simp only at hr;subst hr;exact qae h
def fh(hk:TK prog w s.heap ks a)(h:Q false s):wpAny (model prog w) A (ofAClassStatement 8 (.ref a)) Q E s:=by
 have hT:=hk.typeIs;obtain⟨o,items,n,ho,_,hd,hi⟩:=hk;unfold ofAClassStatement;refine qaa (wpAny_typeOf hT ?_);dsimp only;refine qaa ?_;show wpAny _ _ (pure true) _ _ s;refine qae ?_;simp only[qaH,qac,if_false];refine qaa (wpAny_seqItems ho hd ?_);dsimp only;refine qaa ?_;show wpAny _ _ (forIn items _ _) _ _ s;rw[<-Array.forIn_toList];refine wpAny_forIn_list _ (fun rest r s'=>r.1=none/\s'=s/\∀v∈rest,∃i t,v=Value.int i t) _ ?_ ?_ _ _ ⟨rfl,rfl,ItemsAre.ints hi⟩
 ·rintro v rest r s' ⟨hr,rfl,hall⟩;obtain⟨i,t,rfl⟩:=hall v qaF
  have:ofAClassStatement 7 (.int i t)=pure false:=by unfold ofAClassStatement;rfl
  rw[this];refine qaa (qae ?_);simp only[qac,if_false];exact qae ⟨rfl,rfl,fun u hu'=>hall u (qam _ hu')⟩
 ·rintro⟨r1,r2⟩ s' ⟨hr,rfl,_⟩;simp only at hr;subst hr;exact qae h
def oW{k:List Int}{a:Addr}{stored:List Value}{Q:Bool->Shared->Prop}(hk:TK prog w s.heap k a)(hall:∀v∈stored,∃b k',v=.ref b/\TK prog w s.heap k' b)
  (h:Q false s):wpAny (model prog w) A (searchCouldBeSeen (.ref a) stored) Q E s:=by
 unfold searchCouldBeSeen;refine qaa ?_;refine wpAny_forIn_list _ (fun rest r s'=>r.1=none/\s'=s/\∀v∈rest,∃b k',v=Value.ref b/\TK prog w s.heap k' b) _ ?_ ?_ _ _ ⟨rfl,rfl,hall⟩
 ·rintro v rest r s' ⟨hr,rfl,hall⟩;obtain⟨b,k',rfl,hb⟩:=hall v qaF;have hrest:∀v∈rest,∃b k',v=Value.ref b/\TK prog w s'.heap k' b:=fun u hu'=>hall u (qam _ hu');dsimp only;by_cases hab:(a == b || (carriedByValue (.ref a) && carriedByValue (.ref b)))=true
  ·rw[qai hab];exact qae ⟨rfl,rfl,hrest⟩
  ·rw[qal hab];refine qaa (wpAny_eqIsQuiet_tuple hk ?_);simp only[qaH,qac,if_false];refine qaa (wpAny_eqIsQuiet_tuple hb ?_);simp only[qaH,qac,if_false];refine qaa (fh hk ?_);simp only[qac,if_false];refine qaa (fh hb ?_);simp only[qac,if_false];exact qae ⟨rfl,rfl,hrest⟩
 ·rintro⟨r1,r2⟩ s' ⟨hr,rfl,_⟩;simp only at hr;subst hr;exact qae h
def fw(prog:Program)(w:World)(P:Addr->Prop)(h:Heap)(es:Array (Int × Value))(ks:List (List Int)):Prop :=
 es.size=ks.length/\∀(i:Nat) (e:Int × Value) (k:List Int),es[i]?=some e->ks[i]?=some k->∃a,e.2=.ref a/\TK prog w h k a/\e.1=TH prog w k/\P a
def fw.at'{P:Addr->Prop}{h:Heap}{es:Array (Int × Value)}{ks:List (List Int)}(x:fw prog w P h es ks){i:Nat}{e:Int × Value}(he:es[i]?=some e) :
  ∃k a,ks[i]?=some k/\e.2=.ref a/\TK prog w h k a/\e.1=TH prog w k:=by
 have hl:=cR he
 have:i<ks.length:=by rw[<-x.1];exact hl
 obtain⟨a,r1,r2,r3,_⟩:=x.2 i e ks[i] he (by simp[this]);exact⟨ks[i],a,by simp[this],r1,r2,r3⟩
def fw.key{P:Addr->Prop}{h:Heap}{es:Array (Int × Value)}{ks:List (List Int)}(x:fw prog w P h es ks){i:Nat}{k:List Int}(hk:ks[i]?=some k) :
  ∃e a,es[i]?=some e/\e.2=.ref a/\TK prog w h k a/\e.1=TH prog w k:=by
 have hl:i<es.size:=by rw[x.1];exact (qag.mp hk).1
 obtain⟨e,he⟩:=dh es i hl;obtain⟨a,r1,r2,r3,_⟩:=x.2 i e k he hk;exact⟨e,a,he,r1,r2,r3⟩
def xZ{P:Addr->Prop}{S:Addr}{o:Obj}{es:Array (Int × Value)}{ep:Nat}{t:SetTable}{ks:List (List Int)}{k:List Int}{a:Addr}{n1:Nat}{Q:SetFound->Shared->Prop}
  (hu:A.units<cLine) (ho:s.heap.get? S=some o) (hd:o.data=.set es ep t) (hf:t.fits es.size=true) (hdm:t.dummies=#[]) (hodd:t.gaveWay=false)
  (W:WF t.mask t.place (es.map (·.1))) (hes:fw prog w P s.heap es ks) (hk:TK prog w s.heap k a)
  (hno:¬Occ t.place (sl t.mask (TH prog w k) n1)) (hocc:∀m,m<n1->Occ t.place (sl t.mask (TH prog w k) m)) (hn1:n1<10 * turns t.mask)
  (h1:k∈ks->Q (.there none) s) (h2:k∉ks->Q (.free (sl t.mask (TH prog w k) n1) false) s) :
  ∀(fuel n:Nat) (stand:Option Probe),stand.getD (t.probeStart (TH prog w k))=st t.mask (TH prog w k) n->n<=n1->n1 - n<fuel ->
   (∀(m i:Nat),m<n->t.place[i]?=some (sl t.mask (TH prog w k) m)->ks[i]?≠some k) ->
   wpAny (model prog w) A (setSearchFrom S (.ref a) (TH prog w k) true fuel stand) Q E s:=by
 intro fuel
 induction fuel with
 | zero=>intro n stand _ _ h;lia
 | succ f ih =>
  intro n stand hst hn hfu hpast;unfold setSearchFrom;refine qaa (wpAny_setState_of ho hd hf ?_);dsimp only;rw[hodd];simp only[qac,if_false];rw[hst];have hpr:=yV t hdm W.rise (fun i=>(es[i]?.map (·.1)).getD 0) (TH prog w k) n1 hno hocc (10 * turns t.mask) n hn (by lia);have hwhere:∀i:Nat,ks[i]?=some k->∃m,m<n1/\t.place[i]?=some (sl t.mask (TH prog w k) m):=by
   intro i hi;obtain⟨e,b,he,_,_,hh⟩:=hes.key hi;have hl:i<t.place.size:=by
    have:=W.size;simp at this;rw[this];exact cR he
   obtain⟨v,hv⟩:=dh t.place i hl;obtain⟨m,em,hm⟩:=W.reach i (TH prog w k) v (by simp[he,hh]) hv;refine⟨m,?_,by rw[em];exact hv⟩;by_cases hlt:m<n1
   ·exact hlt
   ·exfalso;by_cases he2:m=n1
    ·subst he2;exact hno ⟨i,by rw[em];exact hv⟩
    ·exact hno (hm n1 (by lia))
  rcases hpr with ⟨e1,e2⟩|⟨m,i,q1,q2,q3,q4,q5,q6⟩
  ·have e1':t.probe (fun i=>(es[i]?.map (·.1)).getD 0) (TH prog w k) (st t.mask (TH prog w k) n)=some (.empty (sl t.mask (TH prog w k) n1) none):=e1;erw [e1'];dsimp only;refine qae (h2 fun hmem=>?_);obtain⟨i,hi⟩:=qax.mp hmem;obtain⟨m,hm,hp⟩:=hwhere i hi;by_cases hmn:m<n
   ·exact hpast m i hmn hp hi
   ·obtain⟨e,b,he,_,_,hh⟩:=hes.key hi;exact e2 m i (by lia) hm hp (by simp[he,hh])
  ·have e1':t.probe (fun i=>(es[i]?.map (·.1)).getD 0) (TH prog w k) (st t.mask (TH prog w k) n)=some (.candidate (sl t.mask (TH prog w k) m) i (st t.mask (TH prog w k) (m+1))):=q5;erw [e1'];dsimp only;have hil:i<es.size:=by
    have:=W.size;simp at this;rw[<-this];exact cR q3
   obtain⟨e,he⟩:=dh es i hil;obtain⟨k',b,hk',eb,hb,hh⟩:=hes.at' he;obtain⟨eh,ev⟩:=e;simp only at eb hh;subst eb
   have hgo:wpAny (model prog w) A (do
     let some (_,y):=es[i]? | unsupported "internal:set-entry"
     let equal <-holding [y] (eqBool y (.ref a))
     let (es',_,t') <-setState S
     if true && equal then return .there none
     let some same:=t'.sameMemory t.moves t.mask|unsupported "set.changed-during-lookup:is-the-new-block-at-the-old-address"
     let still <-match (if same then t'.slot (sl t.mask (TH prog w k) m) else .empty) with
      | .live i'=>match es'[i']? with
       | some (_,y')=>do pure (if <-isSame y' y then some i' else none)
       | none=>pure none
      | _=>pure none
     match still with
     | none=>rule "set.search.anew";setSearchFrom S (.ref a) (TH prog w k) true f none
     | some i'=>if equal then return .there (some i') else setSearchFrom S (.ref a) (TH prog w k) true f (some (st t.mask (TH prog w k) (m+1)))) Q E s:=by
    rw[he];dsimp only;refine qaa (wpAny_holding (wpAny_eqBool_tuple hu hb hk ?_));refine qaa (wpAny_setState_of ho hd hf ?_);dsimp only;by_cases hkk:k'=k
    ·subst hkk;simp only[decide_true,Bool.and_self,if_true];exact qae (h1 (qax.mpr ⟨i,hk'⟩))
    ·simp only[hkk,decide_false,qcE,qac,if_false];have hsm:t.sameMemory t.moves t.mask=some true:=by unfold SetTable.sameMemory;simp
     rw[hsm];simp only[if_true];rw[pk t W.rise i _ q3];dsimp only;rw[he];dsimp only;refine qaa (wpAny_isSame_ref_self ?_);simp only[if_true];refine qaa (qae ?_);dsimp only;refine ih (m+1) _ rfl (by lia) (by lia) ?_;intro m' i' hm' hp' hki;by_cases hm2:m'<n
     ·exact hpast m' i' hm2 hp' hki
     ·by_cases hm3:m'<m
      ·obtain⟨e,b,he,_,_,hh⟩:=hes.key hki;exact q6 m' i' (by lia) hm3 hp' (by simp[he,hh])
      ·have:m'=m:=by lia
       subst this;have a1:=gE _ _ _ W.rise q3;have a2:=gE _ _ _ W.rise hp'
       have:i'=i:=by lia
       subst this;rw[hk'] at hki;exact hkk (Option.some.inj hki)
   cases hled:t.led with
   | true =>
    simp only[qaH,qac,if_false];exact hgo
   | false =>
    simp only[Bool.not_false,if_true];refine qaa (oW hk ?_ ?_)
    ·intro v hv;obtain⟨e,he',rfl⟩:=qaJ.mp hv;have he2:e∈es.toList:=by
      have:e∈es.filter (fun x=>x.1 == TH prog w k):=Array.mem_toList_iff.mp he'
      exact Array.mem_toList_iff.mpr (Array.mem_filter.mp this).1
     obtain⟨q,hq⟩:=qax.mp he2;obtain⟨k2,b2,_,e2,h2,_⟩:=hes.at' (i:=q) (e:=e) (by simpa using hq);exact⟨b2,k2,e2,h2⟩
    ·simp only[qac,if_false];exact hgo
structure TTab (prog:Program) (w:World) (P:Addr->Prop) (h:Heap) (S:Addr) (led:Bool) (o:Obj) (es:Array (Int × Value)) (ep:Nat) (t:SetTable) (ks:List (List Int)):Prop where
 get:h.get? S=some o
 ex:o.ExactSet
 data:o.data=.set es ep t
 dm:t.dummies=#[]
 mask:t.mask=7\/t.mask=31\/t.mask=127
 plain:t.plain=true
 led':t.led=led
 wf:WF t.mask t.place (es.map (·.1))
 ents:fw prog w P h es ks
def jL(t:SetTable)(n:Nat):Prop:=n * 5<t.mask * 3
def cW(prog:Program)(w:World)(P:Addr->Prop)(h:Heap)(S:Addr)(led:Bool)(ks:List (List Int)):Prop :=
 ∃o es ep t ks',TTab prog w P h S led o es ep t ks'/\jL t es.size/\ks'.Perm ks/\ks.Nodup
def uN(h:M=7\/M=31\/M=127):eP M:=by
 rcases h with h|h | h <;> subst h
 ·exact full7
 ·exact full31
 ·exact full127
def TTab.size{P:Addr->Prop}{h:Heap}{S:Addr}{led:Bool}{o:Obj}{es:Array (Int × Value)}{ep:Nat}{t:SetTable}{ks:List (List Int)}(x:TTab prog w P h S led o es ep t ks):t.place.size=es.size:=by
 have:=x.wf.size;simpa using this
def TTab.fits{P:Addr->Prop}{h:Heap}{S:Addr}{led:Bool}{o:Obj}{es:Array (Int × Value)}{ep:Nat}{t:SetTable}{ks:List (List Int)}(x:TTab prog w P h S led o es ep t ks)(hr:es.size<=t.mask):t.fits es.size=true:=by
 unfold SetTable.fits SetTable.fill
 have:=x.size
 simp[this,x.dm];exact hr
def TTab.odd{P:Addr->Prop}{h:Heap}{S:Addr}{led:Bool}{o:Obj}{es:Array (Int × Value)}{ep:Nat}{t:SetTable}{ks:List (List Int)}(x:TTab prog w P h S led o es ep t ks):t.gaveWay=false:=by
 unfold SetTable.gaveWay;rcases x.mask with h|h | h <;> rw[h] <;> rfl
def tk_same(hs:Heap.SameBut S h h')(ho:h.get? S=some o)(hex:o.ExactSet)(x:TK prog w h k a):TK prog w h' k a:=by
 obtain⟨o',items,n,ho',hc,hd,hi⟩:=x;have hne:a≠S:=by
  rintro rfl;obtain rfl:o'=o:=Option.some.inj (ho'.symm.trans ho);rw[hex.1] at hc;exact absurd hc (by simp)
 exact⟨o',items,n,(hs.2 a hne).trans ho',hc,hd,hi⟩
def pE(hs:Heap.SameBut S h h')(ho:h.get? S=some o)(hex:o.ExactSet)(x:fw prog w P h es ks):fw prog w P h' es ks :=
 ⟨x.1,fun i e k a b=>let ⟨c,d,f,g⟩:=x.2 i e k a b;⟨c,d,tk_same hs ho hex f,g⟩⟩
def pe{h:Heap}{S:Addr}{o:Obj}{es es':Array (Int × Value)}{ep:Nat}{t t':SetTable}(ho:h.get? S=some o)(hd:o.data=.set es ep t) :
  (h.update S (Obj.putSet es' t')).get? S=some { o with data:=.set es' (ep+1) t'}:=by
 have:=qbw (Obj.putSet es' t') ho (by rw[putSet_of es' t' hd];rfl)
 rw[putSet_of es' t' hd] at this;exact this
def x4(x:fw prog w P h es ks)(order:Array Nat)(hp:order.toList.Perm (List.range es.size)) :
  fw prog w P h (order.filterMap (es[·]?)) (order.toList.filterMap (ks[·]?))/\(order.toList.filterMap (ks[·]?)).Perm ks:=by
 have hlt:∀i,i∈order.toList->i<es.size:=fun i hi=>by simpa using hp.mem_iff.mp hi
 have h1:∀i,i∈order.toList->∃v,es[i]?=some v:=fun i hi=>dh es i (hlt i hi);have h2:∀i,i∈order.toList->∃v,ks[i]?=some v:=fun i hi=>⟨_,qaE (by rw[<-x.1];exact hlt i hi)⟩;have e1:(order.filterMap (es[·]?)).toList=order.toList.filterMap (es[·]?):=by simp
 have p2:(order.toList.filterMap (ks[·]?)).Perm ks:=by
  have a:=hp.filterMap (ks[·]?);have b:(List.range es.size).filterMap (ks[·]?)=ks:=by
   have:=dq ks.toArray
   simp only[qak,qaY] at this;rw[x.1];exact this
  rw[b] at a;exact a
 have p1:(order.toList.filterMap (es[·]?)).Perm es.toList:=by
  have a:=hp.filterMap (es[·]?);rw[dq] at a;exact a
 refine⟨⟨?_,?_⟩,p2⟩
 ·rw[<-qas,e1,p1.length_eq,p2.length_eq,qas,x.1]
 ·intro i e k he hk;rw[<-qaq,e1,dI _ _ h1] at he;rw[dI _ _ h2] at hk
  cases ho:order.toList[i]? with
  | none=>rw[ho] at he;cases he
  | some q =>
   rw[ho] at he hk;exact x.2 q e k he hk
def grow1:SetTable.sizeAbove (SetTable.grown 5)=32:=by decide
def grow2:SetTable.sizeAbove (SetTable.grown 19)=128:=by decide
def sB{P:Addr->Prop}{S:Addr}{led:Bool}{o:Obj}{es:Array (Int × Value)}{ep:Nat}{t:SetTable}{ks:List (List Int)}{wanted M:Nat}{Q:Unit->Shared->Prop}
  (T:TTab prog w P s.heap S led o es ep t ks) (hfit:es.size<=t.mask) (hM:SetTable.sizeAbove wanted=M+1) (hMM:M=7\/M=31\/M=127) (hroom:es.size * 5<M * 3)
  (h:∀h' o' es' ep' t' ks',Heap.SameBut S s.heap h'->TTab prog w P h' S led o' es' ep' t' ks'->jL t' es'.size->ks'.Perm ks->Q () { s with heap:=h'}) :
  wpAny (model prog w) A (setRelay S wanted) Q E s:=by
 obtain⟨pl,order,e1,w1,z1,p1,p2⟩:=laid_ok M (uN hMM) (fun e:Int × Value=>e.1) es (by lia) t.finger (t.movedTo M) t.led t.plain;have hre:t.relaid (es.map (·.1)) wanted=some ({ mask:=M,place:=pl,dummies:=#[],finger:=t.finger,led:=t.led,moves:=t.movedTo M,plain:=t.plain},order):=by
  unfold SetTable.relaid;rw[hM];exact e1
 unfold setRelay;refine qaa (wpAny_setState_of T.get T.data (T.fits hfit) ?_);dsimp only;have hsz:¬SetTable.sizeAbove wanted>sizeLine:=by
  rw[hM,sizeLine_eq];rcases hMM with h|h | h <;> rw[h] <;> decide
 rw[qal hsz,hre];have hz:es.size<=sizeLine:=by
  rw[sizeLine_eq];rcases hMM with h|h | h <;> lia
 refine qaa (?_:wpAny _ _ (if ((order.filterMap (es[·]?)).size != es.size)=true then _ else _) _ _ _);rw[qal (by simp[z1])];refine qae ?_;dsimp only;refine wpAny_storeSet_of T.get T.data ?_ (by rw[z1];exact hz);have sb:=Heap.SameBut.update s.heap S (Obj.putSet (order.filterMap (es[·]?)) { mask:=M,place:=pl,dummies:=#[],finger:=t.finger,led:=t.led,moves:=t.movedTo M,plain:=t.plain});obtain⟨n1,n2⟩:=x4 T.ents order p2;refine h _ _ _ _ _ _ sb ⟨pe T.get T.data,T.ex,rfl,rfl,hMM,T.plain,T.led',w1,pE sb T.get T.ex n1⟩ ?_ n2;unfold jL;rw[z1];exact hroom
def Ab(x:fw prog w P h es ks)(hp:p<=es.size)(hk:TK prog w h k a)(hP:P a) :
  fw prog w P h (insertAt es p (TH prog w k,.ref a)) (ks.take p++k::ks.drop p):=by
 have hl:=x.1;refine⟨?_,?_⟩
 ·rw[cP _ _ _ hp];simp;lia
 ·intro i e k' he hk';rw[cf _ _ _ hp] at he;by_cases h1:i<p
  ·rw[qai h1] at he;rw[qan (by simp;lia),qbA h1] at hk';exact x.2 i e k' he hk'
  ·rw[qal h1] at he;rw[qay (by simp;lia)] at hk';have hlen:(ks.take p).length=p:=by simp;lia
   rw[hlen] at hk';by_cases h2:i=p
   ·rw[qai h2] at he
    have:i - p=0:=by lia
    rw[this] at hk';simp at hk';cases he;subst hk';exact⟨a,rfl,hk,rfl,hP⟩
   ·rw[qal h2] at he;obtain⟨q,hq⟩:∃q,i - p=q+1:=⟨i - p - 1,by lia⟩;rw[hq,qcs,qbW] at hk'
    have:p+q=i - 1:=by lia
    rw[this] at hk';exact x.2 (i - 1) e k' he hk'
def zA(p:Nat)(k:List Int):(ks.take p++k::ks.drop p).Perm (ks++[k]):=by
 have h1:(ks.take p++k::ks.drop p).Perm (k::(ks.take p++ks.drop p)):=qbG;rw[qbi] at h1;exact h1.trans (qck k ks).symm
def add_wp{P:Addr->Prop}{S a:Addr}{led:Bool}{ks:List (List Int)}{k:List Int}{Q:Bool->Shared->Prop}(hu:A.units<cLine)(T:cW prog w P s.heap S led ks)(hk:TK prog w s.heap k a)(hP:P a)
  (hsz:k∈ks\/ks.length<66)
  (h:∀b h',Heap.SameBut S s.heap h'->cW prog w P h' S led (if k∈ks then ks else ks++[k])->Q b { s with heap:=h'}) :
  wpAny (model prog w) A (setAddHashed S (.ref a) (TH prog w k)) Q E s:=by
 obtain⟨o,es,ep,t,ks',T,hr,hpm,hnd⟩:=T;unfold jL at hr;have hfit:es.size<=t.mask:=by rcases T.mask with e|e | e <;> rw[e] at hr ⊢ <;> lia
 have hf:=T.fits hfit;have hps:t.place.size<=t.mask:=by rw[T.size];exact hfit
 obtain⟨n1,hn1,hno,hocc⟩:=vQ t.place T.wf.rise t.mask (uN T.mask) hps (TH prog w k);have hm128:t.mask<=127:=by rcases T.mask with e|e | e <;> lia
 have hlen:es.size=ks.length:=by rw[T.ents.1,hpm.length_eq]
 unfold setAddHashed;refine wpAny_holding ?_;show wpAny _ _ (setAddHashedIn S (.ref a) (TH prog w k) (99999+1)) _ _ _;unfold setAddHashedIn;refine qaa (wpAny_setState_of T.get T.data hf ?_);dsimp only;have hbs:byScan (.ref a) es=false:=rfl;rw[hbs];simp only[qac,if_false];unfold setSearch;refine qaa (xZ (n1:=n1) (ks:=ks') hu T.get T.data hf T.dm T.odd T.wf T.ents hk hno hocc (by unfold turns;lia) ?_ ?_ 100000 0 none rfl (qaM _) (by lia) (fun m i hm=>absurd hm (Nat.not_lt_zero m)))
 ·intro hmem;have hmem':k∈ks:=hpm.mem_iff.mp hmem;dsimp only;refine qae ?_
  have:=h false s.heap (Heap.SameBut.refl _ _)
  rw[qai hmem'] at this;exact this ⟨o,es,ep,t,ks',T,hr,hpm,hnd⟩
 ·intro hmem;have hmem':k∉ks:=fun x=>hmem (hpm.mem_iff.mpr x);have hlt:ks.length<66:=hsz.resolve_left hmem';rw[qal hmem'] at h;dsimp only;refine qaa (wpAny_setState_of T.get T.data hf ?_);dsimp only;have hput:t.put (sl t.mask (TH prog w k) n1)=({ t with place:=insertAt t.place (below t.place (sl t.mask (TH prog w k) n1)) (sl t.mask (TH prog w k) n1)},below t.place (sl t.mask (TH prog w k) n1)):=by
   unfold SetTable.put;simp only[T.dm,vi,qac,if_false]
  rw[hput];dsimp only;rw[qai T.plain];refine qaa (iU hk ?_);simp only[if_true];have hp:=(dr t.place (sl t.mask (TH prog w k) n1) T.wf.rise).1;have hp2:below t.place (sl t.mask (TH prog w k) n1)<=es.size:=by rw[<-T.size];exact hp
  have hz1:=cP es (below t.place (sl t.mask (TH prog w k) n1)) (TH prog w k,.ref a) hp2;refine qaa (wpAny_storeSet_of T.get T.data ?_ (by rw[hz1,sizeLine_eq];lia))
  have sb:=Heap.SameBut.update s.heap S (Obj.putSet (insertAt es (below t.place (sl t.mask (TH prog w k) n1)) (TH prog w k,.ref a))
   { t with place:=insertAt t.place (below t.place (sl t.mask (TH prog w k) n1)) (sl t.mask (TH prog w k) n1)})
  have T2:TTab prog w P (s.heap.update S (Obj.putSet (insertAt es (below t.place (sl t.mask (TH prog w k) n1)) (TH prog w k,.ref a))
    { t with place:=insertAt t.place (below t.place (sl t.mask (TH prog w k) n1)) (sl t.mask (TH prog w k) n1)})) S led
    { o with data:=.set (insertAt es (below t.place (sl t.mask (TH prog w k) n1)) (TH prog w k,.ref a)) (ep+1) { t with place:=insertAt t.place (below t.place (sl t.mask (TH prog w k) n1)) (sl t.mask (TH prog w k) n1)}}
    (insertAt es (below t.place (sl t.mask (TH prog w k) n1)) (TH prog w k,.ref a)) (ep+1)
    { t with place:=insertAt t.place (below t.place (sl t.mask (TH prog w k) n1)) (sl t.mask (TH prog w k) n1)}
    (ks'.take (below t.place (sl t.mask (TH prog w k) n1))++k::ks'.drop (below t.place (sl t.mask (TH prog w k) n1))):=by
   refine⟨pe T.get T.data,T.ex,rfl,T.dm,T.mask,T.plain,T.led',?_,pE sb T.get T.ex (Ab T.ents hp2 hk hP)⟩;rw[sd];exact wf_put t.mask t.place (es.map (·.1)) T.wf (TH prog w k) n1 hno hocc
  have hpm2:(ks'.take (below t.place (sl t.mask (TH prog w k) n1))++k::ks'.drop (below t.place (sl t.mask (TH prog w k) n1))).Perm (ks++[k]):=(zA _ k).trans (hpm.append_right [k]);have hnd2:(ks++[k]).Nodup:=by
   rw[qcr];refine⟨hnd,by simp,fun x hx y hy=>?_⟩
   have:y=k:=by simpa using hy
   subst this;rintro rfl;exact hmem' hx
  have hfill:({ t with place:=insertAt t.place (below t.place (sl t.mask (TH prog w k) n1)) (sl t.mask (TH prog w k) n1)}:SetTable).fill=es.size+1:=by
   unfold SetTable.fill;rw[cP _ _ _ hp,T.size];simp[T.dm]
  by_cases hfull:({ t with place:=insertAt t.place (below t.place (sl t.mask (TH prog w k) n1)) (sl t.mask (TH prog w k) n1)}:SetTable).tooFull=true
  ·have hfull':(es.size+1) * 5>=t.mask * 3:=by
    unfold SetTable.tooFull at hfull;rw[hfill] at hfull;simpa using hfull
   rw[qai (by rw[hfull];rfl)];have hcase:(t.mask=7/\es.size=4)\/(t.mask=31/\es.size=18):=by
    rcases T.mask with e|e | e <;> rw[e] at hr hfull' <;> lia
   refine qaa (wpAny_mono (Q:=fun _ s'=>∃h',s'={ s with heap:=h'}/\Heap.SameBut S s.heap h'/\cW prog w P h' S led (ks++[k])) ?_ (fun u s' hq=>?_) fun _ _ x=>x)
   ·rcases hcase with ⟨c1,c2⟩|⟨c1,c2⟩
    ·have e5:es.size+1=5:=by lia
     rw[e5];refine sB (M:=31) (s:={ s with heap:=_}) T2 (by rw[hz1];show es.size+1<=t.mask;lia) grow1 (.inr (.inl rfl)) (by rw[hz1];lia) fun h' o' es' ep' t' ks2 sb2 T3 r3 p3=>?_;exact⟨h',rfl,sb.trans sb2,o',es',ep',t',ks2,T3,r3,p3.trans hpm2,hnd2⟩
    ·have e5:es.size+1=19:=by lia
     rw[e5];refine sB (M:=127) (s:={ s with heap:=_}) T2 (by rw[hz1];show es.size+1<=t.mask;lia) grow2 (.inr (.inr rfl)) (by rw[hz1];lia) fun h' o' es' ep' t' ks2 sb2 T3 r3 p3=>?_;exact⟨h',rfl,sb.trans sb2,o',es',ep',t',ks2,T3,r3,p3.trans hpm2,hnd2⟩
   ·obtain⟨h',rfl,q1,q2⟩:=hq;exact qae (h true h' q1 q2)
  ·have hfull':(es.size+1) * 5<t.mask * 3:=by
    unfold SetTable.tooFull at hfull;rw[hfill] at hfull;simpa using hfull
   rw[qal (by simpa using hfull)];refine qae (h true _ sb ⟨_,_,_,_,_,T2,?_,hpm2,hnd2⟩);unfold jL;rw[hz1];exact hfull'
end
end SetT
namespace SetT
open PySem PySem.SetTable PyProof.Rows
def dH(acc:List (List Int))(k:List Int):List (List Int):=if k∈acc then acc else acc++[k]
def ded(l:List (List Int)):List (List Int):=l.foldl dH []
def zQ(l:List (List Int))(k:List Int):ded (l++[k])=dH (ded l) k:=by
 unfold ded;rw[List.foldl_append];rfl
def wU(acc:List (List Int))(k:List Int):acc.length<=(dH acc k).length:=by
 unfold dH;split <;> simp
def xz(l:List (List Int)):∀acc:List (List Int),acc.length<=(l.foldl dH acc).length:=by
 induction l with
 | nil=>intro acc;exact qah _
 | cons k l ih=>intro acc;exact qaw (wU acc k) (ih _)
def rN(l:List (List Int))(i:Nat):(ded (l.take i)).length<=(ded l).length:=by
 have h:ded l=(l.drop i).foldl dH (ded (l.take i)):=by
  unfold ded;rw[<-List.foldl_append,qbi]
 rw[h];exact xz _ _
def qE{l:List (List Int)}{i:Nat}{k:List Int}(h:l[i]?=some k):ded (l.take (i+1))=dH (ded (l.take i)) k:=by
 rw[qcq,h];exact zQ _ _
def xf(x:List Int)(l:List (List Int)):∀acc:List (List Int),x∈l.foldl dH acc↔x∈acc\/x∈l:=by
 induction l with
 | nil=>intro acc;simp
 | cons k l ih =>
  intro acc;rw[qcg,ih];unfold dH;split
  ·rename_i h
   constructor
   ·rintro (h1|h1)
    ·exact .inl h1
    ·exact .inr (qam _ h1)
   ·rintro (h1|h1)
    ·exact .inl h1
    ·rcases qao.mp h1 with rfl|h2
     ·exact .inl h
     ·exact .inr h2
  ·constructor
   ·rintro (h1|h1)
    ·rcases qau.mp h1 with h2|h2
     ·exact .inl h2
     ·have:x=k:=by simpa using h2
      subst this;exact .inr qaF
    ·exact .inr (qam _ h1)
   ·rintro (h1|h1)
    ·exact .inl (qaC _ h1)
    ·rcases qao.mp h1 with rfl|h2
     ·exact .inl (qaf _ (by simp))
     ·exact .inr h2
def k9(x:List Int)(l:List (List Int)):x∈ded l↔x∈l:=by
 unfold ded;rw[xf];simp
section
variable {prog:Program} {w:World} {A:Around} {E:Value→Shared→Prop} {s:Shared}
abbrev PB(H0:Heap)(R:Addr->Prop):Addr->Prop:=fun a=>(∃o,H0.get? a=some o)/\R a
def Ext(H0 h:Heap):Prop:=∀b o,H0.get? b=some o->h.get? b=some o
def kQ(x:Ext H0 h)(t:TK prog w H0 k a):TK prog w h k a:=by
 obtain⟨o,items,n,ho,r⟩:=t;exact⟨o,items,n,x a o ho,r⟩
def uo{H0 h h':Heap}{RR:Addr->Prop}{S:Addr}{led:Bool}{ks:List (List Int)}(T:cW prog w (PB H0 RR) h S led ks)(hS:∀o,h.get? S=some o->h'.get? S=some o)
  (x:Ext H0 h) (x':Ext H0 h'):cW prog w (PB H0 RR) h' S led ks:=by
 obtain⟨o,es,ep,t,ks',T,r,p,n⟩:=T;refine⟨o,es,ep,t,ks',⟨hS o T.get,T.ex,T.data,T.dm,T.mask,T.plain,T.led',T.wf,T.ents.1,fun i e k a b=>?_⟩,r,p,n⟩;obtain⟨c,d,⟨oc,its,m,hc,q⟩,g,⟨ob,hb⟩,hR⟩:=T.ents.2 i e k a b;have e1:oc=ob:=Option.some.inj (hc.symm.trans (x c ob hb));subst e1;exact⟨c,d,⟨oc,its,m,x' c oc hb,q⟩,g,⟨oc,hb⟩,hR⟩
def Lie(prog:Program)(w:World)(H0:Heap)(items:Array Value)(ks:List (List Int)):Prop :=
 items.size=ks.length/\∀(i:Nat) (v:Value) (k:List Int),items[i]?=some v->ks[i]?=some k->∃a,v=.ref a/\TK prog w H0 k a
def vH{h:Heap}{S:Addr}{led:Bool}{P:Addr->Prop}{o:Obj}(ho:h.get? S=some o)(hex:o.ExactSet)(hd:o.data=.set #[] 0 (.fresh 0 0 led)):cW prog w P h S led []:=by
 refine⟨o,#[],0,.fresh 0 0 led,[],⟨ho,hex,hd,rfl,.inl rfl,rfl,rfl,⟨?_,?_,by simp[SetTable.fresh],?_⟩,rfl,?_⟩,?_,List.Perm.nil,qcF⟩
 ·intro a b u v _ h1;simp[SetTable.fresh] at h1
 ·intro i v h1;simp[SetTable.fresh] at h1
 ·intro i hh v h1;simp at h1
 ·intro i e k h1;simp at h1
 ·show 0 * 5<7 * 3;decide
def t6{RR:Addr->Prop}{R:Result->Shared->Prop}{I:Addr}{fp wr:List Addr}{G:Array GenState->Array GenState->Prop}{n:Nat}{P:Nat->Value->Prop}{St:Nat->Shared->Prop}
  (hu:A.units+1<cLine) (W:WalksS prog w A.in1 I fp wr G n P St) (S:Addr) (hSf:S∉fp) {H0:Heap} (h0S:H0.get? S=none) (h0w:∀b∈wr,H0.get? b=none) {led:Bool} (ks:List (List Int)) (hn:ks.length=n)
  (hval:∀i v k,P i v->ks[i]?=some k->∃a,v=.ref a/\TK prog w H0 k a/\RR a) (h66:(ded ks).length<=66) :
  ∀(c i:Nat) (s:Shared),n - i=c->i<=n->St i s->Ext H0 s.heap->cW prog w (PB H0 RR) s.heap S led (ded (ks.take i)) ->
   (∀s',Moved (S::wr) G s s'->Ext H0 s'.heap->cW prog w (PB H0 RR) s'.heap S led (ded ks)->R (.ok (.ret .none)) s') ->
   codeAny (model prog w) A (.builtin "set.update.loop" ⟨[.ref S,.ref I],[]⟩) R s:=by
 have hSw:S∉wr:=fun h=>hSf (W.sub _ h);have hsub:∀b∈wr,b∈S::wr:=fun b hb=>qam _ hb;have extM:∀{s s':Shared},Moved wr G s s'->Ext H0 s.heap->Ext H0 s'.heap:=fun {s s'} hm x b o e =>
  hm.heap b o (fun hb=>by rw[h0w b hb] at e;cases e) (x b o e)
 intro c
 induction c with
 | zero =>
  intro i s hc hi hst hx hT hRR;have e:i=n:=by lia
  subst e;refine codeAny_builtin F.entry_set_update_loop ?_;rw[Around.under_plainId F.plain_set_update_loop _];show wpAny _ A.in1 (pyNext (.ref I) >>= _) _ _ s;refine qaa (W.done s _ _ hst fun s' hm=>?_);show wpAny _ A.in1 (ret Value.none) _ _ s';rw[<-hn,List.take_length] at hT;exact qae (hRR s' (hm.mono hsub) (extM hm hx) (uo hT (fun o e=>hm.heap S o hSw e) hx (extM hm hx)))
 | succ c ih =>
  intro i s hc hi hst hx hT hRR;have hlt:i<n:=by lia
  refine codeAny_builtin F.entry_set_update_loop ?_;rw[Around.under_plainId F.plain_set_update_loop _];show wpAny _ A.in1 (pyNext (.ref I) >>= _) _ _ s;refine qaa (W.item i s _ _ hlt hst fun v s' hP hst' hm=>?_);obtain⟨k,hk⟩:∃k,ks[i]?=some k:=⟨_,qaE (by lia)⟩;obtain⟨a,rfl,ha,hR⟩:=hval i v k hP hk;have hx':=extM hm hx;have hT':=uo hT (fun o e=>hm.heap S o hSw e) hx hx';have ha':=kQ hx' ha;show wpAny _ A.in1 (holding [Value.ref a] (setAdd S (.ref a)) >>= _) _ _ s';refine qaa (wpAny_holding ?_);unfold setAdd;refine wpAny_holding ?_;refine qaa (wpAny_pyHash_tuple (by show A.units+1<cLine;exact hu) ha' ?_);have hsucc:=qE hk;refine add_wp (s:={ s' with toks:=s'.toks+(k.length+1)}) (by show A.units+1<cLine;exact hu) hT' ha' ⟨let ⟨o,_,_,ho,_⟩:=ha;⟨o,ho⟩,hR⟩ ?_ fun b h' sb hT2=>?_
  ·have h1:=rN ks (i+1);rw[hsucc] at h1;unfold dH at h1;by_cases hm':k∈ded (ks.take i)
   ·exact .inl hm'
   ·rw[qal hm'] at h1;simp at h1;exact .inr (by lia)
  ·have hx2:Ext H0 h':=fun q o e=>by
    have hq:q≠S:=by rintro rfl;rw[h0S] at e;cases e
    exact (sb.2 q hq).trans (hx' q o e)
   have hT3:cW prog w (PB H0 RR) h' S led (ded (ks.take (i+1))):=by rw[hsucc];exact hT2
   refine qae ⟨plainId_quiet F.plain_set_update_loop _,ih (i+1) _ (by lia) hlt (W.frame _ s' _ _ hst' (Nat.le_add_right _ _) fun b hb o e=>?_) hx2 hT3 fun s'' hm'' hx3 hT4=>?_⟩
   ·exact (sb.2 b (fun q:b=S=>hSf (by rw[<-q];exact hb))).trans e
   ·refine hRR s'' (Moved.trans W.gtrans ((hm.mono hsub).then_heap (Nat.le_add_right _ _) fun b o hb e=>?_) hm'') hx3 hT4;exact (sb.2 b (fun q:b=S=>hb (by rw[q];exact qaF))).trans e
abbrev fB(led:Bool):Obj:={ cls:=.type "set",dict:=none,data:=.set #[] 0 (.fresh 0 0 led)}
abbrev bJ(w:World):Bool:=!w.params.followText "set-order"
def yJ(a:Value)(h:Q₁ (.ref s.heap.objs.size) { s with heap:=s.heap.push (fB (bJ w))}) :
  codeAny (model prog w) A (.call (.builtin "set.__new__") ⟨[.type "set",a],[]⟩) (wants Q₁ E) s:=by
 refine codeAny_of_tree ?_;show wpAny _ A.in1 (checkBuiltinCall "set.__new__" ⟨[.type "set",a],[]⟩ >>= fun _=>again (.builtin "set.__new__" ⟨[.type "set",a],[]⟩)) _ _ s;refine qaa (wpAny_of_eq (PySem.F.newCall_set_1 a) (qae ⟨plainId_quiet PySem.F.plain_set_new _,codeAny_builtin PySem.F.entry_set_new ?_⟩));rw[Around.under_plainId PySem.F.plain_set_new _];unfold Builtin.«set.__new__» Builtin.Frozenset.newClass;have hsub:=sub_set_self;obtain⟨hp,g,d,tk,os⟩:=s;dsimp only
 wp_walk
 refine wpAny_askSetting (qae ?_);dsimp only;simp only[newObj];exact qaa (wpAny_alloc (qae (qae h)))
set_option maxHeartbeats 3200000 in
theorem qi(hh:A.handled=none)(hu:A.units+16<cLine)(hl:s.heap.IsList l items)
  (hk:Lie prog w s.heap items ks) (h66:(ded ks).length<=66)
  (h:∀(h':Heap) (tk:Nat),cW prog w (PB s.heap fun a=>Value.ref a∈items.toList) h' s.heap.objs.size (bJ w) (ded ks)->Ext s.heap h'->s.toks<=tk->Q (.ref s.heap.objs.size) { s with heap:=h',toks:=tk}) :
  wpAny (model prog w) A (call (.type "set") [.ref l]) Q E s:=by
 obtain⟨c,tl,hmro⟩:=PySem.F.called_set.mro;have hmade:=PySem.F.called_set.made;have hsub:=PySem.F.called_set.sub;refine wpAny_call (codeAny_of_tree ?_);show wpAny _ _ (callAny (.type "set") _) _ _ _;refine qae ⟨Code.quiet_builtin _ (by decide +kernel),codeAny_builtin PySem.F.entry_type_call ?_⟩;rw[Around.under_plain (weight_type_call_type "set" [.ref l] []) rfl];have h1:=PySem.F.called_set.notType;have h2:=PySem.F.called_set.canCreate;have hct:=PySem.F.typeCall_set_1 (.ref l)
 repeat (any_goals (first | assumption | wp_step))
 refine codeAny_mono (yJ (.ref l) (E:=E) (Q₁:=fun obj s₁=>obj=.ref s.heap.objs.size/\s₁={ s with heap:=s.heap.push (fB (bJ w))}) ⟨rfl,rfl⟩) fun r s₁ hr=>?_
 cases r with
 | error e=>exact hr
 | ok fl =>
  cases fl with
  | ret obj =>
   obtain⟨rfl,rfl⟩:=hr;have hS:(s.heap.push (fB (bJ w))).get? s.heap.objs.size=some (fB (bJ w)):=qar _ rfl;have hT:Shared.TypeIs { s with heap:=s.heap.push (fB (bJ w))} (.ref s.heap.objs.size) "set":=⟨_,hS,rfl⟩;have hli:=PySem.F.called_set.init.lookup;have hbi:=PySem.F.called_set.init.bind (.ref s.heap.objs.size)
   repeat (any_goals (first | assumption | wp_step))
   refine codeAny_mono (codeAny_call_builtin (R:=wants (fun r s₂=>r=.none/\∃h' tk,s₂={ s with heap:=h',toks:=tk} /\
     cW prog w (PB s.heap fun a=>Value.ref a∈items.toList) h' s.heap.objs.size (bJ w) (ded ks)/\Ext s.heap h'/\s.toks<=tk) E) PySem.F.called_set.init.plain PySem.F.entry_set_init (check_set_init_1 hT ?_)) fun r₂ s₂ hr₂=>?_
   ·have hl0:=hl;obtain⟨ol,hol,hcl,nl,hdl⟩:=hl;obtain⟨ocls,odict,odata,oslots⟩:=ol;simp only at hcl hdl;subst hcl;subst hdl;have hol':(s.heap.push (fB (bJ w))).get? l=some { cls:=.type "list",dict:=odict,data:=.seq items nl,slots:=oslots}:=qad _ hol;have hsls:=PySem.F.sub_list_set;have hslf:=PySem.F.sub_list_frozenset;have hne:(Value.type "list" == Value.type "dict")=false:=by decide
    have hl1:(s.heap.push (fB (bJ w))).IsList l items:=⟨_,hol',rfl,nl,rfl⟩;unfold Builtin.«set.__init__» noKeywords Builtin.Frozenset.updateFrom;generalize hPI:pyIter=PI
    wp_walk
    subst hPI;refine wpAny_pyIter_list hl1 ?_;refine qaa (wpAny_runValue ?_);have hlS:l<s.heap.objs.size:=qap hol;have hh3:A.in1.in1.in1.handled=none:=by simp[hh]
    have hsz:(s.heap.push (fB (bJ w))).objs.size=s.heap.objs.size+1:=by rw[qby]
    have hneI:l≠(s.heap.push (fB (bJ w))).objs.size:=by rw[hsz];exact qaG (qbN hlS)
    have hnone:∀b,s.heap.objs.size<=b->s.heap.get? b=none:=fun b hb=>by
     cases e:s.heap.get? b with
     | none=>rfl
     | some o=>exact absurd (qap e) (Nat.not_lt.mpr hb)
    have hSf:s.heap.objs.size∉[(s.heap.push (fB (bJ w))).objs.size,l]:=by
     rw[hsz];simp only[qao,qba,or_false,not_or];exact⟨qaG (qca _),qbE hlS⟩
    refine t6 (RR:=fun a=>Value.ref a∈items.toList) (H0:=s.heap) (led:=bJ w) (by show A.units+1+1+1<cLine;lia) ((Walks.list hh3 _ l hneI items).toS) s.heap.objs.size hSf (hnone _ (qah _)) ?_ ks hk.1.symm
     (fun i v k hv hk'=>let ⟨a,e,t⟩:=hk.2 i v k hv hk';⟨a,e,t,by rw[<-e];exact qax.mpr ⟨i,by rw[qaq];exact hv⟩⟩) h66 (items.size - 0) 0 _ (by lia) (qaM _) ⟨⟨_,qar _ rfl,rfl,rfl⟩,(hl1.push _)⟩ ?_ ?_ ?_
    ·intro b hb
     have:b=(s.heap.push (fB (bJ w))).objs.size:=by simpa using hb
     rw[this,hsz];exact hnone _ (Nat.le_succ _)
    ·intro b o e;exact qad _ (qad _ e)
    ·exact vH (o:=fB (bJ w)) (qad _ hS) ⟨rfl,rfl,rfl⟩ rfl
    ·intro s' hm hx hT';obtain⟨h',g',d',tk',os'⟩:=s';have eg:g'=s.gens:=hm.gens;have ed:d'=s.drawn:=hm.drawn;have eo:os'=s.os:=hm.os;have et:s.toks<=tk':=hm.toks;subst eg;subst ed;subst eo;show wpAny _ _ _ _ _ _;refine qae ?_;show wpAny _ _ (ret Value.none) _ _ _;exact qae ⟨rfl,h',tk',rfl,hT',hx,et⟩
   ·cases r₂ with
    | error e=>exact hr₂
    | ok fl₂ =>
     cases fl₂ with
     | ret r =>
      obtain⟨rfl,h',tk,rfl,hT',hx,et⟩:=hr₂
      repeat (any_goals (first | assumption | wp_step))
      exact h _ _ hT' hx et
     | _=>exact hr₂.elim
  | _=>exact hr.elim
end
def cI:Slot "set_iterator" "__next__" "set_iterator.__next__" :=
 .of (owner:="set_iterator") (n:="__next__") (by rw[typeLookup_type,builtinLookup_eq_fast];kernel_rfl) (by decide +kernel) (by decide +kernel) (by decide +kernel) (.inl (by decide +kernel)) (by rw[isSubtype_type];kernel_rfl)
def kK:Slot "set_iterator" "__iter__" "set_iterator.__iter__" :=
 .of (owner:="set_iterator") (n:="__iter__") (by rw[typeLookup_type,builtinLookup_eq_fast];kernel_rfl) (by decide +kernel) (by decide +kernel) (by decide +kernel) (.inl (by decide +kernel)) (by rw[isSubtype_type];kernel_rfl)
def jW:entryFor table "set_iterator.__next__"=some Builtin.«set_iterator.__next__»:=entryFor_of_fast (by kernel_rfl)
def qy:entryFor table "set_iterator.__iter__"=some Builtin.«dict_keyiterator.__iter__» :=
 entryFor_alias (id':="dict_keyiterator.__iter__") (by kernel_rfl) rfl (by decide +kernel) (by kernel_rfl)
def j7(a:Value):argsOk "set_iterator.__next__" ⟨[a],[]⟩:=by unfold argsOk;kernel_rfl
def tN(a:Value):argsOk "set_iterator.__iter__" ⟨[a],[]⟩:=by unfold argsOk;kernel_rfl
def rT:entryFor table "set.__iter__"=some Builtin.«frozenset.__iter__» :=
 entryFor_alias (id':="frozenset.__iter__") (by kernel_rfl) rfl (by decide +kernel) (by kernel_rfl)
def wp{α:Type}(l:List α)(i:Nat)(h:i<l.length):(l[i]::l.eraseIdx i).Perm l:=by
 rw[List.eraseIdx_eq_take_drop_succ];have e:l.take i++l[i]::l.drop (i+1)=l:=by rw[qcx h,qbi]
 exact qbG.symm.trans (List.Perm.of_eq e)
def pick_go(next:Nat->Nat):∀(fuel k:Nat) (left:List α) (out:Array α),left.length<=fuel->(pickOrder.go next fuel k left out).toList.Perm (out.toList++left):=by
 intro fuel
 induction fuel with
 | zero =>
  intro k left out h
  have:left=[]:=qbp.mp (by lia)
  subst this;unfold pickOrder.go;simp
 | succ f ih =>
  intro k left out h;unfold pickOrder.go
  cases left with
  | nil=>simp
  | cons x l =>
   have hlt:next k % (x::l).length<(x::l).length:=Nat.mod_lt _ (by simp)
   have hg:(x::l)[next k % (x::l).length]?=some ((x::l)[next k % (x::l).length]'hlt):=qaE hlt;rw[hg];dsimp only;have hl:((x::l).eraseIdx (next k % (x::l).length)).length<=f:=by
    rw[List.length_eraseIdx_of_lt hlt];lia
   refine (ih (k+1) _ _ hl).trans ?_;rw[qbb,qbh];refine List.Perm.append_left _ ?_;have hp:(x::l).Perm ((x::l)[next k % (x::l).length]'hlt::(x::l).eraseIdx (next k % (x::l).length)):=(wp _ _ hlt).symm;exact hp.symm
def xO(next:Nat->Nat)(xs:Array α):(pickOrder next xs).toList.Perm xs.toList:=by
 unfold pickOrder
 have:=pick_go next xs.size 0 xs.toList #[] (by simp)
 simpa using this
def vG(xs:Array Nat)(hr:dQ xs):below xs 0=0:=by
 obtain⟨h1,h2,_⟩:=dr xs 0 hr;by_cases h:below xs 0=0
 ·exact h
 ·exfalso;obtain⟨v,hv⟩:=dh xs 0 (by lia)
  have:=h2 0 v hv (by lia)
  lia
def wl(xs:Array Nat)(hr:dQ xs)(i j:Nat)(h:xs[i]?=some j):below xs (j+1)=i+1:=by
 obtain⟨h1,h2,h3⟩:=dr xs (j+1) hr;have hi:=cR h;by_cases h4:below xs (j+1)<=i
 ·have:=h3 i j h h4;lia
 ·by_cases h5:i+1<below xs (j+1)
  ·obtain⟨v,hv⟩:=dh xs (i+1) (by lia);have a:=h2 (i+1) v hv h5;have b:=hr i (i+1) j v (by lia) h hv;lia
  ·lia
section
variable {prog:Program} {w:World} {A:Around} {E:Value→Shared→Prop} {s:Shared}
def bW(w:World)(S:Addr)(ep:Nat)(es:Array (Int × Value)):Array (Int × Value):=if w.params.followText "set-order" then pickOrder (w.params.setOrder S ep) es else es
def gK(w:World)(S:Addr)(ep:Nat)(es:Array (Int × Value)):(bW w S ep es).toList.Perm es.toList:=by
 unfold bW;split
 ·exact xO _ _
 ·exact List.Perm.refl _
def SIt(w:World)(it S:Addr)(o:Obj)(es:Array (Int × Value))(ep:Nat)(t:SetTable)(i:Nat)(h:Heap):Prop :=
 h.get? S=some o/\∃slot:Nat,h.get? it=some { cls:=.type "set_iterator",dict:=none,data:=.fields #[.int slot 0,.int i 0,.ref S,.int es.size 0,.int ep 0],slots:=#[]} /\
  (w.params.followText "set-order"=false->below t.place slot=i)
end
section
variable {prog:Program} {w:World} {A:Around} {E:Value→Shared→Prop} {s:Shared} {S it:Addr} {o:Obj} {es:Array (Int × Value)} {ep:Nat} {t:SetTable} {ks:List (List Int)}
def oU(hit:SIt w it S o es ep t i s.heap):s.TypeIs (.ref it) "set_iterator":=let ⟨_,_,h,_⟩:=hit;⟨_,h,rfl⟩
def Wkd(prog:Program)(w:World)(S:Addr)(o:Obj)(es:Array (Int × Value))(ep:Nat)(t:SetTable):Prop :=
 o.ExactSet/\o.data=.set es ep t/\t.dummies=#[]/\t.plain=true/\t.led=bJ w/\dQ t.place/\t.place.size=es.size/\es.size<=t.mask
def uk{i:Nat}{h:Heap}{slot:Nat}{Q:Option (Value × Nat)->Shared->Prop}(T:Wkd prog w S o es ep t)(ho:s.heap.get? S=some o)
  (hsl:w.params.followText "set-order"=false->below t.place slot=i)
  (h1:∀(x:Int × Value) slot',(bW w S ep es)[i]?=some x->(w.params.followText "set-order"=false->below t.place slot'=i+1)->Q (some (x.2,slot')) s)
  (h2:(bW w S ep es)[i]?=none->Q none s) :
  wpAny (model prog w) A (setNext S slot i ep) Q E s:=by
 obtain⟨T1,T2,T3,T4,T5,T6,T7,T8⟩:=T;have hf:t.fits es.size=true:=by
  unfold SetTable.fits SetTable.fill;simp[T7,T3];exact T8
 unfold setNext;refine qaa (wpAny_setState_of ho T2 hf ?_);dsimp only;unfold setsByText;refine qaa (qaa (wpAny_askSetting (qae ?_)));unfold bW at h1 h2
 cases hb:w.params.followText "set-order" with
 | true =>
  rw[hb] at h1 h2;simp only[if_true] at h1 h2;show wpAny _ _ (if w.params.followText "set-order"=true then _ else _) _ _ _;rw[hb];simp only[if_true,bne_self_eq_false,qac,if_false];unfold setWalk;refine qaa (qaa (wpAny_setState_of ho T2 hf ?_));dsimp only;unfold setsByText;refine qaa (qaa (wpAny_askSetting (qae ?_)));show wpAny _ _ (if w.params.followText "set-order"=true then _ else _) _ _ _;rw[hb];simp only[if_true];refine qaa (wpAny_askSetting (qae ?_));refine qae ?_;show Q (((pickOrder (w.params.setOrder S ep) es)[i]?).map fun e=>(e.2,slot)) s
  cases hg:(pickOrder (w.params.setOrder S ep) es)[i]? with
  | none=>exact h2 hg
  | some x=>exact h1 x slot hg (fun z=>nomatch z)
 | false =>
  rw[hb] at h1 h2;simp only[qac,if_false] at h1 h2;show wpAny _ _ (if w.params.followText "set-order"=true then _ else _) _ _ _;rw[hb];simp only[qac,if_false];have hdr:¬((!t.plain && decide (es.size>1))=true):=by rw[T4];simp
  refine (?_:wpAny _ _ (if (!t.plain && decide (es.size>1))=true then _ else _) _ _ _);rw[qal hdr];have hld:¬((!t.led && !es.isEmpty)=true):=by rw[T5];simp[bJ,hb]
  refine qaa (?_:wpAny _ _ (if (!t.led && !es.isEmpty)=true then _ else _) _ _ _);rw[qal hld];refine qae ?_;refine qae ?_;have hbl:=hsl hb;rw[hbl]
  cases he:es[i]? with
  | none=>exact h2 he
  | some x =>
   obtain⟨j,hj⟩:=dh t.place i (by rw[T7];exact cR he);rw[hj];exact h1 x (j+1) he (fun _=>wl _ T6 i j hj)
def Wkd.fits(T:Wkd prog w S o es ep t):t.fits es.size=true:=by
 obtain⟨T1,T2,T3,T4,T5,T6,T7,T8⟩:=T;unfold SetTable.fits SetTable.fill;simp[T7,T3];exact T8
def tW{i:Nat}{x:Int × Value}{Q:Option Value->Shared->Prop}(T:Wkd prog w S o es ep t)(hne:S≠it)(hit:SIt w it S o es ep t i s.heap)(hx:(bW w S ep es)[i]?=some x)
  (hQ:∀h',SIt w it S o es ep t (i+1) h'->Heap.SameBut it s.heap h'->Q (some x.2) { s with heap:=h'}):wpAny (model prog w) A (pyNext (.ref it)) Q E s:=by
 have hT:=oU hit;obtain⟨ho,slot,hi,hsl⟩:=hit;unfold pyNext;refine qaa (wpAny_attempt (wpAny_callSpecial?_slot (name:=Str.ofString "__next__") hT cI (wpAny_call_entry cI hT jW ?_ (j7 _))));unfold Builtin.«set_iterator.__next__»;refine qaa (m:=slotArgs "__next__" 0 _) (qae ?_);dsimp only;refine qaa (wpAny_fieldsOf hi rfl ?_);dsimp only;refine qaa (wpAny_setEntries_of ho T.2.1 T.fits ?_);rw[qal (by simp)];refine qaa ?_;rw[qaN,qaN,qaN];refine uk (h:=s.heap) T ho hsl (fun x' slot' e1 e2=>?_) (fun e1=>by rw[hx] at e1;cases e1);rw[hx] at e1;cases e1;dsimp only;refine qaa (wpAny_setField_rec hi (by simp) fun h1 g1 sb1=>?_);refine qaa (wpAny_setField_rec (s:={ s with heap:=h1}) g1 (by simp) fun h2 g2 sb2=>?_);refine qae ⟨_,rfl,qae (hQ h2 ⟨?_,slot',?_,e2⟩ (sb1.trans sb2))⟩
 ·rw[(sb1.trans sb2).2 S hne];exact ho
 ·exact g2
def v8{i:Nat}{Q:Option Value->Shared->Prop}(hh:A.handled=none)(T:Wkd prog w S o es ep t)(hit:SIt w it S o es ep t i s.heap)(hx:(bW w S ep es)[i]?=none)
  (hQ:∀h',Heap.ExtBut it s.heap h'->Q none { s with heap:=h'}):wpAny (model prog w) A (pyNext (.ref it)) Q E s:=by
 have hT:=oU hit;obtain⟨ho,slot,hi,hsl⟩:=hit;unfold pyNext;refine qaa (wpAny_attempt (wpAny_callSpecial?_slot (name:=Str.ofString "__next__") hT cI (wpAny_call_entry cI hT jW ?_ (j7 _))));unfold Builtin.«set_iterator.__next__»;refine qaa (m:=slotArgs "__next__" 0 _) (qae ?_);dsimp only;refine qaa (wpAny_fieldsOf hi rfl ?_);dsimp only;refine qaa (wpAny_setEntries_of ho T.2.1 T.fits ?_);rw[qal (by simp)];refine qaa ?_;rw[qaN,qaN,qaN];refine uk (h:=s.heap) T ho hsl (fun x' slot' e1 e2=>by rw[hx] at e1;cases e1) (fun e1=>?_);dsimp only;refine qaa (wpAny_setField hi rfl (by simp) ?_);refine qaa ?_;simp only[newExc,newTuple];refine qaa (wpAny_newObj_type ?_ (by size_fits));refine qaa (m:=firstArgMember _ _) (wpAny_of_eq (a:=Value.none) (by first | rfl | (simp only[firstArgMember];rfl)) ?_);refine wpAny_newObj_type ?_ (by size_fits);simp only[raiseNew];refine qaa (wpAny_handled ?_);rw[show A.in1.handled=none from hh];refine qaa (qae (wpAny_throw ?_));refine qaa (wpAny_isInstance (T:="StopIteration") (b:=true) ⟨_,qar _ rfl,rfl⟩ isSubtype_stop ?_);exact qae (hQ _ (((Heap.SameBut.update ..).extBut.push _).push _))
def yg(hh:A.handled=none)(hne:S≠it)(T:Wkd prog w S o es ep t) :
  Walks prog w A it [it,S] [it] es.size (fun i v=>∃x,(bW w S ep es)[i]?=some x/\v=x.2) (fun i h=>SIt w it S o es ep t i h) where
 sub:=fun b hb=>by simp at hb;simp[hb]
 frame:=fun _ _ _ st hk=>⟨hk S (by simp) _ st.1,let ⟨slot,a,b⟩:=st.2;⟨slot,hk it (by simp) _ a,b⟩⟩
 item:=fun i s Q E hi st hQ=>by
  have hl:(bW w S ep es).size=es.size:=by
   rw[<-qas,(gK w S ep es).length_eq,qas]
  obtain⟨x,hx⟩:=dh (bW w S ep es) i (by lia);exact tW T hne st hx fun h' st' sb=>hQ _ h' s.toks ⟨x,hx,rfl⟩ st' fun b o hb e=>sb.extBut b o (fun h=>hb (by simp[h])) e
 done:=fun s Q E st hQ=>by
  have hl:(bW w S ep es).size=es.size:=by
   rw[<-qas,(gK w S ep es).length_eq,qas]
  exact v8 hh T st (qbs (by lia)) fun h' he=>hQ h' s.toks fun b o hb e=>he b o (fun h=>hb (by simp[h])) e
 self:=fun _ s Q E st hQ=>by
  have hT:=oU st;refine wpAny_pyIter_slot hT kK (wpAny_call_entry kK hT qy ?_ (tN _));show wpAny _ _ (ret (.ref it)) _ _ s;exact qae ⟨_,rfl,"set_iterator",_,hT,cI.lookup,hQ⟩
def vP(T:Wkd prog w S o es ep t)(ho:s.heap.get? S=some o)
  (hQ:Q (.ref s.heap.objs.size) { s with heap:=s.heap.push { cls:=.type "set_iterator",data:=.fields #[.int 0 0,.int 0 0,.ref S,.int es.size 0,.int ep 0]}}) :
  wpAny (model prog w) A (pyIter (.ref S)) Q E s:=by
 have hT:s.TypeIs (.ref S) "set":=⟨o,ho,T.1.1⟩;refine wpAny_pyIter_slot hT PySem.F.slot_set_iter (wpAny_call_entry PySem.F.slot_set_iter hT rT ?_ (PySem.F.args_set_iter_1 _));unfold Builtin.«frozenset.__iter__» Builtin.Frozenset.slot0;refine qaa (qaa (m:=slotArgs "__iter__" 0 _) (qae (qae ?_)));unfold Builtin.Frozenset.sizeOf;refine qaa (qaa (wpAny_setEntries_of ho T.2.1 T.fits (qae ?_)));unfold setDrawn;refine qaa (qaa (wpAny_setState_of ho T.2.1 T.fits ?_));dsimp only;unfold setsByText;refine qaa (qaa (wpAny_askSetting (qae (qae ?_))));have hdr:(!w.params.followText "set-order" && (!t.plain && decide (es.size>1)))=false:=by rw[T.2.2.2.1];simp
 refine (?_:wpAny _ _ (if (!w.params.followText "set-order" && (!t.plain && decide (es.size>1)))=true then _ else _) _ _ _);rw[qal (by rw[hdr];simp)];refine qaa (qae ?_);refine qaa (wpAny_setEpoch_of ho T.2.1 T.fits ?_);exact qaa (wpAny_newObj_type (qae ⟨_,rfl,"set_iterator",_,⟨_,qar _ rfl,rfl⟩,cI.lookup,hQ⟩))
end
section
variable {prog:Program} {w:World} {A:Around} {E:Value→Shared→Prop} {s:Shared} {S:Addr} {o:Obj} {es:Array (Int × Value)} {ep:Nat} {t:SetTable}
def qv:splitId "set.__len__"=some ("set","__len__"):=by kernel_rfl
def zv(hT:s.TypeIs (.ref S) "set")(hQ:Q false s):wpAny (model prog w) A (Builtin.List.listLengthHint (.ref S)) Q E s:=by
 unfold Builtin.List.listLengthHint;refine qaa (wpAny_specialOf hT PySem.F.slot_set_len.lookup ?_);dsimp only;rw[qv];dsimp only;refine qaa (wpAny_isInstance hT sub_set_self ?_);simp only[qaH,qac,if_false];rw[qai (by decide +kernel)];refine qaa (wpAny_typeOf hT ?_);dsimp only;exact qae hQ
def rK(hh:A.handled=none)(T:Wkd prog w S o es ep t)(ho:s.heap.get? S=some o)(hn:es.size<=sizeLine)
  (hQ:∀h' tk,Ext s.heap h'->s.heap.objs.size<h'.objs.size->s.toks<=tk->Q ((bW w S ep es).toList.map (·.2)) { s with heap:=h',toks:=tk}) :
  wpAny (model prog w) A (collect (.ref S)) Q E s:=by
 have hSlt:S<s.heap.objs.size:=qap ho;unfold collect;refine qaa (wpAny_runValue (codeAny_builtin PySem.F.entry_proto_collect ?_));rw[Around.under_plainId PySem.F.plain_proto_collect _];show wpAny _ A.in1 (newList [] >>= fun l=>again (.builtin "list.__iadd__" ⟨[l,.ref S],[]⟩)) _ _ s;refine qaa (wpAny_newObj_type ?_);refine qae ⟨plainId_quiet PySem.F.plain_list_iadd _,codeAny_builtin PySem.F.entry_list_iadd ?_⟩;rw[Around.under_plainId PySem.F.plain_list_iadd _];generalize hL:({ cls:=.type "list",data:=.seq ([]:List Value).toArray}:Obj)=oL;have hS1:(s.heap.push oL).get? S=some o:=qad _ ho;have hL1:(s.heap.push oL).get? s.heap.objs.size=some oL:=qar _ (by rw[<-hL];rfl);have hsz1:(s.heap.push oL).objs.size=s.heap.objs.size+1:=by rw[qby]
 show wpAny _ A.in1 (Builtin.List.listExtendWith (.ref s.heap.objs.size) (.ref S) (.ref s.heap.objs.size)) _ _ { s with heap:=s.heap.push oL};unfold Builtin.List.listExtendWith;have hT1:Shared.TypeIs { s with heap:=s.heap.push oL} (.ref S) "set":=⟨o,hS1,T.1.1⟩;refine qaa (wpAny_typeOf hT1 ?_);have h1:Builtin.List.listSameRef (.ref s.heap.objs.size) (.ref S)=false:=by
  simp only[Builtin.List.listSameRef,beq_eq_false_iff_ne];exact qbE hSlt
 have h2:(Value.type "set" == Value.type "list")=false:=by decide
 have h3:(Value.type "set" == Value.type "tuple")=false:=by decide
 simp only[h1,h2,h3,Bool.or_false,qac,if_false];refine qaa (vP (s:={ s with heap:=s.heap.push oL}) T hS1 ?_);generalize hI:({ cls:=.type "set_iterator",data:=.fields #[.int 0 0,.int 0 0,.ref S,.int es.size 0,.int ep 0]}:Obj)=oI;have hS2:((s.heap.push oL).push oI).get? S=some o:=qad _ hS1;have hL2:((s.heap.push oL).push oI).get? s.heap.objs.size=some oL:=qad _ hL1;have hI2:((s.heap.push oL).push oI).get? (s.heap.push oL).objs.size=some oI:=qar _ (by rw[<-hI];rfl);show wpAny _ A.in1 _ _ _ { s with heap:=(s.heap.push oL).push oI};have hT2:Shared.TypeIs { s with heap:=(s.heap.push oL).push oI} (.ref S) "set":=⟨o,hS2,T.1.1⟩;refine qaa (wpAny_holding (zv hT2 ?_));rw[qai (by decide +kernel)];refine qaa (wpAny_rule ?_);refine qaa ?_;show wpAny _ A.in1 (updateSeq s.heap.objs.size (·.push .none) >>= fun _=>updateSeq s.heap.objs.size (·.pop)) _ _ _;subst hL;refine qaa (wpAny_updateSeq hL2 rfl ?_);have hS₂:=qbw (Obj.mapSeq (·.push Value.none)) hL2 rfl;refine wpAny_updateSeq hS₂ rfl ?_;have hS₃:=qbw (Obj.mapSeq (·.pop)) hS₂ rfl;have oth:∀b o',b≠s.heap.objs.size->((s.heap.push { cls:=.type "list",data:=.seq ([]:List Value).toArray}).push oI).get? b=some o' ->
   ((((s.heap.push { cls:=.type "list",data:=.seq ([]:List Value).toArray}).push oI).update s.heap.objs.size (Obj.mapSeq (·.push Value.none))).update s.heap.objs.size (Obj.mapSeq (·.pop))).get? b=some o' :=
  fun b o' hb e=>(qbI _ _ (Ne.symm hb)).trans ((qbI _ _ (Ne.symm hb)).trans e)
 have hneI:s.heap.objs.size≠(s.heap.push { cls:=.type "list",data:=.seq ([]:List Value).toArray}).objs.size:=by
  rw[hsz1];exact qaG (qca _)
 have hneS:S≠(s.heap.push { cls:=.type "list",data:=.seq ([]:List Value).toArray}).objs.size:=by
  rw[hsz1];exact qaG (qbN hSlt)
 have hW:=(yg (A:=A.in1) (it:=(s.heap.push { cls:=.type "list",data:=.seq ([]:List Value).toArray}).objs.size) hh hneS T).toS;have hSf:s.heap.objs.size∉[(s.heap.push { cls:=.type "list",data:=.seq ([]:List Value).toArray}).objs.size,S]:=by
  simp only[qao,qba,or_false,not_or];exact⟨hneI,qbE hSlt⟩
 refine qae ⟨plainId_quiet PySem.F.plain_extend_loop _,codeAny_extend_loopS hW hn _ hSf _ es.size 0 _ _ _ rfl (qaM _) ?_ hS₃ (ItemsOf.nil _) fun s' acc' c' hm hS' hacc=>?_⟩
 ·refine⟨oth S _ (qaG hSlt) hS2,0,?_,fun _=>vG _ T.2.2.2.2.2.1⟩;subst hI;exact oth _ _ (Ne.symm hneI) hI2
 ·show wpAny _ A (load s.heap.objs.size >>= _) _ _ s';refine qaa (wpAny_load hS' ?_);refine qae ?_;have hacc2:acc'.toList=(bW w S ep es).toList.map (·.2):=by
   have hl:(bW w S ep es).size=es.size:=by
    rw[<-qas,(gK w S ep es).length_eq,qas]
   apply qbO;intro i;by_cases hi:i<es.size
   ·obtain⟨v,hv⟩:=dh acc' i (by rw[hacc.1];exact hi);obtain⟨x,hx,e⟩:=hacc.2 i v hv;rw[qaq,hv,qaz,qaq,hx,e];rfl
   ·rw[qaS (by rw[qas,hacc.1];lia),qaS (by rw[qaW,qas,hl];lia)]
  rw[hacc2];obtain⟨h',g',d',tk',os'⟩:=s';have eg:g'=s.gens:=hm.gens;have ed:d'=s.drawn:=hm.drawn;have eo:os'=s.os:=hm.os;have et:s.toks<=tk':=hm.toks;subst eg;subst ed;subst eo;refine hQ h' tk' (fun b o' e=>?_) (qap hS') et;have hb:b<s.heap.objs.size:=qap e;refine hm.heap b o' ?_ (oth b o' (qaG hb) (qad _ (qad _ e)));simp only[qao,qba,or_false,not_or];exact⟨qaG hb,by rw[hsz1];exact qaG (qbN hb)⟩
def uf(hh:A.handled=none)(T:cW prog w (PB H0 R) s.heap S (bJ w) ks)(hx:Ext H0 s.heap)
  (hQ:∀h' tk vs ks',Ext s.heap h'->s.heap.objs.size<h'.objs.size->s.toks<=tk->Lie prog w H0 (List.toArray vs) ks'->(∀v∈vs,∃a,v=.ref a/\R a)->ks'.Perm ks->Q vs { s with heap:=h',toks:=tk}) :
  wpAny (model prog w) A (collect (.ref S)) Q E s:=by
 obtain⟨o,es,ep,t,ks1,T,hr,hpm,hnd⟩:=T;unfold jL at hr;have hfit:es.size<=t.mask:=by rcases T.mask with e|e | e <;> rw[e] at hr ⊢ <;> lia
 have hmm:t.mask<=127:=by rcases T.mask with e|e | e <;> lia
 refine rK hh ⟨T.ex,T.data,T.dm,T.plain,T.led',T.wf.rise,T.size,hfit⟩ T.get (by rw[sizeLine_eq];lia) fun h' tk e1 e3 e2=>?_;have hp:=gK w S ep es;have hents:∀e∈es.toList,∃k a,e.2=.ref a/\TK prog w H0 k a/\R a:=by
  intro e he;obtain⟨i,hi⟩:=qax.mp he;rw[qaq] at hi;obtain⟨k,hk⟩:∃k,ks1[i]?=some k:=⟨_,qaE (by rw[<-T.ents.1];exact cR hi)⟩;obtain⟨c,d,⟨oc,its,m,hc,q⟩,g,⟨ob,hb⟩,hR⟩:=T.ents.2 i e k hi hk;have e3:oc=ob:=Option.some.inj (hc.symm.trans (hx c ob hb));subst e3;exact⟨k,c,d,⟨oc,its,m,hb,q⟩,hR⟩
 let ky:Int × Value->List Int:=fun e=>Classical.epsilon fun k=>∃a,e.2=.ref a/\TK prog w H0 k a
 have hky:∀e∈es.toList,∃a,e.2=.ref a/\TK prog w H0 (ky e) a:=by
  intro e he;obtain⟨k,a,h1,h2,_⟩:=hents e he;exact Classical.epsilon_spec (p:=fun k=>∃a,e.2=.ref a/\TK prog w H0 k a) ⟨k,a,h1,h2⟩
 have hmap:es.toList.map ky=ks1:=by
  apply qbO;intro i;rw[qaz,qaq]
  cases hi:es[i]? with
  | none =>
   have:ks1.length<=i:=by
    rw[<-T.ents.1]
    have:=qbP.mp hi
    lia
   rw[qaS this];rfl
  | some e =>
   obtain⟨k,hk⟩:∃k,ks1[i]?=some k:=⟨_,qaE (by rw[<-T.ents.1];exact cR hi)⟩;obtain⟨c,d,hc,g,⟨ob,hb⟩,_⟩:=T.ents.2 i e k hi hk;have he:e∈es.toList:=qax.mpr ⟨i,by rw[qaq];exact hi⟩;obtain⟨a,h1,h2⟩:=hky e he;rw[d] at h1;cases h1;have h3:=kQ hx h2;rw[hk];show some (ky e)=some k;rw[IsTupleKey.inj h3 hc]
 refine hQ h' tk _ ((bW w S ep es).toList.map ky) e1 e3 e2 ⟨by simp,?_⟩ ?_ ?_
 ·intro i v k hv hk;rw[qaY,qaz] at hv;rw[qaz] at hk
  cases hi:(bW w S ep es).toList[i]? with
  | none=>rw[hi] at hv;cases hv
  | some e =>
   rw[hi] at hv hk;cases hv;cases hk;exact hky e (hp.mem_iff.mp (qaO hi))
 ·intro v hv;obtain⟨e,he,rfl⟩:=qaJ.mp hv;obtain⟨k,a,h1,_,h3⟩:=hents e (hp.mem_iff.mp he);exact⟨a,h1,h3⟩
 ·have:=hp.map ky
  rw[hmap] at this;exact this.trans hpm
end
end SetT
namespace SortT
open PySem PyProof.Rows
structure Cmp (prog:Program) (w:World) (A:Around) (E:Value->Shared->Prop) (s:Shared) (kd:SortKind) (O:KeyOrd) where
 key:Keyed->O.α
 dflt:O.α
 good:Keyed->Prop
 ask:∀(x y:Keyed) (st:SortSt) (Q:Option Bool->SortSt->Prop),good x->good y->kindOf st=kd->Q (some (O.blt (key x) (key y))) st->wpS (model prog w) A E s (lt' x y) Q st
section
variable {prog:Program} {w:World} {A:Around} {E:Value→Shared→Prop} {s:Shared} {kd:SortKind} {O:KeyOrd} (C:Cmp prog w A E s kd O)
def kk(xs:Array Keyed)(i:Nat):O.α:=match xs[i]? with
 | some p=>C.key p
 | none=>C.dflt
def Srt(xs:Array Keyed)(lo hi:Nat):Prop:=∀i j,lo<=i->i<=j->j<hi->O.kle (kk C xs i) (kk C xs j)
def Fal(xs:Array Keyed)(lo hi:Nat):Prop:=∀i j,lo<=i->i<=j->j<hi->O.kle (kk C xs j) (kk C xs i)
def cw(xs:Array Keyed):Prop:=∀p,p∈xs.toList->C.good p
structure SB (kd:SortKind) (a₀:Array Keyed) (st:SortSt):Prop where
 perm:(arrOf st).Perm a₀
 kind:kindOf st=kd
 failed:failedOf st=none
def cy(lo:Nat)(xs ys:Array Keyed):Prop:=∀i,i<lo->ys[i]?=xs[i]?
def cy.rfl'{lo:Nat}{xs:Array Keyed}:cy lo xs xs:=fun _ _=>rfl
def cy.trans{lo:Nat}{xs ys zs:Array Keyed}(h:cy lo xs ys)(g:cy lo ys zs):cy lo xs zs:=fun i hi=>(g i hi).trans (h i hi)
variable {C} {a₀:Array Keyed} {st:SortSt}
def SB.size(h:SB kd a₀ st):(arrOf st).size=a₀.size:=h.perm.size_eq
def SB.arr(h:SB kd a₀ st)(hp:xs.Perm (arrOf st)):SB kd a₀ (setArr st xs):=⟨hp.trans h.perm,h.kind,h.failed⟩
def SB.good(h:SB kd a₀ st)(h0:cw C a₀):cw C (arrOf st):=fun p hp=>h0 p ((qbQ.mp h.perm).mem_iff.mp hp)
def dO(h:xs[i]?=ys[j]?):kk C xs i=kk C ys j:=by unfold kk;rw[h]
def aV(h:xs[i]?=some p):kk C xs i=C.key p:=by unfold kk;rw[h]
def bt{xs:Array Keyed}(g:cw C xs){i:Nat}{p:Keyed}(h:xs[i]?=some p):C.good p:=by
 refine g p (qax.mpr ⟨i,?_⟩);rw[qaq];exact h
def aY(hi:i<xs.size)(h:∀p,xs[i]?=some p->Q p st):wpS (model prog w) A E s (elem' xs i) Q st:=by
 rw[elem'_eq];have e:xs[i]?=some xs[i]:=getElem?_pos xs i hi;rw[e];exact wpS_pure (h _ e)
def j5{i j:Nat}{Q:Option Bool->SortSt->Prop}(hB:SB kd a₀ st)(h0:cw C a₀)(hi:i<a₀.size)(hj:j<a₀.size)
  (h:Q (some (O.blt (kk C (arrOf st) i) (kk C (arrOf st) j))) st):wpS (model prog w) A E s (ltAt' i j) Q st:=by
 rw[ltAt'_eq];refine wpS_bind (wpS_get ?_);refine wpS_bind (aY (by rw[hB.size];exact hi) fun x hx=>wpS_bind (aY (by rw[hB.size];exact hj) fun y hy=>?_));rw[aV hx,aV hy] at h;exact C.ask x y st Q (bt (hB.good h0) hx) (bt (hB.good h0) hy) hB.kind h
def pA(hs:src<xs.size)(hd:d<=src)(i:Nat) :
  kk C (bubble xs src d) i=if i=src - d then kk C xs src else if src - d<i/\i<=src then kk C xs (i - 1) else kk C xs i:=by
 have e:=getElem?_bubble hs d hd i;split
 ·next h1=>rw[qai h1] at e;exact dO e
 ·next h1 =>
  rw[qal h1] at e;split
  ·next h2=>rw[qai h2] at e;exact dO e
  ·next h2=>rw[qal h2] at e;exact dO e
def j6(hj:j<=xs.size)(q:Nat) :
  kk C (mirror xs i j ((j - i) / 2)) q=if i<=q/\q<j then kk C xs (i+j - 1 - q) else kk C xs q:=by
 have e:=getElem?_mirror_all (i:=i) hj q;split
 ·next h1=>rw[qai h1] at e;exact dO e
 ·next h1=>rw[qal h1] at e;exact dO e
def dk(hj:j<=xs.size)(heq:∀q,i<=q->q<j->kk C xs q=kk C xs (j - 1))(q:Nat) :
  kk C (mirror xs i j ((j - i) / 2)) q=kk C xs q:=by
 rw[j6 hj];split
 ·next h=>rw[heq (i+j - 1 - q) (by lia) (by lia),heq q h.1 h.2]
 ·rfl
def e8{xs:Array Keyed}{lo i j:Nat}(hj:j<=xs.size)(h:lo<=i):cy lo xs (mirror xs i j ((j - i) / 2)):=fun q hq=>by
 rw[getElem?_mirror_all hj,qal (by lia)]
def ub{xs:Array Keyed}{lo src d:Nat}(hs:src<xs.size)(hd:d<=src)(h:lo<=src - d):cy lo xs (bubble xs src d):=fun q hq=>by
 rw[getElem?_bubble hs d hd,qal (by lia),qal (by lia)]
abbrev AS:=Option (Option Nat) × Nat
abbrev DS:=Option (Option Nat) × Nat × Nat
def jl(p a nrem:Nat):StateT SortSt Sem AS :=
 forIn [a:nrem] ((none,a):AS) fun _ c=>do
  let q <-ltAt' (p+c.2) (p+c.2 - 1)
  match q with
  | some z=>if z=true then pure (ForInStep.done (none,c.2)) else pure (ForInStep.yield (none,c.2+1))
  | _=>pure (ForInStep.done (some none,c.2))
def tO(p n nrem:Nat):StateT SortSt Sem (Option Nat):=do
 reverseSlice' p (p+n)
 let c <-jl p n nrem
 match c.1 with
 | some r=>pure r
 | none=>pure (some c.2)
def tw(p n nrem:Nat):StateT SortSt Sem DS :=
 forIn [n:nrem] ((none,n,0):DS) fun _ c=>do
  let q <-ltAt' (p+c.2.1) (p+c.2.1 - 1)
  match q with
  | some z =>
   if z=true then
    if c.2.2>0 then do
     reverseSlice' (p+c.2.1 - (c.2.2+1)) (p+c.2.1)
     pure (ForInStep.yield (none,c.2.1+1,0))
    else pure (ForInStep.yield (none,c.2.1+1,0))
   else do
    let q <-ltAt' (p+c.2.1 - 1) (p+c.2.1)
    match q with
    | some z=>if z=true then pure (ForInStep.done (none,c.2.1,c.2.2)) else pure (ForInStep.yield (none,c.2.1+1,c.2.2+1))
    | _=>pure (ForInStep.done (some none,c.2.1,c.2.2))
  | _=>pure (ForInStep.done (some none,c.2.1,c.2.2))
def sh(p n nrem:Nat):StateT SortSt Sem (Option Nat):=do
 liftM (rule "list.sort.descending-run")
 let c <-tw p (n+1) nrem
 match c.1 with
 | some r=>pure r
 | none =>
  if c.2.2>0 then do
   reverseSlice' (p+c.2.1 - (c.2.2+1)) (p+c.2.1)
   tO p c.2.1 nrem
  else tO p c.2.1 nrem
def run_eq(p nrem:Nat):countRun' p nrem=(do
  let c <-jl p 1 nrem
  match c.1 with
  | some r=>pure r
  | none =>
   if (c.2 == nrem)=true then pure (some c.2)
   else if c.2>1 then do
    let q <-ltAt' p (p+c.2 - 1)
    match q with
    | some z=>if z=true then pure (some c.2) else do
      reverseSlice' p (p+c.2)
      sh p c.2 nrem
    | _=>pure none
   else sh p c.2 nrem):=by
 rw[countRun'_eq];unfold sh tO;refine congrArg (fun g=>jl p 1 nrem >>= g) (funext fun c=>?_);obtain⟨r,n⟩:=c
 cases r with
 | some r=>rfl
 | none =>
  dsimp only;split
  ·rfl
  ·split
   ·congr 1;funext x
    cases x with
    | none=>rfl
    | some z =>
     dsimp only;split
     ·rfl
     ·refine congrArg _ (funext fun _=>?_);refine congrArg _ (funext fun _=>?_);refine congrArg (fun g=>tw p (n+1) nrem >>= g) (funext fun c2=>?_);obtain⟨r2,n2,q2⟩:=c2
      cases r2 with
      | some r2=>rfl
      | none =>
       dsimp only;split
       ·refine congrArg _ (funext fun _=>?_);refine congrArg _ (funext fun _=>?_);refine congrArg (fun g=>jl p n2 nrem >>= g) (funext fun c3=>?_);obtain⟨r3,n3⟩:=c3;cases r3 <;> rfl
       ·refine congrArg _ (funext fun _=>?_);refine congrArg (fun g=>jl p n2 nrem >>= g) (funext fun c3=>?_);obtain⟨r3,n3⟩:=c3;cases r3 <;> rfl
   ·refine congrArg _ (funext fun _=>?_);refine congrArg (fun g=>tw p (n+1) nrem >>= g) (funext fun c2=>?_);obtain⟨r2,n2,q2⟩:=c2
    cases r2 with
    | some r2=>rfl
    | none =>
     dsimp only;split
     ·refine congrArg _ (funext fun _=>?_);refine congrArg _ (funext fun _=>?_);refine congrArg (fun g=>jl p n2 nrem >>= g) (funext fun c3=>?_);obtain⟨r3,n3⟩:=c3;cases r3 <;> rfl
     ·refine congrArg _ (funext fun _=>?_);refine congrArg (fun g=>jl p n2 nrem >>= g) (funext fun c3=>?_);obtain⟨r3,n3⟩:=c3;cases r3 <;> rfl
def uH(h0:cw C a₀)(hn:p+nrem<=a₀.size)(ha:1<=a)(han:a<=nrem)(hB:SB kd a₀ st)
  (hs:Srt C (arrOf st) p (p+a))
  (h:∀n,a<=n->n<=nrem->Srt C (arrOf st) p (p+n)->(n=nrem\/O.klt (kk C (arrOf st) (p+n)) (kk C (arrOf st) (p+n - 1)))->Q (none,n) st) :
  wpS (model prog w) A E s (jl p a nrem) Q st:=by
 unfold jl;refine wpS_forRange (I:=fun x c st'=>st'=st/\c=(none,x)/\Srt C (arrOf st) p (p+x)) ?_ ?_ ⟨rfl,rfl,hs⟩
 ·rintro x c st' h1 h2 ⟨rfl,rfl,h3⟩;refine wpS_bind (j5 hB h0 (by lia) (by lia) ?_)
  cases hz:O.blt (kk C (arrOf st') (p+x)) (kk C (arrOf st') (p+x - 1)) with
  | true=>exact wpS_pure (h x h1 (by lia) h3 (.inr hz))
  | false =>
   refine wpS_pure ⟨rfl,rfl,fun i j hi hij hj=>?_⟩;by_cases hjx:j<p+x
   ·exact h3 i j hi hij hjx
   ·have e:j=p+x:=by lia
    subst e;by_cases hi':i=p+x
    ·subst hi';exact KeyOrd.kle_refl _
    ·exact KeyOrd.kle_trans (h3 i (p+x - 1) hi (by lia) (by lia)) hz
 ·rintro c st' ⟨rfl,rfl,h3⟩;have e:max a nrem=nrem:=by lia
  rw[e] at h3 ⊢;exact h nrem han (qah _) h3 (.inl rfl)
def lj(h:Q () (setArr st (mirror (arrOf st) i j ((j - i) / 2)))):wpS (model prog w) A E s (reverseSlice' i j) Q st:=by
 rw[reverseSlice'_eq];exact wpS_modify h
def vp(h0:cw C a₀)(hn:p+nrem<=a₀.size)(h1:1<=n)(hnn:n<=nrem)(hB:SB kd a₀ st)
  (hs:Fal C (arrOf st) p (p+n))
  (h:∀m st',SB kd a₀ st'->cy p (arrOf st) (arrOf st')->pendingOf st'=pendingOf st->1<=m->m<=nrem->Srt C (arrOf st') p (p+m)->Q (some m) st') :
  wpS (model prog w) A E s (tO p n nrem) Q st:=by
 unfold tO;have hsz:p+n<=(arrOf st).size:=by rw[hB.size];lia
 refine wpS_bind (lj ?_);have hB':=hB.arr (mirror_perm (arrOf st) p (p+n) ((p+n - p) / 2));refine wpS_bind (uH h0 hn h1 hnn hB' (fun i j hi hij hj=>?_) fun m a1 a2 a3 _=>wpS_pure (h m _ hB' (e8 hsz (qah _)) rfl (by lia) a2 a3));show O.kle (kk C (mirror _ _ _ _) i) (kk C (mirror _ _ _ _) j);rw[j6 hsz,j6 hsz,qai (by lia),qai (by lia)];exact hs _ _ (by lia) (by lia) (by lia)
def wps_dsc{p n nrem:Nat}{Q:DS->SortSt->Prop}(h0:cw C a₀)(hn:p+nrem<=a₀.size)(h1:1<=n)(hnn:n<=nrem)(hB:SB kd a₀ st)(hs:Fal C (arrOf st) p (p+n))
  (h:∀m q st',SB kd a₀ st'->cy p (arrOf st) (arrOf st')->pendingOf st'=pendingOf st->n<=m->m<=nrem->Fal C (arrOf st') p (p+m)->q+1<=m ->
   (∀i,p+m - (q+1)<=i->i<p+m->kk C (arrOf st') i=kk C (arrOf st') (p+m - 1))->Q (none,m,q) st') :
  wpS (model prog w) A E s (tw p n nrem) Q st:=by
 unfold tw
 refine wpS_forRange (I:=fun x c st'=>∃q,c=(none,x,q)/\SB kd a₀ st'/\cy p (arrOf st) (arrOf st')/\pendingOf st'=pendingOf st/\Fal C (arrOf st') p (p+x)/\q+1<=x /\
   ∀i,p+x - (q+1)<=i->i<p+x->kk C (arrOf st') i=kk C (arrOf st') (p+x - 1)) ?_ ?_ ⟨0,rfl,hB,cy.rfl',rfl,hs,by lia,fun i a b=>by congr 1;lia⟩
 ·rintro x c st' hx1 hx2 ⟨q,rfl,hB',hsm,hpd,hf,hq,he⟩;have hsz:p+x<=(arrOf st').size:=by rw[hB'.size];lia
  have grow:∀xs:Array Keyed,(∀i,kk C xs i=kk C (arrOf st') i)->O.kle (kk C (arrOf st') (p+x)) (kk C (arrOf st') (p+x - 1))->Fal C xs p (p+(x+1)):=by
   intro xs hk hle i j hi hij hj;rw[hk,hk];by_cases hjx:j<p+x
   ·exact hf i j hi hij hjx
   ·have e:j=p+x:=by lia
    subst e;by_cases hi':i=p+x
    ·subst hi';exact KeyOrd.kle_refl _
    ·exact KeyOrd.kle_trans hle (hf i (p+x - 1) hi (by lia) (by lia))
  dsimp only;refine wpS_bind (j5 hB' h0 (by lia) (by lia) ?_)
  cases hz:O.blt (kk C (arrOf st') (p+x)) (kk C (arrOf st') (p+x - 1)) with
  | true =>
   dsimp only;rw[qai rfl];by_cases hq0:q>0
   ·rw[qai hq0];refine wpS_bind (lj (wpS_pure ⟨0,rfl,hB'.arr (mirror_perm _ _ _ _),hsm.trans (e8 hsz (by lia)),hpd,grow _ (dk hsz he) (KeyOrd.kle_of_klt hz),by lia,fun i a b=>by congr 1;lia⟩))
   ·rw[qal hq0];exact wpS_pure ⟨0,rfl,hB',hsm,hpd,grow _ (fun _=>rfl) (KeyOrd.kle_of_klt hz),by lia,fun i a b=>by congr 1;lia⟩
  | false =>
   dsimp only;rw[qal (by simp)];refine wpS_bind (j5 hB' h0 (by lia) (by lia) ?_)
   cases hz2:O.blt (kk C (arrOf st') (p+x - 1)) (kk C (arrOf st') (p+x)) with
   | true =>
    dsimp only;rw[qai rfl];exact wpS_pure (h x q st' hB' hsm hpd hx1 (by lia) hf hq he)
   | false =>
    dsimp only;rw[qal (by simp)];have heq:kk C (arrOf st') (p+x)=kk C (arrOf st') (p+x - 1):=KeyOrd.kle_antisymm hz2 hz;refine wpS_pure ⟨q+1,rfl,hB',hsm,hpd,grow _ (fun _=>rfl) hz2,by lia,fun i a b=>?_⟩;have e1:p+(x+1) - 1=p+x:=by lia
    rw[e1];by_cases hix:i=p+x
    ·subst hix;rfl
    ·rw[heq];exact he i (by lia) (by lia)
 ·rintro c st' ⟨q,rfl,hB',hsm,hpd,hf,hq,he⟩;have e:max n nrem=nrem:=by lia
  rw[e] at hf hq he ⊢;exact h nrem q st' hB' hsm hpd hnn (qah _) hf hq he
def sG{p n nrem:Nat}{Q:Option Nat->SortSt->Prop}(h0:cw C a₀)(hn:p+nrem<=a₀.size)(hnn:n+1<=nrem)(hB:SB kd a₀ st)(hs:Fal C (arrOf st) p (p+(n+1)))
  (h:∀m st',SB kd a₀ st'->cy p (arrOf st) (arrOf st')->pendingOf st'=pendingOf st->1<=m->m<=nrem->Srt C (arrOf st') p (p+m)->Q (some m) st') :
  wpS (model prog w) A E s (sh p n nrem) Q st:=by
 unfold sh;refine wpS_bind (wpS_lift (wpAny_rule ⟨rfl,?_⟩));refine wpS_bind (wps_dsc h0 hn (by lia) hnn hB hs fun m q st' hB' hsm hpd hm1 hm2 hf hq he=>?_);dsimp only;have hsz:p+m<=(arrOf st').size:=by rw[hB'.size];lia
 by_cases hq0:q>0
 ·rw[qai hq0];refine wpS_bind (lj (vp h0 hn (by lia) hm2 (hB'.arr (mirror_perm _ _ _ _)) ?_ fun m2 st2 b1 b2 b3=>h m2 st2 b1 ((hsm.trans (e8 hsz (by lia))).trans b2) (b3.trans hpd)));intro i j hi hij hj;show O.kle (kk C (mirror _ _ _ _) j) (kk C (mirror _ _ _ _) i);rw[dk hsz he,dk hsz he];exact hf i j hi hij hj
 ·rw[qal hq0];exact vp h0 hn (by lia) hm2 hB' hf fun m2 st2 b1 b2 b3=>h m2 st2 b1 (hsm.trans b2) (b3.trans hpd)
def uB(h0:cw C a₀)(hn:p+nrem<=a₀.size)(h1:1<=nrem)(hB:SB kd a₀ st)
  (h:∀m st',SB kd a₀ st'->cy p (arrOf st) (arrOf st')->pendingOf st'=pendingOf st->1<=m->m<=nrem->Srt C (arrOf st') p (p+m)->Q (some m) st') :
  wpS (model prog w) A E s (countRun' p nrem) Q st:=by
 rw[run_eq];refine wpS_bind (uH h0 hn (qah 1) h1 hB (fun i j hi hij hj=>by have e:i=j:=(by lia);subst e;exact KeyOrd.kle_refl _) fun n a1 a2 hsn hor=>?_);dsimp only;by_cases hnn:n=nrem
 ·rw[qai (by simpa using hnn)];exact wpS_pure (h n st hB cy.rfl' rfl a1 a2 hsn)
 ·rw[qal (by simpa using hnn)];have hlt:=hor.resolve_left hnn;by_cases hgt:n>1
  ·rw[qai hgt];refine wpS_bind (j5 hB h0 (by lia) (by lia) ?_)
   cases hz:O.blt (kk C (arrOf st) p) (kk C (arrOf st) (p+n - 1)) with
   | true =>
    dsimp only;rw[qai rfl];exact wpS_pure (h n st hB cy.rfl' rfl a1 a2 hsn)
   | false =>
    dsimp only;rw[qal (by simp)];have hsz:p+n<=(arrOf st).size:=by rw[hB.size];lia
    have hall:∀q,p<=q->q<p+n->kk C (arrOf st) q=kk C (arrOf st) (p+n - 1):=fun q b1 b2 =>
     KeyOrd.kle_antisymm (hsn q (p+n - 1) b1 (by lia) (by lia)) (KeyOrd.kle_trans hz (hsn p q (qah _) b1 b2))
    refine wpS_bind (lj (sG h0 hn (by lia) (hB.arr (mirror_perm _ _ _ _)) ?_ fun m2 st2 b1 b2 b3=>h m2 st2 b1 ((e8 hsz (qah _)).trans b2) b3));intro i j hi hij hj;show O.kle (kk C (mirror _ _ _ _) j) (kk C (mirror _ _ _ _) i);rw[dk hsz hall,dk hsz hall];by_cases hjn:j<p+n
    ·rw[hall i hi (by lia),hall j (by lia) hjn];exact KeyOrd.kle_refl _
    ·have e:j=p+n:=by lia
     subst e;by_cases hi':i=p+n
     ·subst hi';exact KeyOrd.kle_refl _
     ·rw[hall i hi (by lia)];exact KeyOrd.kle_of_klt hlt
  ·rw[qal hgt];have e:n=1:=by lia
   subst e;refine sG h0 hn (by lia) hB ?_ h;intro i j hi hij hj;by_cases hi':i=j
   ·subst hi';exact KeyOrd.kle_refl _
   ·have e1:i=p:=by lia
    have e2:j=p+1:=by lia
    subst e1;subst e2;exact KeyOrd.kle_of_klt hlt
end
section
variable {prog:Program} {w:World} {A:Around} {E:Value→Shared→Prop} {s:Shared} {kd:SortKind} {O:KeyOrd} {C:Cmp prog w A E s kd O} {a₀:Array Keyed} {st:SortSt}
def uF(h0:cw C a₀)(hn:p+n<=a₀.size)(hok:ok<=n)(hB:SB kd a₀ st)(hs:Srt C (arrOf st) p (p+ok))
  (h:∀st',SB kd a₀ st'->cy p (arrOf st) (arrOf st')->pendingOf st'=pendingOf st->Srt C (arrOf st') p (p+n)->Q true st'):wpS (model prog w) A E s (binarySort' p n ok) Q st:=by
 rw[binarySort'_eq]
 refine wpS_bind (wpS_mono (wpS_forRange (I:=fun k c st'=>c=(none,())/\SB kd a₀ st'/\cy p (arrOf st) (arrOf st')/\pendingOf st'=pendingOf st/\Srt C (arrOf st') p (p+min k n))
  (Q:=fun c st'=>c=(none,())/\SB kd a₀ st'/\cy p (arrOf st) (arrOf st')/\pendingOf st'=pendingOf st/\Srt C (arrOf st') p (p+n)) ?_ ?_ ?_) ?_)
 ·rintro k c st' hk1 hk2 ⟨rfl,hB',hsm,hpd,hs'⟩;have ek:min k n=k:=by lia
  rw[ek] at hs'
  refine wpS_bind (wpS_mono (wpS_forRange (I:=fun x c st''=>st''=st'/\∃l r,c=(none,l,r)/\l<=r/\r<=k/\r - l<=k - x /\
    (∀i,p<=i->i<p+l->O.kle (kk C (arrOf st') i) (kk C (arrOf st') (p+k)))/\∀i,p+r<=i->i<p+k->O.klt (kk C (arrOf st') (p+k)) (kk C (arrOf st') i))
   (Q:=fun c st''=>st''=st'/\∃l r,c=(none,l,r)/\l<=k /\
    (∀i,p<=i->i<p+l->O.kle (kk C (arrOf st') i) (kk C (arrOf st') (p+k)))/\∀i,p+l<=i->i<p+k->O.klt (kk C (arrOf st') (p+k)) (kk C (arrOf st') i)) ?_ ?_ ?_) ?_)
  ·rintro x c st'' _ hx ⟨rfl,l,r,rfl,hlr,hrk,hm,hlo,hhi⟩;dsimp only;by_cases hge:l>=r
   ·rw[qai hge];have e:l=r:=by lia
    subst e;exact wpS_pure ⟨rfl,l,l,rfl,hrk,hlo,hhi⟩
   ·rw[qal hge];refine wpS_bind (j5 hB' h0 (by lia) (by lia) ?_)
    cases hz:O.blt (kk C (arrOf st'') (p+k)) (kk C (arrOf st'') (p+(l+r) / 2)) with
    | true =>
     simp only[if_true];exact wpS_pure ⟨rfl,l,(l+r) / 2,rfl,by lia,by lia,by lia,hlo,fun i a b=>KeyOrd.klt_of_klt_of_kle hz (hs' _ _ (by lia) a b)⟩
    | false =>
     simp only[qac,if_false];exact wpS_pure ⟨rfl,(l+r) / 2+1,r,rfl,by lia,by lia,by lia,fun i a b=>KeyOrd.kle_trans (hs' i (p+(l+r) / 2) a (by lia) (by lia)) hz,hhi⟩
  ·rintro c st'' ⟨rfl,l,r,rfl,hlr,hrk,hm,hlo,hhi⟩;have e:l=r:=by lia
   subst e;exact⟨rfl,l,l,rfl,hrk,hlo,hhi⟩
  ·exact⟨rfl,0,k,rfl,by lia,by lia,by lia,fun i a b=>by lia,fun i a b=>by lia⟩
  ·rintro c st'' ⟨rfl,l,r,rfl,hlk,hlo,hhi⟩;dsimp only;rw[moveDown'_eq];have hks:p+k<(arrOf st'').size:=by rw[hB'.size];lia
   have ed:p+k - (p+l)=k - l:=by lia
   rw[ed];refine wpS_bind (wpS_modify (wpS_pure ⟨rfl,hB'.arr (bubble_perm _ _ _),hsm.trans (ub hks (by lia) (by lia)),hpd,?_⟩));have e1:min (k+1) n=k+1:=by lia
   rw[e1];intro i j hi hij hj;show O.kle (kk C (bubble (arrOf st'') (p+k) (k - l)) i) (kk C (bubble (arrOf st'') (p+k) (k - l)) j);have e2:p+k - (k - l)=p+l:=by lia
   rw[pA hks (by lia),pA hks (by lia),e2]
   repeat' split
   all_goals first
    | (exfalso;lia)
    | exact KeyOrd.kle_refl _
    | exact hlo _ (by lia) (by lia)
    | exact KeyOrd.kle_of_klt (hhi _ (by lia) (by lia))
    | exact hs' _ _ (by lia) (by lia) (by lia)
 ·rintro c st' ⟨hc,hB',hsm,hpd,hs'⟩;refine⟨hc,hB',hsm,hpd,?_⟩;have e:min (max (max ok 1) n) n=n:=by lia
  rwa [e] at hs'
 ·refine⟨rfl,hB,cy.rfl',rfl,fun i j hi hij hj=>?_⟩;by_cases h1:ok=0
  ·have e:i=j:=by lia
   subst e;exact KeyOrd.kle_refl _
  ·exact hs i j hi hij (by lia)
 ·rintro c st' ⟨rfl,hB',hsm,hpd,hs'⟩;exact wpS_pure (h st' hB' hsm hpd hs')
def gallop':Bool->Keyed->Array Keyed->Nat->Nat->Nat->StateT SortSt Sem (Option Nat):=sortPriv% PySem.Builtin.gallop
def mH(left:Bool)(key:Keyed)(arr:Array Keyed)(base i:Nat):StateT SortSt Sem (Option Bool):=do
 let x <-elem' arr (base+i)
 if left then lt' x key else return (<-lt' key x).map (!·)
def vz(left:Bool)(key:Keyed)(arr:Array Keyed)(base n hint:Nat):gallop' left key arr base n hint=(do
  let mut la:=0
  let mut of:=1
  let mut lo:=0
  let mut hi:=0
  let some rt <-mH left key arr base hint|return none
  if rt then
   let mx:=n - hint
   for _ in [0:n] do
    if of>=mx then break
    let some q <-mH left key arr base (hint+of)|return none
    if !q then break
    la:=of
    of:=2 * of+1
   lo:=hint+la+1
   hi:=hint+min of mx
  else
   let mx:=hint+1
   for _ in [0:n] do
    if of>=mx then break
    let some q <-mH left key arr base (hint - of)|return none
    if q then break
    la:=of
    of:=2 * of+1
   lo:=hint+1 - min of mx
   hi:=hint - la
  for _ in [0:n] do
   if lo>=hi then break
   let m:=lo+(hi - lo) / 2
   let some q <-mH left key arr base m|return none
   if q then lo:=m+1 else hi:=m
  return some hi):=rfl
def ahead(C:Cmp prog w A E s kd O)(left:Bool)(key:Keyed)(arr:Array Keyed)(i:Nat):Bool:=if left then O.blt (kk C arr i) (C.key key) else !O.blt (C.key key) (kk C arr i)
def lz(hk:kindOf st=kd)(hg:cw C arr)(hkey:C.good key)(hi:base+i<arr.size)
  (h:Q (some (ahead C left key arr (base+i))) st):wpS (model prog w) A E s (mH left key arr base i) Q st:=by
 unfold mH;refine wpS_bind (aY hi fun x hx=>?_);unfold ahead at h;rw[aV hx] at h
 cases left with
 | true =>
  simp only[if_true] at h ⊢;exact C.ask x key st Q (bt hg hx) hkey hk h
 | false =>
  simp only[qac,if_false] at h ⊢;exact wpS_bind (C.ask key x st _ hkey (bt hg hx) hk (wpS_pure h))
def halfL(left:Bool)(key:Keyed)(arr:Array Keyed)(base n lo hi:Nat):StateT SortSt Sem DS :=
 forIn [:n] ((none,lo,hi):DS) fun _ c =>
  if c.2.1>=c.2.2 then pure (ForInStep.done (none,c.2.1,c.2.2))
  else do
   let q <-mH left key arr base (c.2.1+(c.2.2 - c.2.1) / 2)
   match q with
   | some q=>if q=true then pure (ForInStep.yield (none,c.2.1+(c.2.2 - c.2.1) / 2+1,c.2.2)) else pure (ForInStep.yield (none,c.2.1,c.2.1+(c.2.2 - c.2.1) / 2))
   | _=>pure (ForInStep.done (some none,c.2.1,c.2.2))
section
variable {left:Bool} {key:Keyed} {arr:Array Keyed} {base n:Nat}
def fV(hn:base+n<=arr.size)(hs:Srt C arr base (base+n)):∀i j,i<=j->j<n->ahead C left key arr (base+j)=true->ahead C left key arr (base+i)=true:=by
 intro i j hij hj;have hle:=hs (base+i) (base+j) (by lia) (by lia) (by lia);unfold ahead
 cases left with
 | true=>simp only[if_true];exact fun q=>KeyOrd.klt_of_kle_of_klt hle q
 | false =>
  simp only[qac,if_false,qbC];exact fun q=>KeyOrd.kle_trans hle q
def jP(hn:base+n<=arr.size)(hs:Srt C arr base (base+n)):∀i j,i<=j->j<n->ahead C left key arr (base+i)=false->ahead C left key arr (base+j)=false:=by
 intro i j hij hj hi
 cases hj':ahead C left key arr (base+j) with
 | false=>rfl
 | true=>rw[fV hn hs i j hij hj hj'] at hi;cases hi
def tL{lo hi:Nat}{Q:DS->SortSt->Prop}(hk:kindOf st=kd)(hg:cw C arr)(hkey:C.good key)(hn:base+n<=arr.size)(hs:Srt C arr base (base+n))
  (hlh:lo<=hi) (hhn:hi<=n) (h1:∀i,i<lo->ahead C left key arr (base+i)=true) (h2:∀i,hi<=i->i<n->ahead C left key arr (base+i)=false)
  (h:∀k,k<=n->(∀i,i<k->ahead C left key arr (base+i)=true)->(∀i,k<=i->i<n->ahead C left key arr (base+i)=false)->Q (none,k,k) st) :
  wpS (model prog w) A E s (halfL left key arr base n lo hi) Q st:=by
 unfold halfL;refine wpS_forRange (I:=fun x c st'=>st'=st/\∃l r,c=(none,l,r)/\l<=r/\r<=n/\r - l<=n - x/\(∀i,i<l->ahead C left key arr (base+i)=true)/\∀i,r<=i->i<n->ahead C left key arr (base+i)=false)
  ?_ ?_ ⟨rfl,lo,hi,rfl,hlh,hhn,by lia,h1,h2⟩
 ·rintro x c st' _ hx ⟨rfl,l,r,rfl,hlr,hrn,hm,ha,hb⟩;dsimp only;by_cases hge:l>=r
  ·rw[qai hge];have e:l=r:=by lia
   subst e;exact wpS_pure (h l hrn ha hb)
  ·rw[qal hge];refine wpS_bind (lz hk hg hkey (by lia) ?_)
   cases hz:ahead C left key arr (base+(l+(r - l) / 2)) with
   | true =>
    simp only[if_true];exact wpS_pure ⟨rfl,_,_,rfl,by lia,by lia,by lia,fun i hi=>fV hn hs i (l+(r - l) / 2) (by lia) (by lia) hz,hb⟩
   | false =>
    simp only[qac,if_false];exact wpS_pure ⟨rfl,_,_,rfl,by lia,by lia,by lia,ha,fun i a b=>jP hn hs (l+(r - l) / 2) i a b hz⟩
 ·rintro c st' ⟨rfl,l,r,rfl,hlr,hrn,hm,ha,hb⟩;have e:l=r:=by lia
  subst e;exact h l hrn ha hb
def du{hint:Nat}{Q:Option Nat->SortSt->Prop}(hk:kindOf st=kd)(hg:cw C arr)(hkey:C.good key)(hn:base+n<=arr.size)(hh:hint<n)(hs:Srt C arr base (base+n))
  (h:∀k,k<=n->(∀i,i<k->ahead C left key arr (base+i)=true)->(∀i,k<=i->i<n->ahead C left key arr (base+i)=false)->Q (some k) st) :
  wpS (model prog w) A E s (gallop' left key arr base n hint) Q st:=by
 rw[vz];dsimp only;refine wpS_bind (lz hk hg hkey (by lia) ?_);dsimp only
 cases hz:ahead C left key arr (base+hint) with
 | true =>
  simp only[if_true]
  refine wpS_bind (wpS_mono (wpS_forRange (I:=fun x c st'=>st'=st/\∃la of,c=(none,la,of)/\la<of/\x+1<=of/\hint+la<n/\ahead C left key arr (base+(hint+la))=true)
   (Q:=fun c st'=>st'=st/\∃la of,c=(none,la,of)/\la<of/\hint+la<n/\ahead C left key arr (base+(hint+la))=true/\(n - hint<=of\/of<n - hint/\ahead C left key arr (base+(hint+of))=false)) ?_ ?_
    ⟨rfl,0,1,rfl,by lia,by lia,hh,hz⟩) ?_)
  ·rintro x c st' _ hx ⟨rfl,la,of,rfl,h1,h2,h3,h4⟩;dsimp only;by_cases hge:of>=n - hint
   ·rw[qai hge];exact wpS_pure ⟨rfl,la,of,rfl,h1,h3,h4,.inl hge⟩
   ·rw[qal hge];refine wpS_bind (lz hk hg hkey (by lia) ?_)
    cases hy:ahead C left key arr (base+(hint+of)) with
    | true =>
     simp only[qaH,qac,if_false];exact wpS_pure ⟨rfl,_,_,rfl,by lia,by lia,by lia,hy⟩
    | false =>
     simp only[Bool.not_false,if_true];exact wpS_pure ⟨rfl,la,of,rfl,h1,h3,h4,.inr ⟨by lia,hy⟩⟩
  ·rintro c st' ⟨rfl,la,of,rfl,h1,h2,h3,h4⟩;exact⟨rfl,la,of,rfl,h1,h3,h4,.inl (by lia)⟩
  ·rintro c st' ⟨rfl,la,of,rfl,h1,h3,h4,h5⟩;dsimp only;refine wpS_bind (tL (lo:=hint+la+1) (hi:=hint+min of (n - hint)) hk hg hkey hn hs (by lia) (by lia) (fun i hi=>fV hn hs i (hint+la) (by lia) h3 h4) (fun i a b=>?_) fun k a b c=>wpS_pure (h k a b c));rcases h5 with h5|⟨h5,h6⟩
   ·lia
   ·exact jP hn hs (hint+of) i (by lia) b h6
 | false =>
  simp only[qac,if_false]
  refine wpS_bind (wpS_mono (wpS_forRange (I:=fun x c st'=>st'=st/\∃la of,c=(none,la,of)/\la<of/\x+1<=of/\la<=hint/\ahead C left key arr (base+(hint - la))=false)
   (Q:=fun c st'=>st'=st/\∃la of,c=(none,la,of)/\la<of/\la<=hint/\ahead C left key arr (base+(hint - la))=false/\(hint+1<=of\/of<hint+1/\ahead C left key arr (base+(hint - of))=true)) ?_ ?_
    ⟨rfl,0,1,rfl,by lia,by lia,by lia,hz⟩) ?_)
  ·rintro x c st' _ hx ⟨rfl,la,of,rfl,h1,h2,h3,h4⟩;dsimp only;by_cases hge:of>=hint+1
   ·rw[qai hge];exact wpS_pure ⟨rfl,la,of,rfl,h1,h3,h4,.inl hge⟩
   ·rw[qal hge];refine wpS_bind (lz hk hg hkey (by lia) ?_)
    cases hy:ahead C left key arr (base+(hint - of)) with
    | true =>
     simp only[if_true];exact wpS_pure ⟨rfl,la,of,rfl,h1,h3,h4,.inr ⟨by lia,hy⟩⟩
    | false =>
     simp only[qac,if_false];exact wpS_pure ⟨rfl,_,_,rfl,by lia,by lia,by lia,hy⟩
  ·rintro c st' ⟨rfl,la,of,rfl,h1,h2,h3,h4⟩;exact⟨rfl,la,of,rfl,h1,h3,h4,.inl (by lia)⟩
  ·rintro c st' ⟨rfl,la,of,rfl,h1,h3,h4,h5⟩;dsimp only;refine wpS_bind (tL (lo:=hint+1 - min of (hint+1)) (hi:=hint - la) hk hg hkey hn hs (by lia) (by lia) (fun i hi=>?_) (fun i a b=>jP hn hs (hint - la) i a b h4) fun k a b c=>wpS_pure (h k a b c));rcases h5 with h5|⟨h5,h6⟩
   ·lia
   ·exact fV hn hs i (hint - of) (by lia) (by lia) h6
end
end
def jz:Array Keyed->Array Keyed->StateT SortSt Sem (Array Keyed):=sortPriv% PySem.Builtin.mergeLo
def iZ:Nat->StateT SortSt Sem Unit:=sortPriv% PySem.Builtin.setMinGallop
def lh(g:Nat):iZ g=modify fun s=>SortSt.mk' (kindOf s) (arrOf s) (pendingOf s) g (failedOf s):=rfl
def ud(a b:Array Keyed):jz a b=(do
 rule "list.sort.merge-lo"
 let tot:=a.size+b.size
 let all (ou:Array Keyed) (i j:Nat):=ou++a.extract i a.size++b.extract j b.size
 let one (ou:Array Keyed) (i j:Nat):=ou++b.extract j b.size++a.extract i a.size
 let mut ou:Array Keyed:=#[<-elem' b 0]
 let mut i:=0
 let mut j:=1
 if j == b.size then return all ou i j
 if i+1 == a.size then return one ou i j
 let mut g:=gallopOf (<-get)
 for _ in [0:tot] do
  let mut na:=0
  let mut nb:=0
  for _ in [0:tot] do
   let some q <-lt' (<-elem' b j) (<-elem' a i)|return all ou i j
   if q then
    ou:=ou.push (<-elem' b j);j:=j+1;nb:=nb+1;na:=0
    if j == b.size then return all ou i j
    if nb>=g then break
   else
    ou:=ou.push (<-elem' a i);i:=i+1;na:=na+1;nb:=0
    if i+1 == a.size then return one ou i j
    if na>=g then break
  rule "list.sort.gallop"
  g:=g+1
  for _ in [0:tot] do
   if g>1 then g:=g - 1
   iZ g
   let some k <-gallop' false (<-elem' b j) a i (a.size - i) 0|return all ou i j
   na:=k
   if k>0 then
    ou:=ou++a.extract i (i+k);i:=i+k
    if i+1 == a.size then return one ou i j
    if i == a.size then return all ou i j
   ou:=ou.push (<-elem' b j);j:=j+1
   if j == b.size then return all ou i j
   let some k <-gallop' true (<-elem' a i) b j (b.size - j) 0|return all ou i j
   nb:=k
   if k>0 then
    ou:=ou++b.extract j (j+k);j:=j+k
    if j == b.size then return all ou i j
   ou:=ou.push (<-elem' a i);i:=i+1
   if i+1 == a.size then return one ou i j
   if na<7 && nb<7 then break
  g:=g+1
  iZ g
 unsupported "internal:list.sort.merge-bound"):=rfl
section
variable {prog:Program} {w:World} {A:Around} {E:Value→Shared→Prop} {s:Shared} {kd:SortKind} {O:KeyOrd} (C:Cmp prog w A E s kd O)
def LS(l:List Keyed):Prop:=l.Pairwise fun x y=>O.kle (C.key x) (C.key y)
def LB(l m:List Keyed):Prop:=∀x∈l,∀y∈m,O.kle (C.key x) (C.key y)
variable {C}
def b7(h1:LS C l)(h2:LS C m)(h3:LB C l m):LS C (l++m):=by
 unfold LS;rw[List.pairwise_append];exact⟨h1,h2,h3⟩
def nu{xs:Array Keyed}{lo hi:Nat}(hhi:hi<=xs.size)(h:Srt C xs lo hi):LS C (xs.extract lo hi).toList:=by
 unfold LS;rw[qbl];intro i j hi' hj' hij;have hsz:(xs.extract lo hi).size=hi - lo:=by simp;lia
 have hi2:i<(xs.extract lo hi).size:=by rw[<-qas];exact hi'
 have hj2:j<(xs.extract lo hi).size:=by rw[<-qas];exact hj'
 have e1:(xs.extract lo hi).toList[i]=xs[lo+i]'(by lia):=by simp
 have e2:(xs.extract lo hi).toList[j]=xs[lo+j]'(by lia):=by simp
 rw[e1,e2]
 have:=h (lo+i) (lo+j) (by lia) (by lia) (by lia)
 rw[aV (getElem?_pos xs (lo+i) (by lia)),aV (getElem?_pos xs (lo+j) (by lia))] at this;exact this
def kH(h:LS C xs.toList):Srt C xs 0 xs.size:=by
 intro i j _ hij hj;rw[aV (getElem?_pos xs i (by lia)),aV (getElem?_pos xs j hj)];by_cases e:i=j
 ·subst e;exact KeyOrd.kle_refl _
 ·unfold LS at h;rw[qbl] at h
  have:=h i j (by simp;lia) (by simpa using hj) (by lia)
  simpa using this
structure MI (C:Cmp prog w A E s kd O) (a b ou:Array Keyed) (i j:Nat):Prop where
 perm:(ou.toList++(a.toList.drop i++b.toList.drop j)).Perm (a.toList++b.toList)
 srt:LS C ou.toList
 low:LB C ou.toList (a.toList.drop i++b.toList.drop j)
variable {a b ou:Array Keyed} {i j:Nat}
def MI.size(m:MI C a b ou i j)(hi:i<=a.size)(hj:j<=b.size):ou.size+(a.size - i)+(b.size - j)=a.size+b.size:=by
 have:=m.perm.length_eq
 simp at this;lia
def iK{xs:Array Keyed}{i:Nat}{p:Keyed}(h:xs[i]?=some p):xs.toList.drop i=p::xs.toList.drop (i+1):=by
 have hl:i<xs.toList.length:=by
  have:=(qbc.mp h).1
  simpa using this
 have e:xs.toList[i]=p:=by
  have:=(qbc.mp h).2
  simpa using this
 rw[<-e,qcx hl]
def iP{xs:Array Keyed}(h:LS C xs.toList)(i:Nat):LS C (xs.toList.drop i):=h.sublist (List.drop_sublist i _)
def iD{xs:Array Keyed}(h:LS C xs.toList){i:Nat}{p:Keyed}(hp:xs[i]?=some p):∀y∈xs.toList.drop i,O.kle (C.key p) (C.key y):=by
 have h1:=iP h i;rw[iK hp] at h1 ⊢;unfold LS at h1;rw[qbd] at h1;intro y hy;rcases qao.mp hy with rfl|hy
 ·exact KeyOrd.kle_refl _
 ·exact h1.1 y hy
def MI.pushA(m:MI C a b ou i j)(ha:LS C a.toList)(hb:LS C b.toList){p:Keyed}(hp:a[i]?=some p)(hq:∀q,b[j]?=some q->O.kle (C.key p) (C.key q)):MI C a b (ou.push p) (i+1) j:=by
 have hd:=iK hp;have hle:∀y∈a.toList.drop i++b.toList.drop j,O.kle (C.key p) (C.key y):=by
  intro y hy;rcases qau.mp hy with hy|hy
  ·exact iD ha hp y hy
  ·cases hb':b[j]? with
   | none =>
    have:b.toList.drop j=[]:=qbe (by have:=qbP.mp hb';simpa using this)
    rw[this] at hy;cases hy
   | some q=>exact KeyOrd.kle_trans (hq q hb') (iD hb hb' y hy)
 refine⟨?_,?_,?_⟩
 ·have:=m.perm
  rw[hd] at this;rw[qbb,qbh];exact this
 ·rw[qbb];refine b7 m.srt (by unfold LS;simp) fun x hx y hy=>?_
  have:y=p:=by simpa using hy
  subst this;exact m.low x hx y (qaC _ (by rw[hd];exact qaF))
 ·intro x hx y hy;rw[qbb] at hx;have hy':y∈a.toList.drop i++b.toList.drop j:=by
   rcases qau.mp hy with hy|hy
   ·exact qaC _ (by rw[hd];exact qam _ hy)
   ·exact qaf _ hy
  rcases qau.mp hx with hx|hx
  ·exact m.low x hx y hy'
  ·have:x=p:=by simpa using hx
   subst this;exact hle y hy'
def MI.pushB(m:MI C a b ou i j)(ha:LS C a.toList)(hb:LS C b.toList){p:Keyed}(hp:b[j]?=some p)(hq:∀q,a[i]?=some q->O.kle (C.key p) (C.key q)):MI C a b (ou.push p) i (j+1):=by
 have hd:=iK hp;have hle:∀y∈a.toList.drop i++b.toList.drop j,O.kle (C.key p) (C.key y):=by
  intro y hy;rcases qau.mp hy with hy|hy
  ·cases ha':a[i]? with
   | none =>
    have:a.toList.drop i=[]:=qbe (by have:=qbP.mp ha';simpa using this)
    rw[this] at hy;cases hy
   | some q=>exact KeyOrd.kle_trans (hq q ha') (iD ha ha' y hy)
  ·exact iD hb hp y hy
 refine⟨?_,?_,?_⟩
 ·have:=m.perm
  rw[hd] at this;rw[qbb,qbh];refine List.Perm.trans (List.Perm.append_left _ ?_) this;show (p::(a.toList.drop i++b.toList.drop (j+1))).Perm _;exact qbG.symm
 ·rw[qbb];refine b7 m.srt (by unfold LS;simp) fun x hx y hy=>?_
  have:y=p:=by simpa using hy
  subst this;exact m.low x hx y (qaf _ (by rw[hd];exact qaF))
 ·intro x hx y hy;rw[qbb] at hx;have hy':y∈a.toList.drop i++b.toList.drop j:=by
   rcases qau.mp hy with hy|hy
   ·exact qaC _ hy
   ·exact qaf _ (by rw[hd];exact qam _ hy)
  rcases qau.mp hx with hx|hx
  ·exact m.low x hx y hy'
  ·have:x=p:=by simpa using hx
   subst this;exact hle y hy'
def ku{xs:Array Keyed}{i k:Nat}{p:Keyed}(h:xs[i+k]?=some p):xs.extract i (i+(k+1))=(xs.extract i (i+k)).push p:=by
 have hl:=(qbc.mp h).1;apply qbg.mp;simp only[qbz,qbb,qaI];have e1:i+(k+1) - i=k+1:=by lia
 have e2:i+k - i=k:=by lia
 rw[e1,e2,qcq,qbW,qaq,h];rfl
def MI.moveA(m:MI C a b ou i j)(ha:LS C a.toList)(hb:LS C b.toList):∀k,i+k<=a.size->(∀r p q,r<k->a[i+r]?=some p->b[j]?=some q->O.kle (C.key p) (C.key q))->MI C a b (ou++a.extract i (i+k)) (i+k) j:=by
 intro k
 induction k with
 | zero =>
  intro _ _;have e:ou++a.extract i (i+0)=ou:=by apply qbg.mp;simp[qaI]
  rw[e];exact m
 | succ k ih =>
  intro hk hq;have hp:a[i+k]?=some (a[i+k]'(by lia)):=getElem?_pos a (i+k) (by lia);have m1:=(ih (by lia) fun r p q hr=>hq r p q (by lia)).pushA ha hb hp (fun q hq'=>hq k _ q (by lia) hp hq');have e:ou++(a.extract i (i+k)).push (a[i+k]'(by lia))=(ou++a.extract i (i+k)).push (a[i+k]'(by lia)):=by apply qbg.mp;simp
  rw[ku hp,e];exact m1
def MI.moveB(m:MI C a b ou i j)(ha:LS C a.toList)(hb:LS C b.toList):∀k,j+k<=b.size->(∀r p q,r<k->b[j+r]?=some p->a[i]?=some q->O.kle (C.key p) (C.key q))->MI C a b (ou++b.extract j (j+k)) i (j+k):=by
 intro k
 induction k with
 | zero =>
  intro _ _;have e:ou++b.extract j (j+0)=ou:=by apply qbg.mp;simp[qaI]
  rw[e];exact m
 | succ k ih =>
  intro hk hq;have hp:b[j+k]?=some (b[j+k]'(by lia)):=getElem?_pos b (j+k) (by lia);have m1:=(ih (by lia) fun r p q hr=>hq r p q (by lia)).pushB ha hb hp (fun q hq'=>hq k _ q (by lia) hp hq');have e:ou++(b.extract j (j+k)).push (b[j+k]'(by lia))=(ou++b.extract j (j+k)).push (b[j+k]'(by lia)):=by apply qbg.mp;simp
  rw[ku hp,e];exact m1
def MR(C:Cmp prog w A E s kd O)(a b out:Array Keyed):Prop:=out.toList.Perm (a.toList++b.toList)/\LS C out.toList
def gz{xs:Array Keyed}{i:Nat}:(xs.extract i xs.size).toList=xs.toList.drop i:=by
 rw[qbz,qaI];exact qbr (by simp)
def MI.all(m:MI C a b ou i j)(ha:LS C a.toList)(hb:LS C b.toList)(h:a.size<=i\/b.size<=j):MR C a b (ou++a.extract i a.size++b.extract j b.size):=by
 have e:(ou++a.extract i a.size++b.extract j b.size).toList=ou.toList++(a.toList.drop i++b.toList.drop j):=by
  rw[qaV,qaV,gz,gz,qbh]
 unfold MR;rw[e];refine⟨m.perm,b7 m.srt ?_ m.low⟩;rcases h with h|h
 ·have:a.toList.drop i=[]:=qbe (by simpa using h)
  rw[this];exact iP hb j
 ·have:b.toList.drop j=[]:=qbe (by simpa using h)
  rw[this,qbV];exact iP ha i
def MI.one(m:MI C a b ou i j)(ha:LS C a.toList)(hb:LS C b.toList)(h:i+1=a.size)(hl:∀x q,x∈b.toList->a[i]?=some q->O.kle (C.key x) (C.key q)):MR C a b (ou++b.extract j b.size++a.extract i a.size):=by
 have e:(ou++b.extract j b.size++a.extract i a.size).toList=ou.toList++(b.toList.drop j++a.toList.drop i):=by
  rw[qaV,qaV,gz,gz,qbh]
 unfold MR;rw[e];have hp:a[i]?=some (a[i]'(by lia)):=getElem?_pos a i (by lia);have hd:=iK hp;have hnil:a.toList.drop (i+1)=[]:=qbe (by simp;lia);rw[hnil] at hd;refine⟨(List.Perm.append_left _ qcC).trans m.perm,b7 m.srt (b7 (iP hb j) (iP ha i) ?_) ?_⟩
 ·intro x hx y hy;rw[hd] at hy
  have:y=a[i]'(by lia):=by simpa using hy
  subst this;exact hl x _ (qcc hx) hp
 ·intro x hx y hy;exact m.low x hx y (qau.mpr (qau.mp hy).symm)
end
structure Eqv (st st':SortSt):Prop where
 kind:kindOf st'=kindOf st
 arr:arrOf st'=arrOf st
 pend:pendingOf st'=pendingOf st
 failed:failedOf st'=failedOf st
def Eqv.rfl'{st:SortSt}:Eqv st st:=⟨rfl,rfl,rfl,rfl⟩
def Eqv.trans{st st1 st2:SortSt}(x:Eqv st st1)(y:Eqv st1 st2):Eqv st st2:=⟨y.kind.trans x.kind,y.arr.trans x.arr,y.pend.trans x.pend,y.failed.trans x.failed⟩
abbrev GS:=Option (Array Keyed) × Array Keyed × Nat × Nat × Nat × Nat × Nat
def loT3(a b ou:Array Keyed)(i j g na nb:Nat):StateT SortSt Sem (ForInStep GS):=do
 let x <-elem' a i
 if (i+1+1 == a.size)=true then pure (ForInStep.done (some (ou.push x++b.extract j b.size++a.extract (i+1) a.size),ou.push x,i+1,j,g,na,nb))
 else if (decide (na<7) && decide (nb<7))=true then pure (ForInStep.done (none,ou.push x,i+1,j,g,na,nb))
 else pure (ForInStep.yield (none,ou.push x,i+1,j,g,na,nb))
def loT2(a b ou:Array Keyed)(i j g na nb:Nat):StateT SortSt Sem (ForInStep GS):=do
 let x <-elem' b j
 if (j+1 == b.size)=true then pure (ForInStep.done (some (ou.push x++a.extract i a.size++b.extract (j+1) b.size),ou.push x,i,j+1,g,na,nb))
 else do
  let y <-elem' a i
  let q <-gallop' true y b (j+1) (b.size - (j+1)) 0
  match q with
  | some k =>
   if k>0 then
    if (j+1+k == b.size)=true then
     pure (ForInStep.done (some (ou.push x++b.extract (j+1) (j+1+k)++a.extract i a.size++b.extract (j+1+k) b.size),ou.push x++b.extract (j+1) (j+1+k),i,j+1+k,g,na,k))
    else loT3 a b (ou.push x++b.extract (j+1) (j+1+k)) i (j+1+k) g na k
   else loT3 a b (ou.push x) i (j+1) g na k
  | _=>pure (ForInStep.done (some (ou.push x++a.extract i a.size++b.extract (j+1) b.size),ou.push x,i,j+1,g,na,nb))
def loT1(a b ou:Array Keyed)(i j g na nb:Nat):StateT SortSt Sem (ForInStep GS):=do
 iZ g
 let x <-elem' b j
 let q <-gallop' false x a i (a.size - i) 0
 match q with
 | some k =>
  if k>0 then
   if (i+k+1 == a.size)=true then
    pure (ForInStep.done (some (ou++a.extract i (i+k)++b.extract j b.size++a.extract (i+k) a.size),ou++a.extract i (i+k),i+k,j,g,k,nb))
   else if (i+k == a.size)=true then
    pure (ForInStep.done (some (ou++a.extract i (i+k)++a.extract (i+k) a.size++b.extract j b.size),ou++a.extract i (i+k),i+k,j,g,k,nb))
   else loT2 a b (ou++a.extract i (i+k)) (i+k) j g k nb
  else loT2 a b ou i j g k nb
 | _=>pure (ForInStep.done (some (ou++a.extract i a.size++b.extract j b.size),ou,i,j,g,na,nb))
abbrev LBt:=Option (Array Keyed) × Array Keyed × Nat × Nat × Nat × Nat
abbrev LCt:=Option (Array Keyed) × Array Keyed × Nat × Nat × Nat
def loP(a b:Array Keyed)(g:Nat)(c:LBt):StateT SortSt Sem (ForInStep LBt):=do
 let x <-elem' b c.2.2.2.1
 let y <-elem' a c.2.2.1
 let q <-lt' x y
 match q with
 | some q =>
  if q=true then do
   let z <-elem' b c.2.2.2.1
   if (c.2.2.2.1+1 == b.size)=true then pure (ForInStep.done (some (c.2.1.push z++a.extract c.2.2.1 a.size++b.extract (c.2.2.2.1+1) b.size),c.2.1.push z,c.2.2.1,c.2.2.2.1+1,0,c.2.2.2.2.2+1))
   else if c.2.2.2.2.2+1>=g then pure (ForInStep.done (none,c.2.1.push z,c.2.2.1,c.2.2.2.1+1,0,c.2.2.2.2.2+1))
   else pure (ForInStep.yield (none,c.2.1.push z,c.2.2.1,c.2.2.2.1+1,0,c.2.2.2.2.2+1))
  else do
   let z <-elem' a c.2.2.1
   if (c.2.2.1+1+1 == a.size)=true then pure (ForInStep.done (some (c.2.1.push z++b.extract c.2.2.2.1 b.size++a.extract (c.2.2.1+1) a.size),c.2.1.push z,c.2.2.1+1,c.2.2.2.1,c.2.2.2.2.1+1,0))
   else if c.2.2.2.2.1+1>=g then pure (ForInStep.done (none,c.2.1.push z,c.2.2.1+1,c.2.2.2.1,c.2.2.2.2.1+1,0))
   else pure (ForInStep.yield (none,c.2.1.push z,c.2.2.1+1,c.2.2.2.1,c.2.2.2.2.1+1,0))
 | _=>pure (ForInStep.done (some (c.2.1++a.extract c.2.2.1 a.size++b.extract c.2.2.2.1 b.size),c.2.1,c.2.2.1,c.2.2.2.1,c.2.2.2.2.1,c.2.2.2.2.2))
def loG(a b:Array Keyed)(c:GS):StateT SortSt Sem (ForInStep GS) :=
 if c.2.2.2.2.1>1 then loT1 a b c.2.1 c.2.2.1 c.2.2.2.1 (c.2.2.2.2.1 - 1) c.2.2.2.2.2.1 c.2.2.2.2.2.2
 else loT1 a b c.2.1 c.2.2.1 c.2.2.2.1 c.2.2.2.2.1 c.2.2.2.2.2.1 c.2.2.2.2.2.2
def loE(c:GS):StateT SortSt Sem (ForInStep LCt) :=
 match c.1 with
 | some r=>pure (ForInStep.done (some r,c.2.1,c.2.2.1,c.2.2.2.1,c.2.2.2.2.1))
 | none=>do
  iZ (c.2.2.2.2.1+1)
  pure (ForInStep.yield (none,c.2.1,c.2.2.1,c.2.2.2.1,c.2.2.2.2.1+1))
def loD(a b:Array Keyed)(g:Nat)(c:LBt):StateT SortSt Sem (ForInStep LCt) :=
 match c.1 with
 | some r=>pure (ForInStep.done (some r,c.2.1,c.2.2.1,c.2.2.2.1,g))
 | none=>do
  liftM (rule "list.sort.gallop")
  let e <-forIn [:a.size+b.size] ((none,c.2.1,c.2.2.1,c.2.2.2.1,g+1,c.2.2.2.2.1,c.2.2.2.2.2):GS) fun _ e=>loG a b e
  loE e
def loO(a b:Array Keyed)(c:LCt):StateT SortSt Sem (ForInStep LCt):=do
 let d <-forIn [:a.size+b.size] ((none,c.2.1,c.2.2.1,c.2.2.2.1,0,0):LBt) fun _ d=>loP a b c.2.2.2.2 d
 loD a b c.2.2.2.2 d
def loZ(a b:Array Keyed)(x:Keyed):StateT SortSt Sem (Array Keyed):=do
 let g <-get
 let r <-forIn [:a.size+b.size] ((none,#[x],0,1,gallopOf g):LCt) fun _ c=>loO a b c
 match r.1 with
 | some r=>pure r
 | none=>liftM (unsupported "internal:list.sort.merge-bound":Sem (Array Keyed))
def lo_n(a b:Array Keyed):jz a b=(do
 liftM (rule "list.sort.merge-lo")
 let x <-elem' b 0
 if (1 == b.size)=true then pure (#[x]++a.extract 0 a.size++b.extract 1 b.size)
 else if (0+1 == a.size)=true then pure (#[x]++b.extract 1 b.size++a.extract 0 a.size)
 else loZ a b x):=by
 rw[ud];dsimp only;refine congrArg (Bind.bind _) (funext fun _=>congrArg (Bind.bind _) (funext fun x=>congrArg (fun z=>ite _ _ (ite _ _ z)) ?_));unfold loZ;have e:∀{α β:Type} {x y:StateT SortSt Sem α} {f h:α->StateT SortSt Sem β},x=y->(∀a,f a=h a)->(x >>= f)=(y >>= h):=fun e f=>by rw[e,funext f]
 refine congrArg (Bind.bind _) (funext fun g=>e (congrArg (forIn _ _) (funext fun _=>funext fun c=>?_)) fun ⟨r,_⟩=>by cases r <;> rfl);refine e rfl fun d=>?_;obtain⟨d1,d2⟩:=d
 cases d1 with
 | some r=>rfl
 | none=>exact congrArg (Bind.bind _) (funext fun _=>e rfl fun ⟨r,_⟩=>by cases r <;> rfl)
section
variable {prog:Program} {w:World} {A:Around} {E:Value→Shared→Prop} {s:Shared} {kd:SortKind} {O:KeyOrd} {C:Cmp prog w A E s kd O} {st:SortSt} {a b:Array Keyed}
structure Two (C:Cmp prog w A E s kd O) (a b:Array Keyed):Prop where
 ga:cw C a
 gb:cw C b
 sa:LS C a.toList
 sb:LS C b.toList
 na:1<=a.size
 nb:1<=b.size
 fst:∀p q,b[0]?=some p->a[0]?=some q->O.kle (C.key p) (C.key q)
 lst:∀x q,x∈b.toList->a[a.size - 1]?=some q->O.kle (C.key x) (C.key q)
def LI(C:Cmp prog w A E s kd O)(a b:Array Keyed)(N:Nat)(c:GS):Prop:=c.1=none/\MI C a b c.2.1 c.2.2.1 c.2.2.2.1/\c.2.2.1+1<a.size/\c.2.2.2.1<b.size/\N<=c.2.1.size
def kj(C:Cmp prog w A E s kd O)(a b:Array Keyed)(N:Nat)(st:SortSt)(r:ForInStep GS)(st':SortSt):Prop:=Eqv st st'/\match r with
 | .done c=>(∃x,c.1=some x/\MR C a b x)\/LI C a b N c
 | .yield c=>LI C a b N c
def uQ(T:Two C a b)(m:MI C a b ou i j)(hi:i+1<a.size)(hj:j<b.size)(hN:N<=ou.size)(hle:∀p q,a[i]?=some p->b[j]?=some q->O.kle (C.key p) (C.key q)) :
  wpS (model prog w) A E s (loT3 a b ou i j g na nb) (kj C a b N st) st:=by
 unfold loT3;refine wpS_bind (aY (by lia) fun x hx=>?_);have m1:=m.pushA T.sa T.sb hx (fun q hq=>hle x q hx hq);have hsz:(ou.push x).size=ou.size+1:=qbn ..;by_cases h1:i+1+1=a.size
 ·rw[qai (by simpa using h1)];exact wpS_pure ⟨Eqv.rfl',.inl ⟨_,rfl,m1.one T.sa T.sb h1 fun y q hy hq=>T.lst y q hy (by rw[<-h1];exact hq)⟩⟩
 ·rw[qal (by simpa using h1)];have li:LI C a b N (none,ou.push x,i+1,j,g,na,nb):=⟨rfl,m1,by show i+1+1<a.size;lia,hj,by show N<=(ou.push x).size;lia⟩;split
  ·exact wpS_pure ⟨Eqv.rfl',.inr li⟩
  ·exact wpS_pure ⟨Eqv.rfl',li⟩
def uS(T:Two C a b)(hk:kindOf st=kd)(m:MI C a b ou i j)(hi:i+1<a.size)(hj:j<b.size)(hN:N<=ou.size)(hle:∀p q,b[j]?=some p->a[i]?=some q->O.kle (C.key p) (C.key q)) :
  wpS (model prog w) A E s (loT2 a b ou i j g na nb) (kj C a b N st) st:=by
 unfold loT2;refine wpS_bind (aY hj fun x hx=>?_);have m1:=m.pushB T.sa T.sb hx (fun q hq=>hle x q hx hq);have hsz:(ou.push x).size=ou.size+1:=qbn ..;by_cases h1:j+1=b.size
 ·rw[qai (by simpa using h1)];exact wpS_pure ⟨Eqv.rfl',.inl ⟨_,rfl,m1.all T.sa T.sb (.inr (by lia))⟩⟩
 ·rw[qal (by simpa using h1)];refine wpS_bind (aY (by lia) fun y hy=>?_);refine wpS_bind (du (C:=C) hk T.gb (bt T.ga hy) (by lia) (by lia) ?_ fun k hkn hlo hhi=>?_)
  ·intro p q hp hpq hq;exact kH T.sb p q (qaM _) hpq (by lia)
  ·have hlo':∀r p q,r<k->b[j+1+r]?=some p->a[i]?=some q->O.kle (C.key p) (C.key q):=fun r p q hr hp hq=>by
    have:=hlo r hr
    unfold ahead at this;rw[aV hp] at this;rw[hy] at hq;cases hq;exact KeyOrd.kle_of_klt this
   have hhi':∀p q,a[i]?=some p->b[j+1+k]?=some q->O.kle (C.key p) (C.key q):=fun p q hp hq=>by
    have hlt:=(qbc.mp hq).1
    have:=hhi k (qah _) (by lia)
    unfold ahead at this;rw[aV hq] at this;rw[hy] at hp;cases hp;exact this
   dsimp only;by_cases hk0:k>0
   ·rw[qai hk0];have m2:=m1.moveB T.sa T.sb k (by lia) hlo';by_cases h2:j+1+k=b.size
    ·rw[qai (by simpa using h2)];exact wpS_pure ⟨Eqv.rfl',.inl ⟨_,rfl,m2.all T.sa T.sb (.inr (by lia))⟩⟩
    ·rw[qal (by simpa using h2)];exact uQ T m2 hi (by lia) (by rw[qbM];lia) hhi'
   ·rw[qal hk0];have e:k=0:=by lia
    subst e;exact uQ T m1 hi (by lia) (by lia) hhi'
def vj(T:Two C a b)(hk:kindOf st=kd)(m:MI C a b ou i j)(hi:i+1<a.size)(hj:j<b.size)(hN:N<=ou.size) :
  wpS (model prog w) A E s (loT1 a b ou i j g na nb) (kj C a b N st) st:=by
 unfold loT1;rw[lh];refine wpS_bind (wpS_modify ?_);have ev:Eqv st (SortSt.mk' (kindOf st) (arrOf st) (pendingOf st) g (failedOf st)):=⟨rfl,rfl,rfl,rfl⟩;refine wpS_mono (Q:=kj C a b N (SortSt.mk' (kindOf st) (arrOf st) (pendingOf st) g (failedOf st))) ?_ fun r st' h=>⟨ev.trans h.1,h.2⟩;have hk':kindOf (SortSt.mk' (kindOf st) (arrOf st) (pendingOf st) g (failedOf st))=kd:=hk;refine wpS_bind (aY hj fun x hx=>?_);refine wpS_bind (du (C:=C) hk' T.ga (bt T.gb hx) (by lia) (by lia) ?_ fun k hkn hlo hhi=>?_)
 ·intro p q hp hpq hq;exact kH T.sa p q (qaM _) hpq (by lia)
 ·have hlo':∀r p q,r<k->a[i+r]?=some p->b[j]?=some q->O.kle (C.key p) (C.key q):=fun r p q hr hp hq=>by
   have:=hlo r hr
   unfold ahead at this;rw[aV hp] at this;rw[hx] at hq;cases hq;simp only[qac,if_false,qbC] at this;exact this
  have hhi':∀p q,b[j]?=some p->a[i+k]?=some q->O.kle (C.key p) (C.key q):=fun p q hp hq=>by
   have hlt:=(qbc.mp hq).1
   have:=hhi k (qah _) (by lia)
   unfold ahead at this;rw[aV hq] at this;rw[hx] at hp;cases hp;simp only[qac,if_false,qcn] at this;exact KeyOrd.kle_of_klt this
  dsimp only;by_cases hk0:k>0
  ·rw[qai hk0];have m2:=m.moveA T.sa T.sb k (by lia) hlo';by_cases h2:i+k+1=a.size
   ·rw[qai (by simpa using h2)];exact wpS_pure ⟨Eqv.rfl',.inl ⟨_,rfl,m2.one T.sa T.sb h2 fun y q hy hq=>T.lst y q hy (by rw[<-h2];exact hq)⟩⟩
   ·rw[qal (by simpa using h2)];by_cases h3:i+k=a.size
    ·rw[qai (by simpa using h3)];exact wpS_pure ⟨Eqv.rfl',.inl ⟨_,rfl,m2.all T.sa T.sb (.inl (by lia))⟩⟩
    ·rw[qal (by simpa using h3)];exact uS T hk' m2 (by lia) hj (by rw[qbM];lia) hhi'
  ·rw[qal hk0];have e:k=0:=by lia
   subst e;exact uS T hk' m hi hj hN hhi'
def L1l(C:Cmp prog w A E s kd O)(a b:Array Keyed)(N:Nat)(c:LBt):Prop:=c.1=none/\MI C a b c.2.1 c.2.2.1 c.2.2.2.1/\c.2.2.1+1<a.size/\c.2.2.2.1<b.size/\N<=c.2.1.size
def L0l(C:Cmp prog w A E s kd O)(a b:Array Keyed)(N:Nat)(c:LCt):Prop:=c.1=none/\MI C a b c.2.1 c.2.2.1 c.2.2.2.1/\c.2.2.1+1<a.size/\c.2.2.2.1<b.size/\N<=c.2.1.size
def Stp1(C:Cmp prog w A E s kd O)(a b:Array Keyed)(N:Nat)(st:SortSt)(r:ForInStep LBt)(st':SortSt):Prop:=match r with
 | .done c=>st'=st/\((∃x,c.1=some x/\MR C a b x)\/L1l C a b N c)
 | .yield c=>st'=st/\L1l C a b N c
def Stp0(C:Cmp prog w A E s kd O)(a b:Array Keyed)(N:Nat)(st:SortSt)(r:ForInStep LCt)(st':SortSt):Prop:=match r with
 | .done c=>Eqv st st'/\∃x,c.1=some x/\MR C a b x
 | .yield c=>Eqv st st'/\L0l C a b N c
def loP_ok(T:Two C a b)(hk':kindOf st=kd)(m':MI C a b ou' i' j')(hi':i'+1<a.size)(hj':j'<b.size)(hN:N<=ou'.size) :
  wpS (model prog w) A E s (loP a b g (none,ou',i',j',na,nb)) (Stp1 C a b (N+1) st) st:=by
 unfold loP;dsimp only;refine wpS_bind (aY hj' fun p hp=>wpS_bind (aY (by lia) fun q hq=>?_));refine wpS_bind (C.ask p q st _ (bt T.gb hp) (bt T.ga hq) hk' ?_)
 cases hz:O.blt (C.key p) (C.key q) with
 | true =>
  dsimp only;rw[qai rfl];refine wpS_bind (aY hj' fun p' hp'=>?_);rw[hp] at hp';cases hp';have m2:=m'.pushB T.sa T.sb hp (fun q' hq'=>by rw[hq] at hq';cases hq';exact KeyOrd.kle_of_klt hz);have hs2:(ou'.push p).size=ou'.size+1:=qbn ..;by_cases h3:j'+1=b.size
  ·rw[qai (by simpa using h3)];exact wpS_pure ⟨rfl,.inl ⟨_,rfl,m2.all T.sa T.sb (.inr (by lia))⟩⟩
  ·rw[qal (by simpa using h3)];split
   ·exact wpS_pure ⟨rfl,.inr ⟨rfl,m2,hi',by lia,by rw[hs2];lia⟩⟩
   ·exact wpS_pure ⟨rfl,rfl,m2,hi',by lia,by rw[hs2];lia⟩
 | false =>
  dsimp only;rw[qal (by simp)];refine wpS_bind (aY (by lia) fun q' hq'=>?_);rw[hq] at hq';cases hq';have m2:=m'.pushA T.sa T.sb hq (fun p' hp'=>by rw[hp] at hp';cases hp';exact hz);have hs2:(ou'.push q).size=ou'.size+1:=qbn ..;by_cases h3:i'+1+1=a.size
  ·rw[qai (by simpa using h3)];exact wpS_pure ⟨rfl,.inl ⟨_,rfl,m2.one T.sa T.sb h3 fun y q hy hq=>T.lst y q hy (by rw[<-h3];exact hq)⟩⟩
  ·rw[qal (by simpa using h3)];split
   ·exact wpS_pure ⟨rfl,.inr ⟨rfl,m2,by lia,hj',by rw[hs2];lia⟩⟩
   ·exact wpS_pure ⟨rfl,rfl,m2,by lia,hj',by rw[hs2];lia⟩
def loE_ok(ev:Eqv st0 st)(hc:(∃x,c.1=some x/\MR C a b x)\/LI C a b N c):wpS (model prog w) A E s (loE c) (Stp0 C a b N st0) st:=by
 obtain⟨c1,ou3,i3,j3,g3,na3,nb3⟩:=c;rcases hc with ⟨r,hr,mr⟩|⟨hc,hr⟩
 ·cases hr;exact wpS_pure ⟨ev,r,rfl,mr⟩
 ·cases hc;unfold loE;dsimp only;rw[lh];exact wpS_bind (wpS_modify (wpS_pure ⟨ev.trans ⟨rfl,rfl,rfl,rfl⟩,rfl,hr⟩))
def loG_ok(T:Two C a b)(hk:kindOf st=kd)(h:LI C a b N c):wpS (model prog w) A E s (loG a b c) (kj C a b N st) st:=by
 obtain⟨_,m3,hi3,hj3,hN3⟩:=h;unfold loG;split
 ·exact vj T hk m3 hi3 hj3 hN3
 ·exact vj T hk m3 hi3 hj3 hN3
def loD_ok(T:Two C a b)(hk:kindOf st=kd)(ev:Eqv st0 st)(hc:(∃x,c.1=some x/\MR C a b x)\/L1l C a b N c):wpS (model prog w) A E s (loD a b g c) (Stp0 C a b N st0) st:=by
 obtain⟨c1,ou',i',j',na,nb⟩:=c;rcases hc with ⟨r,hr,mr⟩|⟨hc,hr⟩
 ·cases hr;exact wpS_pure ⟨ev,r,rfl,mr⟩
 ·cases hc;unfold loD;dsimp only;refine wpS_bind (wpS_lift (wpAny_rule ⟨rfl,?_⟩));refine wpS_bind (wpS_mono (wpS_forRange (I:=fun y c st3=>Eqv st st3/\LI C a b N c) (Q:=fun c st3=>Eqv st st3/\((∃x,c.1=some x/\MR C a b x)\/LI C a b N c)) ?_ ?_ ⟨Eqv.rfl',rfl,hr⟩) ?_)
  ·rintro y c st3 _ hy ⟨ev3,h3⟩;refine wpS_mono (loG_ok T (ev3.kind.trans hk) h3) fun r st4 hr=>?_
   cases r with
   | done c'=>exact⟨ev3.trans hr.1,hr.2⟩
   | yield c'=>exact⟨ev3.trans hr.1,hr.2⟩
  ·rintro c st3 ⟨ev3,hli⟩;exact⟨ev3,.inr hli⟩
  ·rintro c st3 ⟨ev3,hc⟩;exact loE_ok (ev.trans ev3) hc
def loO_ok(T:Two C a b)(hk:kindOf st=kd)(h:L0l C a b N c):wpS (model prog w) A E s (loO a b c) (Stp0 C a b (N+1) st) st:=by
 obtain⟨c1,ou,i,j,g⟩:=c;obtain⟨hc,hm⟩:=h;cases hc;unfold loO
 refine wpS_bind (wpS_mono (wpS_forRange (I:=fun y c st''=>st''=st/\L1l C a b (N+y) c)
  (Q:=fun c st''=>st''=st/\((∃x,c.1=some x/\MR C a b x)\/L1l C a b (N+1) c)) ?_ ?_ ⟨rfl,rfl,hm⟩) ?_)
 ·rintro y c st'' _ hy ⟨rfl,h1⟩;obtain⟨c1,ou',i',j',na,nb⟩:=c;obtain⟨hc,m',hi',hj',hsz'⟩:=h1;cases hc;refine wpS_mono (loP_ok T hk m' hi' hj' hsz') fun r st4 hr=>?_
  cases r with
  | done c'=>exact⟨hr.1,hr.2.imp_right fun h=>⟨h.1,h.2.1,h.2.2.1,h.2.2.2.1,qaw (by lia) h.2.2.2.2⟩⟩
  | yield c'=>exact hr
 ·rintro c st'' ⟨rfl,h⟩
  have:=T.na
  exact⟨rfl,.inr ⟨h.1,h.2.1,h.2.2.1,h.2.2.2.1,qaw (by lia) h.2.2.2.2⟩⟩
 ·rintro c st'' ⟨rfl,hc⟩;exact loD_ok T hk Eqv.rfl' hc
def loZ_ok(T:Two C a b)(hk:kindOf st=kd)(h1:MI C a b #[x0] 0 1)(ha:0+1<a.size)(hb:1<b.size)(h:∀x st',Eqv st st'->MR C a b x->Q x st'):wpS (model prog w) A E s (loZ a b x0) Q st:=by
 unfold loZ;refine wpS_bind (wpS_get ?_)
 refine wpS_bind (wpS_mono (wpS_forRange (I:=fun x c st'=>Eqv st st'/\L0l C a b (x+1) c)
  (Q:=fun c st'=>Eqv st st'/\∃x,c.1=some x/\MR C a b x) ?_ ?_ ⟨Eqv.rfl',rfl,h1,ha,hb,qah _⟩) ?_)
 ·rintro x c st' _ hx ⟨ev,h0⟩;refine wpS_mono (loO_ok T (ev.kind.trans hk) h0) fun r st4 hr=>?_
  cases r with
  | done c'=>exact⟨ev.trans hr.1,hr.2⟩
  | yield c'=>exact⟨ev.trans hr.1,hr.2⟩
 ·rintro c st' ⟨ev,h0⟩;exfalso;have h1:=h0.2.2.1;have h2:=h0.2.2.2.1
  have:=h0.2.1.size (by lia) (by lia)
  have:=h0.2.2.2.2
  lia
 ·rintro c st' ⟨ev,r,hr,mr⟩;obtain⟨c1,c2⟩:=c;cases hr;exact wpS_pure (h r st' ev mr)
def wps_lo(T:Two C a b)(hk:kindOf st=kd)(h:∀x st',Eqv st st'->MR C a b x->Q x st'):wpS (model prog w) A E s (jz a b) Q st:=by
 rw[lo_n];refine wpS_bind (wpS_lift (wpAny_rule ⟨rfl,?_⟩));have hna:=T.na;have hnb:=T.nb;refine wpS_bind (aY (by lia) fun x0 hx0=>?_);have m0:MI C a b #[] 0 0:=⟨by simp,by unfold LS;simp,fun x hx=>by simp at hx⟩;have m1:MI C a b #[x0] 0 1:=by
  have:=m0.pushB T.sa T.sb hx0 (fun q hq=>T.fst x0 q hx0 hq)
  simpa using this
 by_cases h1:1=b.size
 ·rw[qai (by simpa using h1)]
  have:=m1.all T.sa T.sb (.inr (by lia))
  exact wpS_pure (h _ st Eqv.rfl' (by simpa using this))
 ·rw[qal (by simpa using h1)];by_cases h2:0+1=a.size
  ·rw[qai (by simpa using h2)]
   have:=m1.one T.sa T.sb h2 fun y q hy hq=>T.lst y q hy (by rw[<-h2];exact hq)
   exact wpS_pure (h _ st Eqv.rfl' (by simpa using this))
  ·rw[qal (by simpa using h2)];exact loZ_ok T hk m1 (by lia) (by lia) h
end
def jK:Array Keyed->Array Keyed->StateT SortSt Sem (Array Keyed):=sortPriv% PySem.Builtin.mergeHi
def ui(a b:Array Keyed):jK a b=(do
 rule "list.sort.merge-hi"
 let tot:=a.size+b.size
 let all (ou:Array Keyed) (m n:Nat):=a.extract 0 m++b.extract 0 n++ou.reverse
 let one (ou:Array Keyed) (m n:Nat):=b.extract 0 n++a.extract 0 m++ou.reverse
 let mut m:=a.size - 1
 let mut n:=b.size
 let mut ou:Array Keyed:=#[<-elem' a m]
 if m == 0 then return all ou m n
 if n == 1 then return one ou m n
 let mut g:=gallopOf (<-get)
 for _ in [0:tot] do
  let mut ca:=0
  let mut cb:=0
  for _ in [0:tot] do
   let some q <-lt' (<-elem' b (n - 1)) (<-elem' a (m - 1))|return all ou m n
   if q then
    m:=m - 1;ou:=ou.push (<-elem' a m);ca:=ca+1;cb:=0
    if m == 0 then return all ou m n
    if ca>=g then break
   else
    n:=n - 1;ou:=ou.push (<-elem' b n);cb:=cb+1;ca:=0
    if n == 1 then return one ou m n
    if cb>=g then break
  rule "list.sort.gallop"
  g:=g+1
  for _ in [0:tot] do
   if g>1 then g:=g - 1
   iZ g
   let some z <-gallop' false (<-elem' b (n - 1)) a 0 m (m - 1)|return all ou m n
   let k:=m - z
   ca:=k
   if k>0 then
    ou:=ou++(a.extract z m).reverse;m:=z
    if m == 0 then return all ou m n
   n:=n - 1;ou:=ou.push (<-elem' b n)
   if n == 1 then return one ou m n
   let some z <-gallop' true (<-elem' a (m - 1)) b 0 n (n - 1)|return all ou m n
   let k:=n - z
   cb:=k
   if k>0 then
    ou:=ou++(b.extract z n).reverse;n:=z
    if n == 1 then return one ou m n
    if n == 0 then return all ou m n
   m:=m - 1;ou:=ou.push (<-elem' a m)
   if m == 0 then return all ou m n
   if ca<7 && cb<7 then break
  g:=g+1
  iZ g
 unsupported "internal:list.sort.merge-bound"):=rfl
section
variable {prog:Program} {w:World} {A:Around} {E:Value→Shared→Prop} {s:Shared} {kd:SortKind} {O:KeyOrd} {C:Cmp prog w A E s kd O} {a b ou:Array Keyed} {m n:Nat} {st:SortSt}
structure HI (C:Cmp prog w A E s kd O) (a b ou:Array Keyed) (m n:Nat):Prop where
 perm:(a.toList.take m++b.toList.take n++ou.toList.reverse).Perm (a.toList++b.toList)
 srt:LS C ou.toList.reverse
 hgh:LB C (a.toList.take m++b.toList.take n) ou.toList.reverse
def HI.size(h:HI C a b ou m n)(hm:m<=a.size)(hn:n<=b.size):ou.size+m+n=a.size+b.size:=by
 have:=h.perm.length_eq
 simp at this;lia
def lF{xs:Array Keyed}{i:Nat}{p:Keyed}(h:xs[i]?=some p):xs.toList.take (i+1)=xs.toList.take i++[p]:=by
 rw[qcq,qaq,h];rfl
def iQ{xs:Array Keyed}(h:LS C xs.toList)(i:Nat):LS C (xs.toList.take i):=h.sublist (List.take_sublist i _)
def kZ{xs:Array Keyed}(h:LS C xs.toList){i:Nat}{p:Keyed}(hp:xs[i]?=some p):∀y∈xs.toList.take (i+1),O.kle (C.key y) (C.key p):=by
 have h1:=iQ h (i+1);rw[lF hp] at h1 ⊢;unfold LS at h1;rw[List.pairwise_append] at h1;intro y hy;rcases qau.mp hy with hy|hy
 ·exact h1.2.2 y hy p (by simp)
 ·have:y=p:=by simpa using hy
  subst this;exact KeyOrd.kle_refl _
def eD(p:Keyed):(ou.push p).toList.reverse=p::ou.toList.reverse:=by simp
def HI.pushA(h:HI C a b ou (m+1) n)(ha:LS C a.toList)(hb:LS C b.toList){p:Keyed}(hp:a[m]?=some p)(hn:1<=n)(hnb:n<=b.size)(hq:∀q,b[n - 1]?=some q->O.kle (C.key q) (C.key p)):HI C a b (ou.push p) m n:=by
 have hd:=lF hp;obtain⟨q,hqq⟩:∃q,b[n - 1]?=some q:=⟨_,getElem?_pos b (n - 1) (by lia)⟩;have hle:∀y∈a.toList.take m++b.toList.take n,O.kle (C.key y) (C.key p):=by
  intro y hy;rcases qau.mp hy with hy|hy
  ·exact kZ ha hp y (by rw[hd];exact qaC _ hy)
  ·refine KeyOrd.kle_trans (kZ hb hqq y ?_) (hq q hqq)
   have:n - 1+1=n:=by lia
   rw[this];exact hy
 refine⟨?_,?_,?_⟩
 ·have:=h.perm
  rw[hd] at this;rw[eD];refine List.Perm.trans ?_ this;have e1:(a.toList.take m++b.toList.take n++p::ou.toList.reverse).Perm (p::(a.toList.take m++b.toList.take n++ou.toList.reverse)):=qbG;have e2:(a.toList.take m++[p]++b.toList.take n++ou.toList.reverse).Perm (p::(a.toList.take m++b.toList.take n++ou.toList.reverse)):=by
   have:a.toList.take m++[p]++b.toList.take n++ou.toList.reverse=a.toList.take m++p::(b.toList.take n++ou.toList.reverse):=by simp
   rw[this];have q:=qbG (a:=p) (l₁:=a.toList.take m) (l₂:=b.toList.take n++ou.toList.reverse);rw[<-qbh] at q;exact q
  exact e1.trans e2.symm
 ·rw[eD];unfold LS;rw[qbd];refine⟨fun y hy=>h.hgh p (qaC _ (by rw[hd];simp)) y hy,h.srt⟩
 ·rw[eD];intro x hx y hy;rcases qao.mp hy with rfl|hy
  ·exact hle x hx
  ·refine h.hgh x ?_ y hy;rcases qau.mp hx with hx|hx
   ·exact qaC _ (by rw[hd];exact qaC _ hx)
   ·exact qaf _ hx
def HI.pushB(h:HI C a b ou m (n+1))(ha:LS C a.toList)(hb:LS C b.toList){p:Keyed}(hp:b[n]?=some p)(hm:1<=m)(hma:m<=a.size)(hq:∀q,a[m - 1]?=some q->O.kle (C.key q) (C.key p)):HI C a b (ou.push p) m n:=by
 have hd:=lF hp;obtain⟨q,hqq⟩:∃q,a[m - 1]?=some q:=⟨_,getElem?_pos a (m - 1) (by lia)⟩;have hle:∀y∈a.toList.take m++b.toList.take n,O.kle (C.key y) (C.key p):=by
  intro y hy;rcases qau.mp hy with hy|hy
  ·refine KeyOrd.kle_trans (kZ ha hqq y ?_) (hq q hqq)
   have:m - 1+1=m:=by lia
   rw[this];exact hy
  ·exact kZ hb hp y (by rw[hd];exact qaC _ hy)
 refine⟨?_,?_,?_⟩
 ·have:=h.perm
  rw[hd] at this;rw[eD];have e:a.toList.take m++(b.toList.take n++[p])++ou.toList.reverse=a.toList.take m++b.toList.take n++p::ou.toList.reverse:=by simp
  rw[e] at this;exact this
 ·rw[eD];unfold LS;rw[qbd];refine⟨fun y hy=>h.hgh p (qaf _ (by rw[hd];simp)) y hy,h.srt⟩
 ·rw[eD];intro x hx y hy;rcases qao.mp hy with rfl|hy
  ·exact hle x hx
  ·refine h.hgh x ?_ y hy;rcases qau.mp hx with hx|hx
   ·exact qaC _ hx
   ·exact qaf _ (by rw[hd];exact qaC _ hx)
def tJ{xs:Array Keyed}{m k:Nat}{p:Keyed}(hk:k<m)(hm:m<=xs.size)(h:xs[m - (k+1)]?=some p):ou++(xs.extract (m - (k+1)) m).reverse=(ou++(xs.extract (m - k) m).reverse).push p:=by
 apply qbg.mp;simp only[qaV,qcd,qbb,qbz,qaI];have e1:m - (m - (k+1))=k+1:=by lia
 have e2:m - (m - k)=k:=by lia
 have e3:m - (k+1)+1=m - k:=by lia
 rw[e1,e2,iK h,e3,List.take_succ_cons];simp
def HI.moveA(h:HI C a b ou m n)(ha:LS C a.toList)(hb:LS C b.toList)(hm:m<=a.size)(hn:1<=n)(hnb:n<=b.size):∀k,k<=m->(∀r p q,m - k<=r->r<m->a[r]?=some p->b[n - 1]?=some q->O.kle (C.key q) (C.key p)) ->
  HI C a b (ou++(a.extract (m - k) m).reverse) (m - k) n:=by
 intro k
 induction k with
 | zero =>
  intro _ _;have e:ou++(a.extract (m - 0) m).reverse=ou:=by apply qbg.mp;simp[qaI]
  rw[e];exact h
 | succ k ih =>
  intro hk hq;have hp:a[m - (k+1)]?=some (a[m - (k+1)]'(by lia)):=getElem?_pos a _ (by lia);have h1:=ih (by lia) fun r p q hr1 hr2=>hq r p q (by lia) hr2;have e:m - k=m - (k+1)+1:=by lia
  rw[tJ (by lia) hm hp];rw[e] at h1;have h2:=h1.pushA ha hb hp hn hnb (fun q hq'=>hq _ _ q (qah _) (by lia) hp hq');rw[<-e] at h2;exact h2
def HI.moveB(h:HI C a b ou m n)(ha:LS C a.toList)(hb:LS C b.toList)(hn:n<=b.size)(hm:1<=m)(hma:m<=a.size):∀k,k<=n->(∀r p q,n - k<=r->r<n->b[r]?=some p->a[m - 1]?=some q->O.kle (C.key q) (C.key p)) ->
  HI C a b (ou++(b.extract (n - k) n).reverse) m (n - k):=by
 intro k
 induction k with
 | zero =>
  intro _ _;have e:ou++(b.extract (n - 0) n).reverse=ou:=by apply qbg.mp;simp[qaI]
  rw[e];exact h
 | succ k ih =>
  intro hk hq;have hp:b[n - (k+1)]?=some (b[n - (k+1)]'(by lia)):=getElem?_pos b _ (by lia);have h1:=ih (by lia) fun r p q hr1 hr2=>hq r p q (by lia) hr2;have e:n - k=n - (k+1)+1:=by lia
  rw[tJ (by lia) hn hp];rw[e] at h1;have h2:=h1.pushB ha hb hp hm hma (fun q hq'=>hq _ _ q (qah _) (by lia) hp hq');rw[<-e] at h2;exact h2
def gj{xs:Array Keyed}{i:Nat}:(xs.extract 0 i).toList=xs.toList.take i:=by
 rw[qbz,qaI];simp
def HI.all(h:HI C a b ou m n)(ha:LS C a.toList)(hb:LS C b.toList)(hz:m=0\/n=0):MR C a b (a.extract 0 m++b.extract 0 n++ou.reverse):=by
 have e:(a.extract 0 m++b.extract 0 n++ou.reverse).toList=a.toList.take m++b.toList.take n++ou.toList.reverse:=by
  rw[qaV,qaV,gj,gj,qcd]
 unfold MR;rw[e];refine⟨h.perm,b7 ?_ h.srt h.hgh⟩;rcases hz with rfl|rfl
 ·simpa using iQ hb n
 ·simpa using iQ ha m
def HI.one(h:HI C a b ou m n)(T:Two C a b)(hz:n=1):MR C a b (b.extract 0 n++a.extract 0 m++ou.reverse):=by
 subst hz;have e:(b.extract 0 1++a.extract 0 m++ou.reverse).toList=b.toList.take 1++a.toList.take m++ou.toList.reverse:=by
  rw[qaV,qaV,gj,gj,qcd]
 unfold MR;rw[e];have hnb:=T.nb;have hna:=T.na;have hp:b[0]?=some (b[0]'(by lia)):=getElem?_pos b 0 (by lia);have hq:a[0]?=some (a[0]'(by lia)):=getElem?_pos a 0 (by lia);have hd:=lF hp;refine⟨(List.Perm.append_right _ qcC).trans h.perm,b7 (b7 (iQ T.sb 1) (iQ T.sa m) ?_) h.srt ?_⟩
 ·intro x hx y hy;have hx':x=b[0]'(by lia):=by
   have:x∈b.toList.take (0+1):=hx
   rw[hd] at this;simpa using this
  subst hx';refine KeyOrd.kle_trans (T.fst _ _ hp hq) (iD T.sa hq y ?_);rw[List.drop_zero];exact List.mem_of_mem_take hy
 ·intro x hx y hy;exact h.hgh x (qau.mpr (qau.mp hx).symm) y hy
end
abbrev HS:=Option (Array Keyed) × Nat × Nat × Array Keyed × Nat × Nat × Nat
def hiT3(a b ou:Array Keyed)(m n g ca cb:Nat):StateT SortSt Sem (ForInStep HS):=do
 let x <-elem' a (m - 1)
 if (m - 1 == 0)=true then pure (ForInStep.done (some (a.extract 0 (m - 1)++b.extract 0 n++(ou.push x).reverse),m - 1,n,ou.push x,g,ca,cb))
 else if (decide (ca<7) && decide (cb<7))=true then pure (ForInStep.done (none,m - 1,n,ou.push x,g,ca,cb))
 else pure (ForInStep.yield (none,m - 1,n,ou.push x,g,ca,cb))
def hiT2(a b ou:Array Keyed)(m n g ca cb:Nat):StateT SortSt Sem (ForInStep HS):=do
 let x <-elem' b (n - 1)
 if (n - 1 == 1)=true then pure (ForInStep.done (some (b.extract 0 (n - 1)++a.extract 0 m++(ou.push x).reverse),m,n - 1,ou.push x,g,ca,cb))
 else do
  let y <-elem' a (m - 1)
  let q <-gallop' true y b 0 (n - 1) (n - 1 - 1)
  match q with
  | some z =>
   if n - 1 - z>0 then
    if (z == 1)=true then
     pure (ForInStep.done (some (b.extract 0 z++a.extract 0 m++(ou.push x++(b.extract z (n - 1)).reverse).reverse),m,z,ou.push x++(b.extract z (n - 1)).reverse,g,ca,n - 1 - z))
    else if (z == 0)=true then
     pure (ForInStep.done (some (a.extract 0 m++b.extract 0 z++(ou.push x++(b.extract z (n - 1)).reverse).reverse),m,z,ou.push x++(b.extract z (n - 1)).reverse,g,ca,n - 1 - z))
    else hiT3 a b (ou.push x++(b.extract z (n - 1)).reverse) m z g ca (n - 1 - z)
   else hiT3 a b (ou.push x) m (n - 1) g ca (n - 1 - z)
  | _=>pure (ForInStep.done (some (a.extract 0 m++b.extract 0 (n - 1)++(ou.push x).reverse),m,n - 1,ou.push x,g,ca,cb))
def hiT1(a b ou:Array Keyed)(m n g ca cb:Nat):StateT SortSt Sem (ForInStep HS):=do
 iZ g
 let x <-elem' b (n - 1)
 let q <-gallop' false x a 0 m (m - 1)
 match q with
 | some z =>
  if m - z>0 then
   if (z == 0)=true then
    pure (ForInStep.done (some (a.extract 0 z++b.extract 0 n++(ou++(a.extract z m).reverse).reverse),z,n,ou++(a.extract z m).reverse,g,m - z,cb))
   else hiT2 a b (ou++(a.extract z m).reverse) z n g (m - z) cb
  else hiT2 a b ou m n g (m - z) cb
 | _=>pure (ForInStep.done (some (a.extract 0 m++b.extract 0 n++ou.reverse),m,n,ou,g,ca,cb))
abbrev HB:=Option (Array Keyed) × Nat × Nat × Array Keyed × Nat × Nat
abbrev HC:=Option (Array Keyed) × Nat × Nat × Array Keyed × Nat
def hiP(a b:Array Keyed)(g:Nat)(c:HB):StateT SortSt Sem (ForInStep HB):=do
 let x <-elem' b (c.2.2.1 - 1)
 let y <-elem' a (c.2.1 - 1)
 let q <-lt' x y
 match q with
 | some q =>
  if q=true then do
   let z <-elem' a (c.2.1 - 1)
   if (c.2.1 - 1 == 0)=true then pure (ForInStep.done (some (a.extract 0 (c.2.1 - 1)++b.extract 0 c.2.2.1++(c.2.2.2.1.push z).reverse),c.2.1 - 1,c.2.2.1,c.2.2.2.1.push z,c.2.2.2.2.1+1,0))
   else if c.2.2.2.2.1+1>=g then pure (ForInStep.done (none,c.2.1 - 1,c.2.2.1,c.2.2.2.1.push z,c.2.2.2.2.1+1,0))
   else pure (ForInStep.yield (none,c.2.1 - 1,c.2.2.1,c.2.2.2.1.push z,c.2.2.2.2.1+1,0))
  else do
   let z <-elem' b (c.2.2.1 - 1)
   if (c.2.2.1 - 1 == 1)=true then pure (ForInStep.done (some (b.extract 0 (c.2.2.1 - 1)++a.extract 0 c.2.1++(c.2.2.2.1.push z).reverse),c.2.1,c.2.2.1 - 1,c.2.2.2.1.push z,0,c.2.2.2.2.2+1))
   else if c.2.2.2.2.2+1>=g then pure (ForInStep.done (none,c.2.1,c.2.2.1 - 1,c.2.2.2.1.push z,0,c.2.2.2.2.2+1))
   else pure (ForInStep.yield (none,c.2.1,c.2.2.1 - 1,c.2.2.2.1.push z,0,c.2.2.2.2.2+1))
 | _=>pure (ForInStep.done (some (a.extract 0 c.2.1++b.extract 0 c.2.2.1++c.2.2.2.1.reverse),c.2.1,c.2.2.1,c.2.2.2.1,c.2.2.2.2.1,c.2.2.2.2.2))
def hiG(a b:Array Keyed)(c:HS):StateT SortSt Sem (ForInStep HS) :=
 if c.2.2.2.2.1>1 then hiT1 a b c.2.2.2.1 c.2.1 c.2.2.1 (c.2.2.2.2.1 - 1) c.2.2.2.2.2.1 c.2.2.2.2.2.2
 else hiT1 a b c.2.2.2.1 c.2.1 c.2.2.1 c.2.2.2.2.1 c.2.2.2.2.2.1 c.2.2.2.2.2.2
def hiE(c:HS):StateT SortSt Sem (ForInStep HC) :=
 match c.1 with
 | some r=>pure (ForInStep.done (some r,c.2.1,c.2.2.1,c.2.2.2.1,c.2.2.2.2.1))
 | none=>do
  iZ (c.2.2.2.2.1+1)
  pure (ForInStep.yield (none,c.2.1,c.2.2.1,c.2.2.2.1,c.2.2.2.2.1+1))
def hiD(a b:Array Keyed)(g:Nat)(c:HB):StateT SortSt Sem (ForInStep HC) :=
 match c.1 with
 | some r=>pure (ForInStep.done (some r,c.2.1,c.2.2.1,c.2.2.2.1,g))
 | none=>do
  liftM (rule "list.sort.gallop")
  let e <-forIn [:a.size+b.size] ((none,c.2.1,c.2.2.1,c.2.2.2.1,g+1,c.2.2.2.2.1,c.2.2.2.2.2):HS) fun _ e=>hiG a b e
  hiE e
def hiO(a b:Array Keyed)(c:HC):StateT SortSt Sem (ForInStep HC):=do
 let d <-forIn [:a.size+b.size] ((none,c.2.1,c.2.2.1,c.2.2.2.1,0,0):HB) fun _ d=>hiP a b c.2.2.2.2 d
 hiD a b c.2.2.2.2 d
def hiZ(a b:Array Keyed)(x:Keyed):StateT SortSt Sem (Array Keyed):=do
 let g <-get
 let r <-forIn [:a.size+b.size] ((none,a.size - 1,b.size,#[x],gallopOf g):HC) fun _ c=>hiO a b c
 match r.1 with
 | some r=>pure r
 | none=>liftM (unsupported "internal:list.sort.merge-bound":Sem (Array Keyed))
def hi_n(a b:Array Keyed):jK a b=(do
 liftM (rule "list.sort.merge-hi")
 let x <-elem' a (a.size - 1)
 if (a.size - 1 == 0)=true then pure (a.extract 0 (a.size - 1)++b.extract++#[x].reverse)
 else if (b.size == 1)=true then pure (b.extract++a.extract 0 (a.size - 1)++#[x].reverse)
 else hiZ a b x):=by
 rw[ui];dsimp only;refine congrArg (Bind.bind _) (funext fun _=>congrArg (Bind.bind _) (funext fun x=>congrArg (fun z=>ite _ _ (ite _ _ z)) ?_));unfold hiZ;have e:∀{α β:Type} {x y:StateT SortSt Sem α} {f h:α->StateT SortSt Sem β},x=y->(∀a,f a=h a)->(x >>= f)=(y >>= h):=fun e f=>by rw[e,funext f]
 refine congrArg (Bind.bind _) (funext fun g=>e (congrArg (forIn _ _) (funext fun _=>funext fun c=>?_)) fun ⟨r,_⟩=>by cases r <;> rfl);refine e rfl fun d=>?_;obtain⟨d1,d2⟩:=d
 cases d1 with
 | some r=>rfl
 | none=>exact congrArg (Bind.bind _) (funext fun _=>e rfl fun ⟨r,_⟩=>by cases r <;> rfl)
section
variable {prog:Program} {w:World} {A:Around} {E:Value→Shared→Prop} {s:Shared} {kd:SortKind} {O:KeyOrd} {C:Cmp prog w A E s kd O} {st:SortSt} {a b:Array Keyed}
def LIh(C:Cmp prog w A E s kd O)(a b:Array Keyed)(N:Nat)(c:HS):Prop :=
 c.1=none/\HI C a b c.2.2.2.1 c.2.1 c.2.2.1/\1<=c.2.1/\c.2.1<=a.size/\2<=c.2.2.1/\c.2.2.1<=b.size/\N<=c.2.2.2.1.size
def nT(C:Cmp prog w A E s kd O)(a b:Array Keyed)(N:Nat)(st:SortSt)(r:ForInStep HS)(st':SortSt):Prop:=Eqv st st'/\match r with
 | .done c=>(∃x,c.1=some x/\MR C a b x)\/LIh C a b N c
 | .yield c=>LIh C a b N c
def ut(T:Two C a b)(h:HI C a b ou m n)(hm:1<=m)(hma:m<=a.size)(hn:2<=n)(hnb:n<=b.size)(hN:N<=ou.size)
  (hle:∀p q,b[n - 1]?=some p->a[m - 1]?=some q->O.kle (C.key p) (C.key q)):wpS (model prog w) A E s (hiT3 a b ou m n g ca cb) (nT C a b N st) st:=by
 unfold hiT3;refine wpS_bind (aY (by lia) fun x hx=>?_);have e:m=m - 1+1:=by lia
 have h1:HI C a b (ou.push x) (m - 1) n:=by
  have h':=h;rw[e] at h';exact h'.pushA T.sa T.sb hx (by lia) hnb (fun q hq=>hle q x hq hx)
 have hsz:(ou.push x).size=ou.size+1:=qbn ..;by_cases z1:m - 1=0
 ·rw[qai (by simpa using z1)];exact wpS_pure ⟨Eqv.rfl',.inl ⟨_,rfl,h1.all T.sa T.sb (.inl z1)⟩⟩
 ·rw[qal (by simpa using z1)];have li:LIh C a b N (none,m - 1,n,ou.push x,g,ca,cb):=⟨rfl,h1,by show 1<=m - 1;lia,by show m - 1<=a.size;lia,hn,hnb,by show N<=(ou.push x).size;lia⟩;split
  ·exact wpS_pure ⟨Eqv.rfl',.inr li⟩
  ·exact wpS_pure ⟨Eqv.rfl',li⟩
def vw(T:Two C a b)(hk:kindOf st=kd)(h:HI C a b ou m n)(hm:1<=m)(hma:m<=a.size)(hn:2<=n)(hnb:n<=b.size)(hN:N<=ou.size)
  (hle:∀p q,a[m - 1]?=some p->b[n - 1]?=some q->O.kle (C.key p) (C.key q)):wpS (model prog w) A E s (hiT2 a b ou m n g ca cb) (nT C a b N st) st:=by
 unfold hiT2;refine wpS_bind (aY (by lia) fun x hx=>?_);have e:n=n - 1+1:=by lia
 have h1:HI C a b (ou.push x) m (n - 1):=by
  have h':=h;rw[e] at h';exact h'.pushB T.sa T.sb hx hm hma (fun q hq=>hle q x hq hx)
 have hsz:(ou.push x).size=ou.size+1:=qbn ..;by_cases z1:n - 1=1
 ·rw[qai (by simpa using z1)];exact wpS_pure ⟨Eqv.rfl',.inl ⟨_,rfl,h1.one T z1⟩⟩
 ·rw[qal (by simpa using z1)];refine wpS_bind (aY (by lia) fun y hy=>?_);refine wpS_bind (du (C:=C) hk T.gb (bt T.ga hy) (by lia) (by lia) ?_ fun z hz hlo hhi=>?_)
  ·intro p q hp hpq hq;exact kH T.sb p q (qaM _) hpq (by lia)
  ·have hlo':∀r p q,r<z->b[r]?=some p->a[m - 1]?=some q->O.kle (C.key p) (C.key q):=fun r p q hr hp hq=>by
    have:=hlo r hr
    unfold ahead at this;rw[qaZ,aV hp] at this;rw[hy] at hq;cases hq;exact KeyOrd.kle_of_klt this
   have hhi':∀r p q,z<=r->r<n - 1->b[r]?=some p->a[m - 1]?=some q->O.kle (C.key q) (C.key p):=fun r p q hr1 hr2 hp hq=>by
    have:=hhi r hr1 hr2
    unfold ahead at this;rw[qaZ,aV hp] at this;rw[hy] at hq;cases hq;exact this
   dsimp only;by_cases hk0:n - 1 - z>0
   ·rw[qai hk0];have ez:n - 1 - (n - 1 - z)=z:=by lia
    have h2:=h1.moveB T.sa T.sb (by lia) hm hma (n - 1 - z) (by lia) (fun r p q hr1 hr2=>hhi' r p q (by lia) hr2);rw[ez] at h2;by_cases z2:z=1
    ·rw[qai (by simpa using z2)];exact wpS_pure ⟨Eqv.rfl',.inl ⟨_,rfl,h2.one T z2⟩⟩
    ·rw[qal (by simpa using z2)];by_cases z3:z=0
     ·rw[qai (by simpa using z3)];exact wpS_pure ⟨Eqv.rfl',.inl ⟨_,rfl,h2.all T.sa T.sb (.inr z3)⟩⟩
     ·rw[qal (by simpa using z3)];exact ut T h2 hm hma (by lia) (by lia) (by rw[qbM];lia) (fun p q hp hq=>hlo' (z - 1) p q (by lia) hp hq)
   ·rw[qal hk0];exact ut T h1 hm hma (by lia) (by lia) (by lia) (fun p q hp hq=>hlo' (n - 1 - 1) p q (by lia) hp hq)
def uA(T:Two C a b)(hk:kindOf st=kd)(h:HI C a b ou m n)(hm:1<=m)(hma:m<=a.size)(hn:2<=n)(hnb:n<=b.size)(hN:N<=ou.size) :
  wpS (model prog w) A E s (hiT1 a b ou m n g ca cb) (nT C a b N st) st:=by
 unfold hiT1;rw[lh];refine wpS_bind (wpS_modify ?_);have ev:Eqv st (SortSt.mk' (kindOf st) (arrOf st) (pendingOf st) g (failedOf st)):=⟨rfl,rfl,rfl,rfl⟩;refine wpS_mono (Q:=nT C a b N (SortSt.mk' (kindOf st) (arrOf st) (pendingOf st) g (failedOf st))) ?_ fun r st' h=>⟨ev.trans h.1,h.2⟩;have hk':kindOf (SortSt.mk' (kindOf st) (arrOf st) (pendingOf st) g (failedOf st))=kd:=hk;refine wpS_bind (aY (by lia) fun x hx=>?_);refine wpS_bind (du (C:=C) hk' T.ga (bt T.gb hx) (by lia) (by lia) ?_ fun z hz hlo hhi=>?_)
 ·intro p q hp hpq hq;exact kH T.sa p q (qaM _) hpq (by lia)
 ·have hlo':∀r p q,r<z->a[r]?=some p->b[n - 1]?=some q->O.kle (C.key p) (C.key q):=fun r p q hr hp hq=>by
   have:=hlo r hr
   unfold ahead at this;rw[qaZ,aV hp] at this;rw[hx] at hq;cases hq;simp only[qac,if_false,qbC] at this;exact this
  have hhi':∀r p q,z<=r->r<m->a[r]?=some p->b[n - 1]?=some q->O.kle (C.key q) (C.key p):=fun r p q hr1 hr2 hp hq=>by
   have:=hhi r hr1 hr2
   unfold ahead at this;rw[qaZ,aV hp] at this;rw[hx] at hq;cases hq;simp only[qac,if_false,qcn] at this;exact KeyOrd.kle_of_klt this
  dsimp only;by_cases hk0:m - z>0
  ·rw[qai hk0];have ez:m - (m - z)=z:=by lia
   have h2:=h.moveA T.sa T.sb hma (by lia) hnb (m - z) (by lia) (fun r p q hr1 hr2=>hhi' r p q (by lia) hr2);rw[ez] at h2;by_cases z2:z=0
   ·rw[qai (by simpa using z2)];exact wpS_pure ⟨Eqv.rfl',.inl ⟨_,rfl,h2.all T.sa T.sb (.inl z2)⟩⟩
   ·rw[qal (by simpa using z2)];exact vw T hk' h2 (by lia) (by lia) hn hnb (by rw[qbM];lia) (fun p q hp hq=>hlo' (z - 1) p q (by lia) hp hq)
  ·rw[qal hk0];exact vw T hk' h hm hma hn hnb hN (fun p q hp hq=>hlo' (m - 1) p q (by lia) hp hq)
def L1h(C:Cmp prog w A E s kd O)(a b:Array Keyed)(N:Nat)(c:HB):Prop :=
 c.1=none/\HI C a b c.2.2.2.1 c.2.1 c.2.2.1/\1<=c.2.1/\c.2.1<=a.size/\2<=c.2.2.1/\c.2.2.1<=b.size/\N<=c.2.2.2.1.size
def L0h(C:Cmp prog w A E s kd O)(a b:Array Keyed)(N:Nat)(c:HC):Prop :=
 c.1=none/\HI C a b c.2.2.2.1 c.2.1 c.2.2.1/\1<=c.2.1/\c.2.1<=a.size/\2<=c.2.2.1/\c.2.2.1<=b.size/\N<=c.2.2.2.1.size
def Step1(C:Cmp prog w A E s kd O)(a b:Array Keyed)(N:Nat)(st:SortSt)(r:ForInStep HB)(st':SortSt):Prop:=match r with
 | .done c=>st'=st/\((∃x,c.1=some x/\MR C a b x)\/L1h C a b N c)
 | .yield c=>st'=st/\L1h C a b N c
def vY(C:Cmp prog w A E s kd O)(a b:Array Keyed)(N:Nat)(st:SortSt)(r:ForInStep HC)(st':SortSt):Prop:=match r with
 | .done c=>Eqv st st'/\∃x,c.1=some x/\MR C a b x
 | .yield c=>Eqv st st'/\L0h C a b N c
def hiP_ok(T:Two C a b)(hk':kindOf st=kd)(hI':HI C a b ou' m' n')(hm':1<=m')(hma':m'<=a.size)(hn':2<=n')(hnb2:n'<=b.size)(hN:N<=ou'.size) :
  wpS (model prog w) A E s (hiP a b g (none,m',n',ou',ca,cb)) (Step1 C a b (N+1) st) st:=by
 unfold hiP;dsimp only;refine wpS_bind (aY (by lia) fun p hp=>wpS_bind (aY (by lia) fun q hq=>?_));refine wpS_bind (C.ask p q st _ (bt T.gb hp) (bt T.ga hq) hk' ?_)
 cases hz:O.blt (C.key p) (C.key q) with
 | true =>
  dsimp only;rw[qai rfl];refine wpS_bind (aY (by lia) fun q' hq'=>?_);rw[hq] at hq';cases hq';have em:m'=m' - 1+1:=by lia
  have h2:HI C a b (ou'.push q) (m' - 1) n':=by
   have h':=hI';rw[em] at h';exact h'.pushA T.sa T.sb hq (by lia) hnb2 (fun p' hp'=>by rw[hp] at hp';cases hp';exact KeyOrd.kle_of_klt hz)
  have hs2:(ou'.push q).size=ou'.size+1:=qbn ..;by_cases z3:m' - 1=0
  ·rw[qai (by simpa using z3)];exact wpS_pure ⟨rfl,.inl ⟨_,rfl,h2.all T.sa T.sb (.inl z3)⟩⟩
  ·rw[qal (by simpa using z3)];split
   ·exact wpS_pure ⟨rfl,.inr ⟨rfl,h2,by lia,by lia,hn',hnb2,by rw[hs2];lia⟩⟩
   ·exact wpS_pure ⟨rfl,rfl,h2,by lia,by lia,hn',hnb2,by rw[hs2];lia⟩
 | false =>
  dsimp only;rw[qal (by simp)];refine wpS_bind (aY (by lia) fun p' hp'=>?_);rw[hp] at hp';cases hp';have en:n'=n' - 1+1:=by lia
  have h2:HI C a b (ou'.push p) m' (n' - 1):=by
   have h':=hI';rw[en] at h';exact h'.pushB T.sa T.sb hp hm' hma' (fun q' hq'=>by rw[hq] at hq';cases hq';exact hz)
  have hs2:(ou'.push p).size=ou'.size+1:=qbn ..;by_cases z3:n' - 1=1
  ·rw[qai (by simpa using z3)];exact wpS_pure ⟨rfl,.inl ⟨_,rfl,h2.one T z3⟩⟩
  ·rw[qal (by simpa using z3)];split
   ·exact wpS_pure ⟨rfl,.inr ⟨rfl,h2,hm',hma',by lia,by lia,by rw[hs2];lia⟩⟩
   ·exact wpS_pure ⟨rfl,rfl,h2,hm',hma',by lia,by lia,by rw[hs2];lia⟩
def hiE_ok(ev:Eqv st0 st)(hc:(∃x,c.1=some x/\MR C a b x)\/LIh C a b N c):wpS (model prog w) A E s (hiE c) (vY C a b N st0) st:=by
 obtain⟨c1,m3,n3,ou3,g3,ca3,cb3⟩:=c;rcases hc with ⟨r,hr,mr⟩|⟨hc,hr⟩
 ·cases hr;exact wpS_pure ⟨ev,r,rfl,mr⟩
 ·cases hc;unfold hiE;dsimp only;rw[lh];exact wpS_bind (wpS_modify (wpS_pure ⟨ev.trans ⟨rfl,rfl,rfl,rfl⟩,rfl,hr⟩))
def hiG_ok(T:Two C a b)(hk:kindOf st=kd)(h:LIh C a b N c):wpS (model prog w) A E s (hiG a b c) (nT C a b N st) st:=by
 obtain⟨_,i3,hm3,hma3,hn3,hnb3,hN3⟩:=h;unfold hiG;split
 ·exact uA T hk i3 hm3 hma3 hn3 hnb3 hN3
 ·exact uA T hk i3 hm3 hma3 hn3 hnb3 hN3
def hiD_ok(T:Two C a b)(hk:kindOf st=kd)(ev:Eqv st0 st)(hc:(∃x,c.1=some x/\MR C a b x)\/L1h C a b N c):wpS (model prog w) A E s (hiD a b g c) (vY C a b N st0) st:=by
 obtain⟨c1,m',n',ou',ca,cb⟩:=c;rcases hc with ⟨r,hr,mr⟩|⟨hc,hr⟩
 ·cases hr;exact wpS_pure ⟨ev,r,rfl,mr⟩
 ·cases hc;unfold hiD;dsimp only;refine wpS_bind (wpS_lift (wpAny_rule ⟨rfl,?_⟩));refine wpS_bind (wpS_mono (wpS_forRange (I:=fun y c st3=>Eqv st st3/\LIh C a b N c) (Q:=fun c st3=>Eqv st st3/\((∃x,c.1=some x/\MR C a b x)\/LIh C a b N c)) ?_ ?_ ⟨Eqv.rfl',rfl,hr⟩) ?_)
  ·rintro y c st3 _ hy ⟨ev3,h3⟩;refine wpS_mono (hiG_ok T (ev3.kind.trans hk) h3) fun r st4 hr=>?_
   cases r with
   | done c'=>exact⟨ev3.trans hr.1,hr.2⟩
   | yield c'=>exact⟨ev3.trans hr.1,hr.2⟩
  ·rintro c st3 ⟨ev3,hli⟩;exact⟨ev3,.inr hli⟩
  ·rintro c st3 ⟨ev3,hc⟩;exact hiE_ok (ev.trans ev3) hc
def hiO_ok(T:Two C a b)(hk:kindOf st=kd)(h:L0h C a b N c):wpS (model prog w) A E s (hiO a b c) (vY C a b (N+1) st) st:=by
 obtain⟨c1,m,n,ou,g⟩:=c;obtain⟨hc,hI,hm,hma,hn,hnb',hsz⟩:=h;cases hc;unfold hiO
 refine wpS_bind (wpS_mono (wpS_forRange (I:=fun y c st''=>st''=st/\L1h C a b (N+y) c)
  (Q:=fun c st''=>st''=st/\((∃x,c.1=some x/\MR C a b x)\/L1h C a b (N+1) c)) ?_ ?_ ⟨rfl,rfl,hI,hm,hma,hn,hnb',hsz⟩) ?_)
 ·rintro y c st'' _ hy ⟨rfl,h1⟩;obtain⟨c1,m',n',ou',ca,cb⟩:=c;obtain⟨hc,hI',hm',hma',hn',hnb2,hsz'⟩:=h1;cases hc;refine wpS_mono (hiP_ok T hk hI' hm' hma' hn' hnb2 hsz') fun r st4 hr=>?_
  cases r with
  | done c'=>exact⟨hr.1,hr.2.imp_right fun h=>⟨h.1,h.2.1,h.2.2.1,h.2.2.2.1,h.2.2.2.2.1,h.2.2.2.2.2.1,qaw (by lia) h.2.2.2.2.2.2⟩⟩
  | yield c'=>exact hr
 ·rintro c st'' ⟨rfl,h⟩
  have:=T.na
  exact⟨rfl,.inr ⟨h.1,h.2.1,h.2.2.1,h.2.2.2.1,h.2.2.2.2.1,h.2.2.2.2.2.1,qaw (by lia) h.2.2.2.2.2.2⟩⟩
 ·rintro c st'' ⟨rfl,hc⟩;exact hiD_ok T hk Eqv.rfl' hc
def hiZ_ok(T:Two C a b)(hk:kindOf st=kd)(h1:HI C a b #[x0] (a.size - 1) b.size)(hm:1<=a.size - 1)(hn:2<=b.size)(h:∀x st',Eqv st st'->MR C a b x->Q x st'):wpS (model prog w) A E s (hiZ a b x0) Q st:=by
 unfold hiZ;refine wpS_bind (wpS_get ?_)
 refine wpS_bind (wpS_mono (wpS_forRange (I:=fun x c st'=>Eqv st st'/\L0h C a b (x+1) c)
  (Q:=fun c st'=>Eqv st st'/\∃x,c.1=some x/\MR C a b x) ?_ ?_ ⟨Eqv.rfl',rfl,h1,hm,Nat.sub_le _ _,hn,qah _,qah _⟩) ?_)
 ·rintro x c st' _ hx ⟨ev,h0⟩;refine wpS_mono (hiO_ok T (ev.kind.trans hk) h0) fun r st4 hr=>?_
  cases r with
  | done c'=>exact⟨ev.trans hr.1,hr.2⟩
  | yield c'=>exact⟨ev.trans hr.1,hr.2⟩
 ·rintro c st' ⟨ev,h0⟩;exfalso
  have:=h0.2.1.size h0.2.2.2.1 h0.2.2.2.2.2.1
  have:=h0.2.2.2.2.2.2
  lia
 ·rintro c st' ⟨ev,r,hr,mr⟩;obtain⟨c1,c2⟩:=c;cases hr;exact wpS_pure (h r st' ev mr)
def wps_hi(T:Two C a b)(hk:kindOf st=kd)(h:∀x st',Eqv st st'->MR C a b x->Q x st'):wpS (model prog w) A E s (jK a b) Q st:=by
 rw[hi_n];refine wpS_bind (wpS_lift (wpAny_rule ⟨rfl,?_⟩));have hna:=T.na;have hnb:=T.nb;refine wpS_bind (aY (by lia) fun x0 hx0=>?_)
 have h0:HI C a b #[] a.size b.size:=⟨by
   have e1:a.toList.take a.size=a.toList:=qbr (by simp);have e2:b.toList.take b.size=b.toList:=qbr (by simp)
   rw[e1,e2];simp,by unfold LS;simp,fun x _ y hy=>by simp at hy⟩
 have h1:HI C a b #[x0] (a.size - 1) b.size:=by
  have e:a.size=a.size - 1+1:=by lia
  have h':HI C a b #[] (a.size - 1+1) b.size:=by rw[<-e];exact h0
  have:=h'.pushA T.sa T.sb hx0 hnb (qah _) (fun q hq=>T.lst q x0 (qax.mpr ⟨_,by rw[qaq];exact hq⟩) hx0)
  simpa using this
 by_cases z1:a.size - 1=0
 ·rw[qai (by simpa using z1)];exact wpS_pure (h _ st Eqv.rfl' (h1.all T.sa T.sb (.inl z1)))
 ·rw[qal (by simpa using z1)];by_cases z2:b.size=1
  ·rw[qai (by simpa using z2)];exact wpS_pure (h _ st Eqv.rfl' (h1.one T z2))
  ·rw[qal (by simpa using z2)];exact hiZ_ok T hk h1 (by lia) (by lia) h
end
def ug(i:Nat):mergeAt' i=(do
 let c <-get
 let (some (sa,na,pw),some (sb,nb,_)):=((pendingOf c)[i]?,(pendingOf c)[i+1]?)|unsupported "internal:list.sort.pending"
 set (setPending c (((pendingOf c).setIfInBounds i (sa,na+nb,pw)).eraseIdxIfInBounds (i+1)))
 let some k <-gallop' false (<-elem' (arrOf c) sb) (arrOf c) sa na 0|return false
 let (sa,na):=(sa+k,na - k)
 if na == 0 then return true
 let some nb <-gallop' true (<-elem' (arrOf c) (sa+na - 1)) (arrOf c) sb nb (nb - 1)|return false
 if nb == 0 then return true
 let x:=(arrOf c).extract sa sb
 let y:=(arrOf c).extract sb (sb+nb)
 let ou <-if na<=nb then jz x y else jK x y
 modify fun c=>setArr c (ou.toList.zipIdx.foldl (fun a (p,j)=>a.setIfInBounds (sa+j) p) (arrOf c))
 return (failedOf (<-get)).isNone):=rfl
def lay_get(off:Nat):∀(l:List Keyed) (q:Nat) (xs:Array Keyed) (i:Nat),((l.zipIdx q).foldl (fun a (p:Keyed × Nat)=>a.setIfInBounds (off+p.2) p.1) xs)[i]? =
  if off+q<=i/\i<off+q+l.length/\i<xs.size then l[i - (off+q)]? else xs[i]?:=by
 intro l
 induction l with
 | nil=>intro q xs i;rw[qal (by simp;lia)];rfl
 | cons p l ih =>
  intro q xs i;rw[List.zipIdx_cons,qcg,ih];simp only[Array.size_setIfInBounds,qaQ];by_cases h1:off+q=i
  ·subst h1;rw[qal (by lia),qbK];by_cases h2:off+q<xs.size
   ·have h3:off+q<=off+q/\off+q<off+q+(l.length+1)/\off+q<xs.size:=⟨by lia,by lia,h2⟩;simp[h2,h3]
   ·have h3:¬(off+q<=off+q/\off+q<off+q+(l.length+1)/\off+q<xs.size):=fun z=>h2 z.2.2;rw[qal h3];simp[h2]
  ·by_cases h2:off+(q+1)<=i/\i<off+(q+1)+l.length/\i<xs.size
   ·rw[qai h2,qai (by lia)];obtain⟨d,hd⟩:∃d,i - (off+q)=d+1:=⟨i - (off+q) - 1,by lia⟩;have hd2:i - (off+(q+1))=d:=by lia
    rw[hd,hd2,qcs]
   ·rw[qal h2,qbK,qal h1];by_cases h3:off+q<=i/\i<off+q+(l.length+1)/\i<xs.size
    ·exfalso;lia
    ·rw[qal h3]
def zT{xs ou:Array Keyed}{off:Nat}(h:off+ou.size<=xs.size) :
  (ou.toList.zipIdx.foldl (fun a (p:Keyed × Nat)=>a.setIfInBounds (off+p.2) p.1) xs).toList=xs.toList.take off++(ou.toList++xs.toList.drop (off+ou.size)):=by
 apply qbO;intro i;rw[qaq,lay_get];have hl:(xs.toList.take off).length=off:=by simp;lia
 by_cases h1:i<off
 ·rw[qal (by lia),qan (by lia),qbA h1,qaq]
 ·rw[qay (by lia),hl];by_cases h2:i<off+ou.size
  ·rw[qai ⟨by lia,by simpa using h2,by lia⟩,qan (by simp;lia)];congr 1
  ·rw[qal (by simp;lia),qay (by simp;lia),qbW,qaq];congr 1;simp;lia
section
variable {prog:Program} {w:World} {A:Around} {E:Value→Shared→Prop} {s:Shared} {kd:SortKind} {O:KeyOrd} {C:Cmp prog w A E s kd O} {a₀:Array Keyed} {st:SortSt}
def gu{xs:Array Keyed}{lo hi i j:Nat}(h:Srt C xs lo hi)(hi':lo<=i)(hij:i<=j)(hj:j<hi){p q:Keyed}(hp:xs[i]?=some p)(hq:xs[j]?=some q):O.kle (C.key p) (C.key q):=by
 have:=h i j hi' hij hj
 rw[aV hp,aV hq] at this;exact this
def uE{xs:Array Keyed}{lo hi:Nat}{p:Keyed}(hhi:hi<=xs.size)(h:p∈(xs.extract lo hi).toList):∃i,lo<=i/\i<hi/\xs[i]?=some p:=by
 obtain⟨q,hq⟩:=qax.mp h;rw[qaq,qbt] at hq
 split at hq
 ·rename_i h1
  exact⟨lo+q,by lia,by lia,hq⟩
 ·cases hq
def split3{xs:Array Keyed}{i j k:Nat}(h1:i<=j)(h2:j<=k)(h3:k<=xs.size):xs.toList=xs.toList.take i++((xs.extract i j).toList++(xs.extract j k).toList++xs.toList.drop k):=by
 have e1:(xs.extract i j).toList=(xs.toList.drop i).take (j - i):=by simp[qaI]
 have e2:(xs.extract j k).toList=(xs.toList.drop j).take (k - j):=by simp[qaI]
 rw[e1,e2];have a1:(xs.toList.drop j).take (k - j)++xs.toList.drop k=xs.toList.drop j:=by
  have:=qbi (k - j) (xs.toList.drop j)
  rw[List.drop_drop] at this;have e:j+(k - j)=k:=by lia
  rw[e] at this;exact this
 have a2:(xs.toList.drop i).take (j - i)++xs.toList.drop j=xs.toList.drop i:=by
  have:=qbi (j - i) (xs.toList.drop i)
  rw[List.drop_drop] at this;have e:i+(j - i)=j:=by lia
  rw[e] at this;exact this
 rw[qbh,a1,a2,qbi]
def uh{n1 pw:Nat}{Q:Bool->SortSt->Prop}(h0:cw C a₀)(hB:SB kd a₀ st)(h1:1<=n1)(h2:n1<a₀.size)(hp:pendingOf st=#[(0,n1,pw),(n1,a₀.size - n1,0)])
  (hs1:Srt C (arrOf st) 0 n1) (hs2:Srt C (arrOf st) n1 a₀.size)
  (h:∀st',SB kd a₀ st'->(pendingOf st').size=1->Srt C (arrOf st') 0 a₀.size->Q true st'):wpS (model prog w) A E s (mergeAt' 0) Q st:=by
 have hsz:=hB.size;have hg:=hB.good h0;rw[ug];refine wpS_bind (wpS_get ?_);rw[hp];have e0:(#[(0,n1,pw),(n1,a₀.size - n1,0)]:Array (Nat × Nat × Nat))[0]?=some (0,n1,pw):=rfl;have e1:(#[(0,n1,pw),(n1,a₀.size - n1,0)]:Array (Nat × Nat × Nat))[0+1]?=some (n1,a₀.size - n1,0):=rfl;rw[e0,e1];dsimp only;refine wpS_bind ?_;have hset:∀(c:SortSt) (Q':PUnit->SortSt->Prop),Q' ⟨⟩ c->wpS (model prog w) A E s (set c:StateT SortSt Sem PUnit) Q' st:=fun c Q' hq=>by
  unfold wpS;rw[StateT.run_set];exact qae ⟨rfl,hq⟩
 refine hset _ _ ?_;obtain⟨st1,hst1⟩:∃c,c=setPending st (((#[(0,n1,pw),(n1,a₀.size - n1,0)]:Array (Nat × Nat × Nat)).setIfInBounds 0 (0,n1+(a₀.size - n1),pw)).eraseIdxIfInBounds (0+1)):=⟨_,rfl⟩;rw[<-hst1];have hB1:SB kd a₀ st1:=by rw[hst1];exact⟨hB.perm,hB.kind,hB.failed⟩
 have hp1:(pendingOf st1).size=1:=by rw[hst1];simp[pendingOf]
 have ha1:arrOf st1=arrOf st:=by rw[hst1]
 clear hst1;have whole:Srt C (arrOf st) 0 n1->Srt C (arrOf st) n1 a₀.size->(∀i j,i<n1->n1<=j->j<a₀.size->O.kle (kk C (arrOf st) i) (kk C (arrOf st) j))->Srt C (arrOf st1) 0 a₀.size:=by
  intro g1 g2 g3 i j _ hij hj;rw[ha1];by_cases c1:j<n1
  ·exact g1 i j (qaM _) hij c1
  ·by_cases c2:i<n1
   ·exact g3 i j c2 (by lia) hj
   ·exact g2 i j (by lia) hij hj
 refine wpS_bind (aY (by lia) fun b0 hb0=>?_);refine wpS_bind (du (C:=C) hB1.kind hg (bt hg hb0) (by lia) (by lia) (by rw[qaZ];exact hs1) fun k hk hlo hhi=>?_);have hlo':∀r p,r<k->(arrOf st)[r]?=some p->O.kle (C.key p) (C.key b0):=fun r p hr hp'=>by
  have:=hlo r hr
  unfold ahead at this;rw[qaZ,aV hp'] at this;simp only[qac,if_false,qbC] at this;exact this
 have hhi':∀r p,k<=r->r<n1->(arrOf st)[r]?=some p->O.kle (C.key b0) (C.key p):=fun r p hr1 hr2 hp'=>by
  have:=hhi r hr1 hr2
  unfold ahead at this;rw[qaZ,aV hp'] at this;simp only[qac,if_false,qcn] at this;exact KeyOrd.kle_of_klt this
 dsimp only;rw[qaZ];have getP:∀i,i<a₀.size->∃p,(arrOf st)[i]?=some p:=fun i hi=>⟨_,getElem?_pos _ i (by lia)⟩;by_cases z1:n1 - k=0
 ·rw[qai (by simpa using z1)];refine wpS_pure (h st1 hB1 hp1 (whole hs1 hs2 fun i j hi hj1 hj2=>?_));obtain⟨p,hp'⟩:=getP i (by lia);obtain⟨q,hq'⟩:=getP j hj2;rw[aV hp',aV hq'];exact KeyOrd.kle_trans (hlo' i p (by lia) hp') (gu hs2 (qah _) hj1 hj2 hb0 hq')
 ·rw[qal (by simpa using z1)];have ez:k+(n1 - k) - 1=n1 - 1:=by lia
  rw[ez];refine wpS_bind (aY (by lia) fun al hal=>?_);refine wpS_bind (du (C:=C) hB1.kind hg (bt hg hal) (by lia) (by lia) (by have e:n1+(a₀.size - n1)=a₀.size:=(by lia);rw[e];exact hs2) fun m hm hlo2 hhi2=>?_);have hlo2':∀r p,n1<=r->r<n1+m->(arrOf st)[r]?=some p->O.kle (C.key p) (C.key al):=fun r p hr1 hr2 hp'=>by
   have:=hlo2 (r - n1) (by lia)
   have e:n1+(r - n1)=r:=by lia
   unfold ahead at this;rw[e,aV hp'] at this;exact KeyOrd.kle_of_klt this
  have hhi2':∀r p,n1+m<=r->r<a₀.size->(arrOf st)[r]?=some p->O.kle (C.key al) (C.key p):=fun r p hr1 hr2 hp'=>by
   have:=hhi2 (r - n1) (by lia) (by lia)
   have e:n1+(r - n1)=r:=by lia
   unfold ahead at this;rw[e,aV hp'] at this;exact this
  dsimp only;by_cases z2:m=0
  ·rw[qai (by simpa using z2)];refine wpS_pure (h st1 hB1 hp1 (whole hs1 hs2 fun i j hi hj1 hj2=>?_));obtain⟨p,hp'⟩:=getP i (by lia);obtain⟨q,hq'⟩:=getP j hj2;rw[aV hp',aV hq'];exact KeyOrd.kle_trans (gu hs1 (qaM _) (by lia) (by lia) hp' hal) (hhi2' j q (by lia) hj2 hq')
  ·rw[qal (by simpa using z2)];have sx:((arrOf st).extract k n1).size=n1 - k:=by simp;lia
   have sy:((arrOf st).extract n1 (n1+m)).size=m:=by simp;lia
   have gx:∀r,r<n1 - k->((arrOf st).extract k n1)[r]?=(arrOf st)[k+r]?:=fun r hr=>by rw[qbt,qai (by lia)]
   have gy:∀r,r<m->((arrOf st).extract n1 (n1+m))[r]?=(arrOf st)[n1+r]?:=fun r hr=>by rw[qbt,qai (by lia)]
   have memx:∀p,p∈((arrOf st).extract k n1).toList->∃i,k<=i/\i<n1/\(arrOf st)[i]?=some p:=fun p hp'=>uE (by lia) hp';have memy:∀p,p∈((arrOf st).extract n1 (n1+m)).toList->∃i,n1<=i/\i<n1+m/\(arrOf st)[i]?=some p:=fun p hp'=>uE (by lia) hp';have T:Two C ((arrOf st).extract k n1) ((arrOf st).extract n1 (n1+m)):=by
    refine⟨fun p hp'=>?_,fun p hp'=>?_,nu (by lia) fun i j a b c=>hs1 i j (qaM _) b c,nu (by lia) fun i j a b c=>hs2 i j a b (by lia),by lia,by lia,?_,?_⟩
    ·obtain⟨i,_,_,hi⟩:=memx p hp';exact bt hg hi
    ·obtain⟨i,_,_,hi⟩:=memy p hp';exact bt hg hi
    ·intro p q hp' hq';rw[gy 0 (by lia)] at hp';rw[gx 0 (by lia)] at hq';have e:(arrOf st)[n1+0]?=some b0:=hb0;rw[e] at hp';cases hp';exact hhi' (k+0) q (by lia) (by lia) hq'
    ·intro x q hx hq';obtain⟨i,i1,i2,hi⟩:=memy x hx;rw[sx,gx _ (by lia)] at hq';have e:k+(n1 - k - 1)=n1 - 1:=by lia
     rw[e,hal] at hq';cases hq';exact hlo2' i x i1 i2 hi
   have fin:∀ou st2,Eqv st1 st2->MR C ((arrOf st).extract k n1) ((arrOf st).extract n1 (n1+m)) ou ->
     wpS (model prog w) A E s (do
      modify fun c=>setArr c (ou.toList.zipIdx.foldl (fun a (p:Keyed × Nat)=>a.setIfInBounds (k+p.2) p.1) (arrOf c))
      return (failedOf (<-get)).isNone) Q st2:=by
    intro ou st2 ev mr;refine wpS_bind (wpS_modify ?_);refine wpS_bind (wpS_get (wpS_pure ?_));have ea:arrOf st2=arrOf st:=ev.arr.trans ha1;have so:ou.size=n1 - k+m:=by
     have:=mr.1.length_eq
     rw[qas,qaR,qas,qas,sx,sy] at this;exact this
    have hl:=zT (xs:=arrOf st2) (ou:=ou) (off:=k) (by rw[ea];lia);have eo:k+ou.size=n1+m:=by lia
    rw[eo,ea] at hl;have hsp:=split3 (xs:=arrOf st) (i:=k) (j:=n1) (k:=n1+m) (by lia) (by lia) (by lia);have hfn:(failedOf (setArr st2 (ou.toList.zipIdx.foldl (fun a (p:Keyed × Nat)=>a.setIfInBounds (k+p.2) p.1) (arrOf st2)))).isNone=true:=by
     show (failedOf st2).isNone=true;rw[ev.failed,hB1.failed];rfl
    rw[hfn];have hls:LS C (ou.toList.zipIdx.foldl (fun a (p:Keyed × Nat)=>a.setIfInBounds (k+p.2) p.1) (arrOf st2)).toList:=by
     rw[ea,hl];have mo:∀p,p∈ou.toList->(∃i,k<=i/\i<n1/\(arrOf st)[i]?=some p)\/(∃i,n1<=i/\i<n1+m/\(arrOf st)[i]?=some p):=fun p hp' =>
      (qau.mp (mr.1.mem_iff.mp hp')).imp (memx p) (memy p)
     have mt:∀p,p∈(arrOf st).toList.take k->∃i,i<k/\(arrOf st)[i]?=some p:=fun p hp'=>by
      obtain⟨i,hi⟩:=qax.mp hp';by_cases c:i<k
      ·rw[qbA c,qaq] at hi;exact⟨i,c,hi⟩
      ·rw[qaS (by simp;lia)] at hi;cases hi
     have md:∀p,p∈(arrOf st).toList.drop (n1+m)->∃i,n1+m<=i/\i<a₀.size/\(arrOf st)[i]?=some p:=fun p hp'=>by
      obtain⟨i,hi⟩:=qax.mp hp';rw[qbW,qaq] at hi
      have:=(qbc.mp hi).1
      exact⟨n1+m+i,by lia,by lia,hi⟩
     refine b7 ?_ (b7 mr.2 ?_ ?_) ?_
     ·have:=nu (C:=C) (xs:=arrOf st) (lo:=0) (hi:=k) (by lia) fun i j a b c=>hs1 i j a b (by lia)
      rw[gj] at this;exact this
     ·have:=nu (C:=C) (xs:=arrOf st) (lo:=n1+m) (hi:=(arrOf st).size) (qah _) fun i j a b c=>hs2 i j (by lia) b (by lia)
      rw[gz] at this;exact this
     ·intro x hx y hy;obtain⟨j,j1,j2,hj⟩:=md y hy;rcases mo x hx with ⟨i,i1,i2,hi⟩|⟨i,i1,i2,hi⟩
      ·exact KeyOrd.kle_trans (gu hs1 (qaM _) (by lia) (by lia) hi hal) (hhi2' j y j1 j2 hj)
      ·exact gu hs2 i1 (by lia) j2 hi hj
     ·intro x hx y hy;obtain⟨i,i1,hi⟩:=mt x hx;rcases qau.mp hy with hy|hy
      ·rcases mo y hy with ⟨j,j1,j2,hj⟩|⟨j,j1,j2,hj⟩
       ·exact gu hs1 (qaM _) (by lia) j2 hi hj
       ·exact KeyOrd.kle_trans (hlo' i x i1 hi) (gu hs2 (qah _) j1 (by lia) hb0 hj)
      ·obtain⟨j,j1,j2,hj⟩:=md y hy;exact KeyOrd.kle_trans (hlo' i x i1 hi) (gu hs2 (qah _) (by lia) j2 hb0 hj)
    have hpm:(ou.toList.zipIdx.foldl (fun a (p:Keyed × Nat)=>a.setIfInBounds (k+p.2) p.1) (arrOf st2)).Perm (arrOf st):=by
     rw[qbQ,ea,hl];refine List.Perm.trans ?_ (List.Perm.of_eq hsp.symm);exact List.Perm.append_left _ (List.Perm.append_right _ mr.1)
    refine h _ ⟨hpm.trans hB.perm,ev.kind.trans hB1.kind,ev.failed.trans hB1.failed⟩ ?_ ?_
    ·show (pendingOf st2).size=1;rw[ev.pend];exact hp1
    ·have:=kH hls
     have e2:(ou.toList.zipIdx.foldl (fun a (p:Keyed × Nat)=>a.setIfInBounds (k+p.2) p.1) (arrOf st2)).size=a₀.size:=(hpm.trans hB.perm).size_eq;rw[e2] at this;exact this
   by_cases hle:n1 - k<=m
   ·rw[qai hle];refine wpS_bind (wps_lo T hB1.kind fun ou st2 ev mr=>?_);exact fin ou st2 ev mr
   ·rw[qal hle];refine wpS_bind (wps_hi T hB1.kind fun ou st2 ev mr=>?_);exact fin ou st2 ev mr
end
def rm(h2:2<=n)(h:n<64):minRun' n n 0=n:=by
 obtain⟨f,hf⟩:∃f,n=f+1:=⟨n - 1,by lia⟩
 have:minRun' (f+1) n 0=n+0:=by rw[minRun'_succ,qai h]
 rw[<-hf] at this;exact this
def yy(h2:2<=n)(h:n<=66):1<=minRun' n n 0/\minRun' n n 0<=n/\n<=2 * minRun' n n 0:=by
 by_cases c:n<64
 ·rw[rm h2 c];lia
 ·have:n=64\/n=65\/n=66:=by lia
  rcases this with e|e | e <;> subst e
  ·have:minRun' 64 64 0=32:=by decide
   rw[this];lia
  ·have:minRun' 65 65 0=33:=by decide
   rw[this];lia
  ·have:minRun' 66 66 0=33:=by decide
   rw[this];lia
section
variable {prog:Program} {w:World} {A:Around} {E:Value→Shared→Prop} {s:Shared} {kd:SortKind} {O:KeyOrd} {C:Cmp prog w A E s kd O} {a₀:Array Keyed} {st:SortSt}
def One(C:Cmp prog w A E s kd O)(a₀:Array Keyed)(mr n1:Nat)(st:SortSt):Prop:=SB kd a₀ st/\pendingOf st=#[(0,n1,0)]/\mr<=n1/\n1<=a₀.size/\Srt C (arrOf st) 0 n1
def Both(C:Cmp prog w A E s kd O)(a₀:Array Keyed)(n1:Nat)(st:SortSt):Prop :=
 SB kd a₀ st/\1<=n1/\n1<a₀.size/\(∃pw,pendingOf st=#[(0,n1,pw),(n1,a₀.size - n1,0)])/\Srt C (arrOf st) 0 n1/\Srt C (arrOf st) n1 a₀.size
def sH{xs ys:Array Keyed}{p lo hi:Nat}(h:cy p xs ys)(hhi:hi<=p)(g:Srt C xs lo hi):Srt C ys lo hi:=by
 intro i j hi' hij hj;rw[dO (h i (by lia)),dO (h j (by lia))];exact g i j hi' hij hj
def yS(h0:cw C a₀)(hB:SB kd a₀ st)(hpd:pendingOf st=#[])(h2:2<=a₀.size)(h66:a₀.size<=66)
  (h:∀st',(arrOf st').Perm a₀->failedOf st'=none->Srt C (arrOf st') 0 a₀.size->Q () st'):wpS (model prog w) A E s sortRuns' Q st:=by
 obtain⟨m1,m2,m3⟩:=yy h2 h66;rw[sortRuns'_eq];refine wpS_bind (wpS_get ?_);dsimp only;rw[hB.size];generalize minRun' a₀.size a₀.size 0=mr at m1 m2 m3 ⊢
 refine wpS_bind (wpS_mono (wpS_forRange
  (I:=fun x c st'=>(x=0/\c=(none,0)/\SB kd a₀ st'/\pendingOf st'=#[])\/(x=1/\∃n1,c=(none,n1)/\One C a₀ mr n1 st')\/(2<=x/\c=(none,a₀.size)/\∃n1,Both C a₀ n1 st'))
  (Q:=fun c st'=>c=(none,a₀.size)/\(One C a₀ mr a₀.size st'\/∃n1,Both C a₀ n1 st')) ?_ ?_ (.inl ⟨rfl,rfl,hB,hpd⟩)) ?_)
 ·rintro x c st' _ hx (⟨rfl,rfl,hB',hp'⟩|⟨rfl,n1,rfl,hB',hp',hr1,hr2,hs'⟩|⟨hx2,rfl,n1,hb⟩)
  ·dsimp only;rw[qal (by lia)];simp only[Nat.sub_zero,qaZ];refine wpS_bind (uB (p:=0) h0 (by lia) (by lia) hB' fun m st2 hB2 _ hpe hm1 hm2 hs2=>?_);rw[qaZ] at hs2;dsimp only;by_cases hlt:m<mr
   ·rw[qai hlt];refine wpS_bind (wpS_lift (wpAny_rule ⟨rfl,?_⟩));refine wpS_bind (uF (p:=0) h0 (by lia) (by lia) hB2 (by rw[qaZ];exact hs2) fun st3 hB3 _ hpe3 hs3=>?_);simp only[qaH,qac,if_false];refine wpS_bind (wpS_get ?_);have hb:(pendingOf st3).back?=none:=by rw[hpe3,hpe,hp'];rfl
    rw[hb];dsimp only;refine wpS_bind (wpS_modify (wpS_pure (.inr (.inl ⟨trivial,_,rfl,⟨hB3.perm,hB3.kind,hB3.failed⟩,?_,by lia,by lia,?_⟩))))
    ·show (pendingOf st3).push _=_;rw[hpe3,hpe,hp'];rfl
    ·rw[qaZ] at hs3;exact hs3
   ·rw[qal hlt];refine wpS_bind (wpS_get ?_);have hb:(pendingOf st2).back?=none:=by rw[hpe,hp'];rfl
    rw[hb];dsimp only;refine wpS_bind (wpS_modify (wpS_pure (.inr (.inl ⟨trivial,_,rfl,⟨hB2.perm,hB2.kind,hB2.failed⟩,?_,by lia,by lia,hs2⟩))));show (pendingOf st2).push _=_;rw[hpe,hp'];rfl
  ·dsimp only;by_cases hend:n1>=a₀.size
   ·rw[qai hend];have e:n1=a₀.size:=by lia
    subst e;exact wpS_pure ⟨rfl,.inl ⟨hB',hp',hr1,hr2,hs'⟩⟩
   ·rw[qal hend];have hrest:a₀.size - n1<=mr:=by lia
    refine wpS_bind (uB (p:=n1) h0 (by lia) (by lia) hB' fun m st2 hB2 hsm hpe hm1 hm2 hs2=>?_);dsimp only;by_cases hlt:m<mr
    ·rw[qai hlt];refine wpS_bind (wpS_lift (wpAny_rule ⟨rfl,?_⟩));have em:min (a₀.size - n1) mr=a₀.size - n1:=by lia
     rw[em];refine wpS_bind (uF (p:=n1) h0 (by lia) (by lia) hB2 hs2 fun st3 hB3 hsm3 hpe3 hs3=>?_);simp only[qaH,qac,if_false];refine wpS_bind (wpS_get ?_);have hp3:pendingOf st3=#[(0,n1,0)]:=by rw[hpe3,hpe,hp']
     have hb:(pendingOf st3).back?=some (0,n1,0):=by rw[hp3];rfl
     rw[hb];dsimp only;refine wpS_bind (wpS_mono (wpS_forRange (I:=fun _ c st4=>c=(none,())/\st4=st3) (Q:=fun c st4=>c=(none,())/\st4=st3) ?_ (fun _ _ hh=>hh) ⟨rfl,rfl⟩) ?_)
     ·rintro y c st4 _ _ ⟨rfl,rfl⟩;refine wpS_bind (wpS_get ?_);rw[hp3];exact wpS_pure ⟨rfl,rfl⟩
     ·rintro c st4 ⟨rfl,rfl⟩;dsimp only;refine wpS_bind (wpS_modify (wpS_bind (wpS_modify (wpS_pure (.inr (.inr ⟨by lia,?_,n1,⟨hB3.perm,hB3.kind,hB3.failed⟩,by lia,by lia,⟨power' a₀.size (2 * 0+n1) (2 * 0+n1+n1+(a₀.size - n1)) a₀.size,?_⟩,(sH (hsm.trans hsm3) (qah _) hs'),(by have e:n1+(a₀.size - n1)=a₀.size:=(by lia);rw[e] at hs3;exact hs3)⟩))))))
      ·have e:n1+(a₀.size - n1)=a₀.size:=by lia
       rw[e]
      ·show ((pendingOf st4).modify _ _).push _=_;rw[hp3];simp
    ·rw[qal hlt];have em:m=a₀.size - n1:=by lia
     subst em;refine wpS_bind (wpS_get ?_);have hp2:pendingOf st2=#[(0,n1,0)]:=by rw[hpe,hp']
     have hb:(pendingOf st2).back?=some (0,n1,0):=by rw[hp2];rfl
     rw[hb];dsimp only;refine wpS_bind (wpS_mono (wpS_forRange (I:=fun _ c st4=>c=(none,())/\st4=st2) (Q:=fun c st4=>c=(none,())/\st4=st2) ?_ (fun _ _ hh=>hh) ⟨rfl,rfl⟩) ?_)
     ·rintro y c st4 _ _ ⟨rfl,rfl⟩;refine wpS_bind (wpS_get ?_);rw[hp2];exact wpS_pure ⟨rfl,rfl⟩
     ·rintro c st4 ⟨rfl,rfl⟩;dsimp only;refine wpS_bind (wpS_modify (wpS_bind (wpS_modify (wpS_pure (.inr (.inr ⟨by lia,?_,n1,⟨hB2.perm,hB2.kind,hB2.failed⟩,by lia,by lia,⟨power' a₀.size (2 * 0+n1) (2 * 0+n1+n1+(a₀.size - n1)) a₀.size,?_⟩,(sH hsm (qah _) hs'),(by have e:n1+(a₀.size - n1)=a₀.size:=(by lia);rw[e] at hs2;exact hs2)⟩))))))
      ·have e:n1+(a₀.size - n1)=a₀.size:=by lia
       rw[e]
      ·show ((pendingOf st4).modify _ _).push _=_;rw[hp2];simp
  ·dsimp only;rw[qai (qah _)];exact wpS_pure ⟨rfl,.inr ⟨n1,hb⟩⟩
 ·rintro c st' (⟨hx,_⟩|⟨hx,_⟩|⟨_,hc,hb⟩)
  ·lia
  ·lia
  ·exact⟨hc,.inr hb⟩
 ·rintro c st' ⟨rfl,hc⟩;dsimp only;rcases hc with ⟨hB',hp',_,_,hs'⟩|⟨n1,hB',n11,n12,⟨pw,hp'⟩,hsA,hsB⟩
  ·refine wpS_bind (wpS_mono (wpS_forRange (I:=fun _ c st''=>st''=st'/\c=(none,())) (Q:=fun c st''=>st''=st'/\c=(none,())) ?_ (fun _ _ hh=>hh) ⟨rfl,rfl⟩) ?_)
   ·rintro x c st'' _ _ ⟨rfl,rfl⟩;refine wpS_bind (wpS_get ?_);rw[qai (by rw[hp'];exact qah 1)];exact wpS_pure ⟨rfl,rfl⟩
   ·rintro c st'' ⟨rfl,rfl⟩;exact wpS_pure (h _ hB'.perm hB'.failed hs')
  ·refine wpS_bind (wpS_mono (wpS_forRange (I:=fun x c st''=>c=(none,())/\((x=0/\st''=st')\/(1<=x/\SB kd a₀ st''/\(pendingOf st'').size=1/\Srt C (arrOf st'') 0 a₀.size)))
    (Q:=fun c st''=>c=(none,())/\SB kd a₀ st''/\Srt C (arrOf st'') 0 a₀.size) ?_ ?_ ⟨rfl,.inl ⟨rfl,rfl⟩⟩) ?_)
   ·rintro x c st'' _ _ ⟨rfl,hcase⟩;rcases hcase with ⟨rfl,rfl⟩|⟨hx1,b1,b2,b3⟩
    ·refine wpS_bind (wpS_get ?_);rw[qal (by rw[hp'];simp)];rw[hp'];refine wpS_bind (uh (n1:=n1) (pw:=pw) h0 hB' n11 n12 hp' hsA hsB fun st3 c1 c2 c3=>?_);simp only[qaH,qac,if_false];exact wpS_pure ⟨rfl,.inr ⟨by lia,c1,c2,c3⟩⟩
    ·refine wpS_bind (wpS_get ?_);rw[qai (by rw[b2];exact qah 1)];exact wpS_pure ⟨rfl,b1,b3⟩
   ·rintro c st'' ⟨rfl,⟨hx,_⟩|⟨_,b1,_,b3⟩⟩
    ·lia
    ·exact⟨rfl,b1,b3⟩
   ·rintro c st'' ⟨rfl,b1,b3⟩;exact wpS_pure (h _ b1.perm b1.failed b3)
end
end SortT
namespace SortT
open PySem PyProof.Rows SetT PySem.W
def bG:List Int->List Int->Bool
 | [],[]=>false
 | [],_::_=>true
 | _::_,[]=>false
 | a::x,b::y=>if a=b then bG x y else decide (a<b)
def ik:∀x,bG x x=false
 | []=>rfl
 | a::x=>by unfold bG;rw[qai rfl];exact ik x
def nL:∀x y z,bG x y=true->bG y z=true->bG x z=true
 | [],[],z,h,_=>by cases h
 | [],_::_,[],_,h=>by cases h
 | [],_::_,_::_,_,_=>rfl
 | _::_,[],_,h,_=>by cases h
 | _::_,_::_,[],_,h=>by cases h
 | a::x,b::y,c::z,h1,h2=>by
  unfold bG at h1 h2 ⊢;by_cases e1:a=b
  ·rw[qai e1] at h1;by_cases e2:b=c
   ·rw[qai e2] at h2;rw[qai (e1.trans e2)];exact nL x y z h1 h2
   ·rw[qal e2] at h2;rw[qal (fun q=>e2 (e1.symm.trans q)),e1];exact h2
  ·rw[qal e1] at h1;by_cases e2:b=c
   ·rw[qal (fun q=>e1 (q.trans e2.symm)),<-e2];exact h1
   ·rw[qal e2] at h2;simp only[decide_eq_true_eq] at h1 h2;rw[qal (by lia)];simp only[decide_eq_true_eq];lia
def sT:∀x y z,bG x z=true->bG x y=true\/bG y z=true
 | [],[],[],h=>by cases h
 | [],[],_::_,_=>.inr rfl
 | [],_::_,_,_=>.inl rfl
 | _::_,_,[],h=>by cases h
 | _::_,[],_::_,_=>.inr rfl
 | a::x,b::y,c::z,h=>by
  unfold bG at h ⊢;by_cases e1:a=b
  ·rw[qai e1];by_cases e2:b=c
   ·rw[qai e2];rw[qai (e1.trans e2)] at h;exact sT x y z h
   ·rw[qal (fun q=>e2 (e1.symm.trans q)),e1] at h;rw[qal e2];exact .inr h
  ·rw[qal e1];by_cases e2:b=c
   ·rw[qai e2];rw[qal (fun q=>e1 (q.trans e2.symm)),<-e2] at h;exact .inl h
   ·rw[qal e2];by_cases e3:a=c
    ·simp only[decide_eq_true_eq];lia
    ·rw[qal e3] at h;simp only[decide_eq_true_eq] at h ⊢;lia
def i8:∀x y,bG x y=false->bG y x=false->x=y
 | [],[],_,_=>rfl
 | [],_::_,h,_=>by cases h
 | _::_,[],_,h=>by cases h
 | a::x,b::y,h1,h2=>by
  unfold bG at h1 h2;by_cases e:a=b
  ·rw[qai e] at h1;rw[qai e.symm] at h2;rw[e,i8 x y h1 h2]
  ·rw[qal e] at h1;rw[qal (fun q=>e q.symm)] at h2;simp only[decide_eq_false_iff_not] at h1 h2;lia
def lexO:KeyOrd:=⟨List Int,bG,ik,nL,sT,i8⟩
def Ris(l:List (List Int)):Prop:=l.Pairwise fun x y=>bG y x=false
section
variable {prog:Program} {w:World} {A:Around} {E:Value→Shared→Prop} {s:Shared}
def tkey(prog:Program)(w:World)(h:Heap)(v:Value):List Int:=Classical.epsilon fun k=>∃a,v=.ref a/\TK prog w h k a
def fY(t:TK prog w h k a):tkey prog w h (.ref a)=k:=by
 have:=Classical.epsilon_spec (p:=fun k=>∃b,Value.ref a=.ref b/\TK prog w h k b) ⟨k,a,rfl,t⟩
 obtain⟨b,e,hb⟩:=this;cases e;exact IsTupleKey.inj hb t
def lex_ok:∀(xs ys:List Value) (kx ky:List Int) (i:Nat),ItemsAre (intKind prog w) kx xs->ItemsAre (intKind prog w) ky ys->fin=decide (xs.length<ys.length)->Q (bG kx ky) s ->
  KatLex prog w A b fin Q (xs.zip ys) i s:=by
 intro xs
 induction xs with
 | nil =>
  intro ys kx ky i hx hy hf hq;cases hx
  cases hy with
  | nil=>rw[hf];exact hq
  | cons h1 h2=>rw[hf];exact hq
 | cons x xs ih =>
  intro ys kx ky i hx hy hf hq
  cases hx with
  | @cons k1 _ kx' _ h1 hx' =>
   cases hy with
   | nil=>rw[hf];exact hq
   | @cons k2 y ky' ys' h2 hy' =>
    obtain⟨t1,rfl⟩:=Value.isInt_shape (k:=k1) (v:=x) h1;obtain⟨t2,rfl⟩:=Value.isInt_shape (k:=k2) (v:=y) h2;rw[qco];refine kat_cons (wpAny_eqBool_int ?_);unfold bG at hq;by_cases e:k1=k2
    ·rw[qai e] at hq
     have:(k1 == k2)=true:=by simpa using e
     rw[this];exact kat_yes (ih ys' kx' ky' (i+1) hx' hy' (by rw[hf];simp) hq)
    ·rw[qal e] at hq
     have:(k1 == k2)=false:=by simpa using e
     rw[this];refine kat_no ?_
     cases hb:(b && i == 0) with
     | true=>exact oneLt_int hq
     | false=>exact kat_one _ _ (wpAny_lt_int hq)
def tcmp(prog:Program)(w:World)(A:Around)(E:Value->Shared->Prop)(s:Shared)(b:Bool):Cmp prog w A E s (tuples' b) lexO where
 key:=fun p=>tkey prog w s.heap p.1
 dflt:=([]:List Int)
 good:=fun p=>∃a k,p.1=.ref a/\TK prog w s.heap k a
 ask:=fun x y st Q gx gy hk hq=>by
  obtain⟨x1,x2⟩:=x;obtain⟨y1,y2⟩:=y;obtain⟨ax,kx,ex,tx⟩:=gx;obtain⟨ay,ky,ey,ty⟩:=gy;simp only at ex ey;subst ex;subst ey;have q':Q (some (bG kx ky)) st:=by
   have h1:=fY tx;have h2:=fY ty;have e:lexO.blt (tkey prog w s.heap (.ref ax)) (tkey prog w s.heap (.ref ay))=bG kx ky:=by rw[h1,h2];rfl
   rw[<-e];exact hq
  obtain⟨ox,ix,nx,hox,_,hdx,hix⟩:=tx;obtain⟨oy,iy,ny,hoy,_,hdy,hiy⟩:=ty;rw[lt'_eq];refine wpS_bind (wpS_get ?_);rw[hk];refine wpS_bind (wpS_lift (wpAny_attempt (kat_lt hox hdx hoy hdy (lex_ok _ _ _ _ _ hix hiy (by simp) ⟨rfl,?_⟩))));exact wpS_pure q'
def sW{vs:List Value}{ks:List (List Int)}{Q:SortKind->Shared->Prop}(hk:Lie prog w s.heap vs.toArray ks)(hne:∀k∈ks,k≠[])(h1:0<vs.length)(h:Q (tuples' true) s) :
  wpAny (model prog w) A (keyKind' vs.toArray) Q E s:=by
 have hlen:vs.length=ks.length:=by have:=hk.1;simpa using this
 have key:∀(us:List Value) (ls:List (List Int)),us.length=ls.length->(∀(i:Nat) (v:Value) (k:List Int),us[i]?=some v->ls[i]?=some k->∃a,v=.ref a/\TK prog w s.heap k a)->(∀k∈ls,k≠[]) ->
   ∃fs:List Value,fs.length=us.length/\KatTups s.heap us fs/\∀v∈fs,∃i t,v=.int i t:=by
  intro us
  induction us with
  | nil=>intro ls _ _ _;exact⟨[],rfl,KatTups.nil,fun v hv=>by cases hv⟩
  | cons u us ih =>
   intro ls hl hall hn
   cases ls with
   | nil=>simp at hl
   | cons k ls =>
    obtain⟨a,rfl,o,items,n,ho,hc,hd,hi⟩:=hall 0 u k rfl rfl;obtain⟨fs,f1,f2,f3⟩:=ih ls (by simpa using hl) (fun i v k' hv hk'=>hall (i+1) v k' (by simpa using hv) (by simpa using hk')) (fun k' hk'=>hn k' (qam _ hk'))
    cases k with
    | nil=>exact absurd rfl (hn [] qaF)
    | cons k0 kr =>
     have hi':=hi;generalize hit:items.toList=l at hi'
     cases hi' with
     | @cons _ v0 _ vr h0 hr =>
      obtain⟨t0,rfl⟩:=Value.isInt_shape (k:=k0) (v:=v0) h0;have hg:items[0]?=some (.int k0 t0):=by rw[<-qaq,hit];rfl
      refine⟨.int k0 t0::fs,by simp[f1],KatTups.cons ho hc hd hg f2,fun v hv=>?_⟩;rcases qao.mp hv with rfl|hv
      ·exact⟨_,_,rfl⟩
      ·exact f3 v hv
 obtain⟨fs,f1,f2,f3⟩:=key vs ks hlen (fun i v k hv hk'=>hk.2 i v k (by simpa using hv) hk') hne;refine kat_kind (T:=.type "int") f2 (by lia) (fun v hv=>?_) (by decide) ?_
 ·obtain⟨i,t,rfl⟩:=f3 v hv;exact .now
 ·exact h
def xu(ho:s.heap.get? a=some (seqObj "list" vs.toArray n))(hk:Lie prog w s.heap vs.toArray ks)
  (hne:∀k∈ks,k≠[]) (h66:vs.length<=66)
  (h:∀(out:List Value) (ks':List (List Int)),Lie prog w s.heap out.toArray ks'->out.Perm vs->ks'.Perm ks->Ris ks'->P (.done (.ret .none)) { s with heap:=sortedHeap s.heap a vs out.toArray}) :
  wpAny (model prog w) A (Builtin.«list.sort» ⟨[.ref a],[]⟩) P E s:=by
 rw[list_sort_plain];have ha:a<s.heap.objs.size:=qap ho;have hfits:vs.length<=sizeLine:=by rw[sizeLine_eq];lia
 refine qaa (listItems_at ho rfl ?_);refine qaa (listUpdate_at ho rfl ?_ (by rw[qak];exact hfits) (qaM _));obtain⟨e1,ho1⟩:∃e1,(s.heap.update a (Obj.mapSeq fun _=>(#[]:Array Value))).get? a=some (seqObj "list" #[] e1):=⟨_,get?_update_seq ho fun _=>#[]⟩;refine qaa (seqEpoch_at ho1 rfl ?_);refine qaa (wpAny_newTuple ?_ (by show vs.length<=_;exact hfits));refine qaa (wpAny_newList ?_ (qaM _));refine wpAny_holding ?_;have ho6:(((s.heap.update a (Obj.mapSeq fun _=>(#[]:Array Value))).push (seqObj "tuple" vs.toArray 0)).push (seqObj "list" #[] 0)).get? a=some (seqObj "list" #[] e1) :=
  qad _ (qad _ ho1)
 have tk6:∀k b,TK prog w s.heap k b->TK prog w (((s.heap.update a (Obj.mapSeq fun _=>(#[]:Array Value))).push (seqObj "tuple" vs.toArray 0)).push (seqObj "list" #[] 0)) k b:=by
  rintro k b ⟨o,items,m,hb,hc,r⟩;have hne':b≠a:=by
   rintro rfl;rw[ho] at hb;cases hb;have hc':Value.type "list"=Value.type "tuple":=hc;exact absurd hc' (by decide)
  exact⟨o,items,m,qad _ (qad _ ((qci _ _ _ _ hne').trans hb)),hc,r⟩
 show wpAny (model prog w) A _ P E { s with heap:=((s.heap.update a (Obj.mapSeq fun _=>(#[]:Array Value))).push (seqObj "tuple" vs.toArray 0)).push (seqObj "list" #[] 0)};have hk6:Lie prog w (((s.heap.update a (Obj.mapSeq fun _=>(#[]:Array Value))).push (seqObj "tuple" vs.toArray 0)).push (seqObj "list" #[] 0)) vs.toArray ks :=
  ⟨hk.1,fun i v k hv hk'=>let ⟨b,e,t⟩:=hk.2 i v k hv hk';⟨b,e,tk6 k b t⟩⟩
 have hsz:vs.toArray.size=vs.length:=by simp
 dsimp only;by_cases h2:vs.toArray.size<2
 ·rw[qai h2,qai h2];refine qaa (qae ?_);rw[StateT.run_pure];refine qaa (qae ?_);dsimp only;refine qaa (seqEpoch_at ho6 rfl ?_);have hz:((vs.toArray.zip vs.toArray).map (·.2))=vs.toArray:=by
   apply qbg.mp;simp only[Array.toList_map,Array.toList_zip,List.toList_toArray];exact List.map_snd_zip (qah _)
  refine qaa (listUpdate_at ho6 rfl ?_ (qaM _) (by show ((vs.toArray.zip vs.toArray).map (·.2)).size<=_;rw[hz,hsz];lia));simp only[bne_self_eq_false,qac,if_false];refine qae ?_
  have:=h vs ks hk (List.Perm.refl _) (List.Perm.refl _) (by
   have hl:ks.length<2:=by have:=hk.1;lia
   unfold Ris
   match ks,hl with
   | [],_=>simp
   | [x],_=>simp)
  have e:(arrOf (SortSt.mk' general' (vs.toArray.zip vs.toArray) #[] 7 none)).map (·.2)=vs.toArray:=hz;rw[e];exact this
 ·rw[qal h2,qal h2];refine qaa (sW (s:={ s with heap:=_}) hk6 hne (by lia) ?_);have hps:(pairsOf vs).size=vs.length:=pairsOf_size vs
  refine qaa (wpAny_mono (yS (C:=tcmp prog w A E { s with heap:=((s.heap.update a (Obj.mapSeq fun _=>(#[]:Array Value))).push (seqObj "tuple" vs.toArray 0)).push (seqObj "list" #[] 0)} true)
   (a₀:=pairsOf vs) (st:=SortSt.mk' (tuples' true) (vs.toArray.zip vs.toArray) #[] 7 none)
   (Q:=fun _ st'=>(arrOf st').Perm (pairsOf vs)/\failedOf st'=none/\Srt (tcmp prog w A E { s with heap:=((s.heap.update a (Obj.mapSeq fun _=>(#[]:Array Value))).push (seqObj "tuple" vs.toArray 0)).push (seqObj "list" #[] 0)} true) (arrOf st') 0 (pairsOf vs).size)
   ?_ ⟨Array.Perm.refl _,rfl,rfl⟩ rfl (by lia) (by lia) fun st' a1 a2 a3=>⟨a1,a2,a3⟩) ?_ fun _ _ e=>e)
  ·intro p hp;rw[pairsOf_toList] at hp;obtain⟨q1,q2⟩:=mem_zip_self hp;obtain⟨i,hi⟩:=qax.mp q2
   obtain⟨k,hk'⟩:∃k,ks[i]?=some k:=⟨_,qaE (by
    have h3:=(qag.mp hi).1
    have:=hk.1;lia)⟩
   obtain⟨b,e,t⟩:=hk6.2 i p.1 k (by simpa using hi) hk';exact⟨b,k,e,t⟩
  ·rintro⟨⟨⟩,st'⟩ s' ⟨rfl,hp,hf,hs⟩;dsimp only;refine qaa (seqEpoch_at ho6 rfl ?_);have hz:((arrOf st').map (·.2)).size=vs.length:=by rw[Array.size_map,hp.size_eq,hps]
   refine qaa (listUpdate_at ho6 rfl ?_ (qaM _) (by show ((arrOf st').map (·.2)).size<=_;rw[hz];lia));rw[hf];simp only[bne_self_eq_false,qac,if_false];refine qae ?_;have hl:(arrOf st').toList.Perm (vs.zip vs):=by rw[<-pairsOf_toList];exact qbQ.mp hp
   have hmem:∀p,p∈(arrOf st').toList->p.1=p.2/\p.1∈vs:=fun p hp'=>mem_zip_self (hl.mem_iff.mp hp');have hv:∀v,v∈vs->∃k b,v=.ref b/\TK prog w s.heap k b/\k∈ks:=fun v hv=>by
    obtain⟨i,hi⟩:=qax.mp hv
    obtain⟨k,hk'⟩:∃k,ks[i]?=some k:=⟨_,qaE (by
     have h3:=(qag.mp hi).1
     have:=hk.1;lia)⟩
    obtain⟨b,e,t⟩:=hk.2 i v k (by simpa using hi) hk';exact⟨k,b,e,t,qax.mpr ⟨i,hk'⟩⟩
   have hmap:vs.map (tkey prog w s.heap)=ks:=by
    apply qbO;intro i;rw[qaz]
    cases hi:vs[i]? with
    | none =>
     have:=List.getElem?_eq_none_iff.mp hi
     rw[qaS (by have:=hk.1;lia)];rfl
    | some v =>
     obtain⟨k,hk'⟩:∃k,ks[i]?=some k:=⟨_,qaE (by
      have h3:=(qag.mp hi).1
      have:=hk.1;lia)⟩
     obtain⟨b,e,t⟩:=hk.2 i v k (by simpa using hi) hk';subst e;rw[hk'];show some (tkey prog w s.heap (.ref b))=some k;rw[fY t]
   have h6eq:∀v,v∈vs->tkey prog w (((s.heap.update a (Obj.mapSeq fun _=>(#[]:Array Value))).push (seqObj "tuple" vs.toArray 0)).push (seqObj "list" #[] 0)) v=tkey prog w s.heap v:=fun v hv'=>by
    obtain⟨k,b,rfl,t,_⟩:=hv v hv';rw[fY t,fY (tk6 k b t)]
   have hout:=h ((arrOf st').toList.map (·.2)) ((arrOf st').toList.map fun p=>tkey prog w s.heap p.1) ?_ ?_ ?_ ?_
   ·have e:((arrOf st').toList.map (·.2)).toArray=(arrOf st').map (·.2):=by apply qbg.mp;simp
    rw[e] at hout;exact hout
   ·refine⟨by simp,fun i v k hv' hk'=>?_⟩;rw[qaY,qaz] at hv';rw[qaz] at hk'
    cases hi:(arrOf st').toList[i]? with
    | none=>rw[hi] at hv';cases hv'
    | some p =>
     rw[hi] at hv' hk';cases hv';cases hk';obtain⟨q1,q2⟩:=hmem p (qaO hi);obtain⟨k,b,e,t,_⟩:=hv p.1 q2;refine⟨b,by show p.2=_;rw[<-q1];exact e,?_⟩;show TK prog w s.heap (tkey prog w s.heap p.1) b;rw[e,fY t];exact t
   ·have q:=hl.map (·.2);rw[List.map_snd_zip (qah _)] at q;exact q
   ·have q:=hl.map fun p=>tkey prog w s.heap p.1;have e2:(vs.zip vs).map (fun p=>tkey prog w s.heap p.1)=ks:=by
     rw[<-hmap]
     have:(vs.zip vs).map (fun p=>tkey prog w s.heap p.1)=((vs.zip vs).map Prod.fst).map (tkey prog w s.heap):=by rw[qbF];rfl
     rw[this,List.map_fst_zip (qah _)]
    rw[e2] at q;exact q
   ·unfold Ris;rw[qbY,qbl];intro i j hi hj hij;have hi':i<(arrOf st').size:=by simpa using hi
    have hj':j<(arrOf st').size:=by simpa using hj
    have q:=hs i j (qaM _) (qbU hij) (by rw[<-hp.size_eq];exact hj');rw[aV (getElem?_pos _ i hi'),aV (getElem?_pos _ j hj')] at q;have m1:=(hmem (arrOf st')[i] (by simp)).2;have m2:=(hmem (arrOf st')[j] (by simp)).2;have q':bG (tkey prog w (((s.heap.update a (Obj.mapSeq fun _=>(#[]:Array Value))).push (seqObj "tuple" vs.toArray 0)).push (seqObj "list" #[] 0)) (arrOf st')[j].1)
     (tkey prog w (((s.heap.update a (Obj.mapSeq fun _=>(#[]:Array Value))).push (seqObj "tuple" vs.toArray 0)).push (seqObj "list" #[] 0)) (arrOf st')[i].1)=false:=q
    rw[h6eq _ m1,h6eq _ m2] at q';simpa using q'
def nI(ho:h.get? a=some (seqObj "list" vs.toArray n))(out:Array Value):∃c,(sortedHeap h a vs out).get? a=some (seqObj "list" out c):=by
 unfold sortedHeap;obtain⟨e1,ho1⟩:∃e1,(h.update a (Obj.mapSeq fun _=>(#[]:Array Value))).get? a=some (seqObj "list" #[] e1):=⟨_,get?_update_seq ho fun _=>#[]⟩;exact⟨_,get?_update_seq (qad _ (qad _ ho1)) fun _=>out⟩
def lW(hb:b≠a)(ho:h.get? b=some o)(out:Array Value):(sortedHeap h a vs out).get? b=some o:=by
 unfold sortedHeap;rw[qci _ _ _ _ hb];exact qad _ (qad _ ((qci _ _ _ _ hb).trans ho))
structure Told (prog:Program) (w:World) (R:Value->Prop) (H0 h h':Heap) (l:Addr) (ks:List (List Int)) (out:List Value) (ks':List (List Int)):Prop where
 ext:Ext h h'
 fresh:h.get? l=none
 size:h.objs.size<=l
 at':∃c,h'.get? l=some (seqObj "list" out.toArray c)
 lie:Lie prog w H0 out.toArray ks'
 perm:ks'.Perm ks
 ris:Ris ks'
 mem:∀v∈out,R v
def w6(hx:Ext H0 s.heap)(hne:∀k∈ks,k≠[])(h66:ks.length<=66)
  (hc:wpAny (model prog w) A.in1 (collect v) (fun vs s1=>∃h' tk ks1,s1={ s with heap:=h',toks:=tk}/\Ext s.heap h'/\s.heap.objs.size<h'.objs.size/\s.toks<=tk/\Lie prog w H0 (List.toArray vs) ks1/\ks1.Perm ks/\∀v∈vs,R v) E s)
  (h:∀h' tk l out ks',Told prog w R H0 s.heap h' l ks out ks'->s.toks<=tk->Q (.ref l) { s with heap:=h',toks:=tk}) :
  wpAny (model prog w) A (call (.builtin "sorted") [v]) Q E s:=by
 refine Calls.call_function_entry kind_sorted plain_sorted entry_sorted (args_sorted1 _) ?_;unfold Builtin.«sorted»;refine qaa (m:=checkCount "sorted" 1 1 _) (qae ?_);refine qaa (wpAny_mono hc (fun vs s1 hq=>?_) fun _ _ e=>e);obtain⟨h1,tk,ks1,rfl,x1,hsz1,htk,lie1,p1,hR⟩:=hq;have hlen:vs.length=ks1.length:=by have:=lie1.1;simpa using this
 have hl66:vs.length<=66:=by rw[hlen,p1.length_eq];exact h66
 refine qaa (wpAny_newList ?_ (by rw[sizeLine_eq];lia));have hoL:(h1.push (seqObj "list" vs.toArray 0)).get? h1.objs.size=some (seqObj "list" vs.toArray 0):=qar _ rfl;have up:∀b o,h1.get? b=some o->(h1.push (seqObj "list" vs.toArray 0)).get? b=some o:=fun b o e=>qad _ e;have lieL:Lie prog w (h1.push (seqObj "list" vs.toArray 0)) vs.toArray ks1:=⟨lie1.1,fun i u k hu hk=>let ⟨b,e,t⟩:=lie1.2 i u k hu hk;⟨b,e,kQ (fun c o ho=>up c o (x1 c o (hx c o ho))) t⟩⟩
 refine qaa (wpAny_holding (wpAny_call_entry slot_list_sort ⟨_,hoL,rfl⟩ entry_list_sort
  (xu (s:={ s with heap:=h1.push (seqObj "list" vs.toArray 0),toks:=tk}) hoL lieL (fun k hk=>hne k (p1.mem_iff.mp hk)) hl66 fun out ks' l2 pv p2 r2=>⟨_,rfl,?_⟩) (args_list_sort _)))
 refine qae ⟨_,rfl,?_⟩;have hfresh:s.heap.get? h1.objs.size=none:=by
  cases e:s.heap.get? h1.objs.size with
  | none=>rfl
  | some o=>exact absurd (qap (x1 _ _ e)) (qaU _)
 refine h _ tk h1.objs.size out ks' ⟨fun b o e=>?_,hfresh,qbU hsz1,nI hoL _,⟨l2.1,fun i u k hu hk=>?_⟩,p2.trans p1,r2,fun v hv=>hR v (pv.mem_iff.mp hv)⟩ htk
 ·have hb:b≠h1.objs.size:=qaG (qap (x1 b o e));exact lW hb (up b o (x1 b o e)) _
 ·
  obtain⟨b,e,t⟩:=l2.2 i u k hu hk;have hu':out[i]?=some u:=by simpa using hu
  have hmem:u∈vs:=pv.mem_iff.mp (qaO hu');obtain⟨q,hq⟩:=qax.mp hmem;obtain⟨k1,hk1⟩:∃k1,ks1[q]?=some k1:=⟨_,qaE (by have:=(qag.mp hq).1;lia)⟩;obtain⟨b1,e1,t1⟩:=lie1.2 q u k1 (by simpa using hq) hk1;rw[e] at e1;cases e1;have t2:=kQ (fun c o ho=>up c o (x1 c o (hx c o ho))) t1
  have:k=k1:=IsTupleKey.inj t t2
  subst this;exact⟨b,e,t1⟩
def wm(hh:A.handled=none)(T:cW prog w (PB H0 R) s.heap S (bJ w) ks)(hx:Ext H0 s.heap)(hne:∀k∈ks,k≠[])(h66:ks.length<=66)
  (h:∀h' tk l out ks',Told prog w (fun v=>∃a,v=.ref a/\R a) H0 s.heap h' l ks out ks'->s.toks<=tk->Q (.ref l) { s with heap:=h',toks:=tk}) :
  wpAny (model prog w) A (call (.builtin "sorted") [.ref S]) Q E s :=
 w6 hx hne h66 (uf (by simpa using hh) T hx fun h' tk vs ks' a z b c e d=>⟨h',tk,ks',rfl,a,z,b,c,d,e⟩) h
end
end SortT
namespace MM
open PySem PySem.Spec PyProof.Rows L2 SetT SortT
def gU:List PV->Option (List Int)
 | []=>some []
 | .int i::r=>(gU r).map (i::·)
 | _=>none
def kOf:PV->Option (List Int)
 | .tup xs=>gU xs
 | _=>none
def ji:List PV->Option (List (List Int))
 | []=>some []
 | x::r=>(match kOf x,ji r with
  | some k,some ks=>some (k::ks)
  | _,_=>none)
def kP(k:List Int):PV:=.tup (k.map .int)
def cN(l:List (List Int)):List (List Int):=l.mergeSort fun x y=>!bG y x
def dS(l:List (List Int)):(cN l).Perm l:=List.mergeSort_perm _ _
def gr(l:List (List Int)):Ris (cN l):=by
 have:=List.pairwise_mergeSort (le:=fun x y=>!bG y x) (l:=l) (fun a b c h1 h2=>by
   simp only[qbC] at h1 h2 ⊢
   exact KeyOrd.kle_trans (O:=lexO) h1 h2) (fun a b=>by
   cases h:bG b a with
   | false=>simp
   | true =>
    have:bG a b=false:=KeyOrd.klt_asymm (O:=lexO) h
    simp[this])
 unfold Ris cN;exact this.imp fun {a b} h=>by simpa using h
def jp(h1:Ris l)(h2:Ris m)(p:l.Perm m):l=m :=
 List.Perm.eq_of_pairwise (fun a b _ _ x y=>i8 a b y x) h1 h2 p
def sL:∀{xs:List PV} {k:List Int},gU xs=some k->xs=k.map .int
 | [],k,h=>by cases h;rfl
 | x::r,k,h=>by
  cases x with
  | int i =>
   unfold gU at h
   cases hr:gU r with
   | none=>rw[hr] at h;cases h
   | some kr =>
    rw[hr] at h;cases h;rw[sL hr];rfl
  | _=>cases h
def kOf_eq(h:kOf x=some k):x=kP k:=by
 cases x with
 | tup xs=>unfold kP;rw[sL (show gU xs=some k from h)]
 | _=>cases h
def uv:∀{xs:List PV} {ks:List (List Int)},ji xs=some ks->xs=ks.map kP
 | [],ks,h=>by cases h;rfl
 | x::r,ks,h=>by
  unfold ji at h
  cases hx:kOf x with
  | none=>rw[hx] at h;cases h
  | some k =>
   cases hr:ji r with
   | none=>rw[hx,hr] at h;cases h
   | some kr =>
    rw[hx,hr] at h;cases h;rw[kOf_eq hx,uv hr];rfl
def TKs(K:qab)(H:Hp)(ys:List V)(ks:List (List Int)):Prop :=
 ys.length=ks.length/\∀(i:Nat) (y:V) (k:List Int),ys[i]?=some y->ks[i]?=some k->∃a,y=.ref a/\SqT K H a (k.map V.int)
def vints{K:qab}{ρ:List Addr}{H:Hp}:∀{k:List Int} {ys:List V},RPs K ρ H (k.map PV.int) ys->ys=k.map V.int
 | [],ys,h=>by cases h;rfl
 | i::k,ys,h=>by
  cases h with
  | cons r t =>
   cases r;rw[vints t];rfl
def uI{K:qab}{ρ:List Addr}{H:Hp}:∀{ks:List (List Int)} {ys:List V},RPs K ρ H (ks.map kP) ys->TKs K H ys ks
 | [],ys,h=>by cases h;exact⟨rfl,fun i y k e=>by simp at e⟩
 | k::ks,ys,h=>by
  cases h with
  | cons r t =>
   obtain⟨l,g⟩:=uI t;refine⟨by simp[l],fun i y k' e1 e2=>?_⟩
   cases i with
   | zero =>
    simp at e1 e2;subst e1;subst e2
    cases r with
    | tup s1 r1 =>
     rw[vints r1] at s1;exact⟨_,rfl,s1⟩
   | succ i=>exact g i y k' (by simpa using e1) (by simpa using e2)
def u9{K:qab}{ρ:List Addr}{H:Hp}:∀{ks:List (List Int)} {ys:List V},TKs K H ys ks->RPs K ρ H (ks.map kP) ys
 | [],ys,h=>by
  have:ys=[]:=qbp.mp (by have:=h.1;simpa using this)
  subst this;exact .nil
 | k::ks,ys,h=>by
  cases ys with
  | nil=>have:=h.1;simp at this
  | cons y ys =>
   obtain⟨a,rfl,s1⟩:=h.2 0 y k rfl rfl;refine .cons (.tup s1 (RPs.ints k)) (u9 ⟨by have:=h.1;simpa using this,fun i y' k' e1 e2=>h.2 (i+1) y' k' (by simpa using e1) (by simpa using e2)⟩)
def mV:∀{k:List Int} {its:List Value},aB (k.map V.int) its->ItemsAre (intKind prog w) k its
 | [],_,h=>by cases h;exact .nil
 | i::k,_,h=>by
  cases h with
  | cons r t =>
   obtain⟨tk,rfl⟩:=r;exact .cons (intKind_is _ _ _ _) (mV t)
section
variable {X:Cx} {Ie:List (Addr × Obj)} {σ:L2.St} {H:Hp} {s:Shared}
def nK(I:Inv X Ie σ H s)(h:SqT X.K H a (k.map V.int)):TK X.prog X.w s.heap k a:=by
 obtain⟨its,rv,⟨o,ho,hc,n,hd⟩,_⟩:=I.tuple h;exact⟨o,its.toArray,n,ho,hc,hd,by simpa using mV rv⟩
def inv_lie(I:Inv X Ie σ H s)(h:TKs X.K H ys ks)(rv:aB ys its):Lie X.prog X.w s.heap its.toArray ks:=by
 refine⟨by simp[<-rv.length,h.1],fun i v k hv hk=>?_⟩;have hi:i<ys.length:=by rw[h.1];exact (qag.mp hk).1
 obtain⟨a,e,s1⟩:=h.2 i ys[i] k (by simp[hi]) hk;obtain⟨u,eu,ru⟩:=rv.get (show ys[i]?=some ys[i] by simp[hi])
 have:v=u:=by
  have h1:its[i]?=some v:=by simpa using hv
  rw[h1] at eu;exact Option.some.inj eu
 subst this;rw[e] at ru;exact⟨a,ru,nK I s1⟩
end
def SPh(prog:Program)(w:World)(S:Addr)(al:List (List Int × Addr))(h:Heap):Prop :=
 ∃o es ep t,h.get? S=some o/\o.ExactSet/\o.data=.set es ep t/\t.dummies=#[]/\(t.mask=7\/t.mask=31\/t.mask=127)/\t.plain=true/\t.led=bJ w /\
  WF t.mask t.place (es.map (·.1))/\jL t es.size/\es.toList=al.map fun p=>(TH prog w p.1,Value.ref p.2)
def sph_of(T:cW prog w P h S (bJ w) ks) :
  ∃al,SPh prog w S al h/\(al.map (·.1)).Perm ks/\∀p∈al,TK prog w h p.1 p.2/\P p.2:=by
 obtain⟨o,es,ep,t,ks',T,hr,hpm,hnd⟩:=T;have key:∀(l:List (Int × Value)) (ls:List (List Int)),l.length=ls.length->(∀(i:Nat) (e:Int × Value) (k:List Int),l[i]?=some e->ls[i]?=some k->∃a,e.2=.ref a/\TK prog w h k a/\e.1=TH prog w k/\P a) ->
   ∃al:List (List Int × Addr),l=al.map (fun p=>(TH prog w p.1,Value.ref p.2))/\al.map (·.1)=ls/\∀p∈al,TK prog w h p.1 p.2/\P p.2:=by
  intro l
  induction l with
  | nil =>
   intro ls hl _
   have:ls=[]:=qbp.mp (by simpa using hl.symm)
   subst this;exact⟨[],rfl,rfl,fun p hp=>by cases hp⟩
  | cons e l ih =>
   intro ls hl g
   cases ls with
   | nil=>simp at hl
   | cons k ls =>
    obtain⟨a,e1,e2,e3,e4⟩:=g 0 e k rfl rfl;obtain⟨al,a1,a2,a3⟩:=ih ls (by simpa using hl) fun i e' k' h1 h2=>g (i+1) e' k' (by simpa using h1) (by simpa using h2);refine⟨(k,a)::al,?_,by simp[a2],fun p hp=>?_⟩
    ·rw[a1,qaL];congr 1;obtain⟨x1,x2⟩:=e;simp only at e1 e3;rw[e1,e3]
    ·rcases qao.mp hp with rfl|hp
     ·exact⟨e2,e4⟩
     ·exact a3 p hp
 obtain⟨al,a1,a2,a3⟩:=key es.toList ks' (by rw[qas];exact T.ents.1) fun i e k h1 h2=>T.ents.2 i e k (by rw[<-qaq];exact h1) h2;exact⟨al,⟨o,es,ep,t,T.get,T.ex,T.data,T.dm,T.mask,T.plain,T.led',T.wf,hr,a1⟩,by rw[a2];exact hpm,a3⟩
def tset_of(p:SPh prog w S al h)(hk:∀q∈al,TK prog w h q.1 q.2)(hnd:(al.map (·.1)).Nodup) :
  cW prog w (PB h fun a=>∃k,(k,a)∈al) h S (bJ w) (al.map (·.1)):=by
 obtain⟨o,es,ep,t,p1,p2,p3,p4,p5,p6,p7,p8,p9,p10⟩:=p;refine⟨o,es,ep,t,al.map (·.1),⟨p1,p2,p3,p4,p5,p6,p7,p8,?_,fun i e k h1 h2=>?_⟩,p9,List.Perm.refl _,hnd⟩
 ·rw[<-qas,p10];simp
 ·rw[<-qaq,p10,qaz] at h1;rw[qaz] at h2
  cases hi:al[i]? with
  | none=>rw[hi] at h1;cases h1
  | some q =>
   rw[hi] at h1 h2;cases h1;cases h2;have hm:=qaO hi;have t1:=hk q hm;exact⟨q.2,rfl,t1,rfl,let ⟨o',_,_,ho',_⟩:=t1;⟨o',ho'⟩,q.1,hm⟩
def vR(p:SPh prog w S al h1)(k:∀o,h1.get? S=some o->h2.get? S=some o):SPh prog w S al h2:=by
 obtain⟨o,es,ep,t,p1,r⟩:=p;exact⟨o,es,ep,t,k o p1,r⟩
section
variable {X:Cx} {N W G:List Str} {k:Nat}
def xE(hh:X.calm=true)(hr:Room k X.A):bZ X (.type "set") (fun xs H Q=>∃l ys ks,xs=[.ref l]/\SqL X.K H l ys/\TKs X.K H ys ks/\(ded ks).length<=66 /\
  ∀S al,H S=none->(al.map (·.1)).Perm (ded ks)->(∀p∈al,SqT X.K H p.2 (p.1.map V.int))->Q (.ref S) (upd H S (.ext (SPh X.prog X.w S al)))):=by
 intro Ie s σ H xs us Q I r ⟨l,ys,ks,e,hq,ht,h66,q⟩;subst e;obtain⟨u,rfl,rx⟩:=eZ r;cases rx;obtain⟨its,rv,pl,hz⟩:=I.list hq;have lie:=inv_lie I ht rv;refine qi (I.ok.hd hh) (by have:=hr.units;lia) pl.isList lie h66 fun h' tk T x htk=>?_;obtain⟨al,sp,pm,al2⟩:=sph_of T;have hfr:=I.hok.fresh (qah s.heap.objs.size);obtain⟨o,es,ep,t,ho,rest⟩:=id sp;refine⟨.ref s.heap.objs.size,_,I.laid (o:=.ext (SPh X.prog X.w s.heap.objs.size al)) x (qah _) ⟨sp,⟨o,ho⟩,fun h1 h2 a b=>vR a b⟩,rfl,q _ al hfr pm fun p hp=>?_⟩;obtain⟨t1,⟨_,hm⟩⟩:=al2 p hp;obtain⟨i,hi⟩:=qax.mp hm;rw[qaq] at hi;have hi':its[i]?=some (.ref p.2):=by simpa using hi
 have hlt:i<its.length:=(qag.mp hi').1;have hlt2:i<ys.length:=by rw[rv.length];exact hlt
 have hlt3:i<ks.length:=by rw[<-ht.1];exact hlt2
 obtain⟨a,e,s1⟩:=ht.2 i ys[i] ks[i] (by simp[hlt2]) (by simp[hlt3]);obtain⟨u,eu,ru⟩:=rv.get (show ys[i]?=some ys[i] by simp[hlt2]);rw[hi'] at eu;cases eu;rw[e] at ru;have ea:p.2=a:=by cases ru;rfl
 have t2:=kQ x (nK I s1);rw[<-ea] at t2
 have:p.1=ks[i]:=IsTupleKey.inj t1 t2
 rw[this,ea];exact s1
def told_ep{Ie:List (Addr × Obj)}{s:Shared}{σ:L2.St}{H:Hp}{Q:VK}{R:Value->Prop}{h':Heap}{tk:Nat}{l:Addr}{ks ks':List (List Int)}{out:List Value}(I:Inv X Ie σ H s)(T:Told X.prog X.w R s.heap s.heap h' l ks out ks')
  (hR:∀v,R v->∃(a:Addr) (k:List Int),v=.ref a/\SqT X.K H a (k.map V.int)) (hz:ks.length<=66)
  (q:∀l ys,H l=none->TKs X.K H ys (cN ks)->Q (.ref l) (upd H l (.lst ys))):EP X Ie σ Q (.ref l) { s with heap:=h',toks:=tk}:=by
 have hlt:=T.size;have hks:ks'=cN ks:=jp T.ris (gr ks) (T.perm.trans (dS ks).symm);obtain⟨c,hc⟩:=T.at';have hlen:out.length=ks'.length:=by have:=T.lie.1;simpa using this
 have hout:∀v∈out,∃a,v=.ref a:=fun v hv=>let ⟨a,_,e,_⟩:=hR v (T.mem v hv);⟨a,e⟩;obtain⟨ys,rv,hy⟩:∃ys:List V,aB ys out/\∀y∈ys,∃a,y=.ref a/\Value.ref a∈out:=by
  clear hlen T hR hks hc
  induction out with
  | nil=>exact⟨[],.nil,fun y hy=>by cases hy⟩
  | cons v out ih =>
   obtain⟨a,rfl⟩:=hout v qaF;obtain⟨ys,r,g⟩:=ih (fun u hu=>hout u (qam _ hu));refine⟨.ref a::ys,.cons rfl r,fun y hy=>?_⟩;rcases qao.mp hy with rfl|hy
   ·exact⟨a,rfl,qaF⟩
   ·obtain⟨b,e,m⟩:=g y hy;exact⟨b,e,qam _ m⟩
 have hks2:TKs X.K H ys ks':=by
  refine⟨by rw[rv.length,hlen],fun i y k hy' hk=>?_⟩;obtain⟨u,eu,ru⟩:=rv.get hy';obtain⟨a,e,m⟩:=hy y (qaO hy');subst e;cases ru;obtain⟨b,k2,e2,s1⟩:=hR _ (T.mem _ m);cases e2;obtain⟨b2,e3,t⟩:=T.lie.2 i (.ref a) k (by simpa using eu) hk;cases e3
  have:k=k2:=IsTupleKey.inj t (nK I s1)
  subst this;exact⟨a,rfl,s1⟩
 have hfr:=I.hok.fresh hlt;refine⟨.ref l,_,I.laid (o:=.lst ys) T.ext hlt (show ObjOk X.prog X.w _ h' l (.lst ys) from⟨?_,out,c,rv,hc⟩),rfl,q l ys hfr (by rw[<-hks];exact hks2)⟩;rw[rv.length,hlen,T.perm.length_eq,sizeLine_eq];lia
def qZ(hh:X.calm=true):bZ X (.builtin "sorted") (fun xs H Q=>∃S al,xs=[.ref S]/\H S=some (.ext (SPh X.prog X.w S al))/\(∀p∈al,SqT X.K H p.2 (p.1.map V.int))/\(al.map (·.1)).Nodup/\(∀p∈al,p.1≠[])/\al.length<=66 /\
  ∀l ys,H l=none->TKs X.K H ys (cN (al.map (·.1)))->Q (.ref l) (upd H l (.lst ys))):=by
 intro Ie s σ H xs us Q I r ⟨S,al,e,hS,hal,hnd,hne,hz,q⟩;subst e;obtain⟨u,rfl,rx⟩:=eZ r;cases rx;obtain⟨sp,_,_⟩:SPh X.prog X.w S al s.heap/\_:=(show ObjOk X.prog X.w H s.heap S (.ext (SPh X.prog X.w S al)) from I.hok S _ hS);have T:=tset_of sp (fun p hp=>nK I (hal p hp)) hnd;refine wm (I.ok.hd hh) T (fun b o e=>e) (fun k hk=>?_) (by simpa using hz) fun h' tk l out ks' td htk=>?_
 ·obtain⟨p,hp,rfl⟩:=qaJ.mp hk;exact hne p hp
 ·refine told_ep I td (fun v ⟨a,e,k,hm⟩=>⟨a,k,e,hal (k,a) hm⟩) (by simpa using hz) q
def fE(h:MH):PV->Option (List PV)
 | .frl xs=>some xs
 | .loc n=>(match h[n]? with
  | some (.lst xs)=>some xs
  | _=>none)
 | _=>none
def lst_rel{ρ:List Addr}{H:Hp}{h:MH}{x:PV}{y:V}{xs:List PV}{K:qab}{mg:MGl}(rh:RH K mg ρ H h)(r:RP K ρ H x y)(e:fE h x=some xs):∃a zs,y=.ref a/\SqL K H a zs/\RPs K ρ H xs zs:=by
 cases r with
 | frl s r=>cases e;exact⟨_,_,rfl,s.sq,r⟩
 | @loc n a en =>
  obtain⟨o,eo,ro⟩:=rh.obj en;unfold fE at e;dsimp only at e;rw[eo] at e
  cases o with
  | lst zs =>
   cases e;obtain⟨ys,ey,ry⟩:=ro;exact⟨a,ys,rfl,SqL.of ey,ry⟩
  | _=>cases e
 | _=>cases e
def mSS(m:Mx (List PV)):Mx PV:=fun σ h=>(m σ h).bind fun vs h1=>match vs with
 | [x]=>(match (fE h1 x).bind ji with
  | some ks=>if (∀k∈ks,k≠[])/\(ded ks).length<=66 then .ok (.loc h1.length) (h1++[.lst ((cN (ded ks)).map kP)]) else .bad
  | none=>.bad)
 | _=>.bad
def gT(l:List (List Int)):(ded l).Nodup:=by
 have key:∀(m:List (List Int)) (acc:List (List Int)),acc.Nodup->(m.foldl SetT.dH acc).Nodup:=by
  intro m
  induction m with
  | nil=>intro acc h;exact h
  | cons k m ih =>
   intro acc h;refine ih _ ?_;unfold SetT.dH;split
   ·exact h
   ·rename_i hk
    rw[qcr];refine⟨h,by simp,fun x hx y hy=>?_⟩
    have:y=k:=by simpa using hy
    subst this;rintro rfl;exact hk hx
 exact key l [] qcF
def vM(p:l.Perm m):cN l=cN m:=jp (gr l) (gr m) ((dS l).trans (p.trans (dS m).symm))
def kB(g:Good X N W G k){a:Expr}{m:Mx (List PV)}{i j:Nat}{p p' pos pos':Pos}(hi:G[i]?=some "sorted")(hm:X.mg "sorted"=none)(hj:G[j]?=some "set")(hm':X.mg "set"=none)(ha:MA X [a] m)
  (hs:starEach [a] X.env=[(false,eval a X.env)]:=by rfl) (he:starEach [.Call (.Name "set" p') [a] [] pos'] X.env=[(false,eval (.Call (.Name "set" p') [a] [] pos') X.env)]:=by rfl) :
  ME X (.Call (.Name "sorted" p) [.Call (.Name "set" p') [a] [] pos'] [] pos) (mSS m):=by
 have d:=g.dbg _ (qaf _ (av hi));have d':=g.dbg _ (qaf _ (av hj));refine PE.imp (dN (qZ g.calm) (g.gl _ (av hi)) hm PyProof.Rows.Boot.«sorted» (bI (kA (xE g.calm g.room) (g.gl _ (av hj)) hm' PyProof.Rows.Boot.«set» ha d'.2.2 d'.1 hs rfl) dB he) d.2.2 d.1 he rfl) fun σ H Q ⟨ρ,σp,h,rs,rh,q⟩=>?_;refine⟨ρ,σp,h,rs,rh,Ful.bind q fun ρ1 H1 x x' h1 ex l1 rh1 rx q1=>?_⟩;clear ex
 cases rx with
 | nil=>exact q1.elim
 | @cons y y' _ _ r1 t1 =>
  cases t1 with
  | cons _ _=>exact q1.elim
  | nil =>
   dsimp only at q1
   cases hl:fE h1 y with
   | none=>rw[hl] at q1;exact q1.elim
   | some xs =>
    rw[hl] at q1
    cases hk:ji xs with
    | none=>simp only[qbv,hk] at q1;exact q1.elim
    | some ks =>
     simp only[qbv,hk] at q1;by_cases z:(∀k∈ks,k≠[])/\(ded ks).length<=66
     ·rw[qai z] at q1;obtain⟨la,zs,rfl,hsq,rzs⟩:=lst_rel rh1 r1 hl;rw[uv hk] at rzs;refine⟨la,zs,ks,rfl,hsq,uI rzs,z.2,fun S al hS pm hal=>?_⟩;obtain⟨rh2,l2⟩:=rh1.loose hS (.ext (SPh X.prog X.w S al));refine⟨S,al,rfl,br,fun p hp=>l2.sqt (hal p hp),pm.nodup_iff.mpr (gT ks),fun p hp=>?_,?_,fun l ys hl2 tk=>?_⟩
      ·have:p.1∈ded ks:=pm.mem_iff.mp (qaJ.mpr ⟨p,hp,rfl⟩)
       exact z.1 p.1 ((k9 _ _).mp this)
      ·have:=pm.length_eq
       rw[qaW] at this;rw[this];exact z.2
      ·rw[vM pm] at tk;obtain⟨rh3,l3⟩:=rh2.new hl2 (o:=.lst ((cN (ded ks)).map kP)) (ho:=.lst ys) ⟨_,rfl,u9 tk⟩;exact q1 _ _ _ (l2.trans l3) rh3 (.loc (by rw[<-rh1.len];simp))
     ·rw[qal z] at q1;exact q1.elim
end
end MM
namespace SeqT
open PySem
abbrev itN(tp:Bool):String:=if tp then "tuple_iterator" else "list_iterator"
abbrev sqN(tp:Bool):String:=if tp then "tuple" else "list"
def SqI(tp:Bool)(h:Heap)(it a:Addr)(i:Nat):Prop:=∃o,h.get? it=some o/\o.cls=.type (itN tp)/\o.data=.fields #[.ref a,.int i 0]
def SqO(tp:Bool)(h:Heap)(a:Addr)(xs:Array Value):Prop:=∃o,h.get? a=some o/\o.cls=.type (sqN tp)/\∃n,o.data=.seq xs n
def SqI.at'(x:SqI tp h it a i)(k:∀o,h.get? it=some o->h'.get? it=some o):SqI tp h' it a i:=let ⟨o,e,r⟩:=x;⟨o,k o e,r⟩
def SqO.at'(x:SqO tp h a xs)(k:∀o,h.get? a=some o->h'.get? a=some o):SqO tp h' a xs:=let ⟨o,e,r⟩:=x;⟨o,k o e,r⟩
def SqI.lt(x:SqI tp h it a i):it<h.objs.size:=let ⟨_,e,_⟩:=x;qap e
section
variable {prog:Program} {w:World} {A:Around} {E:Value→Shared→Prop} {s:Shared}
def xw(hi:SqI tp s.heap it a i)(ho:SqO tp s.heap a xs)(hx:xs[i]?=some x)
  (hQ:∀h',SqI tp h' it a (i+1)->Heap.SameBut it s.heap h'->Q x { s with heap:=h'}):wpAny (model prog w) A (Builtin.SmallTypes.nextOf (.ref it)) Q E s:=by
 cases tp with
 | false=>exact wpAny_nextOf_list_item (show s.heap.IsListIter it a i from hi) (show s.heap.IsList a xs from ho) hx hQ
 | true =>
  obtain⟨o,e,hc,hd⟩:=id hi;obtain⟨ol,hol,_,nl,hdl⟩:=ho;have hT:s.TypeIs (.ref it) "tuple_iterator":=⟨o,e,hc⟩;unfold Builtin.SmallTypes.nextOf;refine qaa (wpAny_callSpecial?_slot (name:=Str.ofString "__next__") hT F.slot_tuple_iterator_next (wpAny_call_entry F.slot_tuple_iterator_next hT F.entry_tuple_iterator_next ?_ (F.args_tuple_iterator_next_1 _)));show wpAny _ _ (field (.ref it) 0 >>= _) _ _ s;refine qaa (wpAny_field e hd (x:=.ref a) rfl ?_);show wpAny _ _ (if (Value.ref a == Value.none)=true then _ else _) _ _ s;rw[qal (show ¬((Value.ref a == Value.none)=true) from qaK)];show wpAny _ _ (field (.ref it) 1 >>= _) _ _ s;refine qaa (wpAny_field e hd (x:=.int i 0) rfl ?_);show wpAny _ _ (seqItems? (.ref a) >>= _) _ _ s;refine qaa (wpAny_seqItems hol hdl ?_);simp only[qaN,hx];refine qaa (wpAny_setField e hd (by simp) (qae ⟨x,rfl,qae (hQ _ ?_ (Heap.SameBut.update ..))⟩));exact⟨_,qbw _ e (Obj.isFreed_of_fields (Obj.data_mapFields hd _)),(Obj.cls_mapFields ..).trans hc,by rw[Obj.data_mapFields hd];simp[rawInt]⟩
def sv(hh:A.handled=none)(hi:SqI tp s.heap it a i)(ho:SqO tp s.heap a xs)(hx:xs[i]?=none)
  (hE:∀h' e,Heap.ExtBut it s.heap h'->(∃o,h'.get? e=some o/\o.cls=.type "StopIteration")->E (.ref e) { s with heap:=h'}):wpAny (model prog w) A (Builtin.SmallTypes.nextOf (.ref it)) Q E s:=by
 cases tp with
 | false=>exact wpAny_nextOf_list_end hh (show s.heap.IsListIter it a i from hi) (show s.heap.IsList a xs from ho) hx hE
 | true =>
  obtain⟨o,e,hc,hd⟩:=id hi;obtain⟨ol,hol,_,nl,hdl⟩:=ho;have hT:s.TypeIs (.ref it) "tuple_iterator":=⟨o,e,hc⟩;unfold Builtin.SmallTypes.nextOf;refine qaa (wpAny_callSpecial?_slot (name:=Str.ofString "__next__") hT F.slot_tuple_iterator_next (wpAny_call_entry F.slot_tuple_iterator_next hT F.entry_tuple_iterator_next ?_ (F.args_tuple_iterator_next_1 _)));show wpAny _ _ (field (.ref it) 0 >>= _) _ _ s;refine qaa (wpAny_field e hd (x:=.ref a) rfl ?_);show wpAny _ _ (if (Value.ref a == Value.none)=true then _ else _) _ _ s;rw[qal (show ¬((Value.ref a == Value.none)=true) from qaK)];show wpAny _ _ (field (.ref it) 1 >>= _) _ _ s;refine qaa (wpAny_field e hd (x:=.int i 0) rfl ?_);show wpAny _ _ (seqItems? (.ref a) >>= _) _ _ s;refine qaa (wpAny_seqItems hol hdl ?_);simp only[qaN,hx];refine qaa (wpAny_rule (qaa (wpAny_setField e hd (by simp) ?_)));show wpAny _ _ (newExc (.type "StopIteration") [] >>= _) _ _ _;refine qaa ?_;simp only[newExc,newTuple];refine qaa (wpAny_newObj_type ?_ (by size_fits));refine qaa (m:=firstArgMember _ _) (wpAny_of_eq (a:=Value.none) (by first | rfl | (simp only[firstArgMember];rfl)) ?_);refine wpAny_newObj_type ?_ (by size_fits);simp only[raiseNew];refine qaa (wpAny_handled ?_);rw[show A.in1.handled=none from hh];refine qaa (qae (wpAny_throw ?_));exact hE _ _ (((Heap.SameBut.update ..).extBut.push _).push _) ⟨_,qar _ rfl,rfl⟩
def oN(ho:SqO tp s.heap a xs)
  (hQ:Q (.ref s.heap.objs.size) { s with heap:=s.heap.push { cls:=.type (itN tp),data:=.fields #[.ref a,.int 0 0]}}):wpAny (model prog w) A (pyIter (.ref a)) Q E s:=by
 cases tp with
 | false=>exact wpAny_pyIter_list (show s.heap.IsList a xs from ho) hQ
 | true=>exact wpAny_pyIter_tuple (show s.heap.IsTuple a xs from ho) hQ
end
def draws(hh:A.handled=none)(tp:Bool)(it a:Addr)(hne:a≠it)(xs:Array Value) :
  Draws prog w A it [it,a] xs.size (fun i v=>xs[i]?=some v) (fun i h=>SqI tp h it a i/\SqO tp h a xs) where
 live:=fun _ _ st=>let ⟨o,ho,_⟩:=st.1;⟨o,ho⟩
 frame:=fun _ _ _ st hk=>⟨st.1.at' fun o e=>hk it (by simp) o e,st.2.at' fun o e=>hk a (by simp) o e⟩
 item:=fun i s Q E hi st hQ=>by
  refine xw st.1 st.2 (x:=xs[i]) (by simp[hi]) fun h' hit' hs'=>?_;exact hQ _ h' s.toks (by simp[hi]) ⟨hit',st.2.at' fun o e=>(hs'.2 a hne).trans e⟩ hs'
 done:=fun s Q E st hE=>sv hh st.1 st.2 (by simp) hE
def Al(tp:Bool)(a:Addr)(xs:Array Value)(n:Nat)(dct:Option Addr)(sl:Array (Option Value)) :
  Meets (Builtin.«enumerate.__new__» ⟨[.type "enumerate",.ref a],[]⟩) (fun _ R s=>s.heap.get? a=some { cls:=.type (sqN tp),dict:=dct,data:=.seq xs n,slots:=sl} /\
   R (.ok (.ret (.ref (s.heap.push { cls:=.type (itN tp),data:=.fields #[.ref a,.int 0 0]}).objs.size)))
    { s with heap:=(s.heap.push { cls:=.type (itN tp),data:=.fields #[.ref a,.int 0 0]}).push { cls:=.type "enumerate",data:=.fields #[.none,.bool false,.ref s.heap.objs.size,rawInt 0,.none,.none]}}) :=
 .of_wp fun prog w A R s h=>by
  obtain⟨hp,g,d,tk,os⟩:=s;obtain⟨hl,h⟩:=h;have hsub:=sub_enumerate;have hL:SqO tp (Shared.heap ⟨hp,g,d,tk,os⟩) a xs:=⟨_,hl,rfl,n,rfl⟩
  wp_walk using AutoSeq1.wpAny_loadPart' hl
  refine wpAny_stack_any fun st=>qae ?_;split
  ·rename_i c _ _ _ _ _
   cases (c == Value.type "enumerate")
   ·wp_walk using AutoSeq1.wpAny_loadPart' hl,oN hL
    exact⟨_,rfl,h⟩
   ·wp_walk using AutoSeq1.wpAny_loadPart' hl,oN hL
    exact⟨_,rfl,h⟩
  ·wp_walk using AutoSeq1.wpAny_loadPart' hl,oN hL
   exact⟨_,rfl,h⟩
section
variable {prog:Program} {w:World} {A:Around} {E:Value→Shared→Prop} {s:Shared}
def xS(hL:SqO tp s.heap a xs)
  (h:∀h',IsEnum h' (s.heap.objs.size+1) s.heap.objs.size 0 .none->SqI tp h' s.heap.objs.size a 0->h'.objs.size=s.heap.objs.size+2 ->
   (∀b o,s.heap.get? b=some o->h'.get? b=some o)->Q (.ref (s.heap.objs.size+1)) { s with heap:=h'}) :
  wpAny (model prog w) A (call (.type "enumerate") [.ref a]) Q E s:=by
 obtain⟨⟨c,dct,dt,sl⟩,hl,hc,n,hd⟩:=hL;replace hc:c=.type (sqN tp):=hc;replace hd:dt=.seq xs n:=hd;subst hc hd;refine callType_new F.called_enumerate (by decide) (F.typeCall_enumerate_1 _) (F.newCall_enumerate_1 _) (fun obj=>F.args_object_init_2 obj _) F.entry_enumerate_new (Al tp a xs n dct sl) ⟨hl,?_⟩;have hz:(s.heap.push { cls:=.type (itN tp),data:=.fields #[.ref a,.int 0 0]}).objs.size=s.heap.objs.size+1:=qby ..;show _/\_;rw[hz]
 have he:IsEnum ((s.heap.push { cls:=.type (itN tp),data:=.fields #[.ref a,.int 0 0]}).push
   { cls:=.type "enumerate",data:=.fields #[.none,.bool false,.ref s.heap.objs.size,rawInt 0,.none,.none]}) (s.heap.objs.size+1) s.heap.objs.size 0 .none:=by
  have:=qar (s.heap.push { cls:=.type (itN tp),data:=.fields #[.ref a,.int 0 0]})
   (o:={ cls:=.type "enumerate",data:=.fields #[.none,.bool false,.ref s.heap.objs.size,rawInt 0,.none,.none]}) rfl
  rw[hz] at this;exact this
 exact⟨⟨_,he,rfl⟩,h _ he ⟨_,qad _ (qar _ rfl),rfl,rfl⟩ (by rw[qby,hz]) fun b o x=>qad _ (qad _ x)⟩
end
section
variable {prog:Program} {w:World} {A:Around} {E:Value→Shared→Prop} {s:Shared} {z TI TO i1 i2 l1 l2:Addr} {t1 t2:Bool} {k1 k2:Nat} {xs ys:Array Value}
end
section
variable {prog:Program} {w:World} {A:Around} {E:Value→Shared→Prop} {s:Shared}
end
end SeqT
namespace MM
open PySem PySem.Spec PyProof.Rows L2 SeqT
def SqB(tp:Bool)(K:qab)(H:Hp)(a:Addr)(ys:List V):Prop:=match tp with
 | true=>SqT K H a ys
 | false=>SqL K H a ys
section
variable {X:Cx} {Ie:List (Addr × Obj)} {σ:L2.St} {H:Hp} {s:Shared}
def rW(I:Inv X Ie σ H s)(h:SqB tp X.K H a ys):∃its:List Value,aB ys its/\SqO tp s.heap a its.toArray/\ys.length<=sizeLine:=by
 cases tp with
 | true =>
  obtain⟨its,rv,pl,hz⟩:=I.tuple h;exact⟨its,rv,pl,hz⟩
 | false =>
  obtain⟨its,rv,pl,hz⟩:=I.list h;exact⟨its,rv,pl.isList,hz⟩
def inv_sqi(I:Inv X Ie σ H s)(h:SqB tp X.K H a xs)(h':SqB tp X.K H a ys):xs=ys:=by
 cases tp with
 | true=>exact I.tuple_inj h h'
 | false=>exact I.list_inj h h'
def nt(I:Inv X Ie σ H s){h':Heap}{t':Nat}{ch:List Addr}(hf:∀b∈ch,ig X Ie H b)(k:∀b o,b∉ch->s.heap.get? b=some o->h'.get? b=some o) :
  Inv X Ie σ H { s with heap:=h',toks:=t'}:=by
 have nit:∀b u,H b=some u->b∉ch:=fun b u e z=>by rw[(hf b z).1] at e;cases e
 refine I.step (g':=s.gens) (d':=s.drawn) (ch:=ch) (fun b hb=>?_) (fun b o _ _ hc e _=>k b o hc e) (fun b o _ _ hc e _=>⟨o.slots,k b o hc e⟩) (fun _ _ _ _ n=>n)
  (fun b o hc e=>⟨o,k b o hc e⟩) (fun _ _ e=>e) (fun _ _ _ e=>e) (fun b ps e=>⟨#[],by rw[e];simp⟩) (fun m hm=>?_) (fun b u e=>?_) I.bare
 ·obtain⟨f0,f1,f2,f3,f4,f5⟩:=hf b hb;exact⟨f3,f1,f4,f5⟩
 ·obtain⟨o,es,ep,ho,r⟩:=hm;exact⟨o,es,ep,k _ o (fun z=>(hf _ z).2.1 rfl) ho,r⟩
 ·refine (I.hok b u e).stay (fun c v hc q=>k c v ?_ q) (fun _ q=>q) fun _ _ q=>q;rcases hc with z|z
  ·rw[z];exact nit b u e
  ·exact nit c _ z
def inv_tup(I:Inv X Ie σ H s){h':Heap}{t':Nat}{ch:List Addr}{ys:List V}{its:List Value}(hf:∀b∈ch,ig X Ie H b)(rv:aB ys its)(hz:ys.length<=sizeLine)(hch:s.heap.objs.size∉ch)
  (ht:h'.get? s.heap.objs.size=some { cls:=.type "tuple",data:=.seq its.toArray}) (k:∀b o,b∉ch->s.heap.get? b=some o->h'.get? b=some o) :
  Inv X Ie σ (upd H s.heap.objs.size (.tup ys)) { s with heap:=h',toks:=t'}/\(∀b∈ch,(upd H s.heap.objs.size (.tup ys)) b=none)/\H s.heap.objs.size=none:=by
 have hfr:=I.hok.fresh (qah s.heap.objs.size);have hne:∀b∈ch,b≠s.heap.objs.size:=fun b hb z=>hch (by rw[<-z];exact hb);have I1:Inv X Ie σ (upd H s.heap.objs.size (.tup ys)) { s with heap:=s.heap.push { cls:=.type "tuple",data:=.seq its.toArray},toks:=s.toks} :=
  I.laid (o:=.tup ys) (fun b u q=>qad _ q) (qah _) ⟨hz,its,rv,_,qar _ rfl,rfl,⟨_,rfl⟩,rfl⟩
 have hup:∀b∈ch,(upd H s.heap.objs.size (.tup ys)) b=none:=fun b hb=>by rw[aU (hne b hb)];exact (hf b hb).1
 refine⟨?_,hup,hfr⟩;refine nt (t':=t') I1 (ch:=ch) (fun b hb=>⟨hup b hb,(hf b hb).2⟩) fun b o hb e=>?_;by_cases z:b=s.heap.objs.size
 ·subst z;have e':(s.heap.push { cls:=.type "tuple",data:=.seq its.toArray}).get? s.heap.objs.size=some { cls:=.type "tuple",data:=.seq its.toArray}:=qar _ rfl;rw[show ({ s with heap:=s.heap.push { cls:=.type "tuple",data:=.seq its.toArray},toks:=s.toks}:Shared).heap=s.heap.push { cls:=.type "tuple",data:=.seq its.toArray} from rfl,e'] at e;cases e;exact ht
 ·have e':(s.heap.push { cls:=.type "tuple",data:=.seq its.toArray}).get? b=some o:=e;rw[Heap.get?_push_ne _ _ _ z] at e';exact k b o hb e'
end
def Ite(K:qab)(tp:Bool)(a:Addr):It :=
 ⟨fun i H=>∃ys y,SqB tp K H a ys/\ys[i]?=some y,fun i H x H'=>∃p y,H p=none/\x=.ref p/\H'=upd H p (.tup [.int i,y])/\∀ys,SqB tp K H a ys->ys[i]?=some y,fun i H=>∃ys,SqB tp K H a ys/\ys.length<=i⟩
def xm{P:Program}{w:World}{K:qab}{elts:List Expr}{x1:Nat}{pos:Pos}(tp:Bool)(a e it:Addr)(hei:e≠it)(hae:a≠e)(hai:a≠it) :
  Turn P w K (.Tuple elts x1 pos) (Ite K tp a) [e,it] e (fun i h=>(∃old,IsEnum h e it i old)/\SqI tp h it a i) where
 mem:=by simp
 obj:=fun i h st b hb=>by
  obtain⟨⟨old,he⟩,hi⟩:=st
  have:b=e\/b=it:=by simpa using hb
  rcases this with rfl|rfl
  ·exact⟨_,he,fun v z=>nomatch z⟩
  ·obtain⟨o,ho,hc,hd⟩:=hi;exact⟨o,ho,fun v z=>by rw[hd] at z;cases z⟩
 keep:=fun i h h' st k=>let ⟨⟨old,he⟩,hi⟩:=st;⟨⟨old,k e (by simp) _ he⟩,hi.at' fun o q=>k it (by simp) o q⟩
 item:=by
  intro X hP hw hK hc i Ie s σ H E I hf st hg;subst hP hw hK;obtain⟨⟨old,he⟩,hi⟩:=st;obtain⟨ys,y,hq,hy⟩:=hg;obtain⟨its,rv,so,hz⟩:=rW I hq;obtain⟨u,hu,ru⟩:=rv.get hy;have hlt:i<its.toArray.size:=by
   have:=(qag.mp hu).1
   simpa using this
  have hin:(X.A.in1).handled=none:=by have:=I.ok.hd hc;simpa using this
  refine wpAny_pyNext_enum_itemD (draws hin tp it a hai its.toArray) he ⟨hi,so⟩ hlt hei (by simp[hei,Ne.symm hae]) fun x h1 tk hx ho1 st1 ht1 hz1 hk1=>⟨_,rfl,?_⟩;have hxu:x=u:=by
   have:its.toArray[i]?=some u:=by simpa using hu
   rw[this] at hx;exact (Option.some.inj hx).symm
  subst hxu;refine wpAny_letOwnedTupleGo_enum (s:={ s with heap:=h1,toks:=tk+1}) ho1 fun h2 he2 sb2=>?_;replace sb2:Heap.SameBut e h1 h2:=sb2;have hlte:e<s.heap.objs.size:=qap he;have hlti:it<s.heap.objs.size:=hi.lt;obtain⟨I2,hup,hfr⟩:=inv_tup (t':=tk+1) (h':=h2) I (ch:=[e,it]) (ys:=[.int i,y]) (its:=[.int i tk,x]) hf (.cons ⟨tk,rfl⟩ (.cons ru .nil)) (by rw[sizeLine_eq];show 2<=_;decide)
   (by simp only[qao,qba,or_false,not_or];exact⟨qbE hlte,qbE hlti⟩)
   ((sb2.2 _ (qbE hlte)).trans ht1)
   (fun b o hb q=>by
    have h1':b≠e:=fun z=>hb (by simp[z]);have h2':b≠it:=fun z=>hb (by simp[z])
    exact (sb2.2 b h1').trans (hk1 b o h1' h2' q))
  refine⟨.ref s.heap.objs.size,_,I2,rfl,⟨_,y,hfr,rfl,rfl,fun zs hzs=>by rw[inv_sqi I hzs hq];exact hy⟩,⟨⟨x,by simpa using he2⟩,?_⟩,hup⟩;exact st1.1.at' fun o q=>(sb2.2 it (Ne.symm hei)).trans q
 done:=by
  intro X hP hw hK hc i Ie s σ H E I hf st hg;subst hP hw hK;obtain⟨⟨old,he⟩,hi⟩:=st;obtain⟨ys,hq,hy⟩:=hg;obtain⟨its,rv,so,hz⟩:=rW I hq;have hin:(X.A.in1).handled=none:=by have:=I.ok.hd hc;simpa using this
  have hlen:=rv.length;have hT:s.TypeIs (.ref e) "enumerate":=⟨_,he,rfl⟩;unfold pyNext;refine qaa (wpAny_attempt (wpAny_callSpecial?_slot (name:=Str.ofString "__next__") hT PySem.F.slot_enumerate_next (wpAny_call_entry PySem.F.slot_enumerate_next hT PySem.F.entry_enumerate_next ?_ (PySem.F.args_enumerate_next_1 _))));show wpAny _ _ (field (.ref e) 2 >>= _) _ _ _;refine qaa (wpAny_field he rfl (x:=.ref it) rfl ?_);refine qaa (sv hin hi so (by simp;ext) fun h1 x he' hx'=>?_);obtain⟨o,ho,hcx⟩:=hx';refine qaa (wpAny_isInstance (T:="StopIteration") (b:=true) ⟨o,ho,hcx⟩ isSubtype_stop ?_);refine qae ⟨rfl,nt (t':=s.toks) I hf fun b o hb q=>he' b o (fun z=>hb (by simp[z])) q⟩
 self:=fun A i s Q E st h=>let ⟨⟨old,he⟩,_⟩:=st;wpAny_pyIter_enum he h
def fb(v:PV)(h:MH):Option (Bool × List PV × List (Nat × List PV)):=match v with
 | .loc n=>(match h[n]? with
  | some (.lst xs)=>some (false,xs,[(n,xs)])
  | _=>none)
 | .frl xs=>some (false,xs,[])
 | .tup xs=>some (true,xs,[])
 | _=>none
def sq_rel{X:Cx}{ρ:List Addr}{H:Hp}{h:MH}{x:PV}{y:V}{tp:Bool}{xs:List PV}{gd:List (Nat × List PV)}(rh:RH X.K X.mg ρ H h)(r:RP X.K ρ H x y)(e:fb x h=some (tp,xs,gd)) :
  ∃a,y=.ref a/\(∃ys,SqB tp X.K H a ys)/\∀ρ' H' h',Le ρ H ρ' H'->RH X.K X.mg ρ' H' h'->(∀p∈gd,h'[p.1]?=some (.lst p.2))->∃ys,SqB tp X.K H' a ys/\RPs X.K ρ' H' xs ys:=by
 cases r with
 | frl s r=>cases e;exact⟨_,rfl,⟨_,s.sq⟩,fun ρ' H' h' l _ _=>⟨_,(l.sqf s).sq,r.le l⟩⟩
 | tup s r=>cases e;exact⟨_,rfl,⟨_,s⟩,fun ρ' H' h' l _ _=>⟨_,l.sqt s,r.le l⟩⟩
 | @loc n a en =>
  obtain⟨o,eo,ro⟩:=rh.obj en;unfold fb at e;dsimp only at e;rw[eo] at e
  cases o with
  | lst zs =>
   cases e;obtain⟨ys,ey,ry⟩:=ro;refine⟨a,rfl,⟨ys,SqL.of ey⟩,fun ρ' H' h' l rh' ok=>?_⟩;obtain⟨ys',ey',ry'⟩:=rh'.at' n a _ (l.get en) (ok (n,xs) (by simp));exact⟨ys',SqL.of ey',ry'⟩
  | _=>cases e
 | _=>cases e
def gR(xs:List PV):List PV:=xs.zipIdx.map fun p=>.tup [.int (p.2:Int),p.1]
def yn{xs:List PV}{i:Nat}{x:PV}(h:xs[i]?=some x):(gR xs)[i]?=some (.tup [.int (i:Int),x]):=by
 unfold gR;rw[qaz,List.getElem?_zipIdx,h];simp
def pB(xs:List PV):(gR xs).length=xs.length:=by simp[gR]
def mItE(m:Mx (List PV)):Mx MIt:=fun σ h=>(m σ h).bind fun vs h1=>match vs with
 | [x]=>(match fb x h1 with
  | some (_,xs,gd)=>.ok ⟨gR xs,gd⟩ h1
  | none=>.bad)
 | _=>.bad
section
variable {X:Cx} {N W G:List Str} {k:Nat}
def mi_enum(g:Good X N W G k){elts:List Expr}{x1:Nat}{tp:Pos}{a:Expr}{m:Mx (List PV)}{p pos:Pos}{j:Nat}(hj:G[j]?=some "enumerate")(hm:X.mg "enumerate"=none)(ha:MA X [a] m)
  (hs:starEach [a] X.env=[(false,eval a X.env)]:=by rfl):MI X (.Tuple elts x1 tp) (.Call (.Name "enumerate" p) [a] [] pos) (mItE m):=by
 have d:=g.dbg _ (qaf _ (av hj));intro Ie s σ H R I ⟨ρ,σp,h,rs,rh,q⟩;refine wpAny_Call_Name_kw (gF I (g.gl _ (av hj)) hm PyProof.Rows.Boot.«enumerate» ?_ d.2.2 d.1)
 refine PyProof.Rows.callWith_type1 (thn (ha pos Ie s σ H (fun vs H1=>∃ρ1 h1 xs,Le ρ H ρ1 H1/\RH X.K X.mg ρ1 H1 h1/\RPs X.K ρ1 H1 xs vs/\Ful X (qW X) σp ρ1 H1 ((match xs with
   | [x]=>(match fb x h1 with | some (_,xs,gd)=>.ok ⟨gR xs,gd⟩ h1 | none=>.bad)
   | _=>.bad:Out MIt)) R) I ⟨ρ,σp,h,rs,rh,Ful.bind q fun ρ1 H1 v v' h1 _ l1 rh1 rv q1=>⟨ρ1,h1,v,l1,rh1,rv,q1⟩⟩) fun us s1 ⟨vs,H1,I1,r1,ρ1,h1,xs,l1,rh1,rv,q1⟩=>?_) hs rfl
 cases rv with
 | nil=>exact q1.elim
 | @cons y y' ys ys' ry t1 =>
  cases t1 with
  | cons _ _=>exact q1.elim
  | nil =>
   dsimp only at q1
   cases hsq:fb y h1 with
   | none=>rw[hsq] at q1;exact q1.elim
   | some z =>
    obtain⟨b,zs,gd⟩:=z;rw[hsq] at q1;obtain⟨ad,rfl,⟨ws,hws⟩,rel⟩:=sq_rel rh1 ry hsq;obtain⟨u,rfl,rx⟩:=eZ r1;cases rx;obtain⟨its,rvv,so,hz⟩:=rW I1 hws;refine xS so fun h' he hi hsz hk=>?_;have hT:Shared.TypeIs { s1 with heap:=h'} (.ref (s1.heap.objs.size+1)) "enumerate":=⟨_,he,rfl⟩;refine wpAny_pyIter_enum he ?_;have I2:Inv X Ie σ H1 { s1 with heap:=h',toks:=s1.toks}:=I1.kept hk;obtain⟨oa,hoa,hca,_⟩:=id so;have hlt:ad<s1.heap.objs.size:=qap hoa;have hfr0:=I1.hok.fresh (qah s1.heap.objs.size);have hfr1:=I1.hok.fresh (Nat.le_succ s1.heap.objs.size);refine⟨s1.heap.objs.size+1,_,_,_,H1,rfl,I2,xm b ad _ s1.heap.objs.size (qbE (qca _)) (qaG (qbN hlt)) (qaG hlt),⟨⟨_,he⟩,hi⟩,fun c hc=>?_,?_⟩
    ·have:c=s1.heap.objs.size+1\/c=s1.heap.objs.size:=by simpa using hc
     rcases this with rfl|rfl
     ·have F:=Inv.fpOk I1 (H':=H1) (b:=s1.heap.objs.size+1) (Nat.le_succ _) hfr1;exact F
     ·exact Inv.fpOk I1 (H':=H1) (qah _) hfr0
    ·refine q1 ρ1 H1 _ (Le.refl _ _) rh1 ?_;intro ρ' H' h2 i l rh' ok;obtain⟨ws',hws',rws⟩:=rel ρ' H' h2 l rh' ok;refine⟨fun hi'=>?_,fun hi'=>⟨ws',hws',by rw[<-rws.length];rw[pB] at hi';exact hi'⟩⟩;rw[pB] at hi';have hx:zs[i]?=some (zs[i]'hi'):=qaE hi';obtain⟨w',ew,rw'⟩:=rws.get hx;refine⟨⟨ws',w',hws',ew⟩,fun x' H3 ⟨pp,y2,hp,e1,e2,hall⟩=>?_⟩;subst e1;subst e2;have ey:y2=w':=by
      have:=hall ws' hws'
      rw[ew] at this;exact (Option.some.inj this).symm
     subst ey;obtain⟨rh3,l3⟩:=rh'.tup hp [.int i,y2];exact⟨ρ',_,l3,rh3,yn hx,.tup (SqT.of br) (.cons (.int _) (.cons (rw'.le l3) .nil))⟩
end
end MM
namespace MM
open PySem PySem.Spec PyProof.Rows L2 SetT SortT
def gp:List PV->Option (List Int)
 | []=>some []
 | .int i::r=>(gp r).map (i::·)
 | _=>none
section
variable {X:Cx} {N W G:List Str} {k:Nat}
end
end MM
namespace MM
open PySem PySem.Spec PyProof.Rows L2
local instance (priority:=1) cdec26 (p:Prop):Decidable p:=Classical.propDecidable p
def vn(I:Nat->PSt->MH->Prop):∀(xs:List PV) (j:Nat) (σ:PSt) (h:MH),I j σ h->(∀j σ h,I j σ h->it.ok h) ->
  (∀m σ h x,I (j+m) σ h->xs[m]?=some x->∃σ1 h1 σ' h',g x σ h=.nx σ1 h1/\b σ1 h1=.nx σ' h'/\I (j+m+1) σ' h') ->
  ∃σ' h',mGo it g b xs σ h=.nx σ' h'/\I (j+xs.length) σ' h'
 | [],j,σ,h,hI,hok,_=>⟨σ,h,mGo_nil (hok _ _ _ hI),hI⟩
 | x::r,j,σ,h,hI,hok,st=>by
  obtain⟨σ1,h1,σ2,h2,e1,e2,I1⟩:=st 0 σ h x hI rfl;obtain⟨σ3,h3,e3,I3⟩:=vn I r (j+1) σ2 h2 I1 hok fun m σ' h' y q z=>by
   have:=st (m+1) σ' h' y (by rw[show j+(m+1)=j+1+m by lia];exact q) (by simpa using z)
   rw[show j+(m+1)+1=j+1+m+1 by lia] at this;exact this
  refine⟨σ3,h3,?_,by rw[qaQ,show j+(r.length+1)=j+1+r.length by lia];exact I3⟩;rw[zN (hok _ _ _ hI) e1,e2];exact e3
end MM
namespace MM
open PySem PySem.Spec PyProof.Rows L2 SetT SortT
section
variable {h:MH} {i:Int} {xs:List PV} {n:Nat}
end
def itR1'(em:m σ h=.ok [.int j] h1)(z:-(2 ^ 62)<=j/\j<2 ^ 62):gZ m σ h=.ok ⟨bq 0 j.toNat,[]⟩ h1:=by
 rw[zg,em];simp only[Out.bind_ok];rw[qai z]
def itR1(em:m σ h=.ok [.int (n:Int)] h1)(hn:n<=100000):gZ m σ h=.ok ⟨bq 0 n,[]⟩ h1:=by
 have z1:-(2 ^ 62)<=(n:Int):=Int.le_trans (by decide) (Int.natCast_nonneg n);have z2:(n:Int)<2 ^ 62:=Int.lt_of_le_of_lt (Int.ofNat_le.mpr hn) (by decide)
 have:=itR1' em ⟨z1,z2⟩
 rwa [qaN] at this
def int_mk{K:qab}{n:Str}{i:Int}{t:Nat}(e:PySem.W.nsIn K mainGlobals n=some (some (.int i t))):∃t,PySem.W.nsIn K mainGlobals n=some (some (.int i t)):=⟨t,e⟩
def js:∀(k:List Int),PyData.canLayAll0 (k.map .int)=true/\PyData.depthAll (k.map .int)<=1
 | []=>⟨rfl,by simp[PyData.depthAll]⟩
 | i::k=>by
  obtain⟨a,b⟩:=js k;constructor
  ·simp[PyData.canLayAll0,PyData.canLay0,a]
  ·simp only[qaL,PyData.depthAll,PyData.depth];lia
def mM:∀(ks:List (List Int)),PyData.canLayAll0 (ks.map fun k=>.tuple (k.map .int))=true/\PyData.depthAll (ks.map fun k=>.tuple (k.map .int))<=2
 | []=>⟨rfl,by simp[PyData.depthAll]⟩
 | k::ks=>by
  obtain⟨a,b⟩:=mM ks;obtain⟨c,d⟩:=js k;constructor
  ·simp[PyData.canLayAll0,PyData.canLay0,a,c]
  ·simp only[qaL,PyData.depthAll,PyData.depth];lia
end MM
namespace MM
open PySem PySem.Spec PyProof.Rows L2
local instance (priority:=1) cdec28 (p:Prop):Decidable p:=Classical.propDecidable p
def mJ(h:MH):PV->Option Bool
 | .non=>some false
 | .bl b=>some b
 | .int i=>some (i != 0)
 | .str _=>none
 | .tup xs=>some (!xs.isEmpty)
 | .frl xs=>some (!xs.isEmpty)
 | .loc n=>match h[n]? with
  | some (.lst xs)=>some (!xs.isEmpty)
  | _=>none
def mTr(m:Mx PV):Mx Bool:=fun σ h=>(m σ h).bind fun v h1=>match mJ h1 v with
 | some b=>.ok b h1
 | none=>.bad
section
variable {X:Cx} {N W G:List Str} {k:Nat}
def j8{K:qab}{ρ:List Addr}{H:Hp}{xs:List PV}{ys:List V}(r:RPs K ρ H xs ys):(!xs.isEmpty)=!ys.isEmpty:=by
 cases r <;> rfl
def mt_tru{e:Expr}{m:Mx PV}(h:ME X e m)(he:∀whole,isTrue e X.env whole=(do let v <-whole;standAt e.pos;holding [v] (truthy v)):=by intro _;rfl):MT X e (mTr m):=by
 refine PT.imp (zE h he) fun σ H Q ⟨ρ,σp,h,rs,rh,q⟩=>⟨ρ,σp,h,rs,rh,Ful.bind q fun ρ1 H1 x x' h1 _ l1 rh1 rx q1=>?_⟩
 cases rx with
 | non=>exact⟨false,rfl,q1 ρ1 H1 _ (Le.refl _ _) rh1 rfl⟩
 | bl b=>exact⟨b,rfl,q1 ρ1 H1 _ (Le.refl _ _) rh1 rfl⟩
 | int i=>exact⟨_,rfl,q1 ρ1 H1 _ (Le.refl _ _) rh1 rfl⟩
 | str i=>exact q1.elim
 | @tup xs a ys s r=>exact⟨_,.inr (.inl ⟨ys,s,rfl⟩),by rw[<-j8 r];exact q1 ρ1 H1 _ (Le.refl _ _) rh1 rfl⟩
 | @frl xs a ys s r=>exact⟨_,.inl ⟨ys,s.sq,rfl⟩,by rw[<-j8 r];exact q1 ρ1 H1 _ (Le.refl _ _) rh1 rfl⟩
 | @loc n a e =>
  obtain⟨o,eo,ro⟩:=rh1.obj e
  cases o with
  | lst xs =>
   obtain⟨ys,ey,ry⟩:=ro;simp only[mJ,eo] at q1;exact⟨_,.inl ⟨ys,.inl (.inl ey),rfl⟩,by rw[<-j8 ry];exact q1 ρ1 H1 _ (Le.refl _ _) rh1 rfl⟩
  | dic kvs=>simp only[mJ,eo] at q1;exact q1.elim
  | exc z=>simp only[mJ,eo] at q1;exact q1.elim
inductive IsAll (K:qab) (mg:MGl) (cs:List Str):List Addr->List Str->Prop where
 | nil:IsAll K mg cs [] []
 | cons {D:Addr} {sup:List Str} {Ds:List Addr} {sups:List Str} (h:IsiC K mg (.ref D) cs sup) (t:IsAll K mg cs Ds sups):IsAll K mg cs (D::Ds) (sup++sups)
def tCs(Ds:List Addr):TA:=fun σ H Q=>Q (Ds.map V.ref) H
def ICs(X:Cx)(cs:List Str)(es:List Expr)(sups:List Str):Prop:=∃Ds,IsAll X.K X.mg cs Ds sups/\PA X es (tCs Ds)/\Ds.length=es.length
def ics_nil:ICs X cs [] []:=⟨[],.nil,PA.imp dB fun σ H Q q=>q,rfl⟩
def dP(g:Good X N W G k){c:Str}{cs sup sups:List Str}{j:Nat}{q:Pos}{es:List Expr}(hj:G[j]?=some c)(IC:∃D,X.mg c=some (.ref D)/\IsiC X.K X.mg (.ref D) cs sup)(t:ICs X cs es sups)
  (he:starEach (.Name c q::es) X.env=(false,eval (.Name c q) X.env)::starEach es X.env:=by rfl):ICs X cs (.Name c q::es) (sup++sups):=by
 obtain⟨D,hm,hi⟩:=IC;obtain⟨Ds,ha,hp,hl⟩:=t;have d:=g.dbg c (qaf _ (av hj));exact⟨D::Ds,.cons hi ha,PA.imp (bI (oG (v:=.ref D) (u:=.ref D) (g.gl c (av hj)) hm rfl d.1) hp he) fun σ H Q q=>q,congrArg (·+1) hl⟩
def uc{K:qab}{mg:MGl}{cs:List Str}{Ds:List Addr}{sups:List Str}(h:IsAll K mg cs Ds sups){t:String}(ht:t∈["NoneType","bool","int","str","tuple","list","dict"]):PySem.W.kitAny K (.type t) (Ds.map Value.ref)=some false:=by
 induction h with
 | nil=>rfl
 | cons hi _ ih=>rw[qaL];unfold PySem.W.kitAny;rw[hi.ty t ht];exact ih
def vJ{K:qab}{mg:MGl}{cs:List Str}{Ds:List Addr}{sups:List Str}(h:IsAll K mg cs Ds sups){x:Str}(hx:x∈cs){C:Addr}(hm:mg x=some (.ref C)):PySem.W.kitAny K (.ref C) (Ds.map Value.ref)=some (sups.contains x):=by
 induction h with
 | nil=>rfl
 | @cons D sup Ds sups hi _ ih =>
  rw[qaL];unfold PySem.W.kitAny;obtain⟨C',hm',_,_,hk⟩:=hi.ex x hx;rw[hm] at hm';cases hm';rw[hk]
  cases z:sup.contains x with
  | true =>
   have:(sup++sups).contains x=true:=by rw[qbx] at z ⊢;exact qaC _ z
   rw[this]
  | false =>
   have:(sup++sups).contains x=sups.contains x:=by
    have z':x∉sup:=fun y=>by rw[<-qbx] at y;rw[y] at z;cases z
    cases y:sups.contains x with
    | true=>rw[qbx] at y ⊢;exact qaf _ y
    | false =>
     have y':x∉sups:=fun q=>by rw[<-qbx] at q;rw[q] at y;cases y
     cases w:(sup++sups).contains x with
     | false=>rfl
     | true=>rw[qbx] at w;rcases qau.mp w with q | q;exact absurd q z';exact absurd q y'
   rw[this];exact ih
def x9{Ds:List Addr}:∀{its:List Value},aB (Ds.map V.ref) its->its=Ds.map Value.ref:=by
 induction Ds with
 | nil=>intro its r;cases r;rfl
 | cons D Ds ih =>
  intro its r
  cases r with
  | cons r1 r2=>rw[ih r2];cases r1;rfl
def zj(g:Good X N W G k){a:Expr}{m:Mx PV}{es:List Expr}{cs sups:List Str}{i:Nat}{p pos pt:Pos}{kt}(hi:G[i]?=some "isinstance")(hm:X.mg "isinstance"=none)(IC:ICs X cs es sups){c0:Str}{sup0:List Str}(IC0:∃D,X.mg c0=some (.ref D)/\IsiC X.K X.mg (.ref D) cs sup0)(hl:es.length<=100)(ha:ME X a m)
  (he:starEach [a,.Tuple es kt pt] X.env=(false,eval a X.env)::starEach [.Tuple es kt pt] X.env:=by rfl) (he2:starEach [.Tuple es kt pt] X.env=[(false,eval (.Tuple es kt pt) X.env)]:=by rfl) (hpl:(backTo pos (starEach [.Tuple es kt pt] X.env)).any (·.1)=false:=by rfl) :
  ME X (.Call (.Name "isinstance" p) [a,.Tuple es kt pt] [] pos) (mUn (bv cs sups) m):=by
 obtain⟨Ds,hall,hpa,hlen⟩:=IC;obtain⟨D0,_,hi0⟩:=IC0;have d1:=g.dbg _ (qaf _ (av hi));have hcall:bZ X (.builtin "isinstance") (fun xs H Q=>∃x' tp,xs=[x',.ref tp]/\SqT X.K H tp (Ds.map V.ref)/\uJ X (bv cs sups) x' H Q):=by
  intro Ie s σ H xs us Q I r ⟨x',tp,e,hsq,ρ,h,x,rh,rx,q⟩;subst e
  cases r with
  | cons r1 t1=>cases t1 with
   | cons r2 t2 =>
    cases t2;cases r2;obtain⟨its,rv,ht,_⟩:=I.tuple hsq;have ei:=x9 rv;subst ei;obtain⟨⟨oc,od,odt,osl⟩,ho,hoc,nn,hod⟩:=ht;dsimp only at hoc hod;subst hoc;subst hod;have plain:∀t,tyP h x=some t->bv cs sups x h=.ok (.bl false) h->wpAny (model X.prog X.w) X.A (call (.builtin "isinstance") [_,_]) (EP X Ie σ Q) X.xe s:=fun t et ef=>by
     rw[ef] at q;obtain⟨htm,hne,Hq,Z,hz⟩:=lE I rh rx r1 et;exact PySem.W.kia_tup Z I.kIn hz ho (uc hall htm) hne fun tk=>⟨.bl _,H,I.tok _,rfl,q ρ H _ (Le.refl _ _) rh (.bl _)⟩
    cases x with
    | non=>exact plain _ rfl rfl
    | bl b=>exact plain _ rfl rfl
    | int i=>exact plain _ rfl rfl
    | str i=>exact plain _ rfl rfl
    | tup i=>exact plain _ rfl rfl
    | frl i=>exact plain _ rfl rfl
    | loc n =>
     cases en:h[n]? with
     | none=>simp only[bv,en] at q;exact q.elim
     | some o =>
      cases o with
      | lst xs=>exact plain "list" (by simp[tyP,en]) (by simp[bv,en])
      | dic xs=>exact plain "dict" (by simp[tyP,en]) (by simp[bv,en])
      | exc ex =>
       simp only[bv,en] at q;by_cases hc:cs.contains ex.cls=true
       ·rw[qai hc] at q
        cases rx with
        | @loc n a e =>
         cases r1;obtain⟨o',eo',ro⟩:=rh.obj e;rw[en] at eo';cases eo';obtain⟨_,C,hmc,hH⟩:=ro;have hx:ex.cls∈cs:=by simpa using hc
         obtain⟨C',hm',EQ,hcd,_⟩:=hi0.ex ex.cls hx;rw[hmc] at hm';cases hm';obtain⟨hz,_,_⟩:=(show ObjOk X.prog X.w H s.heap a (.ext (fR a C)) from I.hok a _ hH);exact PySem.W.kia_tup (rV EQ hcd) I.kIn hz ho (vJ hall hx hmc) (fun z=>nomatch z) fun tk=>⟨.bl _,H,I.tok _,rfl,q ρ H _ (Le.refl _ _) rh (.bl _)⟩
       ·rw[qal hc] at q;exact q.elim
 refine PE.imp (dN hcall (g.gl _ (av hi)) hm PyProof.Rows.Boot.«isinstance» (bI ha (bI (tT hpa) dB he2) he) d1.2.2 d1.1 he hpl) fun σ H Q ⟨ρ,σp,h,rs,rh,q⟩=>?_;refine⟨ρ,σp,h,rs,rh,Ful.bind q fun ρ1 H1 x x' h1 _ l1 rh1 rx q1=>?_⟩;refine⟨by rw[qaW,hlen];exact qaw hl (by decide),fun tp htp=>?_⟩;obtain⟨rh2,l2⟩:=rh1.tup htp (Ds.map V.ref);exact⟨x',tp,rfl,SqT.of br,ρ1,h1,x,rh2,rx.le l2,(Ful.le l2 q1).zero⟩
end
end MM
namespace MM
open PySem PySem.Spec PyProof.Rows L2 PySem.W
local instance (priority:=1) cdec29 (p:Prop):Decidable p:=Classical.propDecidable p
def lY:∀{xs:List PV} {ns:List Int},gp xs=some ns->xs=ns.map .int
 | [],ns,e=>by cases e;rfl
 | x::xs,ns,e=>by
  cases x with
  | int i =>
   rw[gp,qaD] at e;obtain⟨ms,e1,rfl⟩:=e;rw[lY e1];rfl
  | _=>cases e
def eU{K:qab}{ρ:List Addr}{H:Hp}:∀{ns:List Int} {ys:List V},RPs K ρ H (ns.map .int) ys->ys=ns.map V.int
 | [],_,r=>by cases r;rfl
 | n::ns,_,r=>by cases r with | cons r1 r2=>cases r1;rw[eU r2];rfl
section
variable {X:Cx}
end
end MM
namespace MM
open PySem PySem.Spec PyProof.Rows L2
section
variable {X:Cx} {o e:Expr} {es:List Expr} {name:Str} {apos cpos:Pos} {id:String} {f:Str→List PV→MH→Out PV} {m:Mx PV} {ma:Mx (List PV)}
end
end MM
namespace L2
open PySem PySem.Spec PyProof.Rows
def ci{α:Type}(xs:List α)(hi:Option Int):List α:=match hi with
 | none=>xs.reverse
 | some k=>(xs.drop (k.toNat+1)).reverse
def dq{α:Type}(m:List α):∀c,(List.range c).filterMap (fun k=>m[k]?)=m.take c
 | 0=>by simp
 | c+1=>by
  rw[qcD,List.filterMap_append,dq m c,qcq];congr 1
def sF{α β:Type}{f g:α->Option β}:∀{l:List α},(∀x∈l,f x=g x)->l.filterMap f=l.filterMap g
 | [],_=>rfl
 | x::l,h=>by rw[qbq,qbq,h x (by simp),sF fun y hy=>h y (qam _ hy)]
def jF{α:Type}(l:List α){c:Nat}(hc:c<=l.length):((List.range c).map fun (k:Nat)=>(((l.length:Int) - 1)+(-1) * (k:Int)).toNat).filterMap (fun i=>l[i]?)=(l.drop (l.length - c)).reverse:=by
 rw[qcl]
 have:(List.range c).filterMap ((fun i=>l[i]?)∘fun (k:Nat)=>(((l.length:Int) - 1)+(-1) * (k:Int)).toNat)=(List.range c).filterMap (fun k=>l.reverse[k]?):=by
  refine sF fun k hk=>?_;rw[qbH] at hk;rw[List.getElem?_reverse (by ext)];show l[(((l.length:Int) - 1)+(-1) * (k:Int)).toNat]?=_;congr 1;ext
 rw[this,dq,List.take_reverse]
def qC(its:List Value){hi:Option Int}(h:∀k,hi=some k->0<=k):slicePick its.toArray none hi (some (-1))=(ci its hi).toArray:=by
 unfold slicePick sliceBounds sliceRange;simp only[Option.getD_some,qak,show ¬((-1:Int)>0) by decide,if_false,qaY];congr 1
 cases hi with
 | none =>
  dsimp only;have e:(if (its.length:Int) - 1 > -1 then ((its.length:Int) - 1 - -1 - -1 - 1) / (- -1) else 0)=(its.length:Int):=by
   split
   ·rw[show -(-1:Int)=1 by decide,qcz];ext
   ·ext
  rw[e,qaN,jF its (qah _)];simp[ci]
 | some k =>
  have hk:=h k rfl;dsimp only;simp only[show ¬k<0 by ext,if_false];have e:(if (its.length:Int) - 1>max (-1) (min k ((its.length:Int) - 1)) then ((its.length:Int) - 1 - max (-1) (min k ((its.length:Int) - 1)) - -1 - 1) / (- -1) else 0).toNat=its.length - (k.toNat+1):=by
   rw[show -(-1:Int)=1 by decide];split
   ·rw[qcz];ext
   ·ext
  rw[e,jF its (by ext)];show _=(its.drop (k.toNat+1)).reverse;by_cases z:k.toNat+1<=its.length
  ·rw[show its.length - (its.length - (k.toNat+1))=k.toNat+1 by ext]
  ·rw[qbe (by ext),qbe (by ext)]
def aB.reverse':∀{xs:List V} {us:List Value},aB xs us->aB xs.reverse us.reverse:=by
 have app:∀{xs:List V} {us:List Value} {y:V} {v:Value},aB xs us->aX y v->aB (xs++[y]) (us++[v]):=by
  intro xs
  induction xs with
  | nil=>intro us y v r ry;cases r;exact .cons ry .nil
  | cons x xs ih=>intro us y v r ry;cases r with | cons r1 r2=>exact .cons r1 (ih r2 ry)
 intro xs
 induction xs with
 | nil=>intro us r;cases r;exact .nil
 | cons x xs ih=>intro us r;cases r with | cons r1 r2=>rw[qbD,qbD];exact app (ih r2) r1
def xR{xs:List V}{us:List Value}(r:aB xs us)(hi:Option Int):aB (ci xs hi) (ci us hi):=by
 cases hi with
 | none=>exact r.reverse'
 | some k=>exact (r.drop _).reverse'
def tV{α:Type}(xs:List α)(hi:Option Int):(ci xs hi).length<=xs.length:=by
 cases hi <;> simp[ci]
section
variable {X:Cx} {e st:Expr} {te:TE} {hi:Option Expr} {th ts:TO} {pos p2:Pos}
def rRv(K:qab)(x:V)(u w:Option Int)(H:Hp)(Q:VK):Prop:=∃a xs,x=.ref a/\SqL K H a xs/\(∀k,u=some k->0<=k)/\w=some (-1)/\∀p,H p=none->Q (.ref p) (upd H p (.lst (ci xs u)))
end
end L2
namespace MM
open PySem PySem.Spec PyProof.Rows L2
local instance (priority:=1) cdec32 (p:Prop):Decidable p:=Classical.propDecidable p
def fRv(x:PV)(hi st:Option Int)(h:MH):Out PV:=match x with
 | .frl xs=>if (∀k,hi=some k->0<=k)/\st=some (-1) then .ok (.loc h.length) (h++[.lst (ci xs hi)]) else .bad
 | .loc n=>(match h[n]? with
  | some (.lst xs)=>if (∀k,hi=some k->0<=k)/\st=some (-1) then .ok (.loc h.length) (h++[.lst (ci xs hi)]) else .bad
  | _=>.bad)
 | _=>.bad
def RPs.rev'{K:qab}{ρ:List Addr}{H:Hp}:∀{xs:List PV} {zs:List V},RPs K ρ H xs zs->RPs K ρ H xs.reverse zs.reverse:=by
 have app:∀{xs:List PV} {zs:List V} {y:PV} {v:V},RPs K ρ H xs zs->RP K ρ H y v->RPs K ρ H (xs++[y]) (zs++[v]):=by
  intro xs
  induction xs with
  | nil=>intro us y v r ry;cases r;exact .cons ry .nil
  | cons x xs ih=>intro us y v r ry;cases r with | cons r1 r2=>exact .cons r1 (ih r2 ry)
 intro xs
 induction xs with
 | nil=>intro us r;cases r;exact .nil
 | cons x xs ih=>intro us r;cases r with | cons r1 r2=>rw[qbD,qbD];exact app (ih r2) r1
def vf{K:qab}{ρ:List Addr}{H:Hp}{xs:List PV}{zs:List V}(r:RPs K ρ H xs zs)(hi:Option Int):RPs K ρ H (ci xs hi) (ci zs hi):=by
 cases hi with
 | none=>exact r.rev'
 | some k=>exact (r.drop _).rev'
section
variable {X:Cx} {pos p2:Pos}
end
section
variable {X:Cx} {k:Nat}
end
end MM
namespace MM
open PySem PySem.Spec PyProof.Rows L2 SetT SortT
local instance (priority:=1) cdec34 (p:Prop):Decidable p:=Classical.propDecidable p
section
variable {X:Cx} {N W G:List Str} {k:Nat}
end
end MM
namespace L2
open PySem PySem.Spec PyProof.Rows
section
variable {X:Cx} {a:Expr} {ta:TE} {pos:Pos}
end
end L2
namespace MM
open PySem PySem.Spec PyProof.Rows L2
section
variable {X:Cx} {pos:Pos}
end
section
variable {X:Cx}
end
end MM
namespace HT
open PySem PyProof.Rows
def bO:List Int->List Int->Bool
 | [],[]=>true
 | [],_::_=>true
 | _::_,[]=>false
 | x::xs,y::ys=>if x=y then bO xs ys else decide (x<=y)
def jd(x y:Int)(xs ys:List Int):bO (x::xs) (y::ys)=if x=y then bO xs ys else decide (x<=y):=rfl
def jV:bO [] []=true:=rfl
def oO(y:Int)(ys:List Int):bO [] (y::ys)=true:=rfl
def oA(x:Int)(xs:List Int):bO (x::xs) []=false:=rfl
def yT(A:Around)(s:Shared)(a:Int)(t:Tok)(c:Int)(u:Tok)(prog:Program)(w:World)(E:Value->Shared->Prop)(Q:Value->Shared->Prop)(h:Q (.bool (decide (a<=c))) s) :
  wpAny (model prog w) A (richCompare .LtE (.int a t) (.int c u)) Q E s :=
 (PyProof.Rows.le_int h:wpAny (model prog w) A (compareOp .LtE (.int a t) (.int c u)) Q E s)
section
open PySem.SeqAt
open PySem.AutoSeq1 (wpAny_loadPart')
open PySem.MeetsSeq PySem.MeetsSeq2 PySem.MeetsSeq3
def qk(l b:Addr)(items items2:Array Value)(n n2:Nat)(dd dd2:Option Addr)(sl sl2:Array (Option Value))(ns ms:List Int)(hi:IntsAre items.toList ns)(hj:IntsAre items2.toList ms) :
  Meets (Builtin.«tuple.__le__» ⟨[.ref l,.ref b],[]⟩)
   (fun _ R s=>s.heap.get? l=some { cls:=.type "tuple",dict:=dd,data:=.seq items n,slots:=sl}/\s.heap.get? b=some { cls:=.type "tuple",dict:=dd2,data:=.seq items2 n2,slots:=sl2} /\
    R (.ok (.ret (.bool (bO ns ms)))) s) :=
 .of_wp fun prog w A R s h=>by
  obtain⟨hp,g,d,tk,os⟩:=s;obtain⟨hl,hb,h⟩:=h;have f2:=AutoSeq1.sub_tuple_tuple;have z1:items.size=ns.length:=by rw[<-hi.length];simp
  have z2:items2.size=ms.length:=by rw[<-hj.length];simp
  wp_walk using wpAny_loadPart' hl,wpAny_loadPart' hb,wpAny_forIn_list _ (fun rest b s'=>b.1=none/\s'=⟨hp,g,d,tk,os⟩/\∃(vs ws:List Value) (ns' ms':List Int),rest=vs.zip ws /\
   IntsAre vs ns'/\IntsAre ws ms'/\ns'.length+items2.size=ms'.length+items.size/\R (.ok (.ret (.bool (bO ns' ms')))) ⟨hp,g,d,tk,os⟩) _
  case turn =>
   rintro⟨y,x⟩ rest b s' ⟨hb',rfl,vs,ws,ns',ms',hz,hvi,hwi,hlen,hR⟩
   cases hvi with
   | nil=>rw[List.zip_nil_left] at hz;cases hz
   | cons a t hvi' =>
    cases hwi with
    | nil=>rw[List.zip_nil_right] at hz;cases hz
    | cons c u hwi' =>
     rw[qco] at hz;injection hz with hyx hrest
     injection hyx with hy hx
     subst hy hx;rw[jd] at hR;simp only[qaQ] at hlen;obtain⟨e,he,hiff⟩:=Ae A.in1 ⟨hp,g,d,tk,os⟩ a t c u;refine qaa (he prog w _ _ ?_)
     cases e with
     | true =>
      rw[qai (hiff.mp rfl)] at hR
      wp_walk
      exact⟨rfl,rfl,_,_,_,_,hrest,hvi',hwi',by lia,hR⟩
     | false =>
      rw[qal (fun q=>absurd (hiff.mpr q) qaK)] at hR;have hri:=yT A.in1 ⟨hp,g,d,tk,os⟩ a t c u prog w
      wp_walk using hri
      exact⟨_,rfl,by simpa using hR⟩
  case fin =>
   rintro⟨b1,b2⟩ s' ⟨hb',rfl,vs,ws,ns',ms',hz,hvi,hwi,hlen,hR⟩;simp only at hb';subst hb';have hv:bO ns' ms'=decide (items.size<=items2.size):=by
    cases hvi with
    | nil =>
     cases hwi with
     | nil =>
      simp only[qbo] at hlen;rw[jV];exact (decide_eq_true (by lia)).symm
     | cons c u hw =>
      simp only[qbo,qaQ] at hlen;rw[oO];exact (decide_eq_true (by lia)).symm
    | cons a t hv =>
     cases hwi with
     | nil =>
      simp only[qbo,qaQ] at hlen;rw[oA];exact (decide_eq_false (by lia)).symm
     | cons c u hw =>
      rw[qco] at hz;cases hz
   rw[hv] at hR
   wp_walk
   exact⟨_,rfl,by simpa [Builtin.Tuple.tupleCompareSizes] using hR⟩
  case h =>
   exact⟨rfl,rfl,items.toList,items2.toList,ns,ms,rfl,hi,hj,by lia,h⟩
end
section
variable {prog:Program} {w:World} {A:Around} {E:Value→Shared→Prop} {s:Shared}
def wC(hl:IsTup s.heap l items)(hb:IsTup s.heap b items2)(hi:IntsAre items.toList ns)(hj:IntsAre items2.toList ms)
  (hu:A.units<cLine) (h:Q (.bool (bO ns ms)) s):wpAny (model prog w) A (compareOp .LtE (.ref l) (.ref b)) Q E s:=by
 obtain⟨⟨cls,dd,data,sl⟩,ho,hc,n,hd⟩:=id hl;obtain⟨⟨cls2,dd2,data2,sl2⟩,ho2,hc2,n2,hd2⟩:=id hb;simp only at hc hd hc2 hd2;subst hc hd hc2 hd2;exact richCompare_meets_room (op:=.LtE) ⟨_,ho,rfl⟩ ⟨_,ho2,rfl⟩ PySem.F.slot_tuple_le PySem.F.entry_tuple_le (PySem.F.args_tuple_le_2 _ _) (qk l b items items2 n n2 dd dd2 sl sl2 ns ms hi hj)
  ⟨ho,ho2,show Value.bool (bO ns ms)≠Value.notImplemented/\Q (.bool (bO ns ms)) s from⟨(fun x=>nomatch x),h⟩⟩ hu
def yG{t b:Addr}{ws:List Value}{Q:Value->Shared->Prop}(ht:IsTup s.heap t ([]:List Value).toArray)(hb:IsTup s.heap b ws.toArray)(h:Q (.ref b) s):wpAny (model prog w) A (binaryOp .Add (.ref t) (.ref b)) Q E s:=by
 obtain⟨⟨cls,dd,data,sl⟩,ho,hc,n,hd⟩:=id ht;obtain⟨⟨cls2,dd2,data2,sl2⟩,ho2,hc2,n2,hd2⟩:=id hb;simp only at hc hd hc2 hd2;subst hc hd hc2 hd2;exact concat_meets ⟨_,ho,rfl⟩ ⟨_,ho2,rfl⟩ noFill_tuple_add seq_tuple_add PySem.F.slot_tuple_add PySem.F.entry_tuple_add (PySem.F.args_tuple_add_2 _ _)
   (tuple_addW0 t b ([]:List Value).toArray ws.toArray n n2 dd dd2 sl sl2 (by simp)) ⟨ho,ho2,h⟩
def lJ{t sl:Addr}{items:Array Value}{vl vu:Value}{lo hi:Option Int}{Q:Value->Shared->Prop}(ht:IsTup s.heap t items)(hs:s.heap.IsSliceOf sl vl vu .none)(pl:IsPart vl lo)(pu:IsPart vu hi)
  (hw:sIx items.size 0 lo=0/\sIx items.size items.size hi=items.size)
  (h:Q (.ref t) s)
  (hsz:items.size<=sizeLine):wpAny (model prog w) A (getItem (.ref t) (.ref sl)) Q E s:=by
 obtain⟨os,hos,hcs,hds⟩:=id hs;have hTs:s.TypeIs (.ref sl) "slice":=⟨os,hos,hcs⟩;unfold getItem
 try with_reducible refine wpAny_holding ?_
 first | refine qaa (qae ?_) | skip
 refine qaa (wpAny_sequenceKey ht.typeIs (by decide) ?_)
 refine qaa (wpAny_callSpecial?_slot (name:=Str.ofString "__getitem__") ht.typeIs PyProof.Rows.slot_tuple_getitem
  (wpAny_call_entry PyProof.Rows.slot_tuple_getitem ht.typeIs entry_tuple_getitem ?_ (args_tuple_getitem _ _)))
 show wpAny _ _ (Builtin.Tuple.tupleItemsOf (.ref t) >>= _) _ _ s;refine qaa (tupleItemsOf_ ht ?_);refine qaa (wpAny_typeOf hTs ?_);rw[qai (by decide)];refine qaa (gv hs pl pu ?_);have hno:((((sIx items.size 0 lo:Nat):Int) == 0 && (1:Int) == 1 && (sIx items.size items.size hi - sIx items.size 0 lo) == items.size)=true):=by
  rw[hw.1,hw.2];simp
 show wpAny _ _ (if (((sIx items.size 0 lo:Nat):Int) == 0 && (1:Int) == 1 && (sIx items.size items.size hi - sIx items.size 0 lo) == items.size)=true then _ else _) _ _ s;rw[qai hno];refine qaa (m:=Builtin.Tuple.tupleIsExact _) (qaa (wpAny_typeOf ht.typeIs (qae ?_)));rw[qai (by decide)];exact qaa (wpAny_rule (qae ⟨_,rfl,qae h⟩))
def vF(n:Nat):Builtin.Slice.sliceAdjust none none (-1) (n:Int)=((n:Int) - 1,-1):=by
 unfold Builtin.Slice.sliceAdjust;simp
def vT(n:Nat):Builtin.Slice.slicePlaces ((n:Int) - 1) (-1) (-1)=n:=by
 unfold Builtin.Slice.slicePlaces;simp only[show ¬((-1:Int)>0) by decide,if_false,show -(-1:Int)=1 by decide,qcz]
 split <;> lia
def mq{sl:Addr}{vs:Value}{n:Nat}{Q:Int × Int × Nat->Shared->Prop}(hs:s.heap.IsSliceOf sl .none .none vs)(ps:IsPart vs (some (-1)))
  (h:Q ((n:Int) - 1,-1,n) s):wpAny (model prog w) A (Builtin.Slice.sliceApplied (.ref sl) (pure (n:Int))) Q E s:=by
 obtain⟨os,hos,hcs,hds⟩:=id hs;unfold Builtin.Slice.sliceApplied Builtin.Slice.sliceFields;refine qaa (qaa (wpAny_field hos hds (x:=.none) rfl (qaa (wpAny_field hos hds (x:=.none) rfl (qaa (wpAny_field hos hds (x:=vs) rfl (qae ?_)))))));refine qaa (jB ps ?_);show wpAny _ _ (if ((-1:Int) == 0)=true then _ else _) _ _ s;rw[qal (by decide)];refine qaa (slicePart_none (qaa (slicePart_none (qaa (qae ?_)))));show wpAny _ _ (match Builtin.Slice.sliceAdjust none none (-1) (n:Int) with | (lo,hi)=>pure (lo,(-1:Int),Builtin.Slice.slicePlaces lo hi (-1))) _ _ s;rw[vF n];show wpAny _ _ (pure ((n:Int) - 1,(-1:Int),Builtin.Slice.slicePlaces ((n:Int) - 1) (-1) (-1))) _ _ s;rw[vT];exact qae h
def zC(xs:List Value):((List.range xs.length).filterMap fun (m:Nat)=>xs.toArray[(((xs.length:Int) - 1)+(m:Int) * (-1)).toNat]?).toArray=xs.reverse.toArray:=by
 have:=L2.jF xs (qah _)
 rw[qcl,Nat.sub_self,List.drop_zero] at this;rw[<-this];congr 2;funext m;show xs.toArray[_]?=xs[_]?;rw[qaY,Int.mul_comm]
def lH{t sl:Addr}{its:List Value}{vs:Value}{Q:Value->Shared->Prop}(ht:IsTup s.heap t its.toArray)(hs:s.heap.IsSliceOf sl .none .none vs)(ps:IsPart vs (some (-1)))
  (h:Q (.ref s.heap.objs.size) { s with heap:=s.heap.push { cls:=.type "tuple",data:=.seq its.reverse.toArray}})
  (hsz:its.length<=sizeLine):wpAny (model prog w) A (getItem (.ref t) (.ref sl)) Q E s:=by
 have htake:sizeOk (.seq its.reverse.toArray):=by
  show its.reverse.toArray.size<=sizeLine;rw[qak,List.length_reverse];exact hsz
 obtain⟨os,hos,hcs,hds⟩:=id hs;have hTs:s.TypeIs (.ref sl) "slice":=⟨os,hos,hcs⟩;unfold getItem
 try with_reducible refine wpAny_holding ?_
 first | refine qaa (qae ?_) | skip
 refine qaa (wpAny_sequenceKey ht.typeIs (by decide) ?_)
 refine qaa (wpAny_callSpecial?_slot (name:=Str.ofString "__getitem__") ht.typeIs PyProof.Rows.slot_tuple_getitem
  (wpAny_call_entry PyProof.Rows.slot_tuple_getitem ht.typeIs entry_tuple_getitem ?_ (args_tuple_getitem _ _)))
 show wpAny _ _ (Builtin.Tuple.tupleItemsOf (.ref t) >>= _) _ _ s;refine qaa (tupleItemsOf_ ht ?_);refine qaa (wpAny_typeOf hTs ?_);rw[qai (by decide)];refine qaa (mq hs ps ?_);show wpAny _ _ (if (((its.toArray.size:Int) - 1) == 0 && (-1:Int) == 1 && its.toArray.size == its.toArray.size)=true then _ else _) _ _ s;rw[qal (by simp)];simp only[qak];rw[zC]
 first
  | exact qaa (m:=Builtin.Tuple.tupleExact _) (wpAny_newObj_type (qae ⟨_,rfl,qae h⟩) htake)
  | exact qaa (m:=Builtin.Tuple.tupleExact _) (wpAny_newObj_type (qaa (qae (qae ⟨_,rfl,qae h⟩))) htake)
end
end HT
namespace L2
open PySem PySem.Spec PyProof.Rows
section
variable {X:Cx} {e st:Expr} {te:TE} {ts:TO} {pos p2:Pos}
def rSlW(K:qab):V->Option Int->Option Int->Hp->VK->Prop:=fun x lo hi H Q=>∃a xs,x=.ref a/\SqT K H a xs /\
 (HT.sIx xs.length 0 lo=0/\HT.sIx xs.length xs.length hi=xs.length)/\Q (.ref a) H
def sl_tupW:SlR X (rSlW X.K):=by
 intro Ie s σ H x v vl vu lo hi sl Q I rx hs pl pu h;obtain⟨a,xs,rfl,hx,hw,q⟩:=h;cases rx;obtain⟨its,r,ht,hz⟩:=I.tuple hx;have hlen:its.toArray.size=xs.length:=by rw[qak];exact r.length.symm
 refine⟨"tuple",_,PyProof.Rows.slot_tuple_getitem.lookup,ht.typeIs,?_⟩;exact HT.lJ ht hs pl pu (by rw[hlen];exact hw) ⟨.ref a,_,I,rfl,q⟩ (by rw[hlen];exact hz)
def rRvT(K:qab)(x:V)(w:Option Int)(H:Hp)(Q:VK):Prop:=∃a xs,x=.ref a/\SqT K H a xs/\w=some (-1)/\∀p,H p=none->Q (.ref p) (upd H p (.tup xs.reverse))
def pe_revT(he:PE X e te)(hs:PO X (some st) ts):PE X (.Subscript e (.Slice none none (some st) p2) pos) (fun σ H Q=>te σ H fun x H1=>ts σ H1 fun w H3=>rRvT X.K x w H3 Q\/rRv X.K x none w H3 Q):=by
 intro Ie s σ H Q I h;refine Subscript_ (thn (he Ie s σ H _ I h) fun v s1 ⟨x,H1,I1,r1,q1⟩=>?_);refine wpAny_Slice ?_;rw[evalPart_none];refine qae ?_;refine qae ?_;refine thn (hs Ie s1 σ H1 _ I1 q1) fun vs s3 ⟨w,H3,I3,pw,q3⟩=>?_;have I4:Inv X Ie σ H3 { s3 with heap:=s3.heap.push { cls:=.type "slice",data:=.fields #[.none,.none,vs]}}:=I3.kept (t':=s3.toks) fun b ob q=>qad _ q;show wpAny (model X.prog X.w) X.A (subscriptTail e (.Slice none none (some st) p2) v (.ref s3.heap.objs.size)) (EP X Ie σ Q) X.xe { s3 with heap:=s3.heap.push { cls:=.type "slice",data:=.fields #[.none,.none,vs]}};rcases q3 with q3|q3
 ·obtain⟨a,xs,rfl,hx,rfl,q⟩:=q3;cases r1;obtain⟨its,r,ht,hz⟩:=I4.tuple hx;have hlen:=r.length;refine tail_any (ops:=[.ref a,.ref s3.heap.objs.size]) ht.typeIs PyProof.Rows.slot_tuple_getitem.lookup ?_ (by with_unfolding_all rfl);refine HT.lH ht (Heap.IsSliceOf.new ..) pw ?_ (by lia);refine⟨.ref _,_,I4.laid (t':=s3.toks) (o:=.tup xs.reverse) (fun b ob q=>qad _ q) (qah _) ?_,rfl,q _ (I4.hok.fresh (qah _))⟩;exact⟨by rw[List.length_reverse];exact hz,_,r.reverse',ft.new _ _⟩
 ·obtain⟨a,xs,rfl,hx,hk,rfl,q⟩:=q3;cases r1;obtain⟨its,r,ht,hz⟩:=I4.list hx;have hlen:=r.length;refine tail_any (ops:=[.ref a,.ref s3.heap.objs.size]) ht.isList.typeIs slot_list_getitem.lookup ?_ (by with_unfolding_all rfl);refine wpAny_getItem_list_slice ht.isList (Heap.IsSliceOf.new ..) .none .none pw (by decide) ?_ (by rw[qak] <;> lia);rw[qC its hk];refine⟨.ref _,_,I4.laid (t':=s3.toks) (o:=.lst (ci xs none)) (fun b ob q=>qad _ q) (qah _) ?_,rfl,q _ (I4.hok.fresh (qah _))⟩;exact⟨qaw (tV xs none) hz,_,0,xR r none,qar _ rfl⟩
def rLeT(K:qab):R2:=fun x y H Q=>∃a b ns ms,x=.ref a/\y=.ref b/\SqT K H a (ns.map V.int)/\SqT K H b (ms.map V.int)/\Q (.bl (HT.bO ns ms)) H
def op_leT(hu:X.A.units<cLine):OpR X (compareOp .LtE) (rLeT X.K):=by
 intro Ie s σ H x y v u Q I rx ry h;obtain⟨a,b,ns,ms,rfl,rfl,ha,hb,q⟩:=h;cases rx;cases ry;obtain⟨its,r1,p1,_⟩:=I.tuple ha;obtain⟨its2,r2,p2,_⟩:=I.tuple hb;have i1:IntsAre its.toArray.toList ns:=mS r1;have i2:IntsAre its2.toArray.toList ms:=mS r2;exact HT.wC p1 p2 i1 i2 hu ⟨.bl (HT.bO ns ms),H,I,rfl,q⟩
def rCat0(K:qab):R2:=fun x y H Q=>∃a b ys,x=.ref a/\y=.ref b/\SqT K H a []/\SqT K H b ys/\Q (.ref b) H
def op_cat0:OpR X (binaryOp .Add) (rCat0 X.K):=by
 intro Ie s σ H x y v u Q I rx ry h;obtain⟨a,b,ys,rfl,rfl,ha,hb,q⟩:=h;cases rx;cases ry;obtain⟨its,r1,p1,_⟩:=I.tuple ha;obtain⟨its2,r2,p2,_⟩:=I.tuple hb;cases r1;exact HT.yG p1 p2 ⟨.ref b,H,I,rfl,q⟩
end
end L2
namespace MM
open PySem PySem.Spec PyProof.Rows L2
local instance (priority:=1) cdec39 (p:Prop):Decidable p:=Classical.propDecidable p
def opAddT(x y:PV)(h:MH):Out PV:=match x,y with
 | .tup [],.tup ys=>.ok (.tup ys) h
 | x,y=>opAdd x y h
def opLeT(x y:PV)(h:MH):Out PV:=match x,y with
 | .tup xs,.tup ys=>(match gp xs,gp ys with
  | some ns,some ms=>.ok (.bl (HT.bO ns ms)) h
  | _,_=>.bad)
 | x,y=>opLe x y h
def fSlT(x:PV)(lo hi:Option Int)(h:MH):Out PV:=match x with
 | .tup xs=>.ok (.tup (dv xs lo hi)) h
 | x=>fSl x lo hi h
def fRvT(x:PV)(st:Option Int)(h:MH):Out PV:=match x with
 | .tup xs=>if st=some (-1) then .ok (.tup xs.reverse) h else .bad
 | x=>fRv x none st h
section
variable {X:Cx} {k:Nat} {pos:Pos}
def bw:OpJ X (binaryOp .Add) opAddT:=by
 intro Ie s σ H x' y' u v Q I rx' ry' ⟨ρ,h,x,y,rh,rx,ry,q⟩;unfold opAddT at q
 split at q
 ·cases rx with
  | tup s1 r1 =>
   cases ry with
   | tup s2 r2 =>
    cases r1;exact op_cat0 Ie s σ H _ _ u v Q I rx' ry' ⟨_,_,_,rfl,rfl,s1,s2,q ρ H _ (Le.refl _ _) rh (.tup s2 r2)⟩
 ·exact bj Ie s σ H x' y' u v Q I rx' ry' ⟨ρ,h,x,y,rh,rx,ry,q⟩
def oj_leT(hr:Room k X.A):OpJ X (compareOp .LtE) opLeT:=by
 intro Ie s σ H x' y' u v Q I rx' ry' ⟨ρ,h,x,y,rh,rx,ry,q⟩;unfold opLeT at q
 split at q
 ·cases rx with
  | tup s1 r1 =>
   cases ry with
   | tup s2 r2 =>
    rename_i xs ys _ _ _ _
    cases ei:gp xs with
    | none=>rw[ei] at q;exact q.elim
    | some ns =>
     cases ej:gp ys with
     | none=>rw[ei,ej] at q;exact q.elim
     | some ms =>
      rw[ei,ej] at q;rw[lY ei] at r1;rw[lY ej] at r2
      have:=eU r1
      subst this
      have:=eU r2
      subst this;exact op_leT hr.units0 Ie s σ H _ _ u v Q I rx' ry' ⟨_,_,_,_,rfl,rfl,s1,s2,q ρ H _ (Le.refl _ _) rh (.bl _)⟩
 ·exact jC Ie s σ H x' y' u v Q I rx' ry' ⟨ρ,h,x,y,rh,rx,ry,q⟩
def zh{xs:List PV}{lo hi:Option Int}(z:HT.sIx xs.length 0 lo=0/\HT.sIx xs.length xs.length hi=xs.length):dv xs lo hi=xs:=by
 unfold dv;rw[z.1,z.2];simp
def sj_slT:SlR X (slJ X fSlT):=by
 intro Ie s σ H x' v vl vu lo hi sl Q I rx hs pl pu ⟨ρ,h,x,rh,rxx,q⟩;unfold fSlT at q
 split at q
 ·cases rxx with
  | tup s1 r1 =>
   rename_i xs a ys
   by_cases z:HT.sIx xs.length 0 lo=0/\HT.sIx xs.length xs.length hi=xs.length
   ·rw[zh z] at q;exact sl_tupW Ie s σ H _ v vl vu lo hi sl Q I rx hs pl pu ⟨a,ys,rfl,s1,by rw[<-r1.length];exact z,q ρ H _ (Le.refl _ _) rh (.tup s1 r1)⟩
   ·refine xy Ie s σ H _ v vl vu lo hi sl Q I rx hs pl pu ⟨a,ys,rfl,s1,by rw[<-r1.length];exact z,fun p hp=>?_⟩;obtain⟨r',l'⟩:=rh.tup hp (fv ys lo hi);exact q ρ _ _ l' r' (.tup (SqT.of br) ((kS r1 lo hi).le l'))
 ·exact sj_sl Ie s σ H x' v vl vu lo hi sl Q I rx hs pl pu ⟨ρ,h,x,rh,rxx,q⟩
def fD(m:Mx PV)(ml mh:Mx (Option Int)):Mx PV:=fun σ h=>(m σ h).bind fun x h1=>(ml σ h1).bind fun lo h2=>(mh σ h2).bind fun hi h3=>(fSlT x lo hi h3).ne
def dz{e:Expr}{lo hi:Option Expr}{m:Mx PV}{ml mh:Mx (Option Int)}{p2:Pos}(he:ME X e m)(hl:MO' X lo ml)(hu:MO' X hi mh):ME X (.Subscript e (.Slice lo hi none p2) pos) (fD m ml mh) :=
 PE.imp (rO sj_slT he hl hu) fun σ H Q ⟨ρ,σp,h,rs,rh,q⟩=>⟨ρ,σp,h,rs,rh,Ful.bind q fun ρ1 H1 x x' h1 _ l1 rh1 rx q1=>⟨ρ1,σp,h1,rs.le l1,rh1,Ful.bind q1 fun ρ2 H2 lo lo' h2 _ l2 rh2 el q2=>by
  subst el
  exact⟨ρ2,σp,h2,rs.le (l1.trans l2),rh2,Ful.bind q2 fun ρ3 H3 hi hi' h3 _ l3 rh3 eh q3=>by
   subst eh
   exact⟨ρ3,h3,x,rh3,(rx.le l2).le l3,q3.zero⟩⟩⟩⟩
def mRvT(m:Mx PV)(ms:Mx (Option Int)):Mx PV:=fun σ h=>(m σ h).bind fun x h1=>(ms σ h1).bind fun st h3=>(fRvT x st h3).ne
def uu{e st:Expr}{m:Mx PV}{ms:Mx (Option Int)}{p2:Pos}(he:ME X e m)(hs:MO' X (some st) ms):ME X (.Subscript e (.Slice none none (some st) p2) pos) (mRvT m ms) :=
 PE.imp (pe_revT he hs) fun σ H Q ⟨ρ,σp,h,rs,rh,q⟩=>⟨ρ,σp,h,rs,rh,Ful.bind q fun ρ1 H1 x x' h1 _ l1 rh1 rx q1=>by
  refine⟨ρ1,σp,h1,rs.le l1,rh1,Ful.bind q1 fun ρ3 H3 w w' h3 _ l3 rh3 ew q3=>?_⟩;subst ew;have q4:=q3.zero;have rx3:=rx.le l3;unfold fRvT at q4
  split at q4
  ·rename_i xs
   cases rx3 with
   | tup s1 r1 =>
    by_cases z:w=some (-1)
    ·rw[qai z] at q4;refine .inl ⟨_,_,rfl,s1,z,fun p hp=>?_⟩;obtain⟨r',l'⟩:=rh3.tup hp (List.reverse _);exact q4 ρ3 _ _ l' r' (.tup (SqT.of br) ((r1.rev').le l'))
    ·rw[qal z] at q4;exact q4.elim
  ·refine .inr ?_;unfold fRv at q4
   cases rx3 with
   | @frl xs a ys s1 r1 =>
    dsimp only at q4;by_cases z:(∀k,(none:Option Int)=some k->0<=k)/\w=some (-1)
    ·rw[qai z] at q4;refine⟨a,ys,rfl,s1.sq,z.1,z.2,fun p hp=>?_⟩;obtain⟨r',l'⟩:=rh3.new hp (o:=.lst (ci xs none)) (ho:=.lst (ci ys none)) ⟨_,rfl,vf r1 none⟩;exact q4 _ _ _ l' r' (.loc (by rw[<-rh3.len];simp))
    ·rw[qal z] at q4;exact q4.elim
   | @loc n a en =>
    obtain⟨o,eo,ro⟩:=rh3.obj en;dsimp only at q4;rw[eo] at q4
    cases o with
    | lst xs =>
     obtain⟨ys,ey,ry⟩:=ro;dsimp only at q4;by_cases z:(∀k,(none:Option Int)=some k->0<=k)/\w=some (-1)
     ·rw[qai z] at q4;refine⟨a,ys,rfl,SqL.of ey,z.1,z.2,fun p hp=>?_⟩;obtain⟨r',l'⟩:=rh3.new hp (o:=.lst (ci xs none)) (ho:=.lst (ci ys none)) ⟨_,rfl,vf ry none⟩;exact q4 _ _ _ l' r' (.loc (by rw[<-rh3.len];simp))
     ·rw[qal z] at q4;exact q4.elim
    | _=>exact q4.elim
   | _=>exact q4.elim⟩
end
end MM
namespace L2
open PySem PySem.Spec PyProof.Rows
section
variable {X:Cx} {a b c d:Expr} {ta tb tc td:TE} {r r' r2:R2} {op op' op2:CmpOp} {pos:Pos}
def tChain3(r r' r2:R2)(ta tb tc td:TE):TT:=fun σ H Q=>ta σ H fun x H1=>tb σ H1 fun y H2=>r x y H2 fun z H3=>∃k,z=.bl k /\
 (if k=true then tc σ H3 fun w' H4=>r' y w' H4 fun z' H5=>∃k',z'=.bl k'/\(if k'=true then td σ H5 fun u' H6=>r2 w' u' H6 fun z2 H7=>∃k2,z2=.bl k2/\Q k2 H7 else Q false H5) else Q false H3)
def xp(ho:OpR X (compareOp op) r)(ho':OpR X (compareOp op') r')(ho2:OpR X (compareOp op2) r2)(ha:PE X a ta)(hb:PE X b tb)(hc:PE X c tc)(hd:PE X d td)
  (hm:lastMarks [op,op',op2] [b,c,d]=false:=by with_unfolding_all rfl):PT X (.Compare a [op,op',op2] [b,c,d] pos) (tChain3 r r' r2 ta tb tc td):=by
 intro Ie s σ H Q I h
 refine isTrue_chain (thn (ha Ie s σ H _ I h) fun v s1 ⟨x,H1,I1,r1,q1⟩=>test_link (thn (hb Ie s1 σ H1 _ I1 q1) fun u s2 ⟨y,H2,I2,r2,q2⟩ =>
  thn (ho Ie s2 σ H2 x y v u _ I2 r1 r2 q2) fun dd s3 ⟨z,H3,I3,r3,k,e,q3⟩=>?_)) hm
 subst e;cases r3;refine wpAny_truthy_bool ?_
 cases k with
 | false=>exact ite_ff ⟨H3,I3,q3⟩
 | true =>
  refine ite_tt (test_link (thn (hc Ie s3 σ H3 _ I3 q3) fun w' s4 ⟨z',H4,I4,r4,q4⟩=>thn (ho' Ie s4 σ H4 y z' u w' _ I4 r2 r4 q4) fun d' s5 ⟨z2,H5,I5,r5,k2,e2,q5⟩=>?_));subst e2;cases r5;refine wpAny_truthy_bool ?_
  cases k2 with
  | false=>exact ite_ff ⟨H5,I5,q5⟩
  | true =>
   refine ite_tt (test_last (thn (hd Ie s5 σ H5 _ I5 q5) fun w2 s6 ⟨z3,H6,I6,r6,q6⟩=>thn (ho2 Ie s6 σ H6 z' z3 w' w2 _ I6 r4 r6 q6) fun d2 s7 ⟨z4,H7,I7,r7,k3,e3,q7⟩=>?_));subst e3;cases r7;exact wpAny_truthy_bool ⟨H7,I7,q7⟩
end
end L2
namespace MM
open PySem PySem.Spec PyProof.Rows L2
local instance (priority:=1) cdec40 (p:Prop):Decidable p:=Classical.propDecidable p
section
variable {X:Cx} {a b c d:Expr} {ma mb mc md:Mx PV} {f g' g2:PV→PV→MH→Out PV} {op op' op2:CmpOp} {pos:Pos} {k:Nat}
def oM(f g g2:PV->PV->MH->Out PV)(a b c d:Mx PV):Mx Bool:=fun σ h=>(a σ h).bind fun x h1=>(b σ h1).bind fun y h2=>(f x y h2).ne.bind fun z h3=>match z with
 | .bl t=>if t=true then (c σ h3).bind fun w h4=>(g y w h4).ne.bind fun z' h5=>(match z' with
  | .bl t'=>if t'=true then (d σ h5).bind fun u h6=>(g2 w u h6).ne.bind fun z2 h7=>(match z2 with
   | .bl t2=>.ok t2 h7
   | _=>.bad) else .ok false h5
  | _=>.bad) else .ok false h3
 | _=>.bad
def ya(ho:OpJ X (compareOp op) f)(ho':OpJ X (compareOp op') g')(ho2:OpJ X (compareOp op2) g2)(ha:ME X a ma)(hb:ME X b mb)(hc:ME X c mc)(hd:ME X d md)(hm:lastMarks [op,op',op2] [b,c,d]=false:=by with_unfolding_all rfl) :
  MT X (.Compare a [op,op',op2] [b,c,d] pos) (oM f g' g2 ma mb mc md) :=
 PT.imp (xp ho ho' ho2 ha hb hc hd hm) fun σ H Q ⟨ρ,σp,h,rs,rh,q⟩=>by
  refine⟨ρ,σp,h,rs,rh,Ful.bind q fun ρ1 H1 x x' h1 _ l1 rh1 rx q1=>?_⟩;refine⟨ρ1,σp,h1,rs.le l1,rh1,Ful.bind q1 fun ρ2 H2 y y' h2 _ l2 rh2 ry q2=>?_⟩;refine⟨ρ2,h2,x,y,rh2,rx.le l2,ry,?_⟩;refine (Ful.bind q2 fun ρ3 H3 z z' h3 _ l3 rh3 rz q3=>?_:Ful X (RV' X) σp ρ2 H2 (f x y h2).ne _).zero
  cases rz with
  | bl t =>
   refine⟨t,rfl,?_⟩;dsimp only at q3
   cases t with
   | false =>
    rw[qal qaK] at q3 ⊢;exact q3 ρ3 H3 _ (Le.refl _ _) rh3 rfl
   | true =>
    rw[qai rfl] at q3 ⊢;refine⟨ρ3,σp,h3,rs.le (l1.trans (l2.trans l3)),rh3,Ful.bind q3 fun ρ4 H4 w w' h4 _ l4 rh4 rw' q4=>?_⟩;refine⟨ρ4,h4,y,w,rh4,(ry.le l3).le l4,rw',?_⟩;refine (Ful.bind q4 fun ρ5 H5 z z' h5 _ l5 rh5 rz q5=>?_:Ful X (RV' X) σp ρ4 H4 (g' y w h4).ne _).zero
    cases rz with
    | bl t' =>
     refine⟨t',rfl,?_⟩;dsimp only at q5
     cases t' with
     | false =>
      rw[qal qaK] at q5 ⊢;exact q5 ρ5 H5 _ (Le.refl _ _) rh5 rfl
     | true =>
      rw[qai rfl] at q5 ⊢;refine⟨ρ5,σp,h5,rs.le (l1.trans (l2.trans (l3.trans (l4.trans l5)))),rh5,Ful.bind q5 fun ρ6 H6 u u' h6 _ l6 rh6 ru q6=>?_⟩;refine⟨ρ6,h6,w,u,rh6,(rw'.le l5).le l6,ru,?_⟩;refine (Ful.bind q6 fun ρ7 H7 z z' h7 _ l7 rh7 rz q7=>?_:Ful X (RV' X) σp ρ6 H6 (g2 w u h6).ne _).zero
      cases rz with
      | bl t2=>exact⟨t2,rfl,q7 ρ7 H7 _ (Le.refl _ _) rh7 rfl⟩
      | _=>exact q7.elim
    | _=>exact q5.elim
  | _=>exact q3.elim
def wc(i j n:Int):Mx PV:=fun _ h=>.ok (.loc h.length) (h++[.dic [(.tup [.int i,.int j],.int n)]])
def me_dicT{mk mv:Mx PV}{i j n:Int}{ek ev:Expr}(hr:Room k X.A)(hk:ME X ek mk)(hv:ME X ev mv)(ek':∀σ h,mk σ h=newT [.int i,.int j] h:=by intros;rfl)(ev':∀σ h,mv σ h=.ok (.int n) h:=by intros;rfl) :
  ME X (.Dict [some ek] [ev] pos) (wc i j n):=fun Ie s σ H Q I ⟨ρ,σp,h,rs,rh,q⟩=>by
 have hf:H s.heap.objs.size=none:=I.hok.fresh (qah _);obtain⟨r1,l1⟩:=rh.new hf (o:=.dic []) (ho:=.dK []) (.inl ⟨rfl,rfl⟩);have I1:Inv X Ie σ (upd H s.heap.objs.size (.dK [])) { s with heap:=s.heap.push { cls:=.type "dict",data:=.dict #[]},toks:=s.toks}:=I.laid (a:=s.heap.objs.size) (o:=.dK []) (t':=s.toks) (fun _ _ q=>qad _ q) (qah _)
  ⟨qaM _,beq_eq_false_iff_ne.mpr (Ne.symm (qaG (Inv.bigM I))),[],.nil,Heap.DictOf.new s.heap⟩
 refine wpAny_Dict_any rfl rfl (by simp) (by simp) ?_;show wpAny _ _ (evalPairs [(eval ek X.env,do let x <-eval ev X.env;standAt pos;pure x)]) _ _ _;unfold evalPairs;refine qaa (thn (hk Ie _ σ _ (fun v' H'=>∃ρ',Le (ρ++[s.heap.objs.size]) (upd H s.heap.objs.size (.dK [])) ρ' H'/\RH X.K X.mg ρ' H' (h++[.dic []])/\RP X.K ρ' H' (.tup [.int i,.int j]) v') I1 ⟨_,σp,_,rs.le l1,r1,?_⟩) fun v s2 ⟨x,H2,I2,rv,ρ2,l2,r2,rx⟩=>?_)
 ·rw[ek'];unfold newT;rw[qai (by show 2<=sizeLine;unfold sizeLine;decide)];exact fun ρ' H' v' l r p=>⟨ρ',l,r,p⟩
 refine qaa (wpAny_holding (qaa (thn (hv Ie _ σ _ (fun v' H'=>∃ρ',Le ρ2 H2 ρ' H'/\RH X.K X.mg ρ' H' (h++[.dic []])/\v'=.int n) I2 ⟨_,σp,_,(rs.le l1).le l2,r2,?_⟩) fun u s3 ⟨y,H3,I3,ru,ρ3,l3,r3,ey⟩=>?_)))
 ·rw[ev'];exact fun ρ' H' v' l r p=>⟨ρ',l,r,by cases p;rfl⟩
 subst ey;refine qaa (wpAny_standAt (qae ?_));refine qaa (wpAny_holding ?_);unfold evalPairs;refine qae (qae ?_);replace rx:=rx.le l3
 cases rx with
 | @tup _ ka ys s1 rp =>
  cases rv;have ed:H3 s.heap.objs.size=some (.dK []):=by
   obtain⟨m2,e2⟩:=l2.pre;obtain⟨m3,e3⟩:=l3.pre;have en:ρ3[h.length]?=some s.heap.objs.size:=by rw[e3,e2,<-rh.len];simp
   rcases r3.at' h.length _ (.dic []) en (by simp) with ⟨_,e⟩|⟨e,_⟩
   ·exact e
   ·exact absurd rfl e
  have en:ρ3[h.length]?=some s.heap.objs.size:=by
   obtain⟨m2,e2⟩:=l2.pre;obtain⟨m3,e3⟩:=l3.pre;rw[e3,e2,<-rh.len];simp
  obtain⟨its,rr,⟨ot,g1,g2,nn,g3⟩,_⟩:=I3.tuple s1;have hz:=eU (ns:=[i,j]) rp;subst hz;obtain⟨_,_,vs,rkv,o,es,ep,h1,h2,h3,_,h5,_⟩:=(show ObjOk X.prog X.w H3 s3.heap s.heap.objs.size (.dK []) from I3.hok _ _ ed);cases rkv;have ees:es.toList=[]:=by
   generalize es.toList=l at h5;cases h5;rfl
  obtain⟨t,rfl⟩:=ru;unfold storeAll;rw[List.forIn_cons];refine qaa (qaa (wpAny_dictSet_heap (knd:=tupleKind (iR X.prog X.w)) (xs:=[]) (k:=[.inl i,.inl j]) hr.units0 ?_ ⟨o,es,ep,h1,h2,h3,by rw[ees];rfl,by simp,by simp⟩ (fun h' hd' hs'=>qae ?_) (by simp)))
  ·refine⟨ot,_,nn,g1,g2,g3,?_⟩
   cases rr with
   | cons ra rt =>
    cases rt with
    | cons rb rt =>
     cases rt;obtain⟨t1,rfl⟩:=ra;obtain⟨t2,rfl⟩:=rb;exact .cons (lN ..) (.cons (lN ..) .nil)
  ·show wpAny _ _ (forIn ([]:List (Value × Value)) _ _) _ _ _;rw[List.forIn_nil];refine qae ?_;obtain⟨o',es',ep',k1,k2,_⟩:=hd';obtain⟨r4,l4⟩:=r3.put en (o:=.dic [(.tup [.int i,.int j],.int n)]) (ho:=.ext (qS s.heap.objs.size)) (.inr ⟨by simp,rfl⟩);refine⟨.ref s.heap.objs.size,_,I3.write (x:=s.heap.objs.size) (e:=s.heap.objs.size) (o:=.ext (qS s.heap.objs.size)) (by rw[ed];trivial) (.inl rfl) (fun b u hb hg=>?_) ⟨o',k1⟩ ⟨⟨o',k1,k2.1⟩,⟨o',k1⟩,fun h1 h2 ⟨o,e,c⟩ z=>⟨o,z o e,c⟩⟩,rfl,q ρ3 _ _ (l1.trans (l2.trans (l3.trans l4))) ?_ (.loc en)⟩
   ·exact (hs'.2 b hb).trans hg
   ·have:(h++[MO.dic []]).set h.length (.dic [(.tup [.int i,.int j],.int n)])=h++[.dic [(.tup [.int i,.int j],.int n)]]:=by simp
    rw[<-this];exact r4
def rn:Expr->Bool
 | .Starred _ _=>false
 | _=>true
def qo(h:rn e=true):starEach (e::es) env=(false,eval e env)::starEach es env:=by
 cases e <;> first | rfl | cases h
def ma_con(ha:ME X e m)(hr:MA X es ms)(hp:rn e=true:=by rfl):MA X (e::es) (ac m ms):=ah ha hr (qo hp)
structure ME1 (X:Cx) (e:Expr) (m:Mx PV):Prop where
 h:ME X e m
structure MAs (X:Cx) (es:List Expr) (ms:Mx (List PV)):Prop where
 h:MA X es ms
structure MS1 (X:Cx) (st:Stmt) (m:Mst):Prop where
 h:MS X st m
structure MS2 (X:Cx) (st:List Stmt) (m:Mst):Prop where
 h:MSs X st m
section
variable {e:Expr} {es:List Expr} {m ma mb:Mx PV} {ms:Mx (List PV)} {st:Stmt} {rest:List Stmt} {u v:Mst} {f:PV→PV→MH→Out PV} {N W G:List Str} {x:Str}
def am:MAs X [] mNil:=⟨aj⟩
def ae(ha:ME1 X e m)(hr:MAs X es ms)(hp:rn e=true:=by rfl):MAs X (e::es) (ac m ms):=⟨ma_con ha.h hr.h hp⟩
def e_1(h:ME X e m):ME1 X e m:=⟨h⟩
def l_1(h:MAs X es ms):ME1 X (.List es pos) (bc ms):=⟨d7 h.h⟩
def t_1(h:MAs X es ms):ME1 X (.Tuple es j pos) (aA ms):=⟨fj h.h⟩
def b_1{op:Operator}{a b:Expr}(ho:OpJ X (binaryOp op) f)(ha:ME1 X a ma)(hb:ME1 X b mb):ME1 X (.BinOp a op b pos) (ak f ma mb):=⟨az ho ha.h hb.h⟩
def i_1(ha:ME1 X a ma)(hb:ME1 X b mb)(hs:lr b:=by exact fun _ _=>rfl):ME1 X (.Subscript a b pos) (ak aR ma mb):=⟨me_ix ha.h hb.h hs⟩
def s_1(h:MS X st u):MS1 X st u:=⟨h⟩
def a_1(g:Good X N W G k)(i:Nat){pos':Pos}(he:ME1 X e m)(hi:N[i]?=some x:=by rfl)(hw:W[i]?=some x:=by rfl)(hs:swapsWith e (some (.Name x pos')) pos.line X.env=pure false:=by rfl) :
  MS1 X (.Assign [.Name x pos'] e pos) (aW i m):=⟨ms_set g i hi hw he.h hs⟩
def r_1(he:ME1 X e m):MS1 X (.Return (some e) pos) (aN m):=⟨ms_ret he.h⟩
def m1n(h:MS1 X st u):MS2 X [st] u:=⟨mss_one h.h⟩
def m1c(h1:MS1 X st u)(h2:MS2 X rest v):MS2 X (st::rest) (aD u v):=⟨zW h1.h h2.h⟩
end
end
end MM
namespace PU
open PySem MM
def ys{α:Type}{a b:α}(h:a=b):a=b:=h
inductive D where
 | non | bl (b:Bool) | int (i:Int) | str (x:Str) | tup (xs:List D) | lst (xs:List D) | dic | exc (c:Str) | pen
abbrev Pen:=Int × Int × Int
abbrev aE:=List (Option D)
def cj(h:MH)(p:Nat)(s:Pen):Prop:=h[p]?=some (.lst [.int s.1,.int s.2.1,.int s.2.2])
inductive RcT (P:List PV->Prop) (v:PV):Prop
 | mk (xs:List PV) (e:v=.tup xs) (r:P xs):RcT P v
inductive RcL (h:MH) (O:List Nat) (P:List PV->Prop) (v:PV):Prop
 | mk (n:Nat) (xs:List PV) (e:v=.loc n) (no:n∉O) (g:h[n]?=some (.lst xs)) (r:P xs):RcL h O P v
inductive RcO (h:MH) (O:List Nat) (o:MO) (v:PV):Prop
 | mk (n:Nat) (e:v=.loc n) (no:n∉O) (g:h[n]?=some o):RcO h O o v
inductive RcD (h:MH) (O:List Nat) (v:PV):Prop
 | mk (n:Nat) (e:v=.loc n) (no:n∉O) (kvs:List (PV × PV)) (g:h[n]?=some (.dic kvs)):RcD h O v
inductive RcC (P:PV->Prop) (Q:List PV->Prop) (vs:List PV):Prop
 | mk (x:PV) (r:List PV) (e:vs=x::r) (a:P x) (b:Q r):RcC P Q vs
mutual
def Rp(p:Nat)(h:MH)(O:List Nat):D->PV->Prop
 | .non,v=>v=.non
 | .bl b,v=>v=.bl b
 | .int i,v=>v=.int i
 | .str x,v=>v=.str x
 | .tup ds,v=>RcT (Rps p h O ds) v
 | .lst ds,v=>RcL h O (Rps p h O ds) v
 | .dic,v=>RcD h O v
 | .exc c,v=>RcO h O (.exc ⟨c,[]⟩) v
 | .pen,v=>v=.loc p
def Rps(p:Nat)(h:MH)(O:List Nat):List D->List PV->Prop
 | [],vs=>vs=[]
 | d::ds,vs=>RcC (Rp p h O d) (Rps p h O ds) vs
end
def bg{h:MH}{n:Nat}{o:MO}(e:h[n]?=some o):n<h.length:=(qag.mp e).1
structure Mv (O:List Nat) (h:MH) (O':List Nat) (h':MH):Prop where
 keep:∀n:Nat,n<h.length->n∉O->h'[n]?=h[n]?
 new:∀o∈O',o∈O\/h.length<=o
def Mv.get{O O':List Nat}{h h':MH}(s:Mv O h O' h'){n:Nat}{o:MO}(e:h[n]?=some o)(no:n∉O):n∉O'/\h'[n]?=some o:=by
 have hl:=bg e;refine⟨fun z=>?_,(s.keep n hl no).trans e⟩;rcases s.new n z with q|q
 ·exact no q
 ·lia
section
variable {p:Nat} {O O':List Nat} {h h':MH}
def Rp.mv(s:Mv O h O' h')(r:Rp p h O d v):Rp p h' O' d v:=by
 refine D.rec (motive_1:=fun d=>∀v,Rp p h O d v->Rp p h' O' d v) (motive_2:=fun ds=>∀vs,Rps p h O ds vs->Rps p h' O' ds vs)
  (fun _ r=>r) (fun _ _ r=>r) (fun _ _ r=>r) (fun _ _ r=>r) (fun ds i _ r=>?_) (fun ds i _ r=>?_) (fun _ r=>?_) (fun _ _ r=>?_) (fun _ r=>r) (fun _ r=>r) (fun _ _ i j _ r=>?_) d v r
 ·obtain⟨xs,e,r⟩:=r;exact⟨xs,e,i _ r⟩
 ·obtain⟨n,xs,e,no,g,r⟩:=r;exact⟨n,xs,e,(s.get g no).1,(s.get g no).2,i _ r⟩
 ·obtain⟨n,e,no,kvs,g⟩:=r;exact⟨n,e,(s.get g no).1,kvs,(s.get g no).2⟩
 ·obtain⟨n,e,no,g⟩:=r;exact⟨n,e,(s.get g no).1,(s.get g no).2⟩
 ·obtain⟨x,t,e,a,b⟩:=r;exact⟨x,t,e,i _ a,j _ b⟩
def Rps.mv(s:Mv O h O' h')(r:Rps p h O ds vs):Rps p h' O' ds vs:=by
 induction ds generalizing vs with
 | nil=>exact r
 | cons d ds ih=>obtain⟨x,t,e,a,b⟩:=r;exact⟨x,t,e,a.mv s,ih b⟩
def Rps.length(r:Rps p h O ds vs):vs.length=ds.length:=by
 induction ds generalizing vs with
 | nil=>rw[show vs=[] from r];rfl
 | cons d ds ih=>obtain⟨x,t,e,a,b⟩:=r;rw[e,qaQ,qaQ,ih b]
def Rps.get{ds:List D}{vs:List PV}{i:Nat}{d:D}(r:Rps p h O ds vs)(g:ds[i]?=some d):∃v,vs[i]?=some v/\Rp p h O d v:=by
 induction ds generalizing vs i with
 | nil=>cases g
 | cons d ds ih =>
  obtain⟨x,t,e,a,b⟩:=r;subst e
  cases i with
  | zero=>cases g;exact⟨x,rfl,a⟩
  | succ i=>have z:=@ih t i b g;exact z
def Rps.app(r:Rps p h O ds vs)(s:Rps p h O es ws):Rps p h O (ds++es) (vs++ws):=by
 induction ds generalizing vs with
 | nil=>rw[show vs=[] from r];exact s
 | cons d ds ih=>obtain⟨x,t,e,a,b⟩:=r;subst e;exact⟨x,t++_,rfl,a,ih b⟩
def Rps.take(n:Nat)(r:Rps p h O ds vs):Rps p h O (ds.take n) (vs.take n):=by
 induction ds generalizing vs n with
 | nil=>rw[show vs=[] from r];cases n <;> rfl
 | cons d ds ih =>
  obtain⟨x,t,e,a,b⟩:=r;subst e
  cases n with
  | zero=>rfl
  | succ n=>exact⟨x,t.take n,rfl,a,ih n b⟩
def Rps.drop(n:Nat)(r:Rps p h O ds vs):Rps p h O (ds.drop n) (vs.drop n):=by
 induction ds generalizing vs n with
 | nil=>rw[show vs=[] from r];cases n <;> rfl
 | cons d ds ih =>
  cases n with
  | zero=>exact r
  | succ n=>obtain⟨x,t,e,a,b⟩:=r;subst e;exact ih n b
end
inductive VwO (p:Nat) (h:MH) (L:Nat) (O:List Nat) (d:D) (v:PV):Prop
 | mk (n:Nat) (xs:List PV) (ds:List D) (e:d=.lst ds) (e':v=.loc n) (o:n∈O) (l:L<=n) (g:h[n]?=some (.lst xs)) (r:Rps p h O ds xs):VwO p h L O d v
def Vw(p:Nat)(h:MH)(L:Nat)(O:List Nat)(d:D)(v:PV):Prop:=Rp p h O d v\/VwO p h L O d v
def Vws(p:Nat)(h:MH)(L:Nat)(O:List Nat):List D->List PV->Prop
 | [],vs=>vs=[]
 | d::ds,vs=>RcC (Vw p h L O d) (Vws p h L O ds) vs
inductive FrsI (p:Nat) (L:Nat) (O:List Nat) (h:MH) (ds:List D) (v:PV):Prop
 | mk (n:Nat) (xs:List PV) (e:v=.loc n) (l:L<=n) (g:h[n]?=some (.lst xs)) (r:Rps p h (n::O) ds xs):FrsI p L O h ds v
def Frs(p:Nat)(L:Nat)(O:List Nat)(h:MH)(d:D)(v:PV):Prop:=∀ds,d=.lst ds->FrsI p L O h ds v
structure KB (p:Nat) (h h':MH):Prop where
 len:h.length<=h'.length
 keep:∀n:Nat,n<h.length->n≠p->h'[n]?=h[n]?
def KB.refl(p:Nat)(h:MH):KB p h h:=⟨qah _,fun _ _ _=>rfl⟩
def KB.trans(a:KB p h h1)(b:KB p h1 h2):KB p h h2 :=
 ⟨qaw a.len b.len,fun n hn hp=>(b.keep n (qav hn a.len) hp).trans (a.keep n hn hp)⟩
def KB.app(p:Nat)(h g:MH):KB p h (h++g):=⟨by simp,fun n hn _=>qan hn⟩
def KB.mv(k:KB p h h')(hp:p∈O):Mv O h O h' :=
 ⟨fun n hn no=>k.keep n hn fun z=>no (z▸hp),fun o ho=>.inl ho⟩
def cj.app{p:Nat}{h g:MH}{s:Pen}(e:cj h p s):cj (h++g) p s:=by
 unfold cj at *;rw[qan (bg e)];exact e
def Vw.kb{p L:Nat}{h h':MH}{O:List Nat}{d:D}{v:PV}(k:KB p h h')(hp:p∈O)(hL:p<L)(w:Vw p h L O d v):Vw p h' L O d v:=by
 rcases w with r|⟨n,xs,ds,e1,e2,ho,hn,g,r⟩
 ·exact .inl (r.mv (k.mv hp))
 ·exact .inr ⟨n,xs,ds,e1,e2,ho,hn,(k.keep n (bg g) (by lia)).trans g,r.mv (k.mv hp)⟩
inductive PR (α:Type) where
 | ok (a:α) (s:Pen)
 | exc (c:Str) (s:Pen)
 | bad
def PR.bind{α β:Type}(r:PR α)(f:α->Pen->PR β):PR β:=match r with
 | .ok a s=>f a s
 | .exc c s=>.exc c s
 | .bad=>.bad
@[simp] theorem Pb(a:α)(s:Pen)(f:α->Pen->PR β):(PR.ok a s).bind f=f a s:=rfl
@[simp] theorem Pe(c:Str)(s:Pen)(f:α->Pen->PR β):(PR.exc c s).bind f=.exc c s:=rfl
@[simp] theorem Pd(f:α->Pen->PR β):(PR.bad:PR α).bind f=.bad:=rfl
def PR.of{α:Type}(o:Option α)(s:Pen):PR α:=match o with
 | some a=>.ok a s
 | none=>.bad
@[simp] theorem Pf(a:α)(s:Pen):PR.of (some a) s=.ok a s:=rfl
@[simp] theorem Pn(s:Pen):PR.of (none:Option α) s=.bad:=rfl
inductive OkE {α β:Type} (p:Nat) (h:MH) (o:Out β) (a:α) (s:Pen) (R:MH->α->β->Prop):Prop
 | mk (b:β) (h':MH) (e:o=.ok b h') (k:KB p h h') (n:cj h' p s) (r:R h' a b):OkE p h o a s R
inductive OkX {β:Type} (p:Nat) (h:MH) (o:Out β) (c:Str) (s:Pen):Prop
 | mk (h':MH) (e:o=.exc ⟨c,[]⟩ h') (k:KB p h h') (n:cj h' p s):OkX p h o c s
def Ok{α β:Type}(p:Nat)(h:MH)(o:Out β)(r:PR α)(R:MH->α->β->Prop):Prop:=match r with
 | .ok a s=>OkE p h o a s R
 | .exc c s=>OkX p h o c s
 | .bad=>True
def Ok.bind{α β γ δ:Type}{p:Nat}{h:MH}{o:Out β}{r:PR α}{R:MH->α->β->Prop}{f:β->MH->Out δ}{g:α->Pen->PR γ}{S:MH->γ->δ->Prop}(q:Ok p h o r R)
  (k:∀a b h1 s,KB p h h1->cj h1 p s->R h1 a b->Ok p h1 (f b h1) (g a s) S):Ok p h (o.bind f) (r.bind g) S:=by
 cases r with
 | ok a s =>
  obtain⟨b,h1,rfl,kb,pn,rr⟩:=q
  have:=k a b h1 s kb pn rr
  rw[Out.bind_ok,Pb]
  cases e:g a s with
  | ok c s2 =>
   rw[e] at this;obtain⟨d,h2,e2,kb2,pn2,r2⟩:=this;exact⟨d,h2,e2,kb.trans kb2,pn2,r2⟩
  | exc c s2 =>
   rw[e] at this;obtain⟨h2,e2,kb2,pn2⟩:=this;exact⟨h2,e2,kb.trans kb2,pn2⟩
  | bad=>trivial
 | exc c s =>
  obtain⟨h1,rfl,kb,pn⟩:=q;exact⟨h1,rfl,kb,pn⟩
 | bad=>trivial
def Ok.imp{α β:Type}{p:Nat}{h:MH}{o:Out β}{r:PR α}{R S:MH->α->β->Prop}(q:Ok p h o r R)(k:∀h' a b,KB p h h'->R h' a b->S h' a b):Ok p h o r S:=by
 cases r with
 | ok a s=>obtain⟨b,h1,e,kb,pn,rr⟩:=q;exact⟨b,h1,e,kb,pn,k _ _ _ kb rr⟩
 | exc c s=>exact q
 | bad=>trivial
structure SR (p:Nat) (h:MH) (L:Nat) (O:List Nat) (ws:List Nat) (σ:PSt) (env:aE):Prop where
 len:σ.length=env.length
 fz:∀i d,env[i]?=some (some d)->i∉ws->∃v,σ[i]?=some (some v)/\Rp p h O d v
 ow:∀i d,env[i]?=some (some d)->i∈ws->∃n xs ds,d=.lst ds/\σ[i]?=some (some (.loc n))/\n∈O/\L<=n/\h[n]?=some (.lst xs)/\Rps p h O ds xs
structure Cx (p:Nat) (h:MH) (L:Nat) (B O:List Nat) (ws:List Nat) (σ:PSt) (env:aE) (s:Pen):Prop where
 bd:∀o∈O,o<h.length
 sub:∀o∈B,o∈O
 bb:∀o∈B,o<L
 pb:p∈B
 hL:L<=h.length
 pen:cj h p s
 sr:SR p h L O ws σ env
section
variable {p L:Nat} {h h':MH} {B O ws:List Nat} {σ:PSt} {env:aE} {s s':Pen}
def Cx.pO(c:Cx p h L B O ws σ env s):p∈O:=c.sub p c.pb
def Cx.pL(c:Cx p h L B O ws σ env s):p<L:=c.bb p c.pb
def SR.mv{O':List Nat}(m:Mv O h O' h')(hs:∀o∈O,o∈O')(ho:∀n:Nat,n<h.length->L<=n->n∈O->h'[n]?=h[n]?)(r:SR p h L O ws σ env):SR p h' L O' ws σ env :=
 ⟨r.len,fun i d e hi=>let ⟨v,e1,q⟩:=r.fz i d e hi;⟨v,e1,q.mv m⟩,fun i d e hi=>let ⟨n,xs,ds,e1,e2,a,b,g,q⟩:=r.ow i d e hi;⟨n,xs,ds,e1,e2,hs n a,b,(ho n (bg g) b a).trans g,q.mv m⟩⟩
def Cx.kb(c:Cx p h L B O ws σ env s)(k:KB p h h')(pn:cj h' p s'):Cx p h' L B O ws σ env s' :=
 ⟨fun o ho=>qav (c.bd o ho) k.len,c.sub,c.bb,c.pb,qaw c.hL k.len,pn,c.sr.mv (k.mv c.pO) (fun _ h=>h) fun n hn hl _=>k.keep n hn (by have:=c.pL;lia)⟩
def Vw.base(w:Vw p h L O d v)(sub:∀o∈B,o∈O)(bb:∀o∈B,o<L):Rp p h B d v:=by
 have m:Mv O h B h:=⟨fun _ _ _=>rfl,fun o ho=>.inl (sub o ho)⟩;rcases w with r|⟨n,xs,ds,rfl,rfl,_,hn,g,r⟩
 ·exact r.mv m
 ·exact⟨n,xs,rfl,fun z=>by have:=bb n z;lia,g,r.mv m⟩
def Frs.rp(f:Frs p L' O h d v)(bd:∀o∈O,o<L')(e:d=.lst ds):Rp p h O d v:=by
 obtain⟨n,xs,e1,hn,g,r⟩:=f ds e;subst e;exact⟨n,xs,e1,fun z=>by have:=bd n z;lia,g,r.mv ⟨fun _ _ _=>rfl,fun o ho=>.inl (qam _ ho)⟩⟩
def Frs.le(f:Frs p L2 O h d v)(hl:L1<=L2):Frs p L1 O h d v:=fun ds e =>
 let ⟨n,xs,e1,hn,g,r⟩:=f ds e;⟨n,xs,e1,qaw hl hn,g,r⟩
end
abbrev Bd(h:MH)(O:List Nat):Prop:=∀o∈O,o<h.length
inductive Gv (p:Nat) (h:MH) (O:List Nat) (fr:Bool) (o:Out PV) (d:D):Prop
 | mk (v:PV) (g:MH) (e:o=.ok v (h++g)) (r:Rp p (h++g) O d v) (f:fr=true->Frs p h.length O (h++g) d v):Gv p h O fr o d
structure Op1 where
 m:PV->MH->Out PV
 p:D->Option D
 fr:Bool
 ok:∀{q h L O a x d},Bd h O->Vw q h L O a x->p a=some d->Gv q h O fr (m x h) d
structure Op2 where
 m:PV->PV->MH->Out PV
 p:D->D->Option D
 fr:Bool
 ok:∀{q h L O a x b y d},Bd h O->Vw q h L O a x->Vw q h L O b y->p a b=some d->Gv q h O fr (m x y h) d
structure OpN where
 k:List PV->MH->Out PV
 p:List D->Option D
 fr:Bool
 ok:∀{q h L O as xs d},Bd h O->Vws q h L O as xs->p as=some d->Gv q h O fr (k xs h) d
structure Fn where
 m:List PV->MH->Out PV
 p:List D->Pen->PR D
 fr:Bool
 ok:∀{q h O vs ds s},Bd h O->q∈O->cj h q s->Rps q h O ds vs->Ok q h (m vs h) (p ds s) (fun h' d v=>Rp q h' O d v/\(fr=true->Frs q h.length O h' d v))
section
variable {p:Nat} {h h':MH} {O O':List Nat}
end
structure Xe (ws:List Nat) where
 m:Mx PV
 p:aE->Pen->PR D
 fz:Bool
 fr:Bool
 ok:∀{q h L B O σ env s},Cx q h L B O ws σ env s->Ok q h (m σ h) (p env s) (fun h' d v=>Vw q h' L O d v/\(fz=true->Rp q h' O d v)/\(fr=true->Frs q h.length O h' d v))
structure Xs (ws:List Nat) where
 m:Mx (List PV)
 p:aE->Pen->PR (List D)
 fz:Bool
 ok:∀{q h L B O σ env s},Cx q h L B O ws σ env s->Ok q h (m σ h) (p env s) (fun h' ds vs=>Vws q h' L O ds vs/\(fz=true->Rps q h' O ds vs))
structure Xt (ws:List Nat) where
 m:Mx Bool
 p:aE->Pen->PR Bool
 ok:∀{q h L B O σ env s},Cx q h L B O ws σ env s->Ok q h (m σ h) (p env s) (fun _ a b=>a=b)
noncomputable section
variable {ws:List Nat}
def give{q L:Nat}{h h2:MH}{O:List Nat}{o:Out PV}{d:D}{s:Pen}{fr:Bool}(le:h.length<=h2.length)(pn:cj h2 q s)(g:Gv q h2 O fr o d) :
  Ok q h2 o (.ok d s) (fun h' d v=>Vw q h' L O d v/\(true=true->Rp q h' O d v)/\(fr=true->Frs q h.length O h' d v)):=by
 obtain⟨v,g,e,r,f⟩:=g;exact⟨v,h2++g,e,KB.app _ _ _,pn.app,.inl r,fun _=>r,fun z=>(f z).le le⟩
def af(i:Nat):Xe ws where
 m:=ag i
 p:=fun env s=>match env[i]? with
  | some (some d)=>.ok d s
  | _=>.bad
 fz:=!ws.contains i
 fr:=false
 ok {q h L B O σ env s} c:=by
  show Ok q h _ (match env[i]? with | some (some d)=>PR.ok d s | _=>.bad) _
  cases e:env[i]? with
  | none=>trivial
  | some o =>
   cases o with
   | none=>trivial
   | some d =>
    by_cases z:i∈ws
    ·obtain⟨n,xs,ds,e1,e2,a,b,g,r⟩:=c.sr.ow i d e z;exact⟨.loc n,h,by simp[ag,e2],KB.refl _ _,c.pen,.inr ⟨n,xs,ds,e1,rfl,a,b,g,r⟩,fun f=>by simp[z] at f,fun f=>by simp at f⟩
    ·obtain⟨v,e1,r⟩:=c.sr.fz i d e z;exact⟨v,h,by simp[ag,e1],KB.refl _ _,c.pen,.inl r,fun _=>r,fun f=>by simp at f⟩
inductive Cn where
 | non | bl (b:Bool) | int (i:Int) | str (x:Str)
def Cn.v:Cn->PV
 | .non=>.non
 | .bl b=>.bl b
 | .int i=>.int i
 | .str x=>.str x
def Cn.d:Cn->D
 | .non=>.non
 | .bl b=>.bl b
 | .int i=>.int i
 | .str x=>.str x
def Cn.rp(c:Cn){q:Nat}{h:MH}{O:List Nat}:Rp q h O c.d c.v:=by cases c <;> rfl
def xC(k:Cn):Xe ws where
 m:=mC k.v
 p:=fun _ s=>.ok k.d s
 fz:=true
 fr:=true
 ok {q h L B O σ env s} c:=⟨k.v,h,rfl,KB.refl _ _,c.pen,.inl k.rp,fun _=>k.rp,fun _ ds e=>by cases k <;> cases e⟩
def ao(o:Op2)(a b:Xe ws):Xe ws where
 m:=ak o.m a.m b.m
 p:=fun env s=>(a.p env s).bind fun x s1=>(b.p env s1).bind fun y s2=>.of (o.p x y) s2
 fz:=true
 fr:=o.fr
 ok {q h L B O σ env s} c:=by
  refine (a.ok c).bind fun x v h1 s1 k1 p1 ⟨w1,_,_⟩=>?_;refine (b.ok (c.kb k1 p1)).bind fun y w h2 s2 k2 p2 ⟨w2,_,_⟩=>?_
  cases e:o.p x y with
  | none=>trivial
  | some d =>
   have c2:=(c.kb k1 p1).kb k2 p2;obtain⟨u,g,e1,r,f⟩:=o.ok c2.bd (w1.kb k2 c.pO c.pL) w2 e;exact give (qaw k1.len k2.len) p2 ⟨u,g,by rw[e1];rfl,r,f⟩
def xUn(o:Op1)(a:Xe ws):Xe ws where
 m:=mUn o.m a.m
 p:=fun env s=>(a.p env s).bind fun x s1=>.of (o.p x) s1
 fz:=true
 fr:=o.fr
 ok {q h L B O σ env s} c:=by
  refine (a.ok c).bind fun x v h1 s1 k1 p1 ⟨w1,_,_⟩=>?_
  cases e:o.p x with
  | none=>trivial
  | some d =>
   obtain⟨u,g,e1,r,f⟩:=o.ok (c.kb k1 p1).bd w1 e;exact give k1.len p1 ⟨u,g,by rw[e1];rfl,r,f⟩
def xNil:Xs ws where
 m:=mNil
 p:=fun _ s=>.ok [] s
 fz:=true
 ok {q h L B O σ env s} c:=⟨[],h,rfl,KB.refl _ _,c.pen,rfl,fun _=>rfl⟩
def aa(a:Xe ws)(r:Xs ws):Xs ws where
 m:=ac a.m r.m
 p:=fun env s=>(a.p env s).bind fun x s1=>(r.p env s1).bind fun y s2=>.ok (x::y) s2
 fz:=a.fz && r.fz
 ok {q h L B O σ env s} c:=by
  refine (a.ok c).bind fun x v h1 s1 k1 p1 ⟨w1,z1,_⟩=>?_;refine (r.ok (c.kb k1 p1)).bind fun y w h2 s2 k2 p2 ⟨w2,z2⟩=>?_;refine⟨v::w,h2,rfl,KB.refl _ _,p2,⟨v,w,rfl,w1.kb k2 c.pO c.pL,w2⟩,fun f=>?_⟩;rw[qbT] at f;exact⟨v,w,rfl,(z1 f.1).mv (k2.mv c.pO),z2 f.2⟩
def xCb(o:OpN)(a:Xs ws):Xe ws where
 m:=fun σ h=>(a.m σ h).bind o.k
 p:=fun env s=>(a.p env s).bind fun x s1=>.of (o.p x) s1
 fz:=true
 fr:=o.fr
 ok {q h L B O σ env s} c:=by
  refine (a.ok c).bind fun x v h1 s1 k1 p1 ⟨w1,_⟩=>?_
  cases e:o.p x with
  | none=>trivial
  | some d=>exact give k1.len p1 (o.ok (c.kb k1 p1).bd w1 e)
def aw(f:Fn)(a:Xs ws)(hz:a.fz=true:=by exact ys rfl):Xe ws where
 m:=aF f.m a.m
 p:=fun env s=>(a.p env s).bind f.p
 fz:=true
 fr:=f.fr
 ok {q h L B O σ env s} c:=by
  refine (a.ok c).bind fun x v h1 s1 k1 p1 ⟨_,z⟩=>?_;have c1:=c.kb k1 p1;refine (f.ok c1.bd c1.pO p1 (z hz)).imp fun h' d v kb ⟨r,fr⟩=>⟨.inl r,fun _=>r,fun z=>(fr z).le k1.len⟩
def da:100000<=sizeLine:=by decide
def lw(bd:Bd h O)(r:Rps q h O ds xs)(hl:ds.length<=100000):Gv q h O true (newL xs h) (.lst ds):=by
 have hx:=r.length;have m:Mv O h O (h++[MO.lst xs]):=⟨fun n hn _=>qan hn,fun o ho=>.inl ho⟩
 have m2:Mv O h (h.length::O) (h++[MO.lst xs]):=⟨fun n hn _=>qan hn,fun o ho=>by
  rcases qao.mp ho with z|z
  ·exact .inr (by lia)
  ·exact .inl z⟩
 have g:(h++[MO.lst xs])[h.length]?=some (.lst xs):=by simp
 refine⟨.loc h.length,[.lst xs],?_,⟨_,_,rfl,fun z=>by have:=bd _ z;lia,g,r.mv m⟩,fun _ ds' e=>?_⟩
 ·unfold newL;rw[qai];have:=da;lia
 ·cases e;exact⟨_,_,rfl,qah _,g,r.mv m2⟩
def u6(r:Rps q h O ds xs)(hl:ds.length<=100000):Gv q h O true (newT xs h) (.tup ds):=by
 have hx:=r.length;refine⟨.tup xs,[],?_,?_,fun _ ds' e=>by cases e⟩
 ·unfold newT;rw[qai (by have:=da;lia)];simp
 ·simpa using ⟨xs,rfl,r⟩
def be(a:Xs ws)(hz:a.fz=true:=by exact ys rfl):Xe ws where
 m:=bc a.m
 p:=fun env s=>(a.p env s).bind fun x s1=>if x.length<=100000 then .ok (.lst x) s1 else .bad
 fz:=true
 fr:=true
 ok {q h L B O σ env s} c:=by
  refine (a.ok c).bind fun x v h1 s1 k1 p1 ⟨_,z⟩=>?_;by_cases hl:x.length<=100000
  ·rw[qai hl];exact give k1.len p1 (lw (c.kb k1 p1).bd (z hz) hl)
  ·rw[qal hl];trivial
def ar(a:Xs ws)(hz:a.fz=true:=by exact ys rfl):Xe ws where
 m:=aA a.m
 p:=fun env s=>(a.p env s).bind fun x s1=>if x.length<=100000 then .ok (.tup x) s1 else .bad
 fz:=true
 fr:=true
 ok {q h L B O σ env s} c:=by
  refine (a.ok c).bind fun x v h1 s1 k1 p1 ⟨_,z⟩=>?_;by_cases hl:x.length<=100000
  ·rw[qai hl];exact give k1.len p1 (u6 (z hz) hl)
  ·rw[qal hl];trivial
def xDic:Xe ws where
 m:=mDic
 p:=fun _ s=>.ok .dic s
 fz:=true
 fr:=true
 ok {q h L B O σ env s} c:=by
  have r:Rp q (h++[MO.dic []]) O .dic (.loc h.length):=⟨_,rfl,fun z=>by have:=c.bd _ z;lia,[],by simp⟩;exact⟨.loc h.length,h++[.dic []],rfl,KB.app _ _ _,c.pen.app,.inl r,fun _=>r,fun _ ds e=>by cases e⟩
def Vw.bl(w:Vw q h L O (.bl b) v):v=.bl b:=by
 rcases w with r|⟨n,xs,ds,e,_⟩
 ·exact r
 ·cases e
def PR.bl(r:PR D):PR Bool:=r.bind fun d s=>match d with
 | .bl b=>.ok b s
 | _=>.bad
@[simp] theorem Pl:(PR.ok (D.bl b) s).bl=.ok b s:=rfl
def xB(a:Xe ws):Xt ws where
 m:=mB a.m
 p:=fun env s=>(a.p env s).bl
 ok {q h L B O σ env s} c:=by
  refine (a.ok c).bind fun x v h1 s1 k1 p1 ⟨w,_,_⟩=>?_
  cases x with
  | bl b=>rw[w.bl];exact⟨b,h1,rfl,KB.refl _ _,p1,rfl⟩
  | _=>trivial
def cE(a:Xt ws):Xt ws where
 m:=cx a.m
 p:=fun env s=>(a.p env s).bind fun b s=>.ok (!b) s
 ok {q h L B O σ env s} c:=(a.ok c).bind fun x v h1 s1 k1 p1 e=>⟨!v,h1,rfl,KB.refl _ _,p1,by rw[e]⟩
def xOr(a b:Xt ws):Xt ws where
 m:=mOr a.m b.m
 p:=fun env s=>(a.p env s).bind fun x s=>if x=true then .ok true s else b.p env s
 ok {q h L B O σ env s} c:=(a.ok c).bind fun x v h1 s1 k1 p1 e=>by
  subst e
  cases x with
  | false=>simpa using b.ok (c.kb k1 p1)
  | true=>exact⟨true,h1,rfl,KB.refl _ _,p1,rfl⟩
def xTrue:Xt ws where
 m:=mTrue
 p:=fun _ s=>.ok true s
 ok {q h L B O σ env s} c:=⟨true,h,rfl,KB.refl _ _,c.pen,rfl⟩
def Ok.after{α β:Type}{p:Nat}{h h1:MH}{o:Out β}{r:PR α}{R:MH->α->β->Prop}(k:KB p h h1)(q:Ok p h1 o r R):Ok p h o r R:=by
 cases r with
 | bad=>trivial
 | exc c2 s2=>obtain⟨h2,a1,a2,a3⟩:=q;exact⟨h2,a1,k.trans a2,a3⟩
 | ok d2 s2=>obtain⟨v2,h2,a1,a2,a3,a4⟩:=q;exact⟨v2,h2,a1,k.trans a2,a3,a4⟩
def giveB(pn:cj h q s):Ok q h (.ok (.bl b) h) (.ok (.bl b) s) (fun h' d v=>Vw q h' L O d v/\(true=true->Rp q h' O d v)/\(true=true->Frs q l O h' d v)) :=
 ⟨.bl b,h,rfl,KB.refl _ _,pn,.inl rfl,fun _=>rfl,fun _ ds e=>by cases e⟩
def blOnly(k:Ok q h o r (fun h' d v=>Vw q h' L O d v/\(fz=true->Rp q h' O d v)/\(fr=true->Frs q l' O h' d v))) :
  Ok q h o (r.bl.bind fun b s=>.ok (.bl b) s) (fun h' d v=>Vw q h' L O d v/\(true=true->Rp q h' O d v)/\(true=true->Frs q l O h' d v)):=by
 cases r with
 | bad=>trivial
 | exc c s=>exact k
 | ok d s =>
  obtain⟨v,h',e,kb,pn,w,_,_⟩:=k
  cases d with
  | bl b=>exact⟨v,h',e,kb,pn,w,fun _=>by rw[w.bl];rfl,fun _ ds e=>by cases e⟩
  | _=>trivial
def g8(a b:Xe ws):Xe ws where
 m:=eW a.m b.m
 p:=fun env s=>(a.p env s).bl.bind fun x s=>if x=true then (b.p env s).bl.bind fun y s=>.ok (.bl y) s else .ok (.bl false) s
 fz:=true
 fr:=true
 ok {q h L B O σ env s} c:=by
  have k:=a.ok c;show Ok q h ((a.m σ h).bind _) _ _
  cases e:a.p env s with
  | bad=>trivial
  | exc x s1 =>
   rw[e] at k;obtain⟨h1,e1,k1,p1⟩:=k;rw[e1];exact⟨h1,rfl,k1,p1⟩
  | ok d s1 =>
   rw[e] at k;obtain⟨v,h1,e1,k1,p1,w,_,_⟩:=k
   cases d with
   | bl x =>
    rw[w.bl] at e1;rw[e1]
    cases x with
    | true =>
     exact Ok.after k1 (blOnly (l:=h.length) (b.ok (c.kb k1 p1)))
    | false =>
     obtain⟨v2,h2,a1,a2,a3,a4⟩:=giveB (L:=L) (l:=h.length) (O:=O) (b:=false) p1;exact⟨v2,h2,a1,k1.trans a2,a3,a4⟩
   | _=>trivial
def xNotV(a:Xe ws):Xe ws where
 m:=qI a.m
 p:=fun env s=>(a.p env s).bl.bind fun x s=>.ok (.bl (!x)) s
 fz:=true
 fr:=true
 ok {q h L B O σ env s} c:=by
  have k:=a.ok c;show Ok q h ((a.m σ h).bind _) _ _
  cases e:a.p env s with
  | bad=>trivial
  | exc x s1 =>
   rw[e] at k;obtain⟨h1,e1,k1,p1⟩:=k;rw[e1];exact⟨h1,rfl,k1,p1⟩
  | ok d s1 =>
   rw[e] at k;obtain⟨v,h1,e1,k1,p1,w,_,_⟩:=k
   cases d with
   | bl x =>
    rw[w.bl] at e1;rw[e1];obtain⟨v2,h2,a1,a2,a3,a4⟩:=giveB (L:=L) (l:=h.length) (O:=O) (b:=!x) p1;exact⟨v2,h2,a1,k1.trans a2,a3,a4⟩
   | _=>trivial
def kN(f g:Op2)(a b e:Xe ws):Xe ws where
 m:=fo f.m g.m a.m b.m e.m
 p:=fun env s=>(a.p env s).bind fun x s1=>(b.p env s1).bind fun y s2=>match f.p x y with
  | some (.bl t)=>if t=true then (e.p env s2).bind fun z s3=>.of (g.p y z) s3 else .ok (.bl false) s2
  | _=>.bad
 fz:=true
 fr:=false
 ok {q h L B O σ env s} c:=by
  refine (a.ok c).bind fun x v h1 s1 k1 p1 ⟨w1,_,_⟩=>?_;refine (b.ok (c.kb k1 p1)).bind fun y w h2 s2 k2 p2 ⟨w2,_,_⟩=>?_;have c2:=(c.kb k1 p1).kb k2 p2
  cases e1:f.p x y with
  | none=>trivial
  | some d =>
   cases d with
   | bl t =>
    obtain⟨u,gg,e2,r,_⟩:=f.ok c2.bd (w1.kb k2 c.pO c.pL) w2 e1;have hu:u=.bl t:=r;subst hu;rw[e2];have k3:=KB.app q h2 gg;have c3:=c2.kb k3 p2.app
    cases t with
    | true =>
     refine Ok.after k3 ?_;show Ok q (h2++gg) ((e.m σ (h2++gg)).bind _) _ _;refine (e.ok c3).bind fun z u h3 s3 k4 p4 ⟨w3,_,_⟩=>?_
     cases e4:g.p y z with
     | none=>trivial
     | some d =>
      obtain⟨u2,g2,e5,r2,_⟩:=g.ok (c3.kb k4 p4).bd ((w2.kb k3 c.pO c.pL).kb k4 c.pO c.pL) w3 e4;refine⟨u2,h3++g2,by rw[e5];rfl,KB.app _ _ _,p4.app,.inl r2,fun _=>r2,fun f=>by simp at f⟩
    | false=>exact⟨.bl false,h2++gg,rfl,k3,p2.app,.inl rfl,fun _=>rfl,fun f=>by simp at f⟩
   | _=>trivial
end
structure Xi (ws:List Nat) where
 m:Mx MIt
 p:aE->Pen->PR (List D)
 fz:Bool
 ok:∀{q h L B O σ env s},Cx q h L B O ws σ env s->Ok q h (m σ h) (p env s) (fun h' ds it=>Rps q h' O ds it.xs/\(∀g∈it.gd,h'[g.1]?=some (.lst g.2)/\g.1≠q)/\(fz=true->∀g∈it.gd,g.1∉O))
inductive GI (q:Nat) (h:MH) (O:List Nat) (ds as:List D) (xs:List PV) (o:Out MIt):Prop
 | mk (it:MIt) (e:o=.ok it h) (r:Rps q h O ds it.xs) (g:∀g∈it.gd,h[g.1]?=some (.lst g.2)/\g.1≠q) (z:Rps q h O as xs->∀g∈it.gd,g.1∉O):GI q h O ds as xs o
structure OpI where
 k:List PV->MH->Out MIt
 p:List D->Option (List D)
 ok:∀{q h L O as xs ds},q<L->q∈O->Bd h O->Vws q h L O as xs->p as=some ds->GI q h O ds as xs (k xs h)
def D.items:D->Option (List D)
 | .lst ds=>some ds
 | .tup ds=>some ds
 | _=>none
@[simp] theorem wX:(D.lst ds).items=some ds:=rfl
@[simp] theorem items_tup:(D.tup ds).items=some ds:=rfl
noncomputable section
variable {ws:List Nat}
def fu(o:OpI)(a:Xs ws):Xi ws where
 m:=fun σ h=>(a.m σ h).bind o.k
 p:=fun env s=>(a.p env s).bind fun x s1=>.of (o.p x) s1
 fz:=a.fz
 ok {q h L B O σ env s} c:=by
  refine (a.ok c).bind fun x v h1 s1 k1 p1 ⟨w,z⟩=>?_
  cases e:o.p x with
  | none=>trivial
  | some ds =>
   obtain⟨it,e1,r,g1,g2⟩:=o.ok c.pL c.pO (c.kb k1 p1).bd w e;exact⟨it,h1,e1,KB.refl _ _,p1,r,g1,fun f=>g2 (z f)⟩
def Vw.seq(hq:q<L)(hO:q∈O)(w:Vw q h L O d v)(e:d.items=some ds):∃xs gd,itAny v h=.ok ⟨xs,gd⟩ h/\Rps q h O ds xs/\(∀g∈gd,h[g.1]?=some (.lst g.2)/\g.1≠q)/\(Rp q h O d v->∀g∈gd,g.1∉O):=by
 have one:∀n xs,h[n]?=some (MO.lst xs)->n≠q->(∀g∈[(n,xs)],h[g.1]?=some (MO.lst g.2)/\g.1≠q):=fun n xs g hn y hy=>by
  have:y=(n,xs):=by simpa using hy
  subst this;exact⟨g,hn⟩
 cases d with
 | lst es =>
  have:es=ds:=by simpa [D.items] using e
  subst this;rcases w with ⟨n,xs,e1,no,g,r⟩|⟨n,xs,es',e0,e1,_,hn,g,r⟩
  ·subst e1;refine⟨xs,[(n,xs)],by simp only[itAny,g],r,one n xs g (fun z=>no (z▸hO)),fun _ y hy=>?_⟩
   have:y=(n,xs):=by simpa using hy
   subst this;exact no
  ·cases e0;subst e1;refine⟨xs,[(n,xs)],by simp only[itAny,g],r,one n xs g (by lia),fun ⟨n',xs',e1,no,_,_⟩ y hy=>?_⟩
   have:y=(n,xs):=by simpa using hy
   subst this;cases e1;exact no
 | tup es =>
  have:es=ds:=by simpa [D.items] using e
  subst this;rcases w with ⟨xs,e1,r⟩|⟨n,xs,es',e0,_⟩
  ·subst e1;exact⟨xs,[],rfl,r,(fun _ hy=>nomatch hy),fun _ _ hy=>nomatch hy⟩
  ·cases e0
 | _=>simp[D.items] at e
def dw(a:Xe ws):Xi ws where
 m:=eG a.m
 p:=fun env s=>(a.p env s).bind fun x s1=>.of x.items s1
 fz:=a.fz
 ok {q h L B O σ env s} c:=by
  refine (a.ok c).bind fun x v h1 s1 k1 p1 ⟨w,z,_⟩=>?_
  cases e:x.items with
  | none=>trivial
  | some ds =>
   obtain⟨xs,gd,e1,r,g1,g2⟩:=w.seq c.pL c.pO e;exact⟨⟨xs,gd⟩,h1,e1,KB.refl _ _,p1,r,g1,fun f=>g2 (z f)⟩
structure Xg (ws:List Nat) where
 m:Mg
 p:D->aE->Option aE
 ok:∀{q h L O σ env d v env'},SR q h L O ws σ env->Rp q h O d v->p d env=some env'->∃σ',m v σ h=.nx σ' h/\SR q h L O ws σ' env'/\∀i∈ws,σ'[i]?=σ[i]?/\env'[i]?=env[i]?
structure Xgs (ws:List Nat) where
 m:Mgs
 p:List D->aE->Option aE
 ok:∀{q h L O σ env ds vs env'},SR q h L O ws σ env->Rps q h O ds vs->p ds env=some env'->∃σ',m vs σ h=.nx σ' h/\SR q h L O ws σ' env'/\∀i∈ws,σ'[i]?=σ[i]?/\env'[i]?=env[i]?
def SR.set(r:SR q h L O ws σ env)(hi:i∉ws)(w:Rp q h O d v):SR q h L O ws (σ.set i (some v)) (env.set i (some d))/\∀j∈ws,(σ.set i (some v))[j]?=σ[j]?/\(env.set i (some d))[j]?=env[j]?:=by
 have ne:∀j∈ws,i≠j:=fun j hj z=>hi (z▸hj);refine⟨⟨by simp[r.len],fun j e hj hw=>?_,fun j e hj hw=>?_⟩,fun j hj=>⟨qaj (ne j hj),qaj (ne j hj)⟩⟩
 ·by_cases z:i=j
  ·subst z;have hl:i<env.length:=by
    have:=(qag.mp hj).1;simpa using this
   rw[qat hl] at hj;cases hj;exact⟨v,qat (by rw[r.len];exact hl),w⟩
  ·rw[qaj z] at hj;obtain⟨u,e1,q1⟩:=r.fz j e hj hw;exact⟨u,by rw[qaj z];exact e1,q1⟩
 ·rw[qaj (ne j hw)] at hj;obtain⟨n,xs,ds,e1,e2,rest⟩:=r.ow j e hj hw;exact⟨n,xs,ds,e1,by rw[qaj (ne j hw)];exact e2,rest⟩
def xNm(i:Nat)(hi:ws.contains i=false:=by exact ys rfl):Xg ws where
 m:=gNm i
 p:=fun d env=>some (env.set i (some d))
 ok {q h L O σ env d v env'} r w e:=by
  cases e;have hi':i∉ws:=fun z=>by simp[z] at hi
  obtain⟨a,b⟩:=r.set hi' w;exact⟨_,rfl,a,b⟩
def xGl:Xgs ws where
 m:=gNl
 p:=fun ds env=>match ds with
  | []=>some env
  | _=>none
 ok {q h L O σ env ds vs env'} r w e:=by
  cases ds with
  | nil =>
   cases e
   have:vs=[]:=w
   subst this;exact⟨σ,rfl,r,fun _ _=>⟨rfl,rfl⟩⟩
  | cons _ _=>cases e
def xGc(a:Xg ws)(t:Xgs ws):Xgs ws where
 m:=gCn a.m t.m
 p:=fun ds env=>match ds with
  | d::ds=>(a.p d env).bind fun env1=>t.p ds env1
  | []=>none
 ok {q h L O σ env ds vs env'} r w e:=by
  cases ds with
  | nil=>cases e
  | cons d ds =>
   obtain⟨x,y,rfl,r1,r2⟩:=w;dsimp only at e
   cases e1:a.p d env with
   | none=>rw[e1] at e;cases e
   | some env1 =>
    rw[e1] at e;obtain⟨σ1,f1,s1,k1⟩:=a.ok r r1 e1;obtain⟨σ2,f2,s2,k2⟩:=t.ok s1 r2 e;exact⟨σ2,by show (a.m x σ h).then (t.m y)=_;rw[f1];exact f2,s2,fun i hi=>⟨(k2 i hi).1.trans (k1 i hi).1,(k2 i hi).2.trans (k1 i hi).2⟩⟩
def xGp(t:Xgs ws)(n:Nat):Xg ws where
 m:=gTp t.m n
 p:=fun d env=>match d with
  | .tup ds=>if ds.length=n then t.p ds env else none
  | _=>none
 ok {q h L O σ env d v env'} r w e:=by
  cases d with
  | tup ds =>
   obtain⟨xs,rfl,w⟩:=w;dsimp only at e;by_cases z:ds.length=n
   ·rw[qai z] at e;obtain⟨σ',a,b⟩:=t.ok r w e;exact⟨σ',by show (if xs.length=n then t.m xs σ h else .bad)=_;rw[qai (by rw[w.length];exact z)];exact a,b⟩
   ·rw[qal z] at e;cases e
  | _=>cases e
def cws(nv:Nat)(fm ws:List Nat):List Nat:=((List.range fm.length).filter fun j=>ws.contains (fm.getD j 0)).map (nv+·)
def cenv(nv:Nat)(fm:List Nat)(env:aE):aE:=List.replicate nv none++fm.map fun i=>(env[i]?).getD none
def PR.ne{α:Type}(r:PR α):PR α:=match r with
 | .exc _ _=>.bad
 | r=>r
@[simp] theorem PR.ne_ok(a:α)(s:Pen):(PR.ok a s).ne=.ok a s:=rfl
def dJ(g:D->aE->Option aE)(t:aE->Pen->PR Bool)(e:aE->Pen->PR D):List D->aE->Pen->PR (List D)
 | [],_,s=>.ok [] s
 | d::ds,env,s=>match g d env with
  | none=>.bad
  | some env1=>(t env1 s).bind fun b s1=>if b=true then (e env1 s1).bind fun x s2=>(dJ g t e ds env1 s2).bind fun r s3=>.ok (x::r) s3 else dJ g t e ds env1 s1
def cget{nv:Nat}{fm:List Nat}{α:Type}{env:List (Option α)}{i:Nat}{d:α}(e:(List.replicate nv none++fm.map fun i=>(env[i]?).getD none)[i]?=some (some d)):∃j k,i=nv+j/\fm[j]?=some k/\env[k]?=some (some d):=by
 by_cases z:i<nv
 ·rw[qan (by simpa using z)] at e;simp[z] at e
 ·rw[qay (by simp;lia)] at e;simp only[qbm,qaz] at e
  cases ek:fm[i - nv]? with
  | none=>rw[ek] at e;cases e
  | some k =>
   rw[ek] at e;simp only[qbB,Option.some.injEq] at e;refine⟨i - nv,k,by lia,ek,?_⟩
   cases z2:env[k]? with
   | none=>rw[z2] at e;cases e
   | some o=>rw[z2] at e;simp at e;rw[e]
def cput{nv:Nat}{fm:List Nat}{α:Type}{σ:List (Option α)}{j k:Nat}{v:α}(e1:fm[j]?=some k)(e2:σ[k]?=some (some v)):(List.replicate nv none++fm.map fun i=>(σ[i]?).getD none)[nv+j]?=some (some v):=by
 rw[qay (by simp)];simp[e1,e2]
def uK(e:fm[j]?=some k):nv+j∈cws nv fm ws↔k∈ws:=by
 have hj:=(qag.mp e).1;have hk:fm.getD j 0=k:=by simp[List.getD,e]
 unfold cws;rw[qaJ];constructor
 ·rintro⟨a,ha,hb⟩
  have:a=j:=by lia
  subst this;rw[qce] at ha
  have:=ha.2
  rw[hk] at this;simpa using this
 ·intro hw;exact⟨j,qce.mpr ⟨qbH.mpr hj,by rw[hk];simpa using hw⟩,rfl⟩
def SR.comp{q:Nat}{h:MH}{L:Nat}{O:List Nat}{σ:PSt}{env:aE}(nv:Nat)(fm:List Nat)(r:SR q h L O ws σ env):SR q h L O (cws nv fm ws) (cSt nv fm σ) (cenv nv fm env):=by
 refine⟨by simp[cSt,cenv],fun i d e hi=>?_,fun i d e hi=>?_⟩
 ·obtain⟨j,k,rfl,e1,e2⟩:=cget e;obtain⟨v,e3,w⟩:=r.fz k d e2 fun z=>hi ((uK e1).mpr z);exact⟨v,cput e1 e3,w⟩
 ·obtain⟨j,k,rfl,e1,e2⟩:=cget e;obtain⟨n,xs,ds,e0,e3,w⟩:=r.ow k d e2 ((uK e1).mp hi);exact⟨n,xs,ds,e0,cput e1 e3,w⟩
def cGo_ok(gt:Xg ws')(t:Xt ws')(e:Xe ws')(hz:e.fz=true)(hq:q<h1.length)(gd:∀g∈it.gd,h1[g.1]?=some (.lst g.2)/\g.1≠q) :
  ∀(ds:List D) (xs:List PV) (env:aE) (σ:PSt) (h:MH) (accD:List D) (acc:List PV) (s:Pen) (r:List D) (s':Pen),(∀i∈ws',∀d,env[i]?=some (some d)->∀n,σ[i]?=some (some (.loc n))->n<h1.length)->KB q h1 h->Cx q h L B (h1.length::O) ws' σ env s->Rps q h (h1.length::O) ds xs->h[h1.length]?=some (.lst acc)->Rps q h (h1.length::O) accD acc->accD.length+ds.length<=100000 ->
  dJ gt.p t.p e.p ds env s=.ok r s'->∃h' zs,cGo it h1.length gt.m t.m e.m xs σ h=.ok () h'/\KB q h1 h'/\cj h' q s'/\h'[h1.length]?=some (.lst zs)/\Rps q h' (h1.length::O) (accD++r) zs:=by
 intro ds
 induction ds with
 | nil =>
  intro xs env σ h accD acc s r s' on kb c rx ga ra hl ep
  have:xs=[]:=rx
  subst this;cases ep;have ok:it.ok h:=fun g hg=>(kb.keep _ (bg (gd g hg).1) (gd g hg).2).trans (gd g hg).1;exact⟨h,acc,by rw[cGo,qai ok],kb,c.pen,ga,by simpa using ra⟩
 | cons d ds ih =>
  intro xs env σ h accD acc s r s' on kb c rx ga ra hl ep;obtain⟨x,xr,rfl,r1,r2⟩:=rx;have ok:it.ok h:=fun g hg=>(kb.keep _ (bg (gd g hg).1) (gd g hg).2).trans (gd g hg).1;rw[dJ] at ep
  cases eg:gt.p d env with
  | none=>rw[eg] at ep;cases ep
  | some env1 =>
   rw[eg] at ep;dsimp only at ep;obtain⟨σ1,f1,sr1,k1⟩:=gt.ok c.sr r1 eg;have on1:∀i∈ws',∀d,env1[i]?=some (some d)->∀n,σ1[i]?=some (some (.loc n))->n<h1.length:=fun i hi d e n z=>on i hi d ((k1 i hi).2▸e) n ((k1 i hi).1▸z);have c1:Cx q h L B (h1.length::O) ws' σ1 env1 s:=⟨c.bd,c.sub,c.bb,c.pb,c.hL,c.pen,sr1⟩;have kt:=t.ok c1
   cases et:t.p env1 s with
   | bad=>rw[et] at ep;cases ep
   | exc _ _=>rw[et] at ep;cases ep
   | ok b s1 =>
    rw[et] at ep kt;obtain⟨b',h2,f2,k2,p2,eb⟩:=kt;subst eb;have c2:=c1.kb k2 p2;have mv2:Mv (h1.length::O) h (h1.length::O) h2:=k2.mv c.pO;have hn:h1.length<h.length:=bg ga;have ga2:h2[h1.length]?=some (.lst acc):=(k2.keep _ hn (by lia)).trans ga;rw[Pb] at ep
    cases b with
    | false =>
     rw[qal (by simp)] at ep;obtain⟨h',zs,a1,a2⟩:=ih xr env1 σ1 h2 accD acc s1 r s' on1 (kb.trans k2) c2 (r2.mv mv2) ga2 (ra.mv mv2) (by simp at hl;lia) ep;refine⟨h',zs,?_,a2⟩;rw[cGo,qai ok,f1];simp only[f2,Out.ne_ok,Out.bind_ok,qac,if_false];exact a1
    | true =>
     rw[qai rfl] at ep;have ke:=e.ok c2
     cases ee:e.p env1 s1 with
     | bad=>rw[ee] at ep;cases ep
     | exc _ _=>rw[ee] at ep;cases ep
     | ok y s2 =>
      rw[ee] at ep ke;obtain⟨v,h3,f3,k3,p3,_,rv,_⟩:=ke;have rv:=rv hz;have c3:=c2.kb k3 p3;have mv3:Mv (h1.length::O) h2 (h1.length::O) h3:=k3.mv c.pO;have ga3:h3[h1.length]?=some (.lst acc):=(k3.keep _ (bg ga2) (by lia)).trans ga2;have mv4:Mv (h1.length::O) h3 (h1.length::O) (h3.set h1.length (.lst (acc++[v]))) :=
       ⟨fun n hn no=>qaj (fun z=>no (by simp[z])),fun o ho=>.inl ho⟩
      have ra3:Rps q h3 (h1.length::O) (accD++[y]) (acc++[v]):=((ra.mv mv2).mv mv3).app ⟨v,[],rfl,rv,rfl⟩;rw[Pb] at ep
      cases er:dJ gt.p t.p e.p ds env1 s2 with
      | bad=>rw[er] at ep;cases ep
      | exc _ _=>rw[er] at ep;cases ep
      | ok r' s3 =>
       rw[er] at ep;cases ep;have k03:KB q h1 h3:=(kb.trans k2).trans k3;have c4:Cx q (h3.set h1.length (.lst (acc++[v]))) L B (h1.length::O) ws' σ1 env1 s2:=by
        refine⟨fun o ho=>by simpa using c3.bd o ho,c3.sub,c3.bb,c3.pb,by simpa using c3.hL,?_,?_⟩
        ·unfold cj;rw[qaj (by lia)];exact p3
        ·refine⟨c3.sr.len,fun i d e hi=>let ⟨v,e1,q1⟩:=c3.sr.fz i d e hi;⟨v,e1,q1.mv mv4⟩,fun i d e hi=>?_⟩;obtain⟨n,ys,es,b1,b2,b3,b4,b5,b6⟩:=c3.sr.ow i d e hi;have z:=on1 i hi d e n b2;exact⟨n,ys,es,b1,b2,b3,b4,by rw[qaj (by lia)];exact b5,b6.mv mv4⟩
       obtain⟨h',zs,a1,a2,a3,a4,a5⟩:=ih xr env1 σ1 (h3.set h1.length (.lst (acc++[v]))) (accD++[y]) (acc++[v]) s2 r' _ on1 ⟨by simpa using k03.len,fun n hn hp=>by rw[qaj (by lia)];exact k03.keep n hn hp⟩ c4 (((r2.mv mv2).mv mv3).mv mv4) (qat (bg ga3)) (ra3.mv mv4) (by simp at hl ⊢;lia) er;refine⟨h',zs,?_,a2,a3,a4,by simpa using a5⟩;rw[cGo,qai ok,f1];simp only[f2,Out.ne_ok,Out.bind_ok,if_true,f3,ga3];rw[qai (by have:=da;have:=ra.length;simp at hl;lia)];exact a1
def cu(nv:Nat)(fm:List Nat)(i:Xi ws){ws':List Nat}(g:Xg ws')(t:Xt ws')(e:Xe ws')(hw:cws nv fm ws=ws':=by exact ys rfl)(hz:e.fz=true:=by exact ys rfl):Xe ws where
 m:=cv nv fm i.m g.m t.m e.m
 p:=fun env s=>(i.p env s).bind fun ds s1=>if ds.length<=100000 then (match dJ g.p t.p e.p ds (cenv nv fm env) s1 with
  | .ok r s2=>.ok (.lst r) s2
  | _=>.bad) else .bad
 fz:=true
 fr:=true
 ok {q h L B O σ env s} c:=by
  subst hw;refine (i.ok c).bind fun ds it h1 s1 k1 p1 ⟨rx,gd,_⟩=>?_;have c1:=c.kb k1 p1;by_cases hl:ds.length<=100000
  ·rw[qai hl]
   cases er:dJ g.p t.p e.p ds (cenv nv fm env) s1 with
   | bad=>trivial
   | exc _ _=>trivial
   | ok r s2 =>
    have mv:Mv O h1 (h1.length::O) (h1++[MO.lst []]):=⟨fun n hn _=>qan hn,fun o ho=>by
     rcases qao.mp ho with z|z
     ·exact .inr (by lia)
     ·exact .inl z⟩
    have sr:=(c1.sr.comp nv fm).mv mv (fun o ho=>qam _ ho) fun n hn _ _=>qan hn;have c2:Cx q (h1++[MO.lst []]) L B (h1.length::O) (cws nv fm ws) (cSt nv fm σ) (cenv nv fm env) s1:=by
     refine⟨fun o ho=>?_,fun o ho=>qam _ (c.sub o ho),c.bb,c.pb,by have:=c1.hL;simp;lia,p1.app,sr⟩;rcases qao.mp ho with z|z
     ·subst z;simp
     ·have:=c1.bd o z;simp;lia
    have hq:q<h1.length:=bg p1
    obtain⟨h',zs,a1,a2,a3,a4,a5⟩:=cGo_ok g t e hz (L:=L) (B:=B) (O:=O) hq gd ds it.xs (cenv nv fm env) (cSt nv fm σ) (h1++[MO.lst []]) [] [] s1 r s2 (fun i hi d ed n en=>by
     obtain⟨n',_,_,_,b2,_,_,b5,_⟩:=(c1.sr.comp nv fm).ow i d ed hi;rw[b2] at en;cases en
     exact bg b5) (KB.app _ _ _) c2 (rx.mv mv) (by simp) rfl (by simpa using hl) er
    have f:Frs q h.length O h' (.lst r) (.loc h1.length):=fun ds e=>by
     cases e;exact⟨_,zs,rfl,k1.len,a4,by simpa using a5⟩
    have rr:=f.rp c.bd rfl;exact⟨.loc h1.length,h',by show (cGo _ _ _ _ _ _ _ _).bind _=_;rw[a1];rfl,a2,a3,.inl rr,fun _=>rr,fun _=>f⟩
  ·rw[qal hl];trivial
end
end PU
namespace PU
open PySem MM
local instance (priority:=1) cdecN4 (p:Prop):Decidable p:=Classical.propDecidable p
inductive PS where
 | nx (e:aE) (s:Pen)
 | rt (d:D) (s:Pen)
 | bk (e:aE) (s:Pen)
 | ct (e:aE) (s:Pen)
 | exc (c:Str) (e:aE) (s:Pen)
 | rse (c:Str) (e:aE) (s:Pen)
 | bad
structure Stp (q L:Nat) (h:MH) (O:List Nat) (h':MH) (O':List Nat):Prop where
 len:h.length<=h'.length
 mv:Mv O h O' h'
 sub:∀o∈O,o∈O'
 base:∀n:Nat,n<L->n≠q->h'[n]?=h[n]?
def Stp.refl(q L:Nat)(h:MH)(O:List Nat):Stp q L h O h O:=⟨qah _,⟨fun _ _ _=>rfl,fun _ h=>.inl h⟩,fun _ h=>h,fun _ _ _=>rfl⟩
def Stp.trans(a:Stp q L h O h1 O1)(b:Stp q L h1 O1 h2 O2):Stp q L h O h2 O2:=by
 refine⟨qaw a.len b.len,⟨fun n hn no=>?_,fun o ho=>?_⟩,fun o ho=>b.sub o (a.sub o ho),fun n hn hq=>(b.base n hn hq).trans (a.base n hn hq)⟩
 ·have n1:n∉O1:=fun z=>by
   rcases a.mv.new n z with q|q
   ·exact no q
   ·lia
  exact (b.mv.keep n (qav hn a.len) n1).trans (a.mv.keep n hn no)
 ·rcases b.mv.new o ho with z|z
  ·exact a.mv.new o z
  ·exact .inr (qaw a.len z)
def Dis(ws:List Nat)(σ:PSt)(env:aE):Prop:=∀i j,i∈ws->j∈ws->i≠j->∀d d' n,env[i]?=some (some d)->env[j]?=some (some d')->σ[i]?=some (some (.loc n))->σ[j]?≠some (some (.loc n))
inductive Nxt (q L:Nat) (h:MH) (B O ws:List Nat) (σ':PSt) (h':MH) (env:aE) (s:Pen):Prop
 | mk (O':List Nat) (a:Stp q L h O h' O') (c:Cx q h' L B O' ws σ' env s) (d:Dis ws σ' env):Nxt q L h B O ws σ' h' env s
inductive SNx (q L:Nat) (h:MH) (B O ws:List Nat) (f:PSt->MH->SOut) (o:SOut) (env:aE) (s:Pen):Prop
 | mk (σ':PSt) (h':MH) (e:o=f σ' h') (n:Nxt q L h B O ws σ' h' env s):SNx q L h B O ws f o env s
inductive SRt (q L:Nat) (h:MH) (B:List Nat) (fr:Bool) (o:SOut) (d:D) (s:Pen):Prop
 | mk (v:PV) (h':MH) (e:o=.rt v h') (l:h.length<=h'.length) (b:∀n:Nat,n<L->n≠q->h'[n]?=h[n]?) (p:cj h' q s) (r:Rp q h' B d v) (f:fr=true->Frs q L B h' d v):SRt q L h B fr o d s
def SOk(q L:Nat)(h:MH)(B O ws:List Nat)(fr:Bool)(o:SOut)(r:PS):Prop:=match r with
 | .nx env s=>SNx q L h B O ws .nx o env s
 | .bk env s=>SNx q L h B O ws .bk o env s
 | .ct env s=>SNx q L h B O ws .ct o env s
 | .exc c env s=>SNx q L h B O ws (.exc ⟨c,[]⟩) o env s
 | .rse c env s=>SNx q L h B O ws (.rse ⟨c,[]⟩) o env s
 | .rt d s=>SRt q L h B fr o d s
 | .bad=>True
structure Xd (ws:List Nat) where
 m:Mst
 p:aE->Pen->PS
 fr:Bool
 ok:∀{q h L B O σ env s},Cx q h L B O ws σ env s->Dis ws σ env->SOk q L h B O ws fr (m σ h) (p env s)
def Nxt.after(a:Stp q L h O h1 O1)(n:Nxt q L h1 B O1 ws σ' h' env s):Nxt q L h B O ws σ' h' env s :=
 let ⟨O',b,c,d⟩:=n;⟨O',a.trans b,c,d⟩
def SOk.after(a:Stp q L h O h1 O1)(k:SOk q L h1 B O1 ws fr o r):SOk q L h B O ws fr o r:=by
 cases r with
 | nx env s=>obtain⟨σ',h',e,n⟩:=k;exact⟨σ',h',e,n.after a⟩
 | bk env s=>obtain⟨σ',h',e,n⟩:=k;exact⟨σ',h',e,n.after a⟩
 | ct env s=>obtain⟨σ',h',e,n⟩:=k;exact⟨σ',h',e,n.after a⟩
 | exc c env s=>obtain⟨σ',h',e,n⟩:=k;exact⟨σ',h',e,n.after a⟩
 | rse c env s=>obtain⟨σ',h',e,n⟩:=k;exact⟨σ',h',e,n.after a⟩
 | rt d s=>obtain⟨v,h',e,l,b,r1,r2,r3⟩:=k;exact⟨v,h',e,qaw a.len l,fun n hn hq=>(b n hn hq).trans (a.base n hn hq),r1,r2,r3⟩
 | bad=>trivial
def SOk.fr(hf:f'=true->f=true)(k:SOk q L h B O ws f o r):SOk q L h B O ws f' o r:=by
 cases r with
 | rt d s=>obtain⟨v,h',e,l,b,p,r,z⟩:=k;exact⟨v,h',e,l,b,p,r,fun y=>z (hf y)⟩
 | nx env s=>exact k
 | bk env s=>exact k
 | ct env s=>exact k
 | exc c env s=>exact k
 | rse c env s=>exact k
 | bad=>trivial
def KB.stp(c:Cx q h L B O ws σ env s)(k:KB q h h'):Stp q L h O h' O :=
 ⟨k.len,k.mv c.pO,fun _ h=>h,fun n hn hq=>k.keep n (qav hn c.hL) hq⟩
def PR.go{α:Type}(r:PR α)(env:aE)(k:α->aE->Pen->PS):PS:=match r with
 | .ok a s=>k a env s
 | .exc c s=>.exc c env s
 | .bad=>.bad
@[simp] theorem Pg(a:α)(s:Pen)(env:aE)(k:α->aE->Pen->PS):(PR.ok a s).go env k=k a env s:=rfl
@[simp] theorem PR.go_exc(c:Str)(s:Pen)(env:aE)(k:α->aE->Pen->PS):(PR.exc c s:PR α).go env k=.exc c env s:=rfl
@[simp] theorem PR.go_bad(env:aE)(k:α->aE->Pen->PS):(PR.bad:PR α).go env k=.bad:=rfl
theorem SOk.ex{α β:Type}{q L:Nat}{h:MH}{B O ws:List Nat}{fr:Bool}{σ:PSt}{env:aE}{s:Pen}{o:Out β}{r:PR α}{R:MH->α->β->Prop}{f:β->Mst}{g:α->aE->Pen->PS}(c:Cx q h L B O ws σ env s)(d:Dis ws σ env)(k:Ok q h o r R)
  (n:∀a b h1 s1,KB q h h1->Cx q h1 L B O ws σ env s1->R h1 a b->SOk q L h1 B O ws fr (f b σ h1) (g a env s1)) :
  SOk q L h B O ws fr (o.go σ f) (r.go env g):=by
 cases r with
 | ok a s1 =>
  obtain⟨b,h1,rfl,kb,pn,rr⟩:=k;exact (n a b h1 s1 kb (c.kb kb pn) rr).after (kb.stp c)
 | exc x s1 =>
  obtain⟨h1,rfl,kb,pn⟩:=k;exact⟨σ,h1,rfl,O,kb.stp c,c.kb kb pn,d⟩
 | bad=>trivial
noncomputable section
variable {ws:List Nat}
def PS.then(r:PS)(k:aE->Pen->PS):PS:=match r with
 | .nx env s=>k env s
 | r=>r
@[simp] theorem aq:(PS.nx env s).then k=k env s:=rfl
@[simp] theorem then_rt:(PS.rt d s).then k=.rt d s:=rfl
@[simp] theorem then_bk:(PS.bk env s).then k=.bk env s:=rfl
@[simp] theorem then_ct:(PS.ct env s).then k=.ct env s:=rfl
@[simp] theorem zu:(PS.exc c env s).then k=.exc c env s:=rfl
@[simp] theorem zk:(PS.rse c env s).then k=.rse c env s:=rfl
@[simp] theorem zq:PS.bad.then k=.bad:=rfl
def aL(a b:Xd ws):Xd ws where
 m:=aD a.m b.m
 p:=fun env s=>(a.p env s).then b.p
 fr:=a.fr && b.fr
 ok {q h L B O σ env s} c d:=by
  have k:=a.ok c d;show SOk q L h B O ws _ ((a.m σ h).then b.m) _
  cases e:a.p env s with
  | nx env1 s1 =>
   rw[e] at k;obtain⟨σ1,h1,e1,O1,st,c1,d1⟩:=k;rw[e1];exact ((b.ok c1 d1).fr (by simp)).after st
  | rt x s1=>rw[e] at k;obtain⟨v,h',e1,r1,r2,r3,r4,r5⟩:=k;rw[e1];exact SOk.fr (f:=a.fr) (by simp;exact fun h _=>h) (show SOk q L h B O ws a.fr (.rt v h') (.rt x s1) from⟨v,h',rfl,r1,r2,r3,r4,r5⟩)
  | bk env1 s1=>rw[e] at k;obtain⟨σ',h',e1,r⟩:=k;rw[e1];exact⟨σ',h',rfl,r⟩
  | ct env1 s1=>rw[e] at k;obtain⟨σ',h',e1,r⟩:=k;rw[e1];exact⟨σ',h',rfl,r⟩
  | exc x env1 s1=>rw[e] at k;obtain⟨σ',h',e1,r⟩:=k;rw[e1];exact⟨σ',h',rfl,r⟩
  | rse x env1 s1=>rw[e] at k;obtain⟨σ',h',e1,r⟩:=k;rw[e1];exact⟨σ',h',rfl,r⟩
  | bad=>trivial
def xSkip:Xd ws where
 m:=mSkip
 p:=.nx
 fr:=true
 ok {q h L B O σ env s} c d:=⟨σ,h,rfl,O,Stp.refl _ _ _ _,c,d⟩
def ret_go{m:Mx PV}{σ:PSt}{h:MH}:aN m σ h=(m σ h).go σ fun v _ h'=>.rt v h':=by unfold aN;cases m σ h <;> rfl
def bi(e:Xe ws):Xd ws where
 m:=aN e.m
 p:=fun env s=>(e.p env s).go env fun d _ s=>.rt d s
 fr:=e.fr
 ok {q h L B O σ env s} c d:=by
  rw[ret_go];refine SOk.ex (f:=fun v _ h'=>.rt v h') (g:=fun d _ s=>.rt d s) c d (e.ok c) fun x v h1 s1 kb c1 ⟨w,z,f⟩=>?_;refine⟨v,h1,rfl,qah _,fun _ _ _=>rfl,c1.pen,w.base c1.sub c1.bb,fun y=>?_⟩;intro ds ed;obtain⟨n,xs,a1,a2,a3,a4⟩:=f y ds ed
  have:=c.hL
  exact⟨n,xs,a1,by lia,a3,a4.mv ⟨fun _ _ _=>rfl,fun o ho=>.inl (by
   rcases qao.mp ho with z|z
   ·subst z;simp
   ·exact qam _ (c.sub o z))⟩⟩
def wB(i:Nat)(hi:ws.contains i=true:=by exact ys rfl):Xd ws where
 m:=aN (ag i)
 p:=fun env s=>match env[i]? with
  | some (some d)=>.rt d s
  | _=>.bad
 fr:=true
 ok {q h L B O σ env s} c d:=by
  show SOk q L h B O ws _ _ (match env[i]? with | some (some d)=>PS.rt d s | _=>.bad)
  cases e:env[i]? with
  | none=>trivial
  | some o =>
   cases o with
   | none=>trivial
   | some x =>
    obtain⟨n,xs,ds,e1,e2,a,b,g,r⟩:=c.sr.ow i x e (by simpa using hi);subst e1
    have m1:Mv O h (n::B) h:=⟨fun _ _ _=>rfl,fun o ho=>.inl (by
     rcases qao.mp ho with z|z
     ·subst z;exact a
     ·exact c.sub o z)⟩
    have f:Frs q L B h (.lst ds) (.loc n):=fun ds' e=>by cases e;exact⟨n,xs,rfl,b,g,r.mv m1⟩
    refine⟨.loc n,h,by simp[aN,ag,e2],qah _,fun _ _ _=>rfl,c.pen,f.rp c.bb rfl,fun _=>f⟩
def jI(e:Xe ws):Xd ws where
 m:=eV e.m
 p:=fun env s=>(e.p env s).go env fun _=>.nx
 fr:=true
 ok {q h L B O σ env s} c d:=SOk.ex (f:=fun _=>mSkip) (g:=fun _=>.nx) c d (e.ok c) fun x v h1 s1 kb c1 _=>⟨σ,h1,rfl,O,Stp.refl _ _ _ _,c1,d⟩
def xIf(t:Xt ws)(a b:Xd ws):Xd ws where
 m:=mIf t.m a.m b.m
 p:=fun env s=>(t.p env s).go env fun x env s=>if x=true then a.p env s else b.p env s
 fr:=a.fr && b.fr
 ok {q h L B O σ env s} c d:=SOk.ex (f:=fun x=>if x=true then a.m else b.m) (g:=fun x env s=>if x=true then a.p env s else b.p env s) c d (t.ok c) fun x v h1 s1 kb c1 e=>by
  subst e
  cases x with
  | true=>exact (a.ok c1 d).fr (by simp;exact fun h _=>h)
  | false=>exact (b.ok c1 d).fr (by simp)
def Dis.keep(d:Dis ws σ env)(k:∀i∈ws,σ'[i]?=σ[i]?/\env'[i]?=env[i]?):Dis ws σ' env':=fun i j hi hj ne x y n a b e=>by
 rw[(k i hi).1] at e;rw[(k i hi).2] at a;rw[(k j hj).2] at b;rw[(k j hj).1];exact d i j hi hj ne x y n a b e
def bB(i:Nat)(e:Xe ws)(hi:ws.contains i=false:=by exact ys rfl)(hz:e.fz=true:=by exact ys rfl):Xd ws where
 m:=aW i e.m
 p:=fun env s=>(e.p env s).go env fun d env s=>.nx (env.set i (some d)) s
 fr:=true
 ok {q h L B O σ env s} c d:=by
  refine SOk.ex (f:=fun v σ h=>.nx (σ.set i (some v)) h) (g:=fun d env s=>.nx (env.set i (some d)) s) c d (e.ok c) fun x v h1 s1 kb c1 ⟨_,z,_⟩=>?_;obtain⟨a,b⟩:=c1.sr.set (i:=i) (fun z=>by simp[z] at hi) (z hz);exact⟨_,h1,rfl,O,Stp.refl _ _ _ _,⟨c1.bd,c1.sub,c1.bb,c1.pb,c1.hL,c1.pen,a⟩,d.keep b⟩
def g7(i:Nat)(e:Xe ws)(hi:ws.contains i=true:=by exact ys rfl)(hz:e.fr=true:=by exact ys rfl):Xd ws where
 m:=aW i e.m
 p:=fun env s=>(e.p env s).go env fun d env s=>match d with
  | .lst ds=>.nx (env.set i (some (.lst ds))) s
  | _=>.bad
 fr:=true
 ok {q h L B O σ env s} c d:=by
  show SOk q L h B O ws _ _ _;have k:=e.ok c;show SOk q L h B O ws _ ((e.m σ h).go σ fun v σ h=>.nx (σ.set i (some v)) h) _
  cases ee:e.p env s with
  | bad=>trivial
  | exc x s1 =>
   rw[ee] at k;obtain⟨h1,e1,kb,pn⟩:=k;rw[e1];exact⟨σ,h1,rfl,O,kb.stp c,c.kb kb pn,d⟩
  | ok x s1 =>
   rw[ee] at k;obtain⟨v,h1,e1,kb,pn,_,_,f⟩:=k;rw[e1]
   cases x with
   | lst ds =>
    obtain⟨n,xs,rfl,hn,g,r⟩:=f hz ds rfl;have c1:=c.kb kb pn;have hi':i∈ws:=by simpa using hi
    have mv:Mv O h (n::O) h1:=⟨fun m hm no=>kb.keep m hm fun z=>no (z▸c.pO),fun o ho=>by
     rcases qao.mp ho with z|z
     ·exact .inr (by lia)
     ·exact .inl z⟩
    have hnO:n∉O:=fun z=>by have:=c.bd n z;lia
    refine⟨σ.set i (some (.loc n)),h1,rfl,n::O,⟨kb.len,mv,fun o ho=>qam _ ho,fun m hm hq=>kb.keep m (qav hm c.hL) hq⟩,⟨fun o ho=>?_,fun o ho=>qam _ (c.sub o ho),c.bb,c.pb,c1.hL,pn,?_⟩,?_⟩
    ·rcases qao.mp ho with z|z
     ·subst z;exact bg g
     ·exact c1.bd o z
    ·have sr:=c.sr.mv mv (fun o ho=>qam _ ho) fun m hm hl _=>kb.keep m hm (by have:=c.pL;lia);refine⟨by simp[sr.len],fun j x ej hj=>?_,fun j x ej hj=>?_⟩
     ·have ne:i≠j:=fun z=>hj (z▸hi');rw[qaj ne] at ej;rw[qaj ne];exact sr.fz j x ej hj
     ·by_cases z:i=j
      ·subst z;have hl:i<env.length:=by have:=(qag.mp ej).1;simpa using this
       rw[qat hl] at ej;cases ej;exact⟨n,xs,ds,rfl,qat (by rw[sr.len];exact hl),by simp,by have:=c.hL;lia,g,r⟩
      ·rw[qaj z] at ej;rw[qaj z];exact sr.ow j x ej hj
    ·have old:∀j d,j∈ws->i≠j->(env.set i (some (.lst ds)))[j]?=some (some d)->(σ.set i (some (.loc n)))[j]?≠some (some (.loc n)):=fun j d hj ne ej z=>by
      rw[qaj ne] at ej z;obtain⟨n',_,_,_,b2,b3,_⟩:=c.sr.ow j d ej hj;rw[z] at b2;cases b2;exact hnO b3
     intro a b ha hb ne x y m ea eb es;by_cases z1:i=a
     ·subst z1;have hl:i<σ.length:=by have:=(qag.mp es).1;simpa using this
      rw[qat hl] at es;cases es;exact old b y hb ne eb
     ·by_cases z2:i=b
      ·subst z2;intro z;have hl:i<σ.length:=by have:=(qag.mp z).1;simpa using this
       rw[qat hl] at z;cases z;exact old a x ha z1 ea es
      ·rw[qaj z1] at ea es;rw[qaj z2] at eb ⊢;exact d a b ha hb ne x y m ea eb es
   | _=>trivial
def sk(e:Xe ws)(g:Xg ws)(hz:e.fz=true:=by exact ys rfl):Xd ws where
 m:=mF e.m g.m
 p:=fun env s=>(e.p env s).go env fun d env s=>match g.p d env with
  | some env1=>.nx env1 s
  | none=>.bad
 fr:=true
 ok {q h L B O σ env s} c d:=by
  refine SOk.ex (f:=fun v σ h=>match g.m v σ h with | .nx σ2 h2=>.nx σ2 h2 | .exc x σ2 h2=>.exc x σ2 h2 | _=>.bad) (g:=fun d env s=>match g.p d env with | some env1=>.nx env1 s | none=>.bad) c d (e.ok c) fun x v h1 s1 kb c1 ⟨_,z,_⟩=>?_
  cases eg:g.p x env with
  | none=>trivial
  | some env1 =>
   obtain⟨σ1,f1,sr,k⟩:=g.ok c1.sr (z hz) eg;rw[f1];exact⟨σ1,h1,rfl,O,Stp.refl _ _ _ _,⟨c1.bd,c1.sub,c1.bb,c1.pb,c1.hL,c1.pen,sr⟩,d.keep k⟩
def nP(x:Str)(a:Xs ws):Xd ws where
 m:=gq x a.m
 p:=fun env s=>(a.p env s).go env fun ds env s=>if ds.length<=100000 then .rse x env s else .bad
 fr:=true
 ok {q h L B O σ env s} c d:=by
  refine SOk.ex (f:=fun (vs:List PV) σ h=>if vs.length<=sizeLine then .rse ⟨x,[]⟩ σ h else .bad) (g:=fun (ds:List D) env s=>if ds.length<=100000 then .rse x env s else .bad) c d (a.ok c) fun ds vs h1 s1 kb c1 ⟨w,_⟩=>?_;have hl:∀{ds:List D} {vs:List PV},Vws q h1 L O ds vs->vs.length=ds.length:=by
   intro ds
   induction ds with
   | nil=>intro vs w;rw[show vs=[] from w];rfl
   | cons d ds ih=>intro vs w;obtain⟨x,r,e,_,b⟩:=w;rw[e,qaQ,qaQ,ih b]
  by_cases z:ds.length<=100000
  ·rw[qai z,qai (by have:=da;rw[hl w];lia)];exact⟨σ,h1,rfl,O,Stp.refl _ _ _ _,c1,d⟩
  ·rw[qal z];trivial
def xTry(cs:List Str)(iy inn:Nat)(b:Xd ws)(h1:ws.contains iy=false:=by exact ys rfl)(h2:ws.contains inn=false:=by exact ys rfl):Xd ws where
 m:=tR cs iy inn b.m
 p:=fun env s=>match b.p env s with
  | .exc c e s=>if c∈cs then .nx (((e.set inn (some (.exc c))).set iy (some (.exc c))).set inn none) s else .bad
  | .rse _ _ _=>.bad
  | r=>r
 fr:=b.fr
 ok {q h L B O σ env s} c d:=by
  have k:=b.ok c d
  show SOk q L h B O ws _ (match b.m σ h with
   | .exc x σ1 h1=>if x.fs=[]/\x.cls∈cs then .nx (((σ1.set inn (some (.loc h1.length))).set iy (some (.loc h1.length))).set inn none) (h1++[.exc x]) else .bad
   | .rse _ _ _=>.bad
   | o=>o) (match b.p env s with
   | .exc c e s=>if c∈cs then PS.nx (((e.set inn (some (.exc c))).set iy (some (.exc c))).set inn none) s else .bad
   | .rse _ _ _=>.bad
   | r=>r)
  cases e:b.p env s with
  | nx env1 s1=>rw[e] at k;obtain⟨σ',h',e1,r⟩:=k;rw[e1];exact⟨σ',h',rfl,r⟩
  | rt x s1=>rw[e] at k;obtain⟨v,h',e1,r1,r2,r3,r4,r5⟩:=k;rw[e1];exact⟨v,h',rfl,r1,r2,r3,r4,r5⟩
  | bk env1 s1=>rw[e] at k;obtain⟨σ',h',e1,r⟩:=k;rw[e1];exact⟨σ',h',rfl,r⟩
  | ct env1 s1=>rw[e] at k;obtain⟨σ',h',e1,r⟩:=k;rw[e1];exact⟨σ',h',rfl,r⟩
  | rse x env1 s1=>trivial
  | bad=>trivial
  | exc x env1 s1 =>
   rw[e] at k;obtain⟨σ',h',e1,O',st,c',d'⟩:=k;rw[e1];dsimp only;by_cases z:x∈cs
   ·rw[qai z,qai ⟨rfl,z⟩];have kb:=KB.app q h' [MO.exc ⟨x,[]⟩];have c2:=c'.kb kb c'.pen.app;have r:Rp q (h'++[MO.exc ⟨x,[]⟩]) O' (.exc x) (.loc h'.length):=⟨_,rfl,fun z=>by have:=c'.bd _ z;lia,by simp⟩;have n1:inn∉ws:=fun z=>by simp[z] at h2
    have n2:iy∉ws:=fun z=>by simp[z] at h1
    obtain⟨a1,b1⟩:=c2.sr.set n1 r;obtain⟨a2,b2⟩:=a1.set n2 r;have ne:∀j∈ws,inn≠j:=fun j hj z=>n1 (z▸hj);have a3:SR q (h'++[MO.exc ⟨x,[]⟩]) L O' ws (((σ'.set inn (some (.loc h'.length))).set iy (some (.loc h'.length))).set inn none) (((env1.set inn (some (.exc x))).set iy (some (.exc x))).set inn none):=by
     refine⟨by simp[a2.len],fun j y ej hj=>?_,fun j y ej hj=>?_⟩
     ·by_cases z:inn=j
      ·subst z;have hl:inn<((env1.set inn (some (D.exc x))).set iy (some (D.exc x))).length:=by have:=(qag.mp ej).1;simpa using this
       rw[qat hl] at ej;cases ej
      ·rw[qaj z] at ej;rw[qaj z];exact a2.fz j y ej hj
     ·rw[qaj (ne j hj)] at ej;rw[qaj (ne j hj)];exact a2.ow j y ej hj
    refine⟨_,_,rfl,O',st.trans (kb.stp c'),⟨c2.bd,c2.sub,c2.bb,c2.pb,c2.hL,c2.pen,a3⟩,d'.keep fun j hj=>?_⟩;have nj:inn≠j:=ne j hj;refine⟨?_,?_⟩
    ·rw[qaj nj,(b2 j hj).1,(b1 j hj).1]
    ·rw[qaj nj,(b2 j hj).2,(b1 j hj).2]
   ·rw[qal z];trivial
end
end PU
namespace PU
open PySem MM
open L2 (ixN)
local instance (priority:=1) cdecN5 (p:Prop):Decidable p:=Classical.propDecidable p
noncomputable section
variable {ws:List Nat}
def PS.turn(r:PS)(k:aE->Pen->PS):PS:=match r with
 | .nx e s=>k e s
 | .ct e s=>k e s
 | .bk e s=>.nx e s
 | r=>r
@[simp] theorem turn_nx:(PS.nx e s).turn k=k e s:=rfl
@[simp] theorem turn_ct:(PS.ct e s).turn k=k e s:=rfl
@[simp] theorem turn_bk:(PS.bk e s).turn k=.nx e s:=rfl
@[simp] theorem turn_rt:(PS.rt d s).turn k=.rt d s:=rfl
@[simp] theorem yW:(PS.exc c e s).turn k=.exc c e s:=rfl
@[simp] theorem yZ:(PS.rse c e s).turn k=.rse c e s:=rfl
@[simp] theorem turn_bad:PS.bad.turn k=.bad:=rfl
def pGo(g:D->aE->Option aE)(b:aE->Pen->PS):List D->aE->Pen->PS
 | [],env,s=>.nx env s
 | d::ds,env,s=>match g d env with
  | none=>.bad
  | some env1=>(b env1 s).turn (pGo g b ds)
def mGo_ok(g:Xg ws)(b:Xd ws):∀(ds:List D) (xs:List PV) (env:aE) (σ:PSt) (h:MH) (O:List Nat) (s:Pen),Cx q h L B O ws σ env s->Dis ws σ env->Rps q h O ds xs->(∀y∈it.gd,h[y.1]?=some (.lst y.2)/\y.1∉O) ->
  SOk q L h B O ws b.fr (mGo it g.m b.m xs σ h) (pGo g.p b.p ds env s):=by
 intro ds
 induction ds with
 | nil =>
  intro xs env σ h O s c d r gd
  have:xs=[]:=r
  subst this;have ok:it.ok h:=fun y hy=>(gd y hy).1;refine⟨σ,h,by rw[mGo];dsimp only;rw[qai ok],O,Stp.refl _ _ _ _,c,d⟩
 | cons x ds ih =>
  intro xs env σ h O s c d r gd;obtain⟨v,xr,rfl,r1,r2⟩:=r;have ok:it.ok h:=fun y hy=>(gd y hy).1;rw[pGo]
  cases eg:g.p x env with
  | none=>trivial
  | some env1 =>
   obtain⟨σ1,f1,sr,k⟩:=g.ok c.sr r1 eg;have c1:Cx q h L B O ws σ1 env1 s:=⟨c.bd,c.sub,c.bb,c.pb,c.hL,c.pen,sr⟩;have kb:=b.ok c1 (d.keep k)
   have em:mGo it g.m b.m (v::xr) σ h=(match b.m σ1 h with
    | .nx σ2 h2=>mGo it g.m b.m xr σ2 h2
    | .ct σ2 h2=>mGo it g.m b.m xr σ2 h2
    | .bk σ2 h2=>.nx σ2 h2
    | .rt v h2=>.rt v h2
    | .exc e σ2 h2=>.exc e σ2 h2
    | .rse e σ2 h2=>.rse e σ2 h2
    | .bad=>.bad):=by rw[mGo];dsimp only;(rw[qai ok,f1]) <;> rfl
   rw[em];have gd':∀{h2:MH} {O2:List Nat},Stp q L h O h2 O2->∀y∈it.gd,h2[y.1]?=some (.lst y.2)/\y.1∉O2:=fun st y hy=>by
    obtain⟨a,b⟩:=st.mv.get (gd y hy).1 (gd y hy).2;exact⟨b,a⟩
   dsimp only
   cases eb:b.p env1 s with
   | bad=>trivial
   | nx e2 s2 =>
    rw[eb] at kb;obtain⟨σ2,h2,e1,O2,st,c2,d2⟩:=kb;rw[e1];exact (ih xr e2 σ2 h2 O2 s2 c2 d2 (r2.mv st.mv) (gd' st)).after st
   | ct e2 s2 =>
    rw[eb] at kb;obtain⟨σ2,h2,e1,O2,st,c2,d2⟩:=kb;rw[e1];exact (ih xr e2 σ2 h2 O2 s2 c2 d2 (r2.mv st.mv) (gd' st)).after st
   | bk e2 s2=>rw[eb] at kb;obtain⟨σ2,h2,e1,r⟩:=kb;rw[e1];exact⟨σ2,h2,rfl,r⟩
   | exc x e2 s2=>rw[eb] at kb;obtain⟨σ2,h2,e1,r⟩:=kb;rw[e1];exact⟨σ2,h2,rfl,r⟩
   | rse x e2 s2=>rw[eb] at kb;obtain⟨σ2,h2,e1,r⟩:=kb;rw[e1];exact⟨σ2,h2,rfl,r⟩
   | rt x s2=>rw[eb] at kb;obtain⟨v,h2,e1,r1,r2,r3,r4,r5⟩:=kb;rw[e1];exact⟨v,h2,rfl,r1,r2,r3,r4,r5⟩
def oK(i:Xi ws)(g:Xg ws)(b:Xd ws)(hz:i.fz=true:=by exact ys rfl):Xd ws where
 m:=jD i.m g.m b.m
 p:=fun env s=>(i.p env s).go env fun ds env s=>pGo g.p b.p ds env s
 fr:=b.fr
 ok {q h L B O σ env s} c d:=SOk.ex (f:=fun it=>mGo it g.m b.m it.xs) (g:=fun ds env s=>pGo g.p b.p ds env s) c d (i.ok c) fun ds it h1 s1 kb c1 r =>
  mGo_ok g b ds it.xs env σ h1 O s1 c1 d r.1 fun y hy=>⟨(r.2.1 y hy).1,r.2.2 hz y hy⟩
structure OpM where
 m:Nat->List PV->MH->Out PV
 p:List D->List D->Option (D × List D)
 ok:∀{q:Nat} {h:MH} {O:List Nat} {n:Nat} {xs:List PV} {ds as:List D} {vs:List PV} {d:D} {ds':List D},h[n]?=some (.lst xs)->Rps q h O ds xs->Rps q h O as vs->p ds as=some (d,ds')->∃v xs',m n vs h=.ok v (h.set n (.lst xs'))/\Rps q h O ds' xs'/\Rp q h O d v
def own_set{q h L B O σ env s n xs' ds' i ds}(c:Cx q h L B O ws σ env s)(d:Dis ws σ env)(hi:i∈ws)(e:env[i]?=some (some (D.lst ds)))(es:σ[i]?=some (some (.loc n)))(r:Rps q h O ds' xs') :
  Nxt q L h B O ws σ (h.set n (.lst xs')) (env.set i (some (.lst ds'))) s:=by
 obtain⟨n',xs,ds0,e0,e2,a,b,g,r0⟩:=c.sr.ow i _ e hi;rw[es] at e2;cases e2;have mv:Mv O h O (h.set n (.lst xs')):=⟨fun m hm no=>qaj (fun (z:n=m)=>no (z▸a)),fun o ho=>.inl ho⟩;have hp:=c.pL;have il:i<env.length:=(qag.mp e).1;refine⟨O,⟨by simp,mv,fun _ h=>h,fun m hm _=>qaj (by lia)⟩,⟨fun o ho=>by simpa using c.bd o ho,c.sub,c.bb,c.pb,by simpa using c.hL,?_,⟨by simp[c.sr.len],fun j x ej hj=>?_,fun j x ej hj=>?_⟩⟩,?_⟩
 ·unfold cj;rw[qaj (by lia)];exact c.pen
 ·have ne:i≠j:=fun z=>hj (z▸hi);rw[qaj ne] at ej;obtain⟨v,e1,w⟩:=c.sr.fz j x ej hj;exact⟨v,e1,w.mv mv⟩
 ·by_cases z:i=j
  ·subst z;rw[qat il] at ej;cases ej;exact⟨n,xs',ds',rfl,es,a,b,qat (bg g),r.mv mv⟩
  ·rw[qaj z] at ej;obtain⟨m,ys,es',e1,e3,b3,b4,b5,b6⟩:=c.sr.ow j x ej hj
   have:n≠m:=fun y=>d i j hi hj z _ _ n e ej es (y▸e3)
   exact⟨m,ys,es',e1,e3,b3,b4,by rw[qaj this];exact b5,b6.mv mv⟩
 ·intro j k hj hk ne x y m ej ek e1;have up:∀j x,(env.set i (some (D.lst ds')))[j]?=some (some x)->∃x',env[j]?=some (some x'):=fun j x ej=>by
   by_cases z:i=j
   ·subst z;exact⟨_,e⟩
   ·rw[qaj z] at ej;exact⟨x,ej⟩
  obtain⟨x',ej'⟩:=up j x ej;obtain⟨y',ek'⟩:=up k y ek;exact d j k hj hk ne x' y' m ej' ek' e1
def mt_ok(o:OpM)(i:Nat)(a:Xs ws)(hi:i∈ws)(hz:a.fz=true){q h L B O σ env s}(c:Cx q h L B O ws σ env s)(d:Dis ws σ env)
  (ea:a.p env s=.ok as s1) (ei:env[i]?=some (some (.lst ds))) (eo:o.p ds as=some (r,ds')):∃v h1 n xs',KB q h h1/\Cx q h1 L B O ws σ env s1/\σ[i]?=some (some (.loc n))/\mMt o.m (ag i) a.m σ h=.ok v (h1.set n (.lst xs'))/\Rps q h1 O ds' xs'/\Rp q h1 O r v:=by
 obtain⟨n,xs,ds0,e0,e2,b1,b2,g,r0⟩:=c.sr.ow i _ ei hi;cases e0;have ka:=a.ok c;rw[ea] at ka;obtain⟨vs,h1,e3,kb,pn,_,rv⟩:=ka;have c1:=c.kb kb pn;have g1:h1[n]?=some (.lst xs):=(kb.keep n (bg g) (by have:=c.pL;lia)).trans g;obtain⟨v,xs',e4,r1,r2⟩:=o.ok g1 (r0.mv (kb.mv c.pO)) (rv hz) eo;refine⟨v,h1,n,xs',kb,c1,e2,?_,r1,r2⟩;have em:ag i σ h=.ok (.loc n) h:=by simp[ag,e2]
 show (ag i σ h).bind _=_;rw[em];simp only[Out.bind_ok,g,e3,e4,Out.ne_ok]
def pMt(o:OpM)(i:Nat)(a:aE->Pen->PR (List D))(env:aE)(s:Pen)(k:D->aE->Pen->PS):PS:=match a env s with
 | .ok as s1=>(match env[i]? with
  | some (some (.lst ds))=>(match o.p ds as with
   | some (r,ds')=>k r (env.set i (some (.lst ds'))) s1
   | none=>.bad)
  | _=>.bad)
 | _=>.bad
def yc(e1:a env s=.ok as s1)(e2:env[i]?=some (some (.lst ds)))(e3:o.p ds as=some (r,ds')):pMt o i a env s k=k r (env.set i (some (.lst ds'))) s1:=by
 simp only[pMt,e1,e2,e3]
def pMt_inv:pMt o i a env s k=.bad\/∃as s1 ds r ds',a env s=.ok as s1/\env[i]?=some (some (.lst ds))/\o.p ds as=some (r,ds')/\pMt o i a env s k=k r (env.set i (some (.lst ds'))) s1:=by
 cases e1:a env s with
 | bad=>left;simp only[pMt,e1]
 | exc _ _=>left;simp only[pMt,e1]
 | ok as s1 =>
  cases e2:env[i]? with
  | none=>left;simp only[pMt,e1,e2]
  | some x =>
   cases x with
   | none=>left;simp only[pMt,e1,e2]
   | some d =>
    cases d with
    | lst ds =>
     cases e3:o.p ds as with
     | none=>left;simp only[pMt,e1,e2,e3]
     | some y=>exact .inr ⟨as,s1,ds,y.1,y.2,rfl,rfl,e3,yc e1 e2 e3⟩
    | _=>left;simp only[pMt,e1,e2]
def xMt(o:OpM)(i:Nat)(a:Xs ws)(hi:ws.contains i=true:=by exact ys rfl)(hz:a.fz=true:=by exact ys rfl):Xd ws where
 m:=eV (mMt o.m (ag i) a.m)
 p:=fun env s=>pMt o i a.p env s fun _=>.nx
 fr:=true
 ok {q h L B O σ env s} c d:=by
  rcases pMt_inv (o:=o) (i:=i) (a:=a.p) (env:=env) (s:=s) (k:=fun _=>.nx) with z|⟨as,s1,ds,r,ds',e1,e2,e3,z⟩
  ·rw[z];trivial
  ·rw[z];have hi':i∈ws:=by simpa using hi
   obtain⟨v,h1,n,xs',kb,c1,es,em,r1,r2⟩:=mt_ok o i a hi' hz c d e1 e2 e3;refine⟨σ,h1.set n (.lst xs'),?_,(own_set c1 d hi' e2 es r1).after (kb.stp c)⟩;unfold eV mEx;rw[em];rfl
def Vw.int(w:Vw q h L O (.int b) v):v=.int b:=by
 rcases w with r|⟨n,xs,ds,e,_⟩
 ·exact r
 ·cases e
def PS.fin(r:PS):PR D:=match r with
 | .nx _ s=>.ok .non s
 | .rt d s=>.ok d s
 | .exc c _ s=>.exc c s
 | .rse c _ s=>.exc c s
 | _=>.bad
@[simp] theorem fin_nx:(PS.nx e s).fin=.ok .non s:=rfl
@[simp] theorem de:(PS.rt d s).fin=.ok d s:=rfl
@[simp] theorem fin_exc:(PS.exc c e s).fin=.exc c s:=rfl
@[simp] theorem fin_rse:(PS.rse c e s).fin=.exc c s:=rfl
@[simp] theorem fin_bad:PS.bad.fin=.bad:=rfl
def dSt(n:Nat)(ds:List D):aE:=ds.map some++List.replicate (n - ds.length) none
def cF(n np:Nat)(b:Xd ws)(hw:ws.all (fun i=>decide (np<=i))=true:=by exact ys rfl):Fn where
 m:=bh n np b.m
 p:=fun ds s=>if ds.length=np then (b.p (dSt n ds) s).fin else .bad
 fr:=b.fr
 ok {q h O vs ds s} bd hq pn r:=by
  by_cases hl:ds.length=np
  ·rw[qai hl];have hv:vs.length=np:=by rw[r.length];exact hl
   have low:∀i d,(dSt n ds)[i]?=some (some d)->i<np/\ds[i]?=some d:=fun i d e=>by
    by_cases z:i<ds.length
    ·refine⟨by lia,?_⟩;unfold dSt at e;rw[qan (by simpa using z)] at e;simp at e;simpa using e
    ·unfold dSt at e;rw[qay (by simpa using z)] at e;by_cases y:i - (ds.map some).length<n - ds.length
     ·simp[qbj,y] at e
     ·simp at y e;exact absurd e (by simp[qbj])
   have nw:∀i d,(dSt n ds)[i]?=some (some d)->i∉ws:=fun i d e hi=>by
    have:=(low i d e).1
    rw[qcb] at hw
    have:=hw i hi
    simp at this;lia
   have c:Cx q h h.length O O ws (bR n vs) (dSt n ds) s:=by
    refine⟨bd,fun _ h=>h,bd,hq,qah _,pn,⟨by simp[bR,dSt,r.length],fun i d e _=>?_,fun i d e hi=>absurd hi (nw i d e)⟩⟩;obtain⟨v,ev,rv⟩:=r.get (low i d e).2;refine⟨v,?_,rv⟩;unfold bR;rw[qan (by simpa using (qag.mp ev).1)];simp[ev]
   have k:=b.ok c fun i j hi _ _ d _ _ e=>absurd hi (nw i d e)
   have em:bh n np b.m vs h=(match b.m (bR n vs) h with
    | .nx _ h'=>.ok .non h'
    | .rt v h'=>.ok v h'
    | .exc x _ h'=>.exc x h'
    | .rse x _ h'=>.exc x h'
    | _=>.bad):=by unfold bh;(rw[qai hv]) <;> (cases b.m (bR n vs) h <;> rfl)
   rw[em];have kb:∀{h' O'},Stp q h.length h O h' O'->KB q h h':=fun st=>⟨st.len,fun m hm hq=>st.base m hm hq⟩
   cases e:b.p (dSt n ds) s with
   | nx e1 s1=>rw[e] at k;obtain⟨σ',h',f,O',st,c',_⟩:=k;rw[f];exact⟨.non,h',rfl,kb st,c'.pen,rfl,fun _ ds e=>by cases e⟩
   | exc x e1 s1=>rw[e] at k;obtain⟨σ',h',f,O',st,c',_⟩:=k;rw[f];exact⟨h',rfl,kb st,c'.pen⟩
   | rse x e1 s1=>rw[e] at k;obtain⟨σ',h',f,O',st,c',_⟩:=k;rw[f];exact⟨h',rfl,kb st,c'.pen⟩
   | rt x s1=>rw[e] at k;obtain⟨v,h',f,l,b,p,rr,rs⟩:=k;rw[f];exact⟨v,h',rfl,⟨l,b⟩,p,rr,rs⟩
   | bk e1 s1=>trivial
   | ct e1 s1=>trivial
   | bad=>trivial
  ·rw[qal hl];trivial
end
end PU
namespace PU
open PySem MM SetT SortT
open L2 (ixN atI eK)
local instance (priority:=1) cdecN6 (p:Prop):Decidable p:=Classical.propDecidable p
noncomputable section
section
variable {q:Nat} {h:MH} {L:Nat} {O:List Nat} {v:PV}
def Vw.non(w:Vw q h L O .non v):v=.non:=by
 rcases w with r|⟨n,xs,ds,e,_⟩
 ·exact r
 ·cases e
def Vw.str(w:Vw q h L O (.str x) v):v=.str x:=by
 rcases w with r|⟨n,xs,ds,e,_⟩
 ·exact r
 ·cases e
inductive VwL (h:MH) (P:List PV->Prop) (v:PV):Prop
 | mk (n:Nat) (xs:List PV) (e:v=.loc n) (g:h[n]?=some (.lst xs)) (r:P xs):VwL h P v
def Vw.lst(w:Vw q h L O (.lst ds) v):VwL h (Rps q h O ds) v:=by
 rcases w with ⟨n,xs,e,_,g,r⟩|⟨n,xs,ds',e,e1,_,_,g,r⟩
 ·exact⟨n,xs,e,g,r⟩
 ·cases e;exact⟨n,xs,e1,g,r⟩
def Vw.tup(w:Vw q h L O (.tup ds) v):RcT (Rps q h O ds) v:=by
 rcases w with r|⟨n,xs,ds',e,_⟩
 ·exact r
 ·cases e
def gv0(r:Rp q h O d v)(hf:fr=true->∀ds,d≠.lst ds):Gv q h O fr (.ok v h) d :=
 ⟨v,[],by simp,by simpa using r,fun z ds e=>absurd e (hf z ds)⟩
def gvI:Gv q h O fr (.ok (.int i) h) (.int i):=gv0 rfl fun _ _ e=>by cases e
def gvB:Gv q h O fr (.ok (.bl i) h) (.bl i):=gv0 rfl fun _ _ e=>by cases e
def dR(w:Vws q h L O [d] vs):∃x,vs=[x]/\Vw q h L O d x:=by
 obtain⟨x,r,e,a,b⟩:=w
 have:r=[]:=b
 subst this;exact⟨x,e,a⟩
def vws2(w:Vws q h L O [d,d'] vs):∃x y,vs=[x,y]/\Vw q h L O d x/\Vw q h L O d' y:=by
 obtain⟨x,r,e,a,b⟩:=w;obtain⟨y,rfl,c⟩:=dR b;exact⟨x,y,e,a,c⟩
end
def iiOp(m:PV->PV->MH->Out PV)(f:Int->Int->D)(g:Int->Int->PV)(hm:∀i j h,m (.int i) (.int j) h=.ok (g i j) h)(hg:∀i j q h O fr,Gv q h O fr (.ok (g i j) h) (f i j)):Op2 where
 m:=m
 p:=fun a b=>match a,b with
  | .int i,.int j=>some (f i j)
  | _,_=>none
 fr:=true
 ok {q h L O a x b y d} bd wa wb e:=by
  cases a with
  | int i =>
   cases b with
   | int j=>cases e;rw[wa.int,wb.int,hm];exact hg i j q h O true
   | _=>cases e
  | _=>cases e
def cX:Op2:=iiOp opSub (fun i j=>.int (i - j)) (fun i j=>.int (i - j)) (fun _ _ _=>rfl) fun _ _ _ _ _ _=>gvI
def oLt:Op2:=iiOp opLt (fun i j=>.bl (decide (i<j))) (fun i j=>.bl (decide (i<j))) (fun _ _ _=>rfl) fun _ _ _ _ _ _=>gvB
def oLe:Op2:=iiOp opLe (fun i j=>.bl (decide (i<=j))) (fun i j=>.bl (decide (i<=j))) (fun _ _ _=>rfl) fun _ _ _ _ _ _=>gvB
def oGt:Op2:=iiOp opGt (fun i j=>.bl (decide (j<i))) (fun i j=>.bl (decide (j<i))) (fun _ _ _=>rfl) fun _ _ _ _ _ _=>gvB
def bY:Op2 where
 m:=opAdd
 p:=fun a b=>match a,b with
  | .int i,.int j=>some (.int (i+j))
  | .lst x,.lst y=>if x.length+y.length<=100000 then some (.lst (x++y)) else none
  | .tup (a::x),.tup y=>if x.length+1+y.length<=100000 then some (.tup (a::x++y)) else none
  | _,_=>none
 fr:=true
 ok {q h L O a x b y d} bd wa wb e:=by
  cases a with
  | int i =>
   cases b with
   | int j=>cases e;rw[wa.int,wb.int];exact gvI
   | _=>cases e
  | lst x =>
   cases b with
   | lst y =>
    dsimp only at e;by_cases z:x.length+y.length<=100000
    ·rw[qai z] at e;cases e;obtain⟨n,xs,rfl,g,r⟩:=wa.lst;obtain⟨n',ys,rfl,g',r'⟩:=wb.lst;show Gv q h O true (match h[n]?,h[n']? with | some (.lst xs),some (.lst ys)=>newL (xs++ys) h | _,_=>.bad) _;rw[g,g'];exact lw bd (r.app r') (by simpa using z)
    ·rw[qal z] at e;cases e
   | _=>cases e
  | tup x =>
   cases x with
   | nil=>cases b <;> cases e
   | cons a x =>
    cases b with
    | tup y =>
     dsimp only at e;by_cases z:x.length+1+y.length<=100000
     ·rw[qai z] at e;cases e;obtain⟨xs,rfl,r⟩:=wa.tup;obtain⟨ys,rfl,r'⟩:=wb.tup;have ne:xs≠[]:=fun z=>by have:=r.length;simp[z] at this
      show Gv q h O true (if xs≠[] then newT (xs++ys) h else .bad) _;rw[qai ne];exact u6 (r.app r') (by simp;lia)
     ·rw[qal z] at e;cases e
    | _=>cases e
  | _=>cases e
def Rps.rep(r:Rps q h O ds xs):∀n,Rps q h O (List.replicate n ds).flatten (List.replicate n xs).flatten
 | 0=>rfl
 | n+1=>by
  rw[qaX,qaX,qbk,qbk];exact r.app (Rps.rep r n)
def oMul:Op2 where
 m:=opMul
 p:=fun a b=>match a,b with
  | .int i,.int j=>if IntMulOk i j then some (.int (i * j)) else none
  | .lst x,.int j=>if (0<=j/\j<=1000)/\((List.replicate j.toNat x).flatten).length<=100000 then some (.lst (List.replicate j.toNat x).flatten) else none
  | _,_=>none
 fr:=true
 ok {q h L O a x b y d} bd wa wb e:=by
  cases a with
  | int i =>
   cases b with
   | int j =>
    dsimp only at e;by_cases z:IntMulOk i j
    ·rw[qai z] at e;cases e;rw[wa.int,wb.int];show Gv q h O true (if IntMulOk i j then .ok (.int (i * j)) h else .bad) _;rw[qai z];exact gvI
    ·rw[qal z] at e;cases e
   | _=>cases e
  | lst x =>
   cases b with
   | int j =>
    dsimp only at e;by_cases z:(0<=j/\j<=1000)/\((List.replicate j.toNat x).flatten).length<=100000
    ·rw[qai z] at e;cases e;obtain⟨n,xs,rfl,g,r⟩:=wa.lst;rw[wb.int];show Gv q h O true (match h[n]? with | some (.lst xs)=>if -(2 ^ 63)<=j/\j<2 ^ 63 then newL (List.flatten (List.replicate j.toNat xs)) h else .bad | _=>.bad) _;rw[g];dsimp only;rw[qai (by lia)];exact lw bd (r.rep _) z.2
    ·rw[qal z] at e;cases e
   | _=>cases e
  | _=>cases e
def oMod:Op2 where
 m:=opMod
 p:=fun a b=>match a,b with
  | .int i,.int j=>if j≠0 then some (.int (i.fmod j)) else none
  | _,_=>none
 fr:=true
 ok {q h L O a x b y d} bd wa wb e:=by
  cases a with
  | int i =>
   cases b with
   | int j =>
    dsimp only at e;by_cases z:j≠0
    ·rw[qai z] at e;cases e;rw[wa.int,wb.int];show Gv q h O true (if j≠0 then .ok (.int (i.fmod j)) h else .bad) _;rw[qai z];exact gvI
    ·rw[qal z] at e;cases e
   | _=>cases e
  | _=>cases e
def oPow:Op2 where
 m:=opPow
 p:=fun a b=>match a,b with
  | .int i,.int j=>if eK i j then some (.int (i ^ j.toNat)) else none
  | _,_=>none
 fr:=true
 ok {q h L O a x b y d} bd wa wb e:=by
  cases a with
  | int i =>
   cases b with
   | int j =>
    dsimp only at e;by_cases z:eK i j
    ·rw[qai z] at e;cases e;rw[wa.int,wb.int];show Gv q h O true (if eK i j then .ok (.int (i ^ j.toNat)) h else .bad) _;rw[qai z];exact gvI
    ·rw[qal z] at e;cases e
   | _=>cases e
  | _=>cases e
def oIx:Op2 where
 m:=aR
 p:=fun a b=>match a,b with
  | .lst x,.int j=>atI x j
  | .tup x,.int j=>atI x j
  | _,_=>none
 fr:=false
 ok {q h L O a x b y d} bd wa wb e:=by
  have at':∀{ds:List D} {xs:List PV} {j:Int},Rps q h O ds xs->atI ds j=some d->∃v,atI xs j=some v/\Rp q h O d v:=fun {ds xs j} r e=>by
   unfold atI at e ⊢;rw[r.length]
   cases e1:ixN ds.length j with
   | none=>rw[e1] at e;cases e
   | some k=>rw[e1] at e;exact r.get e
  cases b with
  | int j =>
   rw[wb.int]
   cases a with
   | lst ds =>
    obtain⟨n,xs,rfl,g,r⟩:=wa.lst;obtain⟨v,e1,rv⟩:=at' r e;show Gv q h O false (match h[n]? with | some (.lst xs)=>(match atI xs j with | some v=>.ok v h | none=>.bad) | _=>.bad) _;rw[g];dsimp only;rw[e1];exact gv0 rv fun z=>by cases z
   | tup ds =>
    obtain⟨xs,rfl,r⟩:=wa.tup;obtain⟨v,e1,rv⟩:=at' r e;show Gv q h O false (match atI xs j with | some v=>.ok v h | none=>.bad) _;rw[e1];exact gv0 rv fun z=>by cases z
   | _=>cases e
  | _=>cases a <;> cases e
def oIs(neg:Bool):Op2 where
 m:=opIs neg
 p:=fun a b=>match b with
  | .non=>(match a with
   | .non=>some (.bl (!neg))
   | _=>some (.bl neg))
  | .bl b=>(match a with
   | .bl c=>some (.bl (if neg then !(c == b) else c == b))
   | .non=>some (.bl neg)
   | .int _=>some (.bl neg)
   | .str _=>some (.bl neg)
   | .tup _=>some (.bl neg)
   | _=>none)
  | _=>none
 fr:=true
 ok {q h L O a x b y d} bd wa wb e:=by
  have loc:∀{a:D} {x:PV},Vw q h L O a x->(∃ds,a=.lst ds)\/a=.dic\/(∃c,a=.exc c)\/a=.pen->∃n,x=.loc n:=fun {a x} w z=>by
   rcases w with r|⟨n,xs,ds,e,e1,_⟩
   ·rcases z with ⟨ds,rfl⟩|rfl|⟨c,rfl⟩|rfl
    ·obtain⟨n,_,e,_⟩:=r;exact⟨n,e⟩
    ·obtain⟨n,e,_⟩:=r;exact⟨n,e⟩
    ·obtain⟨n,e,_⟩:=r;exact⟨n,e⟩
    ·exact⟨q,r⟩
   ·exact⟨n,e1⟩
  cases b with
  | non =>
   rw[wb.non]
   cases a with
   | non=>cases e;rw[wa.non];exact gvB
   | bl c=>cases e;rw[wa.bl];exact gvB
   | int c=>cases e;rw[wa.int];exact gvB
   | str c=>cases e;rw[wa.str];exact gvB
   | tup c=>cases e;obtain⟨xs,rfl,_⟩:=wa.tup;exact gvB
   | lst c=>cases e;obtain⟨n,rfl⟩:=loc wa (.inl ⟨_,rfl⟩);exact gvB
   | dic=>cases e;obtain⟨n,rfl⟩:=loc wa (.inr (.inl rfl));exact gvB
   | exc c=>cases e;obtain⟨n,rfl⟩:=loc wa (.inr (.inr (.inl ⟨_,rfl⟩)));exact gvB
   | pen=>cases e;obtain⟨n,rfl⟩:=loc wa (.inr (.inr (.inr rfl)));exact gvB
  | bl b =>
   rw[wb.bl]
   cases a with
   | non=>cases e;rw[wa.non];exact gvB
   | bl c=>cases e;rw[wa.bl];exact gvB
   | int c=>cases e;rw[wa.int];exact gvB
   | str c=>cases e;rw[wa.str];exact gvB
   | tup c=>cases e;obtain⟨xs,rfl,_⟩:=wa.tup;exact gvB
   | _=>cases e
  | _=>cases e
mutual
def py:D->Option PyData
 | .non=>some .none
 | .bl b=>some (.bool b)
 | .int i=>some (.int i)
 | .str x=>some (.str x)
 | .tup ds=>(pys ds).map .tuple
 | .lst ds=>(pys ds).map .list
 | _=>none
def pys:List D->Option (List PyData)
 | []=>some []
 | d::ds=>match py d,pys ds with
  | some x,some xs=>some (x::xs)
  | _,_=>none
end
mutual
def dep:D->Nat
 | .tup ds=>1+deps ds
 | .lst ds=>1+deps ds
 | _=>0
def deps:List D->Nat
 | []=>0
 | d::ds=>max (dep d) (deps ds)
end
def uX(d:D):(∀(v:PV) (e:PyData) (n:Nat),Rp q h O d v->py d=some e->dep d<=n->rd n h v=some e):=by
 refine D.rec (motive_1:=fun d=>∀(v:PV) (e:PyData) (n:Nat),Rp q h O d v->py d=some e->dep d<=n->rd n h v=some e)
  (motive_2:=fun ds=>∀(vs:List PV) (es:List PyData) (n:Nat),Rps q h O ds vs->pys ds=some es->deps ds<=n->cY (rd n h) vs=some es)
  (fun v _ n r e _=>?_) (fun b v _ n r e _=>?_) (fun b v _ n r e _=>?_) (fun b v _ n r e _=>?_) (fun ds ih v e n r ep hd=>?_) (fun ds ih v e n r ep hd=>?_) (fun _ _ _ _ e _=>?_) (fun _ _ _ _ _ e _=>?_) (fun _ _ _ _ e _=>?_)
  (fun vs es n r e _=>?_) (fun d ds i1 i2 vs es n r e hd=>?_) d
 ·rw[show v=PV.non from r];cases e;cases n <;> rfl
 ·rw[show v=PV.bl b from r];cases e;cases n <;> rfl
 ·rw[show v=PV.int b from r];cases e;cases n <;> rfl
 ·rw[show v=PV.str b from r];cases e;cases n <;> rfl
 ·obtain⟨xs,ex,r⟩:=r;subst ex;rw[py,qaD] at ep;obtain⟨es,e1,rfl⟩:=ep;rw[dep] at hd
  cases n with
  | zero=>lia
  | succ n=>simp only[rd];rw[ih _ _ n r e1 (by lia)];rfl
 ·obtain⟨m,xs,ex,_,g,r⟩:=r;subst ex;rw[py,qaD] at ep;obtain⟨es,e1,rfl⟩:=ep;rw[dep] at hd
  cases n with
  | zero=>lia
  | succ n=>simp only[rd,g];rw[ih _ _ n r e1 (by lia)];rfl
 ·simp[py] at e
 ·simp[py] at e
 ·simp[py] at e
 ·rw[show vs=[] from r];rw[pys] at e;cases e;rfl
 ·obtain⟨x,t,ex,a,b⟩:=r;subst ex;rw[deps] at hd;rw[pys] at e
  cases e1:py d with
  | none=>rw[e1] at e;cases e
  | some y =>
   cases e2:pys ds with
   | none=>rw[e1,e2] at e;cases e
   | some ys =>
    rw[e1,e2] at e;cases e;have a1:=i1 _ _ n a e1 (by lia);have b1:=i2 _ _ n b e2 (by lia);simp only[cY,a1,b1]
def rd_ok(r:Rp q h O d v)(ep:py d=some e)(hd:dep d<=n):rd n h v=some e:=uX d v e n r ep hd
def rds_ok(r:Rps q h O ds vs)(ep:pys ds=some es)(hd:deps ds<=n):cY (rd n h) vs=some es:=by
 have:=uX (.tup ds) (.tup vs) (.tuple es) (n+1) (show Rp q h O (.tup ds) (.tup vs) from⟨vs,rfl,r⟩) (by rw[py,ep];rfl) (by rw[dep];lia)
 simp only[rd] at this
 cases z:cY (rd n h) vs with
 | none=>rw[z] at this;cases this
 | some y=>rw[z] at this;cases this;rfl
def qJ(w:Vw q h L O d v)(ep:py d=some e)(hd:dep d<=60):rd 60 h v=some e:=by
 rcases w with r|⟨n,xs,ds,rfl,rfl,_,_,g,r⟩
 ·exact rd_ok r ep hd
 ·rw[py,qaD] at ep;obtain⟨es,e1,rfl⟩:=ep;rw[dep] at hd;have a1:=rds_ok (n:=59) r e1 (by lia);show (match h[n]? with | some (.lst xs)=>(cY (rd 59 h) xs).map PyData.list | _=>none)=_;rw[g];dsimp only;rw[a1];rfl
def eqD(neg:Bool)(a b:D):Option D:=match py a,py b with
 | some x,some y=>if (dep a<=60/\dep b<=60)/\SeqAt.shaped x=true/\SeqAt.shaped y=true then some (.bl (if neg then !PyData.eqv x y else PyData.eqv x y)) else none
 | _,_=>none
def u8(e:eqD neg a b=some d):∃x y,py a=some x/\py b=some y/\(dep a<=60/\dep b<=60)/\(SeqAt.shaped x=true/\SeqAt.shaped y=true)/\d=.bl (if neg then !PyData.eqv x y else PyData.eqv x y):=by
 unfold eqD at e
 cases e1:py a with
 | none=>rw[e1] at e;cases e
 | some x =>
  cases e2:py b with
  | none=>rw[e1,e2] at e;cases e
  | some y =>
   rw[e1,e2] at e;dsimp only at e;by_cases z:(dep a<=60/\dep b<=60)/\SeqAt.shaped x=true/\SeqAt.shaped y=true
   ·rw[qai z] at e;cases e;exact⟨x,y,rfl,rfl,z.1,z.2,rfl⟩
   ·rw[qal z] at e;cases e
def oEq:Op2 where
 m:=opEq
 p:=eqD false
 fr:=true
 ok {q h L O a x b y d} bd wa wb e:=by
  obtain⟨u,w,e1,e2,hd,hs,rfl⟩:=u8 e;unfold opEq;rw[qJ wa e1 hd.1,qJ wb e2 hd.2];dsimp only;rw[qai hs];exact gvB
def oNe:Op2 where
 m:=opNe
 p:=eqD true
 fr:=true
 ok {q h L O a x b y d} bd wa wb e:=by
  obtain⟨u,w,e1,e2,hd,hs,rfl⟩:=u8 e;unfold opNe;rw[qJ wa e1 hd.1,qJ wb e2 hd.2];dsimp only;rw[qai hs];exact gvB
def Vw.seqOf(w:Vw q h L O d v)(e:d.items=some ds):∃xs,MM.bU h v=some xs/\Rps q h O ds xs:=by
 cases d with
 | lst es=>cases e;obtain⟨n,xs,rfl,g,r⟩:=w.lst;exact⟨xs,by simp[MM.bU,g],r⟩
 | tup es=>cases e;obtain⟨xs,rfl,r⟩:=w.tup;exact⟨xs,rfl,r⟩
 | _=>cases e
end
noncomputable section
def eI:Op1 where
 m:=opNeg
 p:=fun a=>match a with
  | .int i=>some (.int (-i))
  | _=>none
 fr:=true
 ok {q h L O a x d} bd w e:=by
  cases a with
  | int i=>cases e;rw[w.int];exact gvI
  | _=>cases e
def tyD:D->Option String
 | .non=>some "NoneType"
 | .bl _=>some "bool"
 | .int _=>some "int"
 | .str _=>some "str"
 | .tup _=>some "tuple"
 | .lst _=>some "list"
 | .dic=>some "dict"
 | _=>none
def ty_ok(w:Vw q h L O d v)(e:tyD d=some t):tyP h v=some t:=by
 cases d with
 | non=>cases e;rw[w.non];rfl
 | bl b=>cases e;rw[w.bl];rfl
 | int b=>cases e;rw[w.int];rfl
 | str b=>cases e;rw[w.str];rfl
 | tup b=>cases e;obtain⟨xs,rfl,_⟩:=w.tup;rfl
 | lst b=>cases e;obtain⟨n,xs,rfl,g,_⟩:=w.lst;simp[tyP,g]
 | dic =>
  cases e;rcases w with ⟨n,rfl,_,kvs,g⟩|⟨n,xs,ds,e,_⟩
  ·simp[tyP,g]
  ·cases e
 | _=>cases e
def bP(Ts:List String):Op1 where
 m:=cz Ts
 p:=fun a=>(tyD a).map fun t=>.bl (Ts.any (bH t))
 fr:=true
 ok {q h L O a x d} bd w e:=by
  rw[qaD] at e;obtain⟨t,e1,rfl⟩:=e;unfold cz;rw[ty_ok w e1];exact gvB
def kW(cs sup:List Str):Op1 where
 m:=bv cs sup
 p:=fun a=>match a with
  | .exc c=>if cs.contains c=true then some (.bl (sup.contains c)) else none
  | .pen=>none
  | _=>some (.bl false)
 fr:=true
 ok {q h L O a x d} bd w e:=by
  cases a with
  | non=>cases e;rw[w.non];exact gvB
  | bl b=>cases e;rw[w.bl];exact gvB
  | int b=>cases e;rw[w.int];exact gvB
  | str b=>cases e;rw[w.str];exact gvB
  | tup b=>cases e;obtain⟨xs,rfl,_⟩:=w.tup;exact gvB
  | lst b=>cases e;obtain⟨n,xs,rfl,g,_⟩:=w.lst;simp only[bv,g];exact gvB
  | dic =>
   cases e;rcases w with ⟨n,rfl,_,kvs,g⟩|⟨n,xs,ds,e,_⟩
   ·simp only[bv,g];exact gvB
   ·cases e
  | exc c =>
   dsimp only at e;by_cases z:cs.contains c=true
   ·rw[qai z] at e;cases e;rcases w with ⟨n,rfl,_,g⟩|⟨n,xs,ds,e,_⟩
    ·simp only[bv,g];rw[qai z];exact gvB
    ·cases e
   ·rw[qal z] at e;cases e
  | pen=>cases e
def cII(f:List PV->MH->Out PV)(g:Int->Int->Int)(hf:∀i j h,f [.int i,.int j] h=.ok (.int (g i j)) h):OpN where
 k:=fun xs h=>(f xs h).ne
 p:=fun as=>match as with
  | [.int i,.int j]=>some (.int (g i j))
  | _=>none
 fr:=true
 ok {q h L O as xs d} bd w e:=by
  match as,e with
  | [.int i,.int j],e =>
   cases e;obtain⟨x,y,rfl,a,b⟩:=vws2 w;rw[a.int,b.int,hf];exact gvI
def cMin:OpN:=cII fMin (fun i j=>if j<i then j else i) fun _ _ _=>rfl
def cMax:OpN:=cII fMax (fun i j=>if j>i then j else i) fun _ _ _=>rfl
def r9:OpN where
 k:=fun xs h=>(fInt xs h).ne
 p:=fun as=>match as with
  | [.int i]=>some (.int i)
  | [.bl b]=>some (.int (if b then 1 else 0))
  | _=>none
 fr:=true
 ok {q h L O as xs d} bd w e:=by
  match as,e with
  | [.int i],e=>cases e;obtain⟨x,rfl,a⟩:=dR w;rw[a.int];exact gvI
  | [.bl i],e=>cases e;obtain⟨x,rfl,a⟩:=dR w;rw[a.bl];exact gvI
def cStr:OpN where
 k:=fun xs h=>(fStr xs h).ne
 p:=fun as=>match as with
  | [.int i]=>if i.natAbs.log2<1920 then some (.str (toString i)) else none
  | _=>none
 fr:=true
 ok {q h L O as xs d} bd w e:=by
  match as,e with
  | [.int i],e =>
   dsimp only at e;by_cases z:i.natAbs.log2<1920
   ·rw[qai z] at e;cases e;obtain⟨x,rfl,a⟩:=dR w;rw[a.int];show Gv q h O true (if i.natAbs.log2<1920 then Out.ok (PV.str (toString i)) h else .bad).ne _;rw[qai z];exact gv0 rfl fun _ _ e=>by cases e
   ·rw[qal z] at e;cases e
def eO:OpN where
 k:=fun xs h=>(fLen xs h).ne
 p:=fun as=>match as with
  | [.lst ds]=>some (.int ds.length)
  | [.tup ds]=>some (.int ds.length)
  | [.str x]=>if x.length<=sizeLine then some (.int x.length) else none
  | _=>none
 fr:=true
 ok {q h L O as xs d} bd w e:=by
  match as,e with
  | [.lst ds],e =>
   cases e;obtain⟨x,rfl,a⟩:=dR w;obtain⟨n,ys,rfl,g,r⟩:=a.lst;simp only[fLen,g];rw[r.length];exact gvI
  | [.tup ds],e =>
   cases e;obtain⟨x,rfl,a⟩:=dR w;obtain⟨ys,rfl,r⟩:=a.tup;simp only[fLen];rw[r.length];exact gvI
  | [.str x],e =>
   dsimp only at e;by_cases z:x.length<=sizeLine
   ·rw[qai z] at e;cases e;obtain⟨x,rfl,a⟩:=dR w;rw[a.str];simp only[fLen];rw[qai z];exact gvI
   ·rw[qal z] at e;cases e
def dZ:OpN where
 k:=fun xs h=>(fList xs h).ne
 p:=fun as=>match as with
  | [d]=>d.items.bind fun ds=>if ds.length<=100000 then some (.lst ds) else none
  | _=>none
 fr:=true
 ok {q h L O as xs d} bd w e:=by
  match as,e with
  | [a],e =>
   obtain⟨x,rfl,wx⟩:=dR w;rw[qaT] at e;obtain⟨ds,e1,e2⟩:=e;obtain⟨xs,e3,r⟩:=wx.seqOf e1;by_cases z:ds.length<=100000
   ·rw[qai z] at e2;cases e2;obtain⟨v,g,e4,r4,r5⟩:=lw bd r z;exact⟨v,g,by simp only[fList,e3];rw[e4];rfl,r4,r5⟩
   ·rw[qal z] at e2;cases e2
def kI:OpN where
 k:=fun xs h=>(fTuple xs h).ne
 p:=fun as=>match as with
  | [d]=>d.items.map .tup
  | _=>none
 fr:=true
 ok {q h L O as xs d} bd w e:=by
  match as,e with
  | [a],e =>
   obtain⟨x,rfl,wx⟩:=dR w;rw[qaD] at e;obtain⟨ds,e1,rfl⟩:=e;obtain⟨xs,e3,r⟩:=wx.seqOf e1;simp only[fTuple,e3];exact gv0 ⟨xs,rfl,r⟩ fun _ _ e=>by cases e
def mL:List D->Option (List Bool)
 | []=>some []
 | .bl b::r=>(mL r).map (b::·)
 | _=>none
def xP:∀{ds:List D} {xs:List PV} {bs:List Bool},Rps q h O ds xs->mL ds=some bs->my xs=some bs
 | [],_,_,r,e=>by rw[show _=[] from r];cases e;rfl
 | d::ds,_,bs,⟨x,t,ex,a,b⟩,e=>by
  subst ex
  cases d with
  | bl c =>
   rw[show x=PV.bl c from a];rw[mL,qaD] at e;obtain⟨cs,e1,rfl⟩:=e;rw[my,xP b e1];rfl
  | _=>cases e
def cAll:OpN where
 k:=fun xs h=>(fAll xs h).ne
 p:=fun as=>match as with
  | [d]=>(d.items.bind mL).map fun bs=>.bl (bs.all id)
  | _=>none
 fr:=true
 ok {q h L O as xs d} bd w e:=by
  match as,e with
  | [a],e =>
   obtain⟨x,rfl,wx⟩:=dR w;rw[qaD] at e;obtain⟨bs,e1,rfl⟩:=e;rw[qaT] at e1;obtain⟨ds,e1,e2⟩:=e1;obtain⟨xs,e3,r⟩:=wx.seqOf e1;simp only[fAll,e3,qbv,xP r e2];exact gvB
def cZ:List D->Option (List Int)
 | []=>some []
 | .int b::r=>(cZ r).map (b::·)
 | _=>none
def gI:∀{ds:List D} {xs:List PV} {bs:List Int},Rps q h O ds xs->cZ ds=some bs->xs=bs.map .int
 | [],_,_,r,e=>by rw[show _=[] from r];cases e;rfl
 | d::ds,_,bs,⟨x,t,ex,a,b⟩,e=>by
  subst ex
  cases d with
  | int c =>
   rw[show x=PV.int c from a];rw[cZ,qaD] at e;obtain⟨cs,e1,rfl⟩:=e;rw[gI b e1];rfl
  | _=>cases e
def pN:∀(bs:List Int),fc (bs.map .int)=some bs
 | []=>rfl
 | b::bs=>by rw[qaL,fc,pN bs];rfl
def ph:∀(bs:List Int),gU (bs.map .int)=some bs
 | []=>rfl
 | b::bs=>by rw[qaL,gU,ph bs];rfl
def kv:∀(bs:List Int),gp (bs.map .int)=some bs
 | []=>rfl
 | b::bs=>by rw[qaL,gp,kv bs];rfl
def qK(f:List PV->MH->Out PV)(c:List Int->Nat->Nat->Bool)(g:Int->Int->Int)(hf:∀is x h,(bU h x).bind fc=some is->0<is.length->f [x] h=.ok (.int (k7 (c is) is)) h)(hg:∀i j h,f [.int i,.int j] h=.ok (.int (g i j)) h):OpN where
 k:=fun xs h=>(f xs h).ne
 p:=fun as=>match as with
  | [d]=>(d.items.bind cZ).bind fun is=>if 0<is.length then some (.int (k7 (c is) is)) else none
  | [.int i,.int j]=>some (.int (g i j))
  | _=>none
 fr:=true
 ok {q h L O as xs d} bd w e:=by
  match as,e with
  | [a],e =>
   obtain⟨x,rfl,wx⟩:=dR w;rw[qaT] at e;obtain⟨is,e1,e2⟩:=e;rw[qaT] at e1;obtain⟨ds,e1,e3⟩:=e1;obtain⟨xs,e4,r⟩:=wx.seqOf e1;by_cases z:0<is.length
   ·rw[qai z] at e2;cases e2;show Gv q h O true (f [x] h).ne _;rw[hf is x h (by rw[e4,qbv,gI r e3];exact pN is) z];exact gvI
   ·rw[qal z] at e2;cases e2
  | [.int i,.int j],e =>
   cases e;obtain⟨x,y,rfl,a,b⟩:=vws2 w;rw[a.int,b.int,hg];exact gvI
def qL:OpN:=qK fMaxS (fun is i j=>decide (is.getD i 0>is.getD j 0)) (fun i j=>if j>i then j else i) (fun is x h e z=>by simp only[fMaxS,e];rw[qai z]) fun i j h=>rfl
def qR:OpN:=qK fMinS (fun is i j=>decide (is.getD i 0<is.getD j 0)) (fun i j=>if j<i then j else i) (fun is x h e z=>by simp only[fMinS,e];rw[qai z]) fun i j h=>rfl
def kD(k:List Int):D:=.tup (k.map .int)
def mn:D->Option (List Int)
 | .tup ds=>cZ ds
 | _=>none
def g6:List D->Option (List (List Int))
 | []=>some []
 | d::ds=>match mn d,g6 ds with
  | some k,some ks=>some (k::ks)
  | _,_=>none
def kP_inv(r:Rp q h O d v)(e:mn d=some k):v=kP k:=by
 cases d with
 | tup ds=>obtain⟨xs,rfl,r⟩:=r;rw[gI r e];rfl
 | _=>cases e
def sw:∀{ds:List D} {xs:List PV} {ks:List (List Int)},Rps q h O ds xs->g6 ds=some ks->xs=ks.map kP
 | [],_,_,r,e=>by rw[show _=[] from r];cases e;rfl
 | d::ds,_,ks,⟨x,t,ex,a,b⟩,e=>by
  subst ex;rw[g6] at e
  cases e1:mn d with
  | none=>rw[e1] at e;cases e
  | some k =>
   cases e2:g6 ds with
   | none=>rw[e1,e2] at e;cases e
   | some ks' =>
    rw[e1,e2] at e;cases e;rw[kP_inv a e1,sw b e2];rfl
def kOf_kP(k:List Int):kOf (kP k)=some k:=ph k
def pZ:∀(ks:List (List Int)),ji (ks.map kP)=some ks
 | []=>rfl
 | k::ks=>by rw[qaL,ji,kOf_kP,pZ ks]
def mj:∀(bs:List Int),Rps q h O (bs.map .int) (bs.map .int)
 | []=>rfl
 | b::bs=>⟨_,_,rfl,rfl,mj bs⟩
def q0:∀(ks:List (List Int)),Rps q h O (ks.map kD) (ks.map kP)
 | []=>rfl
 | b::bs=>⟨_,_,rfl,⟨_,rfl,mj b⟩,q0 bs⟩
def Vw.lstOf(w:Vw q h L O (.lst ds) v):∃xs,MM.fE h v=some xs/\Rps q h O ds xs:=by
 obtain⟨n,xs,rfl,g,r⟩:=w.lst;exact⟨xs,by simp[MM.fE,g],r⟩
def gvL(bd:Bd h O)(r:∀h O,Rps q h O ds xs):Gv q h O true (.ok (.loc h.length) (h++[.lst xs])) (.lst ds):=by
 have g:(h++[MO.lst xs])[h.length]?=some (.lst xs):=by simp
 exact⟨_,_,rfl,⟨_,_,rfl,fun z=>by have:=bd _ z;ext,g,r _ _⟩,fun _ ds' e=>by cases e;exact⟨_,_,rfl,qah _,g,r _ _⟩⟩
def cSS:OpN where
 k:=fun vs h1=>match vs with
  | [x]=>(match (fE h1 x).bind ji with
   | some ks=>if (∀k∈ks,k≠[])/\(ded ks).length<=66 then .ok (.loc h1.length) (h1++[.lst ((cN (ded ks)).map kP)]) else .bad
   | none=>.bad)
  | _=>.bad
 p:=fun as=>match as with
  | [.lst ds]=>(g6 ds).bind fun ks=>if (∀k∈ks,k≠[])/\(ded ks).length<=66 then some (.lst ((cN (ded ks)).map kD)) else none
  | _=>none
 fr:=true
 ok {q h L O as xs d} bd w e:=by
  match as,e with
  | [.lst ds],e =>
   obtain⟨x,rfl,wx⟩:=dR w;obtain⟨ys,e0,r⟩:=wx.lstOf;rw[qaT] at e;obtain⟨ks,e1,e2⟩:=e;by_cases z:(∀k∈ks,k≠[])/\(ded ks).length<=66
   ·rw[qai z] at e2;cases e2;simp only[e0,qbv,sw r e1,pZ];rw[qai z];exact gvL bd fun _ _=>q0 _
   ·rw[qal z] at e2;cases e2
def cL(lo:Int)(n:Nat):List D:=(List.range n).map fun (i:Nat)=>D.int (lo+(i:Int))
def oB:Rps q h O (cL lo n) (bq lo n):=by
 have:=mj (q:=q) (h:=h) (O:=O) ((List.range n).map fun (i:Nat)=>lo+(i:Int))
 rw[qbF,qbF] at this;exact this
def cLR:OpN where
 k:=fun vs h1=>match vs with
  | [.int j]=>if -(2 ^ 62)<=j/\j<2 ^ 62/\j.toNat<=sizeLine then .ok (.loc h1.length) (h1++[.lst (bq 0 j.toNat)]) else .bad
  | _=>.bad
 p:=fun as=>match as with
  | [.int j]=>if -100000<=j/\j<=100000 then some (.lst (cL 0 j.toNat)) else none
  | _=>none
 fr:=true
 ok {q h L O as xs d} bd w e:=by
  match as,e with
  | [.int j],e =>
   obtain⟨x,rfl,wx⟩:=dR w;rw[wx.int];dsimp only at e;by_cases z:-100000<=j/\j<=100000
   ·rw[qai z] at e;cases e;dsimp only
    have:=da
    rw[qai ⟨by ext,by ext,by ext⟩];exact gvL bd fun _ _=>oB
   ·rw[qal z] at e;cases e
def iR1:OpI where
 k:=fun vs h1=>match vs with
  | [.int j]=>if -(2 ^ 62)<=j/\j<2 ^ 62 then .ok ⟨bq 0 j.toNat,[]⟩ h1 else .bad
  | _=>.bad
 p:=fun as=>match as with
  | [.int j]=>if -100000<=j/\j<=100000 then some (cL 0 j.toNat) else none
  | _=>none
 ok {q h L O as xs d} hq hO bd w e:=by
  match as,e with
  | [.int j],e =>
   obtain⟨x,rfl,wx⟩:=dR w;rw[wx.int];dsimp only at e;by_cases z:-100000<=j/\j<=100000
   ·rw[qai z] at e;cases e;dsimp only;rw[qai ⟨by ext,by ext⟩];exact⟨_,rfl,oB,(fun _ hg=>nomatch hg),fun _ _ hg=>nomatch hg⟩
   ·rw[qal z] at e;cases e
def iR2:OpI where
 k:=fun vs h1=>match vs with
  | [.int i,.int j]=>if -(2 ^ 62)<=i/\i<2 ^ 62 /\ -(2 ^ 62)<=j/\j<2 ^ 62 then .ok ⟨bq i (j - i).toNat,[]⟩ h1 else .bad
  | _=>.bad
 p:=fun as=>match as with
  | [.int i,.int j]=>if (-100000<=i/\i<=100000) /\ -100000<=j/\j<=100000 then some (cL i (j - i).toNat) else none
  | _=>none
 ok {q h L O as xs d} hq hO bd w e:=by
  match as,e with
  | [.int i,.int j],e =>
   obtain⟨x,y,rfl,wx,wy⟩:=vws2 w;rw[wx.int,wy.int];dsimp only at e;by_cases z:(-100000<=i/\i<=100000) /\ -100000<=j/\j<=100000
   ·rw[qai z] at e;cases e;dsimp only;rw[qai ⟨by ext,by ext,by ext,by ext⟩];exact⟨_,rfl,oB,(fun _ hg=>nomatch hg),fun _ _ hg=>nomatch hg⟩
   ·rw[qal z] at e;cases e
def Vw.sqAny(hq:q<L)(hO:q∈O)(w:Vw q h L O d v)(e:d.items=some ds):∃t xs gd,MM.fb v h=some (t,xs,gd)/\Rps q h O ds xs/\(∀g∈gd,h[g.1]?=some (.lst g.2)/\g.1≠q)/\(Rp q h O d v->∀g∈gd,g.1∉O):=by
 obtain⟨xs,gd,e1,r,g1,g2⟩:=w.seq hq hO e
 cases d with
 | lst es =>
  cases e;obtain⟨n,ys,rfl,g,r'⟩:=w.lst;simp only[itAny,g] at e1;cases e1;exact⟨false,xs,[(n,xs)],by simp[MM.fb,g],r',g1,g2⟩
 | tup es =>
  cases e;obtain⟨ys,rfl,r'⟩:=w.tup;simp only[itAny] at e1;cases e1;exact⟨true,_,[],rfl,r',g1,g2⟩
 | _=>cases e
def jo(ds:List D):List D:=ds.zipIdx.map fun p=>.tup [.int (p.2:Int),p.1]
def sQ:∀{ds:List D} {xs:List PV} (n:Nat),Rps q h O ds xs->Rps q h O ((ds.zipIdx n).map fun p=>.tup [.int (p.2:Int),p.1]) ((xs.zipIdx n).map fun p=>.tup [.int (p.2:Int),p.1])
 | [],_,_,r=>by rw[show _=[] from r];rfl
 | d::ds,_,n,⟨x,t,e,a,b⟩=>by
  subst e;exact⟨_,_,rfl,⟨_,rfl,⟨_,_,rfl,rfl,⟨_,_,rfl,a,rfl⟩⟩⟩,sQ (n+1) b⟩
def iE:OpI where
 k:=fun vs h1=>match vs with
  | [x]=>(match fb x h1 with
   | some (_,xs,gd)=>.ok ⟨gR xs,gd⟩ h1
   | none=>.bad)
  | _=>.bad
 p:=fun as=>match as with
  | [d]=>d.items.map jo
  | _=>none
 ok {q h L O as xs d} hq hO bd w e:=by
  match as,e with
  | [a],e =>
   obtain⟨x,rfl,wx⟩:=dR w;rw[qaD] at e;obtain⟨ds,e1,rfl⟩:=e;obtain⟨t,ys,gd,e2,r,g1,g2⟩:=wx.sqAny hq hO e1;refine⟨⟨gR ys,gd⟩,by simp only[e2],sQ 0 r,g1,fun z=>g2 ?_⟩;obtain⟨x',r',e3,a,_⟩:=z;cases e3;exact a
def cV(xs:List D)(lo hi:Option Int):List D:=(xs.drop (HT.sIx xs.length 0 lo)).take (HT.sIx xs.length xs.length hi - HT.sIx xs.length 0 lo)
def oQ(lo hi:Option Int)(r:Rps q h O ds xs):Rps q h O (cV ds lo hi) (dv xs lo hi):=by
 unfold cV dv;rw[r.length];exact (r.drop _).take _
structure Xo (ws:List Nat) where
 m:Mx (Option Int)
 p:aE->Pen->PR (Option Int)
 ok:∀{q h L B O σ env s},Cx q h L B O ws σ env s->Ok q h (m σ h) (p env s) (fun _ a b=>a=b)
section
variable {ws:List Nat}
def xNo:Xo ws where
 m:=mNo
 p:=fun _ s=>.ok none s
 ok {q h L B O σ env s} c:=⟨none,h,rfl,KB.refl _ _,c.pen,rfl⟩
def xPt(e:Xe ws):Xo ws where
 m:=mPt e.m
 p:=fun env s=>(e.p env s).bind fun d s=>match d with
  | .int i=>.ok (some i) s
  | _=>.bad
 ok {q h L B O σ env s} c:=by
  refine (e.ok c).bind fun x v h1 s1 k1 p1 ⟨w,_,_⟩=>?_
  cases x with
  | int i=>rw[w.int];exact⟨some i,h1,rfl,KB.refl _ _,p1,rfl⟩
  | _=>trivial
def slD(d:D)(lo hi:Option Int):Option D:=match d with
 | .lst ds=>some (.lst (cV ds lo hi))
 | .tup ds=>if HT.sIx ds.length 0 lo=0/\HT.sIx ds.length ds.length hi=ds.length then none else some (.tup (cV ds lo hi))
 | _=>none
def sl_ok(bd:Bd h O)(w:Vw q h L O a x)(e:slD a lo hi=some d):Gv q h O true (fSl x lo hi h) d:=by
 cases a with
 | lst ds =>
  cases e;obtain⟨n,xs,rfl,g,r⟩:=w.lst;simp only[fSl,g];have r:=oQ lo hi r;have m:Mv O h O (h++[MO.lst (dv xs lo hi)]):=⟨fun n hn _=>qan hn,fun o ho=>.inl ho⟩
  have m2:Mv O h (h.length::O) (h++[MO.lst (dv xs lo hi)]):=⟨fun n hn _=>qan hn,fun o ho=>by
   rcases qao.mp ho with z|z
   ·exact .inr (by ext)
   ·exact .inl z⟩
  have g:(h++[MO.lst (dv xs lo hi)])[h.length]?=some (.lst (dv xs lo hi)):=by simp
  exact⟨_,_,rfl,⟨_,_,rfl,fun z=>by have:=bd _ z;ext,g,r.mv m⟩,fun _ ds' e=>by cases e;exact⟨_,_,rfl,qah _,g,r.mv m2⟩⟩
 | tup ds =>
  unfold slD at e;dsimp only at e;by_cases z:HT.sIx ds.length 0 lo=0/\HT.sIx ds.length ds.length hi=ds.length
  ·rw[qai z] at e;cases e
  ·rw[qal z] at e;cases e;obtain⟨xs,rfl,r⟩:=w.tup;simp only[fSl];rw[r.length,qal z];exact gv0 ⟨_,rfl,oQ lo hi r⟩ fun _ _ e=>by cases e
 | _=>cases e
def xSl(a:Xe ws)(lo hi:Xo ws):Xe ws where
 m:=mSl a.m lo.m hi.m
 p:=fun env s=>(a.p env s).bind fun x s=>(lo.p env s).bind fun l s=>(hi.p env s).bind fun u s=>.of (slD x l u) s
 fz:=true
 fr:=true
 ok {q h L B O σ env s} c:=by
  refine (a.ok c).bind fun x v h1 s1 k1 p1 ⟨w,_,_⟩=>?_;have c1:=c.kb k1 p1;refine (lo.ok c1).bind fun l l' h2 s2 k2 p2 e=>?_;subst e;have c2:=c1.kb k2 p2;refine (hi.ok c2).bind fun u u' h3 s3 k3 p3 e=>?_;subst e;have c3:=c2.kb k3 p3
  cases e:slD x l u with
  | none=>trivial
  | some d =>
   obtain⟨y,g,e1,r,r'⟩:=sl_ok c3.bd ((w.kb k2 c.pO c.pL).kb k3 c.pO c.pL) e;exact give (qaw (qaw k1.len k2.len) k3.len) p3 ⟨y,g,by rw[e1];rfl,r,r'⟩
end
def lg:OpM where
 m:=fX
 p:=fun ds as=>match as with
  | [a]=>if ds.length<100000 then some (.non,ds++[a]) else none
  | _=>none
 ok {q h O n xs ds as vs d ds'} g r ra e:=by
  match as,e with
  | [a],e =>
   obtain⟨x,t,rfl,a,b⟩:=ra
   have:t=[]:=b
   subst this;dsimp only at e;by_cases z:ds.length<100000
   ·rw[qai z] at e;cases e;refine⟨.non,xs++[x],?_,r.app ⟨x,[],rfl,a,rfl⟩,rfl⟩;simp only[fX,g];rw[qai (by have:=da;rw[r.length];ext)]
   ·rw[qal z] at e;cases e
def oq:OpM where
 m:=fZ
 p:=fun ds as=>match as with
  | [a]=>a.items.bind fun es=>if ds.length+es.length<=100000 then some (.non,ds++es) else none
  | _=>none
 ok {q h O n xs ds as vs d ds'} g r ra e:=by
  match as,e with
  | [a],e =>
   obtain⟨x,t,rfl,w,b⟩:=ra
   have:t=[]:=b
   subst this;rw[qaT] at e;obtain⟨es,e1,e2⟩:=e;by_cases z:ds.length+es.length<=100000
   ·rw[qai z] at e2;cases e2;have hb:=da
    cases a with
    | lst es' =>
     cases e1;obtain⟨m,ys,rfl,_,g',r'⟩:=w;refine⟨.non,xs++ys,?_,r.app r',rfl⟩;simp only[fZ,g,g'];rw[qai (by rw[r.length,r'.length];ext)]
    | tup es' =>
     cases e1;obtain⟨ys,rfl,r'⟩:=w;refine⟨.non,xs++ys,?_,r.app r',rfl⟩;simp only[fZ,g];rw[qai (by rw[r.length,r'.length];ext)]
    | _=>cases e1
   ·rw[qal z] at e2;cases e2
def nY:OpM where
 m:=io
 p:=fun ds as=>match as with
  | [.int i,a]=>if (0<=i/\i<=100000)/\ds.length<100000 then some (.non,ds.take (min i.toNat ds.length)++a::ds.drop (min i.toNat ds.length)) else none
  | _=>none
 ok {q h O n xs ds as vs d ds'} g r ra e:=by
  match as,e with
  | [.int i,a],e =>
   obtain⟨x,t,rfl,hx,y,t',rfl,w,b⟩:=ra
   have:t'=[]:=b
   subst this;rw[show x=PV.int i from hx];dsimp only at e;by_cases z:(0<=i/\i<=100000)/\ds.length<100000
   ·rw[qai z] at e;cases e;refine⟨.non,kg xs i y,?_,?_,rfl⟩
    ·simp only[io,g];rw[qai ⟨by ext,by have:=da;rw[r.length];ext⟩]
    ·unfold kg;rw[qal (by ext),r.length];exact (r.take _).app ⟨y,_,rfl,w,r.drop _⟩
   ·rw[qal z] at e;cases e
end
section
variable {ws:List Nat} {env:aE} {s:Pen}
@[simp] theorem aJ{d:D}{r:aE}:(af 0:Xe ws).p (some d::r) s=.ok d s:=rfl
@[simp] theorem aT{i:Nat}{o:Option D}{r:aE}:(af (i+1):Xe ws).p (o::r) s=(af i:Xe ws).p r s:=by simp[af]
theorem iM(e:env[i]?=some (some d)):(af i:Xe ws).p env s=.ok d s:=by
 show (match env[i]? with | some (some d)=>PR.ok d s | _=>.bad)=_;rw[e]
@[simp] theorem bC:(xC k:Xe ws).p env s=.ok k.d s:=rfl
@[simp] theorem kJ:Cn.non.d=.non:=rfl
@[simp] theorem cn_bl:(Cn.bl b).d=.bl b:=rfl
@[simp] theorem bf:(Cn.int b).d=.int b:=rfl
@[simp] theorem iA:(Cn.str b).d=.str b:=rfl
@[simp] theorem aQ:(ao o a b).p env s=(a.p env s).bind fun x s1=>(b.p env s1).bind fun y s2=>.of (o.p x y) s2:=rfl
@[simp] theorem fU:(xUn o a).p env s=(a.p env s).bind fun x s1=>.of (o.p x) s1:=rfl
@[simp] theorem aI:(xNil:Xs ws).p env s=.ok [] s:=rfl
@[simp] theorem aC:(aa a r).p env s=(a.p env s).bind fun x s1=>(r.p env s1).bind fun y s2=>.ok (x::y) s2:=rfl
@[simp] theorem cr:(xCb o a).p env s=(a.p env s).bind fun x s1=>.of (o.p x) s1:=rfl
@[simp] theorem aS:(aw f a h).p env s=(a.p env s).bind f.p:=rfl
@[simp] theorem di:(be a h).p env s=(a.p env s).bind fun x s1=>if x.length<=100000 then .ok (.lst x) s1 else .bad:=rfl
@[simp] theorem dA:(ar a h).p env s=(a.p env s).bind fun x s1=>if x.length<=100000 then .ok (.tup x) s1 else .bad:=rfl
@[simp] theorem xDic_p:(xDic:Xe ws).p env s=.ok .dic s:=rfl
@[simp] theorem dM:(xB a).p env s=(a.p env s).bl:=rfl
@[simp] theorem dC:(cE a).p env s=(a.p env s).bind fun b s=>.ok (!b) s:=rfl
@[simp] theorem jG:(xOr a b).p env s=(a.p env s).bind fun x s=>if x=true then .ok true s else b.p env s:=rfl
@[simp] theorem xTrue_p:(xTrue:Xt ws).p env s=.ok true s:=rfl
@[simp] theorem uW:(g8 a b).p env s=(a.p env s).bl.bind fun x s=>if x=true then (b.p env s).bl.bind fun y s=>.ok (.bl y) s else .ok (.bl false) s:=rfl
@[simp] theorem xNotV_p:(xNotV a).p env s=(a.p env s).bl.bind fun x s=>.ok (.bl (!x)) s:=rfl
@[simp] theorem xChain_p:(kN f g a b e).p env s=(a.p env s).bind fun x s1=>(b.p env s1).bind fun y s2=>match f.p x y with
  | some (.bl t)=>if t=true then (e.p env s2).bind fun z s3=>.of (g.p y z) s3 else .ok (.bl false) s2
  | _=>.bad:=rfl
@[simp] theorem kE:(fu o a).p env s=(a.p env s).bind fun x s1=>.of (o.p x) s1:=rfl
@[simp] theorem xl:(dw a).p env s=(a.p env s).bind fun x s1=>.of x.items s1:=rfl
@[simp] theorem xNm_p{i:Nat}{h:ws.contains i=false}{d:D}:(xNm i h).p d env=some (env.set i (some d)):=rfl
@[simp] theorem xGl_p:(xGl:Xgs ws).p [] env=some env:=rfl
@[simp] theorem xGc_p:(xGc a t).p (d::ds) env=(a.p d env).bind fun env1=>t.p ds env1:=rfl
@[simp] theorem xGp_p:(xGp t n).p (.tup ds) env=if ds.length=n then t.p ds env else none:=rfl
@[simp] theorem vc{nv:Nat}{fm:List Nat}{i:Xi ws}{ws':List Nat}{g:Xg ws'}{t:Xt ws'}{e:Xe ws'}{hw:cws nv fm ws=ws'}{hz:e.fz=true}:(cu nv fm i g t e hw hz).p env s=(i.p env s).bind fun ds s1=>if ds.length<=100000 then (match dJ g.p t.p e.p ds (cenv nv fm env) s1 with
  | .ok r s2=>.ok (.lst r) s2
  | _=>.bad) else .bad:=rfl
@[simp] theorem qP:(xNo:Xo ws).p env s=.ok none s:=rfl
@[simp] theorem qN:(xPt e).p env s=(e.p env s).bind fun d s=>match d with
  | .int i=>.ok (some i) s
  | _=>.bad:=rfl
@[simp] theorem xSl_p:(xSl a lo hi).p env s=(a.p env s).bind fun x s=>(lo.p env s).bind fun l s=>(hi.p env s).bind fun u s=>.of (slD x l u) s:=rfl
@[simp] theorem au:(aL a b).p env s=(a.p env s).then b.p:=rfl
@[simp] theorem bx:(xSkip:Xd ws).p env s=.nx env s:=rfl
@[simp] theorem cg:(bi e).p env s=(e.p env s).go env fun d _ s=>.rt d s:=rfl
theorem uj{i:Nat}{h:ws.contains i=true}{d:D}(e:env[i]?=some (some d)):(wB i h).p env s=.rt d s:=by
 show (match env[i]? with | some (some d)=>PS.rt d s | _=>.bad)=_;rw[e]
@[simp] theorem vt:(jI e).p env s=(e.p env s).go env fun _=>.nx:=rfl
@[simp] theorem bz:(xIf t a b).p env s=(t.p env s).go env fun x env s=>if x=true then a.p env s else b.p env s:=rfl
@[simp] theorem bT:(bB i e hi hz).p env s=(e.p env s).go env fun d env s=>.nx (env.set i (some d)) s:=rfl
@[simp] theorem iz:(g7 i e hi hz).p env s=(e.p env s).go env fun d env s=>match d with
  | .lst ds=>.nx (env.set i (some (.lst ds))) s
  | _=>.bad:=rfl
@[simp] theorem xAsg_p:(sk e g hz).p env s=(e.p env s).go env fun d env s=>match g.p d env with
  | some env1=>.nx env1 s
  | none=>.bad:=rfl
@[simp] theorem xRaise_p:(nP x a).p env s=(a.p env s).go env fun ds env s=>if ds.length<=100000 then .rse x env s else .bad:=rfl
@[simp] theorem kf:(oK i g b hz).p env s=(i.p env s).go env fun ds env s=>pGo g.p b.p ds env s:=rfl
@[simp] theorem xMt_p:(xMt o i a hi hz).p env s=pMt o i a.p env s fun _=>.nx:=rfl
theorem bE{hw}(hl:ds.length=np):(cF n np b hw).p ds s=(b.p (dSt n ds) s).fin:=by
 show (if ds.length=np then _ else _)=_;rw[qai hl]
variable {i j:Int} {b:Bool} {x y:List D}
@[simp] theorem uw:bY.p (.int i) (.int j)=some (.int (i+j)):=rfl
theorem eJ(h:x.length+y.length<=100000):bY.p (.lst x) (.lst y)=some (.lst (x++y)):=by
 show (if x.length+y.length<=100000 then _ else _)=_;rw[qai h]
@[simp] theorem og:cX.p (.int i) (.int j)=some (.int (i - j)):=rfl
@[simp] theorem oLt_ii:oLt.p (.int i) (.int j)=some (.bl (decide (i<j))):=rfl
@[simp] theorem oLe_ii:oLe.p (.int i) (.int j)=some (.bl (decide (i<=j))):=rfl
@[simp] theorem oGt_ii:oGt.p (.int i) (.int j)=some (.bl (decide (j<i))):=rfl
@[simp] theorem kU:oIx.p (.lst x) (.int j)=atI x j:=rfl
@[simp] theorem oIx_t:oIx.p (.tup x) (.int j)=atI x j:=rfl
theorem oMod_ii(h:j≠0):oMod.p (.int i) (.int j)=some (.int (i.fmod j)):=by
 show (if j≠0 then _ else _)=_;rw[qai h]
@[simp] theorem xg:(bP Ts).p d=(tyD d).map fun t=>.bl (Ts.any (bH t)):=rfl
@[simp] theorem ty_non:tyD .non=some "NoneType":=rfl
@[simp] theorem ty_bl:tyD (.bl b)=some "bool":=rfl
@[simp] theorem ty_int:tyD (.int i)=some "int":=rfl
@[simp] theorem ty_str:tyD (.str z)=some "str":=rfl
@[simp] theorem ty_tup:tyD (.tup x)=some "tuple":=rfl
@[simp] theorem ty_lst:tyD (.lst x)=some "list":=rfl
@[simp] theorem ty_dic:tyD .dic=some "dict":=rfl
@[simp] theorem cMin_ii:cMin.p [.int i,.int j]=some (.int (if j<i then j else i)):=rfl
@[simp] theorem cMax_ii:cMax.p [.int i,.int j]=some (.int (if j>i then j else i)):=rfl
@[simp] theorem cInt_b:r9.p [.bl b]=some (.int (if b then 1 else 0)):=rfl
@[simp] theorem cInt_i:r9.p [.int i]=some (.int i):=rfl
@[simp] theorem cLen_l:eO.p [.lst x]=some (.int x.length):=rfl
@[simp] theorem nO:eO.p [.tup x]=some (.int x.length):=rfl
theorem iI(h:x.length<=100000):dZ.p [.tup x]=some (.lst x):=by
 show (if x.length<=100000 then _ else _)=_;rw[qai h]
@[simp] theorem tS:kI.p [.lst x]=some (.tup x):=rfl
@[simp] theorem cTuple_t:kI.p [.tup x]=some (.tup x):=rfl
theorem cLR_i(h:-100000<=i/\i<=100000):cLR.p [.int i]=some (.lst (cL 0 i.toNat)):=by
 show (if _ then _ else _)=_;rw[qai h]
def iR1_i(h:-100000<=i/\i<=100000):iR1.p [.int i]=some (cL 0 i.toNat):=by
 show (if _ then _ else _)=_;rw[qai h]
def iR2_i(h:(-100000<=i/\i<=100000) /\ -100000<=j/\j<=100000):iR2.p [.int i,.int j]=some (cL i (j - i).toNat):=by
 show (if _ then _ else _)=_;rw[qai h]
@[simp] theorem iE_l:iE.p [.lst x]=some (jo x):=rfl
@[simp] theorem slD_l:slD (.lst x) lo hi=some (.lst (cV x lo hi)):=rfl
theorem pd(h:x.length<100000):lg.p x [a]=some (.non,x++[a]):=by
 show (if _ then _ else _)=_;rw[qai h]
def xt(h:x.length+y.length<=100000):oq.p x [.lst y]=some (.non,x++y):=by
 show (if _ then _ else _)=_;rw[qai h]
def w8{a:D}{i:Nat}(h:i<=x.length)(hl:x.length<100000):nY.p x [.int i,a]=some (.non,x.take i++a::x.drop i):=by
 show (if _ then _ else _)=_;rw[qai ⟨by ext,hl⟩,qaN,Nat.min_eq_left h]
end
section
variable {i j:Int} {b c:Bool}
def gM(h1:x.canLay0=true)(h2:x.depth<=64):SeqAt.shaped x=true:=by simp[SeqAt.shaped,h1,h2]
@[simp] theorem xk:eqD neg (.int i) (.int j)=some (.bl (if neg then !decide (i=j) else decide (i=j))):=by
 simp[eqD,py,dep,SeqAt.shaped,PyData.canLay0,PyData.depth,PyData.eqv,qbL]
@[simp] theorem eqD_bb:eqD neg (.bl b) (.bl c)=some (.bl (if neg then !(b == c) else b == c)):=by
 simp[eqD,py,dep,SeqAt.shaped,PyData.canLay0,PyData.depth,PyData.eqv]
@[simp] theorem oEq_p:oEq.p a d=eqD false a d:=rfl
@[simp] theorem g0:oNe.p a d=eqD true a d:=rfl
theorem jk:∀(k:List Int),pys (k.map .int)=some (k.map .int)/\deps (k.map .int)=0
 | []=>⟨rfl,rfl⟩
 | i::k=>by
  obtain⟨a,b⟩:=jk k;simp[pys,py,a,deps,dep,b]
def lZ:∀(ks:List (List Int)),pys (ks.map kD)=some (ks.map fun k=>.tuple (k.map .int))/\deps (ks.map kD)<=1
 | []=>⟨rfl,by simp[deps]⟩
 | k::ks=>by
  obtain⟨a,b⟩:=lZ ks;obtain⟨c,d⟩:=jk k;constructor
  ·simp[pys,kD,py,a,c]
  ·simp only[qaL,deps,kD,dep,d];lia
def ic:∀(k k':List Int),PyData.eqvAll (k.map .int) (k'.map .int)=decide (k=k')
 | [],[]=>by simp[PyData.eqvAll]
 | [],_::_=>by simp[PyData.eqvAll]
 | _::_,[]=>by simp[PyData.eqvAll]
 | a::k,b::k'=>by
  simp only[qaL,PyData.eqvAll,PyData.eqv,ic k k',qbL];by_cases z:a=b <;> simp[z]
def yO{neg:Bool}{xs ys:List Int}:eqD neg (.lst (xs.map .int)) (.lst (ys.map .int))=some (.bl (if neg then !decide (xs=ys) else decide (xs=ys))):=by
 obtain⟨a,b⟩:=jk xs;obtain⟨c,d⟩:=jk ys;obtain⟨l1,l2⟩:=js xs;obtain⟨l3,l4⟩:=js ys;simp only[eqD,py,a,c,qbB];rw[qai ⟨⟨by simp[dep,b],by simp[dep,d]⟩,gM (by simpa [PyData.canLay0] using l1) (by simp only[PyData.depth];lia),gM (by simpa [PyData.canLay0] using l3) (by simp only[PyData.depth];lia)⟩];simp only[PyData.eqv,ic]
end
@[simp] theorem pGo_nil:pGo g b [] env s=.nx env s:=rfl
theorem rB(e:g d env=some env1):pGo g b (d::ds) env s=(b env1 s).turn (pGo g b ds):=by
 rw[pGo,e]
def iN(I:Nat->aE->Pen->Prop):∀(ds:List D) (j:Nat) (env:aE) (s:Pen),I j env s ->
  (∀m env s d,I (j+m) env s->ds[m]?=some d->∃env1 env' s',g d env=some env1/\b env1 s=.nx env' s'/\I (j+m+1) env' s')->∃env' s',pGo g b ds env s=.nx env' s'/\I (j+ds.length) env' s'
 | [],j,env,s,hI,_=>⟨env,s,rfl,hI⟩
 | d::ds,j,env,s,hI,st=>by
  obtain⟨env1,env2,s2,e1,e2,I2⟩:=st 0 env s d hI rfl;obtain⟨env3,s3,e3,I3⟩:=iN I ds (j+1) env2 s2 I2 fun m env' s' x q z=>by
   have:=st (m+1) env' s' x (by rw[show j+(m+1)=j+1+m by lia];exact q) (by simpa using z)
   rw[show j+(m+1)+1=j+1+m+1 by lia] at this;exact this
  refine⟨env3,s3,?_,by rw[qaQ,show j+(ds.length+1)=j+1+ds.length by lia];exact I3⟩;rw[rB e1,e2];exact e3
def nB(p:D->Bool)(f:D->D):∀(ds:List D) (vs:aE),vs.length=nv ->
  (∀x∈ds,∀vs:aE,vs.length=nv->∃vs':aE,vs'.length=nv/\g x (vs++fr)=some (vs'++fr)/\t (vs'++fr) s=.ok (p x) s/\(p x=true->e (vs'++fr) s=.ok (f x) s))->dJ g t e ds (vs++fr) s=.ok ((ds.filter p).map f) s
 | [],vs,hv,body=>rfl
 | x::ds,vs,hv,body=>by
  obtain⟨vs',hv',e1,e2,e3⟩:=body x (by simp) vs hv;have ih:=nB p f ds vs' hv' fun y hy=>body y (qam _ hy);rw[dJ,e1];dsimp only;rw[e2]
  cases hp:p x with
  | true=>simp only[Pb,if_true,e3 hp,ih,List.filter_cons_of_pos hp,qaL]
  | false=>simp only[Pb,qac,if_false,ih,List.filter_cons_of_neg (show ¬p x=true by simp[hp])]
def vX{ws ws':List Nat}{env:aE}{s:Pen}{nv:Nat}{fm:List Nat}{i:Xi ws}{g:Xg ws'}{t:Xt ws'}{e:Xe ws'}{hw:cws nv fm ws=ws'}{hz:e.fz=true}{ds:List D}(p:D->Bool)(f:D->D)(ei:i.p env s=.ok ds s)(hl:ds.length<=100000)
  (body:∀x∈ds,∀vs:aE,vs.length=nv->∃vs':aE,vs'.length=nv/\g.p x (vs++fm.map fun i=>(env[i]?).getD none)=some (vs'++fm.map fun i=>(env[i]?).getD none)/\t.p (vs'++fm.map fun i=>(env[i]?).getD none) s=.ok (p x) s/\(p x=true->e.p (vs'++fm.map fun i=>(env[i]?).getD none) s=.ok (f x) s)) :
  (cu nv fm i g t e hw hz).p env s=.ok (.lst ((ds.filter p).map f)) s:=by
 rw[vc,ei,Pb,qai hl];unfold cenv;rw[nB p f ds _ (by simp) body]
def qG{ws ws':List Nat}{env:aE}{s:Pen}{fm:List Nat}{i:Xi ws}{t:Xt ws'}{e:Xe ws'}{ds:List D}(p:D->Bool)(f:D->D)(ei:i.p env s=.ok ds s)(hl:ds.length<=100000)
  (body:∀x∈ds,t.p (some x::fm.map fun i=>(env[i]?).getD none) s=.ok (p x) s/\(p x=true->e.p (some x::fm.map fun i=>(env[i]?).getD none) s=.ok (f x) s)) (h0:ws'.contains 0=false:=by exact ys rfl) (hw:cws 1 fm ws=ws':=by exact ys rfl) (hz:e.fz=true:=by exact ys rfl) :
  (cu 1 fm i (xNm 0 h0) t e hw hz).p env s=.ok (.lst ((ds.filter p).map f)) s :=
 vX p f ei hl fun x hx vs hv=>match vs,hv with
  | [_],_=>⟨[some x],rfl,rfl,body x hx⟩
end PU
namespace PU
open PySem MM SetT SortT
open L2 (ixN atI eK)
def kc{α:Type}(l:List α):(l.filter fun _=>true)=l:=List.filter_eq_self.mpr (by simp)
def IsT(n:Int)(k:List Int):Prop:=∃a b:Int,k=[a,b]/\0<=a/\a<n/\0<=b/\b<n/\a≠b
def mmK:List Int->List Int
 | [a,b]=>[if b<a then b else a,if b>a then b else a]
 | k=>k
structure WebT (n:Int) (ks:List (List Int)):Prop where
 n0:0<=n
 n12:n<=12
 tie:∀k∈ks,∃a b:Int,k=[a,b]/\0<=a/\a<b/\b<n
 ris:SortT.Ris ks
 nd:ks.Nodup
def WebT.isT(w:WebT n ks):∀k∈ks,IsT n k:=fun k hk=>by
 obtain⟨a,b,rfl,h1,h2,h3⟩:=w.tie k hk;exact⟨a,b,rfl,h1,by lia,by lia,h3,by lia⟩
def allT:List (List Int):=(List.range 12).flatMap fun b=>(List.range b).map fun (a:Nat)=>[(a:Int),(b:Int)]
def Ai:allT.length=66:=by decide
def yR(hn:n<=12)(h0:0<=a)(h1:a<b)(h2:b<n):[a,b]∈allT:=by
 unfold allT;rw[List.mem_flatMap];refine⟨b.toNat,by simp;lia,?_⟩;rw[qaJ];refine⟨a.toNat,by simp;lia,?_⟩;congr 1
 ·lia
 ·congr 1;lia
def nU{n:Int}{ks:List (List Int)}(hn:n<=12)(hk:∀k∈ks,∃a b:Int,k=[a,b]/\0<=a/\a<b/\b<n)(nd:ks.Nodup):ks.length<=66:=by
 rw[<-Ai];refine List.Nodup.length_le_of_subset nd fun k hk'=>?_;obtain⟨a,b,rfl,h1,h2,h3⟩:=hk k hk';exact yR hn h1 h2 h3
def xc(h:a<b):mmK [a,b]=[a,b]:=by simp[mmK,show ¬b<a by lia,show b>a from h]
def mmK_gt(h:b<a):mmK [a,b]=[b,a]:=by simp[mmK,h,show ¬b>a by lia]
def made{n:Int}{ks hs:List (List Int)}(w:WebT n ks)(h1:∀k∈hs,mmK k∈ks)(h2:∀k∈ks,∃k'∈hs,mmK k'=k):(SetT.ded (hs.map mmK)).length<=66/\cN (SetT.ded (hs.map mmK))=ks:=by
 have mem:∀k,k∈SetT.ded (hs.map mmK)↔k∈ks:=fun k=>by
  rw[SetT.k9,qaJ];exact⟨fun ⟨k',a,b⟩=>b▸h1 k' a,fun hk=>let ⟨k',a,b⟩:=h2 k hk;⟨k',a,b⟩⟩
 have nd:=gT (hs.map mmK);have p:(SetT.ded (hs.map mmK)).Perm ks:=(qcj nd w.nd).mpr mem;refine⟨nU w.n12 (fun k hk=>w.tie k ((mem k).mp hk)) nd,jp (gr _) w.ris ((dS _).trans p)⟩
def upto(n:Nat):List Int:=(List.range n).map fun (i:Nat)=>(i:Int)
def qY:i∈upto n↔0<=i/\i<n:=by
 unfold upto;rw[qaJ];constructor
 ·rintro⟨k,hk,rfl⟩;rw[qbH] at hk;lia
 ·intro ⟨a,b⟩;exact⟨i.toNat,by rw[qbH];lia,by lia⟩
def nd_upto(n:Nat):(upto n).Nodup:=by
 unfold upto;exact List.Pairwise.map (R:=fun a b:Nat=>a≠b) _ (fun a b h=>by intro z;lia) qct
def kC(h:0<=i):∃n:Nat,i=(n:Int):=⟨i.toNat,by lia⟩
def bX(ns:List Int)(j:Nat):List (List Int):=(List.range j).flatMap fun i=>(ns.drop (i+1)).map fun b=>[ns.getD i 0,b]
def su:bX ns (j+1)=bX ns j++(ns.drop (j+1)).map fun b=>[ns.getD j 0,b]:=by
 simp[bX,qcD,List.flatMap_append]
def iW(hn:ns.length<=12):∀(j:Nat),(bX ns j).length<=12 * j
 | 0=>by simp[bX]
 | j+1=>by
  have:=iW hn j
  rw[su,qaR,qaW,qbu];lia
def vU(hs:ns.Pairwise (·<·))(hb:∀x∈ns,0<=x/\x<n):∀k∈bX ns ns.length,∃a b:Int,k=[a,b]/\0<=a/\a<b/\b<n:=fun k hk=>by
 unfold bX at hk;obtain⟨i,hi,hk⟩:=List.mem_flatMap.mp hk;rw[qbH] at hi;obtain⟨b,hb',rfl⟩:=qaJ.mp hk;obtain⟨j,hj,ej⟩:=List.getElem_of_mem hb';rw[qbu] at hj;rw[List.getElem_drop] at ej;have e1:ns.getD i 0=ns[i]:=by simp[List.getD,hi]
 rw[e1];have lt:=qbl.mp hs i (i+1+j) hi (by lia) (by lia);rw[ej] at lt;exact⟨_,_,rfl,(hb _ (qcu hi)).1,lt,(hb _ (qcc hb')).2⟩
end PU
namespace PU
open PySem MM SetT SortT
open L2 (ixN atI eK)
local instance (priority:=1) cdecN10 (p:Prop):Decidable p:=Classical.propDecidable p
noncomputable section
def truD:D->Option Bool
 | .non=>some false
 | .bl b=>some b
 | .int i=>some (i != 0)
 | .tup xs=>some (!xs.isEmpty)
 | .lst xs=>some (!xs.isEmpty)
 | _=>none
def Rps.empty(r:Rps p h O ds vs):vs.isEmpty=ds.isEmpty:=by
 cases ds with
 | nil=>rw[show vs=[] from r];rfl
 | cons d ds=>obtain⟨x,t,e,_⟩:=r;rw[e];rfl
def rH(w:Vw q h L O d v)(e:truD d=some b):mJ h v=some b:=by
 cases d with
 | non=>cases e;rw[w.non];rfl
 | bl c=>cases e;rw[w.bl];rfl
 | int c=>cases e;rw[w.int];rfl
 | tup c=>cases e;obtain⟨xs,rfl,r⟩:=w.tup;rw[mJ,r.empty]
 | lst c=>cases e;obtain⟨n,xs,rfl,g,r⟩:=w.lst;simp only[mJ,g];rw[r.empty]
 | _=>cases e
section
variable {ws:List Nat}
def xTr(a:Xe ws):Xt ws where
 m:=mTr a.m
 p:=fun env s=>(a.p env s).bind fun d s=>.of (truD d) s
 ok {q h L B O σ env s} c:=by
  refine (a.ok c).bind fun x v h1 s1 k1 p1 ⟨w,_,_⟩=>?_
  cases e:truD x with
  | none=>trivial
  | some b=>rw[rH w e];exact⟨b,h1,rfl,KB.refl _ _,p1,rfl⟩
structure OpR where
 m:Nat->List PV->MH->Out PV
 p:List D->List D->Option D
 ok:∀{q:Nat} {h:MH} {L:Nat} {O:List Nat} {n:Nat} {xs:List PV} {ds as:List D} {vs:List PV} {d:D},h[n]?=some (.lst xs)->Rps q h O ds xs->Vws q h L O as vs->p ds as=some d->∃v,m n vs h=.ok v h/\Rp q h O d v/\∀es,d≠.lst es
end
section
variable {ws:List Nat} {env:aE} {s:Pen}
@[simp] theorem xTr_p:(xTr a).p env s=(a.p env s).bind fun d s=>.of (truD d) s:=rfl
end
end
noncomputable section
section
variable {ws:List Nat} {env:aE} {s:Pen}
end
end
noncomputable section
variable {ws:List Nat}
end
end PU
namespace MM
open PySem PySem.Spec PyProof.Rows L2
end MM
namespace PU
open PySem MM
end PU
namespace MM
open PySem PySem.Spec PyProof.Rows L2
abbrev CPm(scope sc:Scope)(vars frees:List Str):Prop:=(∀y∈scope.names,y.2=.cell->scope.names.lookup y.1=some .cell)/\(∀y∈scope.names,y.2=.local->scope.names.lookup y.1=some .local)/\(∀x∈vars,scope.names.lookup x=some .local\/scope.names.lookup x=some .cell)/\(∀x∈frees,scope.names.lookup x=some .free)/\(∀y∈scope.names,y.2=.free->y.1∈frees)/\(∀x∈frees,sc.names.lookup x=some .cell)
def vm{X:Cx}{N:List Str}{scope sc:Scope}{vars frees:List Str}{fm:List Nat}(hsc:X.env.scope=sc)(h1:scope.kind=.function)(h7:fm.map (fun i=>N[i]?)=frees.map some)(h:CPm scope sc vars frees):CompOk X N scope vars frees fm :=
 compOk hsc h1 h.1 h.2.1 h.2.2.1 h.2.2.2.1 h.2.2.2.2.1 h7 h.2.2.2.2.2
def ar1{Q:List Value->Prop}(h:∀a0,Q [a0]):∀us,us.length=1->Q us
 | [_],_=>h _
def ar2{Q:List Value->Prop}(h:∀a0 a1,Q [a0,a1]):∀us,us.length=2->Q us
 | [_,_],_=>h _ _
abbrev Zn(K:qab)(x:Str):Prop:=PySem.W.nsIn K mainGlobals x=some none
abbrev Nn(X:Cx)(x:Str):Prop:=X.mg x=none
abbrev Sc(X:Cx)(s:Stmt):Prop:=X.env.scope=aM s
abbrev Gd(X:Cx)(N G:List Str)(k:Nat):Prop:=Good X N N G k
structure Ba (P:Program) (w:World) (K:qab) (mg:Str->Option Value) (base:Heap):Prop where
 kin:K.In base
 ns:base.Ns mainGlobals mg
structure EE (X:Cx) (P:Program) (w:World) (K:qab) (mg:Str->Option Value) (base:Heap):Prop where
 e1:X.prog=P
 e2:X.w=w
 e3:X.K=K
 e4:X.mg=mg
 e5:X.base=base
 b:Ba P w K mg base
section
variable {P:Program} {w:World} {K:qab} {mg:Str→Option Value} {base:Heap} {X:Cx}
def EE.n(e:EE X P w K mg base){x:Str}(z:Zn K x):Nn X x:=by
 show X.mg x=none;rw[e.e4];exact PySem.W.mg_none_of e.b.kin e.b.ns z
def FnAt.c{x:Str}{ps:List Str}{F:List PV->MH->Out PV}{i j:Nat}(a:FnAt P w K mg base x ps F i)(e:EE X P w K mg base)(h:i<=j:=by decide):Cal X x ps F j :=
 (a.mono h).cal e.e1 e.e2 e.e3 e.e4 e.e5
def fnN{x:Str}{st:Stmt}{N G ps:List Str}{m:Mst}{k:Nat}(b:Ba P w K mg base)(D:DefAt K x st)(hb:∀X:Cx,EE X P w K mg base->Sc X st->Gd X N G k->DefCx X->MSs X (aO st) m)
  (B:lf x st ps:=by first | exact fun _ _ _ _ _ _=>ar1 fun _=>rfl | exact fun _ _ _ _ _ _=>ar2 fun _ _=>rfl | exact fun _ _ _ _ _ _=>ar3 fun _ _ _=>rfl | exact fun _ _ _ _ _ _=>ar4 fun _ _ _ _=>rfl | exact fun _ _ _ _ _ _=>ar5 fun _ _ _ _ _=>rfl)
  (S:FnScope N ps (aM st):=by exact⟨rfl,rfl,rfl,by decide +kernel,rfl,by decide +kernel,by decide +kernel⟩)
  (hl:∀y∈N,(aM st).names.lookup y=some .local\/(aM st).names.lookup y=some .cell:=by decide +kernel) (hgl:∀y∈G,(aM st).names.lookup y=some .globalImplicit:=by decide +kernel)
  (dbg:∀x∈N++G,(x == ("__debug__":Str))=false/\(x == ("__classdict__":Str))=false/\x≠"__name__":=by decide +kernel) :
  FnAt P w K mg base x ps (bh N.length ps.length m) (k+1) :=
 fnAt_M b.kin b.ns D S B hl hgl dbg fun X e1 e2 e3 e4 e5 e6 g dc=>hb X ⟨e1,e2,e3,e4,e5,b⟩ e6 g dc
end
structure YE (Y X:Cx):Prop where
 e1:Y.prog=X.prog
 e2:Y.w=X.w
 e3:Y.K=X.K
 e4:Y.mg=X.mg
 e5:Y.base=X.base
section
variable {X Y:Cx} {N W G:List Str} {k:Nat} {x:Str} {p pos:Pos} {e:Expr} {es:List Expr} {m:Mx (List PV)} {f:List PV→MH→Out PV}
def YE.n(y:YE Y X)(h:X.mg x=none):Y.mg x=none:=y.e4.symm▸h
def YE.c(y:YE Y X){ps:List Str}{F:List PV->MH->Out PV}{i:Nat}(c:Cal X x ps F i):Cal Y x ps F i:=c.at y.e1 y.e2 y.e3 y.e4 y.e5
def kV(g:Good X N W G k)(i:Nat)(hi:N[i]?=some x:=by rfl):ME X (.Name x pos) (ag i):=me_var g i hi
def kNm(g:Good X N W G k)(i:Nat)(hi:N[i]?=some x:=by rfl)(hw:W[i]?=some x:=by rfl):MG X (.Name x pos) (gNm i):=mg_name g i hi hw
def kIx{a b:Expr}{ma mb:Mx PV}(ha:ME X a ma)(hb:ME X b mb)(hs:lr b:=by exact fun _ _=>rfl):ME X (.Subscript a b pos) (ak aR ma mb):=me_ix ha hb hs
def kCm{op:CmpOp}{f:PV->PV->MH->Out PV}{a b:Expr}{ma mb:Mx PV}(ho:OpJ X (compareOp op) f)(ha:ME X a ma)(hb:ME X b mb)(hm:behindInMarks op b=false:=by first | exact nomark _ | rfl):ME X (.Compare a [op] [b] pos) (ak f ma mb):=me_cmp ho ha hb hm
def kTc{op:CmpOp}{f:PV->PV->MH->Out PV}{a b:Expr}{ma mb:Mx PV}(ho:OpJ X (compareOp op) f)(ha:ME X a ma)(hb:ME X b mb)(hm:behindInMarks op b=false:=by first | exact nomark _ | rfl):MT X (.Compare a [op] [b] pos) (mB (ak f ma mb)):=mt_cmp ho ha hb hm
def kCa(g:Good X N W G k)(j:Nat){ps:List Str}{F:List PV->MH->Out PV}(C:Cal X x ps F k)(ha:MA X (e::es) m)(hj:G[j]?=some x:=by rfl)
  (he:starEach (e::es) X.env=(false,eval e X.env)::starEach es X.env:=by rfl) (hpl:(backTo pos (starEach es X.env)).any (·.1)=false:=by rfl):ME X (.Call (.Name x p) (e::es) [] pos) (aF F m):=me_call g hj C ha he hpl
def kCb{id:String}(g:Good X N W G k)(j:Nat)(hc:cH X (.builtin id) f)(hm:X.mg x=none)(hv:bootBuiltins x=some (.builtin id))(ha:MA X (e::es) m)(hj:G[j]?=some x:=by rfl)
  (he:starEach (e::es) X.env=(false,eval e X.env)::starEach es X.env:=by rfl) (hpl:(backTo pos (starEach es X.env)).any (·.1)=false:=by rfl):ME X (.Call (.Name x p) (e::es) [] pos) (mCB f m):=Ah g j hj hc hm hv ha he hpl
def kCt{T:String}(g:Good X N W G k)(j:Nat)(hc:cH X (.type T) f)(hm:X.mg x=none)(hv:bootBuiltins x=some (.type T))(ha:MA X (e::es) m)(hj:G[j]?=some x:=by rfl)
  (he:starEach (e::es) X.env=(false,eval e X.env)::starEach es X.env:=by rfl) (hpl:(backTo pos (starEach es X.env)).any (·.1)=false:=by rfl):ME X (.Call (.Name x p) (e::es) [] pos) (mCB f m):=xh g j hj hc hm hv ha he hpl
def kR1{tg a:Expr}(g:Good X N W G k)(j:Nat)(hm:X.mg "range"=none)(ha:MA X [a] m)(hj:G[j]?=some "range":=by rfl)(hs:starEach [a] X.env=[(false,eval a X.env)]:=by rfl):MI X tg (.Call (.Name "range" p) [a] [] pos) (gZ m):=yw (g.gl _ (av hj)) hm ha hs
def kR2{tg a b:Expr}(g:Good X N W G k)(j:Nat)(hm:X.mg "range"=none)(ha:MA X [a,b] m)(hj:G[j]?=some "range":=by rfl)(hs:starEach [a,b] X.env=[(false,eval a X.env),(false,eval b X.env)]:=by rfl)(hs2:starEach [b] X.env=[(false,eval b X.env)]:=by rfl):MI X tg (.Call (.Name "range" p) [a,b] [] pos) (jy m):=xi (g.gl _ (av hj)) hm ha hs hs2
def kEn{elts:List Expr}{x1:Nat}{tp:Pos}{a:Expr}(g:Good X N W G k)(j:Nat)(hm:X.mg "enumerate"=none)(ha:MA X [a] m)(hj:G[j]?=some (("enumerate":String):Str):=by rfl)(hs:starEach [a] X.env=[(false,eval a X.env)]:=by rfl):MI X (.Tuple elts x1 tp) (.Call (.Name "enumerate" p) [a] [] pos) (mItE m):=mi_enum g hj hm ha hs
section
variable {tg iter elt:Expr} {ifs:List Expr} {scope sc:Scope} {mi:Mx MIt} {gt:Mg} {mt:Mx Bool} {me:Mx PV}
def kCp(g:Good X N W G k)(hsc:X.env.scope=sc)(vars frees G':List Str)(fm:List Nat)(hi:MI X tg iter mi)(hY:∀Y:Cx,YE Y X->Good Y (vars++frees) vars G' k->MG Y tg gt/\MTs Y ifs mt/\ME Y elt me)
  (h1:scope.kind=.function:=by rfl) (h7:fm.map (fun i=>N[i]?)=frees.map some:=by rfl) (h:CPm scope sc vars frees:=by decide +kernel)
  (nd:(vars++frees).Nodup:=by decide +kernel) (hgl:∀x∈G',scope.names.lookup x=some .globalImplicit:=by decide +kernel) (dbg:∀x∈(vars++frees)++G',(x == ("__debug__":Str))=false/\(x == ("__classdict__":Str))=false/\x≠"__name__":=by decide +kernel)
  (hs:∀x,foldedSetIterable iter X.env x=pure x:=by exact fun _=>rfl):ME X (.ListComp elt [⟨tg,iter,ifs,0⟩] scope pos) (cv vars.length fm mi gt mt me) :=
 me_comp g (vm hsc h1 h7 h) nd hgl dbg hi (fun Y y1 y2 y3 y4 y5 _ g=>hY Y ⟨y1,y2,y3,y4,y5⟩ g) hs
def kSc{spos py:Pos}{y:Str}(g:Good X N W G k)(hsc:X.env.scope=sc)(i:Nat)(vars frees G':List Str)(fm:List Nat)(hi:MI X tg iter mi)(hY:∀Y:Cx,YE Y X->Good Y (vars++frees) vars G' k->MG Y tg gt/\MTs Y ifs mt/\ME Y elt me)
  (hsw:∀env:Env,env.scope=sc->swapsWith (.ListComp elt [⟨tg,iter,ifs,0⟩] scope pos) (some (.Name y py)) spos.line env=pure true:=by (intro env h;cases env;cases h;rfl))
  (hyi:N[i]?=some y:=by rfl) (hw:W[i]?=some y:=by rfl)
  (h1:scope.kind=.function:=by rfl) (h7:fm.map (fun i=>N[i]?)=frees.map some:=by rfl) (h:CPm scope sc vars frees:=by decide +kernel)
  (nd:(vars++frees).Nodup:=by decide +kernel) (hgl:∀x∈G',scope.names.lookup x=some .globalImplicit:=by decide +kernel) (dbg:∀x∈(vars++frees)++G',(x == ("__debug__":Str))=false/\(x == ("__classdict__":Str))=false/\x≠"__name__":=by decide +kernel)
  (hs:∀x,foldedSetIterable iter X.env x=pure x:=by exact fun _=>rfl):MS X (.Assign [.Name y py] (.ListComp elt [⟨tg,iter,ifs,0⟩] scope pos) spos) (aW i (cv vars.length fm mi gt mt me)) :=
 ms_setC g i hyi hw (hsw X.env hsc) (vm hsc h1 h7 h) nd hgl dbg hi (fun Y y1 y2 y3 y4 y5 _ g=>hY Y ⟨y1,y2,y3,y4,y5⟩ g) hs
end
end
abbrev xX:=@PyProof.Rows.Boot.«abs»
abbrev kF:=@PyProof.Rows.Boot.«min»
abbrev rC:=@PyProof.Rows.Boot.«max»
abbrev nr:=@PyProof.Rows.Boot.«int»
abbrev bt_str:=@PyProof.Rows.Boot.«str»
abbrev cU:=@PyProof.Rows.Boot.«len»
abbrev gc:=@PyProof.Rows.Boot.«list»
abbrev cM:=@PyProof.Rows.Boot.«tuple»
abbrev bt_all:=@PyProof.Rows.Boot.«all»
abbrev lu:=@PyProof.Rows.Boot.«bool»
abbrev qq:=@PyProof.Rows.Boot.«ValueError»
abbrev pJ:=@PySem.F.slot_list_append
abbrev pF:=@PySem.F.type_list_append
abbrev x5:=@PySem.F.slot_list_extend
abbrev yk:=@PySem.F.type_list_extend
abbrev xv:=@PySem.F.slot_list_insert
abbrev xN:=@PySem.F.type_list_insert
end MM
namespace PU
open PySem MM
open L2 (ixN atI eK)
local instance (priority:=1) cdecN15 (p:Prop):Decidable p:=Classical.propDecidable p
noncomputable section
def Rps.rev{p:Nat}{h:MH}{O:List Nat}{ds:List D}{vs:List PV}(r:Rps p h O ds vs):Rps p h O ds.reverse vs.reverse:=by
 induction ds generalizing vs with
 | nil=>rw[show vs=[] from r];rfl
 | cons d ds ih =>
  obtain⟨x,t,e,a,b⟩:=r;subst e;rw[qbD,qbD];exact (ih b).app ⟨x,[],rfl,a,rfl⟩
def zX{q:Nat}{h:MH}{O:List Nat}{ds:List D}{xs:List PV}(hi:Option Int)(r:Rps q h O ds xs):Rps q h O (L2.ci ds hi) (L2.ci xs hi):=by
 cases hi with
 | none=>exact r.rev
 | some k=>exact (r.drop _).rev
def rvD(d:D)(hi st:Option Int):Option D:=match d with
 | .lst ds=>if (∀k,hi=some k->0<=k)/\st=some (-1) then some (.lst (L2.ci ds hi)) else none
 | _=>none
def rv_ok{q:Nat}{h:MH}{L:Nat}{O:List Nat}{a d:D}{x:PV}{hi st:Option Int}(bd:Bd h O)(w:Vw q h L O a x)(e:rvD a hi st=some d):Gv q h O true (fRv x hi st h) d:=by
 cases a with
 | lst ds =>
  unfold rvD at e;dsimp only at e;by_cases z:(∀k,hi=some k->0<=k)/\st=some (-1)
  ·rw[qai z] at e;cases e;obtain⟨n,xs,rfl,g,r⟩:=w.lst;simp only[fRv,g];rw[qai z];have r:=zX hi r;have m:Mv O h O (h++[MO.lst (L2.ci xs hi)]):=⟨fun n hn _=>qan hn,fun o ho=>.inl ho⟩
   have m2:Mv O h (h.length::O) (h++[MO.lst (L2.ci xs hi)]):=⟨fun n hn _=>qan hn,fun o ho=>by
    rcases qao.mp ho with z|z
    ·exact .inr (by lia)
    ·exact .inl z⟩
   have g:(h++[MO.lst (L2.ci xs hi)])[h.length]?=some (.lst (L2.ci xs hi)):=by simp
   exact⟨_,_,rfl,⟨_,_,rfl,fun z=>by have:=bd _ z;lia,g,r.mv m⟩,fun _ ds' e=>by cases e;exact⟨_,_,rfl,qah _,g,r.mv m2⟩⟩
  ·rw[qal z] at e;cases e
 | _=>cases e
section
variable {ws:List Nat}
end
end
noncomputable section
end
noncomputable section
end
end PU
namespace PU
open PySem MM
open L2 (ixN atI eK)
section
variable {ws:List Nat}
end
end PU
namespace PU
open PySem MM L2
end PU
namespace PU
open PySem MM
local instance (priority:=1) cdecN23 (p:Prop):Decidable p:=Classical.propDecidable p
noncomputable section
def bo:Op2 where
 m:=opAddT
 p:=fun a b=>match a,b with
  | .tup [],.tup y=>some (.tup y)
  | a,b=>bY.p a b
 fr:=true
 ok {q h L O a x b y d} bd wa wb e:=by
  by_cases z:(∃y',b=.tup y')/\a=.tup []
  ·obtain⟨⟨y',rfl⟩,rfl⟩:=z;cases e;obtain⟨xs,rfl,r⟩:=wa.tup;obtain⟨ys,rfl,r'⟩:=wb.tup
   have:xs=[]:=r
   subst this;exact gv0 ⟨_,rfl,r'⟩ fun _ _ e=>by cases e
  ·have e':bY.p a b=some d:=by
    revert e;split
    ·exact absurd ⟨⟨_,rfl⟩,rfl⟩ z
    ·exact id
   have:opAddT x y h=opAdd x y h:=by
    unfold opAddT;split
    ·exfalso
     cases a with
     | tup as =>
      obtain⟨xs,ex,r⟩:=wa.tup;cases ex
      have:=r.length
      cases as with
      | nil =>
       cases b with
       | tup bs=>exact z ⟨⟨_,rfl⟩,rfl⟩
       | _=>cases e'
      | cons _ _=>simp at this
     | int i=>have:=wa.int;cases this
     | lst l=>obtain⟨n,xs,ex,_⟩:=wa.lst;cases ex
     | _=>cases e'
    ·rfl
   show Gv q h O true (opAddT x y h) d;rw[this];exact bY.ok bd wa wb e'
def oLeT:Op2 where
 m:=opLeT
 p:=fun a b=>match a,b with
  | .tup xs,.tup ys=>(match cZ xs,cZ ys with
   | some ns,some ms=>some (.bl (HT.bO ns ms))
   | _,_=>none)
  | a,b=>oLe.p a b
 fr:=true
 ok {q h L O a x b y d} bd wa wb e:=by
  cases a with
  | tup as =>
   cases b with
   | tup bs =>
    dsimp only at e
    cases e1:cZ as with
    | none=>rw[e1] at e;cases e
    | some ns =>
     cases e2:cZ bs with
     | none=>rw[e1,e2] at e;cases e
     | some ms =>
      rw[e1,e2] at e;cases e;obtain⟨xs,rfl,r⟩:=wa.tup;obtain⟨ys,rfl,r'⟩:=wb.tup;show Gv q h O true (match gp xs,gp ys with | some ns,some ms=>.ok (.bl (HT.bO ns ms)) h | _,_=>.bad) _;rw[gI r e1,gI r' e2,kv,kv];exact gvB
   | _=>cases e
  | int i =>
   cases b with
   | int j=>cases e;rw[wa.int,wb.int];exact gvB
   | _=>cases e
  | _=>cases b <;> cases e
def slT(d:D)(lo hi:Option Int):Option D:=match d with
 | .tup ds=>some (.tup (cV ds lo hi))
 | d=>slD d lo hi
def slT_ok(bd:Bd h O)(w:Vw q h L O a x)(e:slT a lo hi=some d):Gv q h O true (fSlT x lo hi h) d:=by
 cases a with
 | lst ds =>
  obtain⟨n,xs,rfl,g,r⟩:=id w.lst;exact sl_ok bd w e
 | tup ds =>
  cases e;obtain⟨xs,rfl,r⟩:=w.tup;exact gv0 ⟨_,rfl,oQ lo hi r⟩ fun _ _ e=>by cases e
 | _=>cases e
section
variable {ws:List Nat}
def gH(a:Xe ws)(lo hi:Xo ws):Xe ws where
 m:=fD a.m lo.m hi.m
 p:=fun env s=>(a.p env s).bind fun x s=>(lo.p env s).bind fun l s=>(hi.p env s).bind fun u s=>.of (slT x l u) s
 fz:=true
 fr:=true
 ok {q h L B O σ env s} c:=by
  refine (a.ok c).bind fun x v h1 s1 k1 p1 ⟨w,_,_⟩=>?_;have c1:=c.kb k1 p1;refine (lo.ok c1).bind fun l l' h2 s2 k2 p2 e=>?_;subst e;have c2:=c1.kb k2 p2;refine (hi.ok c2).bind fun u u' h3 s3 k3 p3 e=>?_;subst e;have c3:=c2.kb k3 p3
  cases e:slT x l u with
  | none=>trivial
  | some d =>
   obtain⟨y,g,e1,r,r'⟩:=slT_ok c3.bd ((w.kb k2 c.pO c.pL).kb k3 c.pO c.pL) e;exact give (qaw (qaw k1.len k2.len) k3.len) p3 ⟨y,g,by rw[e1];rfl,r,r'⟩
def nk:(gH a lo hi).p env s=(a.p env s).bind fun x s=>(lo.p env s).bind fun l s=>(hi.p env s).bind fun u s=>.of (slT x l u) s:=rfl
def rvT(d:D)(st:Option Int):Option D:=match d with
 | .tup ds=>if st=some (-1) then some (.tup ds.reverse) else none
 | d=>rvD d none st
def rvT_ok(bd:Bd h O)(w:Vw q h L O a x)(e:rvT a st=some d):Gv q h O true (fRvT x st h) d:=by
 cases a with
 | lst ds =>
  obtain⟨n,xs,rfl,g,r⟩:=id w.lst;exact rv_ok bd w e
 | tup ds =>
  unfold rvT at e;dsimp only at e;by_cases z:st=some (-1)
  ·rw[qai z] at e;cases e;obtain⟨xs,rfl,r⟩:=w.tup;show Gv q h O true (if st=some (-1) then .ok (.tup xs.reverse) h else .bad) _;rw[qai z];exact gv0 ⟨_,rfl,r.rev⟩ fun _ _ e=>by cases e
  ·rw[qal z] at e;cases e
 | _=>cases e
def xRvT(a:Xe ws)(st:Xo ws):Xe ws where
 m:=mRvT a.m st.m
 p:=fun env s=>(a.p env s).bind fun x s=>(st.p env s).bind fun u s=>.of (rvT x u) s
 fz:=true
 fr:=true
 ok {q h L B O σ env s} c:=by
  refine (a.ok c).bind fun x v h1 s1 k1 p1 ⟨w,_,_⟩=>?_;have c1:=c.kb k1 p1;refine (st.ok c1).bind fun u u' h3 s3 k3 p3 e=>?_;subst e;have c3:=c1.kb k3 p3
  cases e:rvT x u with
  | none=>trivial
  | some d =>
   obtain⟨y,g,e1,r,r'⟩:=rvT_ok c3.bd (w.kb k3 c.pO c.pL) e;exact give (qaw k1.len k3.len) p3 ⟨y,g,by rw[e1];rfl,r,r'⟩
def xRvT_p:(xRvT a st).p env s=(a.p env s).bind fun x s=>(st.p env s).bind fun u s=>.of (rvT x u) s:=rfl
def vV(i j n:Int):Xe ws where
 m:=wc i j n
 p:=fun _ s=>.ok .dic s
 fz:=true
 fr:=true
 ok {q h L B O σ env s} c:=by
  have r:Rp q (h++[MO.dic [(.tup [.int i,.int j],.int n)]]) O .dic (.loc h.length):=⟨_,rfl,fun z=>by have:=c.bd _ z;lia,[(.tup [.int i,.int j],.int n)],by simp⟩;exact⟨.loc h.length,h++[.dic _],rfl,KB.app _ _ _,c.pen.app,.inl r,fun _=>r,fun _ ds e=>by cases e⟩
def xDicT_p:(vV i j n:Xe ws).p env s=.ok .dic s:=rfl
def uT(f g g2:Op2)(a b e d:Xe ws):Xt ws where
 m:=oM f.m g.m g2.m a.m b.m e.m d.m
 p:=fun env s=>(a.p env s).bind fun x s1=>(b.p env s1).bind fun y s2=>match f.p x y with
  | some (.bl t)=>if t=true then (e.p env s2).bind fun z s3=>(match g.p y z with
   | some (.bl t')=>if t'=true then (d.p env s3).bind fun u s4=>(match g2.p z u with
    | some (.bl t2)=>.ok t2 s4
    | _=>.bad) else .ok false s3
   | _=>.bad) else .ok false s2
  | _=>.bad
 ok {q h L B O σ env s} c:=by
  refine (a.ok c).bind fun x v h1 s1 k1 p1 ⟨w1,_,_⟩=>?_;refine (b.ok (c.kb k1 p1)).bind fun y w h2 s2 k2 p2 ⟨w2,_,_⟩=>?_;have c2:=(c.kb k1 p1).kb k2 p2
  cases e1:f.p x y with
  | none=>trivial
  | some dd =>
   cases dd with
   | bl t =>
    obtain⟨u,gg,e2,r,_⟩:=f.ok c2.bd (w1.kb k2 c.pO c.pL) w2 e1;have hu:u=.bl t:=r;subst hu;rw[e2];have k3:=KB.app q h2 gg;have c3:=c2.kb k3 p2.app
    cases t with
    | false=>exact⟨false,h2++gg,rfl,k3,p2.app,rfl⟩
    | true =>
     refine Ok.after k3 ?_;show Ok q (h2++gg) ((e.m σ (h2++gg)).bind _) _ _;refine (e.ok c3).bind fun z u h3 s3 k4 p4 ⟨w3,_,_⟩=>?_;have c4:=c3.kb k4 p4
     cases e4:g.p y z with
     | none=>trivial
     | some dd =>
      cases dd with
      | bl t' =>
       obtain⟨u2,g3,e5,r2,_⟩:=g.ok c4.bd ((w2.kb k3 c.pO c.pL).kb k4 c.pO c.pL) w3 e4;have hu:u2=.bl t':=r2;subst hu;rw[e5];have k5:=KB.app q h3 g3;have c5:=c4.kb k5 p4.app
       cases t' with
       | false=>exact⟨false,h3++g3,rfl,k5,p4.app,rfl⟩
       | true =>
        refine Ok.after k5 ?_;show Ok q (h3++g3) ((d.m σ (h3++g3)).bind _) _ _;refine (d.ok c5).bind fun z2 u h4 s4 k6 p6 ⟨w4,_,_⟩=>?_;have c6:=c5.kb k6 p6
        cases e6:g2.p z z2 with
        | none=>trivial
        | some dd =>
         cases dd with
         | bl t2 =>
          obtain⟨u3,g4,e7,r3,_⟩:=g2.ok c6.bd ((w3.kb k5 c.pO c.pL).kb k6 c.pO c.pL) w4 e6;have hu:u3=.bl t2:=r3;subst hu;exact⟨t2,h4++g4,by rw[e7];rfl,KB.app _ _ _,p6.app,rfl⟩
         | _=>trivial
      | _=>trivial
   | _=>trivial
def yf:(uT f g g2 a b e d).p env s=(a.p env s).bind fun x s1=>(b.p env s1).bind fun y s2=>match f.p x y with
  | some (.bl t)=>if t=true then (e.p env s2).bind fun z s3=>(match g.p y z with
   | some (.bl t')=>if t'=true then (d.p env s3).bind fun u s4=>(match g2.p z u with
    | some (.bl t2)=>.ok t2 s4
    | _=>.bad) else .ok false s3
   | _=>.bad) else .ok false s2
  | _=>.bad:=rfl
end
end
end PU
namespace Law
open PySem PySem.Spec PyProof.Rows L2 MM
set_option maxHeartbeats 4000000
noncomputable section
def m_is_whole:Mst:=(aN (eW (mUn (cz ["int"]) (ag 0)) (qI (mUn (cz ["bool"]) (ag 0)))))
def fT:List PV->MH->Out PV:=bh 1 1 m_is_whole
def m_is_pair:Mst:=(aN (eW (mUn (cz ["tuple"]) (ag 0)) (ak opEq (mCB fLen (ac (ag 0) mNil)) (mC (.int 2)))))
def hG:List PV->MH->Out PV:=bh 1 1 m_is_pair
def m_is_count:Mst:=(aN (eW (aF fT (ac (ag 0) mNil)) (fo opLe opLe (mC (.int 0)) (ag 0) (mC (.int 12)))))
def fL:List PV->MH->Out PV:=bh 1 1 m_is_count
def m_is_place:Mst:=(aN (eW (aF fT (ac (ag 1) mNil)) (fo opLe opLt (mC (.int 0)) (ag 1) (ag 0))))
def jg:List PV->MH->Out PV:=bh 2 2 m_is_place
def m_is_tie:Mst:=(aD (mIf (cx (mB (aF hG (ac (ag 1) mNil)))) (aN (mC (.bl false))) mSkip)
 (aN (eW (aF jg (ac (ag 0) (ac (ak aR (ag 1) (mC (.int 0))) mNil))) (eW (aF jg (ac (ag 0) (ac (ak aR (ag 1) (mC (.int 1))) mNil))) (ak opNe (ak aR (ag 1) (mC (.int 0))) (ak aR (ag 1) (mC (.int 1))))))))
def rX:List PV->MH->Out PV:=bh 2 2 m_is_tie
def m_are_ties:Mst:=(aN (mCB fAll (ac (cv 1 [0] (eG (ag 1)) (gNm 0) mTrue (aF rX (ac (ag 1) (ac (ag 0) mNil)))) mNil)))
def fW:List PV->MH->Out PV:=bh 2 2 m_are_ties
def m_rising_once:Mst:=(aN (mCB fTuple (ac (mSS (ac (cv 1 [] (eG (ag 0)) (gNm 0) mTrue (aA (ac (mCB fMinS (ac (ag 0) mNil)) (ac (mCB fMaxS (ac (ag 0) mNil)) mNil)))) mNil)) mNil)))
def dE:List PV->MH->Out PV:=bh 1 1 m_rising_once
def m_web_of:Mst:=(aD (mIf (cx (mB (aF fL (ac (ag 0) mNil)))) (gq "NoWeb" (ac (mC (.str "a web has from 0 to 12 places")) mNil)) mSkip)
 (aD (mIf (cx (mB (mUn (cz ["list","tuple"]) (ag 1)))) (gq "NoWeb" (ac (mC (.str "ties are a list or a tuple")) mNil)) mSkip)
 (aD (mIf (cx (mB (aF fW (ac (ag 0) (ac (ag 1) mNil))))) (gq "NoWeb" (ac (mC (.str "a tie is a tuple of two unlike places")) mNil)) mSkip)
 (aN (aA (ac (ag 0) (ac (aF dE (ac (ag 1) mNil)) mNil)))))))
def rF:List PV->MH->Out PV:=bh 2 2 m_web_of
def m_is_web:Mst:=(aD (mIf (mOr (cx (mB (aF hG (ac (ag 0) mNil)))) (mOr (cx (mB (aF fL (ac (ak aR (ag 0) (mC (.int 0))) mNil)))) (cx (mB (mUn (cz ["tuple"]) (ak aR (ag 0) (mC (.int 1)))))))) (aN (mC (.bl false))) mSkip)
 (aN (eW (aF fW (ac (ak aR (ag 0) (mC (.int 0))) (ac (ak aR (ag 0) (mC (.int 1))) mNil))) (ak opEq (ak aR (ag 0) (mC (.int 1))) (aF dE (ac (ak aR (ag 0) (mC (.int 1))) mNil))))))
def sS:List PV->MH->Out PV:=bh 1 1 m_is_web
def m_l_pen:Mst:=(aD (aW 2 (ak opAdd (ak opMul (mC (.int 7919)) (ag 1)) (mC (.int 11))))
 (aD (mIf (mB (ak opLt (ag 1) (mCB fMin (ac (mCB fLen (ac (ag 0) mNil)) (ac (mC (.int 63)) mNil))))) (aW 2 (ak aR (ag 0) (ag 1))) (mIf (mB (ak opGt (mCB fLen (ac (ag 0) mNil)) (mC (.int 0)))) (aW 2 (ak opAdd (ak opMod (ak aR (ag 0) (ak opMod (ag 1) (mCB fMin (ac (mCB fLen (ac (ag 0) mNil)) (ac (mC (.int 63)) mNil))))) (ak opPow (mC (.int 10)) (mC (.int 15)))) (ak opMul (mC (.int 48271)) (ag 1)))) mSkip))
 (aD (mIf (mB (ak opGe (mCB fAbs (ac (ag 2) mNil)) (ak opPow (mC (.int 10)) (mC (.int 18))))) (aN (bc (ac (mC (.int 1)) (ac (mCB fAbs (ac (ag 2) mNil)) (ac (mC (.int 0)) mNil))))) mSkip)
 (aN (bc (ac (mC (.int 0)) (ac (ak opAdd (ak opMod (ag 2) (mC (.int 2147483587))) (ak opMul (mC (.int 40009)) (ag 1))) (ac (mC (.int 0)) mNil))))))))
def iC:List PV->MH->Out PV:=bh 3 2 m_l_pen
def m_l_draw:Mst:=(aD (mF (ak opAdd (ak aR (ag 0) (mC (.int 2))) (mC (.int 1))) (gSb (ag 0) (mC (.int 2))))
 (aD (mIf (mB (ak opEq (ak aR (ag 0) (mC (.int 0))) (mC (.int 1)))) (aD (aW 3 (ak opMod (ak aR (ag 0) (mC (.int 1))) (ag 1)))
 (aD (mF (ak opFd (ak aR (ag 0) (mC (.int 1))) (ag 1)) (gSb (ag 0) (mC (.int 1))))
 (aN (ag 3)))) mSkip)
 (aD (aW 2 (ak opMod (ak opMul (ak opAdd (ak opAdd (ak aR (ag 0) (mC (.int 1))) (ak opMul (mC (.int 40503)) (ak aR (ag 0) (mC (.int 2))))) (mC (.int 1))) (mC (.int 48271))) (mC (.int 2147483647))))
 (aD (aW 2 (ak opMod (ak opMul (ag 2) (ak opAdd (ak opAdd (ak opMod (ag 2) (mC (.int 65521))) (ak aR (ag 0) (mC (.int 2)))) (mC (.int 3)))) (mC (.int 2147483629))))
 (aN (ak opMod (ak opFd (ak opMod (ak opMul (ag 2) (ak opAdd (ak opMod (ag 2) (mC (.int 8191))) (mC (.int 7)))) (mC (.int 2147483563))) (mC (.int 64))) (ag 1)))))))
def aK:List PV->MH->Out PV:=bh 4 2 m_l_draw
def m_l_rounds:Mst:=(aN (mCB fMax (ac (mC (.int 4)) (ac (mCB fMin (ac (mCB fLen (ac (ag 0) mNil)) (ac (ag 1) mNil))) mNil))))
def d6:List PV->MH->Out PV:=bh 2 2 m_l_rounds
def m_l_order:Mst:=(aD (aW 2 (bc mNil))
 (aD (jD (gZ (ac (ag 1) mNil)) (gNm 3) (eV (mMt io (ag 2) (ac (aF aK (ac (ag 0) (ac (ak opAdd (ag 3) (mC (.int 1))) mNil))) (ac (ag 3) mNil)))))
 (aN (ag 2))))
def pD:List PV->MH->Out PV:=bh 4 2 m_l_order
def m_l_pairs:Mst:=(aD (aW 1 (bc mNil))
 (aD (jD (mItE (ac (ag 0) mNil)) (gTp (gCn (gNm 2) (gCn (gNm 3) gNl)) 2) (eV (mMt fZ (ag 1) (ac (cv 1 [3] (eG (mSl (ag 0) (mPt (ak opAdd (ag 2) (mC (.int 1)))) mNo)) (gNm 0) mTrue (aA (ac (ag 1) (ac (ag 0) mNil)))) mNil))))
 (aN (ag 1))))
def pc:List PV->MH->Out PV:=bh 4 1 m_l_pairs
def m_l_shape:Mst:=(aD (aW 2 (aF aK (ac (ag 0) (ac (mC (.int 8)) mNil))))
 (aD (mIf (mB (ak opLt (ag 2) (mC (.int 4)))) (aN (cv 1 [0,2] (eG (aF pc (ac (mLR (ac (ag 1) mNil)) mNil))) (gNm 0) (mB (ak opEq (aF aK (ac (ag 1) (ac (ak aR (bc (ac (mC (.int 2)) (ac (mC (.int 3)) (ac (mC (.int 4)) (ac (mC (.int 6)) mNil))))) (ag 2)) mNil))) (mC (.int 0)))) (ag 0))) mSkip)
 (aD (mIf (mB (ak opEq (ag 2) (mC (.int 4)))) (aN (cv 1 [0] (jy (ac (mC (.int 1)) (ac (ag 1) mNil))) (gNm 0) mTrue (aA (ac (aF aK (ac (ag 1) (ac (ag 0) mNil))) (ac (ag 0) mNil))))) mSkip)
 (aD (mIf (mB (ak opEq (ag 2) (mC (.int 5)))) (aN (ak opAdd (cv 1 [] (jy (ac (mC (.int 1)) (ac (ag 1) mNil))) (gNm 0) (mB (ak opGt (ak opMod (ag 0) (mC (.int 3))) (mC (.int 0)))) (aA (ac (ak opSub (ag 0) (mC (.int 1))) (ac (ag 0) mNil)))) (cv 1 [] (jy (ac (mC (.int 3)) (ac (ag 1) mNil))) (gNm 0) mTrue (aA (ac (ak opSub (ag 0) (mC (.int 3))) (ac (ag 0) mNil)))))) mSkip)
 (aD (aW 3 (ak opAdd (cv 1 [] (jy (ac (mC (.int 1)) (ac (ag 1) mNil))) (gNm 0) mTrue (aA (ac (ak opSub (ag 0) (mC (.int 1))) (ac (ag 0) mNil)))) (ak opMul (bc (ac (aA (ac (mC (.int 0)) (ac (ak opSub (ag 1) (mC (.int 1))) mNil))) mNil)) (mCB fInt (ac (ak opGt (ag 1) (mC (.int 2))) mNil)))))
 (aD (mIf (mOr (mB (ak opEq (ag 2) (mC (.int 6)))) (mB (ak opLt (ag 1) (mC (.int 4))))) (aN (ag 3)) mSkip)
 (aN (ak opAdd (ag 3) (bc (ac (aA (ac (aF aK (ac (ag 0) (ac (mC (.int 2)) mNil))) (ac (ak opAdd (mC (.int 2)) (aF aK (ac (ag 0) (ac (ak opSub (ag 1) (mC (.int 2))) mNil)))) mNil))) mNil))))))))))
def pU:List PV->MH->Out PV:=bh 4 2 m_l_shape
def m_l_web:Mst:=(aD (aW 2 (aF aK (ac (ag 0) (ac (ak opAdd (ag 1) (mC (.int 1))) mNil))))
 (aD (mIf (mB (ak opEq (aF aK (ac (ag 0) (ac (mC (.int 4)) mNil))) (mC (.int 3)))) (aW 2 (ag 1)) mSkip)
 (aD (aW 3 (aF pD (ac (ag 0) (ac (ag 2) mNil))))
 (aD (aW 4 (bc mNil))
 (aD (jD (eG (aF pU (ac (ag 0) (ac (ag 2) mNil)))) (gTp (gCn (gNm 5) (gCn (gNm 6) gNl)) 2) (eV (mMt fX (ag 4) (ac (aA (ac (mCB fMin (ac (ak aR (ag 3) (ag 5)) (ac (ak aR (ag 3) (ag 6)) mNil))) (ac (mCB fMax (ac (ak aR (ag 3) (ag 5)) (ac (ak aR (ag 3) (ag 6)) mNil))) mNil))) mNil))))
 (aN (aA (ac (ag 2) (ac (mCB fTuple (ac (mSS (ac (ag 4) mNil)) mNil)) mNil)))))))))
def uC:List PV->MH->Out PV:=bh 7 2 m_l_web
def m_l_kind:Mst:=(aD (aW 1 (bc (ac (aA (ac (mC (.str "web")) (ac (mUn (bv ["NoWeb"] ["NoWeb"]) (ag 0)) mNil))) (ac (aA (ac (mC (.str "place")) (ac (mUn (bv ["NoWeb"] []) (ag 0)) mNil))) mNil))))
 (aD (aW 1 (ak opAdd (ag 1) (bc (ac (aA (ac (mC (.str "order")) (ac (mUn (bv ["NoWeb"] []) (ag 0)) mNil))) (ac (aA (ac (mC (.str "parting")) (ac (mUn (bv ["NoWeb"] []) (ag 0)) mNil))) mNil)))))
 (aD (aW 1 (ak opAdd (ag 1) (bc (ac (aA (ac (mC (.str "other")) (ac (mUn (bv ["NoWeb"] ([]++([]++([]++([]++([]++([]++([]++[])))))))) (ag 0)) mNil))) mNil))))
 (aD (aW 2 (cv 2 [] (eG (ag 1)) (gTp (gCn (gNm 0) (gCn (gNm 1) gNl)) 2) (mTr (ag 1)) (ag 0)))
 (aD (mIf (mOr (mB (ak opNe (mCB fLen (ac (ag 2) mNil)) (mC (.int 1)))) (cx (mB (mUn (bv ["NoWeb"] ["NoWeb"]) (ag 0))))) (aN (mC (.str "other"))) mSkip)
 (aN (ak aR (ag 2) (mC (.int 0)))))))))
def sV:List PV->MH->Out PV:=bh 3 1 m_l_kind
def m_l_told:Mst:=(aD (aW 2 (mC .non))
 (aD (tR ["NoWeb"] 2 3 (eV (aF rF (ac (ag 0) (ac (ag 1) mNil)))))
 (aD (mIf (mB (ak (opIs false) (ag 2) (mC .non))) (aN (mC (.str "made"))) mSkip)
 (aN (aF sV (ac (ag 2) mNil))))))
def eE:List PV->MH->Out PV:=bh 4 2 m_l_told
def m_l_bad_tie:Mst:=(aD (aW 2 (ak opAdd (ag 1) (aF aK (ac (ag 0) (ac (ak opPow (mC (.int 10)) (mC (.int 9))) mNil)))))
 (aD (aW 3 (bc (ac (bc (ac (mC (.int 0)) (ac (mC (.int 1)) mNil))) (ac (aA (ac (mC (.int 0)) mNil)) (ac (aA (ac (mC (.int 0)) (ac (mC (.int 1)) (ac (mC (.int 1)) mNil)))) (ac (aA (ac (mC (.int 1)) (ac (mC (.int 1)) mNil))) (ac (aA (ac (mC (.int 0)) (ac (ag 1) mNil))) (ac (aA (ac (ag 1) (ac (mC (.int 0)) mNil))) (ac (aA (ac (mUn opNeg (mC (.int 1))) (ac (mC (.int 0)) mNil))) (ac (aA (ac (mC (.int 0)) (ac (ak opSub (mUn opNeg (mC (.int 1))) (aF aK (ac (ag 0) (ac (mC (.int 3)) mNil)))) mNil))) (ac (aA (ac (mC (.int 0)) (ac (ag 2) mNil))) mNil)))))))))))
 (aD (eV (mMt fX (ag 3) (ac (aA (ac (mC (.int 0)) (ac (mC (.bl true)) mNil))) mNil)))
 (aD (aW 3 (ak opAdd (ag 3) (bc (ac (aA (ac (mC (.bl false)) (ac (mC (.int 1)) mNil))) (ac (aA (ac (mC (.bl true)) (ac (mC (.bl false)) mNil))) (ac (aA (ac (mC (.str "0")) (ac (mC (.int 1)) mNil))) (ac (aA (ac (mC (.int 0)) (ac (mC (.str "1")) mNil))) (ac (aA (ac (mC .non) (ac (mC (.int 1)) mNil))) (ac (aA (ac (mC (.int 0)) (ac (mC .non) mNil))) (ac (aA (ac (aA (ac (mC (.int 0)) mNil)) (ac (mC (.int 1)) mNil))) (ac (aA (ac (mC (.int 0)) (ac (bc (ac (mC (.int 1)) mNil)) mNil))) (ac (mC .non) (ac (mC (.int 0)) mNil)))))))))))))
 (aD (aW 3 (ak opAdd (ag 3) (bc (ac (aA mNil) (ac (mC (.bl true)) (ac (mC (.str "01")) (ac mDic (ac (aA (ac (bc mNil) (ac (bc mNil) mNil))) (ac (aA (ac (mC (.int 0)) (ac mDic mNil))) (ac (aA (ac (mC (.int 0)) (ac (mC (.int 0)) mNil))) (ac (bc mNil) (ac (aA (ac (aA (ac (mC (.int 0)) (ac (mC (.int 1)) mNil))) mNil)) mNil))))))))))))
 (aN (ak aR (ag 3) (aF aK (ac (ag 0) (ac (mCB fLen (ac (ag 3) mNil)) mNil))))))))))
def eR:List PV->MH->Out PV:=bh 4 2 m_l_bad_tie
def m_l_bad_count:Mst:=(aD (aW 1 (bc (ac (mUn opNeg (mC (.int 1))) (ac (mC (.int 13)) (ac (ak opAdd (mC (.int 13)) (aF aK (ac (ag 0) (ac (ak opPow (mC (.int 10)) (mC (.int 9))) mNil)))) (ac (ak opSub (mUn opNeg (mC (.int 1))) (aF aK (ac (ag 0) (ac (mC (.int 99)) mNil)))) (ac (mC (.bl true)) (ac (mC (.bl false)) (ac (mC (.str "2")) (ac (mC (.str "")) (ac (mC .non) (ac (bc (ac (mC (.int 2)) mNil)) (ac (aA (ac (mC (.int 2)) mNil)) mNil)))))))))))))
 (aN (ak aR (ak opAdd (ag 1) (bc (ac mDic (ac (aA mNil) mNil)))) (aF aK (ac (ag 0) (ac (mC (.int 13)) mNil))))))
def jX:List PV->MH->Out PV:=bh 2 1 m_l_bad_count
def m_l_is_web:Mst:=(aD (mIf (mOr (cx (mB (mUn (cz ["tuple"]) (ag 0)))) (mOr (mB (ak opNe (mCB fLen (ac (ag 0) mNil)) (mC (.int 2)))) (cx (mB (mUn (cz ["tuple"]) (ak aR (ag 0) (mC (.int 1)))))))) (aN (mC (.bl false))) mSkip)
 (aD (mIf (mOr (cx (mB (mUn (cz ["int"]) (ak aR (ag 0) (mC (.int 0)))))) (mOr (mB (mUn (cz ["bool"]) (ak aR (ag 0) (mC (.int 0))))) (cx (mB (fo opLe opLe (mC (.int 0)) (ak aR (ag 0) (mC (.int 0))) (mC (.int 12))))))) (aN (mC (.bl false))) mSkip)
 (aD (aW 1 (aA (ac (mUn opNeg (mC (.int 1))) (ac (mUn opNeg (mC (.int 1))) mNil))))
 (aD (jD (eG (ak aR (ag 0) (mC (.int 1)))) (gNm 2) (aD (mIf (mOr (cx (mB (mUn (cz ["tuple"]) (ag 2)))) (mB (ak opNe (mCB fLen (ac (ag 2) mNil)) (mC (.int 2))))) (aN (mC (.bl false))) mSkip)
 (aD (mIf (mB (ak opNe (cv 1 [] (eG (ag 2)) (gNm 0) (mOr (cx (mB (mUn (cz ["int"]) (ag 0)))) (mB (mUn (cz ["bool"]) (ag 0)))) (mC (.int 1))) (bc mNil))) (aN (mC (.bl false))) mSkip)
 (aD (mIf (mOr (cx (oM opLe opLt opLt (mC (.int 0)) (ak aR (ag 2) (mC (.int 0))) (ak aR (ag 2) (mC (.int 1))) (ak aR (ag 0) (mC (.int 0))))) (mB (ak opLeT (ag 2) (ag 1)))) (aN (mC (.bl false))) mSkip)
 (aW 1 (ag 2))))))
 (aN (mC (.bl true)))))))
def nh:List PV->MH->Out PV:=bh 3 1 m_l_is_web
def m_l_bent:Mst:=(aD (mF (ag 1) (gTp (gCn (gNm 5) (gCn (gNm 6) gNl)) 2))
 (aD (aW 2 (aF aK (ac (ag 0) (ac (ak opAddT (mCB fLen (ac (ag 6) mNil)) (mC (.int 1))) mNil))))
 (aD (aW 3 (ak aR (ak opAddT (ag 6) (aA (ac (aA (ac (mC (.int 0)) (ac (mC (.int 1)) mNil))) mNil))) (ag 2)))
 (aD (aW 4 (bc (ac (aA (ac (ag 5) (ac (mRvT (ag 6) (mPt (mUn opNeg (mC (.int 1))))) mNil))) (ac (aA (ac (ag 5) (ac (ak opAddT (ak opAddT (fD (ag 6) mNo (mPt (ag 2))) (aA (ac (ag 3) mNil))) (fD (ag 6) (mPt (ag 2)) mNo)) mNil))) (ac (aA (ac (ag 5) (ac (ak opAddT (ak opAddT (fD (ag 6) mNo (mPt (ag 2))) (aA (ac (mRvT (ag 3) (mPt (mUn opNeg (mC (.int 1))))) mNil))) (fD (ag 6) (mPt (ak opAddT (ag 2) (mC (.int 1)))) mNo)) mNil))) mNil)))))
 (aD (aW 4 (ak opAddT (ag 4) (bc (ac (aA (ac (ag 5) (ac (mCB fList (ac (ag 6) mNil)) mNil))) (ac (bc (ac (ag 5) (ac (ag 6) mNil))) (ac (aA (ac (ag 5) mNil)) (ac (aA (ac (ag 5) (ac (ag 6) (ac (aA mNil) mNil)))) (ac (aA (ac (ak opSub (ag 5) (mC (.int 1))) (ac (ag 6) mNil))) (ac (aA (ac (mC (.int 13)) (ac (ag 6) mNil))) (ac (aA (ac (mC (.bl true)) (ac (aA mNil) mNil))) (ac (aA (ac (ag 5) (ac (mC .non) mNil))) (ac (ag 5) mNil))))))))))))
 (aD (aW 4 (ak opAddT (ag 4) (bc (ac (aA (ac (ag 5) (ac (ak opAddT (ak opAddT (fD (ag 6) mNo (mPt (ag 2))) (aA (ac (aF eR (ac (ag 0) (ac (ag 5) mNil))) mNil))) (fD (ag 6) (mPt (ak opAddT (ag 2) (mC (.int 1)))) mNo)) mNil))) (ac (aA (ac (ag 5) (ac (ak opAddT (fD (ag 6) mNo (mPt (ag 2))) (aA (ac (mCB fList (ac (ag 3) mNil)) mNil))) mNil))) (ac (aA (ac (ag 5) (ac (ag 6) mNil))) mNil))))))
 (aD (aW 4 (ak opAddT (ag 4) (bc (ac (mC .non) (ac (mC (.str "")) (ac (aA mNil) (ac (aA (ac (mC (.int 0)) (ac (aA mNil) mNil))) (ac (aA (ac (mCB fStr (ac (ag 5) mNil)) (ac (ag 6) mNil))) (ac (aA (ac (ag 5) (ac (ak opAddT (ag 6) (aA (ac (aA (ac (ak opSub (ag 5) (mC (.int 1))) (ac (ag 5) mNil))) mNil))) mNil))) (ac mDic (ac (aA (ac (ag 6) (ac (ag 5) mNil))) (ac (aA (ac (ag 5) (ac (fD (ag 6) (mPt (mC (.int 1))) mNo) mNil))) mNil))))))))))))
 (aN (ak aR (ag 4) (aF aK (ac (ag 0) (ac (mCB fLen (ac (ag 4) mNil)) mNil))))))))))))
def rS:List PV->MH->Out PV:=bh 7 2 m_l_bent
def m_l_right:Mst:=(aD (mF (aF uC (ac (ag 0) (ac (mC (.int 12)) mNil))) (gTp (gCn (gNm 2) (gCn (gNm 3) gNl)) 2))
 (aD (mIf (mB (ak opNe (aF eE (ac (ag 2) (ac (ag 3) mNil))) (mC (.str "made")))) (aN (mC (.bl false))) mSkip)
 (aD (jD (gZ (ac (mC (.int 3)) mNil)) (gNm 1) (aD (aW 4 (aF aK (ac (ag 0) (ac (ak opAddT (mCB fLen (ac (ag 3) mNil)) (mC (.int 1))) mNil))))
 (aD (aW 5 (ak opAddT (ak opAddT (mCB fList (ac (fD (ag 3) mNo (mPt (ag 4))) mNil)) (bc (ac (aF eR (ac (ag 0) (ac (ag 2) mNil))) mNil))) (mCB fList (ac (fD (ag 3) (mPt (ag 4)) mNo) mNil))))
 (aD (mIf (mB (ak opNe (aF eE (ac (ag 2) (ac (ak aR (bc (ac (ag 5) (ac (mCB fTuple (ac (ag 5) mNil)) mNil))) (aF aK (ac (ag 0) (ac (mC (.int 2)) mNil)))) mNil))) (mC (.str "web")))) (aN (mC (.bl false))) mSkip)
 (aD (mIf (mB (ak opNe (aF eE (ac (aF jX (ac (ag 0) mNil)) (ac (ak aR (bc (ac (aA mNil) (ac (bc mNil) mNil))) (aF aK (ac (ag 0) (ac (mC (.int 2)) mNil)))) mNil))) (mC (.str "web")))) (aN (mC (.bl false))) mSkip)
 (aD (aW 6 (ak aR (bc (ac (mC .non) (ac (mC (.str "")) (ac (mC (.str "01")) (ac mDic (ac (mC (.int 3)) (ac (mC (.bl true)) (ac (wc 0 1 1) mNil)))))))) (aF aK (ac (ag 0) (ac (mC (.int 7)) mNil)))))
 (aD (mIf (mB (ak opNe (aF eE (ac (ag 2) (ac (ag 6) mNil))) (mC (.str "web")))) (aN (mC (.bl false))) mSkip)
 (aD (aW 7 (aF rS (ac (ag 0) (ac (aA (ac (ag 2) (ac (ag 3) mNil))) mNil))))
 (aD (aW 8 (aF sS (ac (ag 7) mNil)))
 (mIf (mOr (cx (mB (mUn (cz ["bool"]) (ag 8)))) (mB (ak opNe (ag 8) (aF nh (ac (ag 7) mNil))))) (aN (mC (.bl false))) mSkip))))))))))
 (aN (ak opEq (aF eE (ac (ag 2) (ac (mCB fList (ac (ag 3) mNil)) mNil))) (mC (.str "made")))))))
def ff:List PV->MH->Out PV:=bh 9 1 m_l_right
def m_law:Mst:=(aD (jD (gZ (ac (aF d6 (ac (ag 0) (ac (mC (.int 24)) mNil))) mNil)) (gNm 1) (mIf (cx (mB (aF ff (ac (aF iC (ac (ag 0) (ac (ag 1) mNil))) mNil)))) (aN (mC (.bl false))) mSkip))
 (aN (mC (.bl true))))
def f_law:List PV->MH->Out PV:=bh 2 1 m_law
end
end Law
namespace Law
open PySem MM PU
open L2 (ixN atI eK)
set_option maxHeartbeats 4000000
noncomputable section
def fK:Xd []:=(bi (g8 (xUn (bP ["int"]) (af 0)) (xNotV (xUn (bP ["bool"]) (af 0)))))
def dY:Fn:=cF 1 1 fK
def lM{ds:List D}{s:Pen}(h:ds.length=1):dY.p ds s=(fK.p (dSt 1 ds) s).fin:=bE h
def kO:Xd []:=(bi (g8 (xUn (bP ["tuple"]) (af 0)) (ao oEq (xCb eO (aa (af 0) xNil)) (xC (.int 2)))))
def gQ:Fn:=cF 1 1 kO
def wD{ds:List D}{s:Pen}(h:ds.length=1):gQ.p ds s=(kO.p (dSt 1 ds) s).fin:=bE h
def jN:Xd []:=(bi (g8 (aw dY (aa (af 0) xNil)) (kN oLe oLe (xC (.int 0)) (af 0) (xC (.int 12)))))
def fQ:Fn:=cF 1 1 jN
def tU{ds:List D}{s:Pen}(h:ds.length=1):fQ.p ds s=(jN.p (dSt 1 ds) s).fin:=bE h
def fI:Xd []:=(bi (g8 (aw dY (aa (af 1) xNil)) (kN oLe oLt (xC (.int 0)) (af 1) (af 0))))
def d9:Fn:=cF 2 2 fI
def lS{ds:List D}{s:Pen}(h:ds.length=2):d9.p ds s=(fI.p (dSt 2 ds) s).fin:=bE h
def mP:Xd []:=(aL (xIf (cE (xB (aw gQ (aa (af 1) xNil)))) (bi (xC (.bl false))) xSkip)
 (bi (g8 (aw d9 (aa (af 0) (aa (ao oIx (af 1) (xC (.int 0))) xNil))) (g8 (aw d9 (aa (af 0) (aa (ao oIx (af 1) (xC (.int 1))) xNil))) (ao oNe (ao oIx (af 1) (xC (.int 0))) (ao oIx (af 1) (xC (.int 1))))))))
def i4:Fn:=cF 2 2 mP
def yx{ds:List D}{s:Pen}(h:ds.length=2):i4.p ds s=(mP.p (dSt 2 ds) s).fin:=bE h
def jf:Xd []:=(bi (xCb cAll (aa (cu 1 [0] (dw (af 1)) (ws':=[]) (xNm 0) xTrue (aw i4 (aa (af 1) (aa (af 0) xNil)))) xNil)))
def fO:Fn:=cF 2 2 jf
def tX{ds:List D}{s:Pen}(h:ds.length=2):fO.p ds s=(jf.p (dSt 2 ds) s).fin:=bE h
def fA:Xd []:=(bi (xCb kI (aa (xCb cSS (aa (cu 1 [] (dw (af 0)) (ws':=[]) (xNm 0) xTrue (ar (aa (xCb qR (aa (af 0) xNil)) (aa (xCb qL (aa (af 0) xNil)) xNil)))) xNil)) xNil)))
def cO:Fn:=cF 1 1 fA
def oZ{ds:List D}{s:Pen}(h:ds.length=1):cO.p ds s=(fA.p (dSt 1 ds) s).fin:=bE h
def eA:Xd []:=(aL (xIf (cE (xB (aw fQ (aa (af 0) xNil)))) (nP "NoWeb" (aa (xC (.str "a web has from 0 to 12 places")) xNil)) xSkip)
 (aL (xIf (cE (xB (xUn (bP ["list","tuple"]) (af 1)))) (nP "NoWeb" (aa (xC (.str "ties are a list or a tuple")) xNil)) xSkip)
 (aL (xIf (cE (xB (aw fO (aa (af 0) (aa (af 1) xNil))))) (nP "NoWeb" (aa (xC (.str "a tie is a tuple of two unlike places")) xNil)) xSkip)
 (bi (ar (aa (af 0) (aa (aw cO (aa (af 1) xNil)) xNil)))))))
def bL:Fn:=cF 2 2 eA
def gX{ds:List D}{s:Pen}(h:ds.length=2):bL.p ds s=(eA.p (dSt 2 ds) s).fin:=bE h
def mG:Xd []:=(aL (xIf (xOr (cE (xB (aw gQ (aa (af 0) xNil)))) (xOr (cE (xB (aw fQ (aa (ao oIx (af 0) (xC (.int 0))) xNil)))) (cE (xB (xUn (bP ["tuple"]) (ao oIx (af 0) (xC (.int 1)))))))) (bi (xC (.bl false))) xSkip)
 (bi (g8 (aw fO (aa (ao oIx (af 0) (xC (.int 0))) (aa (ao oIx (af 0) (xC (.int 1))) xNil))) (ao oEq (ao oIx (af 0) (xC (.int 1))) (aw cO (aa (ao oIx (af 0) (xC (.int 1))) xNil))))))
def l0:Fn:=cF 1 1 mG
def yd{ds:List D}{s:Pen}(h:ds.length=1):l0.p ds s=(mG.p (dSt 1 ds) s).fin:=bE h
def oS{h:MH}{p:Nat}{o:MO}(hp:p<h.length):(h.set p o)[p]?=some o:=qat hp
def ix2:ixN 3 2=some 2:=vy (n:=3) (m:=2) (by decide)
def ix1:ixN 3 1=some 1:=vy (n:=3) (m:=1) (by decide)
def iL(s:Pen)(size:Int)(hs:0<size)(hl:size.natAbs.log2<9000):∃x:Int × Int,(0<=x.1/\x.1<size)/\∀(h:MH) (p:Nat),cj h p s->aK [.loc p,.int size] h=.ok (.int x.1) (h.set p (.lst [.int s.1,.int x.2,.int (s.2.2+1)])):=by
 obtain⟨m,c,t⟩:=s;have hs0:size≠0:=by ext
 have st:∀n:Int,0<=n.fmod size/\n.fmod size<size:=fun n=>by
  rw[qbR n (by ext)];exact⟨qcB n hs0,qcm n hs⟩
 by_cases hm:m=1
 ·subst hm;refine⟨(c.fmod size,c.fdiv size),st c,fun h p e=>?_⟩;have e:h[p]?=some (.lst [.int 1,.int c,.int t]):=e;have hp:p<h.length:=(qag.mp e).1;have e2:(h.set p (.lst [.int 1,.int c,.int (t+1)]))[p]?=some (.lst [.int 1,.int c,.int (t+1)]):=oS hp;unfold aK;refine (iG (by rfl)).trans ?_;unfold m_l_draw;simp[bR,List.replicate,i5 e,mO e,ix2,i5 e2,eN hs0,uL hs0 hl,mO e2,ix1]
 ·have big:∀n k:Int,0<k->0<=n.fmod k/\n.fmod k<k:=fun n k hk=>by
   rw[qbR n (by ext)];exact⟨qcB n (by ext),qcm n hk⟩
  generalize ea:((c+40503 * (t+1)+1) * 48271).fmod 2147483647=A;have b1:=big ((c+40503 * (t+1)+1) * 48271) 2147483647 (by decide);rw[ea] at b1;generalize eb:(A * (A.fmod 65521+(t+1)+3)).fmod 2147483629=C;have b2:=big (A * (A.fmod 65521+(t+1)+3)) 2147483629 (by decide);rw[eb] at b2;refine⟨((((C * (C.fmod 8191+7)).fmod 2147483563).fdiv 64).fmod size,c),st _,fun h p e=>?_⟩;have e:h[p]?=some (.lst [.int m,.int c,.int t]):=e;have hp:p<h.length:=(qag.mp e).1;have e2:(h.set p (.lst [.int m,.int c,.int (t+1)]))[p]?=some (.lst [.int m,.int c,.int (t+1)]):=oS hp;have c1:-(2 ^ 64)<A/\A<2 ^ 64:=by ext
  have c2:-(2 ^ 64)<C/\C<2 ^ 64:=by ext
  have k1:∀{i:Int} {h:MH},opMul (.int 40503) (.int i) h=.ok (.int (40503 * i)) h:=gh (by decide);have k2:∀{i:Int} {h:MH},opMul (.int i) (.int 48271) h=.ok (.int (i * 48271)) h:=opMul_r (by decide);unfold aK;refine (iG (by rfl)).trans ?_;unfold m_l_draw;simp[bR,List.replicate,i5 e,mO e,ix2,i5 e2,hm,k1,k2,eN,ea,gh c1,eb,gh c2,uL (show (64:Int)≠0 by decide) (show (64:Int).natAbs.log2<9000 by decide +kernel),eN hs0]
open Classical in
def lm(s:Pen)(size:Int):Int × Int:=if z:0<size/\size.natAbs.log2<9000 then (iL s size z.1 z.2).choose else (0,0)
def nJ(ds:List D):Option Int:=match ds with
 | [.pen,.int i]=>some i
 | _=>none
def wv{ds:List D}{i:Int}(e:nJ ds=some i):ds=[.pen,.int i]:=by
 unfold nJ at e
 split at e
 ·cases e;rfl
 ·cases e
open Classical in
def aP:Fn where
 m:=aK
 p:=fun ds s=>match nJ ds with
  | some size=>if 0<size/\size.natAbs.log2<9000 then .ok (.int (lm s size).1) (s.1,(lm s size).2,s.2.2+1) else .bad
  | none=>.bad
 fr:=true
 ok {q h O vs ds s} bd hq pn r:=by
  cases e:nJ ds with
  | none=>trivial
  | some size =>
   have:=wv e
   subst this;dsimp only;by_cases z:0<size/\size.natAbs.log2<9000
   ·rw[qai z];obtain⟨x,t,rfl,hx,y,t',rfl,hy,ht⟩:=r;rw[show x=PV.loc q from hx,show y=PV.int size from hy,show t'=[] from ht];have k:=(iL s size z.1 z.2).choose_spec.2 h q pn;have ed:lm s size=(iL s size z.1 z.2).choose:=by unfold lm;rw[dif_pos z]
    rw[<-ed] at k;refine⟨_,_,k,⟨by simp,fun n hn hp=>qaj (Ne.symm hp)⟩,oS (bg pn),rfl,fun _ ds e=>by cases e⟩
   ·rw[qal z];trivial
open Classical in
theorem bD{s:Pen}{size:Int}(hs:0<size)(hl:size<=2000000000):∃d s',0<=d/\d<size/\aP.p [.pen,.int size] s=.ok (.int d) s':=by
 have hlog:size.natAbs.log2<9000:=by
  have h1:size.natAbs<=2000000000:=by ext
  have h2:size.natAbs.log2<31:=(Nat.log2_lt (by ext)).mpr (by ext);ext
 have z:0<size/\size.natAbs.log2<9000:=⟨hs,hlog⟩;have ed:lm s size=(iL s size z.1 z.2).choose:=by unfold lm;rw[dif_pos z]
 have k:=(iL s size z.1 z.2).choose_spec.1;rw[<-ed] at k;exact⟨_,_,k.1,k.2,by show (if 0<size/\size.natAbs.log2<9000 then _ else _)=_;rw[qai z]⟩
def j9:Xd [2]:=(aL (g7 2 (be xNil))
 (aL (oK (fu iR1 (aa (af 1) xNil)) (xNm 3) (xMt nY 2 (aa (aw aP (aa (af 0) (aa (ao bY (af 3) (xC (.int 1))) xNil))) (aa (af 3) xNil))))
 (wB 2)))
def kM:Fn:=cF 4 2 j9
def wA{ds:List D}{s:Pen}(h:ds.length=2):kM.p ds s=(j9.p (dSt 4 ds) s).fin:=bE h
def kh:Xd [1]:=(aL (g7 1 (be xNil))
 (aL (oK (fu iE (aa (af 0) xNil)) (xGp (xGc (xNm 2) (xGc (xNm 3) xGl)) 2) (xMt oq 1 (aa (cu 1 [3] (dw (xSl (af 0) (xPt (ao bY (af 2) (xC (.int 1)))) xNo)) (ws':=[]) (xNm 0) xTrue (ar (aa (af 1) (aa (af 0) xNil)))) xNil)))
 (wB 1)))
def g9:Fn:=cF 4 1 kh
def wo{ds:List D}{s:Pen}(h:ds.length=1):g9.p ds s=(kh.p (dSt 4 ds) s).fin:=bE h
def kz:Xd []:=(aL (bB 2 (aw aP (aa (af 0) (aa (xC (.int 8)) xNil))))
 (aL (xIf (xB (ao oLt (af 2) (xC (.int 4)))) (bi (cu 1 [0,2] (dw (aw g9 (aa (xCb cLR (aa (af 1) xNil)) xNil))) (ws':=[]) (xNm 0) (xB (ao oEq (aw aP (aa (af 1) (aa (ao oIx (be (aa (xC (.int 2)) (aa (xC (.int 3)) (aa (xC (.int 4)) (aa (xC (.int 6)) xNil))))) (af 2)) xNil))) (xC (.int 0)))) (af 0))) xSkip)
 (aL (xIf (xB (ao oEq (af 2) (xC (.int 4)))) (bi (cu 1 [0] (fu iR2 (aa (xC (.int 1)) (aa (af 1) xNil))) (ws':=[]) (xNm 0) xTrue (ar (aa (aw aP (aa (af 1) (aa (af 0) xNil))) (aa (af 0) xNil))))) xSkip)
 (aL (xIf (xB (ao oEq (af 2) (xC (.int 5)))) (bi (ao bY (cu 1 [] (fu iR2 (aa (xC (.int 1)) (aa (af 1) xNil))) (ws':=[]) (xNm 0) (xB (ao oGt (ao oMod (af 0) (xC (.int 3))) (xC (.int 0)))) (ar (aa (ao cX (af 0) (xC (.int 1))) (aa (af 0) xNil)))) (cu 1 [] (fu iR2 (aa (xC (.int 3)) (aa (af 1) xNil))) (ws':=[]) (xNm 0) xTrue (ar (aa (ao cX (af 0) (xC (.int 3))) (aa (af 0) xNil)))))) xSkip)
 (aL (bB 3 (ao bY (cu 1 [] (fu iR2 (aa (xC (.int 1)) (aa (af 1) xNil))) (ws':=[]) (xNm 0) xTrue (ar (aa (ao cX (af 0) (xC (.int 1))) (aa (af 0) xNil)))) (ao oMul (be (aa (ar (aa (xC (.int 0)) (aa (ao cX (af 1) (xC (.int 1))) xNil))) xNil)) (xCb r9 (aa (ao oGt (af 1) (xC (.int 2))) xNil)))))
 (aL (xIf (xOr (xB (ao oEq (af 2) (xC (.int 6)))) (xB (ao oLt (af 1) (xC (.int 4))))) (bi (af 3)) xSkip)
 (bi (ao bY (af 3) (be (aa (ar (aa (aw aP (aa (af 0) (aa (xC (.int 2)) xNil))) (aa (ao bY (xC (.int 2)) (aw aP (aa (af 0) (aa (ao cX (af 1) (xC (.int 2))) xNil)))) xNil))) xNil))))))))))
def kw:Fn:=cF 4 2 kz
def vO{ds:List D}{s:Pen}(h:ds.length=2):kw.p ds s=(kz.p (dSt 4 ds) s).fin:=bE h
def oY:Xd [4]:=(aL (bB 2 (aw aP (aa (af 0) (aa (ao bY (af 1) (xC (.int 1))) xNil))))
 (aL (xIf (xB (ao oEq (aw aP (aa (af 0) (aa (xC (.int 4)) xNil))) (xC (.int 3)))) (bB 2 (af 1)) xSkip)
 (aL (bB 3 (aw kM (aa (af 0) (aa (af 2) xNil))))
 (aL (g7 4 (be xNil))
 (aL (oK (dw (aw kw (aa (af 0) (aa (af 2) xNil)))) (xGp (xGc (xNm 5) (xGc (xNm 6) xGl)) 2) (xMt lg 4 (aa (ar (aa (xCb cMin (aa (ao oIx (af 3) (af 5)) (aa (ao oIx (af 3) (af 6)) xNil))) (aa (xCb cMax (aa (ao oIx (af 3) (af 5)) (aa (ao oIx (af 3) (af 6)) xNil))) xNil))) xNil)))
 (bi (ar (aa (af 2) (aa (xCb kI (aa (xCb cSS (aa (af 4) xNil)) xNil)) xNil)))))))))
def iO:Fn:=cF 7 2 oY
def zn{ds:List D}{s:Pen}(h:ds.length=2):iO.p ds s=(oY.p (dSt 7 ds) s).fin:=bE h
def lV:Xd []:=(aL (bB 1 (be (aa (ar (aa (xC (.str "web")) (aa (xUn (kW ["NoWeb"] ["NoWeb"]) (af 0)) xNil))) (aa (ar (aa (xC (.str "place")) (aa (xUn (kW ["NoWeb"] []) (af 0)) xNil))) xNil))))
 (aL (bB 1 (ao bY (af 1) (be (aa (ar (aa (xC (.str "order")) (aa (xUn (kW ["NoWeb"] []) (af 0)) xNil))) (aa (ar (aa (xC (.str "parting")) (aa (xUn (kW ["NoWeb"] []) (af 0)) xNil))) xNil)))))
 (aL (bB 1 (ao bY (af 1) (be (aa (ar (aa (xC (.str "other")) (aa (xUn (kW ["NoWeb"] ([]++([]++([]++([]++([]++([]++([]++[])))))))) (af 0)) xNil))) xNil))))
 (aL (bB 2 (cu 2 [] (dw (af 1)) (ws':=[]) (xGp (xGc (xNm 0) (xGc (xNm 1) xGl)) 2) (xTr (af 1)) (af 0)))
 (aL (xIf (xOr (xB (ao oNe (xCb eO (aa (af 2) xNil)) (xC (.int 1)))) (cE (xB (xUn (kW ["NoWeb"] ["NoWeb"]) (af 0))))) (bi (xC (.str "other"))) xSkip)
 (bi (ao oIx (af 2) (xC (.int 0)))))))))
def lU:Fn:=cF 3 1 lV
def yu{ds:List D}{s:Pen}(h:ds.length=1):lU.p ds s=(lV.p (dSt 3 ds) s).fin:=bE h
def je:Xd []:=(aL (bB 2 (xC .non))
 (aL (xTry ["NoWeb"] 2 3 (jI (aw bL (aa (af 0) (aa (af 1) xNil)))))
 (aL (xIf (xB (ao (oIs false) (af 2) (xC .non))) (bi (xC (.str "made"))) xSkip)
 (bi (aw lU (aa (af 2) xNil))))))
def bM:Fn:=cF 4 2 je
def pq{ds:List D}{s:Pen}(h:ds.length=2):bM.p ds s=(je.p (dSt 4 ds) s).fin:=bE h
abbrev btX:Xe [3]:=(be (aa (be (aa (xC (.int 0)) (aa (xC (.int 1)) xNil))) (aa (ar (aa (xC (.int 0)) xNil)) (aa (ar (aa (xC (.int 0)) (aa (xC (.int 1)) (aa (xC (.int 1)) xNil)))) (aa (ar (aa (xC (.int 1)) (aa (xC (.int 1)) xNil))) (aa (ar (aa (xC (.int 0)) (aa (af 1) xNil))) (aa (ar (aa (af 1) (aa (xC (.int 0)) xNil))) (aa (ar (aa (xUn eI (xC (.int 1))) (aa (xC (.int 0)) xNil))) (aa (ar (aa (xC (.int 0)) (aa (ao cX (xUn eI (xC (.int 1))) (aw aP (aa (af 0) (aa (xC (.int 3)) xNil)))) xNil))) (aa (ar (aa (xC (.int 0)) (aa (af 2) xNil))) xNil))))))))))
abbrev btY:Xe [3]:=(be (aa (ar (aa (xC (.bl false)) (aa (xC (.int 1)) xNil))) (aa (ar (aa (xC (.bl true)) (aa (xC (.bl false)) xNil))) (aa (ar (aa (xC (.str "0")) (aa (xC (.int 1)) xNil))) (aa (ar (aa (xC (.int 0)) (aa (xC (.str "1")) xNil))) (aa (ar (aa (xC .non) (aa (xC (.int 1)) xNil))) (aa (ar (aa (xC (.int 0)) (aa (xC .non) xNil))) (aa (ar (aa (ar (aa (xC (.int 0)) xNil)) (aa (xC (.int 1)) xNil))) (aa (ar (aa (xC (.int 0)) (aa (be (aa (xC (.int 1)) xNil)) xNil))) (aa (xC .non) (aa (xC (.int 0)) xNil)))))))))))
abbrev btZ:Xe [3]:=(be (aa (ar xNil) (aa (xC (.bl true)) (aa (xC (.str "01")) (aa xDic (aa (ar (aa (be xNil) (aa (be xNil) xNil))) (aa (ar (aa (xC (.int 0)) (aa xDic xNil))) (aa (ar (aa (xC (.int 0)) (aa (xC (.int 0)) xNil))) (aa (be xNil) (aa (ar (aa (ar (aa (xC (.int 0)) (aa (xC (.int 1)) xNil))) xNil)) xNil))))))))))
def ii:Xd [3]:=(aL (bB 2 (ao bY (af 1) (aw aP (aa (af 0) (aa (ao oPow (xC (.int 10)) (xC (.int 9))) xNil)))))
 (aL (g7 3 btX)
 (aL (xMt lg 3 (aa (ar (aa (xC (.int 0)) (aa (xC (.bl true)) xNil))) xNil))
 (aL (g7 3 (ao bY (af 3) btY))
 (aL (g7 3 (ao bY (af 3) btZ))
 (bi (ao oIx (af 3) (aw aP (aa (af 0) (aa (xCb eO (aa (af 3) xNil)) xNil))))))))))
def eS:Fn:=cF 4 2 ii
def tj{ds:List D}{s:Pen}(h:ds.length=2):eS.p ds s=(ii.p (dSt 4 ds) s).fin:=bE h
abbrev bcX:Xe []:=(be (aa (xUn eI (xC (.int 1))) (aa (xC (.int 13)) (aa (ao bY (xC (.int 13)) (aw aP (aa (af 0) (aa (ao oPow (xC (.int 10)) (xC (.int 9))) xNil)))) (aa (ao cX (xUn eI (xC (.int 1))) (aw aP (aa (af 0) (aa (xC (.int 99)) xNil)))) (aa (xC (.bl true)) (aa (xC (.bl false)) (aa (xC (.str "2")) (aa (xC (.str "")) (aa (xC .non) (aa (be (aa (xC (.int 2)) xNil)) (aa (ar (aa (xC (.int 2)) xNil)) xNil))))))))))))
def fx:Xd []:=(aL (bB 1 bcX)
 (bi (ao oIx (ao bY (af 1) (be (aa xDic (aa (ar xNil) xNil)))) (aw aP (aa (af 0) (aa (xC (.int 13)) xNil))))))
def fC:Fn:=cF 2 1 fx
def oD{ds:List D}{s:Pen}(h:ds.length=1):fC.p ds s=(fx.p (dSt 2 ds) s).fin:=bE h
abbrev lwB:Xd []:=(aL (xIf (xOr (cE (xB (xUn (bP ["tuple"]) (af 2)))) (xB (ao oNe (xCb eO (aa (af 2) xNil)) (xC (.int 2))))) (bi (xC (.bl false))) xSkip)
 (aL (xIf (xB (ao oNe (cu 1 [] (dw (af 2)) (ws':=[]) (xNm 0) (xOr (cE (xB (xUn (bP ["int"]) (af 0)))) (xB (xUn (bP ["bool"]) (af 0)))) (xC (.int 1))) (be xNil))) (bi (xC (.bl false))) xSkip)
 (aL (xIf (xOr (cE (uT oLe oLt oLt (xC (.int 0)) (ao oIx (af 2) (xC (.int 0))) (ao oIx (af 2) (xC (.int 1))) (ao oIx (af 0) (xC (.int 0))))) (xB (ao oLeT (af 2) (af 1)))) (bi (xC (.bl false))) xSkip)
 (bB 1 (af 2)))))
def jJ:Xd []:=(aL (xIf (xOr (cE (xB (xUn (bP ["tuple"]) (af 0)))) (xOr (xB (ao oNe (xCb eO (aa (af 0) xNil)) (xC (.int 2)))) (cE (xB (xUn (bP ["tuple"]) (ao oIx (af 0) (xC (.int 1)))))))) (bi (xC (.bl false))) xSkip)
 (aL (xIf (xOr (cE (xB (xUn (bP ["int"]) (ao oIx (af 0) (xC (.int 0)))))) (xOr (xB (xUn (bP ["bool"]) (ao oIx (af 0) (xC (.int 0))))) (cE (xB (kN oLe oLe (xC (.int 0)) (ao oIx (af 0) (xC (.int 0))) (xC (.int 12))))))) (bi (xC (.bl false))) xSkip)
 (aL (bB 1 (ar (aa (xUn eI (xC (.int 1))) (aa (xUn eI (xC (.int 1))) xNil))))
 (aL (oK (dw (ao oIx (af 0) (xC (.int 1)))) (xNm 2) lwB)
 (bi (xC (.bl true)))))))
def jH:Fn:=cF 3 1 jJ
def t7{ds:List D}{s:Pen}(h:ds.length=1):jH.p ds s=(jJ.p (dSt 3 ds) s).fin:=bE h
def mD:Xd []:=(aL (sk (af 1) (xGp (xGc (xNm 5) (xGc (xNm 6) xGl)) 2))
 (aL (bB 2 (aw aP (aa (af 0) (aa (ao bo (xCb eO (aa (af 6) xNil)) (xC (.int 1))) xNil))))
 (aL (bB 3 (ao oIx (ao bo (af 6) (ar (aa (ar (aa (xC (.int 0)) (aa (xC (.int 1)) xNil))) xNil))) (af 2)))
 (aL (bB 4 (be (aa (ar (aa (af 5) (aa (xRvT (af 6) (xPt (xUn eI (xC (.int 1))))) xNil))) (aa (ar (aa (af 5) (aa (ao bo (ao bo (gH (af 6) xNo (xPt (af 2))) (ar (aa (af 3) xNil))) (gH (af 6) (xPt (af 2)) xNo)) xNil))) (aa (ar (aa (af 5) (aa (ao bo (ao bo (gH (af 6) xNo (xPt (af 2))) (ar (aa (xRvT (af 3) (xPt (xUn eI (xC (.int 1))))) xNil))) (gH (af 6) (xPt (ao bo (af 2) (xC (.int 1)))) xNo)) xNil))) xNil)))))
 (aL (bB 4 (ao bo (af 4) (be (aa (ar (aa (af 5) (aa (xCb dZ (aa (af 6) xNil)) xNil))) (aa (be (aa (af 5) (aa (af 6) xNil))) (aa (ar (aa (af 5) xNil)) (aa (ar (aa (af 5) (aa (af 6) (aa (ar xNil) xNil)))) (aa (ar (aa (ao cX (af 5) (xC (.int 1))) (aa (af 6) xNil))) (aa (ar (aa (xC (.int 13)) (aa (af 6) xNil))) (aa (ar (aa (xC (.bl true)) (aa (ar xNil) xNil))) (aa (ar (aa (af 5) (aa (xC .non) xNil))) (aa (af 5) xNil))))))))))))
 (aL (bB 4 (ao bo (af 4) (be (aa (ar (aa (af 5) (aa (ao bo (ao bo (gH (af 6) xNo (xPt (af 2))) (ar (aa (aw eS (aa (af 0) (aa (af 5) xNil))) xNil))) (gH (af 6) (xPt (ao bo (af 2) (xC (.int 1)))) xNo)) xNil))) (aa (ar (aa (af 5) (aa (ao bo (gH (af 6) xNo (xPt (af 2))) (ar (aa (xCb dZ (aa (af 3) xNil)) xNil))) xNil))) (aa (ar (aa (af 5) (aa (af 6) xNil))) xNil))))))
 (aL (bB 4 (ao bo (af 4) (be (aa (xC .non) (aa (xC (.str "")) (aa (ar xNil) (aa (ar (aa (xC (.int 0)) (aa (ar xNil) xNil))) (aa (ar (aa (xCb cStr (aa (af 5) xNil)) (aa (af 6) xNil))) (aa (ar (aa (af 5) (aa (ao bo (af 6) (ar (aa (ar (aa (ao cX (af 5) (xC (.int 1))) (aa (af 5) xNil))) xNil))) xNil))) (aa xDic (aa (ar (aa (af 6) (aa (af 5) xNil))) (aa (ar (aa (af 5) (aa (gH (af 6) (xPt (xC (.int 1))) xNo) xNil))) xNil))))))))))))
 (bi (ao oIx (af 4) (aw aP (aa (af 0) (aa (xCb eO (aa (af 4) xNil)) xNil))))))))))))
def jM:Fn:=cF 7 2 mD
def xb{ds:List D}{s:Pen}(h:ds.length=2):jM.p ds s=(mD.p (dSt 7 ds) s).fin:=bE h
abbrev rtB:Xd []:=(aL (bB 4 (aw aP (aa (af 0) (aa (ao bo (xCb eO (aa (af 3) xNil)) (xC (.int 1))) xNil))))
 (aL (bB 5 (ao bo (ao bo (xCb dZ (aa (gH (af 3) xNo (xPt (af 4))) xNil)) (be (aa (aw eS (aa (af 0) (aa (af 2) xNil))) xNil))) (xCb dZ (aa (gH (af 3) (xPt (af 4)) xNo) xNil))))
 (aL (xIf (xB (ao oNe (aw bM (aa (af 2) (aa (ao oIx (be (aa (af 5) (aa (xCb kI (aa (af 5) xNil)) xNil))) (aw aP (aa (af 0) (aa (xC (.int 2)) xNil)))) xNil))) (xC (.str "web")))) (bi (xC (.bl false))) xSkip)
 (aL (xIf (xB (ao oNe (aw bM (aa (aw fC (aa (af 0) xNil)) (aa (ao oIx (be (aa (ar xNil) (aa (be xNil) xNil))) (aw aP (aa (af 0) (aa (xC (.int 2)) xNil)))) xNil))) (xC (.str "web")))) (bi (xC (.bl false))) xSkip)
 (aL (bB 6 (ao oIx (be (aa (xC .non) (aa (xC (.str "")) (aa (xC (.str "01")) (aa xDic (aa (xC (.int 3)) (aa (xC (.bl true)) (aa (vV 0 1 1) xNil)))))))) (aw aP (aa (af 0) (aa (xC (.int 7)) xNil)))))
 (aL (xIf (xB (ao oNe (aw bM (aa (af 2) (aa (af 6) xNil))) (xC (.str "web")))) (bi (xC (.bl false))) xSkip)
 (aL (bB 7 (aw jM (aa (af 0) (aa (ar (aa (af 2) (aa (af 3) xNil))) xNil))))
 (aL (bB 8 (aw l0 (aa (af 7) xNil)))
 (xIf (xOr (cE (xB (xUn (bP ["bool"]) (af 8)))) (xB (ao oNe (af 8) (aw jH (aa (af 7) xNil))))) (bi (xC (.bl false))) xSkip)))))))))
def gS:Xd []:=(aL (sk (aw iO (aa (af 0) (aa (xC (.int 12)) xNil))) (xGp (xGc (xNm 2) (xGc (xNm 3) xGl)) 2))
 (aL (xIf (xB (ao oNe (aw bM (aa (af 2) (aa (af 3) xNil))) (xC (.str "made")))) (bi (xC (.bl false))) xSkip)
 (aL (oK (fu iR1 (aa (xC (.int 3)) xNil)) (xNm 1) rtB)
 (bi (ao oEq (aw bM (aa (af 2) (aa (xCb dZ (aa (af 3) xNil)) xNil))) (xC (.str "made")))))))
def gL:Fn:=cF 9 1 gS
def wj{ds:List D}{s:Pen}(h:ds.length=1):gL.p ds s=(gS.p (dSt 9 ds) s).fin:=bE h
def ue:gL.m=ff:=congrArg (bh 9 1) (rfl:gS.m=m_l_right)
end
end Law
namespace Law
open PySem MM PU SetT SortT
open L2 (ixN atI eK)
set_option maxHeartbeats 1000000
def whole_p{i:Int}{s:Pen}:dY.p [.int i] s=.ok (.bl true) s:=by
 rw[lM (by rfl)];unfold fK;simp[dSt,bH]
def place_p{n i:Int}{s:Pen}:d9.p [.int n,.int i] s=.ok (.bl (decide (0<=i) && decide (i<n))) s:=by
 rw[lS (by rfl)];unfold fI;by_cases z:0<=i <;> simp[dSt,whole_p,z]
abbrev KsOf(d:D)(ks:List (List Int)):Prop:=d.items=some (ks.map kD)
def hV:∀(ks:List (List Int)),g6 (ks.map kD)=some ks
 | []=>rfl
 | k::ks=>by
  have:mn (kD k)=some k:=by
   show cZ (k.map .int)=some k
   induction k with
   | nil=>rfl
   | cons i k ih=>rw[qaL,cZ,ih];rfl
  rw[qaL,g6,this,hV ks]
open Classical in
theorem cSS_k{ks:List (List Int)}(h:(∀k∈ks,k≠[])/\(SetT.ded ks).length<=66):cSS.p [.lst (ks.map kD)]=some (.lst ((cN (SetT.ded ks)).map kD)):=by
 show (g6 (ks.map kD)).bind _=_;rw[hV,qbv,qai h]
def minS_2{a b:Int}:qR.p [.tup [.int a,.int b]]=some (.int (if b<a then b else a)):=by
 simp[qR,qK,D.items,cZ,k7,argBest]
 split <;> simp
def maxS_2{a b:Int}:qL.p [.tup [.int a,.int b]]=some (.int (if b>a then b else a)):=by
 simp[qL,qK,D.items,cZ,k7,argBest]
 split <;> simp
def y9{n:Int}{d:D}{ks:List (List Int)}{s:Pen}(e:KsOf d ks)(hk:∀k∈ks,IsT n k)(hl:ks.length<=100000)(hd:(SetT.ded (ks.map mmK)).length<=66) :
  cO.p [d] s=.ok (.tup ((cN (SetT.ded (ks.map mmK))).map kD)) s:=by
 rw[oZ (by rfl)];unfold fA
 have q:=qG (ws:=[]) (ws':=[]) (env:=dSt 1 [d]) (s:=s) (fm:=[]) (i:=dw (af 0)) (t:=xTrue) (e:=(ar (aa (xCb qR (aa (af 0) xNil)) (aa (xCb qL (aa (af 0) xNil)) xNil)))) (ds:=ks.map kD) (fun _=>true) (fun x=>match mn x with | some k=>kD (mmK k) | none=>.non) (by simp[dSt,e]) (by simpa using hl) (fun x hx=>by
   obtain⟨k,hk',rfl⟩:=qaJ.mp hx;obtain⟨a,b,rfl,_⟩:=hk k hk';refine⟨rfl,fun _=>?_⟩
   simp[kD,minS_2,maxS_2,mn,cZ,mmK])
 have e2:(((ks.map kD).filter fun _=>true).map fun x=>match mn x with | some k=>kD (mmK k) | none=>.non)=(ks.map mmK).map kD:=by
  rw[kc,qbF,qbF];refine List.map_congr_left fun k hk'=>?_;obtain⟨a,b,rfl,_⟩:=hk k hk';rfl
 rw[e2] at q
 have q2:=cSS_k (ks:=ks.map mmK) ⟨fun k hk'=>by
  obtain⟨k',hk'',rfl⟩:=qaJ.mp hk';obtain⟨a,b,rfl,_⟩:=hk k' hk''
  simp[mmK],hd⟩
 rw[cg,cr,aC,cr,aC,q];simp only[Pb,aI,q2,Pf,tS,Pg,PU.de]
def sI(n:Int)(ks:List (List Int)):D:=.tup [.int n,.tup (ks.map kD)]
def xV(n:Nat):cL 0 n=(upto n).map .int:=by simp[cL,upto]
def zP{ns:List Int}{j:Nat}(hj:j<=ns.length):cV (ns.map D.int) (some (j:Int)) none=(ns.drop j).map .int:=by
 unfold cV;rw[HT.yz,qaW,HT.sIx_nat,Nat.min_eq_left hj,List.map_drop];exact qbr (by simp)
def xW{ds:List D}:(jo ds).length=ds.length:=by simp[jo]
def wV{ds:List D}{j:Nat}{d:D}(e:(jo ds)[j]?=some d):∃x,ds[j]?=some x/\d=.tup [.int (j:Int),x]:=by
 unfold jo at e;rw[qaz,List.getElem?_zipIdx] at e
 cases e1:ds[j]? with
 | none=>rw[e1] at e;cases e
 | some x=>rw[e1] at e;simp at e;exact⟨x,rfl,e.symm⟩
def kY{ws:List Nat}{env:aE}{s s1:Pen}{o:OpM}{i:Nat}{a:Xs ws}{hi:ws.contains i=true}{hz:a.fz=true}{as ds ds':List D}{r:D}(e1:a.p env s=.ok as s1)(e2:env[i]?=some (some (.lst ds)))(e3:o.p ds as=some (r,ds')):(xMt o i a hi hz).p env s=.nx (env.set i (some (.lst ds'))) s1:=by
 rw[xMt_p,yc e1 e2 e3]
def yU{ns:List Int}{j:Nat}{x:D}(e:(ns.map D.int)[j]?=some x):x=.int (ns.getD j 0)/\j<ns.length:=by
 rw[qaz,qaD] at e;obtain⟨i,e1,rfl⟩:=e;obtain⟨h1,h2⟩:=qag.mp e1;exact⟨by simp[List.getD,e1],h1⟩
def pairs_p{ns:List Int}{s:Pen}(hn:ns.length<=12):g9.p [.lst (ns.map .int)] s=.ok (.lst ((bX ns ns.length).map kD)) s:=by
 rw[wo (by rfl)];unfold kh;have e0:dSt 4 [D.lst (ns.map .int)]=[some (.lst (ns.map .int)),none,none,none]:=rfl;obtain⟨env',s',e,z1,z2,rfl,hs⟩:=iN (g:=(xGp (xGc (xNm 2) (xGc (xNm 3) xGl)) 2:Xg [1]).p) (b:=(xMt oq 1 (aa (cu 1 [3] (dw (xSl (af 0) (xPt (ao bY (af 2) (xC (.int 1)))) xNo)) (ws':=[]) (xNm 0) xTrue (ar (aa (af 1) (aa (af 0) xNil)))) xNil):Xd [1]).p)
  (fun j env s'=>∃z1 z2,env=[some (.lst (ns.map .int)),some (.lst ((bX ns j).map kD)),z1,z2]/\s'=s) (jo (ns.map .int)) 0 [some (.lst (ns.map .int)),some (.lst []),none,none] s ⟨none,none,rfl,rfl⟩ (fun j env s' d ⟨z1,z2,hE,hS⟩ hd=>by
   rw[qaZ] at hE ⊢;subst hE hS;obtain⟨x,hx,rfl⟩:=wV hd;obtain⟨rfl,hj⟩:=yU hx;have hpl:=iW hn j
   have q:=qG (ws:=[1]) (ws':=[]) (env:=[some (.lst (ns.map .int)),some (.lst ((bX ns j).map kD)),some (.int (j:Int)),some (.int (ns.getD j 0))]) (s:=s') (fm:=[3]) (i:=(dw (xSl (af 0) (xPt (ao bY (af 2) (xC (.int 1)))) xNo))) (t:=xTrue) (e:=(ar (aa (af 1) (aa (af 0) xNil)))) (ds:=(ns.drop (j+1)).map .int) (fun _=>true) (fun x=>.tup [.int (ns.getD j 0),x]) (by
     have:=zP (ns:=ns) (j:=j+1) (by ext)
     push_cast at this
     simp[this]) (by simp;ext) (fun x hx=>⟨rfl,fun _=>by simp⟩)
   have e2:((((ns.drop (j+1)).map D.int).filter fun _=>true).map fun x=>D.tup [.int (ns.getD j 0),x])=((ns.drop (j+1)).map fun b=>[ns.getD j 0,b]).map kD:=by
    rw[kc,qbF,qbF];rfl
   rw[e2] at q;refine⟨[some (.lst (ns.map .int)),some (.lst ((bX ns j).map kD)),some (.int (j:Int)),some (.int (ns.getD j 0))],_,s',by simp,kY (s1:=s') (as:=[.lst (((ns.drop (j+1)).map fun b=>[ns.getD j 0,b]).map kD)]) (ds:=(bX ns j).map kD) (ds':=(bX ns (j+1)).map kD) (r:=.non) (by rw[aC,q];simp only[Pb,aI]) rfl ?_,_,_,rfl,rfl⟩
   rw[xt (by simp;ext),su,List.map_append])
 rw[xW,qaW,qaZ,hs] at e;have s1:(g7 1 (be xNil):Xd [1]).p [some (.lst (ns.map .int)),none,none,none] s=.nx [some (.lst (ns.map .int)),some (.lst []),none,none] s:=by simp
 rw[e0,au,s1,PU.aq,au,kf,kE,aC];simp only[aJ,Pb,aI,iE_l,Pf,Pg];rw[e,PU.aq,uj (d:=.lst ((bX ns ns.length).map kD)) rfl,PU.de]
def vo{n:Int}{ks:List (List Int)}(h0:0<=n)(h12:n<=12)(ht:∀k∈ks,∃a b:Int,k=[a,b]/\0<=a/\a<b/\b<n):WebT n (cN (SetT.ded ks)) :=
 ⟨h0,h12,fun k hk=>ht k ((SetT.k9 k ks).mp ((dS _).mem_iff.mp hk)),gr _,(dS _).symm.nodup (gT ks)⟩
def wW{n:Int}{ks:List (List Int)}(h12:n<=12)(ht:∀k∈ks,∃a b:Int,k=[a,b]/\0<=a/\a<b/\b<n):(SetT.ded ks).length<=66 :=
 nU h12 (fun k hk=>ht k ((SetT.k9 k ks).mp hk)) (gT ks)
structure Ord (n:Nat) (qs:List Int):Prop where
 n12:n<=12
 pm:qs.Perm (upto n)
def Ord.len{n:Nat}{qs:List Int}(o:Ord n qs):qs.length=n:=by have:=o.pm.length_eq;simpa [upto] using this
def Ord.bd{n:Nat}{qs:List Int}(o:Ord n qs):∀q∈qs,0<=q/\q<(n:Int):=fun q hq=>qY.mp (o.pm.mem_iff.mp hq)
def jb{g:D->aE->Option aE}{t:aE->Pen->PR Bool}{e:aE->Pen->PR D}(S:aE->Prop)(P:D->Prop):∀(ds:List D) (env:aE) (s:Pen),S env ->
  (∀x∈ds,∀env s,S env->∃env1,g x env=some env1/\S env1/\∃b s1,t env1 s=.ok b s1/\(b=true->∃y s2,e env1 s1=.ok y s2/\P y))->∃r s',dJ g t e ds env s=.ok r s'/\r.length<=ds.length/\∀y∈r,P y
 | [],env,s,hS,body=>⟨[],s,rfl,by simp,by simp⟩
 | x::ds,env,s,hS,body=>by
  obtain⟨env1,e1,hS1,b,s1,e2,e3⟩:=body x (by simp) env s hS;have rest:=fun y hy=>body y (qam x hy);rw[dJ,e1];dsimp only;rw[e2,Pb]
  cases b with
  | true =>
   obtain⟨y,s2,e4,py⟩:=e3 rfl;obtain⟨r,s3,e5,hl,hr⟩:=jb S P ds env1 s2 hS1 rest;refine⟨y::r,s3,by simp only[if_true,e4,Pb,e5],by simp;lia,fun z hz=>?_⟩;rcases qao.mp hz with rfl|hz
   ·exact py
   ·exact hr z hz
  | false =>
   obtain⟨r,s3,e5,hl,hr⟩:=jb S P ds env1 s1 hS1 rest;exact⟨r,s3,by simp only[qac,if_false,e5],by simp;lia,hr⟩
def jE{ws ws':List Nat}{env:aE}{s s0:Pen}{fm:List Nat}{i:Xi ws}{t:Xt ws'}{e:Xe ws'}{ds:List D}(P:D->Prop)(ei:i.p env s=.ok ds s0)(hl:ds.length<=100000)
  (body:∀x∈ds,∀s,∃b s1,t.p (some x::fm.map fun i=>(env[i]?).getD none) s=.ok b s1/\(b=true->∃y s2,e.p (some x::fm.map fun i=>(env[i]?).getD none) s1=.ok y s2/\P y)) (h0:ws'.contains 0=false:=by exact ys rfl) (hw:cws 1 fm ws=ws':=by exact ys rfl) (hz:e.fz=true:=by exact ys rfl) :
  ∃r s',(cu 1 fm i (xNm 0 h0) t e hw hz).p env s=.ok (.lst r) s'/\r.length<=ds.length/\∀y∈r,P y:=by
 obtain⟨r,s',e1,h1,h2⟩:=jb (g:=(xNm 0 h0:Xg ws').p) (t:=t.p) (e:=e.p) (fun v=>∃z,v=z::fm.map fun i=>(env[i]?).getD none) P ds (cenv 1 fm env) s0 ⟨none,rfl⟩ fun x hx env' s ⟨z,hz⟩=>by
  subst hz;obtain⟨b,s1,e2,e3⟩:=body x hx s;exact⟨_,rfl,⟨some x,rfl⟩,b,s1,e2,e3⟩
 refine⟨r,s',?_,h1,h2⟩;rw[vc,ei,Pb,qai hl,e1]
def gJ{lo:Int}{c:Nat}:(cL lo c).length=c:=by simp[cL]
def qU{lo:Int}{c:Nat}{x:D}(h:x∈cL lo c):∃i:Int,x=.int i/\lo<=i/\i<lo+c:=by
 unfold cL at h;obtain⟨k,hk,rfl⟩:=qaJ.mp h;rw[qbH] at hk;exact⟨_,rfl,by lia,by lia⟩
def zD{c i:Nat}{x:D}(h:(cL 0 c)[i]?=some x):x=.int (i:Int)/\i<c:=by
 unfold cL at h;rw[qaz,qaD] at h;obtain⟨k,hk,rfl⟩:=h;obtain⟨a,b⟩:=qag.mp hk;simp at a b;subst b;exact⟨by simp,a⟩
local macro_rules | `(tactic| simp! [$a,*]) => `(tactic| simp only [$a,*, Pb, aC, aI, aJ])
def order_p{n:Nat}{s:Pen}(hn:n<=12):∃qs s',kM.p [.pen,.int n] s=.ok (.lst (qs.map .int)) s'/\Ord n qs:=by
 rw[wA (by rfl)];unfold j9;have e0:dSt 4 [D.pen,.int n]=[some .pen,some (.int n),none,none]:=rfl;obtain⟨env',s',e,z,qs,rfl,pm⟩:=iN (g:=(xNm 3:Xg [2]).p) (b:=(xMt nY 2 (aa (aw aP (aa (af 0) (aa (ao bY (af 3) (xC (.int 1))) xNil))) (aa (af 3) xNil)):Xd [2]).p)
  (fun j env s'=>∃z qs,env=[some .pen,some (.int n),some (.lst ((qs:List Int).map .int)),z]/\qs.Perm (upto j)) (cL 0 n) 0 [some .pen,some (.int n),some (.lst []),none] s ⟨none,[],rfl,by simp[upto]⟩ (fun j env s' d ⟨z,qs,hE,pm⟩ hd=>by
   rw[qaZ] at pm ⊢;subst hE;obtain⟨rfl,hj⟩:=zD hd;have hlq:qs.length=j:=by have:=pm.length_eq;simpa [upto] using this
   obtain⟨d,s1,d0,d1,qd⟩:=bD (s:=s') (size:=(j:Int)+1) (by lia) (by lia);obtain⟨k,rfl⟩:=kC d0;refine⟨[some .pen,some (.int n),some (.lst (qs.map .int)),some (.int (j:Int))],[some .pen,some (.int n),some (.lst ((qs.take k++(j:Int)::qs.drop k).map .int)),some (.int (j:Int))],s1,rfl,?_,_,qs.take k++(j:Int)::qs.drop k,rfl,?_⟩
   ·rw[kY (s1:=s1) (as:=[.int (k:Int),.int (j:Int)]) (ds:=qs.map .int) (ds':=(qs.take k++(j:Int)::qs.drop k).map .int) (r:=.non) (by simp[qd]) rfl (by
     rw[w8 (by simp;lia) (by simp;lia)];simp)]
    rfl
   ·have:(qs.take k++((j:Int))::qs.drop k).Perm (((j:Int))::qs):=by
     have:=qbG (a:=(j:Int)) (l₁:=qs.take k) (l₂:=qs.drop k)
     rwa [qbi] at this
    refine this.trans ((pm.cons _).trans ?_);have e1:upto (j+1)=upto j++[(j:Int)]:=by simp[upto,qcD]
    rw[e1]
    exact (qck _ _).symm)
 rw[gJ,qaZ] at pm;refine⟨qs,s',?_,hn,pm⟩;rw[e0,au,iz];simp![di,qbo,qaM,if_true,Pg,qaA,qaB,PU.aq,au,kf,kE,aT];rw[iR1_i (by lia),qaN,Pf,Pg,e,PU.aq,uj (d:=.lst (qs.map .int)) rfl,PU.de]
def ie(n:Nat)(y:D):Prop:=∃a b:Int,y=kD [a,b]/\0<=a/\a<b/\b<n
def vb{n:Nat}:∀{ys:List D},(∀y∈ys,ie n y)->∃ps:List (List Int),ys=ps.map kD/\∀k∈ps,∃a b:Int,k=[a,b]/\0<=a/\a<b/\b<n
 | [],_=>⟨[],rfl,(fun _ h=>nomatch h)⟩
 | y::ys,h=>by
  obtain⟨ps,e,hp⟩:=vb (ys:=ys) fun y hy=>h y (qam _ hy);obtain⟨a,b,rfl,h1⟩:=h y (by simp);refine⟨[a,b]::ps,by rw[e];rfl,fun k hk=>?_⟩;rcases qao.mp hk with rfl|hk
  ·exact⟨a,b,rfl,h1⟩
  ·exact hp k hk
def upto_lt(n:Nat):(upto n).Pairwise (·<·):=by
 unfold upto;exact List.Pairwise.map (R:=fun a b:Nat=>a<b) _ (fun a b h=>by lia) qcw
def om{env:aE}{s:Pen}{lo:Int}{n:Nat}{t:Xt []}{e:Xe []}{n':Nat}(P:D->Prop)(ev:env[1]?=some (some (.int (n:Int))))(h0:0<=lo)(h1:lo<=3)(hn:n<=12)
  (body:∀i:Int,lo<=i->i<n->∀s,∃b s1,t.p [some (.int i)] s=.ok b s1/\(b=true->∃y s2,e.p [some (.int i)] s1=.ok y s2/\P y)) (hz:e.fz=true:=by exact ys rfl) :
  ∃r s',(cu 1 [] (fu iR2 (aa (xC (.int lo)) (aa (af 1) xNil))) (ws':=[]) (xNm 0) t e (hz:=hz):Xe []).p env s=.ok (.lst r) s'/\r.length<=12/\∀y∈r,P y:=by
 obtain⟨r,s',q,hl,hr⟩:=jE (ws:=[]) (ws':=[]) (env:=env) (s:=s) (s0:=s) (fm:=[]) (i:=fu iR2 (aa (xC (.int lo)) (aa (af 1) xNil))) (t:=t) (e:=e) (ds:=cL lo ((n:Int) - lo).toNat) P (by
  simp only[kE,aC,bC,bf,iM ev,Pb,aI]
  rw[iR2_i ⟨by lia,by lia⟩];rfl) (by rw[gJ];lia) (fun x hx s=>by
   obtain⟨i,rfl,a,b⟩:=qU hx
   exact body i a (by lia) s) (hz:=hz)
 refine⟨r,s',q,?_,hr⟩;rw[gJ] at hl;lia
def shape_p{n:Nat}{s:Pen}(hn:n<=12):∃ys s',kw.p [.pen,.int n] s=.ok (.lst ys) s'/\ys.length<=400/\∀y∈ys,ie n y:=by
 rw[vO (by rfl)];unfold kz;have e0:dSt 4 [D.pen,.int n]=[some .pen,some (.int n),none,none]:=rfl;obtain⟨way,s1,w0,w1,qw⟩:=bD (s:=s) (size:=8) (by decide) (by decide);have st1:(bB 2 (aw aP (aa (af 0) (aa (xC (.int 8)) xNil))):Xd []).p [some .pen,some (.int n),none,none] s=.nx [some .pen,some (.int n),some (.int way),none] s1:=by
  simp[qw]
 rw[e0,au,st1,PU.aq];by_cases c1:way<4
 ·
  have pl:=iW (ns:=upto n) (by simp[upto];exact hn) n;have ul:(upto n).length=n:=by simp[upto]
  obtain⟨sz,es,sz0,sz1⟩:∃sz:Int,atI [D.int 2,.int 3,.int 4,.int 6] way=some (.int sz)/\0<sz/\sz<=1000:=by
   have:way=0\/way=1\/way=2\/way=3:=by lia
   rcases this with rfl|rfl|rfl|rfl
   ·exact⟨2,by simp,by decide,by decide⟩
   ·exact⟨3,by simp,by decide,by decide⟩
   ·exact⟨4,by simp,by decide,by decide⟩
   ·exact⟨6,by simp,by decide,by decide⟩
  obtain⟨r,s',q,hl,hr⟩:=jE (ws:=[]) (ws':=[]) (env:=[some .pen,some (.int n),some (.int way),none]) (s:=s1) (s0:=s1) (fm:=[0,2]) (i:=dw (aw g9 (aa (xCb cLR (aa (af 1) xNil)) xNil))) (t:=(xB (ao oEq (aw aP (aa (af 1) (aa (ao oIx (be (aa (xC (.int 2)) (aa (xC (.int 3)) (aa (xC (.int 4)) (aa (xC (.int 6)) xNil))))) (af 2)) xNil))) (xC (.int 0))))) (e:=af 0) (ds:=(bX (upto n) n).map kD) (ie n) (by
    have:=pairs_p (ns:=upto n) (s:=s1) (by lia)
    rw[ul] at this;simp![xl,aS,cr,aT];rw[cLR_i (by lia),qaN,xV]
    simp[this]) (by simp;lia) (fun x hx s=>by
    obtain⟨d,s2,_,_,qd⟩:=bD (s:=s) (size:=sz) sz0 (by lia);refine⟨decide (d=0),s2,by simp[es,qd],fun _=>⟨x,s2,by simp,?_⟩⟩;obtain⟨k,hk,rfl⟩:=qaJ.mp hx;have hk':k∈bX (upto n) (upto n).length:=by rw[ul];exact hk
    obtain⟨a,b,rfl,h1⟩:=vU (n:=n) (upto_lt n) (fun x hx=>qY.mp hx) k hk'
    exact⟨a,b,rfl,h1⟩)
  refine⟨r,s',?_,by simp at hl;lia,hr⟩;have t1:(xB (ao oLt (af 2) (xC (.int 4))):Xt []).p [some .pen,some (.int n),some (.int way),none] s1=.ok true s1:=by simp[c1]
  rw[au,bz,t1,Pg,qai rfl,cg,q];rfl
 have t1:(xB (ao oLt (af 2) (xC (.int 4))):Xt []).p [some .pen,some (.int n),some (.int way),none] s1=.ok false s1:=by simp[c1]
 rw[au,bz,t1,Pg,qal (by simp),bx,PU.aq];by_cases c2:way=4
 ·
  obtain⟨r,s',q,hl,hr⟩:=jE (ws:=[]) (ws':=[]) (env:=[some .pen,some (.int n),some (.int way),none]) (s:=s1) (s0:=s1) (fm:=[0]) (i:=fu iR2 (aa (xC (.int 1)) (aa (af 1) xNil))) (t:=xTrue) (e:=(ar (aa (aw aP (aa (af 1) (aa (af 0) xNil))) (aa (af 0) xNil)))) (ds:=cL 1 ((n:Int) - 1).toNat) (ie n) (by
    simp![kE,bC,bf,aT]
    rw[iR2_i ⟨by lia,by lia⟩];rfl) (by rw[gJ];lia) (fun x hx s=>by
    obtain⟨i,rfl,a,b⟩:=qU hx;obtain⟨d,s2,d0,d1,qd⟩:=bD (s:=s) (size:=i) (by lia) (by lia)
    exact⟨true,s,rfl,fun _=>⟨kD [d,i],s2,by simp[qd,kD],d,i,rfl,d0,d1,by lia⟩⟩)
  refine⟨r,s',?_,by rw[gJ] at hl;lia,hr⟩;have t2:(xB (ao oEq (af 2) (xC (.int 4))):Xt []).p [some .pen,some (.int n),some (.int way),none] s1=.ok true s1:=by simp[c2]
  rw[au,bz,t2,Pg,qai rfl,cg,q];rfl
 have t2:(xB (ao oEq (af 2) (xC (.int 4))):Xt []).p [some .pen,some (.int n),some (.int way),none] s1=.ok false s1:=by simp[c2]
 rw[au,bz,t2,Pg,qal (by simp),bx,PU.aq];by_cases c3:way=5
 ·
  obtain⟨r,s2,q,hl,hr⟩:=om (env:=[some .pen,some (.int n),some (.int way),none]) (s:=s1) (lo:=1) (n:=n) (n':=n) (t:=xB (ao oGt (ao oMod (af 0) (xC (.int 3))) (xC (.int 0)))) (e:=ar (aa (ao cX (af 0) (xC (.int 1))) (aa (af 0) xNil))) (ie n) rfl (by decide) (by decide) hn (fun i a b s=>⟨_,s,by simp[oMod_ii];rfl,fun _=>⟨kD [i - 1,i],s,by simp[kD],_,_,rfl,by lia,by lia,by lia⟩⟩);obtain⟨r',s3,q',hl',hr'⟩:=om (env:=[some .pen,some (.int n),some (.int way),none]) (s:=s2) (lo:=3) (n:=n) (n':=n) (t:=xTrue) (e:=ar (aa (ao cX (af 0) (xC (.int 3))) (aa (af 0) xNil))) (ie n) rfl (by decide) (by decide) hn (fun i a b s=>⟨true,s,rfl,fun _=>⟨kD [i - 3,i],s,by simp[kD],_,_,rfl,by lia,by lia,by lia⟩⟩);refine⟨r++r',s3,?_,by simp;lia,fun y hy=>?_⟩
  ·have t3:(xB (ao oEq (af 2) (xC (.int 5))):Xt []).p [some .pen,some (.int n),some (.int way),none] s1=.ok true s1:=by simp[c3]
   rw[au,bz,t3,Pg,qai rfl,cg,aQ,q,Pb,q',Pb,eJ (by lia)];rfl
  ·rcases qau.mp hy with z|z
   ·exact hr y z
   ·exact hr' y z
 have t3:(xB (ao oEq (af 2) (xC (.int 5))):Xt []).p [some .pen,some (.int n),some (.int way),none] s1=.ok false s1:=by simp[c3]
 rw[au,bz,t3,Pg,qal (by simp),bx,PU.aq];obtain⟨r,s2,q,hl,hr⟩:=om (env:=[some .pen,some (.int n),some (.int way),none]) (s:=s1) (lo:=1) (n:=n) (n':=n) (t:=xTrue) (e:=ar (aa (ao cX (af 0) (xC (.int 1))) (aa (af 0) xNil))) (ie n) rfl (by decide) (by decide) hn (fun i a b s=>⟨true,s,rfl,fun _=>⟨kD [i - 1,i],s,by simp[kD],_,_,rfl,by lia,by lia,by lia⟩⟩);obtain⟨zs,q2,zl,zt⟩:∃zs:List D,(ao oMul (be (aa (ar (aa (xC (.int 0)) (aa (ao cX (af 1) (xC (.int 1))) xNil))) xNil)) (xCb r9 (aa (ao oGt (af 1) (xC (.int 2))) xNil)):Xe []).p [some .pen,some (.int n),some (.int way),none] s2=.ok (.lst zs) s2/\zs.length<=1/\∀y∈zs,ie n y:=by
  have mu:∀(x:List D) (j:Int),(0<=j/\j<=1000)->((List.replicate j.toNat x).flatten).length<=100000->oMul.p (.lst x) (.int j)=some (.lst (List.replicate j.toNat x).flatten):=fun x j h1 h2=>by
   show (if _ then _ else _)=_;rw[qai ⟨h1,h2⟩]
  by_cases z:(2:Int)<(n:Int)
  ·refine⟨[.tup [.int 0,.int ((n:Int) - 1)]],?_,by simp,fun y hy=>?_⟩
   ·simp[z,mu]
   ·have:y=.tup [.int 0,.int ((n:Int) - 1)]:=by simpa using hy
    exact⟨0,(n:Int) - 1,this,by lia,by lia,by lia⟩
  ·refine⟨[],?_,by simp,fun y hy=>by cases hy⟩;simp[z,mu]
 have st3:(bB 3 (ao bY (cu 1 [] (fu iR2 (aa (xC (.int 1)) (aa (af 1) xNil))) (ws':=[]) (xNm 0) xTrue (ar (aa (ao cX (af 0) (xC (.int 1))) (aa (af 0) xNil)))) (ao oMul (be (aa (ar (aa (xC (.int 0)) (aa (ao cX (af 1) (xC (.int 1))) xNil))) xNil)) (xCb r9 (aa (ao oGt (af 1) (xC (.int 2))) xNil)))):Xd []).p [some .pen,some (.int n),some (.int way),none] s1=.nx [some .pen,some (.int n),some (.int way),some (.lst (r++zs))] s2:=by
  rw[bT,aQ,q,Pb,q2,Pb,eJ (by lia)];rfl
 have rt:∀y∈r++zs,ie n y:=fun y hy=>by
  rcases qau.mp hy with z|z
  ·exact hr y z
  ·exact zt y z
 rw[au,st3,PU.aq];by_cases c4:way=6\/(n:Int)<4
 ·refine⟨r++zs,s2,?_,by simp;lia,rt⟩;have t4:(xOr (xB (ao oEq (af 2) (xC (.int 6)))) (xB (ao oLt (af 1) (xC (.int 4)))):Xt []).p [some .pen,some (.int n),some (.int way),some (.lst (r++zs))] s2=.ok true s2:=by
   by_cases z:way=6
   ·simp[z]
   ·have:(n:Int)<4:=c4.resolve_left z
    simp[z,this]
  rw[au,bz,t4,Pg,qai rfl];simp
 ·have c5:way≠6:=fun z=>c4 (.inl z);have c6:¬(n:Int)<4:=fun z=>c4 (.inr z);have t4:(xOr (xB (ao oEq (af 2) (xC (.int 6)))) (xB (ao oLt (af 1) (xC (.int 4)))):Xt []).p [some .pen,some (.int n),some (.int way),some (.lst (r++zs))] s2=.ok false s2:=by
   simp[c5,c6]
  obtain⟨d,s3,d0,d1,qd⟩:=bD (s:=s2) (size:=2) (by decide) (by decide);obtain⟨f,s4,f0,f1,qf⟩:=bD (s:=s3) (size:=(n:Int) - 2) (by lia) (by lia);refine⟨r++zs++[kD [d,2+f]],s4,?_,by simp;lia,fun y hy=>?_⟩
  ·rw[au,bz,t4,Pg,qal (by simp),bx,PU.aq,cg,aQ];simp![aT,di,dA,aS,bC,bf,qd,aQ,og,Pf,qf,uw,qaQ,qbo];rw[qai (by lia),Pb,Pb,qai (by simp),Pb,eJ (by simp;lia)];rfl
  ·rcases qau.mp hy with z|z
   ·exact rt y z
   ·have:y=kD [d,2+f]:=by simpa using z
    exact⟨d,2+f,this,d0,by lia,by lia⟩
def atN{xs:List Int}{i:Int}(h0:0<=i)(h1:i<(xs.length:Int)):∃x:Int,x∈xs/\xs[i.toNat]?=some x/\atI (xs.map D.int) i=some (.int x):=by
 obtain⟨k,rfl⟩:=kC h0;have hk:k<xs.length:=by lia
 refine⟨xs[k],qcu hk,by simp[hk],?_⟩;exact L2.eB (by simp[hk])
def web_p{most:Nat}{s:Pen}(hm:most<=12):∃(n:Nat) (ks:List (List Int)) (s':Pen),iO.p [.pen,.int most] s=.ok (sI n ks) s'/\n<=most/\WebT n ks:=by
 rw[zn (by rfl)];unfold oY;have e0:dSt 7 [D.pen,.int most]=[some .pen,some (.int most),none,none,none,none,none]:=rfl;obtain⟨d,s1,d0,d1,qd⟩:=bD (s:=s) (size:=(most:Int)+1) (by lia) (by lia);obtain⟨f,s2,f0,f1,qf⟩:=bD (s:=s1) (size:=4) (by decide) (by decide);obtain⟨n,hn,st⟩:∃n:Nat,n<=most/\((bB 2 (aw aP (aa (af 0) (aa (ao bY (af 1) (xC (.int 1))) xNil))):Xd [4]).p [some .pen,some (.int most),none,none,none,none,none] s).then (xIf (xB (ao oEq (aw aP (aa (af 0) (aa (xC (.int 4)) xNil))) (xC (.int 3)))) (bB 2 (af 1)) xSkip:Xd [4]).p=.nx [some .pen,some (.int most),some (.int n),none,none,none,none] s2:=by
  obtain⟨k,rfl⟩:=kC d0;by_cases z:f=3
  ·exact⟨most,qah _,by simp[qd,qf,z]⟩
  ·exact⟨k,by lia,by simp[qd,qf,z]⟩
 have assoc:∀(x:PS) (a b:aE->Pen->PS),x.then (fun e s=>(a e s).then b)=(x.then a).then b:=fun x a b=>by cases x <;> rfl
 obtain⟨qs,s3,q3,o⟩:=order_p (n:=n) (s:=s2) (by lia);obtain⟨ys',s4,q4,yl,yt⟩:=shape_p (n:=n) (s:=s3) (by lia);have ql:=o.len;have qn:qs.Nodup:=o.pm.symm.nodup (nd_upto n);obtain⟨env',s',e,z5,z6,zs,rfl,hs,zl,zt⟩:=iN (g:=(xGp (xGc (xNm 5) (xGc (xNm 6) xGl)) 2:Xg [4]).p) (b:=(xMt lg 4 (aa (ar (aa (xCb cMin (aa (ao oIx (af 3) (af 5)) (aa (ao oIx (af 3) (af 6)) xNil))) (aa (xCb cMax (aa (ao oIx (af 3) (af 5)) (aa (ao oIx (af 3) (af 6)) xNil))) xNil))) xNil):Xd [4]).p)
  (fun j env s'=>∃z5 z6 zs,env=[some .pen,some (.int most),some (.int n),some (.lst (qs.map .int)),some (.lst zs),z5,z6]/\s'=s4/\zs.length<=j/\∀z∈zs,ie n z) ys' 0 [some .pen,some (.int most),some (.int n),some (.lst (qs.map .int)),some (.lst []),none,none] s4 ⟨none,none,[],rfl,rfl,by simp,by simp⟩ (fun m env s' x ⟨z5,z6,zs,hE,hS,zl,zt⟩ hx=>by
   subst hE hS;have hm':m<ys'.length:=(qag.mp hx).1;obtain⟨i,j,rfl,i0,ij,jn⟩:=yt x (qaO hx);obtain⟨a1,m1,g1,t1⟩:=atN (xs:=qs) (i:=i) i0 (by lia);obtain⟨b1,m2,g2,t2⟩:=atN (xs:=qs) (i:=j) (by lia) (by lia);have ne:a1≠b1:=fun z=>by
    subst z
    have:=(List.getElem?_inj (l:=qs) (i:=i.toNat) (j:=j.toNat) (by lia) qn).mp (g1.trans g2.symm)
    lia
   have ba:=o.bd a1 m1;have bb:=o.bd b1 m2;refine⟨[some .pen,some (.int most),some (.int n),some (.lst (qs.map .int)),some (.lst zs),some (.int i),some (.int j)],[some .pen,some (.int most),some (.int n),some (.lst (qs.map .int)),some (.lst (zs++[kD [if b1<a1 then b1 else a1,if b1>a1 then b1 else a1]])),some (.int i),some (.int j)],s',by simp[kD],?_,_,_,_,rfl,rfl,by simp;lia,fun z hz=>?_⟩
   ·rw[kY (s1:=s') (as:=[kD [if b1<a1 then b1 else a1,if b1>a1 then b1 else a1]]) (ds:=zs) (ds':=zs++[kD [if b1<a1 then b1 else a1,if b1>a1 then b1 else a1]]) (r:=.non) (by simp[t1,t2,kD]) rfl (pd (by lia))];rfl
   ·rcases qau.mp hz with q|q
    ·exact zt z q
    ·have:z=kD [if b1<a1 then b1 else a1,if b1>a1 then b1 else a1]:=by simpa using q
     refine⟨_,_,this,?_,?_,?_⟩ <;> (repeat' split) <;> lia)
 obtain⟨ps,rfl,pt⟩:=vb zt;have hn12:(n:Int)<=12:=by lia
 rw[hs] at e;refine⟨n,cN (SetT.ded ps),s4,?_,hn,vo (by lia) hn12 pt⟩;rw[e0,au];show (PS.then _ fun e s=>((xIf _ _ _:Xd [4]).p e s).then _).fin=_;rw[assoc,st,PU.aq,au,bT];simp![aS,aT,q3,Pg,qaA,qaB,PU.aq,au,iz,di,qbo,qaM,if_true,kf,xl,q4,wX,Pf];rw[e];simp![PU.aq,cg,dA,aT,cr];rw[cSS_k ⟨fun k hk=>by obtain⟨a,b,rfl,_⟩:=pt k hk;simp,wW hn12 pt⟩];simp[sI]
def Kd(d:D):Prop:=∃t,tyD d=some t
def isI:D->Bool
 | .int _=>true
 | _=>false
def plB(n:Int):D->Bool
 | .int i=>decide (0<=i) && decide (i<n)
 | _=>false
def db:D->Bool
 | .int i=>decide (0<=i) && decide (i<=12)
 | _=>false
def prB:D->Bool
 | .tup [_,_]=>true
 | _=>false
def bV(n:Int):D->Bool
 | .tup [.int a,.int b]=>decide (0<=a) && decide (a<n) && decide (0<=b) && decide (b<n) && !decide (a=b)
 | _=>false
def oJ(h:Kd d):dY.p [d] s=.ok (.bl (isI d)) s:=by
 rw[lM (by rfl)];unfold fK;obtain⟨t,ht⟩:=h;cases d <;> first | (cases ht;done) | (simp[dSt,bH,isI,tyD];done) | (simp[dSt,bH,isI,tyD] at ht ⊢)
def uD(h:Kd d):d9.p [.int n,d] s=.ok (.bl (plB n d)) s:=by
 cases d with
 | int i=>exact place_p
 | _ =>
  rw[lS (by rfl)];unfold fI;simp[dSt,oJ h,isI,plB]
def iJ(h:Kd d):fQ.p [d] s=.ok (.bl (db d)) s:=by
 rw[tU (by rfl)];unfold jN
 cases d with
 | int i=>by_cases z:0<=i <;> simp[dSt,oJ h,isI,db,z]
 | _=>simp[dSt,oJ h,isI,db]
def len2:decide ((ds.length:Int)=2)=prB (.tup ds):=by
 match ds with
 | []=>rfl
 | [_]=>rfl
 | [_,_]=>rfl
 | _::_::_::r =>
  simp[prB];ext
def xj(h:Kd d):gQ.p [d] s=.ok (.bl (prB d)) s:=by
 rw[wD (by rfl)];unfold kO;obtain⟨t,ht⟩:=h
 cases d with
 | tup ds=>simp[dSt,bH,tyD,len2]
 | _=>first | (cases ht;done) | (simp[dSt,bH,tyD,prB];done) | (simp[dSt,bH,tyD,prB] at ht ⊢)
def K1(d:D):Prop:=Kd d/\∀ds,d=.tup ds->∀x∈ds,Kd x
def k8(h:prB d=true):∃x y,d=.tup [x,y]:=by
 match d,h with
 | .tup [x,y],_=>exact⟨x,y,rfl⟩
def tieB_no(h:prB d=false):bV n d=false:=by
 unfold bV;split
 ·cases h
 ·rfl
def vq(h:bV n (.tup [x,y])=true):plB n x=true/\plB n y=true:=by
 unfold bV at h
 split at h
 ·rename_i a b e
  injection e with e
  injection e with e1 e2
  injection e2 with e2
  subst e1;subst e2;simp at h;simp[plB,h]
 ·cases h
def uM(h:plB n d=true):∃i:Int,d=.int i/\0<=i/\i<n:=by
 match d,h with
 | .int i,h=>exact⟨i,rfl,by simpa [plB] using h⟩
def tie_k(h:K1 d):i4.p [.int n,d] s=.ok (.bl (bV n d)) s:=by
 rw[yx (by rfl)];unfold mP;rw[show dSt 2 [D.int n,d]=[some (.int n),some d] from rfl];rw[au,bz];simp![dC,dM,aS,aT,xj h.1,Pl,Pg]
 cases z:prB d with
 | false=>simp[tieB_no z]
 | true =>
  obtain⟨x,y,rfl⟩:=k8 z;have hx:=h.2 _ rfl x (by simp);have hy:=h.2 _ rfl y (by simp);simp![qaH,qac,if_false,bx,PU.aq,cg,uW,aS,aT,aQ,bC,bf,oIx_t,show atI [x,y] 0=some x from rfl,show atI [x,y] 1=some y from rfl,Pf,uD hx,Pl]
  cases zx:plB n x with
  | false =>
   have:bV n (.tup [x,y])=false:=qbX.mpr fun q=>by rw[(vq q).1] at zx;cases zx
   simp[this]
  | true =>
   simp only[if_true,uD hy,Pl,Pb]
   cases zy:plB n y with
   | false =>
    have:bV n (.tup [x,y])=false:=qbX.mpr fun q=>by rw[(vq q).2] at zy;cases zy
    simp[this]
   | true =>
    obtain⟨a,rfl,a0,a1⟩:=uM zx;obtain⟨b,rfl,b0,b1⟩:=uM zy;simp[bV,a0,a1,b0,b1]
def vx:∀(bs:List Bool),mL (bs.map .bl)=some bs
 | []=>rfl
 | b::bs=>by rw[qaL,mL,vx bs];rfl
def tP(e:d.items=some ds)(hl:ds.length<=100000)(h:∀x∈ds,K1 x):fO.p [.int n,d] s=.ok (.bl (ds.all (bV n))) s:=by
 rw[tX (by rfl)];unfold jf;have q:=qG (ws:=[]) (ws':=[]) (env:=dSt 2 [.int n,d]) (s:=s) (fm:=[0]) (i:=dw (af 1)) (t:=xTrue) (e:=(aw i4 (aa (af 1) (aa (af 0) xNil)))) (ds:=ds) (fun _=>true) (fun x=>.bl (bV n x)) (by simp[dSt,e]) hl (fun x hx=>⟨rfl,fun _=>by simp[dSt,tie_k (h x hx)]⟩);rw[kc] at q;have e3:cAll.p [.lst (ds.map fun x=>.bl (bV n x))]=some (.bl (ds.all (bV n))):=by
  show ((some (ds.map fun x=>D.bl (bV n x))).bind mL).map _=_
  have:(ds.map fun x=>D.bl (bV n x))=(ds.map (bV n)).map .bl:=by rw[qbF];rfl
  rw[this,qbv,vx,qbB,List.all_map];rfl
 rw[cg,cr,aC,q];simp only[Pb,aI,e3,Pf,Pg,PU.de]
def ss:∀{ds:List D},ds.all (bV n)=true->∃ks:List (List Int),ds=ks.map kD/\∀k∈ks,IsT n k
 | [],_=>⟨[],rfl,fun _ h=>by simp at h⟩
 | d::ds,h=>by
  rw[qcG,qbT] at h;obtain⟨ks,rfl,hk⟩:=ss (ds:=ds) h.2;have hd:=h.1;unfold bV at hd
  split at hd
  ·rename_i a b
   simp at hd;refine⟨[a,b]::ks,rfl,fun k hk'=>?_⟩;rcases qao.mp hk' with rfl|z
   ·exact⟨a,b,rfl,by ext,by ext,by ext,by ext,by ext⟩
   ·exact hk k z
  ·cases hd
def lT{n:Int}{ks:List (List Int)}(h:∀k∈ks,IsT n k):(ks.map kD).all (bV n)=true:=by
 rw[qcb];intro x hx;obtain⟨k,hk,rfl⟩:=qaJ.mp hx;obtain⟨a,b,rfl,h1,h2,h3,h4,h5⟩:=h k hk;simp[kD,bV,h1,h2,h3,h4,h5]
def qH(k:List Int):K1 (kD k):=⟨⟨_,rfl⟩,fun ds e x hx=>by
 injection e with e
 subst e;obtain⟨i,_,rfl⟩:=qaJ.mp hx
 exact⟨_,rfl⟩⟩
def mmK_tie(h:IsT n k):∃a b:Int,mmK k=[a,b]/\0<=a/\a<b/\b<n:=by
 obtain⟨a,b,rfl,h1,h2,h3,h4,h5⟩:=h;rcases Int.lt_or_gt_of_ne h5 with z|z
 ·exact⟨a,b,xc z,h1,z,h4⟩
 ·exact⟨b,a,mmK_gt z,h3,z,h2⟩
def vd{n:Int}{ks:List (List Int)}(h:∀k∈ks,IsT n k):∀k∈ks.map mmK,∃a b:Int,k=[a,b]/\0<=a/\a<b/\b<n:=fun k hk=>by
 obtain⟨k',hk',rfl⟩:=qaJ.mp hk;exact mmK_tie (h k' hk')
def xF{n:Int}{d:D}{ks:List (List Int)}{s:Pen}(e:KsOf d ks)(h12:n<=12)(hk:∀k∈ks,IsT n k)(hl:ks.length<=100000) :
  cO.p [d] s=.ok (.tup ((cN (SetT.ded (ks.map mmK))).map kD)) s:=y9 e hk hl (wW h12 (vd hk))
def wo_cnt(h:Kd c)(hb:db c=false):bL.p [c,d] s=.exc "NoWeb" s:=by
 rw[gX (by rfl)];unfold eA;simp[dSt,iJ h,hb]
def wQ{n:Nat}(hn:n<=12):db (.int n)=true:=by simp[db];ext
def wo_kind{n:Nat}{d:D}{s:Pen}(hn:n<=12)(h:Kd d)(h1:∀ds,d≠.lst ds)(h2:∀ds,d≠.tup ds):bL.p [.int n,d] s=.exc "NoWeb" s:=by
 rw[gX (by rfl)];unfold eA;obtain⟨t,ht⟩:=h
 cases d with
 | lst ds=>exact absurd rfl (h1 ds)
 | tup ds=>exact absurd rfl (h2 ds)
 | _=>first | (cases ht;done) | (simp[dSt,iJ (d:=.int n) ⟨_,rfl⟩,wQ hn,bH,tyD];done)
def isLT(e:d=.lst ds\/d=.tup ds):(bP ["list","tuple"]).p d=some (.bl true)/\d.items=some ds:=by
 rcases e with rfl|rfl <;> exact⟨rfl,rfl⟩
def wo_tie{n:Nat}{d:D}{ds:List D}{s:Pen}(hn:n<=12)(e:d=.lst ds\/d=.tup ds)(hl:ds.length<=100000)(h:∀x∈ds,K1 x)(hb:ds.all (bV n)=false):bL.p [.int n,d] s=.exc "NoWeb" s:=by
 rw[gX (by rfl)];unfold eA;obtain⟨e1,e2⟩:=isLT e;rw[show dSt 2 [D.int n,d]=[some (.int n),some d] from rfl];rw[au,bz];simp![dC,dM,aS,aT,iJ (d:=.int n) ⟨_,rfl⟩,wQ hn,Pl,Pg,qaH,qac,if_false,bx,PU.aq,au,bz,fU,e1,Pf,tP e2 hl h,hb];rfl
def wo_ok{n:Nat}{d:D}{ks:List (List Int)}{s:Pen}(hn:n<=12)(e:d=.lst (ks.map kD)\/d=.tup (ks.map kD))(hl:ks.length<=100000)(hk:∀k∈ks,IsT n k):∃x,bL.p [.int n,d] s=.ok x s:=by
 rw[gX (by rfl)];unfold eA;obtain⟨e1,e2⟩:=isLT e;rw[show dSt 2 [D.int n,d]=[some (.int n),some d] from rfl];rw[au,bz];simp![dC,dM,aS,aT,iJ (d:=.int n) ⟨_,rfl⟩,wQ hn,Pl,Pg,qaH,qac,if_false,bx,PU.aq,au,bz,fU,e1,Pf,tP e2 (by simpa using hl) (fun x hx=>by obtain⟨k,_,rfl⟩:=qaJ.mp hx;exact qH k),lT hk,cg,dA,xF e2 (by ext) hk hl];exact⟨_,rfl⟩
def kind_w:lU.p [.exc "NoWeb"] s=.ok (.str "web") s:=by
 rw[yu (by rfl)];unfold lV;rw[show dSt 3 [D.exc "NoWeb"]=[some (.exc "NoWeb"),none,none] from rfl];rfl
def pg(h:bL.p [c,d] s=.ok x s):bM.p [c,d] s=.ok (.str "made") s:=by
 rw[pq (by rfl)];unfold je;rw[show dSt 4 [c,d]=[some c,some d,none,none] from rfl,au,bT];simp only[bC,kJ,Pg,qaA,qaB,PU.aq];rw[au];have t:(xTry ["NoWeb"] 2 3 (jI (aw bL (aa (af 0) (aa (af 1) xNil)))):Xd []).p [some c,some d,some .non,none] s=.nx [some c,some d,some .non,none] s:=by
  show (match (jI (aw bL (aa (af 0) (aa (af 1) xNil))):Xd []).p _ s with | .exc c e s=>_ | .rse _ _ _=>_ | r=>r)=_;rw[vt,aS];simp[h]
 rw[t];simp[oIs]
def mf(h:bL.p [c,d] s=.exc "NoWeb" s):bM.p [c,d] s=.ok (.str "web") s:=by
 rw[pq (by rfl)];unfold je;rw[show dSt 4 [c,d]=[some c,some d,none,none] from rfl,au,bT];simp only[bC,kJ,Pg,qaA,qaB,PU.aq];rw[au];have b:(jI (aw bL (aa (af 0) (aa (af 1) xNil))):Xd []).p [some c,some d,some .non,none] s=.exc "NoWeb" [some c,some d,some .non,none] s:=by
  rw[vt,aS];simp[h]
 have t:(xTry ["NoWeb"] 2 3 (jI (aw bL (aa (af 0) (aa (af 1) xNil)))):Xd []).p [some c,some d,some .non,none] s=.nx [some c,some d,some (.exc "NoWeb"),none] s:=by
  show (match (jI (aw bL (aa (af 0) (aa (af 1) xNil))):Xd []).p _ s with | .exc c e s=>_ | .rse _ _ _=>_ | r=>r)=_;rw[b];dsimp only;rw[qai (by simp)];rfl
 rw[t,PU.aq,au,bz];simp![dM,aQ,aT,bC,kJ,show (oIs false).p (.exc "NoWeb") .non=some (.bl false) from rfl,Pf,Pl,Pg,qac,if_false,bx,PU.aq,cg,aS,kind_w,PU.de]
def lL:∀(ks ls:List (List Int)),PyData.eqvAll (ks.map fun k=>PyData.tuple (k.map .int)) (ls.map fun k=>PyData.tuple (k.map .int))=decide (ks=ls)
 | [],[]=>by simp[PyData.eqvAll]
 | [],_::_=>by simp[PyData.eqvAll]
 | _::_,[]=>by simp[PyData.eqvAll]
 | a::k,b::k'=>by
  simp only[qaL,PyData.eqvAll,PyData.eqv,lL k k',ic];by_cases z:a=b <;> simp[z]
def eqD_tk{neg:Bool}{ks ls:List (List Int)}:eqD neg (.tup (ks.map kD)) (.tup (ls.map kD))=some (.bl (if neg then !decide (ks=ls) else decide (ks=ls))):=by
 obtain⟨a,b⟩:=lZ ks;obtain⟨c,d⟩:=lZ ls;obtain⟨l1,l2⟩:=mM ks;obtain⟨l3,l4⟩:=mM ls;simp only[eqD,py,a,c,qbB];rw[qai ⟨⟨by simp only[dep];lia,by simp only[dep];lia⟩,gM (by simpa [PyData.canLay0] using l1) (by simp only[PyData.depth];lia),gM (by simpa [PyData.canLay0] using l3) (by simp only[PyData.depth];lia)⟩];simp only[PyData.eqv,lL]
def K2(d:D):Prop:=Kd d/\∀ds,d=.tup ds->ds.length<=1000/\∀x∈ds,K1 x
def K3(d:D):Prop:=Kd d/\∀ds,d=.tup ds->∀x∈ds,K2 x
def eT(d:D):Prop:=∃(n:Int) (ks:List (List Int)),d=sI n ks/\WebT n ks
def eT.inv(h:eT (.tup [c,t])):∃(n:Int) (ks:List (List Int)),c=.int n/\t=.tup (ks.map kD)/\WebT n ks:=by
 obtain⟨n,ks,e,w⟩:=h;injection e with e
 injection e with e1 e2
 injection e2 with e2
 exact⟨n,ks,e1,e2,w⟩
def tq(h:prB d=false):¬eT d:=fun ⟨n,ks,e,w⟩=>by subst e;cases h
def zL(h0:0<=n)(h12:n<=12)(hk:∀k∈ks,IsT n k):ks=cN (SetT.ded (ks.map mmK))↔WebT n ks:=by
 constructor
 ·intro e;rw[e];exact vo h0 h12 (vd hk)
 ·intro w;have id:∀k∈ks,mmK k=k:=fun k hk=>by
   obtain⟨a,b,rfl,_,h,_⟩:=w.tie k hk;exact xc h
  exact (made w (hs:=ks) (fun k hk=>by rw[id k hk];exact hk) fun k hk=>⟨k,hk,id k hk⟩).2.symm
def tI(h:db d=true):∃i:Int,d=.int i/\0<=i/\i<=12:=by
 match d,h with
 | .int i,h=>exact⟨i,rfl,by simpa [db] using h⟩
def xA{ks:List (List Int)}:∀x∈ks.map kD,K1 x:=fun x hx=>by
 obtain⟨k,_,rfl⟩:=qaJ.mp hx;exact qH k
def nt_k{t:D}(h:Kd t)(zt:¬∃ts,t=.tup ts):(bP ["tuple"]).p t=some (.bl false):=by
 obtain⟨y,hy⟩:=h
 cases t with
 | tup ts=>exact absurd ⟨ts,rfl⟩ zt
 | _=>first | rfl | cases hy
def nw_c{c t:D}(zc:db c=false):¬eT (.tup [c,t]):=fun q=>by
 obtain⟨n,ks,rfl,_,w⟩:=q.inv;simp[db,w.n0,w.n12] at zc
def nw_t{c t:D}(zt:¬∃ts,t=.tup ts):¬eT (.tup [c,t]):=fun q=>by
 obtain⟨n',ks,_,e2,_⟩:=q.inv;exact zt ⟨_,e2⟩
open Classical in
theorem yN{d:D}{s:Pen}(h:K3 d):l0.p [d] s=.ok (.bl (decide (eT d))) s:=by
 rw[yd (by rfl)];unfold mG;rw[show dSt 1 [d]=[some d] from rfl,au,bz];simp![jG,dC,dM,aS,xj h.1,Pl]
 cases z:prB d with
 | false=>simp[tq z]
 | true =>
  obtain⟨c,t,rfl⟩:=k8 z;have hc:=h.2 _ rfl c (by simp);have ht:=h.2 _ rfl t (by simp);have a0:oIx.p (.tup [c,t]) (.int 0)=some c:=rfl;have a1:oIx.p (.tup [c,t]) (.int 1)=some t:=rfl;simp only[qaH,qac,if_false,aQ,aJ,Pb,bC,bf,a0,Pf,aI,iJ hc.1,Pl]
  cases zc:db c with
  | false =>
   simp[nw_c zc]
  | true =>
   obtain⟨n,rfl,n0,n12⟩:=tI zc;simp only[qaH,qac,if_false,fU,aQ,aJ,Pb,bC,bf,a1,Pf];by_cases zt:∃ts,t=.tup ts
   ·obtain⟨ts,rfl⟩:=zt;obtain⟨hl,hk1⟩:=ht.2 ts rfl;have e1:(bP ["tuple"]).p (.tup ts)=some (.bl true):=rfl;simp![e1,Pf,Pl,qaH,Pg,qac,if_false,bx,PU.aq,cg,uW,aS,aQ,bC,bf,a0,a1,tP (d:=.tup ts) rfl (by lia) hk1]
    cases za:ts.all (bV n) with
    | false =>
     have:¬eT (.tup [.int n,.tup ts]):=fun q=>by
      obtain⟨n',ks,e1,e2,w⟩:=q.inv;cases e1;cases e2;rw[lT w.isT] at za;cases za
     simp[this]
    | true =>
     obtain⟨ks,rfl,hk⟩:=ss za;clear hk1;simp only[if_true,xF (d:=.tup (ks.map kD)) rfl n12 hk (by simpa using qaw hl (by lia)),Pb,oEq_p,eqD_tk,Pf,Pl,Pg,PU.de,qac,if_false];congr 2;refine decide_eq_decide.mpr ((zL n0 n12 hk).trans ⟨fun w=>⟨n,ks,rfl,w⟩,fun q=>?_⟩);obtain⟨n',ks',e1,e2,w⟩:=q.inv;cases e1;injection e2 with e2
     have:ks=ks':=by
      have:=hV ks
      rw[e2,hV] at this;exact (Option.some.inj this).symm
     rw[this];exact w
   ·have e1:=nt_k ht.1 zt;simp only[e1,Pf,Pl];simp[nw_t zt]
def okB(n la lb:Int):D->Bool
 | .tup [.int a,.int b]=>decide (0<=a) && decide (a<b) && decide (b<n) && !HT.bO [a,b] [la,lb]
 | _=>false
def okB_no(h:prB d=false):okB n la lb d=false:=by
 unfold okB;split
 ·cases h
 ·rfl
def okB_int(h:okB n la lb (.tup [x,y])=true):isI x=true/\isI y=true:=by
 unfold okB at h
 split at h
 ·rename_i a b e
  injection e with e
  injection e with e1 e2
  injection e2 with e2
  subst e1;subst e2;exact⟨rfl,rfl⟩
 ·cases h
def uP(h:isI d=true):∃i:Int,d=.int i:=by
 match d,h with
 | .int i,_=>exact⟨i,rfl⟩
def isp_k(h:Kd d)(e:env[i]?=some (some d)):(xOr (cE (xB (xUn (bP ["tuple"]) (af i)))) (xB (ao oNe (xCb eO (aa (af i) xNil)) (xC (.int 2)))):Xt []).p env s=.ok (!prB d) s:=by
 obtain⟨t,ht⟩:=h;simp only[jG,dC,dM,fU,iM e,Pb,xg,ht,qbB,Pf,Pl]
 cases d with
 | tup ds =>
  cases ht;simp[bH,iM e,<-len2]
 | _=>first | (cases ht;done) | (injection ht with ht;subst ht;simp[bH,prB];done)
def lw_body(h:K1 x):lwB.p [some (.tup [.int n,t]),some (kD [la,lb]),some x] s=if okB n la lb x=true then .nx [some (.tup [.int n,t]),some x,some x] s else .rt (.bl false) s:=by
 rw[au,bz,isp_k (i:=2) h.1 rfl]
 cases z:prB x with
 | false=>simp[okB_no z]
 | true =>
  obtain⟨u,v,rfl⟩:=k8 z;have hu:=h.2 _ rfl u (by simp);have hv:=h.2 _ rfl v (by simp);simp only[qaH,Pg,qac,if_false,bx,PU.aq]
  have q:=qG (ws:=[]) (ws':=[]) (env:=[some (.tup [.int n,t]),some (kD [la,lb]),some (.tup [u,v])]) (s:=s) (fm:=[]) (i:=dw (af 2)) (t:=xOr (cE (xB (xUn (bP ["int"]) (af 0)))) (xB (xUn (bP ["bool"]) (af 0)))) (e:=xC (.int 1)) (ds:=[u,v]) (fun x=>!isI x) (fun _=>.int 1) (by simp) (by simp) (fun x hx=>by
   have hx:Kd x:=h.2 _ rfl x hx;obtain⟨t,ht⟩:=hx;refine⟨?_,fun _=>by simp⟩
   cases x <;> first | (cases ht;done) | (simp[bH,isI];done) | (simp[bH,isI] at ht ⊢))
  have e1:(([u,v].filter fun x=>!isI x).map fun _=>D.int 1)=(List.replicate ([u,v].filter fun x=>!isI x).length (1:Int)).map .int:=by
   rw[List.map_replicate];exact List.eq_replicate_iff.mpr ⟨by simp,fun b hb=>by obtain⟨x,_,rfl⟩:=qaJ.mp hb;rfl⟩
  rw[e1] at q;rw[au,bz,dM,aQ,q];have en:=yO (neg:=true) (xs:=List.replicate ([u,v].filter fun x=>!isI x).length (1:Int)) (ys:=[]);rw[qcH] at en;simp only[Pb,di,aI,qbo,qaM,if_true,g0,en,Pf,Pl];by_cases zi:isI u=true/\isI v=true
  ·obtain⟨a,rfl⟩:=uP zi.1;obtain⟨b,rfl⟩:=uP zi.2;have ef:([D.int a,D.int b].filter fun x=>!isI x).length=0:=rfl;simp only[ef,List.replicate_zero,decide_true,qaH,Pg,qac,if_false,bx,PU.aq];have c0:oIx.p (.tup [.int a,.int b]) (.int 0)=some (.int a):=rfl;have c1:oIx.p (.tup [.int a,.int b]) (.int 1)=some (.int b):=rfl;have c2:oIx.p (.tup [.int n,t]) (.int 0)=some (.int n):=rfl;have l1:oLe.p (.int 0) (.int a)=some (.bl (decide (0<=a))):=rfl;have l2:oLt.p (.int a) (.int b)=some (.bl (decide (a<b))):=rfl;have l3:oLt.p (.int b) (.int n)=some (.bl (decide (b<n))):=rfl;have l4:oLeT.p (.tup [.int a,.int b]) (kD [la,lb])=some (.bl (HT.bO [a,b] [la,lb])):=rfl;rw[au,bz,jG,dC,yf];simp only[bC,bf,Pb,aQ,aT,aJ,c0,c1,c2,Pf,l1,l2,l3];by_cases z1:0<=a
   ·by_cases z2:a<b
    ·by_cases z3:b<n
     ·cases z4:HT.bO [a,b] [la,lb] <;> simp[okB,z1,z2,z3,z4,l4]
     ·simp[okB,z1,z2,z3]
    ·simp[okB,z1,z2]
   ·simp[okB,z1]
  ·have ef:List.replicate ([u,v].filter fun x=>!isI x).length (1:Int)≠[]:=fun e=>zi (by
    have:=congrArg List.length e
    rw[qbm,qbo,qbp,List.filter_eq_nil_iff] at this
    exact⟨by simpa using this u (by simp),by simpa using this v (by simp)⟩)
   have eo:okB n la lb (.tup [u,v])=false:=qbX.mpr fun q=>zi (okB_int q);simp[ef,eo]
def lpB(n:Int):Int->Int->List D->Bool
 | _,_,[]=>true
 | la,lb,.tup [.int a,.int b]::ds=>okB n la lb (.tup [.int a,.int b]) && lpB n a b ds
 | _,_,_::_=>false
def ym:HT.bO [a,b] [c,d]=decide (a<c\/a=c/\b<=d):=by
 rw[HT.jd,HT.jd,HT.jV];by_cases z:a=c
 ·by_cases z2:b=d
  ·simp[z,z2]
  ·simp[z,z2]
 ·simp[z];lia
def hJ:SortT.bG [a,b] [c,d]=decide (a<c\/a=c/\b<d):=by
 simp only[SortT.bG];by_cases z:a=c
 ·by_cases z2:b=d
  ·simp[z,z2]
  ·simp[z,z2]
 ·simp[z]
def u4(h:okB n la lb d=true):∃a b:Int,d=kD [a,b]/\0<=a/\a<b/\b<n/\(la<a\/la=a/\lb<b):=by
 unfold okB at h
 split at h
 ·rename_i a b
  simp[ym] at h;exact⟨a,b,rfl,h.1.1.1,h.1.1.2,h.1.2,by lia⟩
 ·cases h
def okB_of(h0:0<=a)(h1:a<b)(h2:b<n)(h3:la<a\/la=a/\lb<b):okB n la lb (kD [a,b])=true:=by
 simp[kD,okB,h0,h1,h2,ym];lia
def xH(h:okB n la lb d=false):lpB n la lb (d::ds)=false:=by
 unfold lpB;split
 ·rename_i e;cases e
 ·rename_i e
  injection e with e1 e2
  subst e1;rw[h];rfl
 ·rfl
def wS:∀(ds:List D) (la lb:Int) (z:Option D) (s:Pen),(∀x∈ds,K1 x) ->
  (lpB n la lb ds=true->∃y z',pGo (xNm 2:Xg []).p lwB.p ds [some (.tup [.int n,t]),some (kD [la,lb]),z] s=.nx [some (.tup [.int n,t]),y,z'] s) /\
  (lpB n la lb ds=false->pGo (xNm 2:Xg []).p lwB.p ds [some (.tup [.int n,t]),some (kD [la,lb]),z] s=.rt (.bl false) s)
 | [],la,lb,z,s,_=>⟨fun _=>⟨_,_,rfl⟩,fun h=>by cases h⟩
 | d::ds,la,lb,z,s,h=>by
  have e1:(xNm 2:Xg []).p d [some (.tup [.int n,t]),some (kD [la,lb]),z]=some [some (.tup [.int n,t]),some (kD [la,lb]),some d]:=rfl;rw[rB e1,lw_body (h d (by simp))]
  cases zo:okB n la lb d with
  | false =>
   refine⟨fun q=>(by rw[xH zo] at q;cases q),fun _=>?_⟩;simp
  | true =>
   obtain⟨a,b,rfl,_⟩:=u4 zo;have ih:=wS (n:=n) (t:=t) ds a b (some (kD [a,b])) s fun x hx=>h x (qam _ hx);have e2:lpB n la lb (kD [a,b]::ds)=lpB n a b ds:=by
    show (okB n la lb (kD [a,b]) && lpB n a b ds)=_;rw[zo];rfl
   rw[e2,qai rfl];exact ih
def re(h0:0<=n)(h12:n<=12):∀(ds:List D) (la lb:Int),lpB n la lb ds=true↔∃ks:List (List Int),ds=ks.map kD/\(∀k∈ks,∃a b:Int,k=[a,b]/\0<=a/\a<b/\b<n)/\([la,lb]::ks).Pairwise (fun x y=>SortT.bG x y=true)
 | [],la,lb=>⟨fun _=>⟨[],rfl,by simp,by simp⟩,fun _=>rfl⟩
 | d::ds,la,lb=>by
  constructor
  ·intro h
   cases zo:okB n la lb d with
   | false=>rw[xH zo] at h;cases h
   | true =>
    obtain⟨a,b,rfl,h1,h2,h3,h4⟩:=u4 zo;have e2:lpB n la lb (kD [a,b]::ds)=lpB n a b ds:=by
     show (okB n la lb (kD [a,b]) && lpB n a b ds)=_;rw[zo];rfl
    rw[e2] at h;obtain⟨ks,rfl,ht,pw⟩:=(re h0 h12 ds a b).mp h;have l1:SortT.bG [la,lb] [a,b]=true:=by
     rw[hJ];exact decide_eq_true h4
    refine⟨[a,b]::ks,rfl,fun k hk=>?_,qbd.mpr ⟨fun y hy=>?_,pw⟩⟩
    ·rcases qao.mp hk with rfl|z
     ·exact⟨a,b,rfl,h1,h2,h3⟩
     ·exact ht k z
    ·rcases qao.mp hy with rfl|z
     ·exact l1
     ·obtain⟨c,d,rfl,_⟩:=ht y z;have l2:=(qbd.mp pw).1 _ z;rw[hJ,decide_eq_true_eq] at l1 l2 ⊢;lia
  ·rintro⟨ks,e,ht,pw⟩
   cases ks with
   | nil=>cases e
   | cons k ks =>
    injection e with e1 e2
    subst e1;subst e2;obtain⟨a,b,rfl,h1,h2,h3⟩:=ht k (by simp);have l1:=(qbd.mp pw).1 [a,b] (by simp);have h4:la<a\/la=a/\lb<b:=by
     rwa [hJ,decide_eq_true_eq] at l1
    show (okB n la lb (kD [a,b]) && lpB n a b (ks.map kD))=true;rw[okB_of h1 h2 h3 h4,Bool.true_and];exact (re h0 h12 _ a b).mpr ⟨ks,rfl,fun k hk=>ht k (qam _ hk),(qbd.mp pw).2⟩
def yh(h0:0<=n)(h12:n<=12):((∀k∈ks,∃a b:Int,k=[a,b]/\0<=a/\a<b/\b<n)/\([-1,-1]::ks).Pairwise (fun x y=>SortT.bG x y=true))↔WebT n ks:=by
 constructor
 ·rintro⟨ht,pw⟩;have pw:=(qbd.mp pw).2;refine⟨h0,h12,ht,List.Pairwise.imp_of_mem (fun {x y} hx hy h=>?_) pw,List.Pairwise.imp_of_mem (fun {x y} hx hy h=>?_) pw⟩
  ·obtain⟨a,b,rfl,_⟩:=ht x hx;obtain⟨c,d,rfl,_⟩:=ht y hy;rw[hJ,decide_eq_true_eq] at h;rw[hJ];exact decide_eq_false (by ext)
  ·rintro rfl;rw[SortT.ik] at h;cases h
 ·intro w;refine⟨w.tie,qbd.mpr ⟨fun y hy=>?_,List.Pairwise.imp_of_mem (fun {x y} hx hy h=>?_) (w.ris.and w.nd)⟩⟩
  ·obtain⟨a,b,rfl,z,_⟩:=w.tie y hy;rw[hJ];exact decide_eq_true (by ext)
  ·obtain⟨a,b,rfl,_⟩:=w.tie x hx;obtain⟨c,d,rfl,_⟩:=w.tie y hy;have h1:=h.1;rw[hJ,decide_eq_false_iff_not] at h1;rw[hJ];refine decide_eq_true ?_;by_cases z:a=c/\b=d
   ·obtain⟨rfl,rfl⟩:=z;exact absurd rfl h.2
   ·ext
def ye(h0:0<=n)(h12:n<=12):lpB n (-1) (-1) ts=true↔eT (.tup [.int n,.tup ts]):=by
 rw[re h0 h12];constructor
 ·rintro⟨ks,rfl,h⟩;exact⟨n,ks,rfl,(yh h0 h12).mp h⟩
 ·intro q;obtain⟨n',ks,e1,e2,w⟩:=q.inv;cases e1;cases e2;exact⟨ks,rfl,(yh h0 h12).mpr w⟩
def cnt_t(hc:Kd c)(e:env[0]?=some (some (.tup [c,t]))):(xOr (cE (xB (xUn (bP ["int"]) (ao oIx (af 0) (xC (.int 0)))))) (xOr (xB (xUn (bP ["bool"]) (ao oIx (af 0) (xC (.int 0))))) (cE (xB (kN oLe oLe (xC (.int 0)) (ao oIx (af 0) (xC (.int 0))) (xC (.int 12)))))):Xt []).p env s=.ok (!db c) s:=by
 obtain⟨y,hy⟩:=hc;have a0:oIx.p (.tup [c,t]) (.int 0)=some c:=rfl;simp only[jG,dC,dM,fU,aQ,iM e,Pb,bC,bf,a0,Pf,xg,hy,qbB,Pl]
 cases c with
 | int i =>
  cases hy;by_cases z:0<=i <;> simp[bH,iM e,a0,db,z]
 | _=>first | (cases hy;done) | (injection hy with hy;subst hy;simp[bH,db];done)
open Classical in
theorem wO(h:K3 d):jH.p [d] s=.ok (.bl (decide (eT d))) s:=by
 rw[t7 (by rfl)];unfold jJ;rw[show dSt 3 [d]=[some d,none,none] from rfl,au,bz];by_cases zp:prB d=true
 ·obtain⟨c,t,rfl⟩:=k8 zp;have hc:=h.2 _ rfl c (by simp);have ht:=h.2 _ rfl t (by simp);have a1:oIx.p (.tup [c,t]) (.int 1)=some t:=rfl;have e0:(bP ["tuple"]).p (.tup [c,t])=some (.bl true):=rfl;simp![jG,dC,dM,fU,e0,Pf,Pl,qaH,qac,if_false,aQ,cr,nO,bC,bf,g0,xk,qaQ,qbo,show decide (((0+1+1:Nat):Int)=2)=true from rfl,if_true,a1];by_cases zt:∃ts,t=.tup ts
  ·obtain⟨ts,rfl⟩:=zt;obtain⟨hl,hk1⟩:=ht.2 ts rfl;have e1:(bP ["tuple"]).p (.tup ts)=some (.bl true):=rfl;simp only[e1,Pf,Pl,Pb,qaH,Pg,qac,if_false,bx,PU.aq];rw[au,bz,cnt_t hc.1 rfl]
   cases zc:db c with
   | false =>
    simp[nw_c zc]
   | true =>
    obtain⟨n,rfl,n0,n12⟩:=tI zc;simp only[qaH,Pg,qac,if_false,bx,PU.aq];have s1:(bB 1 (ar (aa (xUn eI (xC (.int 1))) (aa (xUn eI (xC (.int 1))) xNil))):Xd []).p [some (.tup [.int n,.tup ts]),none,none] s=.nx [some (.tup [.int n,.tup ts]),some (kD [-1,-1]),none] s:=rfl;rw[au,s1,PU.aq,au,kf];have i1:(dw (ao oIx (af 0) (xC (.int 1))):Xi []).p [some (.tup [.int n,.tup ts]),some (kD [-1,-1]),none] s=.ok ts s:=rfl;rw[i1,Pg];obtain⟨r1,r2⟩:=wS (n:=n) (t:=.tup ts) ts (-1) (-1) none s hk1
    cases zl:lpB n (-1) (-1) ts with
    | true =>
     obtain⟨y,z',r⟩:=r1 zl;rw[decide_eq_true ((ye n0 n12).mp zl)];refine (congrArg (fun q:PS=>(q.then _).fin) r).trans ?_;rfl
    | false =>
     rw[decide_eq_false fun q=>by rw[(ye n0 n12).mpr q] at zl;cases zl];refine (congrArg (fun q:PS=>(q.then _).fin) (r2 zl)).trans ?_;rfl
  ·simp only[nt_k ht.1 zt,Pf,Pl];simp[nw_t zt]
 ·have zf:prB d=false:=by simpa using zp
  have nw:=tq zf;obtain⟨y,hy⟩:=h.1
  cases d with
  | tup ds =>
   have l2:decide ((ds.length:Int)=2)=false:=by rw[len2];exact zf
   have e0:(bP ["tuple"]).p (.tup ds)=some (.bl true):=rfl;simp![jG,dC,dM,fU,e0,Pf,Pl,qaH,qac,if_false,aQ,cr,nO,bC,bf,g0,xk,l2,if_true];simp[nw]
  | _=>first | (cases hy;done) | (simp[bH,nw];done)
def gk{ds:List D}{i:Int}(h0:0<=i)(h1:i<(ds.length:Int)):∃d,atI ds i=some d/\d∈ds:=by
 obtain⟨k,rfl⟩:=kC h0;have hk:k<ds.length:=by lia
 exact⟨ds[k],L2.eB (by simp[hk]),qcu hk⟩
def k1_of(h:Kd d)(h2:∀ds,d≠.tup ds):K1 d:=⟨h,fun ds e=>absurd e (h2 ds)⟩
def tpB:D->Bool
 | .tup _=>true
 | _=>false
def k1_b(h:Kd d)(e:tpB d=false):K1 d:=k1_of h fun ds q=>by subst q;cases e
def sO(h:∀x∈ds,Kd x):K1 (.tup ds):=⟨⟨_,rfl⟩,fun ds' e x hx=>by cases e;exact h x hx⟩
def ep9:oPow.p (.int 10) (.int 9)=some (.int 1000000000):=qai ⟨by decide,by decide,by decide⟩
def gm(n f c:Int):List D:=[.lst [.int 0,.int 1],.tup [.int 0],.tup [.int 0,.int 1,.int 1],.tup [.int 1,.int 1],.tup [.int 0,.int n],.tup [.int n,.int 0],.tup [.int (-1),.int 0],.tup [.int 0,.int (-1 - c)],.tup [.int 0,.int f]]
def kn:List D:=[.tup [.bl false,.int 1],.tup [.bl true,.bl false],.tup [.str "0",.int 1],.tup [.int 0,.str "1"],.tup [.non,.int 1],.tup [.int 0,.non],.tup [.tup [.int 0],.int 1],.tup [.int 0,.lst [.int 1]],.non,.int 0]
def mw:List D:=[.tup [],.bl true,.str "01",.dic,.tup [.lst [],.lst []],.tup [.int 0,.dic],.tup [.int 0,.int 0],.lst [],.tup [.tup [.int 0,.int 1]]]
def btL(n f c:Int):List D:=gm n f c++[.tup [.int 0,.bl true]]++kn++mw
def Bad(n:Int)(d:D):Prop:=K1 d/\bV n d=false
def Af(h0:0<=n)(hf:n<=f)(hc:0<=c):∀d∈btL n f c,Bad n d:=fun d hd=>by
 have two:∀{x y:D},Kd x->Kd y->K1 (.tup [x,y]):=fun {x y} hx hy=>sO fun z hz=>by
  have:z=x\/z=y:=by simpa using hz
  rcases this with rfl|rfl
  ·exact hx
  ·exact hy
 have one:∀{x:D},Kd x->K1 (.tup [x]):=fun {x} hx=>sO fun z hz=>by
  have:z=x:=by simpa using hz
  rw[this];exact hx
 unfold btL gm kn mw at hd;simp only[qbZ,qch,qao,qba,or_false] at hd;rcases hd with rfl | rfl | rfl | rfl | rfl | rfl | rfl | rfl | rfl | rfl | rfl | rfl | rfl | rfl | rfl | rfl | rfl | rfl | rfl | rfl | rfl | rfl | rfl | rfl | rfl | rfl | rfl | rfl | rfl <;> first
  | exact⟨two ⟨_,rfl⟩ ⟨_,rfl⟩,rfl⟩
  | exact⟨k1_b ⟨_,rfl⟩ rfl,rfl⟩
  | exact⟨one ⟨_,rfl⟩,rfl⟩
  | (refine⟨two ⟨_,rfl⟩ ⟨_,rfl⟩,?_⟩;simp[bV];done)
  | (refine⟨two ⟨_,rfl⟩ ⟨_,rfl⟩,?_⟩;simp[bV];intros;lia)
  | (refine⟨sO fun z hz=>?_,rfl⟩;simp at hz;done)
  | (refine⟨sO fun z hz=>?_,rfl⟩;simp at hz;rcases hz with rfl | rfl <;> exact⟨_,rfl⟩)
def btL_len:(btL n f c).length=29:=rfl
def pf{n:Nat}{s:Pen}(hn:n<=12):∃d s',eS.p [.pen,.int (n:Int)] s=.ok d s'/\Bad n d:=by
 obtain⟨f,s1,f0,f1,qf⟩:=bD (s:=s) (size:=1000000000) (by lia) (by lia);obtain⟨c,s2,c0,c1,qc⟩:=bD (s:=s1) (size:=3) (by lia) (by lia);obtain⟨j,s3,j0,j1,qj⟩:=bD (s:=s2) (size:=29) (by lia) (by lia);obtain⟨d,ed,md⟩:=gk (ds:=btL n (n+f) c) j0 (by rw[btL_len];lia);refine⟨d,s3,?_,Af (by lia) (by lia) c0 d md⟩;rw[tj (by rfl)];unfold ii;rw[show dSt 4 [D.pen,.int (n:Int)]=[some .pen,some (.int (n:Int)),none,none] from rfl,au,bT];simp![aQ,aT,aS,bC,bf,ep9,Pf,qf,uw,Pg,qaA,qaB,PU.aq];have e1:btX.p [some .pen,some (.int (n:Int)),some (.int (n+f)),none] s1=.ok (.lst (gm n (n+f) c)) s2:=by
  simp[btX,qc,gm,show eI.p (.int 1)=some (.int (-1)) from rfl,show cX.p (.int (-1)) (.int c)=some (.int (-1 - c)) from rfl]
 rw[au,iz,e1];simp only[Pg,qaA,qaB,PU.aq];rw[au,kY (s1:=s2) (as:=[.tup [.int 0,.bl true]]) (ds:=gm n (n+f) c) (ds':=gm n (n+f) c++[.tup [.int 0,.bl true]]) (r:=.non) (by simp) rfl (pd (by simp[gm])),PU.aq];simp only[qaA,qaB];have e2:∀env s,btY.p env s=.ok (.lst kn) s:=fun env s=>by
  simp[btY,kn]
 have e3:∀env s,btZ.p env s=.ok (.lst mw) s:=fun env s=>by
  simp[btZ,mw]
 rw[au,iz,aQ];simp only[aT,aJ,Pb,e2];rw[eJ (by simp[gm,kn])];simp only[Pf,Pg,qaA,qaB,PU.aq];rw[au,iz,aQ];simp only[aT,aJ,Pb,e3];rw[eJ (by simp[gm,kn,mw])];simp only[Pf,Pg,qaA,qaB,PU.aq];have el:eO.p [.lst (gm n (n+f) c++[.tup [.int 0,.bl true]]++kn++mw)]=some (.int 29):=rfl;simp![cg,aQ,aT,aS,cr,el,Pf,qj,kU,show atI (gm n (n+f) c++[.tup [.int 0,.bl true]]++kn++mw) j=some d from ed,Pg,PU.de]
def bcL(a b:Int):List D:=[.int (-1),.int 13,.int (13+a),.int (-1 - b),.bl true,.bl false,.str "2",.str "",.non,.lst [.int 2],.tup [.int 2]]
def tY:∃d s',fC.p [.pen] s=.ok d s'/\Kd d/\db d=false:=by
 obtain⟨a,s1,a0,a1,qa⟩:=bD (s:=s) (size:=1000000000) (by lia) (by lia);obtain⟨b,s2,b0,b1,qb⟩:=bD (s:=s1) (size:=99) (by lia) (by lia);obtain⟨j,s3,j0,j1,qj⟩:=bD (s:=s2) (size:=13) (by lia) (by lia);obtain⟨d,ed,md⟩:=gk (ds:=bcL a b++[.dic,.tup []]) j0 (by simp[bcL];lia);refine⟨d,s3,?_,?_⟩
 ·rw[oD (by rfl)];unfold fx;rw[show dSt 2 [D.pen]=[some .pen,none] from rfl,au,bT];have e1:bcX.p [some .pen,none] s=.ok (.lst (bcL a b)) s2:=by
   simp[bcX,qa,qb,ep9,bcL,show eI.p (.int 1)=some (.int (-1)) from rfl,show cX.p (.int (-1)) (.int b)=some (.int (-1 - b)) from rfl]
  rw[e1];simp only[Pg,qaA,qaB,PU.aq];have e2:∀env s,(be (aa xDic (aa (ar xNil) xNil)):Xe []).p env s=.ok (.lst [.dic,.tup []]) s:=fun env s=>by simp
  rw[cg,aQ,aQ];simp only[aT,aJ,Pb,e2];rw[eJ (by simp[bcL])];simp![Pf,aS,bC,bf,qj,kU,ed,Pg,PU.de]
 ·unfold bcL at md;simp only[qbZ,qch,qao,qba,or_false] at md;rcases md with rfl | rfl | rfl | rfl | rfl | rfl | rfl | rfl | rfl | rfl | rfl | rfl | rfl <;> first | exact⟨⟨_,rfl⟩,rfl⟩ | (refine⟨⟨_,rfl⟩,?_⟩;simp[db];lia)
def jq(h:A.length+B.length<=100000):bo.p (.tup A) (.tup B)=some (.tup (A++B)):=by
 cases A with
 | nil=>rfl
 | cons a A =>
  show (if A.length+1+B.length<=100000 then _ else _)=_;rw[qai (by simp at h;lia)]
def gw(h:A.length+B.length<=100000):bo.p (.lst A) (.lst B)=some (.lst (A++B)):=eJ h
def ju:bo.p (.int i) (.int j)=some (.int (i+j)):=rfl
def qO:slT (.tup ds) lo hi=some (.tup (cV ds lo hi)):=rfl
def rvT_t:rvT (.tup ds) (some (-1))=some (.tup ds.reverse):=by
 unfold rvT;dsimp only;rw[qai rfl]
def gi(h:x∈cV ds lo hi):x∈ds:=qcc (List.mem_of_mem_take h)
def iw:(cV ds lo hi).length<=ds.length:=by
 unfold cV;rw[qbS,qbu];lia
def k2_of(h:Kd d)(h2:∀ds,d≠.tup ds):K2 d:=⟨h,fun ds e=>absurd e (h2 ds)⟩
def k2_b(h:Kd d)(e:tpB d=false):K2 d:=k2_of h fun ds q=>by subst q;cases e
def jv(hl:ds.length<=1000)(h:∀x∈ds,K1 x):K2 (.tup ds):=⟨⟨_,rfl⟩,fun ds' e=>by cases e;exact⟨hl,h⟩⟩
def eM:K2 (.int i):=k2_of ⟨_,rfl⟩ fun _ e=>by cases e
def k3_of(h:Kd d)(h2:∀ds,d≠.tup ds):K3 d:=⟨h,fun ds e=>absurd e (h2 ds)⟩
def k3_b(h:Kd d)(e:tpB d=false):K3 d:=k3_of h fun ds q=>by subst q;cases e
def k3_t(h:∀x∈ds,K2 x):K3 (.tup ds):=⟨⟨_,rfl⟩,fun ds' e=>by cases e;exact h⟩
def eQ(hx:K2 x)(hy:K2 y):K3 (.tup [x,y]):=k3_t fun z hz=>by
 have:z=x\/z=y:=by simpa using hz
 rcases this with rfl|rfl
 ·exact hx
 ·exact hy
def dy{A B:List D}(ha:∀x∈A,K1 x)(hb:∀x∈B,K1 x):∀x∈A++B,K1 x:=fun x hx=>(qau.mp hx).elim (ha x) (hb x)
def iu(h:K1 d):∀x∈[d],K1 x:=fun x hx=>by
 have:x=d:=by simpa using hx
 subst this;exact h
def se(N x y:D)(T TA TB TC:List D):List D:=[.tup [N,.tup T.reverse],.tup [N,.tup (TA++[x]++TB)],.tup [N,.tup (TA++[y]++TC)]]
def rg(n:Int)(T:List D):List D:=[.tup [.int n,.lst T],.lst [.int n,.tup T],.tup [.int n],.tup [.int n,.tup T,.tup []],.tup [.int (n - 1),.tup T],.tup [.int 13,.tup T],.tup [.bl true,.tup []],.tup [.int n,.non],.int n]
def sZ(N b y:D)(T TA TC:List D):List D:=[.tup [N,.tup (TA++[b]++TC)],.tup [N,.tup (TA++[y])],.tup [N,.tup T]]
def sM(n:Int)(T TD:List D):List D:=[.non,.str "",.tup [],.tup [.int 0,.tup []],.tup [.str (toString n),.tup T],.tup [.int n,.tup (T++[.tup [.int (n - 1),.int n]])],.dic,.tup [.tup T,.int n],.tup [.int n,.tup TD]]
def bn_good{n:Int}{x y b z:D}{T TA TB TC TD:List D}(hl:T.length<=66)(hT:∀u∈T,K1 u)(hA:∀u∈TA,u∈T)(hB:∀u∈TB,u∈T)(hC:∀u∈TC,u∈T)(hD:∀u∈TD,u∈T)
  (lA:TA.length<=66) (lB:TB.length<=66) (lC:TC.length<=66) (lD:TD.length<=66) (hx:K1 x) (hy:K1 y) (hb:K1 b) (hz:K1 z):∀d∈se (.int n) x y T TA TB TC++rg n T++sZ (.int n) b z T TA TC++sM n T TD,K3 d:=fun d hd=>by
 have kT:K2 (.tup T):=jv (by lia) hT;have gA:∀u∈TA,K1 u:=fun u h=>hT u (hA u h);have gB:∀u∈TB,K1 u:=fun u h=>hT u (hB u h);have gC:∀u∈TC,K1 u:=fun u h=>hT u (hC u h);have gD:∀u∈TD,K1 u:=fun u h=>hT u (hD u h);have k0:K2 (.tup []):=jv (by simp) (by simp);unfold se rg sZ sM at hd;simp only[qbZ,qch,qao,qba,or_false] at hd;rcases hd with rfl | rfl | rfl | rfl | rfl | rfl | rfl | rfl | rfl | rfl | rfl | rfl | rfl | rfl | rfl | rfl | rfl | rfl | rfl | rfl | rfl | rfl | rfl | rfl <;> first
  | exact eQ eM kT
  | exact k3_b ⟨_,rfl⟩ rfl
  | exact eQ eM k0
  | exact eQ eM (k2_b ⟨_,rfl⟩ rfl)
  | exact eQ (k2_b ⟨_,rfl⟩ rfl) k0
  | exact eQ (k2_b ⟨_,rfl⟩ rfl) kT
  | exact eQ kT eM
  | (refine k3_t ?_;simp;done)
  | (refine eQ eM (jv ?_ fun u h=>hT u (List.mem_reverse.mp h));simp;lia)
  | (refine eQ eM (jv ?_ gD);lia)
  | (refine eQ eM (jv ?_ (dy (dy gA (iu hx)) gB));simp;lia)
  | (refine eQ eM (jv ?_ (dy (dy gA (iu hy)) gC));simp;lia)
  | (refine eQ eM (jv ?_ (dy (dy gA (iu hb)) gC));simp;lia)
  | (refine eQ eM (jv ?_ (dy gA (iu hz)));simp;lia)
  | (refine eQ eM (jv ?_ (dy hT (iu (qH [n - 1,n]))));simp;lia)
  | (refine k3_t fun u h=>?_;simp at h;rcases h with rfl | rfl | rfl <;> first | exact eM | assumption)
  | (refine k3_t fun u h=>?_;simp at h;rw[h];exact eM)
def u0{s:Pen}:(if ([]:List D).length<=100000 then PR.ok (D.tup []) s else .bad)=.ok (.tup []) s:=rfl
def u1{x:D}{s:Pen}:(if [x].length<=100000 then PR.ok (D.tup [x]) s else .bad)=.ok (.tup [x]) s:=qai (by simp)
def u2{x y:D}{s:Pen}:(if [x,y].length<=100000 then PR.ok (D.tup [x,y]) s else .bad)=.ok (.tup [x,y]) s:=qai (by simp)
def u3{x y z:D}{s:Pen}:(if [x,y,z].length<=100000 then PR.ok (D.tup [x,y,z]) s else .bad)=.ok (.tup [x,y,z]) s:=qai (by simp)
def v0{s:Pen}:(if ([]:List D).length<=100000 then PR.ok (D.lst []) s else .bad)=.ok (.lst []) s:=rfl
def v1{x:D}{s:Pen}:(if [x].length<=100000 then PR.ok (D.lst [x]) s else .bad)=.ok (.lst [x]) s:=qai (by simp)
def v2{x y:D}{s:Pen}:(if [x,y].length<=100000 then PR.ok (D.lst [x,y]) s else .bad)=.ok (.lst [x,y]) s:=qai (by simp)
def bent_p{n:Nat}{ks:List (List Int)}{s:Pen}(w:WebT n ks)(hn:n<=12):∃d s',jM.p [.pen,sI n ks] s=.ok d s'/\K3 d:=by
 have hl:ks.length<=66:=nU w.n12 w.tie w.nd;unfold sI;have hT:∀u∈ks.map kD,K1 u:=xA;have hlT:(ks.map kD).length<=66:=by rw[qaW];exact hl
 obtain⟨a,s1,a0,a1,qa⟩:=bD (s:=s) (size:=(ks.length:Int)+1) (by lia) (by lia);obtain⟨b,s2,qb,kb,_⟩:=pf (s:=s1) hn;obtain⟨j,s3,j0,j1,qj⟩:=bD (s:=s2) (size:=24) (by lia) (by lia);obtain⟨x,ex,mx⟩:=gk (ds:=ks.map kD++[.tup [.int 0,.int 1]]) a0 (by simp;lia);obtain⟨k,rfl,hk2⟩:∃k:List Int,x=kD k/\k.length<=2:=by
  rcases qau.mp mx with h|h
  ·obtain⟨k,hk,e⟩:=qaJ.mp h;obtain⟨p,q,rfl,_⟩:=w.tie k hk;exact⟨_,e.symm,by simp⟩
  ·exact⟨[0,1],by simpa [kD] using h,by simp⟩
 have el:((ks.map kD).length:Int)=(ks.length:Int):=by rw[qaW]
 generalize ks.map kD=T at hT hlT ex el;have en:eI.p (.int 1)=some (.int (-1)):=rfl;have cA:=fun u=>gi (ds:=T) (lo:=none) (hi:=some a) (x:=u);have cB:=fun u=>gi (ds:=T) (lo:=some a) (hi:=none) (x:=u);have cC:=fun u=>gi (ds:=T) (lo:=some (a+1)) (hi:=none) (x:=u);have cD:=fun u=>gi (ds:=T) (lo:=some 1) (hi:=none) (x:=u);have lA:=qaw (iw (ds:=T) (lo:=none) (hi:=some a)) hlT;have lB:=qaw (iw (ds:=T) (lo:=some a) (hi:=none)) hlT;have lC:=qaw (iw (ds:=T) (lo:=some (a+1)) (hi:=none)) hlT;have lD:=qaw (iw (ds:=T) (lo:=some 1) (hi:=none)) hlT;generalize hA:cV T none (some a)=TA at cA lA;generalize hB:cV T (some a) none=TB at cB lB;generalize hC:cV T (some (a+1)) none=TC at cC lC;generalize hD:cV T (some 1) none=TD at cD lD;have kR:K1 (.tup (k.map D.int).reverse):=sO fun z hz=>by
  obtain⟨i,_,rfl⟩:=qaJ.mp (List.mem_reverse.mp hz);exact⟨_,rfl⟩
 have kL:K1 (.lst (k.map D.int)):=k1_of ⟨_,rfl⟩ fun _ e=>by cases e
 have good:=bn_good (n:=n) (x:=kD k) (y:=.tup (k.map D.int).reverse) (b:=b) (z:=.lst (k.map D.int)) hlT hT cA cB cC cD lA lB lC lD (qH k) kR kb kL;have l1:(se (.int n) (kD k) (.tup (k.map D.int).reverse) T TA TB TC).length=3:=rfl;have l2:(rg n T).length=9:=rfl;have l3:(sZ (.int n) b (.lst (k.map D.int)) T TA TC).length=3:=rfl;have l4:(sM n T TD).length=9:=rfl;have o1:∀y:D,bo.p (.tup TA) (.tup [y])=some (.tup (TA++[y])):=fun y=>jq (by simp;lia);have o2:∀y:D,bo.p (.tup (TA++[y])) (.tup TB)=some (.tup (TA++[y]++TB)):=fun y=>jq (by simp;lia);have o3:∀y:D,bo.p (.tup (TA++[y])) (.tup TC)=some (.tup (TA++[y]++TC)):=fun y=>jq (by simp;lia);have o4:∀y:D,bo.p (.tup T) (.tup [y])=some (.tup (T++[y])):=fun y=>jq (by simp;lia)
 have cs:cStr.p [.int (n:Int)]=some (.str (toString (n:Int))):=qai (by
  have:=Nat.log2_le_self (n:Int).natAbs
  lia)
 have ct:dZ.p [.tup T]=some (.lst T):=iI (by lia);have ck:dZ.p [kD k]=some (.lst (k.map D.int)):=by
  exact iI (by simp;lia)
 generalize hL1:se (.int n) (kD k) (.tup (k.map D.int).reverse) T TA TB TC=L1 at good l1;generalize hL2:rg n T=L2 at good l2;generalize hL3:sZ (.int n) b (.lst (k.map D.int)) T TA TC=L3 at good l3;generalize hL4:sM n T TD=L4 at good l4;unfold se at hL1;unfold rg at hL2;unfold sZ at hL3;unfold sM at hL4;have z1:∀{s:Pen},(if L1.length<=100000 then PR.ok (D.lst L1) s else .bad)=.ok (.lst L1) s:=fun {s}=>qai (by lia);have z2:∀{s:Pen},(if L2.length<=100000 then PR.ok (D.lst L2) s else .bad)=.ok (.lst L2) s:=fun {s}=>qai (by lia);have z3:∀{s:Pen},(if L3.length<=100000 then PR.ok (D.lst L3) s else .bad)=.ok (.lst L3) s:=fun {s}=>qai (by lia);have z4:∀{s:Pen},(if L4.length<=100000 then PR.ok (D.lst L4) s else .bad)=.ok (.lst L4) s:=fun {s}=>qai (by lia);have d1:=gw (A:=L1) (B:=L2) (by lia);have d2:=gw (A:=L1++L2) (B:=L3) (by simp;lia);have d3:=gw (A:=L1++L2++L3) (B:=L4) (by simp;lia);have LL:(L1++L2++L3++L4).length=24:=by simp[l1,l2,l3,l4]
 obtain⟨d,ed,md⟩:=gk (ds:=L1++L2++L3++L4) j0 (by rw[LL];lia);refine⟨d,s3,?_,good d md⟩;rw[xb (by rfl)];unfold mD;rw[show dSt 7 [D.pen,.tup [.int (n:Int),.tup T]]=[some .pen,some (.tup [.int (n:Int),.tup T]),none,none,none,none,none] from rfl];have st0:(sk (af 1) (xGp (xGc (xNm 5) (xGc (xNm 6) xGl)) 2):Xd []).p [some .pen,some (.tup [.int (n:Int),.tup T]),none,none,none,none,none] s=.nx [some .pen,some (.tup [.int (n:Int),.tup T]),none,none,none,some (.int (n:Int)),some (.tup T)] s:=rfl;rw[au,st0,PU.aq,au,bT];simp![aS,aT,aQ,cr,nO,el,Pf,bC,bf,ju,qa,Pg,qaA,qaB,PU.aq];rw[au,bT];simp![aQ,aT,dA,bC,bf,u1,u2,o4,Pf,oIx_t,ex,Pg,qaA,qaB,PU.aq];have rk:rvT (kD k) (some (-1))=some (.tup (k.map D.int).reverse):=rvT_t;rw[au,bT];simp![di,dA,aT,aQ,nk,qN,qP,qO,Pf,hA,hB,hC,xRvT_p,rvT_t,rk,fU,bC,bf,en,o1,o2,o3,ju,u1,u2,hL1,z1,Pg,qaA,qaB,PU.aq];rw[au,bT];simp![di,dA,aT,aQ,Pf,cr,ct,bC,bf,cn_bl,kJ,og,u0,u1,u2,u3,v2,hL2,z2,d1,Pg,qaA,qaB,PU.aq];rw[au,bT];simp![di,dA,aT,aQ,nk,qN,qP,qO,Pf,hA,hC,aS,qb,cr,ck,bC,bf,o1,o3,ju,u1,u2,hL3,z3,d2,Pg,qaA,qaB,PU.aq];rw[au,bT];simp![di,dA,aT,aQ,xDic_p,nk,qN,qP,qO,Pf,hD,cr,cs,bC,bf,iA,kJ,o4,og,u0,u1,u2,hL4,z4,d3,Pg,qaA,qaB,PU.aq];have e24:eO.p [.lst (L1++L2++L3++L4)]=some (.int 24):=by
  show some (D.int ((L1++L2++L3++L4).length:Int))=_;rw[LL];rfl
 simp![cg,aQ,aT,aS,cr,e24,Pf,qj,kU,ed,Pg,PU.de]
def sU(hs:PyData.strOk x=true):eqD neg (.str x) (.str x)=some (.bl (!neg)):=by
 cases neg <;> simp[eqD,py,dep,SeqAt.shaped,PyData.canLay0,PyData.depth,PyData.eqv,hs]
def rQ:eqD true (.str "web") (.str "web")=some (.bl false):=sU (by decide +kernel)
def ne_made:eqD true (.str "made") (.str "made")=some (.bl false):=sU (by decide +kernel)
def eq_made:eqD false (.str "made") (.str "made")=some (.bl true):=sU (by decide +kernel)
def otL:List D:=[.non,.str "",.str "01",.dic,.int 3,.bl true,.dic]
def ot_good:∀d∈otL,Kd d/\(∀ds,d≠.lst ds)/\∀ds,d≠.tup ds:=fun d hd=>by
 unfold otL at hd;simp only[qao,qba,or_false] at hd;rcases hd with rfl|rfl|rfl|rfl|rfl|rfl|rfl
 all_goals exact⟨⟨_,rfl⟩,fun _ e=>(by cases e),fun _ e=>(by cases e)⟩
abbrev rE(n:Nat)(ks:List (List Int))(z1 z4 z5 z6 z7 z8:Option D):aE:=[some .pen,z1,some (.int (n:Int)),some (.tup (ks.map kD)),z4,z5,z6,z7,z8]
def rt_turn{n:Nat}{ks:List (List Int)}{z1 z4 z5 z6 z7 z8:Option D}{s:Pen}(w:WebT n ks)(hn:n<=12):∃y4 y5 y6 y7 y8 s',rtB.p (rE n ks z1 z4 z5 z6 z7 z8) s=.nx (rE n ks z1 y4 y5 y6 y7 y8) s':=by
 have hl:ks.length<=66:=nU w.n12 w.tie w.nd;have hT:∀u∈ks.map kD,K1 u:=xA;have hlT:(ks.map kD).length<=66:=by rw[qaW];exact hl
 have el:((ks.map kD).length:Int)=(ks.length:Int):=by rw[qaW]
 obtain⟨a,s1,a0,a1,qa⟩:=bD (s:=s) (size:=(ks.length:Int)+1) (by lia) (by lia);obtain⟨b,s2,qb,kb,nb⟩:=pf (s:=s1) hn;obtain⟨c,s3,c0,c1,qc⟩:=bD (s:=s2) (size:=2) (by lia) (by lia);obtain⟨m,s4,qm,km,cm⟩:=tY (s:=s3);obtain⟨e,s5,e0,e1,qe⟩:=bD (s:=s4) (size:=2) (by lia) (by lia);obtain⟨f,s6,f0,f1,qf⟩:=bD (s:=s5) (size:=7) (by lia) (by lia);obtain⟨o,eo,mo⟩:=gk (ds:=otL) f0 (by simp[otL];lia);obtain⟨ko,o1,o2⟩:=ot_good o mo;obtain⟨d,s7,qd,kd⟩:=bent_p (s:=s6) w hn;have w1:=yN (s:=s7) kd;have w2:=wO (s:=s7) kd;have cA:=fun u=>gi (ds:=ks.map kD) (lo:=none) (hi:=some a) (x:=u);have cB:=fun u=>gi (ds:=ks.map kD) (lo:=some a) (hi:=none) (x:=u);have lA:=qaw (iw (ds:=ks.map kD) (lo:=none) (hi:=some a)) hlT;have lB:=qaw (iw (ds:=ks.map kD) (lo:=some a) (hi:=none)) hlT;generalize hA:cV (ks.map kD) none (some a)=TA at cA lA;generalize hB:cV (ks.map kD) (some a) none=TB at cB lB;have gG:∀u∈TA++[b]++TB,K1 u:=dy (dy (fun u h=>hT u (cA u h)) (iu kb)) fun u h=>hT u (cB u h);have lG:(TA++[b]++TB).length<=100000:=by simp;lia
 have aG:(TA++[b]++TB).all (bV n)=false:=by simp[nb]
 have p1:bo.p (.lst TA) (.lst [b])=some (.lst (TA++[b])):=gw (by simp;lia);have p2:bo.p (.lst (TA++[b])) (.lst TB)=some (.lst (TA++[b]++TB)):=gw (by simp;lia);have lc1:dZ.p [.tup TA]=some (.lst TA):=iI (by lia);have lc2:dZ.p [.tup TB]=some (.lst TB):=iI (by lia);generalize TA++[b]++TB=G at gG lG aG p2;obtain⟨g,eg,mg⟩:=gk (ds:=[.lst G,.tup G]) c0 (by simp;lia);have t1:bM.p [.int (n:Int),g] s3=.ok (.str "web") s3:=mf (wo_tie hn (by simpa using mg) lG gG aG);obtain⟨h,eh,mh⟩:=gk (ds:=[.tup [],.lst []]) e0 (by simp;lia);have t2:bM.p [m,h] s5=.ok (.str "web") s5:=mf (wo_cnt km cm);have t3:bM.p [.int (n:Int),o] s6=.ok (.str "web") s6:=mf (wo_kind hn ko o1 o2);have lO:∀env s,(be (aa (xC .non) (aa (xC (.str "")) (aa (xC (.str "01")) (aa xDic (aa (xC (.int 3)) (aa (xC (.bl true)) (aa (vV 0 1 1) xNil))))))):Xe []).p env s=.ok (.lst otL) s:=fun env s=>by
  simp[otL,xDicT_p]
 classical
 generalize hW:decide (eT d)=W at w1 w2;refine⟨some (.int a),some (.lst G),some o,some d,some (.bl W),s7,?_⟩;rw[au,bT];simp![aS,aT,aQ,cr,nO,el,Pf,bC,bf,ju,qa,Pg,qaA,qaB,PU.aq];rw[au,bT];simp![aS,aT,aQ,cr,nk,qN,qP,qO,Pf,hA,hB,lc1,lc2,di,qb,v1,p1,p2,Pg,qaA,qaB,PU.aq];rw[au,bz];simp![dM,aQ,aS,aT,di,cr,tS,Pf,v2,bC,bf,iA,qc,kU,eg,t1,g0,rQ,Pl,Pg,qac,if_false,bx,PU.aq];rw[au,bz];simp![dM,aQ,aS,aT,di,dA,Pf,v0,u0,v2,bC,bf,iA,qm,qe,kU,eh,t2,g0,rQ,Pl,Pg,qac,if_false,bx,PU.aq];rw[au,bT,aQ,lO];simp![aS,aT,bC,bf,qf,kU,eo,Pf,Pg,qaA,qaB,PU.aq];rw[au,bz];simp![dM,aQ,aS,aT,Pf,bC,iA,t3,g0,rQ,Pl,Pg,qac,if_false,bx,PU.aq];rw[au,bT];have qd':jM.p [.pen,.tup [.int (n:Int),.tup (ks.map kD)]] s6=.ok d s7:=qd;simp![aS,aT,dA,u2,qd',Pg,qaA,qaB,PU.aq];rw[au,bT];simp![aS,aT,w1,Pg,qaA,qaB,PU.aq];have ib:(bP ["bool"]).p (.bl W)=some (.bl true):=rfl;rw[bz];simp![jG,dC,dM,fU,aQ,aS,aT,w2,ib,Pf,Pl,qaH,qac,if_false,g0,eqD_bb,beq_self_eq_true,if_true,Pg,bx]
def right_p{s:Pen}:∃s',gL.p [.pen] s=.ok (.bl true) s':=by
 obtain⟨n,ks,s1,q1,hn,w⟩:=web_p (most:=12) (s:=s) (by lia);have q1':iO.p [.pen,.int 12] s=.ok (.tup [.int (n:Int),.tup (ks.map kD)]) s1:=q1;have hl:ks.length<=66:=nU w.n12 w.tie w.nd;have tm:∀{s:Pen},bM.p [.int (n:Int),.tup (ks.map kD)] s=.ok (.str "made") s:=fun {s}=>by
  obtain⟨x,e⟩:=wo_ok (s:=s) hn (.inr rfl:D.tup (ks.map kD)=.lst (ks.map kD)\/D.tup (ks.map kD)=.tup (ks.map kD)) (by lia) w.isT;exact pg e
 have tl:∀{s:Pen},bM.p [.int (n:Int),.lst (ks.map kD)] s=.ok (.str "made") s:=fun {s}=>by
  obtain⟨x,e⟩:=wo_ok (s:=s) hn (.inl rfl:D.lst (ks.map kD)=.lst (ks.map kD)\/D.lst (ks.map kD)=.tup (ks.map kD)) (by lia) w.isT;exact pg e
 obtain⟨env',s',e,z1,z4,z5,z6,z7,z8,rfl⟩:=iN (g:=(xNm 1:Xg []).p) (b:=rtB.p)
  (fun _ env _=>∃z1 z4 z5 z6 z7 z8,env=rE n ks z1 z4 z5 z6 z7 z8) (cL 0 3) 0 (rE n ks none none none none none none) s1 ⟨none,none,none,none,none,none,rfl⟩ (fun j env s' d ⟨z1,z4,z5,z6,z7,z8,hE⟩ _=>by
   subst hE;obtain⟨y4,y5,y6,y7,y8,s2,e⟩:=rt_turn (z1:=some d) (z4:=z4) (z5:=z5) (z6:=z6) (z7:=z7) (z8:=z8) (s:=s') w hn
   exact⟨_,_,s2,rfl,e,_,_,_,_,_,_,rfl⟩)
 refine⟨s',?_⟩;rw[wj (by rfl)];unfold gS;rw[show dSt 9 [D.pen]=[some .pen,none,none,none,none,none,none,none,none] from rfl];have st0:(sk (aw iO (aa (af 0) (aa (xC (.int 12)) xNil))) (xGp (xGc (xNm 2) (xGc (xNm 3) xGl)) 2):Xd []).p [some .pen,none,none,none,none,none,none,none,none] s=.nx (rE n ks none none none none none none) s1:=by
  rw[xAsg_p];simp![aS,bC,bf,q1',Pg];rfl
 rw[au,st0,PU.aq,au,bz];simp![dM,aQ,aS,aT,Pf,bC,iA,tm,g0,ne_made,Pl,Pg,qac,if_false,bx,PU.aq];rw[au,kf,kE,aC];simp only[bC,bf,Pb,aI];rw[iR1_i (by decide),Pf,Pg];refine (congrArg (fun z:PS=>(z.then _).fin) e).trans ?_;have lc:dZ.p [.tup (ks.map kD)]=some (.lst (ks.map kD)):=iI (by simp;lia);rw[PU.aq];simp![cg,aQ,aS,aT,cr,lc,Pf,tl,bC,iA,oEq_p,eq_made,Pg,PU.de]
def ur{ns:List Int}{k:Nat}(hk:k<ns.length):atI (ns.map PV.int) (k:Int)=some (.int ns[k]):=L2.eB (by simp[hk])
def sD{h:MH}:opPow (.int 10) (.int 18) h=.ok (.int (10 ^ 18)) h:=rZ (by decide)
def An{h:MH}:opPow (.int 10) (.int 15) h=.ok (.int (10 ^ 15)) h:=rZ (by decide)
def yP{h:MH}{ns:List Int}{k:Nat}(hk:k<64):∃m c:Int,iC [.frl (ns.map .int),.int k] h=.ok (.loc h.length) (h++[.lst [.int m,.int c,.int 0]]):=by
 unfold iC;have k1:∀{i:Int} {h:MH},opMul (.int 7919) (.int i) h=.ok (.int (7919 * i)) h:=gh (by decide);have k2:∀{i:Int} {h:MH},opMul (.int 48271) (.int i) h=.ok (.int (48271 * i)) h:=gh (by decide);have k3:∀{i:Int} {h:MH},opMul (.int 40009) (.int i) h=.ok (.int (40009 * i)) h:=gh (by decide);have n3:∀{a b c:PV} {h:MH},newL [a,b,c] h=.ok (.loc h.length) (h++[.lst [a,b,c]]):=wu (by simp)
 have fin:∀cell:Int,∃m c:Int,(aD (mIf (mB (ak opGe (mCB fAbs (ac (ag 2) mNil)) (ak opPow (mC (.int 10)) (mC (.int 18))))) (aN (bc (ac (mC (.int 1)) (ac (mCB fAbs (ac (ag 2) mNil)) (ac (mC (.int 0)) mNil))))) mSkip)
   (aN (bc (ac (mC (.int 0)) (ac (ak opAdd (ak opMod (ag 2) (mC (.int 2147483587))) (ak opMul (mC (.int 40009)) (ag 1))) (ac (mC (.int 0)) mNil)))))) [some (.frl (ns.map .int)),some (.int k),some (.int cell)] h=.rt (.loc h.length) (h++[.lst [.int m,.int c,.int 0]]):=fun cell=>by
  by_cases z:(10:Int) ^ 18<=(if cell<0 then -cell else cell)
  ·exact⟨1,(if cell<0 then -cell else cell),by simp[sD,n3,z,-Int.reducePow]⟩
  ·exact⟨0,cell.fmod 2147483587+40009 * k,by simp[sD,n3,z,k3,eN,-Int.reducePow]⟩
 have fin':∀cell:Int,∃m c:Int,((aD (mIf (mB (ak opGe (mCB fAbs (ac (ag 2) mNil)) (ak opPow (mC (.int 10)) (mC (.int 18))))) (aN (bc (ac (mC (.int 1)) (ac (mCB fAbs (ac (ag 2) mNil)) (ac (mC (.int 0)) mNil))))) mSkip)
   (aN (bc (ac (mC (.int 0)) (ac (ak opAdd (ak opMod (ag 2) (mC (.int 2147483587))) (ak opMul (mC (.int 40009)) (ag 1))) (ac (mC (.int 0)) mNil)))))) [some (.frl (ns.map .int)),some (.int k),some (.int cell)] h).fin=.ok (.loc h.length) (h++[.lst [.int m,.int c,.int 0]]):=fun cell=>by
  obtain⟨m,c,q⟩:=fin cell;exact⟨m,c,by rw[q];rfl⟩
 have lift:∀cell:Int,(aD (aW 2 (ak opAdd (ak opMul (mC (.int 7919)) (ag 1)) (mC (.int 11))))
 (mIf (mB (ak opLt (ag 1) (mCB fMin (ac (mCB fLen (ac (ag 0) mNil)) (ac (mC (.int 63)) mNil))))) (aW 2 (ak aR (ag 0) (ag 1))) (mIf (mB (ak opGt (mCB fLen (ac (ag 0) mNil)) (mC (.int 0)))) (aW 2 (ak opAdd (ak opMod (ak aR (ag 0) (ak opMod (ag 1) (mCB fMin (ac (mCB fLen (ac (ag 0) mNil)) (ac (mC (.int 63)) mNil))))) (ak opPow (mC (.int 10)) (mC (.int 15)))) (ak opMul (mC (.int 48271)) (ag 1)))) mSkip))) [some (.frl (ns.map .int)),some (.int k),none] h=.nx [some (.frl (ns.map .int)),some (.int k),some (.int cell)] h ->
   ∃m c:Int,bh 3 2 m_l_pen [.frl (ns.map .int),.int k] h=.ok (.loc h.length) (h++[.lst [.int m,.int c,.int 0]]):=fun cell q=>by
  obtain⟨m,c,q2⟩:=fin' cell;refine⟨m,c,(iG (by rfl)).trans ?_⟩;rw[<-q2];unfold m_l_pen;simp only[oP] at q ⊢;have e0:bR 3 [PV.frl (ns.map .int),PV.int k]=[some (.frl (ns.map .int)),some (.int k),none]:=rfl;rw[e0];generalize (aW 2 (ak opAdd (ak opMul (mC (.int 7919)) (ag 1)) (mC (.int 11)))) [some (.frl (ns.map .int)),some (.int k),none] h=o1 at q ⊢
  cases o1 with
  | nx σ1 h1 =>
   simp only[MM.aq,oP] at q ⊢;rw[q];rfl
  | _=>cases q
 have hlim:∃lim:Nat,(if (63:Int)<(ns.length:Int) then (63:Int) else (ns.length:Int))=(lim:Int)/\lim<=ns.length/\(0<ns.length->0<lim):=by
  by_cases z:(63:Int)<(ns.length:Int)
  ·exact⟨63,by rw[qai z];rfl,by lia,by lia⟩
  ·exact⟨ns.length,by rw[qal z],by lia,by lia⟩
 obtain⟨lim,el,hl1,hl2⟩:=hlim;by_cases h1:k<lim
 ·refine lift (ns[k]'(by lia)) ?_;simp[k1,el,h1,ur (show k<ns.length by lia)]
 ·by_cases h0:0<ns.length
  ·have hm0:(lim:Int)≠0:=by have:=hl2 h0;lia
   have hj:k % lim<ns.length:=qav (Nat.mod_lt _ (hl2 h0)) hl1;have ej:(k:Int).fmod (lim:Int)=((k % lim:Nat):Int):=by rw[qbR _ (by lia)];rfl
   refine lift ((ns[k % lim]'hj).fmod (10 ^ 15)+48271 * k) ?_;have p0:((10:Int) ^ 15)≠0:=by decide
   have a1:=ur hj;rw[Int.natCast_emod] at a1;simp[k1,el,h1,h0,eN hm0,ej,a1,An,eN p0,k2,-Int.reducePow]
  ·have h0':ns=[]:=qbp.mp (by lia);refine lift (7919 * k+11) ?_;have z:¬((k:Int)<(lim:Int)):=by lia
   simp[k1,el,z,h0]
def v4{lo:Int}{c i:Nat}{x:PV}(h:(bq lo c)[i]?=some x):x=.int (lo+i)/\i<c:=by
 unfold bq at h;rw[qaz,qaD] at h;obtain⟨k,hk,rfl⟩:=h
 have:=qag.mp hk
 obtain⟨a,b⟩:=this;simp at a b;subst b;exact⟨rfl,a⟩
def wJ{c i:Nat}{x:PV}(h:(bq 0 c)[i]?=some x):x=.int (i:Int)/\i<c:=by
 have:=v4 h;simpa using this
def we{h:MH}{p:Nat}{s:Pen}(pn:cj h p s):∃h',ff [.loc p] h=.ok (.bl true) h':=by
 obtain⟨s',q⟩:=right_p (s:=s)
 have k:=gL.ok (q:=p) (h:=h) (O:=[p]) (vs:=[.loc p]) (ds:=[.pen]) (s:=s) (fun o ho=>by
  have:o=p:=by simpa using ho
  subst this;exact bg pn) (by simp) pn ⟨_,_,rfl,rfl,rfl⟩
 rw[q,ue] at k;obtain⟨v,h',e,_,_,r,_⟩:=k;exact⟨h',by rw[e];rw[show v=PV.bl true from r]⟩
def law_true(ns:List Int)(hn:ns.length<=63):∃h',f_law [.frl (ns.map .int)] []=.ok (.bl true) h':=by
 unfold f_law;rw[iG (by rfl)];unfold m_law;obtain⟨c,hc,ec⟩:∃c:Nat,c<=24/\(ac (aF d6 (ac (ag 0) (ac (mC (.int 24)) mNil))) mNil) [some (.frl (ns.map .int)),none] []=.ok [.int (c:Int)] []:=by
  have er:d6 [.frl (ns.map .int),.int 24] []=.ok (.int (if (if (24:Int)<(ns.length:Int) then 24 else (ns.length:Int))>4 then (if (24:Int)<(ns.length:Int) then 24 else (ns.length:Int)) else 4)) []:=by
   unfold d6;rw[iG (by rfl)];unfold m_l_rounds;simp[bR,List.replicate]
  obtain⟨c,e⟩:=kC (i:=(if (if (24:Int)<(ns.length:Int) then 24 else (ns.length:Int))>4 then (if (24:Int)<(ns.length:Int) then 24 else (ns.length:Int)) else 4)) (by (repeat' split) <;> lia);refine⟨c,?_,?_⟩
  ·have:(c:Int)<=24:=by rw[<-e];(repeat' split) <;> lia
   lia
  ·rw[e] at er;simp -implicitDefEqProofs [er]
 have er:=itR1 ec (by lia);obtain⟨σ',h',e,z,hσ⟩:=vn (it:=⟨bq 0 c,[]⟩) (g:=gNm 1) (b:=mIf (cx (mB (aF ff (ac (aF iC (ac (ag 0) (ac (ag 1) mNil))) mNil)))) (aN (mC (.bl false))) mSkip)
  (fun _ σ _=>∃z,σ=[some (.frl (ns.map .int)),z]) (bq 0 c) 0 [some (.frl (ns.map .int)),none] [] ⟨none,rfl⟩ (fun _ _ _ _=>ok_none.mpr trivial) (fun m σ h x ⟨z,eσ⟩ hx=>by
   subst eσ;obtain⟨rfl,hm⟩:=wJ hx;obtain⟨a,b,qp⟩:=yP (h:=h) (ns:=ns) (k:=m) (by lia);obtain⟨h2,qr⟩:=we (h:=h++[.lst [.int a,.int b,.int 0]]) (p:=h.length) (s:=(a,b,0)) (by show (h++[MO.lst [.int a,.int b,.int 0]])[h.length]?=some (.lst [.int a,.int b,.int 0]);exact app_0);refine⟨_,_,[some (.frl (ns.map .int)),some (.int (m:Int))],h2,rfl,?_,_,rfl⟩
   simp -implicitDefEqProofs [qp,qr])
 subst hσ;refine⟨h',?_⟩;have e0:bR 2 [PV.frl (ns.map .int)]=[some (.frl (ns.map .int)),none]:=rfl;rw[e0,oP,mFor_ap,er,aH,e,MM.aq];simp
end Law
namespace Law
open PySem PySem.Spec PyProof.Rows L2 MM
set_option maxHeartbeats 4000000
def top(i:Nat):Stmt:=PySem.Challenge.pw_fewfills_k05_no_webs.main.body.getD i (.Pass ⟨0,0,0,0⟩)
structure Cl (K:qab) (mg:MGl):Prop where
 r_NoWeb:∃C,ExcK K mg "NoWeb" C
 t_FillError:∃D,ExcK K mg "FillError" D/\∀x∈(["NoWeb"]:List Str),∃C,ExcK K mg x C/\PySem.W.mroIn K C (.ref D)=some true
 i_NoNumber:∃D,mg "NoNumber"=some (.ref D)/\IsiC K mg (.ref D) ["NoWeb"] []
 i_NoOrder:∃D,mg "NoOrder"=some (.ref D)/\IsiC K mg (.ref D) ["NoWeb"] []
 i_NoParting:∃D,mg "NoParting"=some (.ref D)/\IsiC K mg (.ref D) ["NoWeb"] []
 i_NoPivot:∃D,mg "NoPivot"=some (.ref D)/\IsiC K mg (.ref D) ["NoWeb"] []
 i_NoPlace:∃D,mg "NoPlace"=some (.ref D)/\IsiC K mg (.ref D) ["NoWeb"] []
 i_NoRow:∃D,mg "NoRow"=some (.ref D)/\IsiC K mg (.ref D) ["NoWeb"] []
 i_NoSheet:∃D,mg "NoSheet"=some (.ref D)/\IsiC K mg (.ref D) ["NoWeb"] []
 i_NoText:∃D,mg "NoText"=some (.ref D)/\IsiC K mg (.ref D) ["NoWeb"] []
 i_NoWeb:∃D,mg "NoWeb"=some (.ref D)/\IsiC K mg (.ref D) ["NoWeb"] ["NoWeb"]
 i_NoWord:∃D,mg "NoWord"=some (.ref D)/\IsiC K mg (.ref D) ["NoWeb"] []
 i_TooMany:∃D,mg "TooMany"=some (.ref D)/\IsiC K mg (.ref D) ["NoWeb"] []
 i_ValueError:IsiC K mg (.type "ValueError") ["NoWeb"] ["NoWeb"]
def ClK(K:qab):Prop:=∀(mg:MGl) (base:Heap),K.In base->base.Ns mainGlobals mg->Cl K mg
def clK_mk{K:qab}{C_FillError:Addr}{C_NoNumber:Addr}{C_NoOrder:Addr}{C_NoParting:Addr}{C_NoPivot:Addr}{C_NoPlace:Addr}{C_NoRow:Addr}{C_NoSheet:Addr}{C_NoText:Addr}{C_NoWeb:Addr}{C_NoWord:Addr}{C_TooMany:Addr}
  (a_FillError:PySem.W.nsIn K mainGlobals "FillError"=some (some (.ref C_FillError)))
  (a_NoNumber:PySem.W.nsIn K mainGlobals "NoNumber"=some (some (.ref C_NoNumber)))
  (a_NoOrder:PySem.W.nsIn K mainGlobals "NoOrder"=some (some (.ref C_NoOrder)))
  (a_NoParting:PySem.W.nsIn K mainGlobals "NoParting"=some (some (.ref C_NoParting)))
  (a_NoPivot:PySem.W.nsIn K mainGlobals "NoPivot"=some (some (.ref C_NoPivot)))
  (a_NoPlace:PySem.W.nsIn K mainGlobals "NoPlace"=some (some (.ref C_NoPlace)))
  (a_NoRow:PySem.W.nsIn K mainGlobals "NoRow"=some (some (.ref C_NoRow)))
  (a_NoSheet:PySem.W.nsIn K mainGlobals "NoSheet"=some (some (.ref C_NoSheet)))
  (a_NoText:PySem.W.nsIn K mainGlobals "NoText"=some (some (.ref C_NoText)))
  (a_NoWeb:PySem.W.nsIn K mainGlobals "NoWeb"=some (some (.ref C_NoWeb)))
  (a_NoWord:PySem.W.nsIn K mainGlobals "NoWord"=some (some (.ref C_NoWord)))
  (a_TooMany:PySem.W.nsIn K mainGlobals "TooMany"=some (some (.ref C_TooMany)))
  (e_FillError:PySem.W.excIn K C_FillError bmVE "ValueError.__new__"=true)
  (e_NoWeb:PySem.W.excIn K C_NoWeb bmVE "ValueError.__new__"=true)
  (ga_NoWeb:PySem.W.findIn K (.ref C_NoWeb) "__getattribute__"=some (some (.builtin "BaseException.__getattribute__")))
  (cl_NoWeb:PySem.W.findIn K (.ref C_NoWeb) "__class__"=some (some (.builtin "object.__class__")))
  (gt_NoWeb:PySem.W.findIn K (.ref C_NoWeb) "__getattr__"=some none)
  (mo_NoWeb:PySem.W.mroIn K C_NoWeb (.type "object")=some true)
  (mb_NoWeb:PySem.W.mroIn K C_NoWeb (.type "BaseException")=some true)
  (m_FillError_NoWeb:PySem.W.mroIn K C_NoWeb (.ref C_FillError)=some true)
  (y_NoNumber:PySem.W.kitOne K (.type "NoneType") (.ref C_NoNumber)=some false)
  (k_NoNumber_NoWeb:PySem.W.kitOne K (.ref C_NoWeb) (.ref C_NoNumber)=some false)
  (y_NoOrder:PySem.W.kitOne K (.type "NoneType") (.ref C_NoOrder)=some false)
  (k_NoOrder_NoWeb:PySem.W.kitOne K (.ref C_NoWeb) (.ref C_NoOrder)=some false)
  (y_NoParting:PySem.W.kitOne K (.type "NoneType") (.ref C_NoParting)=some false)
  (k_NoParting_NoWeb:PySem.W.kitOne K (.ref C_NoWeb) (.ref C_NoParting)=some false)
  (y_NoPivot:PySem.W.kitOne K (.type "NoneType") (.ref C_NoPivot)=some false)
  (k_NoPivot_NoWeb:PySem.W.kitOne K (.ref C_NoWeb) (.ref C_NoPivot)=some false)
  (y_NoPlace:PySem.W.kitOne K (.type "NoneType") (.ref C_NoPlace)=some false)
  (k_NoPlace_NoWeb:PySem.W.kitOne K (.ref C_NoWeb) (.ref C_NoPlace)=some false)
  (y_NoRow:PySem.W.kitOne K (.type "NoneType") (.ref C_NoRow)=some false)
  (k_NoRow_NoWeb:PySem.W.kitOne K (.ref C_NoWeb) (.ref C_NoRow)=some false)
  (y_NoSheet:PySem.W.kitOne K (.type "NoneType") (.ref C_NoSheet)=some false)
  (k_NoSheet_NoWeb:PySem.W.kitOne K (.ref C_NoWeb) (.ref C_NoSheet)=some false)
  (y_NoText:PySem.W.kitOne K (.type "NoneType") (.ref C_NoText)=some false)
  (k_NoText_NoWeb:PySem.W.kitOne K (.ref C_NoWeb) (.ref C_NoText)=some false)
  (y_NoWeb:PySem.W.kitOne K (.type "NoneType") (.ref C_NoWeb)=some false)
  (k_NoWeb_NoWeb:PySem.W.kitOne K (.ref C_NoWeb) (.ref C_NoWeb)=some true)
  (y_NoWord:PySem.W.kitOne K (.type "NoneType") (.ref C_NoWord)=some false)
  (k_NoWord_NoWeb:PySem.W.kitOne K (.ref C_NoWeb) (.ref C_NoWord)=some false)
  (y_TooMany:PySem.W.kitOne K (.type "NoneType") (.ref C_TooMany)=some false)
  (k_TooMany_NoWeb:PySem.W.kitOne K (.ref C_NoWeb) (.ref C_TooMany)=some false)
  (k_ValueError_NoWeb:PySem.W.kitOne K (.ref C_NoWeb) (.type "ValueError")=some true)
   :ClK K:=fun mg base kin ns=>by
 have g_FillError:=PySem.W.mg_of kin ns a_FillError;have g_NoNumber:=PySem.W.mg_of kin ns a_NoNumber;have g_NoOrder:=PySem.W.mg_of kin ns a_NoOrder;have g_NoParting:=PySem.W.mg_of kin ns a_NoParting;have g_NoPivot:=PySem.W.mg_of kin ns a_NoPivot;have g_NoPlace:=PySem.W.mg_of kin ns a_NoPlace;have g_NoRow:=PySem.W.mg_of kin ns a_NoRow;have g_NoSheet:=PySem.W.mg_of kin ns a_NoSheet;have g_NoText:=PySem.W.mg_of kin ns a_NoText;have g_NoWeb:=PySem.W.mg_of kin ns a_NoWeb;have g_NoWord:=PySem.W.mg_of kin ns a_NoWord;have g_TooMany:=PySem.W.mg_of kin ns a_TooMany;exact⟨⟨_,g_NoWeb,e_NoWeb⟩,⟨_,⟨g_FillError,e_FillError⟩,(bu ⟨_,⟨g_NoWeb,e_NoWeb⟩,m_FillError_NoWeb⟩ b9)⟩,⟨_,g_NoNumber,cq (dj y_NoNumber) (bu ⟨_,g_NoWeb,⟨ga_NoWeb,cl_NoWeb,gt_NoWeb,mo_NoWeb,mb_NoWeb⟩,k_NoNumber_NoWeb⟩ b9)⟩,⟨_,g_NoOrder,cq (dj y_NoOrder) (bu ⟨_,g_NoWeb,⟨ga_NoWeb,cl_NoWeb,gt_NoWeb,mo_NoWeb,mb_NoWeb⟩,k_NoOrder_NoWeb⟩ b9)⟩,⟨_,g_NoParting,cq (dj y_NoParting) (bu ⟨_,g_NoWeb,⟨ga_NoWeb,cl_NoWeb,gt_NoWeb,mo_NoWeb,mb_NoWeb⟩,k_NoParting_NoWeb⟩ b9)⟩,⟨_,g_NoPivot,cq (dj y_NoPivot) (bu ⟨_,g_NoWeb,⟨ga_NoWeb,cl_NoWeb,gt_NoWeb,mo_NoWeb,mb_NoWeb⟩,k_NoPivot_NoWeb⟩ b9)⟩,⟨_,g_NoPlace,cq (dj y_NoPlace) (bu ⟨_,g_NoWeb,⟨ga_NoWeb,cl_NoWeb,gt_NoWeb,mo_NoWeb,mb_NoWeb⟩,k_NoPlace_NoWeb⟩ b9)⟩,⟨_,g_NoRow,cq (dj y_NoRow) (bu ⟨_,g_NoWeb,⟨ga_NoWeb,cl_NoWeb,gt_NoWeb,mo_NoWeb,mb_NoWeb⟩,k_NoRow_NoWeb⟩ b9)⟩,⟨_,g_NoSheet,cq (dj y_NoSheet) (bu ⟨_,g_NoWeb,⟨ga_NoWeb,cl_NoWeb,gt_NoWeb,mo_NoWeb,mb_NoWeb⟩,k_NoSheet_NoWeb⟩ b9)⟩,⟨_,g_NoText,cq (dj y_NoText) (bu ⟨_,g_NoWeb,⟨ga_NoWeb,cl_NoWeb,gt_NoWeb,mo_NoWeb,mb_NoWeb⟩,k_NoText_NoWeb⟩ b9)⟩,⟨_,g_NoWeb,cq (dj y_NoWeb) (bu ⟨_,g_NoWeb,⟨ga_NoWeb,cl_NoWeb,gt_NoWeb,mo_NoWeb,mb_NoWeb⟩,k_NoWeb_NoWeb⟩ b9)⟩,⟨_,g_NoWord,cq (dj y_NoWord) (bu ⟨_,g_NoWeb,⟨ga_NoWeb,cl_NoWeb,gt_NoWeb,mo_NoWeb,mb_NoWeb⟩,k_NoWord_NoWeb⟩ b9)⟩,⟨_,g_TooMany,cq (dj y_TooMany) (bu ⟨_,g_NoWeb,⟨ga_NoWeb,cl_NoWeb,gt_NoWeb,mo_NoWeb,mb_NoWeb⟩,k_TooMany_NoWeb⟩ b9)⟩,cq (ty_VE K) (bu ⟨_,g_NoWeb,⟨ga_NoWeb,cl_NoWeb,gt_NoWeb,mo_NoWeb,mb_NoWeb⟩,k_ValueError_NoWeb⟩ b9)⟩
abbrev fH:Stmt:=top 14
abbrev mT:List Str:=["thing"]
abbrev nR:List Str:=["isinstance","int","bool"]
abbrev jm:List Str:=["thing"]
def vE(hsc:Sc X fH)(g:Gd X mT nR k)(dc:DefCx X)(n6:Nn X "isinstance")(n3:Nn X "bool")(n5:Nn X "int"):MSs X (aO fH) m_is_whole :=
 (MS2.h (m1n (r_1 (e_1 (gs (cQ g (i:=0) (j:=1) rfl n6 rfl n5 nr oE (kV g 0)) (iT (me_not (cQ g (i:=0) (j:=2) rfl n6 rfl n3 lu jA (kV g 0)))))))))
abbrev gW:Stmt:=top 15
abbrev pR:List Str:=["thing"]
abbrev o9:List Str:=["isinstance","tuple","len"]
abbrev kq:List Str:=["thing"]
def xI(hsc:Sc X gW)(g:Gd X pR o9 k)(dc:DefCx X)(n7:Nn X "len")(n6:Nn X "isinstance")(n15:Nn X "tuple"):MSs X (aO gW) m_is_pair :=
 (MS2.h (m1n (r_1 (e_1 (gs (cQ g (i:=0) (j:=1) rfl n6 rfl n15 cM dU (kV g 0)) (iT (kCm (fS g.room) (kCb g 2 cS n7 cU (ah (kV g 0) aj)) ai)))))))
abbrev fN:Stmt:=top 18
abbrev m8:List Str:=["thing"]
abbrev mY:List Str:=["is_whole","MOST_PLACES"]
abbrev jx:List Str:=["thing"]
def vL(hsc:Sc X fN)(g:Gd X m8 mY k)(dc:DefCx X)(c0:Cal X "is_whole" jm fT k)(v_MOST_PLACES:∃t,X.mg "MOST_PLACES"=some (.int 12 t)):MSs X (aO fN) m_is_count :=
 (MS2.h (m1n (r_1 (e_1 (gs (kCa g 0 c0 (ah (kV g 0) aj)) (iT (tK jC jC ai (kV g 0) (me_glI g (j:=1) rfl v_MOST_PLACES))))))))
abbrev fF:Stmt:=top 19
abbrev nN:List Str:=["n","thing"]
abbrev nW:List Str:=["is_whole"]
abbrev nA:List Str:=["n","thing"]
def wt(hsc:Sc X fF)(g:Gd X nN nW k)(dc:DefCx X)(c0:Cal X "is_whole" jm fT k):MSs X (aO fF) m_is_place :=
 (MS2.h (m1n (r_1 (e_1 (gs (kCa g 0 c0 (ah (kV g 1) aj)) (iT (tK jC lv ai (kV g 1) (kV g 0))))))))
abbrev jw:Stmt:=top 20
abbrev sC:List Str:=["n","thing"]
abbrev rY:List Str:=["is_pair","is_place"]
abbrev sE:List Str:=["n","thing"]
def zO(hsc:Sc X jw)(g:Gd X sC rY k)(dc:DefCx X)(c3:Cal X "is_place" nA jg k)(c1:Cal X "is_pair" kq hG k):MSs X (aO jw) m_is_tie :=
 (MS2.h (m1c (s_1 (bp (bQ (bS (kCa g 0 c1 (ah (kV g 1) aj)))) (MS2.h (m1n (r_1 (e_1 bF)))) aZ))
 (m1n (r_1 (e_1 (gs (kCa g 1 c3 (ah (kV g 0) (ah (kIx (kV g 1) ai) aj))) (gs (kCa g 1 c3 (ah (kV g 0) (ah (kIx (kV g 1) ai) aj))) (iT (kCm (eX g.room) (kIx (kV g 1) ai) (kIx (kV g 1) ai))))))))))
abbrev fM:Stmt:=top 21
abbrev m5:List Str:=["n","things"]
abbrev ng:List Str:=["all"]
abbrev i6:List Str:=["n","things"]
def vW(hsc:Sc X fM)(g:Gd X m5 ng k)(dc:DefCx X)(c4:Cal X "is_tie" sE rX k)(n2:Nn X "all"):MSs X (aO fM) m_are_ties :=
 (MS2.h (m1n (r_1 (e_1 (kCb g 0 (cj_all g) n2 bt_all (ah (kCp g hsc ["thing"] ["n"] ["is_tie"] [0] (fi (kV g 1)) fun Y y g=>⟨(kNm g 0),f9,(kCa g 0 (y.c c4) (ah (kV g 1) (ah (kV g 0) aj)))⟩) aj))))))
abbrev dG:Stmt:=top 22
abbrev jU:List Str:=["pairs"]
abbrev jT:List Str:=["tuple","sorted","set"]
abbrev fq:List Str:=["pairs"]
def qx(hsc:Sc X dG)(g:Gd X jU jT k)(dc:DefCx X)(n13:Nn X "sorted")(n12:Nn X "set")(n9:Nn X "max")(n10:Nn X "min")(n15:Nn X "tuple"):MSs X (aO dG) m_rising_once :=
 (MS2.h (m1n (r_1 (e_1 (kCt g 0 mK n15 cM (ah (kB g (i:=1) (j:=2) rfl n13 rfl n12 (ah (kCp g hsc ["pair"] [] ["min","max"] [] (fi (kV g 0)) fun Y y g=>⟨(kNm g 0),f9,(ME1.h (t_1 (ae (e_1 (kCb g 0 (cj_minS g) (y.n n10) kF (ah (kV g 0) aj))) (ae (e_1 (kCb g 1 (cj_maxS g) (y.n n9) rC (ah (kV g 0) aj))) am))))⟩) aj)) aj))))))
abbrev i9:Stmt:=top 23
abbrev sj:List Str:=["n","ties"]
abbrev rM:List Str:=["is_count","NoWeb","isinstance","list","tuple","are_ties","rising_once"]
abbrev sX:List Str:=["n","ties"]
def zZ(hsc:Sc X i9)(g:Gd X sj rM k)(dc:DefCx X)(c6:Cal X "rising_once" fq dE k)(c5:Cal X "are_ties" i6 fW k)(c2:Cal X "is_count" jx fL k)(n6:Nn X "isinstance")(n8:Nn X "list")(n15:Nn X "tuple")(cl:Cl X.K X.mg):MSs X (aO i9) m_web_of :=
 (MS2.h (m1c (s_1 (bp (bQ (bS (kCa g 0 c2 (ah (kV g 0) aj)))) (MS2.h (m1n (s_1 (kl g (j:=1) rfl cl.r_NoWeb (ah bn aj))))) aZ))
 (m1c (s_1 (bp (bQ (bS (me_isiT g (i:=2) (j:=3) (j':=4) rfl n6 rfl n8 gc zM rfl n15 cM dU (kV g 1)))) (MS2.h (m1n (s_1 (kl g (j:=1) rfl cl.r_NoWeb (ah bn aj))))) aZ))
 (m1c (s_1 (bp (bQ (bS (kCa g 5 c5 (ah (kV g 0) (ah (kV g 1) aj))))) (MS2.h (m1n (s_1 (kl g (j:=1) rfl cl.r_NoWeb (ah bn aj))))) aZ))
 (m1n (r_1 (t_1 (ae (e_1 (kV g 0)) (ae (e_1 (kCa g 6 c6 (ah (kV g 1) aj))) am)))))))))
abbrev iY:Stmt:=top 24
abbrev sP:List Str:=["thing"]
abbrev rq:List Str:=["is_pair","is_count","isinstance","tuple","are_ties","rising_once"]
abbrev qX:List Str:=["thing"]
def zI(hsc:Sc X iY)(g:Gd X sP rq k)(dc:DefCx X)(c6:Cal X "rising_once" fq dE k)(c5:Cal X "are_ties" i6 fW k)(c2:Cal X "is_count" jx fL k)(c1:Cal X "is_pair" kq hG k)(n6:Nn X "isinstance")(n15:Nn X "tuple"):MSs X (aO iY) m_is_web :=
 (MS2.h (m1c (s_1 (bp (MW.mt (dL (bQ (bS (kCa g 0 c1 (ah (kV g 0) aj)))) (dL (bQ (bS (kCa g 1 c2 (ah (kIx (kV g 0) ai) aj)))) (d4 (bQ (bS (cQ g (i:=2) (j:=3) rfl n6 rfl n15 cM dU (kIx (kV g 0) ai)))))))) (MS2.h (m1n (r_1 (e_1 bF)))) aZ))
 (m1n (r_1 (e_1 (gs (kCa g 4 c5 (ah (kIx (kV g 0) ai) (ah (kIx (kV g 0) ai) aj))) (iT (kCm (fS g.room) (kIx (kV g 0) ai) (kCa g 5 c6 (ah (kIx (kV g 0) ai) aj))))))))))
abbrev lq:Stmt:=top 26
abbrev uG:List Str:=["_law_script","_law_k","_law_cell"]
abbrev uR:List Str:=["min","len","abs"]
abbrev vg:List Str:=["_law_script","_law_k"]
def b_l_pen(hsc:Sc X lq)(g:Gd X uG uR k)(dc:DefCx X)(n1:Nn X "abs")(n7:Nn X "len")(n10:Nn X "min"):MSs X (aO lq) m_l_pen :=
 (MS2.h (m1c (a_1 g 2 (e_1 (az bj (az fk ai (kV g 1)) ai)))
 (m1c (s_1 (bp (kTc lv (kV g 1) (kCb g 0 (nF g) n10 kF (ah (kCb g 1 cS n7 cU (ah (kV g 0) aj)) (ah ai aj)))) (MS2.h (m1n (a_1 g 2 (e_1 (kIx (kV g 0) (kV g 1)))))) (MS2.h (m1n (s_1 (bp (kTc vI (kCb g 1 cS n7 cU (ah (kV g 0) aj)) ai) (MS2.h (m1n (a_1 g 2 (e_1 (az bj (az df (kIx (kV g 0) (az df (kV g 1) (kCb g 0 (nF g) n10 kF (ah (kCb g 1 cS n7 cU (ah (kV g 0) aj)) (ah ai aj))))) (az nz ai ai)) (az fk ai (kV g 1))))))) aZ))))))
 (m1c (s_1 (bp (kTc oj_ge (kCb g 2 xL n1 xX (ah (kV g 2) aj)) (az nz ai ai)) (MS2.h (m1n (r_1 (l_1 (ae (e_1 ai) (ae (e_1 (kCb g 2 xL n1 xX (ah (kV g 2) aj))) (ae (e_1 ai) am))))))) aZ))
 (m1n (r_1 (l_1 (ae (e_1 ai) (ae (e_1 (az bj (az df (kV g 2) ai) (az fk ai (kV g 1)))) (ae (e_1 ai) am))))))))))
abbrev i7:Stmt:=top 27
abbrev sN:List Str:=["_law_pen_here","_law_size","_law_number","_law_drawn"]
abbrev tF:List Str:=[]
abbrev dg:List Str:=["_law_pen_here","_law_size"]
def zG(hsc:Sc X i7)(g:Gd X sN tF k)(dc:DefCx X):MSs X (aO i7) m_l_draw :=
 (MS2.h (m1c (s_1 (mU (az bj (kIx (kV g 0) ai) ai) (yv (kV g 0) ai)))
 (m1c (s_1 (bp (kTc (fS g.room) (kIx (kV g 0) ai) ai) (MS2.h (m1c (a_1 g 3 (e_1 (az df (kIx (kV g 0) ai) (kV g 1))))
 (m1c (s_1 (mU (az oj_fd (kIx (kV g 0) ai) (kV g 1)) (yv (kV g 0) ai)))
 (m1n (r_1 (e_1 (kV g 3))))))) aZ))
 (m1c (a_1 g 2 (e_1 (az df (az fk (az bj (az bj (kIx (kV g 0) ai) (az fk ai (kIx (kV g 0) ai))) ai) ai) ai)))
 (m1c (a_1 g 2 (e_1 (az df (az fk (kV g 2) (az bj (az bj (az df (kV g 2) ai) (kIx (kV g 0) ai)) ai)) ai)))
 (m1n (r_1 (e_1 (az df (az oj_fd (az df (az fk (kV g 2) (az bj (az df (kV g 2) ai) ai)) ai) ai) (kV g 1))))))))))
abbrev fJ:Stmt:=top 28
abbrev m6:List Str:=["_law_script","_law_most"]
abbrev nG:List Str:=["max","min","len"]
abbrev nQ:List Str:=["_law_script","_law_most"]
def wP(hsc:Sc X fJ)(g:Gd X m6 nG k)(dc:DefCx X)(n7:Nn X "len")(n10:Nn X "min")(n9:Nn X "max"):MSs X (aO fJ) m_l_rounds :=
 (MS2.h (m1n (r_1 (e_1 (kCb g 0 (yr g) n9 rC (ah ai (ah (kCb g 1 (nF g) n10 kF (ah (kCb g 2 cS n7 cU (ah (kV g 0) aj)) (ah (kV g 1) aj))) aj)))))))
abbrev gN:Stmt:=top 29
abbrev pI:List Str:=["_law_pen_here","_law_n","_law_found","_law_k"]
abbrev o6:List Str:=["range","_law_draw"]
abbrev qg:List Str:=["_law_pen_here","_law_n"]
def xx(hsc:Sc X gN)(g:Gd X pI o6 k)(dc:DefCx X)(c10:Cal X "_law_draw" dg aK k)(n11:Nn X "range"):MSs X (aO gN) m_l_order :=
 (MS2.h (m1c (a_1 g 2 (e_1 (d7 aj)))
 (m1c (s_1 (iF g (kR1 g 0 n11 (ah (kV g 1) aj)) (kNm g 3) (MS2.h (m1n (s_1 (iB (qM xv xN xJ (kV g 2) (ah (kCa g 1 c10 (ah (kV g 0) (ah (az bj (kV g 3) ai) aj))) (ah (kV g 3) aj)))))))))
 (m1n (r_1 (e_1 (kV g 2)))))))
abbrev gP:Stmt:=top 30
abbrev pz:List Str:=["_law_some","_law_found","_law_at","_law_a"]
abbrev o7:List Str:=["enumerate"]
abbrev pr:List Str:=["_law_some"]
def wT(hsc:Sc X gP)(g:Gd X pz o7 k)(dc:DefCx X)(n4:Nn X "enumerate"):MSs X (aO gP) m_l_pairs :=
 (MS2.h (m1c (a_1 g 1 (e_1 (d7 aj)))
 (m1c (s_1 (iF g (kEn g 0 n4 (ah (kV g 0) aj)) (ki g (cG (kNm g 2) (cG (kNm g 3) ir))) (MS2.h (m1n (s_1 (iB (qM x5 yk w9 (kV g 1) (ah (kCp g hsc ["_law_b"] ["_law_a"] [] [3] (fi (me_sl (kV g 0) (b8 (az bj (kV g 2) ai)) cK)) fun Y y g=>⟨(kNm g 0),f9,(ME1.h (t_1 (ae (e_1 (kV g 1)) (ae (e_1 (kV g 0)) am))))⟩) aj))))))))
 (m1n (r_1 (e_1 (kV g 1)))))))
abbrev hX:Stmt:=top 31
abbrev pW:List Str:=["_law_pen_here","_law_n","_law_way","_law_ring"]
abbrev qh:List Str:=["_law_draw","_law_pairs","list","range","int"]
abbrev pS:List Str:=["_law_pen_here","_law_n"]
def w5(hsc:Sc X hX)(g:Gd X pW qh k)(dc:DefCx X)(c10:Cal X "_law_draw" dg aK k)(c13:Cal X "_law_pairs" pr pc k)(n11:Nn X "range")(n5:Nn X "int")(n8:Nn X "list"):MSs X (aO hX) m_l_shape :=
 (MS2.h (m1c (a_1 g 2 (e_1 (kCa g 0 c10 (ah (kV g 0) (ah ai aj)))))
 (m1c (s_1 (bp (kTc lv (kV g 2) ai) (MS2.h (m1n (r_1 (e_1 (kCp g hsc ["_law_pair"] ["_law_pen_here","_law_way"] ["_law_draw"] [0,2] (fi (kCa g 1 c13 (ah (Ag g (i:=2) (j:=3) rfl n8 rfl n11 (ah (kV g 1) aj)) aj))) fun Y y g=>⟨(kNm g 0),(lp (kTc (fS g.room) (kCa g 0 (y.c c10) (ah (kV g 1) (ah (kIx (ME1.h (l_1 (ae (e_1 ai) (ae (e_1 ai) (ae (e_1 ai) (ae (e_1 ai) am)))))) (kV g 2)) aj))) ai)),(kV g 0)⟩))))) aZ))
 (m1c (s_1 (bp (kTc (fS g.room) (kV g 2) ai) (MS2.h (m1n (r_1 (e_1 (kCp g hsc ["_law_k"] ["_law_pen_here"] ["_law_draw"] [0] (kR2 g 3 n11 (ah ai (ah (kV g 1) aj))) fun Y y g=>⟨(kNm g 0),f9,(ME1.h (t_1 (ae (e_1 (kCa g 0 (y.c c10) (ah (kV g 1) (ah (kV g 0) aj)))) (ae (e_1 (kV g 0)) am))))⟩))))) aZ))
 (m1c (s_1 (bp (kTc (fS g.room) (kV g 2) ai) (MS2.h (m1n (r_1 (b_1 bj (e_1 (kCp g hsc ["_law_k"] [] [] [] (kR2 g 3 n11 (ah ai (ah (kV g 1) aj))) fun Y y g=>⟨(kNm g 0),(lp (kTc vI (az df (kV g 0) ai) ai)),(ME1.h (t_1 (ae (e_1 (az dW (kV g 0) ai)) (ae (e_1 (kV g 0)) am))))⟩)) (e_1 (kCp g hsc ["_law_k"] [] [] [] (kR2 g 3 n11 (ah ai (ah (kV g 1) aj))) fun Y y g=>⟨(kNm g 0),f9,(ME1.h (t_1 (ae (e_1 (az dW (kV g 0) ai)) (ae (e_1 (kV g 0)) am))))⟩)))))) aZ))
 (m1c (a_1 g 3 (b_1 bj (e_1 (kCp g hsc ["_law_k"] [] [] [] (kR2 g 3 n11 (ah ai (ah (kV g 1) aj))) fun Y y g=>⟨(kNm g 0),f9,(ME1.h (t_1 (ae (e_1 (az dW (kV g 0) ai)) (ae (e_1 (kV g 0)) am))))⟩)) (b_1 fk (l_1 (ae (t_1 (ae (e_1 ai) (ae (e_1 (az dW (kV g 1) ai)) am))) am)) (e_1 (kCt g 4 cj_int n5 nr (ah (kCm vI (kV g 1) ai) aj))))))
 (m1c (s_1 (bp (MW.mt (dL (kTc (fS g.room) (kV g 2) ai) (d4 (kTc lv (kV g 1) ai)))) (MS2.h (m1n (r_1 (e_1 (kV g 3))))) aZ))
 (m1n (r_1 (b_1 bj (e_1 (kV g 3)) (l_1 (ae (t_1 (ae (e_1 (kCa g 0 c10 (ah (kV g 0) (ah ai aj)))) (ae (e_1 (az bj ai (kCa g 0 c10 (ah (kV g 0) (ah (az dW (kV g 1) ai) aj))))) am))) am))))))))))))
abbrev ln:Stmt:=top 32
abbrev vk:List Str:=["_law_pen_here","_law_most","_law_n","_law_turned","_law_found","_law_a","_law_b"]
abbrev uZ:List Str:=["_law_draw","_law_order","_law_shape","min","max","tuple","sorted","set"]
abbrev uY:List Str:=["_law_pen_here","_law_most"]
def b_l_web(hsc:Sc X ln)(g:Gd X vk uZ k)(dc:DefCx X)(c14:Cal X "_law_shape" pS pU k)(c12:Cal X "_law_order" qg pD k)(c10:Cal X "_law_draw" dg aK k)(n13:Nn X "sorted")(n12:Nn X "set")(n15:Nn X "tuple")(n9:Nn X "max")(n10:Nn X "min"):MSs X (aO ln) m_l_web :=
 (MS2.h (m1c (a_1 g 2 (e_1 (kCa g 0 c10 (ah (kV g 0) (ah (az bj (kV g 1) ai) aj)))))
 (m1c (s_1 (bp (kTc (fS g.room) (kCa g 0 c10 (ah (kV g 0) (ah ai aj))) ai) (MS2.h (m1n (a_1 g 2 (e_1 (kV g 1))))) aZ))
 (m1c (a_1 g 3 (e_1 (kCa g 1 c12 (ah (kV g 0) (ah (kV g 2) aj)))))
 (m1c (a_1 g 4 (e_1 (d7 aj)))
 (m1c (s_1 (iF g (fi (kCa g 2 c14 (ah (kV g 0) (ah (kV g 2) aj)))) (ki g (cG (kNm g 5) (cG (kNm g 6) ir))) (MS2.h (m1n (s_1 (iB (qM pJ pF pj (kV g 4) (ah (ME1.h (t_1 (ae (e_1 (kCb g 3 (nF g) n10 kF (ah (kIx (kV g 3) (kV g 5)) (ah (kIx (kV g 3) (kV g 6)) aj)))) (ae (e_1 (kCb g 4 (yr g) n9 rC (ah (kIx (kV g 3) (kV g 5)) (ah (kIx (kV g 3) (kV g 6)) aj)))) am)))) aj))))))))
 (m1n (r_1 (t_1 (ae (e_1 (kV g 2)) (ae (e_1 (kCt g 5 mK n15 cM (ah (kB g (i:=6) (j:=7) rfl n13 rfl n12 (ah (kV g 4) aj)) aj))) am)))))))))))
abbrev jO:Stmt:=top 33
abbrev rc:List Str:=["_law_caught","_law_some","_law_words"]
abbrev rL:List Str:=["isinstance","NoWeb","NoPlace","NoOrder","NoParting","NoNumber","TooMany","NoSheet","NoPivot","NoRow","NoText","NoWord","len","ValueError"]
abbrev rj:List Str:=["_law_caught"]
def Ac(hsc:Sc X jO)(g:Gd X rc rL k)(dc:DefCx X)(n6:Nn X "isinstance")(n0:Nn X "ValueError")(n7:Nn X "len")(cl:Cl X.K X.mg):MSs X (aO jO) m_l_kind :=
 (MS2.h (m1c (a_1 g 1 (l_1 (ae (t_1 (ae (e_1 bn) (ae (e_1 (ly g (i:=0) (j:=1) rfl n6 rfl cl.i_NoWeb (kV g 0))) am))) (ae (t_1 (ae (e_1 bn) (ae (e_1 (ly g (i:=0) (j:=2) rfl n6 rfl cl.i_NoPlace (kV g 0))) am))) am))))
 (m1c (a_1 g 1 (b_1 bj (e_1 (kV g 1)) (l_1 (ae (t_1 (ae (e_1 bn) (ae (e_1 (ly g (i:=0) (j:=3) rfl n6 rfl cl.i_NoOrder (kV g 0))) am))) (ae (t_1 (ae (e_1 bn) (ae (e_1 (ly g (i:=0) (j:=4) rfl n6 rfl cl.i_NoParting (kV g 0))) am))) am)))))
 (m1c (a_1 g 1 (b_1 bj (e_1 (kV g 1)) (l_1 (ae (t_1 (ae (e_1 bn) (ae (e_1 (zj g (i:=0) rfl n6 (dP g (j:=5) rfl cl.i_NoNumber (dP g (j:=6) rfl cl.i_TooMany (dP g (j:=7) rfl cl.i_NoSheet (dP g (j:=8) rfl cl.i_NoPivot (dP g (j:=9) rfl cl.i_NoRow (dP g (j:=10) rfl cl.i_NoText (dP g (j:=11) rfl cl.i_NoWord ics_nil))))))) cl.i_NoNumber (by decide) (kV g 0))) am))) am))))
 (m1c (s_1 (kSc g hsc 2 ["_law_word","_law_one"] [] [] [] (fi (kV g 1)) fun Y y g=>⟨(ki g (cG (kNm g 0) (cG (kNm g 1) ir))),(lp (mt_tru (kV g 1))),(kV g 0)⟩))
 (m1c (s_1 (bp (MW.mt (dL (kTc (eX g.room) (kCb g 12 cS n7 cU (ah (kV g 2) aj)) ai) (d4 (bQ (bS (me_isiB g (i:=0) (j:=13) rfl n6 rfl n0 qq cl.i_ValueError (kV g 0))))))) (MS2.h (m1n (r_1 (e_1 bn)))) aZ))
 (m1n (r_1 (e_1 (kIx (kV g 2) ai))))))))))
abbrev jc:Stmt:=top 34
abbrev rA:List Str:=["_law_n","_law_ties","_law_caught","e"]
abbrev tH:List Str:=["web_of","FillError","_law_kind"]
abbrev qT:List Str:=["_law_n","_law_ties"]
def zF(hsc:Sc X jc)(g:Gd X rA tH k)(dc:DefCx X)(c16:Cal X "_law_kind" rj sV k)(c7:Cal X "web_of" sX rF k)(cl:Cl X.K X.mg):MSs X (aO jc) m_l_told :=
 (MS2.h (m1c (a_1 g 2 (e_1 dX))
 (m1c (s_1 (ms_tryE g dc (j:=1) rfl cl.t_FillError 2 3 rfl rfl rfl rfl (by rw[hsc];decide +kernel) (fun Y y1 y2 y3 y4 y5 y6 g dc=>have c7:=c7.at y1 y2 y3 y4 y5;(MS2.h (m1n (s_1 (iB (kCa g 0 c7 (ah (kV g 0) (ah (kV g 1) aj)))))))) (by revert hsc;unfold Sc;generalize X.env=env;intro h;cases env;cases h;rfl)))
 (m1c (s_1 (bp (kTc oj_is (kV g 2) dX) (MS2.h (m1n (r_1 (e_1 bn)))) aZ))
 (m1n (r_1 (e_1 (kCa g 2 c16 (ah (kV g 2) aj)))))))))
abbrev eY:Stmt:=top 35
abbrev lR:List Str:=["_law_pen_here","_law_n","_law_far","_law_some"]
abbrev lP:List Str:=["_law_draw","len"]
abbrev ia:List Str:=["_law_pen_here","_law_n"]
def tZ(hsc:Sc X eY)(g:Gd X lR lP k)(dc:DefCx X)(c10:Cal X "_law_draw" dg aK k)(n7:Nn X "len"):MSs X (aO eY) m_l_bad_tie :=
 (MS2.h (m1c (a_1 g 2 (e_1 (az bj (kV g 1) (kCa g 0 c10 (ah (kV g 0) (ah (az nz ai ai) aj))))))
 (m1c (a_1 g 3 (l_1 (ae (l_1 (ae (e_1 ai) (ae (e_1 ai) am))) (ae (t_1 (ae (e_1 ai) am)) (ae (t_1 (ae (e_1 ai) (ae (e_1 ai) (ae (e_1 ai) am)))) (ae (t_1 (ae (e_1 ai) (ae (e_1 ai) am))) (ae (t_1 (ae (e_1 ai) (ae (e_1 (kV g 1)) am))) (ae (t_1 (ae (e_1 (kV g 1)) (ae (e_1 ai) am))) (ae (t_1 (ae (e_1 (gO fg ai)) (ae (e_1 ai) am))) (ae (t_1 (ae (e_1 ai) (ae (e_1 (az dW (gO fg ai) (kCa g 0 c10 (ah (kV g 0) (ah ai aj))))) am))) (ae (t_1 (ae (e_1 ai) (ae (e_1 (kV g 2)) am))) am)))))))))))
 (m1c (s_1 (iB (qM pJ pF pj (kV g 3) (ah (ME1.h (t_1 (ae (e_1 ai) (ae (e_1 bF) am)))) aj))))
 (m1c (a_1 g 3 (b_1 bj (e_1 (kV g 3)) (l_1 (ae (t_1 (ae (e_1 bF) (ae (e_1 ai) am))) (ae (t_1 (ae (e_1 bF) (ae (e_1 bF) am))) (ae (t_1 (ae (e_1 bn) (ae (e_1 ai) am))) (ae (t_1 (ae (e_1 ai) (ae (e_1 bn) am))) (ae (t_1 (ae (e_1 dX) (ae (e_1 ai) am))) (ae (t_1 (ae (e_1 ai) (ae (e_1 dX) am))) (ae (t_1 (ae (t_1 (ae (e_1 ai) am)) (ae (e_1 ai) am))) (ae (t_1 (ae (e_1 ai) (ae (l_1 (ae (e_1 ai) am)) am))) (ae (e_1 dX) (ae (e_1 ai) am)))))))))))))
 (m1c (a_1 g 3 (b_1 bj (e_1 (kV g 3)) (l_1 (ae (e_1 (fj aj)) (ae (e_1 bF) (ae (e_1 bn) (ae (e_1 iS) (ae (t_1 (ae (e_1 (d7 aj)) (ae (e_1 (d7 aj)) am))) (ae (t_1 (ae (e_1 ai) (ae (e_1 iS) am))) (ae (t_1 (ae (e_1 ai) (ae (e_1 ai) am))) (ae (e_1 (d7 aj)) (ae (t_1 (ae (t_1 (ae (e_1 ai) (ae (e_1 ai) am))) am)) am))))))))))))
 (m1n (r_1 (e_1 (kIx (kV g 3) (kCa g 0 c10 (ah (kV g 0) (ah (kCb g 1 cS n7 cU (ah (kV g 3) aj)) aj)))))))))))))
abbrev dD:Stmt:=top 36
abbrev jZ:List Str:=["_law_pen_here","_law_some"]
abbrev j4:List Str:=["_law_draw"]
abbrev jY:List Str:=["_law_pen_here"]
def qt(hsc:Sc X dD)(g:Gd X jZ j4 k)(dc:DefCx X)(c10:Cal X "_law_draw" dg aK k):MSs X (aO dD) m_l_bad_count :=
 (MS2.h (m1c (a_1 g 1 (l_1 (ae (e_1 (gO fg ai)) (ae (e_1 ai) (ae (e_1 (az bj ai (kCa g 0 c10 (ah (kV g 0) (ah (az nz ai ai) aj))))) (ae (e_1 (az dW (gO fg ai) (kCa g 0 c10 (ah (kV g 0) (ah ai aj))))) (ae (e_1 bF) (ae (e_1 bF) (ae (e_1 bn) (ae (e_1 bn) (ae (e_1 dX) (ae (l_1 (ae (e_1 ai) am)) (ae (t_1 (ae (e_1 ai) am)) am)))))))))))))
 (m1n (r_1 (i_1 (b_1 bj (e_1 (kV g 1)) (l_1 (ae (e_1 iS) (ae (e_1 (fj aj)) am)))) (e_1 (kCa g 0 c10 (ah (kV g 0) (ah ai aj)))))))))
abbrev fG:Stmt:=top 37
abbrev nD:List Str:=["_law_thing","_law_last","_law_tie"]
abbrev nq:List Str:=["isinstance","tuple","len","int","bool"]
abbrev nV:List Str:=["_law_thing"]
def vB(hsc:Sc X fG)(g:Gd X nD nq k)(dc:DefCx X)(n6:Nn X "isinstance")(n3:Nn X "bool")(n5:Nn X "int")(n7:Nn X "len")(n15:Nn X "tuple"):MSs X (aO fG) m_l_is_web :=
 (MS2.h (m1c (s_1 (bp (MW.mt (dL (bQ (bS (cQ g (i:=0) (j:=1) rfl n6 rfl n15 cM dU (kV g 0)))) (dL (kTc (eX g.room) (kCb g 2 cS n7 cU (ah (kV g 0) aj)) ai) (d4 (bQ (bS (cQ g (i:=0) (j:=1) rfl n6 rfl n15 cM dU (kIx (kV g 0) ai)))))))) (MS2.h (m1n (r_1 (e_1 bF)))) aZ))
 (m1c (s_1 (bp (MW.mt (dL (bQ (bS (cQ g (i:=0) (j:=3) rfl n6 rfl n5 nr oE (kIx (kV g 0) ai)))) (dL (bS (cQ g (i:=0) (j:=4) rfl n6 rfl n3 lu jA (kIx (kV g 0) ai))) (d4 (bQ (zK jC jC ai (kIx (kV g 0) ai) ai)))))) (MS2.h (m1n (r_1 (e_1 bF)))) aZ))
 (m1c (a_1 g 1 (t_1 (ae (e_1 (gO fg ai)) (ae (e_1 (gO fg ai)) am))))
 (m1c (s_1 (iF g (fi (kIx (kV g 0) ai)) (kNm g 2) (MS2.h (m1c (s_1 (bp (MW.mt (dL (bQ (bS (cQ g (i:=0) (j:=1) rfl n6 rfl n15 cM dU (kV g 2)))) (d4 (kTc (eX g.room) (kCb g 2 cS n7 cU (ah (kV g 2) aj)) ai)))) (MS2.h (m1n (r_1 (e_1 bF)))) aZ))
 (m1c (s_1 (bp (kTc (eX g.room) (kCp g hsc ["_law_v"] [] ["isinstance","int","bool"] [] (fi (kV g 2)) fun Y y g=>⟨(kNm g 0),(lp (MW.mt (dL (bQ (bS (cQ g (i:=0) (j:=1) rfl (y.n n6) rfl (y.n n5) nr oE (kV g 0)))) (d4 (bS (cQ g (i:=0) (j:=2) rfl (y.n n6) rfl (y.n n3) lu jA (kV g 0))))))),ai⟩) (d7 aj)) (MS2.h (m1n (r_1 (e_1 bF)))) aZ))
 (m1c (s_1 (bp (MW.mt (dL (bQ (ya jC lv lv ai (kIx (kV g 2) ai) (kIx (kV g 2) ai) (kIx (kV g 0) ai))) (d4 (kTc (oj_leT g.room) (kV g 2) (kV g 1))))) (MS2.h (m1n (r_1 (e_1 bF)))) aZ))
 (m1n (a_1 g 1 (e_1 (kV g 2))))))))))
 (m1n (r_1 (e_1 bF))))))))
abbrev ja:Stmt:=top 38
abbrev rR:List Str:=["_law_pen_here","_law_web_here","_law_at","_law_tie","_law_some","_law_n","_law_ties"]
abbrev sJ:List Str:=["_law_draw","len","list","_law_bad_tie","str"]
abbrev tD:List Str:=["_law_pen_here","_law_web_here"]
def yK(hsc:Sc X ja)(g:Gd X rR sJ k)(dc:DefCx X)(c10:Cal X "_law_draw" dg aK k)(c18:Cal X "_law_bad_tie" ia eR k)(n7:Nn X "len")(n14:Nn X "str")(n8:Nn X "list"):MSs X (aO ja) m_l_bent :=
 (MS2.h (m1c (s_1 (mU (kV g 1) (ki g (cG (kNm g 5) (cG (kNm g 6) ir)))))
 (m1c (a_1 g 2 (e_1 (kCa g 0 c10 (ah (kV g 0) (ah (az bw (kCb g 1 cS n7 cU (ah (kV g 6) aj)) ai) aj)))))
 (m1c (a_1 g 3 (i_1 (b_1 bw (e_1 (kV g 6)) (t_1 (ae (t_1 (ae (e_1 ai) (ae (e_1 ai) am))) am))) (e_1 (kV g 2))))
 (m1c (a_1 g 4 (l_1 (ae (t_1 (ae (e_1 (kV g 5)) (ae (e_1 (uu (kV g 6) (b8 (gO fg ai)))) am))) (ae (t_1 (ae (e_1 (kV g 5)) (ae (b_1 bw (b_1 bw (e_1 (dz (kV g 6) cK (b8 (kV g 2)))) (t_1 (ae (e_1 (kV g 3)) am))) (e_1 (dz (kV g 6) (b8 (kV g 2)) cK))) am))) (ae (t_1 (ae (e_1 (kV g 5)) (ae (b_1 bw (b_1 bw (e_1 (dz (kV g 6) cK (b8 (kV g 2)))) (t_1 (ae (e_1 (uu (kV g 3) (b8 (gO fg ai)))) am))) (e_1 (dz (kV g 6) (b8 (az bw (kV g 2) ai)) cK))) am))) am)))))
 (m1c (a_1 g 4 (b_1 bw (e_1 (kV g 4)) (l_1 (ae (t_1 (ae (e_1 (kV g 5)) (ae (e_1 (kCt g 2 iH n8 gc (ah (kV g 6) aj))) am))) (ae (l_1 (ae (e_1 (kV g 5)) (ae (e_1 (kV g 6)) am))) (ae (t_1 (ae (e_1 (kV g 5)) am)) (ae (t_1 (ae (e_1 (kV g 5)) (ae (e_1 (kV g 6)) (ae (e_1 (fj aj)) am)))) (ae (t_1 (ae (e_1 (az dW (kV g 5) ai)) (ae (e_1 (kV g 6)) am))) (ae (t_1 (ae (e_1 ai) (ae (e_1 (kV g 6)) am))) (ae (t_1 (ae (e_1 bF) (ae (e_1 (fj aj)) am))) (ae (t_1 (ae (e_1 (kV g 5)) (ae (e_1 dX) am))) (ae (e_1 (kV g 5)) am))))))))))))
 (m1c (a_1 g 4 (b_1 bw (e_1 (kV g 4)) (l_1 (ae (t_1 (ae (e_1 (kV g 5)) (ae (b_1 bw (b_1 bw (e_1 (dz (kV g 6) cK (b8 (kV g 2)))) (t_1 (ae (e_1 (kCa g 3 c18 (ah (kV g 0) (ah (kV g 5) aj)))) am))) (e_1 (dz (kV g 6) (b8 (az bw (kV g 2) ai)) cK))) am))) (ae (t_1 (ae (e_1 (kV g 5)) (ae (b_1 bw (e_1 (dz (kV g 6) cK (b8 (kV g 2)))) (t_1 (ae (e_1 (kCt g 2 iH n8 gc (ah (kV g 3) aj))) am))) am))) (ae (t_1 (ae (e_1 (kV g 5)) (ae (e_1 (kV g 6)) am))) am))))))
 (m1c (a_1 g 4 (b_1 bw (e_1 (kV g 4)) (l_1 (ae (e_1 dX) (ae (e_1 bn) (ae (e_1 (fj aj)) (ae (t_1 (ae (e_1 ai) (ae (e_1 (fj aj)) am))) (ae (t_1 (ae (e_1 (kCt g 4 cj_str n14 bt_str (ah (kV g 5) aj))) (ae (e_1 (kV g 6)) am))) (ae (t_1 (ae (e_1 (kV g 5)) (ae (b_1 bw (e_1 (kV g 6)) (t_1 (ae (t_1 (ae (e_1 (az dW (kV g 5) ai)) (ae (e_1 (kV g 5)) am))) am))) am))) (ae (e_1 iS) (ae (t_1 (ae (e_1 (kV g 6)) (ae (e_1 (kV g 5)) am))) (ae (t_1 (ae (e_1 (kV g 5)) (ae (e_1 (dz (kV g 6) (b8 ai) cK)) am))) am))))))))))))
 (m1n (r_1 (e_1 (kIx (kV g 4) (kCa g 0 c10 (ah (kV g 0) (ah (kCb g 1 cS n7 cU (ah (kV g 4) aj)) aj)))))))))))))))
abbrev hU:Stmt:=top 39
abbrev pY:List Str:=["_law_pen_here","_law_turn","_law_n","_law_ties","_law_at","_law_given","_law_other","_law_thing","_law_found"]
abbrev pQ:List Str:=["_law_web","_law_told","range","_law_draw","len","list","_law_bad_tie","tuple","_law_bad_count","_law_bent","is_web","isinstance","bool","_law_is_web"]
abbrev pK:List Str:=["_law_pen_here"]
def xK(hsc:Sc X hU)(g:Gd X pY pQ k)(dc:DefCx X)(c17:Cal X "_law_told" qT eE k)(c20:Cal X "_law_is_web" nV nh k)(c8:Cal X "is_web" qX sS k)(c21:Cal X "_law_bent" tD rS k)(c10:Cal X "_law_draw" dg aK k)(c19:Cal X "_law_bad_count" jY jX k)(c18:Cal X "_law_bad_tie" ia eR k)(c15:Cal X "_law_web" uY uC k)(n8:Nn X "list")(n11:Nn X "range")(n6:Nn X "isinstance")(n3:Nn X "bool")(n15:Nn X "tuple")(n7:Nn X "len"):MSs X (aO hU) m_l_right :=
 (MS2.h (m1c (s_1 (mU (kCa g 0 c15 (ah (kV g 0) (ah ai aj))) (ki g (cG (kNm g 2) (cG (kNm g 3) ir)))))
 (m1c (s_1 (bp (kTc (eX g.room) (kCa g 1 c17 (ah (kV g 2) (ah (kV g 3) aj))) bn) (MS2.h (m1n (r_1 (e_1 bF)))) aZ))
 (m1c (s_1 (iF g (kR1 g 2 n11 (ah ai aj)) (kNm g 1) (MS2.h (m1c (a_1 g 4 (e_1 (kCa g 3 c10 (ah (kV g 0) (ah (az bw (kCb g 4 cS n7 cU (ah (kV g 3) aj)) ai) aj)))))
 (m1c (a_1 g 5 (b_1 bw (b_1 bw (e_1 (kCt g 5 iH n8 gc (ah (dz (kV g 3) cK (b8 (kV g 4))) aj))) (l_1 (ae (e_1 (kCa g 6 c18 (ah (kV g 0) (ah (kV g 2) aj)))) am))) (e_1 (kCt g 5 iH n8 gc (ah (dz (kV g 3) (b8 (kV g 4)) cK) aj)))))
 (m1c (s_1 (bp (kTc (eX g.room) (kCa g 1 c17 (ah (kV g 2) (ah (kIx (ME1.h (l_1 (ae (e_1 (kV g 5)) (ae (e_1 (kCt g 7 mK n15 cM (ah (kV g 5) aj))) am)))) (kCa g 3 c10 (ah (kV g 0) (ah ai aj)))) aj))) bn) (MS2.h (m1n (r_1 (e_1 bF)))) aZ))
 (m1c (s_1 (bp (kTc (eX g.room) (kCa g 1 c17 (ah (kCa g 8 c19 (ah (kV g 0) aj)) (ah (kIx (ME1.h (l_1 (ae (e_1 (fj aj)) (ae (e_1 (d7 aj)) am)))) (kCa g 3 c10 (ah (kV g 0) (ah ai aj)))) aj))) bn) (MS2.h (m1n (r_1 (e_1 bF)))) aZ))
 (m1c (a_1 g 6 (i_1 (l_1 (ae (e_1 dX) (ae (e_1 bn) (ae (e_1 bn) (ae (e_1 iS) (ae (e_1 ai) (ae (e_1 bF) (ae (e_1 (me_dicT g.room (ME1.h (t_1 (ae (e_1 ai) (ae (e_1 ai) am)))) ai)) am)))))))) (e_1 (kCa g 3 c10 (ah (kV g 0) (ah ai aj))))))
 (m1c (s_1 (bp (kTc (eX g.room) (kCa g 1 c17 (ah (kV g 2) (ah (kV g 6) aj))) bn) (MS2.h (m1n (r_1 (e_1 bF)))) aZ))
 (m1c (a_1 g 7 (e_1 (kCa g 9 c21 (ah (kV g 0) (ah (ME1.h (t_1 (ae (e_1 (kV g 2)) (ae (e_1 (kV g 3)) am)))) aj)))))
 (m1c (a_1 g 8 (e_1 (kCa g 10 c8 (ah (kV g 7) aj))))
 (m1n (s_1 (bp (MW.mt (dL (bQ (bS (cQ g (i:=11) (j:=12) rfl n6 rfl n3 lu jA (kV g 8)))) (d4 (kTc (eX g.room) (kV g 8) (kCa g 13 c20 (ah (kV g 7) aj)))))) (MS2.h (m1n (r_1 (e_1 bF)))) aZ))))))))))))))
 (m1n (r_1 (e_1 (kCm (fS g.room) (kCa g 1 c17 (ah (kV g 2) (ah (kCt g 5 iH n8 gc (ah (kV g 3) aj)) aj))) bn))))))))
abbrev ni:Stmt:=top 40
abbrev N_law:List Str:=["_law_script","_law_k"]
abbrev G_law:List Str:=["range","_law_rounds","_law_right","_law_pen"]
abbrev P_law:List Str:=["_law_script"]
def b_law(hsc:Sc X ni)(g:Gd X N_law G_law k)(dc:DefCx X)(c11:Cal X "_law_rounds" nQ d6 k)(c9:Cal X "_law_pen" vg iC k)(c22:Cal X "_law_right" pK ff k)(n11:Nn X "range"):MSs X (aO ni) m_law :=
 (MS2.h (m1c (s_1 (iF g (kR1 g 0 n11 (ah (kCa g 1 c11 (ah (kV g 0) (ah ai aj))) aj)) (kNm g 1) (MS2.h (m1n (s_1 (bp (bQ (bS (kCa g 2 c22 (ah (kCa g 3 c9 (ah (kV g 0) (ah (kV g 1) aj))) aj)))) (MS2.h (m1n (r_1 (e_1 bF)))) aZ))))))
 (m1n (r_1 (e_1 bF)))))
def bi_law:lf "law" ni P_law:=fun _ _ _ _ _ _=>ar1 fun _=>rfl
def all_fn{K:qab}(b:Ba P w K mg base)
  (D0:DefAt K "is_whole" fH)
  (D1:DefAt K "is_pair" gW)
  (D2:DefAt K "is_count" fN)
  (D3:DefAt K "is_place" fF)
  (D4:DefAt K "is_tie" jw)
  (D5:DefAt K "are_ties" fM)
  (D6:DefAt K "rising_once" dG)
  (D7:DefAt K "web_of" i9)
  (D8:DefAt K "is_web" iY)
  (D9:DefAt K "_law_pen" lq)
  (D10:DefAt K "_law_draw" i7)
  (D11:DefAt K "_law_rounds" fJ)
  (D12:DefAt K "_law_order" gN)
  (D13:DefAt K "_law_pairs" gP)
  (D14:DefAt K "_law_shape" hX)
  (D15:DefAt K "_law_web" ln)
  (D16:DefAt K "_law_kind" jO)
  (D17:DefAt K "_law_told" jc)
  (D18:DefAt K "_law_bad_tie" eY)
  (D19:DefAt K "_law_bad_count" dD)
  (D20:DefAt K "_law_is_web" fG)
  (D21:DefAt K "_law_bent" ja)
  (D22:DefAt K "_law_right" hU)
  (D23:DefAt K "law" ni)
  (z0:Zn K "ValueError")
  (z1:Zn K "abs")
  (z2:Zn K "all")
  (z3:Zn K "bool")
  (z4:Zn K "enumerate")
  (z5:Zn K "int")
  (z6:Zn K "isinstance")
  (z7:Zn K "len")
  (z8:Zn K "list")
  (z9:Zn K "max")
  (z10:Zn K "min")
  (z11:Zn K "range")
  (z12:Zn K "set")
  (z13:Zn K "sorted")
  (z14:Zn K "str")
  (z15:Zn K "tuple")
  (y_MOST_PLACES:∃t,PySem.W.nsIn K mainGlobals "MOST_PLACES"=some (some (.int 12 t)))
  (cl:Cl K mg)
   :FnAt P w K mg base "law" P_law f_law 8:=by
 have v_MOST_PLACES:∃t,mg "MOST_PLACES"=some (.int 12 t):=let ⟨t,e⟩:=y_MOST_PLACES;⟨t,PySem.W.mg_of b.kin b.ns e⟩;have a0:=fnN (k:=0) (N:=mT) (G:=nR) (ps:=jm) b D0 fun X e h g d=>vE h g d (e.n z6) (e.n z3) (e.n z5);have a1:=fnN (k:=0) (N:=pR) (G:=o9) (ps:=kq) b D1 fun X e h g d=>xI h g d (e.n z7) (e.n z6) (e.n z15);have a2:=fnN (k:=1) (N:=m8) (G:=mY) (ps:=jx) b D2 fun X e h g d=>vL h g d (a0.c e) (e.e4▸v_MOST_PLACES);have a3:=fnN (k:=1) (N:=nN) (G:=nW) (ps:=nA) b D3 fun X e h g d=>wt h g d (a0.c e);have a4:=fnN (k:=2) (N:=sC) (G:=rY) (ps:=sE) b D4 fun X e h g d=>zO h g d (a3.c e) (a1.c e);have a5:=fnN (k:=3) (N:=m5) (G:=ng) (ps:=i6) b D5 fun X e h g d=>vW h g d (a4.c e) (e.n z2);have a6:=fnN (k:=0) (N:=jU) (G:=jT) (ps:=fq) b D6 fun X e h g d=>qx h g d (e.n z13) (e.n z12) (e.n z9) (e.n z10) (e.n z15);have a7:=fnN (k:=4) (N:=sj) (G:=rM) (ps:=sX) b D7 fun X e h g d=>zZ h g d (a6.c e) (a5.c e) (a2.c e) (e.n z6) (e.n z8) (e.n z15) (e.e3▸e.e4▸cl);have a8:=fnN (k:=4) (N:=sP) (G:=rq) (ps:=qX) b D8 fun X e h g d=>zI h g d (a6.c e) (a5.c e) (a2.c e) (a1.c e) (e.n z6) (e.n z15);have a9:=fnN (k:=0) (N:=uG) (G:=uR) (ps:=vg) b D9 fun X e h g d=>b_l_pen h g d (e.n z1) (e.n z7) (e.n z10);have a10:=fnN (k:=0) (N:=sN) (G:=tF) (ps:=dg) b D10 fun X e h g d=>zG h g d;have a11:=fnN (k:=0) (N:=m6) (G:=nG) (ps:=nQ) b D11 fun X e h g d=>wP h g d (e.n z7) (e.n z10) (e.n z9);have a12:=fnN (k:=1) (N:=pI) (G:=o6) (ps:=qg) b D12 fun X e h g d=>xx h g d (a10.c e) (e.n z11);have a13:=fnN (k:=0) (N:=pz) (G:=o7) (ps:=pr) b D13 fun X e h g d=>wT h g d (e.n z4);have a14:=fnN (k:=1) (N:=pW) (G:=qh) (ps:=pS) b D14 fun X e h g d=>w5 h g d (a10.c e) (a13.c e) (e.n z11) (e.n z5) (e.n z8);have a15:=fnN (k:=2) (N:=vk) (G:=uZ) (ps:=uY) b D15 fun X e h g d=>b_l_web h g d (a14.c e) (a12.c e) (a10.c e) (e.n z13) (e.n z12) (e.n z15) (e.n z9) (e.n z10);have a16:=fnN (k:=0) (N:=rc) (G:=rL) (ps:=rj) b D16 fun X e h g d=>Ac h g d (e.n z6) (e.n z0) (e.n z7) (e.e3▸e.e4▸cl);have a17:=fnN (k:=5) (N:=rA) (G:=tH) (ps:=qT) b D17 fun X e h g d=>zF h g d (a16.c e) (a7.c e) (e.e3▸e.e4▸cl);have a18:=fnN (k:=1) (N:=lR) (G:=lP) (ps:=ia) b D18 fun X e h g d=>tZ h g d (a10.c e) (e.n z7);have a19:=fnN (k:=1) (N:=jZ) (G:=j4) (ps:=jY) b D19 fun X e h g d=>qt h g d (a10.c e);have a20:=fnN (k:=0) (N:=nD) (G:=nq) (ps:=nV) b D20 fun X e h g d=>vB h g d (e.n z6) (e.n z3) (e.n z5) (e.n z7) (e.n z15);have a21:=fnN (k:=2) (N:=rR) (G:=sJ) (ps:=tD) b D21 fun X e h g d=>yK h g d (a10.c e) (a18.c e) (e.n z7) (e.n z14) (e.n z8);have a22:=fnN (k:=6) (N:=pY) (G:=pQ) (ps:=pK) b D22 fun X e h g d=>xK h g d (a17.c e) (a20.c e) (a8.c e) (a21.c e) (a10.c e) (a19.c e) (a18.c e) (a15.c e) (e.n z8) (e.n z11) (e.n z6) (e.n z3) (e.n z15) (e.n z7);have a23:=fnN (k:=7) (N:=N_law) (G:=G_law) (ps:=P_law) b D23 fun X e h g d=>b_law h g d (a11.c e) (a9.c e) (a22.c e) (e.n z11);exact a23
end Law
namespace PySem.W.Fast
def tw10989910154881117568:=0
def tw14477168616787417497:=0
def tw3799276416190372294:=0
def tw17642765563485568406:=0
def tw12705715503356283659:=0
def tw7373984978247188440:=0
def tw12270967966736348598:=0
def tw5096301181313075998:=0
def tw7351666809572185306:=0
def tw8196114942251170818:=0
def tw536440317162119450:=0
def tw8655647030627872284:=0
def tw2968514591230910340:=0
def tw8478020412784402664:=0
def tw18302470841207352632:=0
def tw6237028835332527319:=0
def tw15251388890140546298:=0
def tw12800896193212329425:=0
def tw13171207651520665953:=0
def tw15862207799756464583:=0
def tw13915441548419523852:=0
def tw2539428551716506350:=0
def tw9514569601191397613:=0
def tw1600071318062316765:=0
def tw2376690966942490381:=0
def tw6610132490451945753:=0
def tw12379437699622882938:=0
def tw11839600818832592759:=0
def tw15255602043283378246:=0
def tw1899368280525833241:=0
def tw4421689896425035266:=0
def tw5891146924214361723:=0
def tw5944659423650290033:=0
def tw2017863129935405210:=0
def tw10462883793752399943:=0
def tw6914629616307086432:=0
def tw701656727591077000:=0
def tw6902507289646480729:=0
def tw1592756433063131493:=0
end PySem.W.Fast
open PySem PySem.W PyProof.Rows
local macro_rules | `(tactic| and_intros) => `(tactic| (dsimp only [L2.KOf]; first | k_is | (refine' MM.defAt_mk ?a ?l ?c ?k; (case a => k_is); (case l => k_is); (case c => k_is); (case k => k_is))))
set_option maxRecDepth 100000 in
set_option maxHeartbeats 0 in
theorem PySem.Challenge.cw_fewfills_k05_no_webs_holds : PySem.Challenge.rw_fewfills_k05_no_webs.Holds := by
  w_on; o_law; k_head; (case hw=>w_witness2)
  k_fill
  refine MM.walk_M (l:=PySem.Challenge.rw_fewfills_k05_no_webs) (k:=8) (x:="_law_script") (F:=Law.f_law) rfl rfl ⟨rfl,by decide,by decide,rfl⟩ (fun w h Y=>PySem.W.kIn_of Y) ?F Law.law_true
  case F=>
    intro w mg fa h KX G hmg
    have Dlaw:MM.DefAt (L2.KOf KX) "law" Law.ni:=by and_intros
    have D0:MM.DefAt (L2.KOf KX) "is_whole" Law.fH:=by and_intros
    have D1:MM.DefAt (L2.KOf KX) "is_pair" Law.gW:=by and_intros
    have D2:MM.DefAt (L2.KOf KX) "is_count" Law.fN:=by and_intros
    have D3:MM.DefAt (L2.KOf KX) "is_place" Law.fF:=by and_intros
    have D4:MM.DefAt (L2.KOf KX) "is_tie" Law.jw:=by and_intros
    have D5:MM.DefAt (L2.KOf KX) "are_ties" Law.fM:=by and_intros
    have D6:MM.DefAt (L2.KOf KX) "rising_once" Law.dG:=by and_intros
    have D7:MM.DefAt (L2.KOf KX) "web_of" Law.i9:=by and_intros
    have D8:MM.DefAt (L2.KOf KX) "is_web" Law.iY:=by and_intros
    have D9:MM.DefAt (L2.KOf KX) "_law_pen" Law.lq:=by and_intros
    have D10:MM.DefAt (L2.KOf KX) "_law_draw" Law.i7:=by and_intros
    have D11:MM.DefAt (L2.KOf KX) "_law_rounds" Law.fJ:=by and_intros
    have D12:MM.DefAt (L2.KOf KX) "_law_order" Law.gN:=by and_intros
    have D13:MM.DefAt (L2.KOf KX) "_law_pairs" Law.gP:=by and_intros
    have D14:MM.DefAt (L2.KOf KX) "_law_shape" Law.hX:=by and_intros
    have D15:MM.DefAt (L2.KOf KX) "_law_web" Law.ln:=by and_intros
    have D16:MM.DefAt (L2.KOf KX) "_law_kind" Law.jO:=by and_intros
    have D17:MM.DefAt (L2.KOf KX) "_law_told" Law.jc:=by and_intros
    have D18:MM.DefAt (L2.KOf KX) "_law_bad_tie" Law.eY:=by and_intros
    have D19:MM.DefAt (L2.KOf KX) "_law_bad_count" Law.dD:=by and_intros
    have D20:MM.DefAt (L2.KOf KX) "_law_is_web" Law.fG:=by and_intros
    have D21:MM.DefAt (L2.KOf KX) "_law_bent" Law.ja:=by and_intros
    have D22:MM.DefAt (L2.KOf KX) "_law_right" Law.hU:=by and_intros
    have ZValueError:PySem.W.nsIn (L2.KOf KX) mainGlobals "ValueError" = some none:=by and_intros
    have Z23:PySem.W.nsIn (L2.KOf KX) mainGlobals "abs" = some none:=by and_intros
    have Z24:PySem.W.nsIn (L2.KOf KX) mainGlobals "all" = some none:=by and_intros
    have Z25:PySem.W.nsIn (L2.KOf KX) mainGlobals "bool" = some none:=by and_intros
    have Z26:PySem.W.nsIn (L2.KOf KX) mainGlobals "enumerate" = some none:=by and_intros
    have Z27:PySem.W.nsIn (L2.KOf KX) mainGlobals "int" = some none:=by and_intros
    have Z28:PySem.W.nsIn (L2.KOf KX) mainGlobals "isinstance" = some none:=by and_intros
    have Z29:PySem.W.nsIn (L2.KOf KX) mainGlobals "len" = some none:=by and_intros
    have Z30:PySem.W.nsIn (L2.KOf KX) mainGlobals "list" = some none:=by and_intros
    have Z31:PySem.W.nsIn (L2.KOf KX) mainGlobals "max" = some none:=by and_intros
    have Z32:PySem.W.nsIn (L2.KOf KX) mainGlobals "min" = some none:=by and_intros
    have Z33:PySem.W.nsIn (L2.KOf KX) mainGlobals "range" = some none:=by and_intros
    have Z34:PySem.W.nsIn (L2.KOf KX) mainGlobals "set" = some none:=by and_intros
    have Z35:PySem.W.nsIn (L2.KOf KX) mainGlobals "sorted" = some none:=by and_intros
    have Z36:PySem.W.nsIn (L2.KOf KX) mainGlobals "str" = some none:=by and_intros
    have Z37:PySem.W.nsIn (L2.KOf KX) mainGlobals "tuple" = some none:=by and_intros
    have YMOST_PLACES:∃ t,PySem.W.nsIn (L2.KOf KX) mainGlobals "MOST_PLACES" = some (some (.int 12 t)):=by
      dsimp only [L2.KOf]
      refine' MM.int_mk ?h
      (case h=>k_is)
    have CL:Law.ClK (L2.KOf KX):=by
      dsimp only [L2.KOf]
      refine' Law.clK_mk ?p0 ?p1 ?p2 ?p3 ?p4 ?p5 ?p6 ?p7 ?p8 ?p9 ?p10 ?p11 ?p12 ?p13 ?p14 ?p15 ?p16 ?p17 ?p18 ?p19 ?p20 ?p21 ?p22 ?p23 ?p24 ?p25 ?p26 ?p27 ?p28 ?p29 ?p30 ?p31 ?p32 ?p33 ?p34 ?p35 ?p36 ?p37 ?p38 ?p39 ?p40 ?p41 ?p42
      (case p0=>k_is)
      (case p1=>k_is)
      (case p2=>k_is)
      (case p3=>k_is)
      (case p4=>k_is)
      (case p5=>k_is)
      (case p6=>k_is)
      (case p7=>k_is)
      (case p8=>k_is)
      (case p9=>k_is)
      (case p10=>k_is)
      (case p11=>k_is)
      (case p12=>k_exc)
      (case p13=>k_exc)
      (case p14=>k_is)
      (case p15=>k_is)
      (case p16=>k_is)
      (case p17=>k_is)
      (case p18=>k_is)
      (case p19=>k_is)
      (case p20=>kit_is)
      (case p21=>kit_is)
      (case p22=>kit_is)
      (case p23=>kit_is)
      (case p24=>kit_is)
      (case p25=>kit_is)
      (case p26=>kit_is)
      (case p27=>kit_is)
      (case p28=>kit_is)
      (case p29=>kit_is)
      (case p30=>kit_is)
      (case p31=>kit_is)
      (case p32=>kit_is)
      (case p33=>kit_is)
      (case p34=>kit_is)
      (case p35=>kit_is)
      (case p36=>kit_is)
      (case p37=>kit_is)
      (case p38=>kit_is)
      (case p39=>kit_is)
      (case p40=>kit_is)
      (case p41=>kit_is)
      (case p42=>kit_is)
    exact MM.head_M Dlaw Law.bi_law hmg KX G fun base kb nb=>Law.all_fn ⟨kb,nb⟩ D0 D1 D2 D3 D4 D5 D6 D7 D8 D9 D10 D11 D12 D13 D14 D15 D16 D17 D18 D19 D20 D21 D22 Dlaw ZValueError Z23 Z24 Z25 Z26 Z27 Z28 Z29 Z30 Z31 Z32 Z33 Z34 Z35 Z36 Z37 YMOST_PLACES (CL _ _ kb nb)
