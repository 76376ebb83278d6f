import PyProof.Rows.All
import Wide.All
import OpenK.AllK
import Wide.FinOn
import Lean
import PyProof.EqAt
import PyProof.EqKinds
import PyProof.TupleCall
import PyProof.ReprRoads
import PyProof.FitsInt
import PyProof.FitsBits
import PyProof.Rows.IntMath
import PyProof.ConsumeWalk
import PyProof.WalkInts
import PyProof.ListRange
import PySem.SetTable
import PyProof.SetKind
import PyProof.TupleKey
import PyProof.DictKinds
import PyProof.IsRules
import PyProof.Rows.SetFrom
import PyProof.CollectIter
import PyProof.ForAny
import PyProof.Rows.SortRuns
import PyProof.Rows.SortKey
import KE.KSortTup
import PyProof.ZipIter
import PyProof.Draws
import PyProof.EnumMake
import PyProof.TupleIter
import PyProof.P3Eq
import PyProof.StrCalls2
import PyProof.StrCalls3
import PyProof.FString
import PyProof.AttrMissHeap
import PyProof.DictUpdate
import PyProof.DictRoads
import KE.KDictOf
import PyProof.Walks
import PyProof.SetRoads
import PyProof.Rows.SeqMore
import KE.KDictList
import PyProof.DictItems
import KE.KPairComp
import PyProof.MeetsSeq
import PyProof.Rows.Chain
import PyProof.ListMulRoad
import PyProof.FactsAll.tuple_2
import OpenK.KCls
import PyProof.InstStoreFacts
import KE.KRevIter
import PyProof.StrWalks
import PyProof.StrCalls5
import PyProof.StrOps
import KE.KIntText
import PyProof.Rows.StrNews2
import PyProof.SliceStr2
import PyProof.StrBlockI
import PyProof.Truth
import PyProof.Rows.StrPartPair
import PyProof.Rows.StrSplitCount
import PyProof.StrLawsChain
import PySem.Challenge.RW_fewfills_k46_sheets_and_rows_read
set_option Elab.async false
set_option bootstrap.genMatcherCode false
set_option compiler.extract_closed false
set_option genSizeOf false
set_option linter.all false
set_option maxRecDepth 100000
open PySem
abbrev qaa:=@PySem.W.Frag
abbrev qab:=@List.mem_cons_of_mem
abbrev qac:=@Heap.get?_push_of_some
abbrev qad:=@wpAny_bind
abbrev qae:=@if_pos
abbrev qaf:=@List.getElem?_eq_some_iff
abbrev qag:=@List.mem_cons
abbrev qah:=@List.getElem?_set_ne
abbrev qai:=@List.getElem?_append_left
abbrev qaj:=@Nat.le_refl
abbrev qak:=@List.size_toArray
abbrev qal:=@List.mem_append_right
abbrev qam:=@Heap.lt_size
abbrev qan:=@List.set_cons_succ
abbrev qao:=@List.set_cons_zero
abbrev qap:=@Option.map_eq_some_iff
abbrev qaq:=@List.length_cons
abbrev qar:=@Bool.false_eq_true
abbrev qas:=@Nat.lt_of_lt_of_le
abbrev qat:=@if_neg
abbrev qau:=@List.mem_map
abbrev qav:=@Nat.le_trans
abbrev qaw:=@Heap.get?_push_size
abbrev qax:=@List.getElem?_set_self
abbrev qay:=@List.getElem?_append_right
abbrev qaz:=@wpAny_pure
abbrev qaA:=@List.getElem?_eq_getElem
abbrev qaB:=@List.length_nil
abbrev qaC:=@List.mem_cons_self
abbrev qaD:=@List.getElem?_map
abbrev qaE:=@List.map_map
abbrev qaF:=@List.getD_eq_getElem?_getD
abbrev qaG:=@List.not_mem_nil
abbrev qaH:=@Nat.ne_of_lt
abbrev qaI:=@Nat.lt_irrefl
abbrev qaJ:=@List.map_cons
abbrev qaK:=@List.mem_of_getElem?
abbrev qaL:=@List.mem_append
abbrev qaM:=@List.getElem?_replicate
abbrev qaN:=@List.length_append
abbrev qaO:=@Nat.zero_le
abbrev qaP:=@Int.natAbs_natCast
abbrev qaQ:=@List.lookup_cons
abbrev qaR:=@Int.toNat_natCast
abbrev qaS:=@List.length_map
abbrev qaT:=@Option.bind_eq_some_iff
abbrev qaU:=@List.pairwise_map
abbrev qaV:=@List.map_congr_left
abbrev qaW:=@Int.fmod_eq_emod_of_nonneg
abbrev qaX:=@List.length_replicate
abbrev qaY:=@List.mem_append_left
abbrev qaZ:=@Bool.and_eq_true
abbrev qba:=@Option.bind_some
abbrev qbb:=@Int.emod_lt_of_pos
abbrev qbc:=@Array.getElem?_toList
abbrev qbd:=@Bool.not_true
abbrev qbe:=@Heap.size_push
abbrev qbf:=@List.filterMap_cons
abbrev qbg:=@Heap.get?_update_ne
abbrev qbh:=@Nat.lt_trans
abbrev qbi:=@List.nodup_cons
abbrev qbj:=@List.mem_singleton
abbrev qbk:=@List.pairwise_cons
abbrev qbl:=@Int.emod_nonneg
abbrev qbm:=@Nat.ne_of_gt
abbrev qbn:=@List.all_eq_true
abbrev qbo:=@List.getElem_mem
abbrev qbp:=@List.getElem?_zipIdx
abbrev qbq:=@Int.toString_eq_repr
abbrev qbr:=@List.append_nil
abbrev qbs:=@List.length_pos_iff
abbrev qbt:=@List.exists_cons_of_ne_nil
abbrev qbu:=@Nat.le_of_lt
abbrev qbv:=@List.mem_filterMap
abbrev qbw:=@Bool.false_ne_true
abbrev qbx:=@Nat.zero_add
abbrev qby:=@List.getElem?_drop
abbrev qbz:=@List.drop_eq_getElem_cons
abbrev qbA:=@List.append_assoc
abbrev qbB:=@Int.eq_ofNat_of_zero_le
abbrev qbC:=@List.length_take
abbrev qbD:=@Nat.lt_succ_self
abbrev qbE:=@Option.getD_some
abbrev qbF:=@List.any_eq_true
abbrev qbG:=@List.take_length
abbrev qbH:=@Heap.get?_update_other
abbrev qbI:=@List.range_succ_eq_map
abbrev qbJ:=@List.take_of_length_le
abbrev qbK:=@List.of_mem_zip
abbrev qbL:=@Heap.get?_update_self
abbrev qbM:=@List.mem_range
abbrev qbN:=@Int.repr_eq_if
abbrev qbO:=@List.take_succ
noncomputable section
local macro_rules | `(tactic| ext) => `(tactic| omega)
namespace L2
open PySem PySem.Spec PyProof.Rows
abbrev Key:=Sum Int Str
def keyIs:Key->Value->Bool
 | .inl k,v=>Value.isInt k v
 | .inr x,v=>Value.isStrOf x v
def keyH(w:World):Key->Int
 | .inl k=>hashInt k
 | .inr x=>hashStr w x
def bz:∀{k:Key} {v:Value},keyIs k v=true->(∃i t,k=Sum.inl i/\v=Value.int i t)\/(∃x t,k=Sum.inr x/\v=Value.str x t)
 | .inl i,v,h=>by
  obtain⟨t,e⟩:=Value.isInt_shape h;exact .inl ⟨i,t,rfl,e⟩
 | .inr x,v,h=>by
  obtain⟨t,e⟩:=Value.isStrOf_shape h;exact .inr ⟨x,t,rfl,e⟩
def key_ll(a b:Int):decide ((Sum.inl a:Key)=Sum.inl b)=(a == b):=by
 by_cases e:a=b
 ·subst e;simp
 ·have h:¬(Sum.inl a:Key)=Sum.inl b:=fun q=>e (Sum.inl.inj q);rw[decide_eq_false h];exact (beq_eq_false_iff_ne.mpr e).symm
def key_rr(a b:Str):decide ((Sum.inr a:Key)=Sum.inr b)=decide (a=b):=by simp
def key_lr(a:Int)(b:Str):decide ((Sum.inl a:Key)=Sum.inr b)=false:=decide_eq_false (fun q=>nomatch q)
def key_rl(a:Str)(b:Int):decide ((Sum.inr a:Key)=Sum.inl b)=false:=decide_eq_false (fun q=>nomatch q)
def jD(prog:Program)(w:World):PySem.KeyKind prog w Key where
 is:=keyIs
 hash:=keyH w
 inj:=fun v a b ha hb=>by
  rcases bz ha with ⟨i,t,rfl,rfl⟩|⟨x,t,rfl,rfl⟩
  ·rcases bz hb with ⟨j,u,rfl,e⟩|⟨y,u,rfl,e⟩
   ·injection e with e1 _;rw[e1]
   ·exact nomatch e
  ·rcases bz hb with ⟨j,u,rfl,e⟩|⟨y,u,rfl,e⟩
   ·exact nomatch e
   ·injection e with e1 _;rw[e1]
 byValue:=fun k v h=>by
  rcases bz h with ⟨i,t,rfl,rfl⟩|⟨x,t,rfl,rfl⟩ <;> rfl
 pyHash:=fun hv h=>by
  rcases bz hv with ⟨i,t,rfl,rfl⟩|⟨x,t,rfl,rfl⟩
  ·exact wpAny_pyHash_int h
  ·exact wpAny_pyHash_str h
 eqBool:=fun hu hv h=>by
  rcases bz hu with ⟨i,t,rfl,rfl⟩|⟨x,t,rfl,rfl⟩
  ·rcases bz hv with ⟨j,u,rfl,rfl⟩|⟨y,u,rfl,rfl⟩
   ·rw[key_ll] at h;exact wpAny_eqBool_int h
   ·rw[key_lr] at h;exact SeqAt.EqAt.int_str i t y u _ _ _ _ h
  ·rcases bz hv with ⟨j,u,rfl,rfl⟩|⟨y,u,rfl,rfl⟩
   ·rw[key_rl] at h;exact SeqAt.EqAt.str_int x t j u _ _ _ _ h
   ·rw[key_rr] at h;exact wpAny_eqBool_str h
 «strs»:=fun k x t v h=>by
  rcases bz h with ⟨i,u,rfl,e⟩|⟨y,u,rfl,e⟩
  ·exact nomatch e
  ·injection e with e1 _
   subst e1;cases v <;> rfl
inductive V where
 | non | bl (b:Bool) | int (i:Int) | str (x:Str) | byt (b:Array UInt8) | flt (b:UInt64) | ref (a:Addr) | ty (n:String)
 deriving DecidableEq
def aM:V->Value->Prop
 | .non,u=>u=Value.none
 | .bl b,u=>u=Value.bool b
 | .int i,u=>∃t,u=Value.int i t
 | .str x,u=>∃t,u=Value.str x t
 | .byt b,u=>∃t,u=Value.bytes b t
 | .flt b,u=>∃t,u=Value.float b t
 | .ref a,u=>u=Value.ref a
 | .ty n,u=>u=Value.type n
abbrev aA:List V->List Value->Prop:=Paired aM
def aA.length(r:aA xs us):xs.length=us.length:=Paired.length r
def aA.get{xs:List V}{us:List Value}{i:Nat}{x:V}(r:aA xs us)(e:xs[i]?=some x):∃u,us[i]?=some u/\aM x u:=by
 induction r generalizing i with
 | nil=>cases e
 | cons r t ih =>
  cases i with
  | zero=>cases e;exact⟨_,rfl,r⟩
  | succ i=>have z:=@ih i e;exact z
def aA.set(r:aM x u)(i:Nat)(q:aA xs us):aA (xs.set i x) (us.set i u):=by
 induction q generalizing i with
 | nil=>exact .nil
 | cons a t ih =>
  cases i with
  | zero=>exact .cons r t
  | succ i=>exact .cons a (ih i)
def aA.append(r:aA xs us)(s:aA ys ws):aA (xs++ys) (us++ws):=by
 induction r with
 | nil=>exact s
 | cons r t ih=>exact .cons r ih
def aA.take(n:Nat)(r:aA xs us):aA (xs.take n) (us.take n):=by
 induction r generalizing n with
 | nil=>cases n <;> exact .nil
 | cons a t ih =>
  cases n with
  | zero=>exact .nil
  | succ n=>exact .cons a (ih n)
def aA.drop(n:Nat)(r:aA xs us):aA (xs.drop n) (us.drop n):=by
 induction r generalizing n with
 | nil=>cases n <;> exact .nil
 | cons a t ih =>
  cases n with
  | zero=>exact .cons a t
  | succ n=>exact ih n
def RelO:Option V->Option Value->Prop
 | some v,some u=>aM v u
 | none,none=>True
 | _,_=>False
def KV{κ:Type}:List (κ × V)->List (κ × Value)->Prop:=Paired fun (p:κ × V) (q:κ × Value)=>p.1=q.1/\aM p.2 q.2
def kV:Key->V
 | .inl i=>.int i
 | .inr x=>.str x
inductive HO where
 | lst (xs:List V)
 | tup (xs:List V)
 | dK (kvs:List (Key × V)) | dT (kvs:List (List Key × V))
 | set (S:Int->Bool) (n:Nat)
 | ins (C dx:Addr) (fs:List (Str × V))
 | own (x:Addr)
 | xd (fs:List (Str × V))
 | met (f x:Addr)
 | rng (lo hi:Int)
 | frz (o:Obj) (u:HO)
 | tbl (ps:Array Value)
 | ext (φ:Heap->Prop)
abbrev Hp:=Addr->Option HO
def upd(H:Hp)(a:Addr)(o:HO):Hp:=fun b=>if b=a then some o else H b
def bR:upd H a o a=some o:=by unfold upd;rw[qae rfl]
def aT(h:b≠a):upd H a o b=H b:=by unfold upd;rw[qat h]
def bo{H:Hp}{a b:Addr}{o:HO}(h:H a=some o)(h':H b=none):a≠b:=by
 intro e;subst e;rw[h] at h';cases h'
def fi(h:Heap)(a:Addr)(its:Array Value):Prop:=∃o,h.get? a=some o/\o.cls=.type "tuple"/\(∃n,o.data=.seq its n)/\o.dict=none
def fi.tup(t:fi h a its):IsTup h a its:=let ⟨o,e,c,d,_⟩:=t;⟨o,e,c,d⟩
def fi.lt(t:fi h a its):a<h.objs.size:=t.tup.lt
def fi.new(h:Heap)(its:Array Value):fi (h.push { cls:=.type "tuple",data:=.seq its}) h.objs.size its:=⟨_,qaw h rfl,rfl,⟨_,rfl⟩,rfl⟩
section
variable (P:Program) (w:World)
def ObjOk(H:Hp)(h:Heap)(a:Addr):HO->Prop
 | .lst xs=>xs.length<=sizeLine/\∃(its:List Value) (n:Nat),aA xs its/\h.get? a=some { cls:=.type "list",data:=.seq its.toArray n}
 | .tup xs=>xs.length<=sizeLine/\∃its:List Value,aA xs its/\fi h a its.toArray
 | .dK kvs=>kvs.length<=sizeLine/\(a == sysModules)=false/\∃vs,KV kvs vs/\h.DictOf (jD P w) a vs
 | .dT kvs=>kvs.length<=sizeLine/\(a == sysModules)=false/\∃xs:List (List Key × Addr × Value),
   Paired (fun (p:List Key × V) (q:List Key × Addr × Value)=>p.1=q.1/\H q.2.1=some (.tup (p.1.map kV))/\aM p.2 q.2.2) kvs xs /\
   ∃o es ep,h.get? a=some o/\o.ExactDict/\o.data=.dict es ep/\es.toList=xs.map (entryOfKey (tupleKind (jD P w)))/\(xs.map (·.1)).Nodup
 | .set S n=>h.SetOf (intKind P w) a S n
 | .ins C dx fs=>H dx=some (.own a)/\fs.length<=1000/\dx≠a/\h.get? a=some (PySem.W.instObj C dx) /\
   ∃mA,h.Ns1 dx mA/\(∀f,RelO (fs.lookup f) (mA f))/\PySem.Within mA (fs.map (·.1))
 | .own _=>∃o,h.get? a=some o
 | .xd fs=>∃mA,h.Ns1 a mA/\∀f,RelO (fs.lookup f) (mA f)
 | .rng lo hi=>∃t u v,h.get? a=some { cls:=.type "range",data:=.fields #[.int lo t,.int hi u,.int 1 v]}
 | .frz o u=>h.get? a=some o/\ObjOk H h a u
 | .tbl ps=>h.get? a=some { cls:=.none,data:=.fields ps}
 | .met f x=>h.get? a=some (PySem.W.methodObj (.ref f) (.ref x))
 | .ext φ=>φ h/\(∃o,h.get? a=some o)/\∀h1 h2:Heap,φ h1->(∀o,h1.get? a=some o->h2.get? a=some o)->φ h2
def HOk(H:Hp)(h:Heap):Prop:=∀a o,H a=some o->ObjOk P w H h a o
end
section
variable {P:Program} {w:World} {H H':Hp} {h h':Heap} {a:Addr} {o:HO}
def ObjOk.lt(x:ObjOk P w H h a o):a<h.objs.size:=by
 cases o with
 | lst xs=>obtain⟨_,_,_,_,e⟩:=x;exact qam e
 | tup xs=>obtain⟨_,_,_,p⟩:=x;exact p.lt
 | dK kvs=>obtain⟨_,_,_,_,o,_,_,e,_⟩:=x;exact qam e
 | dT kvs=>obtain⟨_,_,_,_,o,_,_,e,_⟩:=x;exact qam e
 | set S n=>obtain⟨o,_,_,_,e,_⟩:=x;exact qam e
 | ins C dx fs=>obtain⟨_,_,_,e,_⟩:=x;exact qam e
 | own y=>obtain⟨_,e⟩:=x;exact qam e
 | xd fs=>obtain⟨_,⟨_,_,_,e,_⟩,_⟩:=x;exact qam e
 | rng lo hi=>obtain⟨_,_,_,e⟩:=x;exact qam e
 | frz ob u=>obtain⟨e,_⟩:=x;exact qam e
 | tbl ps=>exact qam (x)
 | met f y=>exact qam (x)
 | ext φ=>obtain⟨_,⟨_,e⟩,_⟩:=x;exact qam e
def Paired.mapP{α β:Type}{F G:α->β->Prop}{l₁:List α}{l₂:List β}(r:Paired F l₁ l₂)(f:∀a b,F a b->G a b):Paired G l₁ l₂:=by
 induction r with
 | nil=>exact .nil
 | cons r t ih=>exact .cons (f _ _ r) ih
def ObjOk.stay(x:ObjOk P w H h a o)(k:∀b u,(b=a\/H b=some (.own a))->h.get? b=some u->h'.get? b=some u)
  (ho:∀b,H b=some (.own a)->H' b=some (.own a)) (ht:∀b xs,H b=some (.tup xs)->H' b=some (.tup xs)):ObjOk P w H' h' a o:=by
 induction o with
 | lst xs=>obtain⟨z,its,n,r,e⟩:=x;exact⟨z,its,n,r,k _ _ (.inl rfl) e⟩
 | tup xs=>obtain⟨z,its,r,ob,e,c⟩:=x;exact⟨z,its,r,ob,k _ _ (.inl rfl) e,c⟩
 | dK kvs=>obtain⟨z,y,vs,r,ob,es,ep,e,c⟩:=x;exact⟨z,y,vs,r,ob,es,ep,k _ _ (.inl rfl) e,c⟩
 | dT kvs =>
  obtain⟨z,y,xs,r,ob,es,ep,e,c⟩:=x;exact⟨z,y,xs,Paired.mapP r fun p q z=>⟨z.1,ht _ _ z.2.1,z.2.2⟩,ob,es,ep,k _ _ (.inl rfl) e,c⟩
 | set S n=>obtain⟨ob,es,ep,t,e,c⟩:=x;exact⟨ob,es,ep,t,k _ _ (.inl rfl) e,c⟩
 | ins C dx fs =>
  obtain⟨d,z,ne,e,mA,⟨od,es,ep,e2,c⟩,r⟩:=x;exact⟨ho _ d,z,ne,k _ _ (.inl rfl) e,mA,⟨od,es,ep,k _ _ (.inr d) e2,c⟩,r⟩
 | own y=>obtain⟨ob,e⟩:=x;exact⟨ob,k _ _ (.inl rfl) e⟩
 | xd fs=>obtain⟨mA,⟨od,es,ep,e,c⟩,r⟩:=x;exact⟨mA,⟨od,es,ep,k _ _ (.inl rfl) e,c⟩,r⟩
 | rng lo hi=>obtain⟨t,u,v,e⟩:=x;exact⟨t,u,v,k _ _ (.inl rfl) e⟩
 | frz ob u ih=>obtain⟨e,q⟩:=x;exact⟨k _ _ (.inl rfl) e,ih q⟩
 | tbl ps =>
  have e:=x;exact k a _ (.inl rfl) e
 | met f y =>
  have e:=x;exact k a _ (.inl rfl) e
 | ext φ=>obtain⟨p,⟨o,e⟩,st⟩:=x;exact⟨st _ _ p fun o q=>k _ _ (.inl rfl) q,⟨o,k _ _ (.inl rfl) e⟩,st⟩
def HOk.lt(x:HOk P w H h)(e:H a=some o):a<h.objs.size:=(x a o e).lt
def HOk.fresh(x:HOk P w H h)(e:h.objs.size<=a):H a=none:=by
 cases q:H a with
 | none=>rfl
 | some u=>exact absurd (qas (x.lt q) e) (qaI _)
def HOk.kept(x:HOk P w H h)(k:∀b u,h.get? b=some u->h'.get? b=some u):HOk P w H h':=fun a o e =>
 (x a o e).stay (fun b u _ q=>k b u q) (fun _ q=>q) fun _ _ q=>q
def HOk.laid(x:HOk P w H h)(k:∀b u,h.get? b=some u->h'.get? b=some u)(hp:h.objs.size<=a)(new:ObjOk P w (upd H a o) h' a o):HOk P w (upd H a o) h':=fun b u e=>by
 have hn:=x.fresh hp;by_cases hb:b=a
 ·subst hb;rw[bR] at e;cases e;exact new
 ·rw[aT hb] at e;exact (x b u e).stay (fun c v _ q=>k c v q) (fun c q=>by rw[aT (bo q hn)];exact q) fun c xs q=>by rw[aT (bo q hn)];exact q
end
def Rd(H:Hp)(a:Addr)(u:HO):Prop:=H a=some u\/∃o,H a=some (.frz o u)
def Rd.ok(r:Rd H a u)(x:HOk P w H h):ObjOk P w H h a u:=by
 rcases r with r|⟨o,r⟩
 ·exact x a u r
 ·obtain⟨_,q⟩:=x a _ r;exact q
def Mut:Option HO->Prop
 | some (.lst _)=>True
 | some (.dK _)=>True
 | some (.dT _)=>True
 | some (.set _ _)=>True
 | some (.ins _ _ _)=>True
 | some (.ext _)=>True
 | _=>False
section
variable {P:Program} {w:World} {H:Hp} {h h':Heap} {x e:Addr} {o':HO}
def HOk.write(ok:HOk P w H h)(mu:Mut (H x))(he:e=x\/H e=some (.own x))(k:∀b u,b≠e->h.get? b=some u->h'.get? b=some u)(heo:∃u,h'.get? e=some u)
  (new:ObjOk P w (upd H x o') h' x o'):HOk P w (upd H x o') h':=fun b u q=>by
 have nown:∀c y,H c=some (.own y)->c≠x:=fun c y r z=>by subst z;rw[r] at mu;exact mu
 have ntup:∀c xs,H c=some (.tup xs)->c≠x:=fun c xs r z=>by subst z;rw[r] at mu;exact mu
 by_cases hb:b=x
 ·subst hb;rw[bR] at q;cases q;exact new
 ·rw[aT hb] at q;by_cases hbe:b=e
  ·have q':H b=some (.own x):=by
    rcases he with z|z
    ·exact absurd (hbe.trans z) hb
    ·rw[hbe];exact z
   rw[q] at q';cases q';obtain⟨v,hv⟩:=heo;exact⟨v,by rw[hbe];exact hv⟩
  ·refine (ok b u q).stay (fun c v hc r=>k c v ?_ r) (fun c r=>by rw[aT (nown c b r)];exact r) fun c xs r=>by rw[aT (ntup c xs r)];exact r
   grind
end
structure Un (fs ex:List Addr) (H H':Hp) (h h':Heap):Prop where
 keep:∀b o,h.get? b=some o->H b=none->b∉fs->b∉ex->h'.get? b=some o
 slot:∀b o,h.get? b=some o->H b=none->b∈fs->b∉ex->∃sl,h'.get? b=some { o with slots:=sl}
 free:∀b o,h.get? b=some o->H b=none->b∉ex->H' b=none
 there:∀b o,h.get? b=some o->b∉ex->∃o',h'.get? b=some o'
 tups:∀b xs,H b=some (.tup xs)->H' b=some (.tup xs)
 frzs:∀b o u,H b=some (.frz o u)->H' b=some (.frz o u)
 tbls:∀b ps,H b=some (.tbl ps)->∃more,H' b=some (.tbl (ps++more))
section
variable {fs fs' ex ex':List Addr} {H H1 H2:Hp} {h h1 h2 h':Heap} {a x e:Addr} {o:HO}
def Un.any(u:Un fs ex H H1 h h1)(q:h.get? b=some ob)(n:H b=none)(hx:b∉ex):∃sl,h1.get? b=some { ob with slots:=sl}:=by
 by_cases hb:b∈fs
 ·exact u.slot b ob q n hb hx
 ·exact⟨ob.slots,u.keep b ob q n hb hx⟩
def Un.kept(k:∀b u,h.get? b=some u->h'.get? b=some u):Un fs ex H H h h' :=
 ⟨fun b ob q _ _ _=>k b ob q,fun b ob q _ _ _=>⟨ob.slots,k b ob q⟩,fun _ _ _ n _=>n,fun b ob q _=>⟨ob,k b ob q⟩,fun _ _ q=>q,fun _ _ _ q=>q,fun _ ps q=>⟨#[],by rw[q];simp⟩⟩
def Un.refl:Un fs ex H H h h:=Un.kept fun _ _ q=>q
def Un.laid(k:∀b u,h.get? b=some u->h'.get? b=some u)(hp:h.objs.size<=a)(hn:H a=none):Un fs ex H (upd H a o) h h' where
 keep:=fun b u q _ _ _=>k b u q
 slot:=fun b u q _ _ _=>⟨u.slots,k b u q⟩
 free:=fun b u q n _=>by rw[aT (qaH (qas (qam q) hp))];exact n
 there:=fun b u q _=>⟨u,k b u q⟩
 tups:=fun b xs q=>by rw[aT (bo q hn)];exact q
 frzs:=fun b u xs q=>by rw[aT (bo q hn)];exact q
 tbls:=fun b ps q=>⟨#[],by rw[aT (bo q hn),q];simp⟩
def Un.write(mu:Mut (H x))(he:e=x\/H e=some (.own x))(k:∀b u,b≠e->h.get? b=some u->h'.get? b=some u)(heo:∃u,h'.get? e=some u):Un fs ex H (upd H x o) h h':=by
 have hx:∀b,H b=none->b≠x:=fun b n z=>by subst z;rw[n] at mu;exact mu
 have hb:∀b,H b=none->b≠e:=fun b n z=>by
  simp_all
 have hm:∀b u,H b=some u->¬Mut (some u)->b≠x:=fun b u q nm z=>by subst z;rw[q] at mu;exact nm mu
 refine⟨fun b u q n _ _=>k b u (hb b n) q,fun b u q n _ _=>⟨u.slots,k b u (hb b n) q⟩,fun b u q n _=>by rw[aT (hx b n)];exact n,fun b u q _=>?_,
  fun b xs q=>by rw[aT (hm b _ q fun z=>z)];exact q,fun b u xs q=>by rw[aT (hm b _ q fun z=>z)];exact q,fun b ps q=>⟨#[],by rw[aT (hm b _ q fun z=>z),q];simp⟩⟩
 by_cases hbe:b=e
 ·subst hbe;exact heo
 ·exact⟨u,k b u hbe q⟩
end
def trk(h:Heap)(H:Hp):List Addr:=(List.range h.objs.size).filter fun a=>(H a).isSome
def iH(h:Heap)(H:Hp):Heap:=PySem.W.hideAll h (trk h H)
def ua(h:Heap)(H:Hp):(iH h H).objs.size=h.objs.size:=PySem.W.hideAll_size _ _
def uA(e:h.get? b=some o)(n:H b=none):(iH h H).get? b=some o :=
 PySem.W.hideAll_get _ e fun hm=>by
  have q:=(List.mem_filter.mp hm).2;rw[n] at q;simp at q
def of_hidT(e:(iH h H).get? b=some o):h.get? b=some o/\H b=none:=by
 have e':=PySem.W.of_hideAll (trk h H) e;refine⟨e',?_⟩
 cases q:H b with
 | none=>rfl
 | some x =>
  have hm:b∈trk h H:=List.mem_filter.mpr ⟨qbM.mpr (qam e'),by simp[q]⟩;have z:(iH h H).get? b=none:=PySem.W.hideAll_none (trk h H) hm;rw[z] at e;cases e
structure Mod (K:qaa) (mg:Str->Option Value) (base:Heap):Prop where
 kin:K.In base
 glob:base.Ns mainGlobals mg
 blt:∃mb,base.Ns builtinsNs mb/\∀x:Str,x≠"__name__"->mb x=bootBuiltins x
 nolimit:base.NoLimit
 seer:base.NoSeer
structure Cx where
 prog:Program
 w:World
 K:qaa
 mg:Str->Option Value
 base:Heap
 A:Around
 N:List Str
 s₀:Shared
 H₀:Hp
 env:Env
 outer:List Env
 stack:List Env
 ex:List Addr
 fn:Str->Bool
 calm:Bool
 pn:List (Addr × Obj)
 xe:Value->Shared->Prop
def frs(l:List Env):List Addr:=l.filterMap (·.frame)
abbrev Cx.fs(X:Cx):List Addr:=frs X.outer
def Vis(sc:Scope)(x:Str):Prop:=sc.names.lookup x=some .local\/sc.names.lookup x=some .cell\/sc.names.lookup x=some .free
def Loc(sc:Scope)(x:Str):Prop:=sc.names.lookup x=some .local\/sc.names.lookup x=some .cell
def Look(env:Env)(h:Heap)(m:Str->Option Value)(x:Str)(u:Value):Prop :=
 (env.kindOf x=some .local/\m x=some u)\/((env.kindOf x=some .cell\/env.kindOf x=some .free)/\∃c,env.cells.lookup x=some c/\h.IsCell c (some u))
structure Cx.Ok (X:Cx):Prop where
 mod:Mod X.K X.mg X.base
 kind:X.env.scope.kind=.function
 glob:X.env.globals=mainGlobals
 blt:X.env.builtins=builtinsNs
 above:X.s₀.heap.objs.size<=X.env.locals
 inj:∀x y c,X.env.cells.lookup x=some c->X.env.cells.lookup y=some c->x=y
 has:∀x,(X.env.kindOf x=some .cell\/X.env.kindOf x=some .free)->∃c,X.env.cells.lookup x=some c
 cab:∀x c,X.fn x=true->X.env.cells.lookup x=some c->X.s₀.heap.objs.size<=c
 hd:X.calm=true->X.A.handled=none
 frames:X.A.frames=some X.stack
 stk:X.stack=X.outer\/(X.stack=X.env::X.outer/\X.env.frame=some X.env.locals)
 exf:∀b∈X.ex,b≠X.env.locals/\∀x c,X.env.cells.lookup x=some c->c≠b
 bs:∀b o,X.base.get? b=some o->X.s₀.heap.get? b=some o/\X.H₀ b=none
 bsz:X.base.objs.size<=X.s₀.heap.objs.size
 noex:∀b o,X.base.get? b=some o->b∉X.ex
 exfs:∀b∈X.ex,b∉X.fs
 funs:X.s₀.heap.FunFrames X.base X.outer
 frf:∀b∈X.fs,X.H₀ b=none
 tree:X.prog.given.tree=none
 top:∃e l,X.stack=e::l/\e.scope.isGenerator=false/\e.scope.isCoroutine=false/\e.builtins=builtinsNs/\e.globals=mainGlobals
structure Inv (X:Cx) (FA:List (Addr × Obj)) (σ:List (Option V)) (H:Hp) (s:Shared):Prop where
 ok:X.Ok
 os:s.os=X.s₀.os
 bare:AllBare s.gens
 base:Un X.fs X.ex X.H₀ H X.s₀.heap s.heap
 loc:∃m,s.heap.Ns X.env.locals m/\∀(i:Nat) (x:Str) (v:V),X.N[i]?=some x->σ[i]?=some (some v)->Vis X.env.scope x->∃u,aM v u/\Look X.env s.heap m x u
 cell:∀x c,X.env.cells.lookup x=some c->∃v,s.heap.IsCell c v
 free:H X.env.locals=none
 freeC:∀x c,X.env.cells.lookup x=some c->H c=none
 pin:∀p∈X.pn++FA,s.heap.get? p.1=some p.2/\H p.1=none/\p.1≠X.env.locals/\p.1∉X.fs/\∀v,p.2.data≠.cell v
 hok:HOk X.prog X.w H s.heap
 len:σ.length=X.N.length
section
variable {X:Cx} {FA:List (Addr × Obj)} {σ:List (Option V)} {H H':Hp} {s:Shared} {h':Heap}
def Cx.Ok.nofr(ok:X.Ok)(e:X.base.get? b=some o):b∉X.fs:=fun hb=>by
 have:=(ok.funs.mem hb).1
 rw[e] at this;cases this
def Inv.bs(I:Inv X FA σ H s):∀b o,X.base.get? b=some o->s.heap.get? b=some o/\H b=none:=fun b o e =>
 ⟨I.base.keep b o (I.ok.bs b o e).1 (I.ok.bs b o e).2 (I.ok.nofr e) (I.ok.noex b o e),I.base.free b o (I.ok.bs b o e).1 (I.ok.bs b o e).2 (I.ok.noex b o e)⟩
def Inv.bk(I:Inv X FA σ H s):∀b o,X.base.get? b=some o->s.heap.get? b=some o:=fun b o e=>(I.bs b o e).1
def Inv.mod(I:Inv X FA σ H s):Mod X.K X.mg X.base:=I.ok.mod
def Inv.kIn(I:Inv X FA σ H s):X.K.In s.heap:=I.ok.mod.kin.keeps I.bk
def Inv.nolimit(I:Inv X FA σ H s):s.heap.NoLimit:=I.ok.mod.nolimit.keeps I.bk
def Inv.lt(I:Inv X FA σ H s):X.env.locals<s.heap.objs.size:=let ⟨_,hn,_⟩:=I.loc;hn.lt
def Inv.sz(I:Inv X FA σ H s):X.s₀.heap.objs.size<=s.heap.objs.size:=qav I.ok.above (qbu I.lt)
def Inv.nofs(I:Inv X FA σ H s){a:Addr}(h:s.heap.objs.size<=a):a∉X.fs:=fun hb=>by
 obtain⟨_,o,ho,_⟩:=I.ok.funs.mem hb;exact absurd (qas (qam ho) (qav I.sz h)) (qaI _)
def Inv.cne(I:Inv X FA σ H s):∀x c,X.env.cells.lookup x=some c->c≠X.env.locals:=fun x c e z=>by
 obtain⟨v,o,ho,hd⟩:=I.cell x c e;obtain⟨m,⟨o',es,ep,ho',hd',_⟩,_⟩:=I.loc;rw[z,ho'] at ho;cases ho;rw[hd'] at hd;cases hd
def Inv.funs(I:Inv X FA σ H s):s.heap.FunFrames X.base X.outer:=by
 have all:∀(l:List Env),(∀b∈frs l,b∈X.fs)->X.s₀.heap.FunFrames X.base l->s.heap.FunFrames X.base l:=by
  intro l
  induction l with
  | nil=>intro _ _;trivial
  | cons env r ih =>
   intro hs hl;obtain⟨hk,⟨L,o,hf,hn,ho,hd⟩,hr⟩:=hl;have hL:=hs L (by unfold frs;rw[qbf,hf];exact qaC);obtain⟨sl,e⟩:=I.base.slot L o ho (I.ok.frf L hL) hL fun z=>I.ok.exfs L z hL;exact⟨hk,⟨L,_,hf,hn,e,hd⟩,ih (fun b hb=>hs b (by unfold frs;rw[qbf,hf];exact qab _ hb)) hr⟩
 exact all X.outer (fun _ hb=>hb) I.ok.funs
def Inv.stack(I:Inv X FA σ H s):s.heap.FunFrames X.base X.stack:=by
 rcases I.ok.stk with e|⟨e,hf⟩
 ·rw[e];exact I.funs
 ·rw[e];obtain⟨m,hn,_⟩:=I.loc;refine .cons (by rw[I.ok.kind];decide) hf hn ?_ I.funs;exact Heap.get?_none_of_le (qav I.ok.bsz I.ok.above)
def Inv.stkSub(I:Inv X FA σ H s):∀b∈frs X.stack,b∈X.env.locals::X.fs:=fun b hb=>by
 rcases I.ok.stk with e|⟨e,hf⟩
 ·rw[e] at hb;exact qab _ hb
 ·rw[e] at hb;unfold frs at hb;rw[qbf,hf] at hb;exact hb
def Inv.stkFree(I:Inv X FA σ H s):∀b∈frs X.stack,H b=none:=fun b hb=>by
 rcases qag.mp (I.stkSub b hb) with e|hb
 ·rw[e];exact I.free
 ·obtain⟨_,o,ho,_⟩:=I.ok.funs.mem hb;exact I.base.free b o ho (I.ok.frf b hb) fun z=>I.ok.exfs b z hb
def Inv.step{g':Array GenState}{t':Nat}{d':Drawn}{ch:List Addr}(I:Inv X FA σ H s)
  (hch:∀b∈ch,(b∈X.ex\/X.s₀.heap.objs.size<=b)/\b≠X.env.locals/\(∀x c,X.env.cells.lookup x=some c->c≠b)/\∀p∈X.pn++FA,p.1≠b)
  (keep:∀b o,b≠X.env.locals->b∉X.fs->b∉ch->s.heap.get? b=some o->H b=none->h'.get? b=some o)
  (slot:∀b o,b≠X.env.locals->b∈X.fs->b∉ch->s.heap.get? b=some o->H b=none->∃sl,h'.get? b=some { o with slots:=sl}) (free:∀b o,b∉ch->s.heap.get? b=some o->H b=none->H' b=none)
  (there:∀b o,b∉ch->s.heap.get? b=some o->∃o',h'.get? b=some o')
  (tups:∀b xs,H b=some (.tup xs)->H' b=some (.tup xs)) (frzs:∀b o u,H b=some (.frz o u)->H' b=some (.frz o u)) (tbls:∀b ps,H b=some (.tbl ps)->∃more,H' b=some (.tbl (ps++more)))
  (ns:∀m,s.heap.Ns X.env.locals m->h'.Ns X.env.locals m) (hok:HOk X.prog X.w H' h') (hg:AllBare g') :
  Inv X FA σ H' { s with heap:=h',gens:=g',drawn:=d',toks:=t'}:=by
 have neL:∀b o,X.s₀.heap.get? b=some o->b≠X.env.locals:=fun b o e=>qaH (qas (qam e) I.ok.above);have neC:∀b o,X.s₀.heap.get? b=some o->b∉X.ex->b∉ch:=fun b o e hx hb=>by
  rcases (hch b hb).1 with z|z
  ·exact hx z
  ·exact absurd (qas (qam e) z) (qaI _)
 have cellK:∀x c,X.env.cells.lookup x=some c->∀v,s.heap.IsCell c v->h'.IsCell c v:=fun x c e v ⟨o,ho,hd⟩=>by
  have nch:c∉ch:=fun z=>(hch c z).2.2.1 x c e rfl;by_cases hc:c∈X.fs
  ·obtain⟨sl,q⟩:=slot c o (I.cne x c e) hc nch ho (I.freeC x c e);exact⟨_,q,hd⟩
  ·exact⟨o,keep c o (I.cne x c e) hc nch ho (I.freeC x c e),hd⟩
 refine⟨I.ok,I.os,hg,⟨fun b o e n hb hx=>?_,fun b o e n hb hx=>?_,fun b o e n hx=>?_,fun b o e hx=>?_,fun b xs e=>tups b xs (I.base.tups b xs e),fun b o xs e=>frzs b o xs (I.base.frzs b o xs e),fun b ps e=>?_⟩,?_,fun x c e=>?_,?_,fun x c e=>?_,fun p hp=>?_,hok,I.len⟩
 ·exact keep b o (neL b o e) hb (neC b o e hx) (I.base.keep b o e n hb hx) (I.base.free b o e n hx)
 ·obtain⟨sl,e1⟩:=I.base.slot b o e n hb hx;obtain⟨sl',e2⟩:=slot b _ (neL b o e) hb (neC b o e hx) e1 (I.base.free b o e n hx);exact⟨sl',e2⟩
 ·obtain⟨o',e1⟩:=I.base.there b o e hx;exact free b o' (neC b o e hx) e1 (I.base.free b o e n hx)
 ·obtain⟨o',e1⟩:=I.base.there b o e hx;exact there b o' (neC b o e hx) e1
 ·obtain⟨m1,e1⟩:=I.base.tbls b ps e;obtain⟨m2,e2⟩:=tbls b _ e1;exact⟨m1++m2,by rw[e2,Array.append_assoc]⟩
 ·obtain⟨m,hn,hl⟩:=I.loc;refine⟨m,ns m hn,fun i x v e1 e2 e3=>?_⟩;obtain⟨u,r,l⟩:=hl i x v e1 e2 e3;refine⟨u,r,?_⟩;rcases l with l|⟨k,c,e,z⟩
  ·exact .inl l
  ·exact .inr ⟨k,c,e,cellK x c e _ z⟩
 ·obtain⟨v,z⟩:=I.cell x c e;exact⟨v,cellK x c e v z⟩
 ·obtain⟨m,⟨o,_,_,ho,_⟩,_⟩:=I.loc;exact free _ o (fun z=>(hch _ z).2.1 rfl) ho I.free
 ·obtain⟨v,o,ho,hd⟩:=I.cell x c e;exact free c o (fun z=>(hch c z).2.2.1 x c e rfl) ho (I.freeC x c e)
 ·obtain⟨e,n,ne,nf,d⟩:=I.pin p hp;have nch:p.1∉ch:=fun z=>(hch p.1 z).2.2.2 p hp rfl;exact⟨keep p.1 p.2 ne nf nch e n,free p.1 p.2 nch e n,ne,nf,d⟩
def Inv.un{t':Nat}(I:Inv X FA σ H s)(u:Un X.fs [] H H' s.heap h')(hok:HOk X.prog X.w H' h'):Inv X FA σ H' { s with heap:=h',toks:=t'}:=by
 obtain⟨m,⟨o,es,ep,ho,r⟩,_⟩:=id I.loc;obtain⟨sl,hL⟩:=u.any ho I.free (by simp)
 exact I.step (g':=s.gens) (d':=s.drawn) (ch:=[]) (fun _ z=>nomatch z) (fun b o _ hb _ e n=>u.keep b o e n hb (by simp)) (fun b o _ hb _ e n=>u.slot b o e n hb (by simp)) (fun b o _ e n=>u.free b o e n (by simp)) (fun b o _ e=>u.there b o e (by simp)) u.tups u.frzs u.tbls (fun m' hm=>by
  obtain⟨o',es',ep',ho',r'⟩:=hm;rw[ho] at ho';cases ho'
  exact⟨_,es',ep',hL,r'⟩) hok I.bare
def Inv.call{g':Array GenState}{t':Nat}{d':Drawn}{ch:List Addr}(I:Inv X FA σ H s)(u:Un (frs X.stack) ch H H' s.heap h')(hok:HOk X.prog X.w H' h')(hg:AllBare g')
  (hch:∀b∈ch,(b∈X.ex\/X.s₀.heap.objs.size<=b)/\b≠X.env.locals/\(∀x c,X.env.cells.lookup x=some c->c≠b)/\∀p∈X.pn++FA,p.1≠b) :
  Inv X FA σ H' { s with heap:=h',gens:=g',drawn:=d',toks:=t'}:=by
 obtain⟨m,⟨o,es,ep,ho,r⟩,_⟩:=id I.loc;obtain⟨sl,hL⟩:=u.any ho I.free fun z=>(hch _ z).2.1 rfl
 exact I.step hch (fun b o hL hb hc e n=>u.keep b o e n (fun z=>(qag.mp (I.stkSub b z)).elim hL hb) hc) (fun b o _ _ hc e n=>u.any e n hc) (fun b o hc e n=>u.free b o e n hc) (fun b o hc e=>u.there b o e hc) u.tups u.frzs u.tbls (fun m' hm=>by
  obtain⟨o',es',ep',ho',r'⟩:=hm;rw[ho] at ho';cases ho'
  exact⟨_,es',ep',hL,r'⟩) hok hg
def Inv.turned{t':Nat}{it:Addr}(I:Inv X FA σ H s)(k:∀b o,b≠it->s.heap.get? b=some o->h'.get? b=some o)(hn:H it=none)(hL:it≠X.env.locals)
  (h1:it∈X.ex\/X.s₀.heap.objs.size<=it) (h2:∀x c,X.env.cells.lookup x=some c->c≠it) (h3:∀p∈X.pn++FA,p.1≠it):Inv X FA σ H { s with heap:=h',toks:=t'}:=by
 have nit:∀b u,H b=some u->b≠it:=fun b u e z=>by rw[z,hn] at e;cases e
 refine I.step (g':=s.gens) (d':=s.drawn) (ch:=[it]) (fun b hb=>?_) (fun b o _ _ hc e _=>k b o (fun z=>hc (by simp[z])) e) (fun b o _ _ hc e _=>⟨o.slots,k b o (fun z=>hc (by simp[z])) e⟩) (fun _ _ _ _ n=>n)
  (fun b o hc e=>⟨o,k b o (fun z=>hc (by simp[z])) e⟩) (fun _ _ e=>e) (fun _ _ _ e=>e) (fun b ps e=>⟨#[],by rw[e];simp⟩) (fun m hm=>?_) (fun b u e=>?_) I.bare
 ·have e:b=it:=by simpa using hb
  subst e;exact⟨h1,hL,h2,h3⟩
 ·obtain⟨o,es,ep,ho,r⟩:=hm;exact⟨o,es,ep,k _ o (Ne.symm hL) ho,r⟩
 ·refine (I.hok b u e).stay (fun c v hc q=>k c v ?_ q) (fun _ q=>q) fun _ _ q=>q;rcases hc with z|z
  ·rw[z];exact nit b u e
  ·exact nit c _ z
def Inv.tok(I:Inv X FA σ H s)(t:Nat):Inv X FA σ H { s with toks:=t}:=I.un (h':=s.heap) (t':=t) Un.refl I.hok
def Inv.kept(I:Inv X FA σ H s)(k:∀b u,s.heap.get? b=some u->h'.get? b=some u):Inv X FA σ H { s with heap:=h',toks:=t'}:=I.un (Un.kept k) (I.hok.kept k)
def Inv.laid{a:Addr}{o:HO}{t':Nat}(I:Inv X FA σ H s)(k:∀b u,s.heap.get? b=some u->h'.get? b=some u)(hp:s.heap.objs.size<=a)(new:ObjOk X.prog X.w (upd H a o) h' a o) :
  Inv X FA σ (upd H a o) { s with heap:=h',toks:=t'}:=I.un (Un.laid k hp (I.hok.fresh hp)) (I.hok.laid k hp new)
def Inv.write(I:Inv X FA σ H s)(mu:Mut (H x))(he:e=x\/H e=some (.own x))(k:∀b u,b≠e->s.heap.get? b=some u->h'.get? b=some u)(heo:∃u,h'.get? e=some u)
  (new:ObjOk X.prog X.w (upd H x o) h' x o):Inv X FA σ (upd H x o) { s with heap:=h',toks:=t'}:=I.un (Un.write mu he k heo) (I.hok.write mu he k heo new)
def Inv.pins_of(I:Inv X FA σ H s)(h:∀p∈pins',s.heap.get? p.1=some p.2/\H p.1=none/\p.1≠X.env.locals/\p.1∉X.fs/\∀v,p.2.data≠.cell v):Inv X pins' σ H s :=
 ⟨I.ok,I.os,I.bare,I.base,I.loc,I.cell,I.free,I.freeC,fun p hp=>(qaL.mp hp).elim (fun z=>I.pin p (qaY _ z)) (h p),I.hok,I.len⟩
def pH{N:List Str}(hN:N.Nodup){i j:Nat}{x:Str}(a:N[i]?=some x)(b:N[j]?=some x):i=j:=by
 obtain⟨h1,e1⟩:=qaf.mp a;obtain⟨h2,e2⟩:=qaf.mp b;exact (List.getElem_inj hN).mp (e1.trans e2.symm)
def tH{M:Model}{A:Around}{E:Value->Shared->Prop}{i:Nat}{x:Str}{v:V}{u:Value}{Q:Unit->Shared->Prop}(I:Inv X FA σ H s)(hN:X.N.Nodup)(hi:X.N[i]?=some x)(hx:Loc X.env.scope x)(r:aM v u)
  (h:∀s',Inv X FA (σ.set i (some v)) H s'->(∃a,Heap.SameBut a s.heap s'.heap/\(a=X.env.locals\/X.env.cells.lookup x=some a))->Q () s') (hf:X.fn x=true\/X.env.scope.names.lookup x=some .local:=by first | exact .inl rfl | exact .inr rfl | assumption):wpAny M A (storeName X.env x u) Q E s:=by
 obtain⟨m,hn,hl⟩:=id I.loc;have hcls:(X.env.scope.kind == .class || (X.env.scope.kind == .module && X.env.locals != X.env.globals))=false:=by rw[I.ok.kind];rfl
 have hiσ:i<σ.length:=by rw[I.len];exact (qaf.mp hi).1
 have cne:=I.cne;have tracked:∀{a:Addr} {h':Heap},(∃o,s.heap.get? a=some o/\H a=none)->Heap.SameBut a s.heap h'->HOk X.prog X.w H h':=fun {a h'} ha hs b ob e=>by
  obtain⟨_,_,hfree⟩:=ha;refine (I.hok b ob e).stay (fun c w' hc q=>(hs.2 c ?_).trans q) (fun _ q=>q) fun _ _ q=>q;rintro rfl;rcases hc with rfl|hc
  ·rw[hfree] at e;cases e
  ·rw[hfree] at hc;cases hc
 rcases hx with hk|hk
 ·refine wpAny_storeName_local hk hn (fun h' hn' hs=>?_) hcls;obtain⟨oL,_,_,hoL,_⟩:=id hn;refine h _ ⟨I.ok,I.os,I.bare,⟨fun b o e n hb hx=>?_,fun b o e n hb hx=>?_,I.base.free,fun b o e hx=>?_,I.base.tups,I.base.frzs,I.base.tbls⟩,⟨_,hn',fun j y v' e1 e2 e3=>?_⟩,fun y c e=>?_,I.free,I.freeC,fun p hp=>?_,tracked ⟨oL,hoL,I.free⟩ hs,by simpa using I.len⟩ ⟨_,hs,.inl rfl⟩
  ·exact (hs.2 b (qaH (qas (qam e) I.ok.above))).trans (I.base.keep b o e n hb hx)
  ·obtain⟨sl,e1⟩:=I.base.slot b o e n hb hx;exact⟨sl,(hs.2 b (qaH (qas (qam e) I.ok.above))).trans e1⟩
  ·obtain⟨o',e1⟩:=I.base.there b o e hx;exact⟨o',(hs.2 b (qaH (qas (qam e) I.ok.above))).trans e1⟩
  ·by_cases hj:j=i
   ·subst hj;rw[hi] at e1;cases e1;rw[qax hiσ] at e2;cases e2;exact⟨u,r,.inl ⟨hk,by simp⟩⟩
   ·rw[qah (Ne.symm hj)] at e2;obtain⟨u',r',q⟩:=hl j y v' e1 e2 e3;refine⟨u',r',?_⟩;rcases q with ⟨k,e⟩|⟨k,c,e,z⟩
    ·refine .inl ⟨k,?_⟩
     have:y≠x:=fun e=>hj (pH hN e1 (e▸hi))
     simp[this,e]
    ·exact .inr ⟨k,c,e,z.sameBut hs (cne y c e)⟩
  ·obtain⟨w',z⟩:=I.cell y c e;exact⟨w',z.sameBut hs (cne y c e)⟩
  ·obtain⟨e,n,ne,nf,d⟩:=I.pin p hp;exact⟨(hs.2 p.1 ne).trans e,n,ne,nf,d⟩
 ·have hfn:X.fn x=true:=by
   rcases hf with z|z
   ·exact z
   ·rw[z] at hk;cases hk
  obtain⟨c,hc⟩:=I.ok.has x (.inl hk);obtain⟨w',z⟩:=I.cell x c hc;refine wpAny_storeName_cell I.ok.kind hk hc z (fun h' hc' hs=>?_);obtain⟨oc,hoc,hocd⟩:=id z;refine h { s with heap:=h'} ⟨I.ok,I.os,I.bare,⟨fun b o e n hb hx=>?_,fun b o e n hb hx=>?_,I.base.free,fun b o e hx=>?_,I.base.tups,I.base.frzs,I.base.tbls⟩,⟨m,hn.sameBut hs (Ne.symm (cne x c hc)),fun j y v' e1 e2 e3=>?_⟩,fun y c' e=>?_,I.free,I.freeC,fun p hp=>?_,tracked ⟨oc,hoc,I.freeC x c hc⟩ hs,by simpa using I.len⟩ ⟨c,hs,.inr hc⟩
  ·exact (hs.2 b (qaH (qas (qam e) (I.ok.cab x c hfn hc)))).trans (I.base.keep b o e n hb hx)
  ·obtain⟨sl,e1⟩:=I.base.slot b o e n hb hx;exact⟨sl,(hs.2 b (qaH (qas (qam e) (I.ok.cab x c hfn hc)))).trans e1⟩
  ·obtain⟨o',e1⟩:=I.base.there b o e hx;exact⟨o',(hs.2 b (qaH (qas (qam e) (I.ok.cab x c hfn hc)))).trans e1⟩
  ·by_cases hj:j=i
   ·subst hj;rw[hi] at e1;cases e1;rw[qax hiσ] at e2;cases e2;exact⟨u,r,.inr ⟨.inl hk,c,hc,hc'⟩⟩
   ·rw[qah (Ne.symm hj)] at e2;obtain⟨u',r',q⟩:=hl j y v' e1 e2 e3;refine⟨u',r',?_⟩;rcases q with q|⟨k,c',e,z'⟩
    ·exact .inl q
    ·refine .inr ⟨k,c',e,z'.sameBut hs ?_⟩;rintro rfl;exact hj (pH hN e1 (I.ok.inj _ _ _ e hc▸hi))
  ·by_cases hcc:c'=c
   ·subst hcc;exact⟨_,hc'⟩
   ·obtain⟨w2,z2⟩:=I.cell y c' e;exact⟨w2,z2.sameBut hs hcc⟩
  ·obtain⟨e,n,ne,nf,d⟩:=I.pin p hp;refine⟨(hs.2 p.1 ?_).trans e,n,ne,nf,d⟩;intro q;rw[q,hoc] at e;have q':oc=p.2:=Option.some.inj e;exact d w' (by rw[<-q'];exact hocd)
def iK(I:Inv X FA σ H s)(hN:X.N.Nodup)(hi:X.N[i]?=some x)(hx:Loc X.env.scope x)(r:aM v u)
  (h:∀s',Inv X FA (σ.set i (some v)) H s'->Q () s') (hf:X.fn x=true\/X.env.scope.names.lookup x=some .local:=by first | exact .inl rfl | exact .inr rfl | assumption):wpAny M A (storeName X.env x u) Q E s :=
 tH I hN hi hx r (fun s' I' _=>h s' I') hf
def Inv.call'(I:Inv X FA σ H s)(ho:s'.os=s.os)(u:Un (frs X.stack) ch H H' s.heap s'.heap)(hok:HOk X.prog X.w H' s'.heap)(hg:AllBare s'.gens)
  (hch:∀b∈ch,(b∈X.ex\/X.s₀.heap.objs.size<=b)/\b≠X.env.locals/\(∀x c,X.env.cells.lookup x=some c->c≠b)/\∀p∈X.pn++FA,p.1≠b):Inv X FA σ H' s':=by
 obtain⟨h',g',d',t',o'⟩:=s';have e:=ho;subst e;exact I.call (g':=g') (t':=t') (d':=d') u hok hg hch
end
abbrev XK:=Value->Option Addr->Hp->Prop
abbrev St:=List (Option V)
abbrev VK:=V->Hp->Prop
abbrev TE:=St->Hp->VK->Prop
abbrev TT:=St->Hp->(Bool->Hp->Prop)->Prop
abbrev TA:=St->Hp->(List V->Hp->Prop)->Prop
structure Ends where
 nx:St->Hp->Prop
 rt:VK
 bk:St->Hp->Prop:=fun _ _=>False
 ct:St->Hp->Prop:=fun _ _=>False
abbrev TS:=Ends->St->Hp->Prop
inductive EP (X:Cx) (FA:List (Addr × Obj)) (σ:St) (Q:VK) (u:Value) (s':Shared):Prop
 | mk (v:V) (H':Hp) (i:Inv X FA σ H' s') (r:aM v u) (q:Q v H'):EP X FA σ Q u s'
inductive TP (X:Cx) (FA:List (Addr × Obj)) (σ:St) (Q:Bool->Hp->Prop) (b:Bool) (s':Shared):Prop
 | mk (H':Hp) (i:Inv X FA σ H' s') (q:Q b H'):TP X FA σ Q b s'
inductive AP (X:Cx) (FA:List (Addr × Obj)) (σ:St) (Q:List V->Hp->Prop) (us:List Value) (s':Shared):Prop
 | mk (vs:List V) (H':Hp) (i:Inv X FA σ H' s') (r:aA vs us) (q:Q vs H'):AP X FA σ Q us s'
inductive SN (X:Cx) (FA:List (Addr × Obj)) (Q:St->Hp->Prop) (s':Shared):Prop
 | mk (σ':St) (H':Hp) (i:Inv X FA σ' H' s') (q:Q σ' H'):SN X FA Q s'
inductive SR (X:Cx) (FA:List (Addr × Obj)) (Q:VK) (u:Value) (s':Shared):Prop
 | mk (v:V) (σ':St) (H':Hp) (i:Inv X FA σ' H' s') (r:aM v u) (q:Q v H'):SR X FA Q u s'
def SP(X:Cx)(FA:List (Addr × Obj))(D:Ends)(f:Flow)(s':Shared):Prop :=
 match f with
 | .next=>SN X FA D.nx s'
 | .brk=>SN X FA D.bk s'
 | .cont=>SN X FA D.ct s'
 | .ret u=>SR X FA D.rt u s'
def PE(X:Cx)(e:Expr)(t:TE):Prop :=
 ∀(FA:List (Addr × Obj)) (s:Shared) (σ:St) (H:Hp) (Q:VK),Inv X FA σ H s->t σ H Q->wpAny (model X.prog X.w) X.A (eval e X.env) (EP X FA σ Q) X.xe s
def PT(X:Cx)(e:Expr)(t:TT):Prop :=
 ∀(FA:List (Addr × Obj)) (s:Shared) (σ:St) (H:Hp) (Q:Bool->Hp->Prop),Inv X FA σ H s->t σ H Q->wpAny (model X.prog X.w) X.A (isTrue e X.env (eval e X.env)) (TP X FA σ Q) X.xe s
def PW(X:Cx)(e:Expr)(t:TT):Prop :=
 ∀(whole:Sem Value) (FA:List (Addr × Obj)) (s:Shared) (σ:St) (H:Hp) (Q:Bool->Hp->Prop),Inv X FA σ H s->t σ H Q->wpAny (model X.prog X.w) X.A (isTrue e X.env whole) (TP X FA σ Q) X.xe s
def PW.pt(h:PW X e t):PT X e t:=h _
def PA(X:Cx)(es:List Expr)(t:TA):Prop :=
 ∀(pos:Pos) (FA:List (Addr × Obj)) (s:Shared) (σ:St) (H:Hp) (Q:List V->Hp->Prop),Inv X FA σ H s->t σ H Q->wpAny (model X.prog X.w) X.A (spliced (backTo pos (starEach es X.env))) (AP X FA σ Q) X.xe s
def PS(X:Cx)(st:Stmt)(t:TS):Prop :=
 ∀(FA:List (Addr × Obj)) (s:Shared) (σ:St) (H:Hp) (D:Ends),Inv X FA σ H s->t D σ H->wpAny (model X.prog X.w) X.A (exec st X.env) (SP X FA D) X.xe s
def PSs(X:Cx)(st:List Stmt)(t:TS):Prop :=
 ∀(FA:List (Addr × Obj)) (s:Shared) (σ:St) (H:Hp) (D:Ends),Inv X FA σ H s->t D σ H->wpAny (model X.prog X.w) X.A (execs st X.env) (SP X FA D) X.xe s
def thn(h:wpAny M A t Q E s)(hQ:∀a s,Q a s->Q' a s):wpAny M A t Q' E s:=wpAny_mono h hQ fun _ _ x=>x
section
variable {X:Cx}
def tVar(i:Nat):TE:=fun σ H Q=>∃v,σ[i]?=some (some v)/\Q v H
def tC(v:V):TE:=fun _ H Q=>Q v H
def pe_var{i:Nat}{x:Str}{pos:Pos}(hN:X.N[i]?=some x)(hv:Vis X.env.scope x)(hd:(x == ("__debug__":Str))=false:=by decide)(hcd:(x == ("__classdict__":Str))=false:=by decide):PE X (.Name x pos) (tVar i):=by
 intro FA s σ H Q I h;obtain⟨v,e,h⟩:=h;obtain⟨m,hn,hl⟩:=I.loc;obtain⟨u,r,l⟩:=hl i x v hN e hv;have fin:EP X FA σ Q u s:=⟨v,H,I,r,h⟩;rcases l with ⟨hk,hm⟩|⟨hk,c,hc,hcell⟩
 ·exact wpAny_Name (wpAny_loadName_local I.ok.kind hk hn hm fin) hd
 ·rcases hk with hk|hk
  ·exact wpAny_Name (wpAny_loadName_cell I.ok.kind hk hc hcell fin) hd
  ·exact wpAny_Name (wpAny_loadName_free I.ok.kind hk hc hcell fin hcd) hd
def pe_int{i j pos}:PE X (.Constant (.int i) j pos) (tC (.int i)):=fun _ _ _ H _ I h=>wpAny_Constant_int ⟨.int i,H,I.tok _,⟨_,rfl⟩,h⟩
def pe_bl{b j pos}:PE X (.Constant (.bool b) j pos) (tC (.bl b)):=fun _ _ _ H _ I h=>Constant_bool ⟨.bl b,H,I,rfl,h⟩
def pe_non{j pos}:PE X (.Constant .none j pos) (tC .non):=fun _ _ _ H _ I h=>Constant_none ⟨.non,H,I,rfl,h⟩
def pe_str{x j pos}:PE X (.Constant (.str x) j pos) (tC (.str x)):=fun _ _ _ H _ I h=>Calls.Constant_str ⟨.str x,H,I.tok _,⟨_,rfl⟩,h⟩
def Gl(X:Cx)(x:Str):Prop:=X.env.kindOf x=some .globalImplicit
def qv{E:Value->Shared->Prop}{FA:List (Addr × Obj)}{s:Shared}{σ:St}{H:Hp}{x:Str}{u:Value}{pos:Pos}{Q:Value->Shared->Prop}(I:Inv X FA σ H s)(hg:Gl X x)(hm:X.mg x=some u)(h:Q u s)
  (hd:(x == ("__debug__":Str))=false:=by decide):wpAny (model X.prog X.w) X.A (eval (.Name x pos) X.env) Q E s :=
 Calls.Name_function_global I.ok.kind hg (Calls.loadGlobal_global (by rw[I.ok.glob];exact I.mod.glob.keeps I.bk) hm h) hd
def i8{E:Value->Shared->Prop}{FA:List (Addr × Obj)}{s:Shared}{σ:St}{H:Hp}{x:Str}{u:Value}{pos:Pos}{Q:Value->Shared->Prop}(I:Inv X FA σ H s)(hg:Gl X x)(hm:X.mg x=none)(hv:bootBuiltins x=some u)(h:Q u s)
  (hn:x≠"__name__":=by decide) (hd:(x == ("__debug__":Str))=false:=by decide):wpAny (model X.prog X.w) X.A (eval (.Name x pos) X.env) Q E s:=by
 obtain⟨mb,h1,h2⟩:=I.mod.blt;exact Calls.Name_function_global I.ok.kind hg (Calls.loadGlobal_builtin (by rw[I.ok.glob];exact I.mod.glob.keeps I.bk) hm (by rw[I.ok.blt];exact h1.keeps I.bk) ((h2 x hn).trans hv) h) hd
def lE(hg:Gl X x)(hm:X.mg x=some u)(r:aM v u)(hd:(x == ("__debug__":Str))=false:=by decide):PE X (.Name x pos) (tC v) :=
 fun _ _ _ H _ I h=>qv I hg hm ⟨v,H,I,r,h⟩ hd
def pe_bltn{x:Str}{v:V}{u:Value}{pos:Pos}(hg:Gl X x)(hm:X.mg x=none)(hv:bootBuiltins x=some u)(r:aM v u)(hn:x≠"__name__":=by decide)(hd:(x == ("__debug__":Str))=false:=by decide):PE X (.Name x pos) (tC v) :=
 fun _ _ _ H _ I h=>i8 I hg hm hv ⟨v,H,I,r,h⟩ hn hd
variable {a b:Expr} {ta tb:TE} {pos:Pos}
def tB(t:TE):TT:=fun σ H Q=>t σ H fun x H1=>∃c,x=.bl c/\Q c H1
def pt_val(h:PE X e t)(he:∀whole,isTrue e X.env whole=(do let v <-whole;standAt e.pos;holding [v] (truthy v)):=by intro _;rfl):PT X e (tB t):=by
 intro FA s σ H Q I hw;refine isTrue_plain (thn (h FA s σ H _ I hw) fun v s1 ⟨x,H1,I1,r1,q1⟩=>?_) (he _);obtain⟨d,rfl,q⟩:=q1;cases r1;exact wpAny_truthy_bool ⟨H1,I1,q⟩
variable {tA tB':TT} {rest:List Expr}
def tAnd(t u:TT):TT:=fun σ H Q=>t σ H fun c H1=>if c=true then u σ H1 Q else Q false H1
def tOr(t u:TT):TT:=fun σ H Q=>t σ H fun c H1=>if c=true then Q true H1 else u σ H1 Q
def tNot(t:TT):TT:=fun σ H Q=>t σ H fun c H1=>Q (!c) H1
def pw_and1(ha:PT X a tA):PW X (.BoolOp .And [a] pos) tA:=by
 intro wh FA s σ H Q I h;refine isTrue_and (thn (ha FA s σ H Q I h) fun c s1 e=>?_)
 cases c with
 | true=>exact isTrue_and_nil e
 | false=>exact e
def pw_or1(ha:PT X a tA):PW X (.BoolOp .Or [a] pos) tA:=by
 intro wh FA s σ H Q I h;refine isTrue_or (thn (ha FA s σ H Q I h) fun c s1 e=>?_)
 cases c with
 | false=>exact isTrue_or_nil e
 | true=>exact e
def pw_and(ha:PT X a tA)(hb:PW X (.BoolOp .And (b::rest) pos) tB'):PW X (.BoolOp .And (a::b::rest) pos) (tAnd tA tB'):=by
 intro wh FA s σ H Q I h;refine isTrue_and (thn (ha FA s σ H _ I h) fun c s1 ⟨H1,I1,q1⟩=>?_)
 cases c with
 | true=>exact hb wh FA s1 σ H1 Q I1 q1
 | false=>exact⟨H1,I1,q1⟩
def pw_or(ha:PT X a tA)(hb:PW X (.BoolOp .Or (b::rest) pos) tB'):PW X (.BoolOp .Or (a::b::rest) pos) (tOr tA tB'):=by
 intro wh FA s σ H Q I h;refine isTrue_or (thn (ha FA s σ H _ I h) fun c s1 ⟨H1,I1,q1⟩=>?_)
 cases c with
 | true=>exact⟨H1,I1,q1⟩
 | false=>exact hb wh FA s1 σ H1 Q I1 q1
def pt_not(ha:PT X a tA):PT X (.UnaryOp .Not a pos) (tNot tA):=by
 intro FA s σ H Q I h;exact isTrue_not (thn (ha FA s σ H (fun c H1=>Q (!c) H1) I h) fun _ _ ⟨H1,I1,q⟩=>⟨H1,I1,q⟩)
def tAndV(ta tb:TE):TE:=fun σ H Q=>ta σ H fun x H1=>∃c,x=.bl c/\if c=true then tb σ H1 Q else Q (.bl false) H1
def tNotV(ta:TE):TE:=fun σ H Q=>ta σ H fun x H1=>∃c,x=.bl c/\Q (.bl (!c)) H1
def pe_one{op}(h:PE X a t):PE X (.BoolOp op [a] pos) t:=fun FA s σ H Q I hw=>BoolOp_one (h FA s σ H Q I hw)
def pe_and(ha:PE X a ta)(hb:PE X (.BoolOp .And (b::rest) pos) tb):PE X (.BoolOp .And (a::b::rest) pos) (tAndV ta tb):=by
 intro FA s σ H Q I h;refine BoolOp_and (thn (ha FA s σ H _ I h) fun v s1 ⟨x,H1,I1,r1,q1⟩=>?_);obtain⟨c,rfl,q1⟩:=q1;cases r1;refine wpAny_truthy_bool ?_
 cases c with
 | true=>exact hb FA s1 σ H1 Q I1 q1
 | false=>exact⟨.bl false,H1,I1,rfl,q1⟩
def pe_not(ha:PE X a ta):PE X (.UnaryOp .Not a pos) (tNotV ta):=by
 intro FA s σ H Q I h;refine UnaryOp_ (thn (ha FA s σ H _ I h) fun v s1 ⟨x,H1,I1,r1,q1⟩=>?_);obtain⟨c,rfl,q1⟩:=q1;cases r1;exact not_of (wpAny_truthy_bool ⟨.bl (!c),H1,I1,rfl,q1⟩)
def tIf(t:TT)(ta tb:TE):TE:=fun σ H Q=>t σ H fun c H1=>if c=true then ta σ H1 Q else tb σ H1 Q
def vF(hc:PT X c tA)(ha:PE X a ta)(hb:PE X b tb):PE X (.IfExp c a b pos) (tIf tA ta tb):=by
 intro FA s σ H Q I h;refine wpAny_IfExp (thn (hc FA s σ H _ I h) fun d s1 ⟨H1,I1,q1⟩=>?_)
 cases d with
 | true=>exact ha FA s1 σ H1 Q I1 q1
 | false=>exact hb FA s1 σ H1 Q I1 q1
end
def SqL(K:qaa)(H:Hp)(a:Addr)(xs:List V):Prop :=
 Rd H a (.lst xs) \/
  ∃(o:Obj) (its:Array Value) (n:Nat),K.lookup a=some o/\o.cls=.type "list"/\o.dict=none/\o.data=.seq its n/\its.size<=sizeLine/\aA xs its.toList
def SqT(K:qaa)(H:Hp)(a:Addr)(xs:List V):Prop :=
 Rd H a (.tup xs) \/
  ∃(o:Obj) (its:Array Value) (n:Nat),K.lookup a=some o/\o.cls=.type "tuple"/\(o.data=.seq its n/\o.dict=none)/\its.size<=sizeLine/\aA xs its.toList
def absV:Value->Option V
 | .none=>some .non
 | .bool b=>some (.bl b)
 | .int i _=>some (.int i)
 | .str x _=>some (.str x)
 | .bytes b _=>some (.byt b)
 | .float b _=>some (.flt b)
 | .ref a=>some (.ref a)
 | .type n=>some (.ty n)
 | _=>none
def aM.abs(r:aM x u):absV u=some x:=by
 cases x with
 | non=>cases r;rfl
 | bl _=>cases r;rfl
 | int _=>obtain⟨t,rfl⟩:=r;rfl
 | str _=>obtain⟨t,rfl⟩:=r;rfl
 | byt _=>obtain⟨t,rfl⟩:=r;rfl
 | flt _=>obtain⟨t,rfl⟩:=r;rfl
 | ref _=>cases r;rfl
 | ty _=>cases r;rfl
def aM.inj(r:aM x u)(q:aM y u):x=y:=Option.some.inj (r.abs.symm.trans q.abs)
def aA.inj(r:aA xs us)(q:aA ys us):xs=ys:=by
 induction r generalizing ys with
 | nil=>cases q;rfl
 | cons r t ih=>cases q with | cons r' t'=>rw[r.inj r',ih t']
section
variable {X:Cx} {FA:List (Addr × Obj)} {σ:St} {H:Hp} {s:Shared} {a:Addr} {xs ys:List V}
def SqL.of{K:qaa}(h:H a=some (.lst xs)):SqL K H a xs:=.inl (.inl h)
def SqT.of{K:qaa}(h:H a=some (.tup xs)):SqT K H a xs:=.inl (.inl h)
def Inv.list(I:Inv X FA σ H s)(h:SqL X.K H a xs):∃its:List Value,aA xs its/\PlainL s.heap a its.toArray/\xs.length<=sizeLine:=by
 rcases h with h|⟨o,its,n,hk,hc,hd,hs,hz,r⟩
 ·obtain⟨z,its,n,r,e⟩:=h.ok I.hok;exact⟨its,r,⟨_,n,e,rfl,rfl,rfl⟩,z⟩
 ·refine⟨its.toList,r,⟨o,n,I.kIn a o hk,hc,hd,by simpa using hs⟩,?_⟩;have e:=r.length
  grind
def Inv.tupleN(I:Inv X FA σ H s)(h:SqT X.K H a xs):∃its:List Value,aA xs its/\fi s.heap a its.toArray/\xs.length<=sizeLine:=by
 rcases h with h|⟨o,its,n,hk,hc,hs,hz,r⟩
 ·obtain⟨z,its,r,p⟩:=h.ok I.hok;exact⟨its,r,p,z⟩
 ·refine⟨its.toList,r,⟨o,I.kIn a o hk,hc,⟨n,by simpa using hs.1⟩,hs.2⟩,?_⟩;have e:=r.length
  grind
def Inv.tuple(I:Inv X FA σ H s)(h:SqT X.K H a xs):∃its:List Value,aA xs its/\IsTup s.heap a its.toArray/\xs.length<=sizeLine :=
 let ⟨its,r,p,z⟩:=I.tupleN h
 ⟨its,r,p.tup,z⟩
def Inv.list_inj(I:Inv X FA σ H s)(h:SqL X.K H a xs)(h':SqL X.K H a ys):xs=ys:=by
 obtain⟨its,r,⟨o,n,e,_,_,d⟩,_⟩:=I.list h;obtain⟨its',r',⟨o',n',e',_,_,d'⟩,_⟩:=I.list h';rw[e] at e';cases e';rw[d] at d';injection d' with d1 _
 have:its=its':=by simpa using congrArg Array.toList d1
 subst this;exact r.inj r'
def Inv.tuple_inj(I:Inv X FA σ H s)(h:SqT X.K H a xs)(h':SqT X.K H a ys):xs=ys:=by
 obtain⟨its,r,⟨o,e,_,n,d⟩,_⟩:=I.tuple h;obtain⟨its',r',⟨o',e',_,n',d'⟩,_⟩:=I.tuple h';rw[e] at e';cases e';rw[d] at d';injection d' with d1 _
 have:its=its':=by simpa using congrArg Array.toList d1
 subst this;exact r.inj r'
end
section
variable {X:Cx} {st:Stmt} {rest:List Stmt} {t u:TS} {e:Expr} {te:TE} {pos:Pos}
def tNext:TS:=fun D σ H=>D.nx σ H
def tSeq(t u:TS):TS:=fun D σ H=>t { D with nx:=u D} σ H
def pss_nil:PSs X [] tNext:=fun _ _ σ H _ I h=>wpAny_execs_nil ⟨σ,H,I,h⟩
def vC(h1:PS X st t)(h2:PSs X rest u):PSs X (st::rest) (tSeq t u):=by
 intro FA s σ H D I h;refine wpAny_execs_cons (thn (h1 FA s σ H { D with nx:=u D} I h) fun f s1 q=>?_)
 cases f with
 | next =>
  obtain⟨σ',H',I',q⟩:=q;exact h2 FA s1 σ' H' D I' q
 | ret v=>exact q
 | brk=>exact q
 | cont=>exact q
def pss_one(h1:PS X st t):PSs X [st] t:=by
 intro FA s σ H D I h;refine wpAny_execs_cons (thn (h1 FA s σ H D I h) fun f s1 q=>?_)
 cases f with
 | next=>exact wpAny_execs_nil q
 | ret v=>exact q
 | brk=>exact q
 | cont=>exact q
def Inv.quiet{FA:List (Addr × Obj)}{σ:St}{H:Hp}{s:Shared}(I:Inv X FA σ H s):interactive X.env=false:=by simp[interactive,I.ok.kind]
def tDrop(te:TE):TS:=fun D σ H=>te σ H fun _ H1=>D.nx σ H1
def ps_expr(he:PE X e te)(hs:swapsWith e none pos.line X.env=pure false:=by rfl):PS X (.Expr e pos) (tDrop te):=by
 intro FA s σ H D I h;exact wpAny_Expr_any (thn (he FA s σ H _ I h) fun v s1 ⟨x,H1,I1,r1,q1⟩=>⟨σ,H1,I1,q1⟩) I.quiet hs
def tRet(te:TE):TS:=fun D σ H=>te σ H D.rt
def ps_ret(he:PE X e te):PS X (.Return (some e) pos) (tRet te):=by
 intro FA s σ H D I h;exact wpAny_Return_some (thn (he FA s σ H _ I h) fun v s1 ⟨x,H1,I1,r1,q1⟩=>⟨x,σ,H1,I1,r1,q1⟩)
def tIfS(c:TT)(t u:TS):TS:=fun D σ H=>c σ H fun b H1=>if b=true then t D σ H1 else u D σ H1
def ps_if(hc:PT X c tc)(ha:PSs X a t)(hb:PSs X b u):PS X (.If c a b pos) (tIfS tc t u):=by
 intro FA s σ H D I h;refine wpAny_If (thn (hc FA s σ H _ I h) fun d s1 ⟨H1,I1,q1⟩=>?_)
 cases d with
 | true=>exact ha FA s1 σ H1 D I1 q1
 | false=>exact hb FA s1 σ H1 D I1 q1
end
abbrev TG:=V->St->Hp->(St->Hp->Prop)->Prop
abbrev TGs:=List V->St->Hp->(St->Hp->Prop)->Prop
def PG(X:Cx)(target:Expr)(t:TG):Prop :=
 ∀(FA:List (Addr × Obj)) (s:Shared) (σ:St) (H:Hp) (v:V) (u:Value) (Q:St->Hp->Prop),Inv X FA σ H s->aM v u->t v σ H Q ->
  wpAny (model X.prog X.w) X.A (assign target X.env u) (fun _ s'=>SN X FA Q s') X.xe s
def PGs(X:Cx)(ts:List Expr)(t:TGs):Prop :=
 ∀(FA:List (Addr × Obj)) (s:Shared) (σ:St) (H:Hp) (vs:List V) (us:List Value) (Q:St->Hp->Prop),Inv X FA σ H s->aA vs us->t vs σ H Q ->
  wpAny (model X.prog X.w) X.A (assignInOrder ((assignEach ts X.env).map (·.2)) us) (fun _ s'=>SN X FA Q s') X.xe s
abbrev TSet:=V->V->V->Hp->(Hp->Prop)->Prop
inductive SE (X:Cx) (FA:List (Addr × Obj)) (σ:St) (Q:Hp->Prop) (s':Shared):Prop
 | mk (H':Hp) (i:Inv X FA σ H' s') (q:Q H'):SE X FA σ Q s'
def PSet(X:Cx)(t:TSet):Prop :=
 ∀(FA:List (Addr × Obj)) (s:Shared) (σ:St) (H:Hp) (o i v:V) (ov iv u:Value) (Q:Hp->Prop),Inv X FA σ H s->aM o ov->aM i iv->aM v u->t o i v H Q ->
  wpAny (model X.prog X.w) X.A (setItem ov iv u) (fun _ s'=>SE X FA σ Q s') X.xe s
section
variable {X:Cx} {pos:Pos}
def gName(i:Nat):TG:=fun v σ H Q=>Q (σ.set i (some v)) H
def pg_name(hN:X.N.Nodup)(hi:X.N[i]?=some x)(hx:Loc X.env.scope x)(hf:X.fn x=true\/X.env.scope.names.lookup x=some .local:=by first | exact .inl rfl | exact .inr rfl | assumption):PG X (.Name x pos) (gName i):=by
 intro FA s σ H v u Q I r h;exact wpAny_assign_Name (iK I hN hi hx r (fun s' I'=>⟨_,H,I',h⟩) hf)
def gNil:TGs:=fun vs σ H Q=>vs=[]/\Q σ H
def gCons(t:TG)(u:TGs):TGs:=fun vs σ H Q=>∃v r,vs=v::r/\t v σ H fun σ' H'=>u r σ' H' Q
def pgs_nil:PGs X [] gNil:=by
 intro FA s σ H vs us Q I r h;obtain⟨e,h⟩:=h;subst e;cases r;exact assignInOrder_nil ⟨σ,H,I,h⟩
def u5(h1:PG X e t)(h2:PGs X es u)
  (hs:(assignEach (e::es) X.env).map (·.2)=assign e X.env::(assignEach es X.env).map (·.2):=by rfl):PGs X (e::es) (gCons t u):=by
 intro FA s σ H vs us Q I r h;obtain⟨v,vr,e1,h⟩:=h;subst e1
 cases r with
 | cons r rr =>
  rw[hs];refine assignInOrder_cons (thn (h1 FA s σ H _ _ _ I r h) fun _ s1 ⟨σ1,H1,I1,q1⟩=>?_);exact h2 FA s1 σ1 H1 _ _ Q I1 rr q1
def gTup(K:qaa)(n:Nat)(t:TGs):TG:=fun v σ H Q=>∃a xs,v=.ref a/\SqT K H a xs/\xs.length=n/\t xs σ H Q
def pg_tup{es:List Expr}{k:Nat}{t:TGs}{n:Nat}(hc:X.calm=true)(h:PGs X es t)
  (hn:(assignEach es X.env).length=n:=by rfl) (hst:(assignEach es X.env).findIdx? (·.1)=none:=by rfl):PG X (.Tuple es k pos) (gTup X.K n t):=by
 intro FA s σ H v u Q I r hw;obtain⟨a,xs,e1,hq,hl,hw⟩:=hw;subst e1;cases r;obtain⟨its,rv,ht,hz⟩:=I.tuple hq;refine assign_Tuple_tuple (I.ok.hd hc) ht (by simp[hn,<-hl,rv.length]) hst fun h' hx=>?_;have I1:=I.kept (t':=s.toks) fun b o e=>hx b o (qaH (qam e)) e;exact h FA _ σ H xs _ Q I1 (by simpa using rv) hw
def gSub(to ti:TE)(t:TSet):TG:=fun v σ H Q=>to σ H fun o H1=>ti σ H1 fun i H2=>t o i v H2 fun H3=>Q σ H3
def pg_sub(ho:PE X o to)(hi:PE X i ti)(hs:PSet X t)
  (ha:∀v,assign (.Subscript o i pos) X.env v=(do
   let ov <-holding [v] (eval o X.env)
   let iv <-holding [v,ov] (eval i X.env)
   standAt pos
   holding [v,ov,iv] (setItem ov iv v)
   release [v,ov,iv] []):=by intro _;rfl):PG X (.Subscript o i pos) (gSub to ti t):=by
 intro FA s σ H v u Q I r h;refine qad (wpAny_holding (thn (ho FA s σ H _ I h) fun ov s1 ⟨x,H1,I1,r1,q1⟩=>?_));refine qad (wpAny_holding (thn (hi FA s1 σ H1 _ I1 q1) fun iv s2 ⟨y,H2,I2,r2,q2⟩=>?_));refine qad (wpAny_standAt (qad (wpAny_holding (thn (hs FA s2 σ H2 x y v ov iv u _ I2 r1 r2 r q2) fun _ s3 ⟨H3,I3,q3⟩=>?_))));exact wpAny_release ⟨σ,H3,I3,q3⟩
def tAsg(te:TE)(g:TG):TS:=fun D σ H=>te σ H fun x H1=>g x σ H1 D.nx
def ps_asg(he:PE X e te)(hg:PG X tg g)(hs:swapsWithSole [tg] e pos.line X.env=pure false:=by rfl)(hw:swappedStores [tg] e X.env=pure none:=by rfl)
  (h1:(assignEach [tg] X.env).map (·.2)=[assign tg X.env]:=by rfl):PS X (.Assign [tg] e pos) (tAsg te g):=by
 intro FA s σ H D I h;refine wpAny_Assign_stores (thn (he FA s σ H _ I h) fun v s1 ⟨x,H1,I1,r1,q1⟩=>?_) hs hw;rw[h1];exact thn (hg FA s1 σ H1 x v _ I1 r1 q1) fun _ s2 q=>q
def ps_set(hN:X.N.Nodup)(hi:X.N[i]?=some x)(hx:Loc X.env.scope x)(he:PE X e te)(hs:swapsWith e (some (.Name x pos')) pos.line X.env=pure false:=by rfl)(hf:X.fn x=true\/X.env.scope.names.lookup x=some .local:=by first | exact .inl rfl | exact .inr rfl | assumption) :
  PS X (.Assign [.Name x pos'] e pos) (tAsg te (gName i)):=by
 intro FA s σ H D I h;refine wpAny_Assign_Name (thn (he FA s σ H _ I h) fun v s1 ⟨y,H1,I1,r1,q1⟩=>?_) hs;exact iK I1 hN hi hx r1 (fun s2 I2=>⟨_,H1,I2,q1⟩) hf
def tPar(i j:Nat)(ta:TA):TS:=fun D σ H=>ta σ H fun vs H1=>∃v w,vs=[v,w]/\D.nx ((σ.set i (some v)).set j (some w)) H1
def ps_par{kt k2 pt2}(hc:X.calm=true)(hN:X.N.Nodup)(hi:X.N[i]?=some x)(hj:X.N[j]?=some y)(hij:i≠j)
  (hx:X.env.scope.names.lookup x=some .local) (hy:X.env.scope.names.lookup y=some .local) (ha:PA X [a,b] ta)
  (hw:swappedStores [.Tuple [.Name x px,.Name y py] kt pt] (.Tuple [a,b] k2 pt2) X.env=pure (some [x,y]))
  (hs:swapsWithSole [.Tuple [.Name x px,.Name y py] kt pt] (.Tuple [a,b] k2 pt2) pos.line X.env=pure false:=by rfl) :
  PS X (.Assign [.Tuple [.Name x px,.Name y py] kt pt] (.Tuple [a,b] k2 pt2) pos) (tPar i j ta):=by
 intro FA s σ H D I h;refine qad (wpAny_standAt ?_);refine qad (qaz ?_);refine qad (Tuple_ (thn (ha _ FA s σ H _ I h) fun us s1 ⟨vs,H1,I1,r1,q1⟩=>?_));obtain⟨v,w,e1,q1⟩:=q1;subst e1;obtain⟨u1,u2,rfl,rv,rw'⟩:∃u1 u2,us=[u1,u2]/\aM v u1/\aM w u2:=by
  cases r1 with
  | cons p q =>
   cases q with
   | cons p' q' =>
    cases q';exact⟨_,_,rfl,p,p'⟩
 refine wpAny_newObj_type ?_ (by show 2<=sizeLine;decide);have I2:Inv X FA σ H1 { s1 with heap:=s1.heap.push { cls:=.type "tuple",data:=.seq [u1,u2].toArray}}:=I1.kept (t':=s1.toks) fun b o e=>qac _ e;rw[hw];show wpAny (model X.prog X.w) X.A (do rule "assign.swapped-stores";let items <-unpackItems (.ref s1.heap.objs.size) 2 none;assignInOrder [fun v=>bindName X.env y v,fun v=>bindName X.env x v] items.reverse;pure Flow.next) _ _ _;refine qad (wpAny_rule (qad (unpackItems_tuple (items:=#[u1,u2]) (I.ok.hd hc) (IsTup.new s1.heap _) fun h' hx'=>?_)));have I3:=I2.kept (h':=h') (t':=s1.toks) fun b o e=>hx' b o (qaH (qam e)) e;refine qad (assignInOrder_cons (wpAny_bindName (iK I3 hN hj (.inl hy) rw' (fun s2 I4=>?_) (.inr hy))));refine assignInOrder_cons (wpAny_bindName (iK I4 hN hi (.inl hx) rv (fun s3 I5=>assignInOrder_nil (qaz ?_)) (.inr hx)));rw[List.set_comm _ _ (Ne.symm hij)] at I5;exact⟨_,H1,I5,q1⟩
def tWhile(c:TT)(tb:TS):TS:=fun D σ H=>∃W:Nat->St->Hp->Prop,(∃m,W m σ H)/\∀m σ H,W m σ H ->
 c σ H fun b H1=>if b=true then ∃N:St->Hp->Prop,(∀σ' H',N σ' H'->∃m',m'<m/\W m' σ' H')/\tb { D with nx:=N,ct:=N,bk:=D.nx} σ H1 else D.nx σ H1
def vo(hp:PassesOwn (model X.prog X.w) X.A X.env X.xe)(hc:PT X c tc)(hb:PSs X body tb):PS X (.While c body [] pos) (tWhile tc tb):=by
 intro FA s σ H D I h;obtain⟨W,⟨m0,w0⟩,turn⟩:=h;refine wpAny_While (codeAny_whileLoop (fun n s'=>∃σ' H',Inv X FA σ' H' s'/\W n σ' H') ?_ m0 ⟨σ,H,I,w0⟩);rintro n s1 ⟨σ1,H1,I1,w1⟩;refine wpAny_passesOwn hp (thn (hc FA s1 σ1 H1 _ I1 (turn n σ1 H1 w1)) fun b s2 ⟨H2,I2,q2⟩=>?_)
 cases b with
 | true =>
  obtain⟨N,hN,q2⟩:=q2;refine wpAny_passesOwn hp (thn (hb FA s2 σ1 H2 _ I2 q2) fun f s3 q3=>?_)
  cases f with
  | next =>
   obtain⟨σ3,H3,I3,n3⟩:=q3;obtain⟨m',hm,w3⟩:=hN σ3 H3 n3;exact⟨m',hm,σ3,H3,I3,w3⟩
  | cont =>
   obtain⟨σ3,H3,I3,n3⟩:=q3;obtain⟨m',hm,w3⟩:=hN σ3 H3 n3;exact⟨m',hm,σ3,H3,I3,w3⟩
  | brk=>exact q3
  | ret v=>exact q3
 | false =>
  exact wpAny_execs_nil ⟨σ1,H2,I2,q2⟩
end
structure It where
 go:Nat->Hp->Prop
 yld:Nat->Hp->V->Hp->Prop
 stop:Nat->Hp->Prop
def gN(X:Cx)(FA:List (Addr × Obj))(H:Hp)(b:Addr):Prop :=
 H b=none/\b≠X.env.locals/\b∉X.fs/\(b∈X.ex\/X.s₀.heap.objs.size<=b)/\(∀x c,X.env.cells.lookup x=some c->c≠b)/\∀p∈X.pn++FA,p.1≠b
def Inv.fpOk{X:Cx}{FA:List (Addr × Obj)}{σ:St}{H H':Hp}{s:Shared}{b:Addr}(I:Inv X FA σ H s)(hb:s.heap.objs.size<=b)(hn:H' b=none):gN X FA H' b:=by
 refine⟨hn,qbm (qas I.lt hb),I.nofs hb,.inr (qav I.sz hb),fun x c e z=>?_,fun p hp z=>?_⟩
 ·obtain⟨v,q⟩:=I.cell x c e;exact absurd (qas q.lt (by rw[z];exact hb)) (qaI _)
 ·exact absurd (qas (qam (I.pin p hp).1) (by rw[z];exact hb)) (qaI _)
inductive TIt (X:Cx) (FA:List (Addr × Obj)) (σ:St) (u:Value) (Y:V->Hp->Prop) (n:Heap->Prop) (fp:List Addr) (s2:Shared):Prop
 | mk (x:V) (H':Hp) (i:Inv X FA σ H' s2) (r:aM x u) (y:Y x H') (t:n s2.heap) (f:∀b∈fp,H' b=none):TIt X FA σ u Y n fp s2
structure Turn (P:Program) (w:World) (K:qaa) (tg:Expr) (J:It) (fp:List Addr) (it:Addr) (tn:Nat->Heap->Prop):Prop where
 mem:it∈fp
 obj:∀i h,tn i h->∀b∈fp,∃o,h.get? b=some o/\∀v,o.data≠.cell v
 keep:∀i h h',tn i h->(∀b∈fp,∀o,h.get? b=some o->h'.get? b=some o)->tn i h'
 item:∀(X:Cx),X.prog=P->X.w=w->X.K=K->X.calm=true->∀(i:Nat) (FA:List (Addr × Obj)) (s:Shared) (σ:St) (H:Hp) (E:Value->Shared->Prop),Inv X FA σ H s->(∀b∈fp,gN X FA H b)->tn i s.heap->J.go i H ->
  wpAny (model P w) X.A (pyNext (.ref it)) (fun r s1=>∃u,r=some u /\
   wpAny (model P w) X.A (letOwnedTupleGo tg (.ref it) u) (fun _ s2=>TIt X FA σ u (J.yld i H) (tn (i+1)) fp s2) E s1) E s
 done:∀(X:Cx),X.prog=P->X.w=w->X.K=K->X.calm=true->∀(i:Nat) (FA:List (Addr × Obj)) (s:Shared) (σ:St) (H:Hp) (E:Value->Shared->Prop),Inv X FA σ H s->(∀b∈fp,gN X FA H b)->tn i s.heap->J.stop i H ->
  wpAny (model P w) X.A (pyNext (.ref it)) (fun r s1=>r=none/\Inv X FA σ H s1) E s
 self:∀(A:Around) (i:Nat) (s:Shared) (Q:Value->Shared->Prop) (E:Value->Shared->Prop),tn i s.heap->Q (.ref it) s->wpAny (model P w) A (pyIter (.ref it)) Q E s
abbrev TI:=St->Hp->(It->Hp->Prop)->Prop
inductive PIE (X:Cx) (FA:List (Addr × Obj)) (σ:St) (tg:Expr) (R:It->Hp->Prop) (itv:Value) (s2:Shared):Prop
 | mk (it:Addr) (fp:List Addr) (tn:Nat->Heap->Prop) (J:It) (H':Hp) (e:itv=.ref it) (i:Inv X FA σ H' s2) (t:Turn X.prog X.w X.K tg J fp it tn) (n:tn 0 s2.heap) (f:∀b∈fp,gN X FA H' b) (r:R J H'):PIE X FA σ tg R itv s2
def PI(X:Cx)(tg iter:Expr)(wi:TI):Prop :=
 ∀(FA:List (Addr × Obj)) (s:Shared) (σ:St) (H:Hp) (R:It->Hp->Prop),Inv X FA σ H s->wi σ H R ->
  wpAny (model X.prog X.w) X.A (eval iter X.env) (fun v s1=>wpAny (model X.prog X.w) X.A (pyIter v) (PIE X FA σ tg R) X.xe s1) X.xe s
def nz(ho:s.heap.get? it=some o)(hc:o.cls=.type n)(hd:o.data=.fields vs)
  (hn:["enumerate","zip","dict_itemiterator","dict_reverseitemiterator","odict_iterator","itertools.zip_longest","itertools.pairwise"].contains n=false) (hQ:Q () s):wpAny M A (letOwnedTupleGo tg (.ref it) u) Q E s:=by
 cases tg <;> first
  | exact qaz hQ
  | (cases u <;> first
    | exact qaz hQ
    | (refine qad (wpAny_load ho ?_)
       rw[hc,hd];show wpAny M A (if (["enumerate","zip","dict_itemiterator","dict_reverseitemiterator","odict_iterator","itertools.zip_longest","itertools.pairwise"].contains n && vs[0]? == some (rawInt _))=true then _ else _) Q E s;rw[qat (by intro h;rw[hn] at h;cases h)]
       exact qaz hQ))
def Itl(K:qaa)(a:Addr):It :=
 ⟨fun i H=>∃xs x,SqL K H a xs/\xs[i]?=some x,fun i H x H'=>H'=H/\∀xs,SqL K H a xs->xs[i]?=some x,fun i H=>∃xs,SqL K H a xs/\xs.length<=i⟩
def Itt(K:qaa)(a:Addr):It :=
 ⟨fun i H=>∃xs x,SqT K H a xs/\xs[i]?=some x,fun i H x H'=>H'=H/\∀xs,SqT K H a xs->xs[i]?=some x,fun i H=>∃xs,SqT K H a xs/\xs.length<=i⟩
def Itr(lo:Int)(n:Nat):It:=⟨fun i _=>i<n,fun i H x H'=>H'=H/\x=.int (lo+i),fun i _=>n<=i⟩
def sL{P:Program}{w:World}{K:qaa}{tg:Expr}(a it:Addr):Turn P w K tg (Itl K a) [it] it (fun i h=>h.IsListIter it a i) where
 mem:=by simp
 obj:=fun i h st b hb=>by
  have e:b=it:=by simpa using hb
  subst e;obtain⟨o,e,c,d⟩:=st;exact⟨o,e,fun v z=>by rw[d] at z;cases z⟩
 keep:=fun i h h' st k=>st.at fun o e=>k it (by simp) o e
 item:=by
  intro X hP hw hK hc i FA s σ H E I hf st hg;subst hP hw hK;obtain⟨xs,x,hq,hx⟩:=hg;obtain⟨its,rv,p,hz⟩:=I.list hq;obtain⟨u,hu,ru⟩:=rv.get hx;obtain⟨f0,f1,f2,f3,f4,f5⟩:=hf it (by simp);refine wpAny_pyNext_list_item st p.isList (by simpa using hu) fun h' st' sb=>?_;have I1:=I.turned (t':=s.toks) (fun b o hb e=>(sb.2 b hb).trans e) f0 f1 f3 f4 f5;obtain⟨o,e,c,d⟩:=id st';exact⟨u,rfl,nz e c d (by decide) ⟨x,H,I1,ru,⟨rfl,fun ys hy=>by rw[I.list_inj hy hq];exact hx⟩,st',fun b hb=>(hf b hb).1⟩⟩
 done:=by
  intro X hP hw hK hc i FA s σ H E I hf st hg;subst hP hw hK;obtain⟨xs,hq,hx⟩:=hg;obtain⟨its,rv,p,hz⟩:=I.list hq;obtain⟨f0,f1,f2,f3,f4,f5⟩:=hf it (by simp);have hl:=rv.length;exact wpAny_pyNext_list_end (I.ok.hd hc) st p.isList (by simp;lia) fun h' eb=>⟨rfl,I.turned (t':=s.toks) (fun b o hb e=>eb b o hb e) f0 f1 f3 f4 f5⟩
 self:=fun _ _ _ _ _ st h=>wpAny_pyIter_listiter st h
def rH{P:Program}{w:World}{K:qaa}{tg:Expr}(a it:Addr):Turn P w K tg (Itt K a) [it] it (fun i h=>h.IsTupleIter it a i) where
 mem:=by simp
 obj:=fun i h st b hb=>by
  have e:b=it:=by simpa using hb
  subst e;obtain⟨o,e,c,d⟩:=st;exact⟨o,e,fun v z=>by rw[d] at z;cases z⟩
 keep:=fun i h h' st k=>st.at fun o e=>k it (by simp) o e
 item:=by
  intro X hP hw hK hc i FA s σ H E I hf st hg;subst hP hw hK;obtain⟨xs,x,hq,hx⟩:=hg;obtain⟨its,rv,p,hz⟩:=I.tuple hq;obtain⟨u,hu,ru⟩:=rv.get hx;obtain⟨f0,f1,f2,f3,f4,f5⟩:=hf it (by simp);refine wpAny_pyNext_tuple_item st (p) (by simpa using hu) fun h' st' sb=>?_;have I1:=I.turned (t':=s.toks) (fun b o hb e=>(sb.2 b hb).trans e) f0 f1 f3 f4 f5;obtain⟨o,e,c,d⟩:=id st';exact⟨u,rfl,nz e c d (by decide) ⟨x,H,I1,ru,⟨rfl,fun ys hy=>by rw[I.tuple_inj hy hq];exact hx⟩,st',fun b hb=>(hf b hb).1⟩⟩
 done:=by
  intro X hP hw hK hc i FA s σ H E I hf st hg;subst hP hw hK;obtain⟨xs,hq,hx⟩:=hg;obtain⟨its,rv,p,hz⟩:=I.tuple hq;obtain⟨f0,f1,f2,f3,f4,f5⟩:=hf it (by simp);have hl:=rv.length;exact wpAny_pyNext_tuple_end (I.ok.hd hc) st (p) (by simp;lia) fun h' eb=>⟨rfl,I.turned (t':=s.toks) (fun b o hb e=>eb b o hb e) f0 f1 f3 f4 f5⟩
 self:=fun _ _ _ _ _ st h=>wpAny_pyIter_tupleiter st h
def rL{P:Program}{w:World}{K:qaa}{tg:Expr}(it:Addr)(lo:Int)(n:Nat):Turn P w K tg (Itr lo n) [it] it (fun i h=>IsRangeIter h it (lo+(i:Nat) * 1) ((n:Int) - (i:Nat)) 1) where
 mem:=by simp
 obj:=fun i h st b hb=>by
  have e:b=it:=by simpa using hb
  subst e
  exact⟨_,st,fun v z=>by
   have z':=z
   cases z'⟩
 keep:=fun i h h' st k=>k it (by simp) _ st
 item:=by
  intro X hP hw hK hc i FA s σ H E I hf st hg;subst hP hw hK;obtain⟨f0,f1,f2,f3,f4,f5⟩:=hf it (by simp);have W:=Walks.range (prog:=X.prog) (w:=X.w) (I.ok.hd hc) it lo 1 n;refine W.item i s _ _ hg st fun v h' tk hv st' kk=>?_;obtain⟨t,rfl⟩:=hv;have I1:Inv X FA σ H { s with heap:=h',toks:=tk}:=I.turned (fun b o hb e=>kk b o (by simpa using hb) e) f0 f1 f3 f4 f5;refine⟨_,rfl,nz st' rfl rfl (by decide) ⟨.int (lo+i),H,I1,⟨t,?_⟩,⟨rfl,rfl⟩,st',fun b hb=>(hf b hb).1⟩⟩;rw[Int.mul_one]
 done:=by
  intro X hP hw hK hc i FA s σ H E I hf st hg;obtain⟨f0,f1,f2,f3,f4,f5⟩:=hf it (by simp);exact wpAny_pyNext_range_end (I.ok.hd hc) st (by have:n<=i:=hg;lia) fun h' eb=>⟨rfl,I.turned (t':=s.toks) (fun b o hb e=>eb b o hb e) f0 f1 f3 f4 f5⟩
 self:=fun _ _ _ _ _ st h=>wpAny_pyIter_rangeiter st h
section
variable {X:Cx} {tg:Expr}
def iList(K:qaa)(tl:TE):TI:=fun σ H R=>tl σ H fun x H1=>∃a,x=.ref a/\(∃xs,SqL K H1 a xs)/\R (Itl K a) H1
def iTup(K:qaa)(tl:TE):TI:=fun σ H R=>tl σ H fun x H1=>∃a,x=.ref a/\(∃xs,SqT K H1 a xs)/\R (Itt K a) H1
def pi_list{l:Expr}{tl:TE}(hl:PE X l tl):PI X tg l (iList X.K tl):=by
 intro FA s σ H R I h;refine thn (hl FA s σ H _ I h) fun v s1 ⟨x,H1,I1,r1,q1⟩=>?_;obtain⟨a,e,⟨xs,hq⟩,q⟩:=q1;subst e;cases r1;obtain⟨its,rv,p,hz⟩:=I1.list hq;refine wpAny_pyIter_list p.isList ?_;refine⟨s1.heap.objs.size,[s1.heap.objs.size],_,_,H1,rfl,I1.kept (t':=s1.toks) fun b o e=>qac _ e,sL a _,⟨_,qaw _ rfl,rfl,rfl⟩,fun b hb=>?_,q⟩;have e:b=s1.heap.objs.size:=by simpa using hb
 subst e;exact I1.fpOk (qaj _) (I1.hok.fresh (qaj _))
def pi_tup{l:Expr}{tl:TE}(hl:PE X l tl):PI X tg l (iTup X.K tl):=by
 intro FA s σ H R I h;refine thn (hl FA s σ H _ I h) fun v s1 ⟨x,H1,I1,r1,q1⟩=>?_;obtain⟨a,e,⟨xs,hq⟩,q⟩:=q1;subst e;cases r1;obtain⟨its,rv,p,hz⟩:=I1.tuple hq;refine wpAny_pyIter_tuple (p) ?_;refine⟨s1.heap.objs.size,[s1.heap.objs.size],_,_,H1,rfl,I1.kept (t':=s1.toks) fun b o e=>qac _ e,rH a _,⟨_,qaw _ rfl,rfl,rfl⟩,fun b hb=>?_,q⟩;have e:b=s1.heap.objs.size:=by simpa using hb
 subst e;exact I1.fpOk (qaj _) (I1.hok.fresh (qaj _))
def uR{FA:List (Addr × Obj)}{σ:St}{H:Hp}{s:Shared}{R:It->Hp->Prop}{E:Value->Shared->Prop}{lo hi:Int}{t u v:Tok}{tk:Nat}(I:Inv X FA σ H s)(h1:-(2 ^ 62)<=lo)(h2:lo<2 ^ 62)(h3:-(2 ^ 62)<=hi)(h4:hi<2 ^ 62)
  (q:R (Itr lo (hi - lo).toNat) H):wpAny (model X.prog X.w) X.A (pyIter (.ref s.heap.objs.size)) (PIE X FA σ tg R) E { s with heap:=s.heap.push { cls:=.type "range",data:=.fields #[.int lo t,.int hi u,.int 1 v]},toks:=tk}:=by
 refine wpAny_pyIter_range (IsRange.new ..) (small_one h1 h2 h3 h4) ?_;have I1:Inv X FA σ H { s with heap:=s.heap.push { cls:=.type "range",data:=.fields #[.int lo t,.int hi u,.int 1 v]},toks:=tk}:=I.kept fun b o e=>qac _ e
 refine⟨(s.heap.push { cls:=.type "range",data:=.fields #[.int lo t,.int hi u,.int 1 v]}).objs.size,[(s.heap.push { cls:=.type "range",data:=.fields #[.int lo t,.int hi u,.int 1 v]}).objs.size],_,_,H,rfl,
  I1.kept (t':=tk) fun b o e=>qac _ e,rL _ lo (hi - lo).toNat,?_,fun b hb=>?_,q⟩
 ·have e1:lo+((0:Nat):Int) * 1=lo:=by simp
  have e2:(((hi - lo).toNat:Nat):Int) - ((0:Nat):Int)=Builtin.Range.rangeSize lo hi 1:=by rw[rangeSize_one];split <;> lia
  rw[e1,e2];exact qaw _ rfl
 ·have e:b=(s.heap.push { cls:=.type "range",data:=.fields #[.int lo t,.int hi u,.int 1 v]}).objs.size:=by simpa using hb
  subst e;exact I1.fpOk (qaj _) (I1.hok.fresh (qaj _))
def iRng1(ta:TA):TI:=fun σ H R=>ta σ H fun vs H1=>∃j:Int,vs=[.int j] /\ -(2 ^ 62)<=j/\j<2 ^ 62/\R (Itr 0 j.toNat) H1
def sZ{a:Expr}{ta:TA}{p pos:Pos}(hg:Gl X "range")(hm:X.mg "range"=none)(ha:PA X [a] ta)(hs:starEach [a] X.env=[(false,eval a X.env)]:=by rfl):PI X tg (.Call (.Name "range" p) [a] [] pos) (iRng1 ta):=by
 intro FA s σ H R I h;refine Call_ (i8 I hg hm boot_range (PyProof.Rows.callWith_type1 (thn (ha pos FA s σ H _ I h) fun us s1 ⟨vs,H1,I1,r1,q1⟩=>?_) hs rfl));obtain⟨j,e,q1,q2,q⟩:=q1;subst e
 cases r1 with
 | cons r rr =>
  cases rr;obtain⟨t,rfl⟩:=r;exact call_range_1 (uR I1 (by lia) (by lia) q1 q2 (by simpa using q))
def tFor(wi:TI)(g:TG)(tb:TS):TS:=fun D σ H=>wi σ H fun J H1=>∃W:Nat->Nat->St->Hp->Prop,(∃m,W 0 m σ H1)/\∀i m σ H,W i m σ H ->
 (J.stop i H/\D.nx σ H)\/(J.go i H/\∃N:St->Hp->Prop,(∀σ' H',N σ' H'->∃m',m'<m/\W (i+1) m' σ' H')/\∀x H',J.yld i H x H'->g x σ H' fun σ2 H2=>tb { D with nx:=N,ct:=N,bk:=D.nx} σ2 H2)
def i6(fp:List Addr)(h:Heap):List (Addr × Obj):=fp.filterMap fun b=>(h.get? b).map fun o=>(b,o)
def fI(hb:b∈fp)(e:h.get? b=some o):(b,o)∈i6 fp h:=qbv.mpr ⟨b,hb,by rw[e];rfl⟩
def tN(hp:p∈i6 fp h):p.1∈fp/\h.get? p.1=some p.2:=by
 obtain⟨b,hb,e⟩:=qbv.mp hp
 cases q:h.get? b with
 | none=>rw[q] at e;cases e
 | some o =>
  rw[q] at e;have e':=Option.some.inj e;subst e';exact⟨hb,q⟩
def Inv.pinned{FA:List (Addr × Obj)}{σ:St}{H:Hp}{s:Shared}{fp:List Addr}(I:Inv X FA σ H s)(hf:∀b∈fp,gN X FA H b)(ho:∀b∈fp,∃o,s.heap.get? b=some o/\∀v,o.data≠.cell v):Inv X (FA++i6 fp s.heap) σ H s :=
 I.pins_of fun p hp=>(qaL.mp hp).elim (fun z=>I.pin p (qal _ z)) fun z=>by
  obtain⟨hb,e⟩:=tN z;obtain⟨f0,f1,f2,_⟩:=hf p.1 hb;obtain⟨o,e',d⟩:=ho p.1 hb
  simp_all
def Inv.unpinned{FA pl:List (Addr × Obj)}{σ:St}{H:Hp}{s:Shared}(I:Inv X (FA++pl) σ H s):Inv X FA σ H s:=I.pins_of fun p hp=>I.pin p (qal _ (qaY _ hp))
def ps_for(hp:PassesOwn (model X.prog X.w) X.A X.env X.xe)(hc:X.calm=true)(hi:PI X tg iter wi)(hg:PG X tg g)(hb:PSs X body tb)
  (hs:∀x,foldedSetIterable iter X.env x=pure x:=by intro _;rfl):PS X (.For tg iter body [] pos) (tFor wi g tb):=by
 intro FA s σ H D I h;refine wpAny_For (thn (hi FA s σ H _ I h) fun v s1 h1=>thn h1 fun itv s2 h2=>?_) hs;obtain⟨it,fp,tn,J,H2,e,I2,T,st2,f2,W,⟨m0,w0⟩,turn⟩:=h2;subst e;have stat:∀{H':Hp},(∀b∈fp,H' b=none)->∀b∈fp,gN X FA H' b:=fun hn b hb=>⟨hn b hb,(f2 b hb).2⟩;refine codeAny_forLoop_any (fun n s'=>∃i σ' H',Inv X FA σ' H' s'/\tn i s'.heap/\(∀b∈fp,H' b=none)/\W i n σ' H') ?_ m0 ⟨0,σ,H2,I2,st2,fun b hb=>(f2 b hb).1,w0⟩;rintro n s3 ⟨i,σ3,H3,I3,st3,fr3,w3⟩;rcases turn i n σ3 H3 w3 with ⟨stop,qn⟩|⟨go,N,hN,step⟩
 ·refine wpAny_passesOwn hp (thn (T.done X rfl rfl rfl hc i FA s3 σ3 H3 X.xe I3 (stat fr3) st3 stop) fun r s4 ⟨hr,I4⟩=>?_);subst hr;exact wpAny_execs_nil ⟨σ3,H3,I4,qn⟩
 ·refine wpAny_passesOwn hp (thn (T.item X rfl rfl rfl hc i FA s3 σ3 H3 X.xe I3 (stat fr3) st3 go) fun r s4 ⟨u,hr,h4⟩=>?_);subst hr;refine wpAny_passesOwn hp (thn h4 fun _ s5 ⟨x,H5,I5,r5,y5,st5,fr5⟩=>?_);have I5':=I5.pinned (stat fr5) (T.obj _ _ st5);refine wpAny_passesOwn hp (thn (hg _ s5 σ3 H5 x u _ I5' r5 (step x H5 y5)) fun _ s6 ⟨σ6,H6,I6,q6⟩=>?_);refine wpAny_passesOwn hp (thn (hb _ s6 σ6 H6 _ I6 q6) fun f s7 q7=>?_);have again:∀{σ7:St} {H7:Hp},Inv X (FA++i6 fp s5.heap) σ7 H7 s7->N σ7 H7->∃m,m<n/\∃i σ' H',Inv X FA σ' H' s7/\tn i s7.heap/\(∀b∈fp,H' b=none)/\W i m σ' H':=fun {σ7 H7} I7 n7=>by
   obtain⟨m',hm,w7⟩:=hN σ7 H7 n7;refine⟨m',hm,i+1,σ7,H7,I7.unpinned,T.keep _ _ _ st5 fun b hb o e=>(I7.pin (b,o) (qal _ (qal _ (fI hb e)))).1,fun b hb=>?_,w7⟩;obtain⟨o,e,d⟩:=T.obj _ _ st5 b hb;exact (I7.pin (b,o) (qal _ (qal _ (fI hb e)))).2.1
  cases f with
  | next=>obtain⟨σ7,H7,I7,n7⟩:=q7;exact again I7 n7
  | cont=>obtain⟨σ7,H7,I7,n7⟩:=q7;exact again I7 n7
  | brk=>obtain⟨σ7,H7,I7,q7⟩:=q7;exact⟨σ7,H7,I7.unpinned,q7⟩
  | ret v=>obtain⟨x7,σ7,H7,I7,r7,q7⟩:=q7;exact⟨x7,σ7,H7,I7.unpinned,r7,q7⟩
end
abbrev R2:=V->V->Hp->VK->Prop
def OpR(X:Cx)(f:Value->Value->Sem Value)(r:R2):Prop :=
 ∀(FA:List (Addr × Obj)) (s:Shared) (σ:St) (H:Hp) (x y:V) (v u:Value) (Q:VK),Inv X FA σ H s->aM x v->aM y u->r x y H Q ->
  wpAny (model X.prog X.w) X.A (f v u) (EP X FA σ Q) X.xe s
def UnR(X:Cx)(f:Value->Sem Value)(r:V->Hp->VK->Prop):Prop :=
 ∀(FA:List (Addr × Obj)) (s:Shared) (σ:St) (H:Hp) (x:V) (v:Value) (Q:VK),Inv X FA σ H s->aM x v->r x H Q ->
  wpAny (model X.prog X.w) X.A (f v) (EP X FA σ Q) X.xe s
def cP(X:Cx)(f:Value)(r:List V->Hp->VK->Prop):Prop :=
 ∀(FA:List (Addr × Obj)) (s:Shared) (σ:St) (H:Hp) (xs:List V) (us:List Value) (Q:VK),Inv X FA σ H s->aA xs us->r xs H Q ->
  wpAny (model X.prog X.w) X.A (call f us) (EP X FA σ Q) X.xe s
def TruR(X:Cx)(r:V->Hp->(Bool->Hp->Prop)->Prop):Prop :=
 ∀(FA:List (Addr × Obj)) (s:Shared) (σ:St) (H:Hp) (x:V) (v:Value) (Q:Bool->Hp->Prop),Inv X FA σ H s->aM x v->r x H Q ->
  wpAny (model X.prog X.w) X.A (truthy v) (TP X FA σ Q) X.xe s
def tOp(r:R2)(ta tb:TE):TE:=fun σ H Q=>ta σ H fun x H1=>tb σ H1 fun y H2=>r x y H2 Q
def tUn(r:V->Hp->VK->Prop)(ta:TE):TE:=fun σ H Q=>ta σ H fun x H1=>r x H1 Q
def rI(C:Int->Int->Prop)(g:Int->Int->V):R2:=fun x y H Q=>∃i j,x=.int i/\y=.int j/\C i j/\Q (g i j) H
def rI0(g:Int->Int->V):R2:=fun x y H Q=>∃i j,x=.int i/\y=.int j/\Q (g i j) H
def rU(g:Int->V):V->Hp->VK->Prop:=fun x H Q=>∃i,x=.int i/\Q (g i) H
section
variable {X:Cx} {a b c:Expr} {ta tb tc:TE} {pos:Pos}
def binT(ha:PE X a ta)(hb:PE X b tb){FA:List (Addr × Obj)}{s:Shared}{σ:St}{H:Hp}{R:V->V->Hp->Prop}(I:Inv X FA σ H s)
  (h:ta σ H fun x H1=>tb σ H1 fun y H2=>R x y H2) {Q:Value->Shared->Prop} {f:Value->Value->Sem Value}
  (hf:∀v u s2 x y H2,Inv X FA σ H2 s2->aM x v->aM y u->R x y H2->wpAny (model X.prog X.w) X.A (f v u) Q X.xe s2) :
  wpAny (model X.prog X.w) X.A (eval a X.env) (fun v s₁=>wpAny (model X.prog X.w) X.A (eval b X.env) (fun u s₂=>wpAny (model X.prog X.w) X.A (f v u) Q X.xe s₂) X.xe s₁) X.xe s:=by
 refine thn (ha FA s σ H _ I h) fun v s1 ⟨x,H1,I1,r1,q1⟩=>?_;refine thn (hb FA s1 σ H1 _ I1 q1) fun u s2 ⟨y,H2,I2,r2,q2⟩=>?_;exact hf v u s2 x y H2 I2 r1 r2 q2
def pe_op{op:Operator}{r:R2}(ho:OpR X (binaryOp op) r)(ha:PE X a ta)(hb:PE X b tb):PE X (.BinOp a op b pos) (tOp r ta tb):=by
 intro FA s σ H Q I h;exact wpAny_BinOp (binT ha hb I h fun v u s2 x y H2 I2 rx ry q=>ho FA s2 σ H2 x y v u Q I2 rx ry q)
def pe_un(ho:UnR X (unaryOp op) r)(ha:PE X a ta):PE X (.UnaryOp op a pos) (tUn r ta):=by
 intro FA s σ H Q I h;exact UnaryOp_ (thn (ha FA s σ H _ I h) fun v s1 ⟨x,H1,I1,r1,q1⟩=>ho FA s1 σ H1 x v Q I1 r1 q1)
def opI{f:Value->Value->Sem Value}{C:Int->Int->Prop}{g:Int->Int->Int}
  (rule:∀(i j:Int) (t u:Tok) (s:Shared) (Q:Value->Shared->Prop) (E:Value->Shared->Prop),C i j->Q (.int (g i j) s.toks) { s with toks:=s.toks+1}->wpAny (model X.prog X.w) X.A (f (.int i t) (.int j u)) Q E s) :
  OpR X f (rI C fun i j=>.int (g i j)):=by
 intro FA s σ H x y v u Q I rx ry h;obtain⟨i,j,rfl,rfl,hc,q⟩:=h;obtain⟨t,rfl⟩:=rx;obtain⟨t',rfl⟩:=ry;exact rule i j t t' s _ _ hc ⟨.int (g i j),H,I.tok _,⟨_,rfl⟩,q⟩
def opI0{f:Value->Value->Sem Value}{g:Int->Int->Int}
  (rule:∀(i j:Int) (t u:Tok) (s:Shared) (Q:Value->Shared->Prop) (E:Value->Shared->Prop),Q (.int (g i j) s.toks) { s with toks:=s.toks+1}->wpAny (model X.prog X.w) X.A (f (.int i t) (.int j u)) Q E s) :
  OpR X f (rI0 fun i j=>.int (g i j)):=by
 intro FA s σ H x y v u Q I rx ry h;obtain⟨i,j,rfl,rfl,q⟩:=h;obtain⟨t,rfl⟩:=rx;obtain⟨t',rfl⟩:=ry;exact rule i j t t' s _ _ ⟨.int (g i j),H,I.tok _,⟨_,rfl⟩,q⟩
def opB0{f:Value->Value->Sem Value}{g:Int->Int->Bool}
  (rule:∀(i j:Int) (t u:Tok) (s:Shared) (Q:Value->Shared->Prop) (E:Value->Shared->Prop),Q (.bool (g i j)) s->wpAny (model X.prog X.w) X.A (f (.int i t) (.int j u)) Q E s) :
  OpR X f (rI0 fun i j=>.bl (g i j)):=by
 intro FA s σ H x y v u Q I rx ry h;obtain⟨i,j,rfl,rfl,q⟩:=h;obtain⟨t,rfl⟩:=rx;obtain⟨t',rfl⟩:=ry;exact rule i j t t' s _ _ ⟨.bl (g i j),H,I,rfl,q⟩
def di(i j:Int):Prop:=0<=j/\j<=1000000/\i.natAbs<2 ^ 64
def op_add:OpR X (binaryOp .Add) (rI0 fun i j=>.int (i+j)):=opI0 fun _ _ _ _ _ _ _ q=>add_int q
def op_sub:OpR X (binaryOp .Sub) (rI0 fun i j=>.int (i - j)):=opI0 fun _ _ _ _ _ _ _ q=>sub_int q
def op_pow:OpR X (binaryOp .Pow) (rI di fun i j=>.int (i ^ j.toNat)):=opI fun _ _ _ _ _ _ _ hc q=>pow_int_small hc.1 hc.2.1 hc.2.2 q
def unI{f:Value->Sem Value}{g:Int->Int}
  (rule:∀(i:Int) (t:Tok) (s:Shared) (Q:Value->Shared->Prop) (E:Value->Shared->Prop),Q (.int (g i) s.toks) { s with toks:=s.toks+1}->wpAny (model X.prog X.w) X.A (f (.int i t)) Q E s) :
  UnR X f (rU fun i=>.int (g i)):=by
 intro FA s σ H x v Q I rx h;obtain⟨i,rfl,q⟩:=h;obtain⟨t,rfl⟩:=rx;exact rule i t s _ _ ⟨.int (g i),H,I.tok _,⟨_,rfl⟩,q⟩
def un_neg:UnR X (unaryOp .USub) (rU fun i=>.int (-i)):=unI fun _ _ _ _ _ q=>neg_int q
def fin_bl{FA:List (Addr × Obj)}{σ:St}{H:Hp}{s:Shared}{Q:VK}{k k':Bool}(I:Inv X FA σ H s)(q:Q (.bl k) H)(e:k=k'):EP X FA σ Q (.bool k') s:=by
 subst e;exact⟨.bl k,H,I,rfl,q⟩
def op_lt:OpR X (compareOp .Lt) (rI0 fun i j=>.bl (decide (i<j))):=opB0 fun _ _ _ _ _ _ _ q=>lt_int q
def op_le:OpR X (compareOp .LtE) (rI0 fun i j=>.bl (decide (i<=j))):=opB0 fun _ _ _ _ _ _ _ q=>le_int q
def op_gt:OpR X (compareOp .Gt) (rI0 fun i j=>.bl (decide (j<i))):=opB0 fun _ _ _ _ _ _ _ q=>gt_int q
def op_ge:OpR X (compareOp .GtE) (rI0 fun i j=>.bl (decide (j<=i))):=opB0 fun _ _ _ _ _ _ _ q=>ge_int q
def op_isN:OpR X (compareOp .Is) (fun x y H Q=>y=.non/\Q (.bl (decide (x=.non))) H):=by
 intro FA s σ H x y v u Q I rx ry h;obtain⟨rfl,q⟩:=h;cases ry;refine is_none_gen (fin_bl I q ?_);cases x <;> first
  | (obtain⟨t,rfl⟩:=rx;rfl)
def nomark(b:Expr)(h:op≠.In:=by decide)(h2:op≠.NotIn:=by decide):behindInMarks op b=false:=by
 have e1:(op == CmpOp.In)=false:=by cases op <;> first | rfl | exact absurd rfl h
 have e2:(op == CmpOp.NotIn)=false:=by cases op <;> first | rfl | exact absurd rfl h2
 cases b <;> simp[behindInMarks,e1,e2]
def pe_cmpR{op:CmpOp}{r:R2}(ho:OpR X (compareOp op) r)(ha:PE X a ta)(hb:PE X b tb)(hm:behindInMarks op b=false):PE X (.Compare a [op] [b] pos) (tOp r ta tb):=by
 intro FA s σ H Q I h;exact wpAny_Compare1 (binT ha hb I h fun v u s2 x y H2 I2 rx ry q=>ho FA s2 σ H2 x y v u Q I2 rx ry q) hm
def tTest(t:TE):TT:=fun σ H Q=>t σ H fun x H'=>∃k,x=.bl k/\Q k H'
def pt_cmpR(ho:OpR X (compareOp op) r)(ha:PE X a ta)(hb:PE X b tb)(hm:behindInMarks op b=false):PT X (.Compare a [op] [b] pos) (tTest (tOp r ta tb)):=by
 intro FA s σ H Q I h
 refine wpAny_isTrue_Compare1 (thn (ha FA s σ H _ I h) fun v s1 ⟨x,H1,I1,r1,q1⟩=>thn (hb FA s1 σ H1 _ I1 q1) fun u s2 ⟨y,H2,I2,r2,q2⟩ =>
  thn (ho FA s2 σ H2 x y v u _ I2 r1 r2 q2) fun c s3 ⟨z,H3,I3,r3,k,e,q3⟩=>?_) hm
 subst e;cases r3;exact wpAny_truthy_bool ⟨H3,I3,q3⟩
def t8(r r':R2)(ta tb tc:TE):TE:=fun σ H Q=>ta σ H fun x H1=>tb σ H1 fun y H2=>r x y H2 fun z H3=>∃k,z=.bl k /\
 (if k=true then tc σ H3 fun w' H4=>r' y w' H4 Q else Q (.bl false) H3)
def u3(ho:OpR X (compareOp op) r)(ho':OpR X (compareOp op') r')(ha:PE X a ta)(hb:PE X b tb)(hc:PE X c tc)
  (hm:lastMarks [op,op'] [b,c]=false:=by with_unfolding_all rfl):PE X (.Compare a [op,op'] [b,c] pos) (t8 r r' ta tb tc):=by
 intro FA s σ H Q I h
 refine Compare_chain (thn (ha FA s σ H _ I h) fun v s1 ⟨x,H1,I1,r1,q1⟩=>chain_link (thn (hb FA s1 σ H1 _ I1 q1) fun u s2 ⟨y,H2,I2,r2,q2⟩ =>
  thn (ho FA s2 σ H2 x y v u _ I2 r1 r2 q2) fun d s3 ⟨z,H3,I3,r3,k,e,q3⟩=>?_)) hm
 subst e;cases r3;refine wpAny_truthy_bool ?_
 cases k with
 | false=>exact ite_ff ⟨.bl false,H3,I3,rfl,q3⟩
 | true=>exact ite_tt (chain_last (thn (hc FA s3 σ H3 _ I3 q3) fun w' s4 ⟨z',H4,I4,r4,q4⟩=>ho' FA s4 σ H4 y z' u w' Q I4 r2 r4 q4))
def TruV(K:qaa)(x:V)(H:Hp)(k:Bool):Prop :=
 match x with
 | .non=>k=false
 | .bl b=>k=b
 | .int i=>k=(i != 0)
 | .str y=>y.length<=sizeLine/\k=((y.length:Int) != 0)
 | .byt y=>y.size<=sizeLine/\k=((y.size:Int) != 0)
 | .ref p=>(∃xs,SqL K H p xs/\k=!xs.isEmpty)\/(∃xs,SqT K H p xs/\k=!xs.isEmpty)\/∃kvs,H p=some (.dK kvs)/\k=!kvs.isEmpty
 | _=>False
def rQ{κ:Type}{kvs:List (κ × V)}{vs:List (κ × Value)}(r:KV kvs vs):(!vs.isEmpty)=!kvs.isEmpty:=by
 cases r <;> rfl
def k8(r:aA xs its):(!its.toArray.isEmpty)=!xs.isEmpty:=by
 cases r <;> simp
def kX:(sizeLine:Nat)<2 ^ 63:=by rw[sizeLine_eq];decide
def oS:TruR X (fun x H Q=>∃k,TruV X.K x H k/\Q k H):=by
 intro FA s σ H x v Q I rx h;obtain⟨k,e,q⟩:=h;have hs:sizeLine=16777216:=sizeLine_eq
 cases x with
 | non =>
  cases rx;have e':k=false:=e;subst e';exact truthy_none ⟨H,I,q⟩
 | bl b =>
  cases rx;have e':k=b:=e;subst e';exact wpAny_truthy_bool ⟨H,I,q⟩
 | int i =>
  obtain⟨t,rfl⟩:=rx;have e':k=(i != 0):=e;subst e';exact PySem.P.truthy_int ⟨H,I,q⟩
 | str y =>
  obtain⟨t,rfl⟩:=rx;obtain⟨hy,e'⟩:y.length<=sizeLine/\k=((y.length:Int) != 0):=e;subst e';exact PySem.P.truthy_str (by lia) ⟨H,I.tok _,q⟩
 | byt y =>
  obtain⟨t,rfl⟩:=rx;obtain⟨hy,e'⟩:y.size<=sizeLine/\k=((y.size:Int) != 0):=e;subst e';exact PySem.W.truthy_bytes (by lia) ⟨H,I.tok _,q⟩
 | ref p =>
  cases rx;have e':(∃xs,SqL X.K H p xs/\k=!xs.isEmpty)\/(∃xs,SqT X.K H p xs/\k=!xs.isEmpty)\/∃kvs,H p=some (.dK kvs)/\k=!kvs.isEmpty:=e;rcases e' with ⟨xs,hx,e'⟩|⟨xs,hx,e'⟩|⟨kvs,hx,e'⟩
  ·subst e';obtain⟨its,r,pl,hz⟩:=I.list hx;have hlen:=r.length;exact wpAny_truthy_list pl.isList (by simp only[qak];lia) ⟨H,I.tok _,by rw[k8 r];exact q⟩
  ·subst e';obtain⟨its,r,pl,hz⟩:=I.tuple hx;have hlen:=r.length;exact truthy_tuple pl (by simp only[qak];lia) ⟨H,I.tok _,by rw[k8 r];exact q⟩
  ·subst e';obtain⟨hz,hS,vs,r,m⟩:kvs.length<=sizeLine/\(p == sysModules)=false/\∃vs,KV kvs vs/\s.heap.DictOf (jD X.prog X.w) p vs:=I.hok p _ hx;have hlen:kvs.length=vs.length:=Paired.length r;exact wpAny_truthy_dict hS m (by lia) ⟨H,I.tok _,by rw[rQ r];exact q⟩
 | _=>exact (show False from e).elim
def vk(ha:PE X a ta)(he:∀whole,isTrue a X.env whole=(do let v <-whole;standAt a.pos;holding [v] (truthy v))) :
  PT X a (fun σ H Q=>ta σ H fun x H'=>∃k,TruV X.K x H' k/\Q k H'):=by
 intro FA s σ H Q I h;exact isTrue_plain (thn (ha FA s σ H _ I h) fun v s1 ⟨x,H1,I1,r1,q1⟩=>oS FA s1 σ H1 x v Q I1 r1 q1) (he _)
def rN:OpR X (binaryOp .Add) (fun x y H Q=>∃i j,x=.str i/\y=.str j/\i.length+j.length<=sizeLine/\Q (.str (i++j)) H):=by
 intro FA s σ H x y v u Q I rx ry h;obtain⟨i,j,rfl,rfl,hz,q⟩:=h;obtain⟨t,rfl⟩:=rx;obtain⟨t',rfl⟩:=ry;exact add_str (fun t' tk=>⟨.str (i++j),H,I.tok _,⟨_,rfl⟩,q⟩) hz
def dy(r:aA [x] us):∃u,us=[u]/\aM x u:=by
 cases r with
 | cons r1 r2=>cases r2;exact⟨_,rfl,r1⟩
def vals2(r:aA [x,y] us):∃u w',us=[u,w']/\aM x u/\aM y w':=by
 cases r with
 | cons r1 r2 =>
  cases r2 with
  | cons r3 r4=>cases r4;exact⟨_,_,rfl,r1,r3⟩
def uB:cP X (.builtin "abs") (fun xs H Q=>∃i,xs=[.int i]/\Q (.int (if i<0 then -i else i)) H):=by
 intro FA s σ H xs us Q I r h;obtain⟨i,rfl,q⟩:=h;obtain⟨u,rfl,t,rfl⟩:=dy r;exact call_abs_int fun u tk=>⟨.int (if i<0 then -i else i),H,I.tok _,⟨_,rfl⟩,q⟩
def tf(hc:X.calm=true):cP X (.builtin "min") (fun xs H Q=>∃i j,xs=[.int i,.int j]/\Q (.int (if j<i then j else i)) H):=by
 intro FA s σ H xs us Q I r h;obtain⟨i,j,rfl,q⟩:=h;obtain⟨u,w',rfl,⟨t,rfl⟩,⟨t',rfl⟩⟩:=vals2 r;refine min_two_ints (I.ok.hd hc) fun h' tk k=>⟨_,H,I.kept k,?_,q⟩;by_cases hj:j<i
 ·rw[qae hj,qae hj];exact⟨_,rfl⟩
 ·rw[qat hj,qat hj];exact⟨_,rfl⟩
def mK:cP X (.type "int") (fun xs H Q=>(∃i,xs=[.int i]/\Q (.int i) H)\/∃k,xs=[.bl k]/\Q (.int (if k then 1 else 0)) H):=by
 intro FA s σ H xs us Q I r h;rcases h with ⟨i,rfl,q⟩|⟨k,rfl,q⟩
 ·obtain⟨u,rfl,t,rfl⟩:=dy r;exact call_int_int ⟨.int i,H,I,⟨_,rfl⟩,q⟩
 ·obtain⟨u,rfl,r1⟩:=dy r;cases r1;exact call_int_bool ⟨.int (if k then 1 else 0),H,I.tok _,⟨_,rfl⟩,q⟩
def nF:cP X (.type "str") (fun xs H Q=>∃i,xs=[.int i]/\i.natAbs.log2<1920/\Q (.str (toString i)) H):=by
 intro FA s σ H xs us Q I r h;obtain⟨i,rfl,hz,q⟩:=h;obtain⟨u,rfl,t,rfl⟩:=dy r;exact PySem.P.str_of_int hz ⟨.str _,H,I.tok _,⟨_,rfl⟩,q⟩
def LenV(K:qaa)(x:V)(H:Hp)(n:Nat):Prop :=
 match x with
 | .str y=>y.length<=sizeLine/\n=y.length
 | .byt y=>y.size<=sizeLine/\n=y.size
 | .ref p=>(∃xs,SqL K H p xs/\n=xs.length)\/∃xs,SqT K H p xs/\n=xs.length
 | _=>False
def iI:cP X (.builtin "len") (fun xs H Q=>∃x n,xs=[x]/\LenV X.K x H n/\Q (.int n) H):=by
 intro FA s σ H xs us Q I r h;obtain⟨x,n,rfl,e,q⟩:=h;obtain⟨u,rfl,rx⟩:=dy r;have hs:=sizeLine_eq
 cases x with
 | str y =>
  obtain⟨t,rfl⟩:=rx;obtain⟨hy,e'⟩:=e;subst e';exact len_str (by lia) ⟨.int _,H,I.tok _,⟨_,rfl⟩,q⟩
 | byt y =>
  obtain⟨t,rfl⟩:=rx;obtain⟨hy,e'⟩:=e;subst e';exact PySem.W.len_bytes (by lia) ⟨.int _,H,I.tok _,⟨_,rfl⟩,q⟩
 | ref p =>
  cases rx;have e':=e;rcases e' with ⟨xs,hx,e'⟩|⟨xs,hx,e'⟩
  ·subst e';obtain⟨its,r',pl,hz⟩:=I.list hx;have hlen:=r'.length;exact Calls.call_len_list pl.isList (by simp only[qak];lia) ⟨.int xs.length,H,I.tok _,⟨_,by simp only[qak];rw[hlen]⟩,q⟩
  ·subst e';obtain⟨its,r',pl,hz⟩:=I.tuple hx;have hlen:=r'.length;exact len_tuple pl (by simp only[qak];lia) ⟨.int xs.length,H,I.tok _,⟨_,by simp only[qak];rw[hlen]⟩,q⟩
 | _=>exact (e).elim
end
structure Room (k:Nat) (A:Around):Prop where
 hd:A.handled=none
 dp:A.depth+3 * k+105<recursionLimit
 un:A.units+16 * k+200<cLine
 gd:A.guards=some []
def Room.mono(r:Room k A)(h:j<=k):Room j A:=⟨r.hd,by have:=r.dp;lia,by have:=r.un;lia,r.gd⟩
def Room.deeper(r:Room (k+1) A)(env:Env):Room k (A.deeper env) :=
 ⟨r.hd,by have:=r.dp;show A.depth+1+3 * k+105<_;lia,by have:=r.un;show A.units+3+16 * k+200<_;lia,r.gd⟩
def Room.depth(r:Room k A):A.depth<recursionLimit:=by have:=r.dp;lia
def Room.units(r:Room k A):A.units+64<cLine:=by have:=r.un;lia
def tNil:TA:=fun _ H Q=>Q [] H
def tCons(ta:TE)(tr:TA):TA:=fun σ H Q=>ta σ H fun x H1=>tr σ H1 fun xs H2=>Q (x::xs) H2
section
variable {X:Cx} {e:Expr} {es:List Expr} {te:TE} {t:TA} {pos:Pos}
def pE:PA X [] tNil:=fun _ _ _ _ H Q I h=>Calls.spliced_nil ⟨[],H,I,.nil,h⟩
def jC(ha:PE X e te)(hr:PA X es t)(hs:starEach (e::es) X.env=(false,eval e X.env)::starEach es X.env:=by rfl):PA X (e::es) (tCons te t):=by
 intro pos FA s σ H Q I h;rw[hs];show wpAny _ _ (spliced ((false,eval e X.env)::backTo pos (starEach es X.env))) _ _ s;refine Calls.spliced_cons (thn (ha FA s σ H _ I h) fun u s1 ⟨x,H1,I1,r1,q1⟩=>?_);exact thn (hr pos FA s1 σ H1 _ I1 q1) fun us s2 ⟨xs,H2,I2,r2,q2⟩=>⟨x::xs,H2,I2,.cons r1 r2,q2⟩
def tTup(t:TA):TE:=fun σ H Q=>t σ H fun xs H1=>xs.length<=sizeLine/\∀p,H1 p=none->Q (.ref p) (upd H1 p (.tup xs))
def tLst(t:TA):TE:=fun σ H Q=>t σ H fun xs H1=>xs.length<=sizeLine/\∀p,H1 p=none->Q (.ref p) (upd H1 p (.lst xs))
def pe_tup{x1}(h:PA X es t):PE X (.Tuple es x1 pos) (tTup t):=by
 intro FA s σ H Q I hq;refine wpAny_Tuple_spliced (thn (h pos FA s σ H _ I hq) fun us s1 ⟨xs,H1,I1,r,z,q⟩=>⟨by rw[<-r.length];exact z,?_⟩);have hf:=I1.hok.fresh (qaj _);refine⟨.ref s1.heap.objs.size,upd H1 s1.heap.objs.size (.tup xs),I1.laid (t':=s1.toks) (fun b u e=>qac _ e) (qaj _) ?_,rfl,q _ hf⟩;exact⟨z,us,r,⟨_,qaw _ rfl,rfl,⟨_,rfl⟩,rfl⟩⟩
def pe_lst(h:PA X es t):PE X (.List es pos) (tLst t):=by
 intro FA s σ H Q I hq;refine wpAny_List_spliced (thn (h pos FA s σ H _ I hq) fun us s1 ⟨xs,H1,I1,r,z,q⟩=>⟨by rw[<-r.length];exact z,?_⟩);have hf:=I1.hok.fresh (qaj _);refine⟨.ref s1.heap.objs.size,upd H1 s1.heap.objs.size (.lst xs),I1.laid (t':=s1.toks) (fun b u e=>qac _ e) (qaj _) ?_,rfl,q _ hf⟩;exact⟨z,us,0,r,qaw _ rfl⟩
end
abbrev Sp:=List V->Hp->VK->XK->Prop
abbrev CXT:=List Env->Hp->Shared->XK->Value->Shared->Prop
structure Env0 (P:Program) (w:World) (K:qaa) (mg:Str->Option Value) (base:Heap) (A:Around) (outer:List Env) (s:Shared) (H:Hp):Prop where
 frames:A.frames=some outer
 mod:Mod K mg base
 bs:∀b o,base.get? b=some o->s.heap.get? b=some o/\H b=none
 bsz:base.objs.size<=s.heap.objs.size
 funs:s.heap.FunFrames base outer
 frf:∀b∈frs outer,H b=none
 hok:HOk P w H s.heap
 bare:AllBare s.gens
 tree:P.given.tree=none
inductive CE (outer:List Env) (P:Program) (w:World) (H:Hp) (s:Shared) (Q:VK) (u:Value) (s':Shared):Prop
 | mk (v:V) (H':Hp) (o:s'.os=s.os) (b:AllBare s'.gens) (n:Un (frs outer) [] H H' s.heap s'.heap) (k:HOk P w H' s'.heap) (r:aM v u) (q:Q v H'):CE outer P w H s Q u s'
def CR(CX:CXT)(outer:List Env)(P:Program)(w:World)(H:Hp)(s:Shared)(Q:VK)(E:XK)(r:Result)(s':Shared):Prop :=
 match r with
 | .ok (.ret u)=>CE outer P w H s Q u s'
 | .ok _=>False
 | .error e=>CX outer H s E e s'
structure FnOk (P:Program) (w:World) (K:qaa) (mg:Str->Option Value) (base:Heap) (CX:CXT) (k:Nat) (f:Addr) (fd:FuncData) (ps:List Str) (sp:Sp):Prop where
 len:∀vs H Q E,sp vs H Q E->vs.length=ps.length
 run:∀(A:Around) (outer:List Env) (s:Shared) (H:Hp) (args:Args) (us:List Value) (vs:List V) (Q:VK) (E:XK),Room k A->Env0 P w K mg base A outer s H->BindsTo s fd args (ps.zip us)->aA vs us->sp vs H Q E ->
  codeAny (model P w) A (.call (.ref f) args) (CR CX outer P w H s Q E) s
def FnOk.mono{P:Program}{w:World}{K:qaa}{mg:Str->Option Value}{base:Heap}{CX:CXT}{j k:Nat}{f:Addr}{fd:FuncData}{ps:List Str}{sp:Sp}(F:FnOk P w K mg base CX j f fd ps sp)(h:j<=k) :
  FnOk P w K mg base CX k f fd ps sp:=⟨F.len,fun A outer s H args us vs Q E hr=>F.run A outer s H args us vs Q E (hr.mono h)⟩
def FnOk.imp{P:Program}{w:World}{K:qaa}{mg:Str->Option Value}{base:Heap}{CX:CXT}{k:Nat}{f:Addr}{fd:FuncData}{ps:List Str}{sp sp':Sp}(F:FnOk P w K mg base CX k f fd ps sp)
  (h:∀vs H Q E,sp' vs H Q E->sp vs H Q E):FnOk P w K mg base CX k f fd ps sp' :=
 ⟨fun vs H Q E q=>F.len vs H Q E (h _ _ _ _ q),fun A outer s H args us vs Q E hr he hb hv hs=>F.run A outer s H args us vs Q E hr he hb hv (h _ _ _ _ hs)⟩
section
variable {X:Cx} {FA:List (Addr × Obj)} {σ:St} {H:Hp} {s s':Shared}
def Inv.env0(I:Inv X FA σ H s):Env0 X.prog X.w X.K X.mg X.base X.A X.stack s H :=
 ⟨I.ok.frames,I.ok.mod,I.bs,qav I.ok.bsz I.sz,I.stack,I.stkFree,I.hok,I.bare,I.ok.tree⟩
def Inv.after(I:Inv X FA σ H s)(h:CE X.stack X.prog X.w H s Q u s'):EP X FA σ Q u s':=by
 obtain⟨v,H',os,bare,un,hok,r,q⟩:=h;obtain⟨hh,g,d,t,os'⟩:=s';obtain rfl:=os;exact⟨v,H',I.call (h':=hh) (g':=g) (d':=d) (t':=t) un hok bare (fun b z=>absurd z (by simp)),r,q⟩
end
def kH(K:qaa)(fd:FuncData)(ps:List Str)(ds:List Value):Prop :=
 ∀(s:Shared) (us:List Value),K.In s.heap->(us++ds).length=ps.length->BindsTo s fd ⟨us,[]⟩ (ps.zip (us++ds))
def kH.all{K:qaa}{fd:FuncData}{ps:List Str}(h:∀us:List Value,us.length=ps.length->bindArgs fd ⟨us,[]⟩=pure (ps.zip us)):kH K fd ps []:=fun s us _ hl=>by
 rw[qbr] at hl ⊢;exact .of_eq (h us hl)
structure FnScope (N P:List Str) (sc:Scope):Prop where
 kind:sc.kind=.function
 co:sc.isCoroutine=false
 gen:sc.isGenerator=false
 nd:N.Nodup
 pre:N.take P.length=P
 par:∀x∈P,sc.names.lookup x=some .local\/sc.names.lookup x=some .cell
 nofree:∀y∈sc.names,y.2≠.free
def mj{kindOf:Str->Option NameKind}{x:Str}:∀{binds:List (Str × Value)} {m:Str->Option Value},(∀v,(x,v)∉binds)->bindL kindOf binds m x=m x
 | [],_,_=>rfl
 | (n,v)::r,m,h=>by
  unfold bindL;rw[mj fun w hw=>h w (qab _ hw)];split
  ·have:x≠n:=by rintro rfl;exact h v qaC
   simp[this]
  ·rfl
def mS{kindOf:Str->Option NameKind}{x:Str}:∀{binds:List (Str × Value)} {m:Str->Option Value},(∀v,(x,v)∉binds)->bindC kindOf binds m x=m x
 | [],_,_=>rfl
 | (n,v)::r,m,h=>by
  unfold bindC;rw[mS fun w hw=>h w (qab _ hw)];split
  ·rfl
  ·have:x≠n:=by rintro rfl;exact h v qaC
   simp[this]
def mm{kindOf:Str->Option NameKind}{x:Str}{v:Value}:∀{P:List Str} {vs:List Value} {i:Nat} {m:Str->Option Value},P.Nodup->P[i]?=some x->vs[i]?=some v->kindOf x=some .local ->
  bindL kindOf (P.zip vs) m x=some v
 | p::P,w::vs,0,m,nd,h1,h2,hk=>by
  simp at h1 h2;subst h1;subst h2;show bindL kindOf ((p,w)::P.zip vs) m p=_;unfold bindL;rw[mj fun v hv=>(qbi.mp nd).1 (qbK hv).1,qae hk];simp
 | p::P,w::vs,i+1,m,nd,h1,h2,hk=>by
  unfold bindL;exact mm (qbi.mp nd).2 (by simpa using h1) (by simpa using h2) hk
def mD{kindOf:Str->Option NameKind}{x:Str}{v:Value}:∀{P:List Str} {vs:List Value} {i:Nat} {m:Str->Option Value},P.Nodup->P[i]?=some x->vs[i]?=some v->kindOf x≠some .local ->
  bindC kindOf (P.zip vs) m x=some v
 | p::P,w::vs,0,m,nd,h1,h2,hk=>by
  simp at h1 h2;subst h1;subst h2;show bindC kindOf ((p,w)::P.zip vs) m p=_;unfold bindC;rw[mS fun v hv=>(qbi.mp nd).1 (qbK hv).1,qat hk];simp
 | p::P,w::vs,i+1,m,nd,h1,h2,hk=>by
  unfold bindC;exact mD (qbi.mp nd).2 (by simpa using h1) (by simpa using h2) hk
def start(N:List Str)(vs:List V):St:=vs.map some++List.replicate (N.length - vs.length) none
def nO(CX:CXT)(P:Program)(w:World)(K:qaa)(mg:Str->Option Value)(base:Heap)(N:List Str)(qual:Str)(scope:Scope)(f:Addr)(cd:Value)(A:Around)(outer:List Env)(s:Shared)(H:Hp)(E:XK):Cx where
 prog:=P
 w:=w
 K:=K
 mg:=mg
 base:=base
 A:=A.deeper (envOfC qual scope s.heap.objs.size f cd)
 N:=N
 s₀:=s
 H₀:=H
 env:=envOfC qual scope s.heap.objs.size f cd
 outer:=outer
 stack:=envOfC qual scope s.heap.objs.size f cd::outer
 ex:=[]
 calm:=true
 fn:=fun _=>true
 pn:=[]
 xe:=fun e s'=>wpAny (model P w) (A.deeper (envOfC qual scope s.heap.objs.size f cd)) (leaving (envOfC qual scope s.heap.objs.size f cd) e) (fun _ s''=>CX outer H s E e s'') (fun e' s''=>CX outer H s E e' s'') s'
def nT{sc:Scope}{n:Nat}{x:Str}(h:sc.names.lookup x=some .cell):∃c,(cellsFrom n sc.names []).lookup x=some c:=by
 have q:=PySem.W.cellsFrom_some sc.names n [] (.inl h);exact Option.isSome_iff_exists.mp q
def tF{CX:CXT}{P:Program}{w:World}{K:qaa}{mg:Str->Option Value}{base:Heap}{N ps:List Str}{qual:Str}{scope:Scope}{f:Addr}{cd:Value}{A:Around}{outer:List Env}{s s1:Shared}{H:Hp}{E:XK}{us:List Value}{vs:List V}
  (S:FnScope N ps scope) (hd:A.handled=none) (e0:Env0 P w K mg base A outer s H) (hl:vs.length=ps.length) (r:aA vs us)
  (x:InCallC s s.heap.objs.size (bindL (envOfC qual scope s.heap.objs.size f cd).kindOf (ps.zip us) fun _=>none) (cellsFrom (s.heap.objs.size+1) scope.names []) (bindC (envOfC qual scope s.heap.objs.size f cd).kindOf (ps.zip us) fun _=>none) s1) :
  Inv (nO CX P w K mg base N qual scope f cd A outer s H E) [] (start N vs) H s1:=by
 have hpl:ps.length<=N.length:=by have:=congrArg List.length S.pre;rw[qbC] at this;lia
 obtain⟨h1,tk,rfl,hk⟩:=x.done;have noA:∀b:Addr,b∉(nO CX P w K mg base N qual scope f cd A outer s H E).ex:=fun b z=>absurd (show b∈([]:List Addr) from z) (by simp)
 refine⟨⟨e0.mod,S.kind,rfl,rfl,qaj _,fun y z c h1 h2=>?_,fun y hy=>?_,fun y c _ h=>?_,fun _=>hd,Around.frames_deeper e0.frames,.inr ⟨rfl,rfl⟩,fun b z=>absurd z (noA b),e0.bs,e0.bsz,fun b _ _=>noA b,fun b z=>absurd z (noA b),e0.funs,e0.frf,e0.tree,⟨_,_,rfl,S.gen,S.co,rfl,rfl⟩⟩,
  rfl,e0.bare,Un.kept hk,⟨_,x.toInCall.ns,fun i y v h1 h2 h3=>?_⟩,fun y c h=>⟨_,x.cell y c h⟩,e0.hok.fresh (qaj _),fun y c h=>?_,fun p hp=>absurd (show p∈([]:List (Addr × Obj)) from hp) (by simp),e0.hok.kept hk,?_⟩
 ·exact name_of_addr x.apart (PySem.mem_of_lookup h1) (PySem.mem_of_lookup h2)
 ·rcases hy with hy|hy
  ·exact nT hy
  ·exact absurd rfl (S.nofree _ (PySem.mem_of_lookup hy))
 ·exact qbu (x.above y c (PySem.mem_of_lookup h))
 ·have hi:i<vs.length:=by
   unfold start at h2;by_cases hi:i<vs.length
   ·exact hi
   ·rw[qay (by simpa using hi)] at h2;rw[qaM] at h2
    split at h2 <;> cases h2
  have ha:vs[i]?=some v:=by
   unfold start at h2;rw[qai (by simpa using hi),qaD] at h2
   cases e:vs[i]? with
   | none=>rw[e] at h2;cases h2
   | some a=>rw[e] at h2;cases h2;rfl
  obtain⟨u,hu,rv⟩:=r.get ha;have hp:ps[i]?=some y:=by
   rw[<-S.pre,List.getElem?_take_of_lt (by lia)];exact h1
  have ndP:ps.Nodup:=by rw[<-S.pre];exact S.nd.sublist (List.take_sublist _ _)
  refine⟨u,rv,?_⟩;rcases S.par y (qaK hp) with k|k
  ·exact .inl ⟨k,mm ndP hp hu k⟩
  ·obtain⟨c,e⟩:=nT k;refine .inr ⟨.inl k,c,e,?_⟩;have q:=x.cell y c e;rw[mD ndP hp hu (by show scope.names.lookup y≠_;rw[k];decide)] at q;exact q
 ·exact e0.hok.fresh (qbu (x.above y c (PySem.mem_of_lookup h)))
 ·unfold start;show _=N.length;rw[qaN,qaS,qaX];lia
def fn_of{CX:CXT}{P:Program}{w:World}{K:qaa}{mg:Str->Option Value}{base:Heap}{k:Nat}{f:Addr}{name qual:Str}{params:Arguments}{body:List Stmt}{scope:Scope}{dV kV doc pm cdv ct oc:Value}{an od:Option Addr}
  {osl:Array (Option Value)} {N ps:List Str} {sp:Sp} (lk:K.lookup f=some ⟨oc,od,.func (PySem.W.fnOf name qual params body scope dV kV doc pm an cdv ct),osl⟩) (hcd:PySem.W.codeIn K cdv qual=true) (S:FnScope N ps scope)
  (len:∀vs H Q E,sp vs H Q E->vs.length=ps.length)
  (hbody:∀(A:Around) (outer:List Env) (s:Shared) (H:Hp) (vs:List V) (Q:VK) (E:XK),Room k (A.deeper (envOfC qual scope s.heap.objs.size f cdv))->sp vs H Q E ->
   ∃t,PSs (nO CX P w K mg base N qual scope f cdv A outer s H E) body t/\t { nx:=fun _ H'=>Q .non H',rt:=Q} (start N vs) H) :
  FnOk P w K mg base CX (k+1) f (PySem.W.fnOf name qual params body scope dV kV doc pm an cdv ct) ps sp:=by
 refine⟨len,fun A outer s H args us vs Q E hr e0 hb r hsp=>?_⟩;have hl:=len _ _ _ _ hsp;have KX:=e0.mod.kin.keeps fun b o e=>(e0.bs b o e).1;have lim:=e0.mod.nolimit.keeps fun b o e=>(e0.bs b o e).1;have hkind:∀y∈ps.zip us,scope.names.lookup y.1=some .local\/(scope.names.lookup y.1=some .cell/\((cellsFrom (s.heap.objs.size+1) scope.names []).lookup y.1).isSome=true):=fun ⟨n,v⟩ hy=>by
  rcases S.par n (qbK hy).1 with q|q
  ·exact .inl q
  ·exact .inr ⟨q,PySem.W.cellsFrom_some _ _ _ (.inl q)⟩
 refine codeAny_call_function hr.depth (KX _ _ lk) rfl S.co S.gen rfl (PySem.W.codeRec_of KX hcd) (hb _ _ _ _ ?_);refine wpAny_newFunctionEnv_cells S.kind hkind fun env he s1 x=>?_;subst he;refine⟨lim.keeps x.toInCall.keep,codeAny_func ?_⟩;obtain⟨t,ht,hq⟩:=hbody A outer s H vs Q E (hr.deeper _) hsp;have I:Inv (nO CX P w K mg base N qual scope f cdv A outer s H E) [] (start N vs) H s1:=tF S hr.hd e0 hl r x;refine wpAny_mono (ht [] s1 (start N vs) H _ I hq) (fun fl s' hs=>?_) fun e s' hs=>hs;have fin:∀{σ':St} {H':Hp} {v:V} {u:Value},Inv (nO CX P w K mg base N qual scope f cdv A outer s H E) [] σ' H' s'->aM v u->Q v H'->CE outer P w H s Q u s' :=
  fun {σ' H' v u} J rv q=>⟨v,H',J.os,J.bare,J.base,J.hok,rv,q⟩
 cases fl with
 | ret u =>
  obtain⟨v,σ',H',J,rv,q⟩:=hs;exact fin J rv q
 | next =>
  obtain⟨σ',H',J,q⟩:=hs;exact fin (v:=V.non) J rfl q
 | brk =>
  obtain⟨_,_,_,q⟩:=hs;exact False.elim q
 | cont =>
  obtain⟨_,_,_,q⟩:=hs;exact False.elim q
section
variable {X:Cx} {x:Str} {p pos:Pos} {e:Expr} {es:List Expr} {t:TA} {id T:String} {r:List V→Hp→VK→Prop}
def tCB(r:List V->Hp->VK->Prop)(t:TA):TE:=fun σ H Q=>t σ H fun vs H1=>r vs H1 Q
def jV(hc:cP X (.builtin id) r)(hg:Gl X x)(hm:X.mg x=none)(hv:bootBuiltins x=some (.builtin id))(ha:PA X (e::es) t)(hn:x≠"__name__":=by decide)(hdb:(x == ("__debug__":Str))=false:=by decide)
  (he:starEach (e::es) X.env=(false,eval e X.env)::starEach es X.env:=by rfl) (hpl:(backTo pos (starEach es X.env)).any (·.1)=false:=by rfl):PE X (.Call (.Name x p) (e::es) [] pos) (tCB r t):=by
 intro FA s σ H Q I h;refine wpAny_Call_Name_kw (i8 I hg hm hv ?_ hn hdb);exact PyProof.Rows.callWith_builtin1 (thn (ha pos FA s σ H _ I h) fun us s1 ⟨vs,H1,I1,r1,q1⟩=>hc FA s1 σ H1 vs us Q I1 r1 q1) he hpl
def mJ(hc:cP X (.type T) r)(hg:Gl X x)(hm:X.mg x=none)(hv:bootBuiltins x=some (.type T))(ha:PA X (e::es) t)(hn:x≠"__name__":=by decide)(hdb:(x == ("__debug__":Str))=false:=by decide)
  (he:starEach (e::es) X.env=(false,eval e X.env)::starEach es X.env:=by rfl) (hpl:(backTo pos (starEach es X.env)).any (·.1)=false:=by rfl):PE X (.Call (.Name x p) (e::es) [] pos) (tCB r t):=by
 intro FA s σ H Q I h;refine wpAny_Call_Name_kw (i8 I hg hm hv ?_ hn hdb);exact PyProof.Rows.callWith_type1 (thn (ha pos FA s σ H _ I h) fun us s1 ⟨vs,H1,I1,r1,q1⟩=>hc FA s1 σ H1 vs us Q I1 r1 q1) he hpl
end
end L2
namespace HT
open PySem PyProof.Rows
section
open PySem.SeqAt
open PySem.AutoSeq1 (wpAny_loadPart')
open PySem.MeetsSeq PySem.MeetsSeq2 PySem.MeetsSeq3
end
section
variable {prog:Program} {w:World} {A:Around} {E:Value→Shared→Prop} {s:Shared}
def cat_tup(ht:IsTup s.heap t vs.toArray)(hb:IsTup s.heap b ws.toArray)(hv:vs≠[])
  (h1:ws=[]->Q (.ref t) s) (h2:ws≠[]->Q (.ref s.heap.objs.size) { s with heap:=s.heap.push { cls:=.type "tuple",data:=.seq (vs++ws).toArray}})
  (hsz:vs.length+ws.length<=sizeLine):wpAny (model prog w) A (binaryOp .Add (.ref t) (.ref b)) Q E s:=by
 obtain⟨⟨cls,dd,data,sl⟩,ho,hc,n,hd⟩:=id ht;obtain⟨⟨cls2,dd2,data2,sl2⟩,ho2,hc2,n2,hd2⟩:=id hb;subst hc hd hc2 hd2;have e:vs.toArray++ws.toArray=(vs++ws).toArray:=by simp
 by_cases hw:ws=[]
 ·exact concat_meets ⟨_,ho,rfl⟩ ⟨_,ho2,rfl⟩ noFill_tuple_add seq_tuple_add PySem.F.slot_tuple_add PySem.F.entry_tuple_add (PySem.F.args_tuple_add_2 _ _)
   (tuple_addW1 t b vs.toArray ws.toArray n n2 dd dd2 sl sl2 (by simpa using hv) (by simp[hw])) ⟨ho,ho2,h1 hw⟩
 ·refine concat_meets ⟨_,ho,rfl⟩ ⟨_,ho2,rfl⟩ noFill_tuple_add seq_tuple_add PySem.F.slot_tuple_add PySem.F.entry_tuple_add (PySem.F.args_tuple_add_2 _ _)
   (tuple_addW2 t b vs.toArray ws.toArray n n2 dd dd2 sl sl2 (by simpa using hv) (by simpa using hw) (by exact hsz)) ⟨ho,ho2,?_⟩
  rw[e];exact h2 hw
def sIx(n d:Nat):Option Int->Nat
 | none=>d
 | some v=>if v<0 then (v+(n:Int)).toNat else min v.toNat n
def qP(v:Int)(n d:Nat):(if v<0 then max (v+(n:Int)) 0 else min v (n:Int))=((sIx n d (some v):Nat):Int):=by
 show (if v<0 then max (v+(n:Int)) 0 else min v (n:Int))=(((if v<0 then (v+(n:Int)).toNat else min v.toNat n):Nat):Int)
 grind
def rO(lo hi:Option Int)(n:Nat):Builtin.Slice.sliceAdjust lo hi 1 (n:Int)=(((sIx n 0 lo:Nat):Int),((sIx n n hi:Nat):Int)):=by
 refine Prod.ext ?_ ?_
 ·cases lo with
  | none=>rfl
  | some v=>exact qP v n 0
 ·cases hi with
  | none=>rfl
  | some v=>exact qP v n n
def rg(i j:Nat):Builtin.Slice.slicePlaces (i:Int) (j:Int) 1=j - i:=by
 unfold Builtin.Slice.slicePlaces;have h1:(1:Int)>0:=by lia
 simp only[h1,if_true,Int.ediv_one]
 split <;> lia
def kW(p:IsPart v o)(h:Q o s):wpAny (model prog w) A (Builtin.Slice.slicePartIndex v) Q E s:=by
 cases p with
 | none=>exact slicePart_none h
 | int i t=>exact slicePart_int h
def jW{sl:Addr}{vl vu:Value}{lo hi:Option Int}{n:Nat}{Q:Int × Int × Nat->Shared->Prop}(hs:s.heap.IsSliceOf sl vl vu .none)(pl:IsPart vl lo)(pu:IsPart vu hi)
  (h:Q (((sIx n 0 lo:Nat):Int),1,sIx n n hi - sIx n 0 lo) s):wpAny (model prog w) A (Builtin.Slice.sliceApplied (.ref sl) (pure (n:Int))) Q E s:=by
 obtain⟨os,hos,hcs,hds⟩:=id hs;refine qad (qad (wpAny_field hos hds rfl (qad (wpAny_field hos hds rfl (qad (wpAny_field hos hds rfl (qaz ?_)))))));refine qad (slicePart_none ?_);refine qad (kW pl (qad (kW pu (qad (qaz ?_)))));show wpAny _ _ (match Builtin.Slice.sliceAdjust lo hi 1 (n:Int) with | (lo,hi)=>pure (lo,(1:Int),Builtin.Slice.slicePlaces lo hi 1)) _ _ s;rw[rO lo hi n];show wpAny _ _ (pure (((sIx n 0 lo:Nat):Int),(1:Int),Builtin.Slice.slicePlaces ((sIx n 0 lo:Nat):Int) ((sIx n n hi:Nat):Int) 1)) _ _ s;rw[rg];exact qaz h
def vL(xs:Array Value)(i k:Nat):((List.range k).filterMap fun (m:Nat)=>xs[((i:Int)+(m:Int) * 1).toNat]?).toArray=((xs.toList.drop i).take k).toArray:=by
 have e:(fun (m:Nat)=>xs[((i:Int)+(m:Int) * 1).toNat]?)=fun m=>xs[i+m]?:=by
  grind
 rw[e]
 have:=pick_run xs i k
 rw[List.filterMap_map] at this;have e2:((fun x=>xs[x]?)∘fun x=>i+x)=fun m=>xs[i+m]?:=rfl;rw[e2] at this;rw[this]
def jM{t sl:Addr}{items:Array Value}{vl vu:Value}{lo hi:Option Int}{Q:Value->Shared->Prop}(ht:IsTup s.heap t items)(hs:s.heap.IsSliceOf sl vl vu .none)(pl:IsPart vl lo)(pu:IsPart vu hi)
  (hw:¬(sIx items.size 0 lo=0/\sIx items.size items.size hi=items.size))
  (h:Q (.ref s.heap.objs.size) { s with heap:=s.heap.push { cls:=.type "tuple",data:=.seq ((items.toList.drop (sIx items.size 0 lo)).take (sIx items.size items.size hi - sIx items.size 0 lo)).toArray}})
  (hsz:items.size<=sizeLine):wpAny (model prog w) A (getItem (.ref t) (.ref sl)) Q E s:=by
 have htake:sizeOk (.seq ((items.toList.drop (sIx items.size 0 lo)).take (sIx items.size items.size hi - sIx items.size 0 lo)).toArray):=by
  show ((items.toList.drop (sIx items.size 0 lo)).take (sIx items.size items.size hi - sIx items.size 0 lo)).toArray.size<=sizeLine;rw[qak,qbC,List.length_drop,Array.length_toList];lia
 obtain⟨os,hos,hcs,hds⟩:=id hs;have hTs:s.TypeIs (.ref sl) "slice":=⟨os,hos,hcs⟩;unfold getItem
 try with_reducible refine wpAny_holding ?_
 refine qad (wpAny_sequenceKey ht.typeIs (by decide) ?_)
 refine qad (wpAny_callSpecial?_slot ht.typeIs PyProof.Rows.slot_tuple_getitem
  (wpAny_call_entry PyProof.Rows.slot_tuple_getitem ht.typeIs entry_tuple_getitem ?_ (args_tuple_getitem _ _)))
 show wpAny _ _ (Builtin.Tuple.tupleItemsOf (.ref t) >>= _) _ _ s;refine qad (tupleItemsOf_ ht ?_);refine qad (wpAny_typeOf hTs ?_);refine qad (jW hs pl pu ?_);have hno:¬((((sIx items.size 0 lo:Nat):Int) == 0 && (1:Int) == 1 && (sIx items.size items.size hi - sIx items.size 0 lo) == items.size)=true):=by
  intro q;rw[qaZ,qaZ] at q;have q1:=eq_of_beq q.1.1;have q2:=eq_of_beq q.2;exact hw ⟨by lia,by lia⟩
 show wpAny _ _ (if (((sIx items.size 0 lo:Nat):Int) == 0 && (1:Int) == 1 && (sIx items.size items.size hi - sIx items.size 0 lo) == items.size)=true then _ else _) _ _ s;rw[qat hno,vL]
 first
  | exact qad (m:=Builtin.Tuple.tupleExact _) (wpAny_newObj_type (qad (qaz (qaz ⟨_,rfl,qaz h⟩))) htake)
end
end HT
namespace L2
open PySem PySem.Spec PyProof.Rows
abbrev TO:=St->Hp->(Option Int->Hp->Prop)->Prop
def PO(X:Cx)(e:Option Expr)(t:TO):Prop :=
 ∀(FA:List (Addr × Obj)) (s:Shared) (σ:St) (H:Hp) (Q:Option Int->Hp->Prop),Inv X FA σ H s->t σ H Q ->
  wpAny (model X.prog X.w) X.A (evalPart e X.env) (fun u s'=>∃o H',Inv X FA σ H' s'/\IsPart u o/\Q o H') X.xe s
def tNoPart:TO:=fun _ H Q=>Q none H
def tPart(t:TE):TO:=fun σ H Q=>t σ H fun x H1=>∃i,x=.int i/\Q (some i) H1
def rG:∀{us:List Value},aA (ns.map V.int) us->IntsAre us ns:=by
 induction ns with
 | nil=>intro us r;cases r;exact .nil
 | cons n ns ih =>
  intro us r
  cases r with
  | cons r1 r2 =>
   obtain⟨t,e⟩:=r1;subst e;exact .cons n t (ih r2)
section
variable {X:Cx} {e:Expr} {te:TE} {lo hi:Option Expr} {tl th:TO} {pos p2:Pos}
def po_none:PO X none tNoPart:=by
 intro FA s σ H Q I h;rw[evalPart_none];exact qaz ⟨none,H,I,.none,h⟩
def po_some(h:PE X e te):PO X (some e) (tPart te):=by
 intro FA s σ H Q I hw;refine thn (h FA s σ H _ I hw) fun u s1 ⟨x,H1,I1,r1,q1⟩=>?_;obtain⟨i,rfl,q⟩:=q1;obtain⟨t,rfl⟩:=r1;exact⟨some i,H1,I1,.int i t,q⟩
def SlR(X:Cx)(r:V->Option Int->Option Int->Hp->VK->Prop):Prop :=
 ∀(FA:List (Addr × Obj)) (s:Shared) (σ:St) (H:Hp) (x:V) (v vl vu:Value) (lo hi:Option Int) (sl:Addr) (Q:VK),Inv X FA σ H s->aM x v->s.heap.IsSliceOf sl vl vu .none->IsPart vl lo->IsPart vu hi->r x lo hi H Q ->
  ∃T id,typeLookup (.type T) "__getitem__"=pure (some (.builtin id))/\s.TypeIs v T/\wpAny (model X.prog X.w) X.A (getItem v (.ref sl)) (EP X FA σ Q) X.xe s
def tSl(r:V->Option Int->Option Int->Hp->VK->Prop)(te:TE)(tl th:TO):TE:=fun σ H Q=>te σ H fun x H1=>tl σ H1 fun l H2=>th σ H2 fun u H3=>r x l u H3 Q
def nW(hr:SlR X r)(he:PE X e te)(hl:PO X lo tl)(hu:PO X hi th):PE X (.Subscript e (.Slice lo hi none p2) pos) (tSl r te tl th):=by
 intro FA s σ H Q I h;refine Subscript_ (thn (he FA s σ H _ I h) fun v s1 ⟨x,H1,I1,r1,q1⟩=>?_);refine wpAny_Slice (thn (hl FA s1 σ H1 _ I1 q1) fun vl s2 ⟨l,H2,I2,pl,q2⟩=>thn (hu FA s2 σ H2 _ I2 q2) fun vu s3 ⟨u,H3,I3,pu,q3⟩=>?_);refine qaz ?_;have I4:Inv X FA σ H3 { s3 with heap:=s3.heap.push { cls:=.type "slice",data:=.fields #[vl,vu,.none]}}:=I3.kept (t':=s3.toks) fun b ob q=>qac _ q;obtain⟨T,id,hT,ht,hg⟩:=hr FA { s3 with heap:=s3.heap.push { cls:=.type "slice",data:=.fields #[vl,vu,.none]}} σ H3 x v vl vu l u s3.heap.objs.size Q I4 r1 (Heap.IsSliceOf.new ..) pl pu q3;exact tail_any ht hT hg (by with_unfolding_all rfl)
def kj(xs:List V)(lo hi:Option Int):List V:=(xs.drop (HT.sIx xs.length 0 lo)).take (HT.sIx xs.length xs.length hi - HT.sIx xs.length 0 lo)
def jQ(xs:List V)(lo hi:Option Int):(kj xs lo hi).length<=xs.length:=by
 unfold kj;rw[qbC,List.length_drop];lia
def rSlT(K:qaa):V->Option Int->Option Int->Hp->VK->Prop:=fun x lo hi H Q=>∃a xs,x=.ref a/\SqT K H a xs /\
 ¬(HT.sIx xs.length 0 lo=0/\HT.sIx xs.length xs.length hi=xs.length)/\∀p,H p=none->Q (.ref p) (upd H p (.tup (kj xs lo hi)))
def sl_tup:SlR X (rSlT X.K):=by
 intro FA s σ H x v vl vu lo hi sl Q I rx hs pl pu h;obtain⟨a,xs,rfl,hx,hw,q⟩:=h;cases rx;obtain⟨its,r,ht,hz⟩:=I.tuple hx;have hlen:its.toArray.size=xs.length:=by exact r.length.symm
 refine⟨"tuple",_,PyProof.Rows.slot_tuple_getitem.lookup,ht.typeIs,?_⟩;refine HT.jM ht hs pl pu (by rw[hlen];exact hw) ?_ (by rw[hlen];exact hz);rw[hlen];refine⟨.ref s.heap.objs.size,_,I.laid (t':=s.toks) (fun b ob q=>qac _ q) (qaj _) ?_,rfl,q _ (I.hok.fresh (qaj _))⟩;exact⟨qav (jQ xs lo hi) hz,_,(r.drop (HT.sIx xs.length 0 lo)).take (HT.sIx xs.length xs.length hi - HT.sIx xs.length 0 lo),fi.new _ _⟩
def rCatT(K:qaa):R2:=fun x y H Q=>∃a b xs ys,x=.ref a/\y=.ref b/\SqT K H a xs/\SqT K H b ys/\xs≠[]/\xs.length+ys.length<=sizeLine /\
 (ys=[]->Q (.ref a) H)/\(ys≠[]->∀p,H p=none->Q (.ref p) (upd H p (.tup (xs++ys))))
def aA.nil_iff(r:aA xs us):us=[]↔xs=[]:=by
 cases r with
 | nil=>simp
 | cons _ _=>simp
def op_catT:OpR X (binaryOp .Add) (rCatT X.K):=by
 intro FA s σ H x y v u Q I rx ry h;obtain⟨a,b,xs,ys,rfl,rfl,ha,hb,hx,hz,q1,q2⟩:=h;cases rx;cases ry;obtain⟨its,r1,p1,_⟩:=I.tuple ha;obtain⟨its2,r2,p2,_⟩:=I.tuple hb;refine HT.cat_tup p1 p2 (fun z=>hx (r1.nil_iff.mp z)) (fun z=>⟨.ref a,H,I,rfl,q1 (r2.nil_iff.mp z)⟩) (fun z=>?_) (by rw[<-r1.length,<-r2.length];exact hz);refine⟨.ref s.heap.objs.size,_,I.laid (t':=s.toks) (fun b ob q=>qac _ q) (qaj _) ?_,rfl,q2 (fun w=>z (r2.nil_iff.mpr w)) _ (I.hok.fresh (qaj _))⟩;exact⟨by rw[qaN];exact hz,_,r1.append r2,fi.new _ _⟩
end
def ixN(n:Nat)(i:Int):Option Nat:=if 0<=i then (if i<n then some i.toNat else none) else if -(n:Int)<=i then some (i+n).toNat else none
def atI{α:Type}(xs:List α)(i:Int):Option α:=(ixN xs.length i).bind fun j=>xs[j]?
def qX(h:ixN n i=some j):seqIndex? i n=some j/\j<n /\ -(n:Int)<=i/\i<n:=by
 unfold ixN at h;by_cases h0:0<=i
 ·rw[qae h0] at h;by_cases h1:i<n
  ·rw[qae h1] at h;have e:=Option.some.inj h;exact⟨by rw[seqIndex_of h0 h1,e],by lia,by lia,h1⟩
  ·rw[qat h1] at h;cases h
 ·rw[qat h0] at h;by_cases h1:-(n:Int)<=i
  ·rw[qae h1] at h;have e:=Option.some.inj h;exact⟨by rw[seqIndex_neg (by lia) h1,e],by lia,h1,by lia⟩
  ·rw[qat h1] at h;cases h
def lO(h:atI xs i=some v):∃j,seqIndex? i xs.length=some j/\xs[j]?=some v/\j<xs.length /\ -(xs.length:Int)<=i/\i<xs.length:=by
 unfold atI at h
 cases e:ixN xs.length i with
 | none=>rw[e] at h;cases h
 | some j =>
  rw[e] at h;obtain⟨h1,h2,h3,h4⟩:=qX e;exact⟨j,h1,h,h2,h3,h4⟩
def fM{α:Type}{xs:List α}{j:Nat}{v:α}(h:xs[j]?=some v):atI xs (j:Int)=some v:=by
 have hj:=(qaf.mp h).1;have e:ixN xs.length (j:Int)=some j:=by
  unfold ixN
  simp_all
 unfold atI;rw[e];exact h
def ju(b:Expr):Prop:=∀o i,subscripted b false o i=operate [o,i] (getItem o i)
def IxR(X:Cx)(r:R2):Prop :=
 ∀(value slice:Expr) (FA:List (Addr × Obj)) (s:Shared) (σ:St) (H:Hp) (x y:V) (v u:Value) (Q:VK),Inv X FA σ H s->aM x v->aM y u->r x y H Q ->
  subscripted slice false v u=operate [v,u] (getItem v u)->wpAny (model X.prog X.w) X.A (subscriptTail value slice v u) (EP X FA σ Q) X.xe s
def MtR(X:Cx)(id:String)(r:V->List V->Hp->VK->Prop):Prop :=
 ∀(FA:List (Addr × Obj)) (s:Shared) (σ:St) (H:Hp) (x:V) (xs:List V) (v:Value) (us:List Value) (Q:VK),Inv X FA σ H s->aM x v->aA xs us->r x xs H Q ->
  wpAny (model X.prog X.w) X.A (call (.builtin id) (v::us)) (EP X FA σ Q) X.xe s
section
variable {X:Cx} {a b:Expr} {ta tb:TE} {pos:Pos}
def IxR.or(h:IxR X r)(h':IxR X r'):IxR X (fun x y H Q=>r x y H Q\/r' x y H Q):=by
 intro value slice FA s σ H x y v u Q I rx ry q hs;rcases q with q|q
 ·exact h value slice FA s σ H x y v u Q I rx ry q hs
 ·exact h' value slice FA s σ H x y v u Q I rx ry q hs
def pe_ix{r:R2}(hr:IxR X r)(ha:PE X a ta)(hb:PE X b tb)(hs:ju b):PE X (.Subscript a b pos) (tOp r ta tb):=by
 intro FA s σ H Q I h;exact Subscript_ (binT ha hb I h fun v u s2 x y H2 I2 rx ry q=>hr a b FA s2 σ H2 x y v u Q I2 rx ry q (hs _ _))
def rIxL(K:qaa):R2:=fun x y H Q=>∃p xs i v,x=.ref p/\y=.int i/\SqL K H p xs/\atI xs i=some v/\Q v H
def rIxT(K:qaa):R2:=fun x y H Q=>∃p xs i v,x=.ref p/\y=.int i/\SqT K H p xs/\atI xs i=some v/\Q v H
def rIxS:R2:=fun x y H Q=>∃z i c,x=.str z/\y=.int i/\z.length<=sizeLine/\atI z.cps.toList i=some c/\Q (.str ⟨#[c]⟩) H
def ix_list:IxR X (rIxL X.K):=by
 intro value slice FA s σ H x y v u Q I rx ry h hs;obtain⟨p,xs,i,z,rfl,rfl,hq,he,q⟩:=h;cases rx;obtain⟨t,rfl⟩:=ry;obtain⟨its,r,pl,hz⟩:=I.list hq;obtain⟨j,h1,h2,h3,h4,h5⟩:=lO he;obtain⟨w,ew,rw'⟩:=r.get h2;have hl:=r.length;have hn:=kX;have fin:EP X FA σ Q w s:=⟨z,H,I,rw',q⟩;by_cases h0:0<=i
 ·have hj:i.toNat=j:=by
   rw[seqIndex_of h0 h5] at h1;exact Option.some.inj h1
  exact item_listR pl.isList h0 (by lia) (by rw[hj];simpa using ew) fin hs
 ·have hj:(i+(its.toArray.size:Int)).toNat=j:=by
   rw[seqIndex_neg (by lia) h4] at h1;rw[qak,<-hl];exact Option.some.inj h1
  exact subscriptTail_builtinR pl.isList.typeIs slot_list_getitem.lookup
   (wpAny_getItem_list_neg pl.isList (by lia) (by rw[qak] <;> lia) (by lia) (by rw[hj];simpa using ew) ⟨rfl,fin⟩) hs
def ix_tup:IxR X (rIxT X.K):=by
 intro value slice FA s σ H x y v u Q I rx ry h hs;obtain⟨p,xs,i,z,rfl,rfl,hq,he,q⟩:=h;cases rx;obtain⟨t,rfl⟩:=ry;obtain⟨its,r,pl,hz⟩:=I.tuple hq;obtain⟨j,h1,h2,h3,h4,h5⟩:=lO he;obtain⟨w,ew,rw'⟩:=r.get h2;have hl:=r.length;have hn:=kX;have fin:EP X FA σ Q w s:=⟨z,H,I,rw',q⟩;exact subscriptTail_builtinR pl.typeIs slot_tuple_getitem.lookup
  (getItem_tuple pl (by lia) (by lia) (by rw[qak,<-hl];exact h1) (by simpa using ew) ⟨rfl,fin⟩) hs
def ix_str:IxR X rIxS:=by
 intro value slice FA s σ H x y v u Q I rx ry h hs;obtain⟨z,i,c,rfl,rfl,hz,he,q⟩:=h;obtain⟨t,rfl⟩:=rx;obtain⟨t',rfl⟩:=ry;obtain⟨j,h1,h2,h3,h4,h5⟩:=lO he;have hl:z.cps.toList.length=z.length:=by simp[Str.length]
 rw[hl] at h1 h4 h5;have hn:=kX
 exact tail_any (typeIs_str s z t) slot_str_getitem.lookup (getItem_str (by
  have e1:decide (i < -(2 ^ 63:Int))=false:=decide_eq_false (by lia);have e2:decide (i>=2 ^ 63)=false:=decide_eq_false (by lia)
  rw[e1,e2,Bool.or_false]) (by rw[h1];simpa using h2) ⟨.str ⟨#[c]⟩,H,I.tok _,⟨_,rfl⟩,q⟩) hs
def rIx(K:qaa):R2:=fun x y H Q=>rIxL K x y H Q\/rIxT K x y H Q\/rIxS x y H Q
def ix_seq:IxR X (rIx X.K):=ix_list.or (ix_tup.or ix_str)
def sv(its:List Value)(n j:Nat)(u:Value):Obj.mapSeq (·.setIfInBounds j u) { cls:=.type "list",data:=.seq its.toArray n}={ cls:=.type "list",data:=.seq (its.set j u).toArray n}:=by
 simp[Obj.mapSeq]
def Inv.lst{FA:List (Addr × Obj)}{σ:St}{H:Hp}{s:Shared}{p:Addr}{xs:List V}(I:Inv X FA σ H s)(h:H p=some (.lst xs)) :
  ∃(its:List Value) (n:Nat),aA xs its/\s.heap.get? p=some { cls:=.type "list",data:=.seq its.toArray n}/\xs.length<=sizeLine:=by
 obtain⟨z,its,n,r,e⟩:=I.hok p _ h;exact⟨its,n,r,e,z⟩
def Inv.lstUpd{FA:List (Addr × Obj)}{σ:St}{H:Hp}{s:Shared}{p:Addr}{xs ys:List V}{its its':List Value}{n n':Nat}{f:Obj->Obj}(I:Inv X FA σ H s)(h:H p=some (.lst xs))
  (ho:s.heap.get? p=some { cls:=.type "list",data:=.seq its.toArray n}) (hf:f { cls:=.type "list",data:=.seq its.toArray n}={ cls:=.type "list",data:=.seq its'.toArray n'}) (r:aA ys its') (hz:ys.length<=sizeLine) (t:Nat) :
  Inv X FA σ (upd H p (.lst ys)) { s with heap:=s.heap.update p f,toks:=t}:=by
 have e:(s.heap.update p f).get? p=some { cls:=.type "list",data:=.seq its'.toArray n'}:=by
  rw[qbL f ho (by rw[hf] <;> rfl),hf]
 refine I.write (by rw[h];trivial) (.inl rfl) (fun b u hb q=>(qbH _ _ (Ne.symm hb)).trans q) ⟨_,e⟩ ?_;exact⟨hz,its',n',r,e⟩
def rSetL:V->V->V->Hp->(Hp->Prop)->Prop:=fun o i v H Q=>∃p xs k j,o=.ref p/\i=.int k/\H p=some (.lst xs)/\ixN xs.length k=some j/\Q (upd H p (.lst (xs.set j v)))
def uP:PSet X rSetL:=by
 intro FA s σ H o i v ov iv u Q I ro ri rv h;obtain⟨p,xs,k,j,rfl,rfl,hp,hj,q⟩:=h;cases ro;obtain⟨t,rfl⟩:=ri;obtain⟨its,n,r,ho,hz⟩:=I.lst hp;obtain⟨h1,h2,h3,h4⟩:=qX hj;have hl:=r.length;have hn:=kX;have I' :=
  I.lstUpd hp ho (sv its n j u) (r.set rv j) (by rw[List.length_set];exact hz) s.toks
 by_cases h0:0<=k
 ·have hk:k.toNat=j:=by
   rw[seqIndex_of h0 h4] at h1;exact Option.some.inj h1
  exact PySem.W.ki_setAt ho h0 (by lia) (by rw[qak,<-hl];exact h4) (by rw[hk];exact⟨_,I',q⟩)
 ·have hk:(k+(its.toArray.size:Int)).toNat=j:=by
   rw[seqIndex_neg (by lia) h3] at h1;rw[qak,<-hl];exact Option.some.inj h1
  exact PySem.W.ki_setBack ho (by lia) (by rw[qak,<-hl];exact h3) (by lia) (by rw[hk];exact⟨_,I',q⟩)
def pG(lo hi:Option Int)(n:Nat):(sliceBounds lo hi none n).1=((HT.sIx n 0 lo:Nat):Int)/\(sliceBounds lo hi none n).2.1=((HT.sIx n n hi:Nat):Int)/\(sliceBounds lo hi none n).2.2=1:=by
 refine⟨?_,?_,rfl⟩
 ·cases lo with
  | none=>simp[sliceBounds,HT.sIx]
  | some i =>
   simp only[sliceBounds,HT.sIx,Option.getD_none,show (1:Int)>0 by decide,if_true];by_cases h:i<0
   ·simp only[h,if_true] <;> lia
   ·simp only[h,if_false] <;> lia
 ·cases hi with
  | none=>simp[sliceBounds,HT.sIx]
  | some i =>
   simp only[sliceBounds,HT.sIx,Option.getD_none,show (1:Int)>0 by decide,if_true];by_cases h:i<0
   ·simp only[h,if_true] <;> lia
   ·simp only[h,if_false] <;> lia
def m3(its:List Value)(lo hi:Option Int):slicePick its.toArray lo hi none=((its.drop (HT.sIx its.length 0 lo)).take (HT.sIx its.length its.length hi - HT.sIx its.length 0 lo)).toArray:=by
 obtain⟨h1,h2,h3⟩:=pG lo hi its.toArray.size;unfold slicePick;rw[h1,h2,h3];simp only[sliceRange_one,pick_run] <;> rfl
def rSlL(K:qaa):V->Option Int->Option Int->Hp->VK->Prop:=fun x lo hi H Q=>∃a xs,x=.ref a/\SqL K H a xs/\∀p,H p=none->Q (.ref p) (upd H p (.lst (kj xs lo hi)))
def q0:SlR X (rSlL X.K):=by
 intro FA s σ H x v vl vu lo hi sl Q I rx hs pl pu h;obtain⟨a,xs,rfl,hx,q⟩:=h;cases rx;obtain⟨its,r,ht,hz⟩:=I.list hx;have hlen:=r.length;refine⟨"list",_,slot_list_getitem.lookup,ht.isList.typeIs,?_⟩;refine wpAny_getItem_list_slice ht.isList hs pl pu .none (by simp) ?_ (by rw[qak] <;> lia);rw[m3,<-hlen];refine⟨.ref s.heap.objs.size,_,I.laid (t':=s.toks) (fun b ob q=>qac _ q) (qaj _) ?_,rfl,q _ (I.hok.fresh (qaj _))⟩;exact⟨qav (jQ xs lo hi) hz,_,0,(r.drop (HT.sIx xs.length 0 lo)).take (HT.sIx xs.length xs.length hi - HT.sIx xs.length 0 lo),qaw _ rfl⟩
def oZ:cP X (.type "list") (fun xs H Q=>∃p ys,xs=[.ref p]/\(SqL X.K H p ys\/SqT X.K H p ys)/\∀l,H l=none->Q (.ref l) (upd H l (.lst ys))):=by
 intro FA s σ H xs us Q I r h;obtain⟨p,ys,rfl,hq,q⟩:=h;obtain⟨u,rfl,rx⟩:=dy r;cases rx;have fin:∀(its:List Value),aA ys its->ys.length<=sizeLine->∀(h':Heap) (c':Nat),(∀b o',s.heap.get? b=some o'->h'.get? b=some o') ->
   h'.get? s.heap.objs.size=some { cls:=.type "list",dict:=none,data:=.seq its.toArray c',slots:=#[]}->EP X FA σ Q (.ref s.heap.objs.size) { s with heap:=h'}:=fun its r' hz h' c' kp e =>
  ⟨.ref s.heap.objs.size,_,I.laid (t':=s.toks) kp (qaj _) (show ObjOk X.prog X.w _ h' _ (.lst ys) from⟨hz,its,c',r',e⟩),rfl,q _ (I.hok.fresh (qaj _))⟩
 rcases hq with hq|hq
 ·obtain⟨its,r',pl,hz⟩:=I.list hq;have hlen:=r'.length;obtain⟨o,ho,hc,n,hd⟩:=pl.isList;exact call_list_seq p (.inl rfl) ho hc hd (fun h' c' kp e=>fin its r' hz h' c' kp e) (by simp only[qak] <;> lia)
 ·obtain⟨its,r',pl,hz⟩:=I.tuple hq;have hlen:=r'.length;obtain⟨o,ho,hc,n,hd⟩:=pl;exact call_list_seq p (.inr rfl) ho hc hd (fun h' c' kp e=>fin its r' hz h' c' kp e) (by simp only[qak] <;> lia)
def iQ:cP X (.type "tuple") (fun xs H Q=>∃p ys,xs=[.ref p]/\((SqL X.K H p ys/\∀l,H l=none->Q (.ref l) (upd H l (.tup ys)))\/(SqT X.K H p ys/\Q (.ref p) H))):=by
 intro FA s σ H xs us Q I r h;obtain⟨p,ys,rfl,h⟩:=h;obtain⟨u,rfl,rx⟩:=dy r;cases rx;rcases h with ⟨hq,q⟩|⟨hq,q⟩
 ·obtain⟨its,r',pl,hz⟩:=I.list hq;have hlen:=r'.length;refine call_tuple_list pl.isList (fun h' kp=>?_) (by simp only[qak] <;> lia);have I1:=I.kept (t':=s.toks) kp;have I2 :=
   I1.laid (t':=s.toks) (fun b o e=>qac _ e) (qaj _) (show ObjOk X.prog X.w _ _ _ (.tup ys) from⟨hz,its,r',fi.new _ _⟩)
  exact⟨.ref h'.objs.size,_,I2,rfl,q _ (I1.hok.fresh (qaj _))⟩
 ·obtain⟨its,r',pl,hz⟩:=I.tuple hq;exact call_tuple_same pl ⟨.ref p,H,I,rfl,q⟩
def tyV(K:qaa)(T:String)(x:V)(H:Hp):Prop:=match x with
 | .str _=>T="str"
 | .int _=>T="int"
 | .ref p=>(T="list"/\∃xs,SqL K H p xs)\/(T="tuple"/\∃o,K.lookup p=some o/\o.cls=.type "tuple"/\o.dict=none) \/
   (T="dict"/\((∃kvs,H p=some (.dK kvs))\/∃kvs,H p=some (.dT kvs)))\/(T="set"/\∃S n,H p=some (.set S n))
 | _=>False
def tyV_is{FA:List (Addr × Obj)}{σ:St}{H:Hp}{s:Shared}{T:String}{x:V}{v:Value}(I:Inv X FA σ H s)(r:aM x v)(ty:tyV X.K T x H) :
  s.TypeIs v T/\∀a,v=.ref a->∃ob,s.heap.get? a=some ob/\ob.dict=none:=by
 cases x with
 | str z =>
  obtain⟨t,rfl⟩:=r;cases (ty);exact⟨typeIs_str s z t,fun _ e=>nomatch e⟩
 | int i =>
  obtain⟨t,rfl⟩:=r;cases (ty);exact⟨typeIs_int s i t,fun _ e=>nomatch e⟩
 | ref p =>
  cases r;rcases ty with ⟨rfl,xs,hq⟩|⟨rfl,o,hk,hc,hd⟩|⟨rfl,hk⟩|⟨rfl,S,n,hk⟩
  ·obtain⟨its,_,pl,_⟩:=I.list hq;refine⟨pl.isList.typeIs,fun a e=>?_⟩;cases e;obtain⟨o,n,e,c,hd,_⟩:=pl;exact⟨o,e,hd⟩
  ·refine⟨⟨o,I.kIn p o hk,hc⟩,fun a e=>?_⟩;cases e;exact⟨o,I.kIn _ o hk,hd⟩
  ·have z:∃o,s.heap.get? p=some o/\o.ExactDict:=by
    rcases hk with ⟨kvs,hk⟩|⟨kvs,hk⟩
    ·obtain⟨_,_,_,_,o,_,_,e,ex,_⟩:=I.hok p _ hk;exact⟨o,e,ex⟩
    ·obtain⟨_,_,_,_,o,_,_,e,ex,_⟩:=I.hok p _ hk;exact⟨o,e,ex⟩
   obtain⟨o,e,ex⟩:=z;refine⟨⟨o,e,ex.1⟩,fun a e2=>?_⟩;cases e2;exact⟨o,e,ex.2.1⟩
  ·obtain⟨o,_,_,_,e,ex,_⟩:=I.hok p _ hk;refine⟨⟨o,e,ex.1⟩,fun a e2=>?_⟩;cases e2;exact⟨o,e,ex.2.1⟩
 | _=>exact False.elim ty
def tBM(K:qaa)(T:String)(r:V->List V->Hp->VK->Prop)(to:TE)(t:TA):TE:=fun σ H Q=>to σ H fun x H1=>tyV K T x H1/\t σ H1 fun xs H2=>r x xs H2 Q
variable {o e:Expr} {es:List Expr} {to:TE} {t:TA} {name:Str} {apos cpos:Pos} {T id:String} {r:V→List V→Hp→VK→Prop}
def pe_bm(pa:PlainAttrs T)(slot:Slot T name id)(hty:typeOf (.builtin id)=pure (.type "method_descriptor"))(hm:MtR X id r)(ho:PE X o to)(ha:PA X (e::es) t)
  (hbase:attributeBase o name X.env (eval o X.env)=eval o X.env:=by rfl)
  (hfew:((backTo cpos (starEach (e::es) X.env)).all (fun x=>!x.1) && (backToKw cpos (keywordEach [] X.env)).all (fun x=>x.1.isSome)
   && decide ((e::es).length+([]:List Keyword).length+(if ([]:List Keyword).isEmpty then 0 else 1)<30))=true:=by rfl)
  (hline:(apos.endLine == cpos.line)=true:=by rfl) (hs:starEach (e::es) X.env=(false,eval e X.env)::starEach es X.env:=by rfl) (hplain:(backTo cpos (starEach es X.env)).any (·.1)=false:=by rfl) :
  PE X (.Call (.Attribute o name apos) (e::es) [] cpos) (tBM X.K T r to t):=by
 intro FA s σ H Q I h;refine wpAny_Call_method_late hbase hfew hline rfl (thn (ho FA s σ H _ I h) fun v s1 ⟨x,H1,I1,r1,ty,q1⟩=>?_);obtain⟨h1,h2⟩:=tyV_is I1 r1 ty;refine⟨T,id,pa,slot,hty,h1,h2,?_⟩;have hA:=ha cpos FA s1 σ H1 _ I1 q1;rw[hs] at hA ⊢;refine Calls.callWith_builtin (by show (false || (backTo cpos (starEach es X.env)).any (·.1))=false;rw[hplain] <;> rfl) (Calls.evalArgs_plain ?_);exact thn hA fun us s2 ⟨vs,H2,I2,r2,q2⟩=>hm FA s2 σ H2 x vs v us Q I2 r1 r2 q2
end
def MtM(X:Cx)(id:String)(r:V->List V->Hp->VK->Prop):Prop :=
 ∀(FA:List (Addr × Obj)) (s:Shared) (σ:St) (H:Hp) (x:V) (xs:List V) (v:Value) (us:List Value) (Q:VK),Inv X FA σ H s->aM x v->aA xs us->r x xs H Q ->
  wpAny (model X.prog X.w) X.A (call (.builtin id) (v::us)) (EP X FA σ Q) X.xe s
def aA.zero(h:aA [] us):us=[]:=by cases h;rfl
def aA.one(h:aA [x] us):∃u,us=[u]/\aM x u:=by
 cases h with|cons r t=>exact⟨_,by rw[aA.zero t],r⟩
def aA.rep(h:aA xs us):∀k:Nat,aA (List.replicate k xs).flatten (List.replicate k us).flatten
 | 0=>.nil
 | k+1=>by
  exact aA.append h (aA.rep h k)
def mq(its:List Value):∀(k:Nat) (acc:List Value),
  List.foldl (fun x1 x2=>x1++x2) acc.toArray (List.replicate k its.toArray)=(acc++(List.replicate k its).flatten).toArray
 | 0,acc=>by simp
 | k+1,acc=>by
  have e:acc.toArray++its.toArray=(acc++its).toArray:=by simp
  have e2:(acc++its)++(List.replicate k its).flatten=acc++(List.replicate (k+1) its).flatten:=by
   rw[List.replicate_succ,List.flatten_cons,qbA]
  rw[<-e2,<-mq its k (acc++its),<-e,List.replicate_succ,List.foldl_cons]
section
variable {X:Cx} {FA:List (Addr × Obj)} {σ:St} {H:Hp} {s:Shared} {l b:Addr} {xs ys zs:List V}
def Inv.lset{its its':List Value}{n:Nat}{f:Array Value->Array Value}{t':Nat}(I:Inv X FA σ H s)(hH:H l=some (.lst xs))
  (e:s.heap.get? l=some { cls:=.type "list",data:=.seq its.toArray n}) (hf:f its.toArray=its'.toArray) (hv:aA ys its') (hz:ys.length<=sizeLine) :
  Inv X FA σ (upd H l (.lst ys)) { s with heap:=s.heap.update l (Obj.mapSeq f),toks:=t'}:=by
 have q:=PySem.IsL.update e f;rw[hf] at q;refine I.write (x:=l) (e:=l) (by rw[hH];exact trivial) (.inl rfl) (fun b' u hb hu=>(qbH s.heap (Obj.mapSeq f) (Ne.symm hb)).trans hu) ⟨_,q⟩ ?_;exact⟨hz,its',_,hv,q⟩
def Inv.lnew(I:Inv X FA σ H s)(hv:aA ys its)(hz:ys.length<=sizeLine) :
  Inv X FA σ (upd H s.heap.objs.size (.lst ys)) { s with heap:=s.heap.push { cls:=.type "list",data:=.seq its.toArray},toks:=t'} :=
 I.laid (fun _ _ q=>qac _ q) (qaj _) ⟨hz,its,0,hv,qaw _ rfl⟩
def Inv.fresh(I:Inv X FA σ H s):H s.heap.objs.size=none:=I.hok.fresh (qaj _)
def Inv.lstM(I:Inv X FA σ H s)(hH:H l=some (.lst xs)):xs.length<=sizeLine/\∃(its:List Value) (n:Nat),aA xs its/\xs.length=its.length/\s.heap.get? l=some { cls:=.type "list",data:=.seq its.toArray n}:=by
 obtain⟨z,its,n,r,e⟩:=I.hok l _ hH;exact⟨z,its,n,r,r.length,e⟩
def uD(h:n<=sizeLine):Builtin.List.listTooLong n=false:=by
 unfold Builtin.List.listTooLong;exact decide_eq_false (by lia)
end
section
variable {X:Cx}
def rAppend:V->List V->Hp->VK->Prop:=fun x vs H Q=>∃l xs y,x=.ref l/\vs=[y]/\H l=some (.lst xs)/\xs.length<sizeLine/\Q .non (upd H l (.lst (xs++[y])))
def mT:MtM X "list.append" rAppend:=by
 intro FA s σ H x vs v us Q I rx rv h;obtain⟨l,xs,y,rfl,rfl,hH,hz,q⟩:=h;cases rx;obtain⟨u,rfl,ru⟩:=rv.one;obtain⟨z,its,n,r,hl,e⟩:=I.lstM hH;refine call_meets F.slot_list_append ⟨_,e,rfl⟩ F.entry_list_append (F.args_list_append_2 _ _) (PySem.list_append l its.toArray n u (by rw[qak];lia)) ⟨e,?_⟩;refine⟨.non,_,I.lset (its':=its++[u]) hH e (by simp) (r.append (.cons ru .nil)) ?_,rfl,q⟩
 grind
def rCat:R2:=fun x y H Q=>∃l b xs zs,x=.ref l/\y=.ref b/\H l=some (.lst xs)/\H b=some (.lst zs)/\xs.length+zs.length<=sizeLine/\∀p,H p=none->Q (.ref p) (upd H p (.lst (xs++zs)))
def op_cat:OpR X (binaryOp .Add) rCat:=by
 intro FA s σ H x y v u Q I rx ry h;obtain⟨l,b,xs,zs,rfl,rfl,hH,hB,hz,q⟩:=h;cases rx;cases ry;obtain⟨z,its,n,r,hl,e⟩:=I.lstM hH;obtain⟨z2,its2,n2,r2,hl2,e2⟩:=I.lstM hB;refine PySem.P.add_list e e2 ?_ (by rw[qak,qak];lia);have ea:its.toArray++its2.toArray=(its++its2).toArray:=by simp
 rw[ea];exact⟨.ref _,_,I.lnew (t':=s.toks) (r.append r2) (by rw[qaN];lia),rfl,q _ I.fresh⟩
def rRep:R2:=fun x y H Q=>∃l k xs,x=.ref l/\y=.int k/\H l=some (.lst xs) /\ -(2 ^ 63)<=k/\k<2 ^ 63/\xs.length * k.toNat<=sizeLine /\
 ∀p,H p=none->Q (.ref p) (upd H p (.lst (List.replicate k.toNat xs).flatten))
def qr{α:Type}(xs:List α)(k:Nat):(List.replicate k xs).flatten.length=k * xs.length:=by simp
def op_rep:OpR X (binaryOp .Mult) rRep:=by
 intro FA s σ H x y v u Q I rx ry h;obtain⟨l,k,xs,rfl,rfl,hH,h1,h2,hz,q⟩:=h;cases rx;obtain⟨t,rfl⟩:=ry;obtain⟨z,its,n,r,hl,e⟩:=I.lstM hH;have hlen:its.toArray.size * k.toNat<=sizeLine:=by rw[qak,<-hl];exact hz
 have hcap:¬its.toArray.size * k.toNat>(2 ^ 63 - 1) / 8:=by
  have:(sizeLine:Nat)<=(2 ^ 63 - 1) / 8:=by decide
  lia
 have hfit:¬(!Builtin.List.listFitsIndex k)=true:=by
  rw[fitsIndex_both h1 h2];exact qbw
 have hlong:¬Builtin.List.listTooLong (its.toArray.size * k.toNat)=true:=by
  rw[uD hlen];exact qbw
 have hnew:List.foldl (fun x1 x2=>x1++x2) #[] (List.replicate (if its.toArray.isEmpty=true then 0 else k.toNat) its.toArray)=(List.replicate k.toNat its).flatten.toArray:=by
  have f0:∀m:Nat,List.foldl (fun x1 x2=>x1++x2) #[] (List.replicate m its.toArray)=(List.replicate m its).flatten.toArray:=fun m=>by
   have:=mq its m []
   exact this
  rw[f0]
  cases its with
  | nil=>simp
  | cons a r'=>rw[qat (by simp)]
 refine wpAny_binaryOp_repeat_ref (by decide) ⟨_,e,rfl⟩ (fun s'=>typeIs_int s' k t) noFill_list_mul F.fills_int_mul F.slot_int_rmul repeat_list F.slot_int_index.lookup
  (call_meets F.slot_int_rmul (typeIs_int s k t) F.entry_int_rmul (F.args_int_rmul_2 _ _) (int___rmul___int_list k t l its.toArray n)
   ⟨e,rfl,⟨_,e,rfl⟩,call_meets F.slot_list_mul ⟨_,e,rfl⟩ F.entry_list_mul (F.args_list_mul_2 _ _) (AutoListH.list___mul___list_int_3 l its.toArray n k t hfit hcap hlong) ⟨e,?_⟩⟩)
 rw[hnew];exact⟨.ref _,_,I.lnew (t':=s.toks) (r.rep k.toNat) (by rw[qr,Nat.mul_comm];exact hz),rfl,q _ I.fresh⟩
end
end L2
namespace Att
open PySem PySem.W PySem.Calls PyProof.Rows
def kM:∀(ns:List Int) (vs:List Value),WellAll P h vs (ns.map WData.int)->IntsAre vs ns:=by
 intro ns
 induction ns with
 | nil =>
  intro vs w;rw[List.map_nil] at w;cases w;exact .nil
 | cons n ns ih =>
  intro vs w;rw[qaJ] at w
  cases w with
  | cons a b =>
   cases a;exact .cons _ _ (ih _ b)
def sY{l:OpenLaw}{n:Nat}(hn:l.most=some n){P:Params}{h:Heap}{args:List WData}{vals:List Value}
  (hpre:l.row.toRowW.claim.pre args=true) (hwl:WellAll P h vals args) :
  ∃a vs ns,vals=[Value.ref a]/\args=[WData.list (ns.map WData.int)]/\h.get? a=some { cls:=.type "list",data:=.seq vs.toArray}/\IntsAre vs ns/\ns.length<=n:=by
 have hsh:=(pre_splitW hpre).1;have hc:=(pre_splitW hpre).2;obtain⟨d,r,rfl,h1,h2⟩:=hasAllW_cons hsh;obtain rfl:=hasAllW_nil h2;obtain⟨xs,rfl,h3⟩:=hasW_list h1;obtain⟨ns,rfl⟩:=items_int h3;have hlen:ns.length<=n:=by
  have h4:(WTm.not (.lt (.lit (.int (n:Int))) (.len (.arg 0)))).holds [] { args:=[.list (ns.map .int)]}=true:=by
   have h4:=(holds_andW hc).1;rw[hn] at h4;exact h4
  have h5:=condW_of h4 (w_not (w_lt w_lit (w_len_list (w_arg rfl))))
  simp_all
 cases hwl with
 | cons w1 w2 =>
  cases w2
  cases w1 with
  | list ho hall=>exact⟨_,_,ns,rfl,rfl,ho,kM ns _ hall,hlen⟩
def tK(l:OpenLaw)(args:List WData):l.row.toRowW.claim.post args (.bool true) args=true :=
 postW_of
  (show WShape.has [] (.bool true) .bool=true by first | rfl | decide | simp)
  (w_eq_bool (w_res rfl) w_lit) rfl
def pR{l:OpenLaw}{n:Nat}{q:Program}{loose:List Str}{XP:(Str->Option Value)->Heap->Prop}{YP:World->Heap->Prop}{d:DefRec}
  (hn:l.most=some n) (hdf:d.params.defaults=[])
  (call:∀(w:World) (s₀ s₁:Shared) (mg mb:Str->Option Value) (fa:Addr) (o:Obj) (pm cd doc:Value) (a:Addr) (vs:List Value) (ns:List Int),
   Ground q loose [] XP w s₀ mg mb s₁.heap->YP w s₁.heap ->
   s₁.heap.get? fa=some o->o.data=.func (docDef d.name d.params d.body d.scope pm cd doc)->s₁.heap.CodeRec cd d.name->mg d.name=some (.ref fa) ->
   s₁.heap.get? a=some { cls:=.type "list",data:=.seq vs.toArray}->IntsAre vs ns->ns.length<=n->s₁.gens=#[] ->
   codeAny (model l.prog w) callerA (.call (.ref fa) ⟨[.ref a],[]⟩) (fun r s'=>r=.ok (.ret (.bool true))/\OldK s₁.heap s'.heap/\s'.os=s₁.os/\AllBare s'.gens) s₁) :
  WalkO q loose XP YP l.row.toRowW d [] (fun f vs=>PySem.call f vs):=by
 intro w s₀ s₁ mg mb G Y fa o pm cd doc dV kV ho hd hcd hD hmg hg args vals as hpre hlay hrd hwl hlo;obtain rfl:=Dflts.none hD hdf;obtain rfl:=Dflts.noKw hD;obtain⟨a,vs,ns,rfl,rfl,hobj,hints,hlen⟩:=sY hn hpre hwl;refine enter_call (codeAny_mono (call w s₀ s₁ mg mb fa o pm cd doc a vs ns G Y ho (fd_plain hd) hcd hmg hobj hints hlen hg) fun r s' hq=>?_);obtain⟨rfl,h2,h3,h4⟩:=hq;exact⟨.inl ⟨.bool true,.bool true,[],rfl,fun _=>rfl,.bool true,tK l _,fun _=>⟨List.Pairwise.nil,fun _ hm=>(nomatch hm)⟩⟩,h2,h3,h4⟩
end Att
namespace L2
open PySem PySem.Spec PyProof.Rows
def mx:∀{vs:List Value} {ns:List Int},IntsAre vs ns->aA (ns.map V.int) vs
 | _,_,.nil=>.nil
 | _,_,.cons n t h=>.cons ⟨t,rfl⟩ (mx h)
def Only(H:Hp):Prop:=∀b,H b=none\/∃o xs,H b=some (.frz o (.lst xs))
def vI{P:Program}{w:World}{K:qaa}{mg mb:Str->Option Value}{CX:CXT}{k:Nat}{fa a:Addr}{fd:FuncData}{x:Str}{sp:Sp}{s₁:Shared}{vs:List Value}{ns:List Int}
  (KX:K.In s₁.heap) (hns:s₁.heap.Ns mainGlobals mg) (hb:s₁.heap.Ns builtinsNs mb) (hbb:∀x:Str,x≠"__name__"->mb x=bootBuiltins x) (hlim:s₁.heap.NoLimit) (hse:s₁.heap.NoSeer) (htr:P.given.tree=none) (hg:s₁.gens=#[])
  (ha:s₁.heap.get? a=some { cls:=.type "list",data:=.seq vs.toArray}) (hi:IntsAre vs ns) (hl:ns.length<=sizeLine) (hr:Room k callerA)
  (F:∀base:Heap,K.In base->base.Ns mainGlobals mg->FnOk P w K mg base CX k fa fd [x] sp) (hbind:∀(s:Shared) (u:Value),BindsTo s fd ⟨[u],[]⟩ [(x,u)])
  (hsp:∀H:Hp,Only H->SqL K H a (ns.map V.int)->sp [.ref a] H (fun v _=>v=.bl true) fun _ _ _=>False)
  (hCX:∀H e s',CX [] H s₁ (fun _ _ _=>False) e s'->False) :
  codeAny (model P w) callerA (.call (.ref fa) ⟨[.ref a],[]⟩) (fun r s'=>r=.ok (.ret (.bool true))/\OldK s₁.heap s'.heap/\s'.os=s₁.os/\AllBare s'.gens) s₁:=by
 have rv:=mx hi;have lenV:=hi.length;have core:∀H:Hp,Only H->SqL K H a (ns.map V.int)->HOk P w H s₁.heap->(∀b,H b≠none->b=a)->(H a≠none->K.lookup a=none) ->
   codeAny (model P w) callerA (.call (.ref fa) ⟨[.ref a],[]⟩) (fun r s'=>r=.ok (.ret (.bool true))/\OldK s₁.heap s'.heap/\s'.os=s₁.os/\AllBare s'.gens) s₁:=by
  intro H hO hS hok hA hK;have base_of:∀{b:Addr} {o:Obj},s₁.heap.get? b=some o->H b=none->(iH s₁.heap H).get? b=some o:=fun e n=>uA e n;have noA:∀{b:Addr} {o:Obj} {es:Array DictEntry} {ep:Nat},s₁.heap.get? b=some o->o.data=.dict es ep->H b=none:=fun {b o es ep} e d=>by
   cases q:H b with
   | none=>rfl
   | some u =>
    have e':b=a:=hA b (by rw[q];simp);subst e';rw[ha] at e;cases e;have d':Data.seq vs.toArray _=Data.dict es ep:=d;cases d'
  have nsK:∀{b:Addr} {m:Str->Option Value},s₁.heap.Ns b m->(iH s₁.heap H).Ns b m:=fun {b m} ⟨o,es,ep,e,d,r⟩=>⟨o,es,ep,base_of e (noA e d),d,r⟩
  have hKb:K.In (iH s₁.heap H):=fun b o e=>base_of (KX b o e) (by
   cases q:H b with
   | none=>rfl
   | some u =>
    have e':b=a:=hA b (by rw[q];simp);subst e'
    rw[hK (by rw[q];simp)] at e;cases e)
  have hM:Mod K mg (iH s₁.heap H):=⟨hKb,nsK hns,⟨mb,nsK hb,hbb⟩,let ⟨mc,h1,h2⟩:=hlim;⟨mc,nsK h1,h2⟩,let ⟨mc,h1,h2⟩:=hse.statics;⟨mc,nsK h1,h2⟩,let ⟨mc,h1,h2⟩:=hse.mods;⟨mc,nsK h1,h2⟩,let ⟨mc,h1,h2⟩:=hse.imp;⟨mc,nsK h1,h2⟩,let ⟨mc,bm,ob,h1,h2,h3,h4,h5⟩:=hse.main;⟨mc,bm,ob,nsK h1,h2,base_of h3 (by
   cases q:H bm with
   | none=>rfl
   | some u =>
    have e':bm=a:=hA bm (by rw[q];simp);subst e';rw[ha] at h3;cases h3
    exact absurd (show Value.type "list"=Value.type "module" from h4) (by decide)),h4,h5⟩⟩
  have e0:Env0 P w K mg (iH s₁.heap H) callerA [] s₁ H:=⟨rfl,hM,fun b o e=>of_hidT e,Nat.le_of_eq (ua _ _),trivial,fun b hb=>absurd (show b∈([]:List Addr) from hb) (by simp),hok,.of_eq hg,htr⟩;refine codeAny_mono ((F _ hKb (nsK hns)).run callerA [] s₁ H ⟨[.ref a],[]⟩ [.ref a] [.ref a] _ _ hr e0 (hbind s₁ (.ref a)) (.cons rfl .nil) (hsp H hO hS)) fun r s' h=>?_
  cases r with
  | error e=>exact (hCX H e s' h).elim
  | ok fl =>
   cases fl with
   | next=>exact False.elim h
   | brk=>exact False.elim h
   | cont=>exact False.elim h
   | ret u =>
    obtain⟨v,H',os,bare,un,hok',r',q⟩:=h;have q':v=.bl true:=q;subst q';obtain rfl:u=Value.bool true:=r';refine⟨rfl,OldK.of_keep fun b o e=>?_,os,bare⟩
    cases q:H b with
    | none=>exact un.keep b o e q (by intro z;exact absurd (show b∈([]:List Addr) from z) (by simp)) (by simp)
    | some u =>
     rcases hO b with z|⟨ob,xs,z⟩
     ·rw[q] at z;cases z
     ·have z2:=un.frzs b ob _ z;obtain⟨e1,_⟩:=hok b _ z;obtain⟨e2,_⟩:=hok' b _ z2;rw[e] at e1;cases e1;exact e2
 cases hk:K.lookup a with
 | some o =>
  have e:=KX a o hk;rw[ha] at e;cases e;refine core (fun _=>none) (fun _=>.inl rfl) (.inr ⟨_,vs.toArray,_,hk,rfl,rfl,rfl,by rw[qak,lenV];exact hl,by simpa using rv⟩) (fun b u z=>by have z':(none:Option HO)=some u:=z;cases z') (fun b z=>absurd rfl z) fun z=>absurd rfl z
 | none =>
  refine core (fun b=>if b=a then some (.frz { cls:=.type "list",data:=.seq vs.toArray} (.lst (ns.map V.int))) else none) (fun b=>?_) (.inl (.inr ⟨{ cls:=.type "list",data:=.seq vs.toArray},qae rfl⟩)) (fun b u z=>?_) (fun b z=>?_) fun _=>hk
  ·by_cases hb:b=a
   ·exact .inr ⟨_,_,qae hb⟩
   ·exact .inl (qat hb)
  ·by_cases hb:b=a
   ·have z':=(qae hb).symm.trans z;cases z';subst hb;exact⟨ha,by rw[qaS];exact hl,vs,_,rv,ha⟩
   ·have z':=(qat hb).symm.trans z;cases z'
  ·by_cases hb:b=a
   ·exact hb
   ·exact absurd (qat hb) z
abbrev KOf{K:qaa}{h:Heap}(_:K.In h):qaa:=K
def walk_of{l:PySem.W.OpenLaw}{n k:Nat}{q:Program}{loose:List Str}{XP:(Str->Option Value)->Heap->Prop}{YP:World->Heap->Prop}{d:DefRec}{K:Params->qaa}{CX:World->CXT}{sp:World->Sp}{x:Str}
  (hn:l.most=some n) (hn2:n<=sizeLine) (hdf:d.params.defaults=[]) (hr:Room k callerA) (hi:PyProof.Rows.importsNone q=true) (htr:l.prog.given.tree=none)
  (hY:∀(w:World) (h:Heap),YP w h->(K w.params).In h)
  (F:∀(w:World) (mg:Str->Option Value) (fa:Addr) (h:Heap),(K w.params).In h->h.Ns mainGlobals mg->mg d.name=some (.ref fa) ->
   ∃fd:FuncData,(∀(s:Shared) (u:Value),BindsTo s fd ⟨[u],[]⟩ [(x,u)]) /\
    ∀base:Heap,(K w.params).In base->base.Ns mainGlobals mg->FnOk l.prog w (K w.params) mg base (CX w) k fa fd [x] (sp w))
  (hsp:∀(w:World) (H:Hp) (a:Addr) (ns:List Int),ns.length<=n->Only H->SqL (K w.params) H a (ns.map V.int)->sp w [.ref a] H (fun v _=>v=.bl true) fun _ _ _=>False)
  (hCX:∀(w:World) (H:Hp) (s:Shared) (e:Value) (s':Shared),CX w [] H s (fun _ _ _=>False) e s'->False) :
  PySem.W.WalkO q loose XP YP l.row.toRowW d [] (fun f vs=>PySem.call f vs):=by
 refine Att.pR hn hdf fun w s₀ s₁ mg mb fa o pm cd doc a vs ns G Y ho hd hcd hmg hobj hints hlen hg=>?_;have KX:=hY w _ Y;obtain⟨fd,hb,hF⟩:=F w mg fa _ KX G.T.g hmg;exact vI KX G.T.g G.T.b G.T.builtins G.T.nolimit (G.T.seer hi) htr hg hobj hints (qav hlen hn2) hr hF hb (fun H hO hS=>hsp w H a ns hlen hO hS) fun H e s'=>hCX w H s₁ e s'
def fL(s:Stmt):Arguments:=match s with
 | .FunctionDef _ a _ _ _ _ _ _ _ _=>a
 | _=>{ posonlyargs:=[],args:=[],vararg:=none,kwonlyargs:=[],kw_defaults:=[],kwarg:=none,defaults:=[]}
def au(s:Stmt):List Stmt:=match s with
 | .FunctionDef _ _ b _ _ _ _ _ _ _=>b
 | _=>[]
def ag(s:Stmt):Scope:=match s with
 | .FunctionDef _ _ _ _ _ _ sc _ _ _=>sc
 | _=>{ kind:=.function,names:=[],isGenerator:=false,isCoroutine:=false}
structure Fun (K:qaa) (x qual:Str) (st:Stmt) (f:Addr) (fd:FuncData):Prop where
 ex:∃(oc:Value) (od:Option Addr) (kV doc pm:Value) (an:Option Addr) (cdv ct:Value) (osl:Array (Option Value)),
  fd=PySem.W.fnOf x qual (fL st) (au st) (ag st) .none kV doc pm an cdv ct/\K.lookup f=some ⟨oc,od,.func fd,osl⟩/\PySem.W.codeIn K cdv qual=true
 kp:PySem.W.keepIn K (.ref f)=true
section
variable {P:Program} {w:World} {K:qaa} {mg:Str→Option Value} {base:Heap}
def Fun.binds{x qual:Str}{st:Stmt}{f:Addr}{fd:FuncData}{ps:List Str}(F:Fun K x qual st f fd)
  (h:∀(kV doc pm:Value) (an:Option Addr) (cdv ct:Value) (us:List Value),us.length=ps.length->bindArgs (PySem.W.fnOf x qual (fL st) (au st) (ag st) .none kV doc pm an cdv ct) ⟨us,[]⟩=pure (ps.zip us)):kH K fd ps []:=by
 obtain⟨oc,od,kV,doc,pm,an,cdv,ct,osl,rfl,lk,hcd⟩:=F.ex;exact .all (h kV doc pm an cdv ct)
def fun_mk{x qual:Str}{st:Stmt}{f:Addr}{oc:Value}{od an:Option Addr}{osl:Array (Option Value)}{kV doc pm cdv ct:Value}(l:K.lookup f=some ⟨oc,od,.func (PySem.W.fnOf x qual (fL st) (au st) (ag st) .none kV doc pm an cdv ct),osl⟩)
  (c:PySem.W.codeIn K cdv qual=true) (k:PySem.W.keepIn K (.ref f)=true):Fun K x qual st f (PySem.W.fnOf x qual (fL st) (au st) (ag st) .none kV doc pm an cdv ct):=⟨⟨oc,od,kV,doc,pm,an,cdv,ct,osl,rfl,l,c⟩,k⟩
end
end L2
namespace MM
open PySem PySem.Spec PyProof.Rows L2
inductive PV where
 | non | bl (b:Bool) | int (i:Int) | str (x:Str) | tup (xs:List PV) | frl (xs:List PV) | loc (n:Nat)
structure MExc where
 cls:Str
 fs:List (Str × PV):=[]
inductive MO where
 | lst (xs:List PV)
 | dic (fz:Bool) (ks:List Int) (xs:List PV)
 | exc (x:MExc)
def MO.fzd:MO->Bool
 | .dic fz _ _=>fz
 | _=>false
abbrev MH:=List MO
abbrev PSt:=List (Option PV)
inductive Out (α:Type) where
 | ok (a:α) (h:MH)
 | exc (x:MExc) (h:MH)
 | bad
def Out.bind{α β:Type}(o:Out α)(f:α->MH->Out β):Out β:=match o with
 | .ok a h=>f a h
 | .exc x h=>.exc x h
 | .bad=>.bad
@[simp] theorem Out.bind_ok(a:α)(h:MH)(f:α->MH->Out β):(Out.ok a h).bind f=f a h:=rfl
@[simp] theorem Out.bind_exc(x:MExc)(h:MH)(f:α->MH->Out β):(Out.exc x h).bind f=.exc x h:=rfl
@[simp] theorem Out.bind_bad(f:α->MH->Out β):(Out.bad:Out α).bind f=.bad:=rfl
inductive SOut where
 | nx (σ:PSt) (h:MH)
 | rt (v:PV) (h:MH)
 | bk (σ:PSt) (h:MH)
 | ct (σ:PSt) (h:MH)
 | exc (x:MExc) (σ:PSt) (h:MH)
 | rse (x:MExc) (σ:PSt) (h:MH)
 | bad
def Out.ne{α:Type}(o:Out α):Out α:=match o with
 | .exc _ _=>.bad
 | o=>o
@[simp] theorem Out.ne_ok(a:α)(h:MH):(Out.ok a h).ne=.ok a h:=rfl
@[simp] theorem Out.ne_bad:(Out.bad:Out α).ne=.bad:=rfl
@[simp] theorem Out.ne_ne(o:Out α):o.ne.ne=o.ne:=by cases o <;> rfl
def SqF(K:qaa)(H:Hp)(a:Addr)(ys:List V):Prop :=
 (∃o,H a=some (.frz o (.lst ys))) \/
  ∃(o:Obj) (its:Array Value) (n:Nat),K.lookup a=some o/\o.cls=.type "list"/\o.dict=none/\o.data=.seq its n/\its.size<=sizeLine/\aA ys its.toList
def SqF.sq{K:qaa}{H:Hp}{a:Addr}{ys:List V}(h:SqF K H a ys):SqL K H a ys:=by
 rcases h with h|h
 ·exact .inl (.inr h)
 ·exact .inr h
mutual
inductive RP (K:qaa) (ρ:List Addr) (H:Hp):PV->V->Prop where
 | non:RP K ρ H .non .non
 | bl (b:Bool):RP K ρ H (.bl b) (.bl b)
 | int (i:Int):RP K ρ H (.int i) (.int i)
 | str (x:Str):RP K ρ H (.str x) (.str x)
 | tup {xs:List PV} {a:Addr} {ys:List V} (s:SqT K H a ys) (r:RPs K ρ H xs ys):RP K ρ H (.tup xs) (.ref a)
 | frl {xs:List PV} {a:Addr} {ys:List V} (s:SqF K H a ys) (r:RPs K ρ H xs ys):RP K ρ H (.frl xs) (.ref a)
 | loc {n:Nat} {a:Addr} (e:ρ[n]?=some a):RP K ρ H (.loc n) (.ref a)
inductive RPs (K:qaa) (ρ:List Addr) (H:Hp):List PV->List V->Prop where
 | nil:RPs K ρ H [] []
 | cons {x:PV} {y:V} {xs:List PV} {ys:List V} (r:RP K ρ H x y) (t:RPs K ρ H xs ys):RPs K ρ H (x::xs) (y::ys)
end
structure Le (ρ:List Addr) (H:Hp) (ρ':List Addr) (H':Hp):Prop where
 pre:∃m,ρ'=ρ++m
 tup:∀a xs,H a=some (.tup xs)->H' a=some (.tup xs)
 frz:∀a o u,H a=some (.frz o u)->H' a=some (.frz o u)
def Le.refl(ρ:List Addr)(H:Hp):Le ρ H ρ H:=⟨⟨[],by simp⟩,fun _ _ h=>h,fun _ _ _ h=>h⟩
def Le.trans(a:Le ρ H ρ1 H1)(b:Le ρ1 H1 ρ2 H2):Le ρ H ρ2 H2:=by
 obtain⟨m,e⟩:=a.pre;obtain⟨m',e'⟩:=b.pre;exact⟨⟨m++m',by rw[e',e,qbA]⟩,fun c xs h=>b.tup c xs (a.tup c xs h),fun c o u h=>b.frz c o u (a.frz c o u h)⟩
def Le.get{ρ ρ':List Addr}{H H':Hp}(l:Le ρ H ρ' H'){n:Nat}{a:Addr}(e:ρ[n]?=some a):ρ'[n]?=some a:=by
 obtain⟨m,e'⟩:=l.pre;rw[e',qai (qaf.mp e).1];exact e
def Le.sqt{K:qaa}{ρ ρ':List Addr}{H H':Hp}(l:Le ρ H ρ' H'){a:Addr}{xs:List V}(h:SqT K H a xs):SqT K H' a xs:=by
 rcases h with (h|⟨o,h⟩)|h
 ·exact .inl (.inl (l.tup _ _ h))
 ·exact .inl (.inr ⟨o,l.frz _ _ _ h⟩)
 ·exact .inr h
def Le.sqf{K:qaa}{ρ ρ':List Addr}{H H':Hp}(l:Le ρ H ρ' H'){a:Addr}{xs:List V}(h:SqF K H a xs):SqF K H' a xs:=by
 rcases h with ⟨o,h⟩|h
 ·exact .inl ⟨o,l.frz _ _ _ h⟩
 ·exact .inr h
section
variable {K:qaa} {ρ ρ':List Addr} {H H':Hp}
def RP.le(l:Le ρ H ρ' H'){x:PV}{y:V}(r:RP K ρ H x y):RP K ρ' H' x y :=
 RP.rec .non .bl .int .str (fun s _ i=>.tup (l.sqt s) i) (fun s _ i=>.frl (l.sqf s) i) (fun e=>.loc (l.get e)) .nil (fun _ _ a b=>.cons a b) r
def RPs.le(l:Le ρ H ρ' H')(r:RPs K ρ H xs ys):RPs K ρ' H' xs ys:=by
 induction xs generalizing ys with
 | nil=>cases r;exact .nil
 | cons x xs ih=>cases r with | cons a t=>exact .cons (a.le l) (ih t)
def RPs.length(r:RPs K ρ H xs ys):xs.length=ys.length:=by
 induction xs generalizing ys with
 | nil=>cases r;rfl
 | cons x xs ih=>cases r with | cons a t=>exact congrArg (·+1) (ih t)
def RPs.get{xs:List PV}{ys:List V}{i:Nat}{x:PV}(r:RPs K ρ H xs ys)(e:xs[i]?=some x):∃y,ys[i]?=some y/\RP K ρ H x y:=by
 induction xs generalizing ys i with
 | nil=>cases e
 | cons x xs ih =>
  cases r with
  | cons a t =>
   cases i with
   | zero=>cases e;exact⟨_,rfl,a⟩
   | succ i=>have z:=@ih _ i t e;exact z
def RPs.set(r:RP K ρ H x u)(i:Nat)(q:RPs K ρ H xs us):RPs K ρ H (xs.set i x) (us.set i u):=by
 induction xs generalizing us i with
 | nil=>cases q;exact .nil
 | cons x xs ih =>
  cases q with
  | cons a t =>
   cases i with
   | zero=>exact .cons r t
   | succ i=>exact .cons a (ih i t)
def RPs.append(r:RPs K ρ H xs us)(s:RPs K ρ H ys ws):RPs K ρ H (xs++ys) (us++ws):=by
 induction xs generalizing us with
 | nil=>cases r;exact s
 | cons x xs ih=>cases r with | cons a t=>exact .cons a (ih t)
def RPs.take(n:Nat)(r:RPs K ρ H xs us):RPs K ρ H (xs.take n) (us.take n):=by
 induction n generalizing xs us with
 | zero=>exact .nil
 | succ n ih =>
  cases xs with
  | nil=>cases r;exact .nil
  | cons x xs=>cases r with | cons a t=>exact .cons a (ih t)
def RPs.drop(n:Nat)(r:RPs K ρ H xs us):RPs K ρ H (xs.drop n) (us.drop n):=by
 induction n generalizing xs us with
 | zero=>exact r
 | succ n ih =>
  cases xs with
  | nil=>cases r;exact .nil
  | cons x xs=>cases r with | cons a t=>exact ih t
def RPs.ints:∀(ns:List Int),RPs K ρ H (ns.map PV.int) (ns.map V.int)
 | []=>.nil
 | n::r=>.cons (.int n) (RPs.ints r)
end
def ExcAt(a C:Addr)(h:Heap):Prop:=∃o vs,h.get? a=some o/\o.cls=.ref C/\o.data=.fields vs
abbrev MGl:=Str->Option Value
def kz(ks:List Int)(ys:List V):List (Key × V):=(ks.map Sum.inl).zip ys
def dO(fz:Bool)(oh:Option HO)(u:HO):Prop:=match fz with
 | false=>oh=some u
 | true=>∃o,oh=some (.frz o u)
def RO(K:qaa)(mg:MGl)(ρ:List Addr)(H:Hp)(a:Addr):MO->Option HO->Prop
 | .lst xs,oh=>∃ys,oh=some (.lst ys)/\RPs K ρ H xs ys
 | .dic fz ks xs,oh=>∃ys:List V,ys.length=ks.length/\RPs K ρ H xs ys/\dO fz oh (.dK (kz ks ys))
 | .exc x,oh=>x.fs=[]/\∃C,mg x.cls=some (.ref C)/\oh=some (.ext (ExcAt a C))
def dO_ok{fz:Bool}{P:Program}{w:World}{H:Hp}{h:Heap}{a:Addr}{kvs:List (Key × V)}(ok:HOk P w H h)(e:dO fz (H a) (.dK kvs)):kvs.length<=sizeLine/\(a == sysModules)=false/\∃vs,KV kvs vs/\h.DictOf (jD P w) a vs:=by
 cases fz with
 | false=>exact (ok a _ e)
 | true =>
  obtain⟨o,e⟩:=e;exact (ok a _ e).2
structure RH (K:qaa) (mg:MGl) (ρ:List Addr) (H:Hp) (h:MH):Prop where
 len:ρ.length=h.length
 nd:ρ.Nodup
 at':∀(n:Nat) (a:Addr) (o:MO),ρ[n]?=some a->h[n]?=some o->RO K mg ρ H a o (H a)
def RO.le{K:qaa}{mg:MGl}{ρ ρ':List Addr}{H H':Hp}{a:Addr}(l:Le ρ H ρ' H'){o:MO}{oh:Option HO}(r:RO K mg ρ H a o oh):RO K mg ρ' H' a o oh:=by
 cases o with
 | lst xs=>obtain⟨ys,e,r⟩:=r;exact⟨ys,e,r.le l⟩
 | dic fz ks xs=>obtain⟨ys,e,r,q⟩:=r;exact⟨ys,e,r.le l,q⟩
 | exc x=>exact r
def RO.some{K:qaa}{mg:MGl}{ρ:List Addr}{H:Hp}{a:Addr}{o:MO}{oh:Option HO}(r:RO K mg ρ H a o oh):oh≠none:=by
 cases o with
 | lst xs=>obtain⟨ys,e,_⟩:=r;rw[e];simp
 | dic fz ks xs =>
  obtain⟨ys,_,_,q⟩:=r
  cases fz with
  | false=>rw[show oh=_ from q];simp
  | true=>obtain⟨o,q⟩:=q;rw[q];simp
 | exc x=>obtain⟨_,C,_,e⟩:=r;rw[e];simp
def RO.plain{K:qaa}{mg:MGl}{ρ:List Addr}{H:Hp}{a:Addr}{o:MO}{oh:Option HO}(r:RO K mg ρ H a o oh)(hf:o.fzd=false):(∀xs,oh≠Option.some (.tup xs))/\∀p u,oh≠Option.some (.frz p u):=by
 cases o with
 | lst xs=>obtain⟨ys,e,_⟩:=r;rw[e];exact⟨(fun _ z=>nomatch z),(fun _ _ z=>nomatch z)⟩
 | dic fz ks xs =>
  obtain⟨ys,_,_,q⟩:=r
  cases fz with
  | false=>rw[show oh=_ from q];exact⟨(fun _ z=>nomatch z),(fun _ _ z=>nomatch z)⟩
  | true=>cases hf
 | exc x=>obtain⟨_,C,_,e⟩:=r;rw[e];exact⟨(fun _ z=>nomatch z),(fun _ _ z=>nomatch z)⟩
section
variable {K:qaa} {mg:MGl} {ρ:List Addr} {H:Hp} {h:MH}
def RH.obj(r:RH K mg ρ H h){n:Nat}{a:Addr}(e:ρ[n]?=some a):∃o,h[n]?=some o/\RO K mg ρ H a o (H a):=by
 have hn:n<h.length:=by rw[<-r.len];exact (qaf.mp e).1
 exact⟨h[n],by simp,r.at' n a _ e (by simp)⟩
def RH.new(r:RH K mg ρ H h){p:Addr}(hp:H p=none){o:MO}{ho:HO}(hn:RO K mg ρ H p o (some ho)):RH K mg (ρ++[p]) (upd H p ho) (h++[o])/\Le ρ H (ρ++[p]) (upd H p ho):=by
 have hne:∀n a,ρ[n]?=some a->a≠p:=fun n a e z=>by
  obtain⟨o',_,q⟩:=r.obj e;rw[z,hp] at q;exact q.some rfl
 have l:Le ρ H (ρ++[p]) (upd H p ho):=⟨⟨[p],rfl⟩,fun a xs e=>by rw[aT (bo e hp)];exact e,fun a ob u e=>by rw[aT (bo e hp)];exact e⟩;refine⟨⟨by simp[r.len],?_,fun n a o' e1 e2=>?_⟩,l⟩
 ·rw[List.nodup_append];refine⟨r.nd,by simp,fun a ha b hb=>?_⟩;obtain⟨n,e⟩:=List.mem_iff_getElem?.mp ha;have hb':b=p:=by simpa using hb
  rw[hb'];exact hne n a e
 ·by_cases hlt:n<ρ.length
  ·rw[qai hlt] at e1;rw[qai (by rw[<-r.len];exact hlt)] at e2;rw[aT (hne n a e1)];exact (r.at' n a o' e1 e2).le l
  ·rw[qay (by lia)] at e1;rw[qay (by rw[<-r.len];lia)] at e2;have hn0:n - ρ.length=0:=by
    grind
   rw[hn0] at e1;have hn1:n - h.length=0:=by have:=r.len;lia
   rw[hn1] at e2;simp at e1 e2;subst e1;subst e2;rw[bR];exact hn.le l
def RH.put(r:RH K mg ρ H h){n:Nat}{a:Addr}(e:ρ[n]?=some a){o:MO}{ho:HO}(hn:RO K mg ρ H a o (some ho))(hd:∃o0,h[n]?=some o0/\o0.fzd=false:=by exact⟨_,by assumption,rfl⟩):RH K mg ρ (upd H a ho) (h.set n o)/\Le ρ H ρ (upd H a ho):=by
 obtain⟨o0,eo,q⟩:=r.obj e;obtain⟨o1,eo1,hf⟩:=hd;rw[eo1] at eo;cases eo;obtain⟨q1,q2⟩:=q.plain hf
 have l:Le ρ H ρ (upd H a ho):=⟨⟨[],by simp⟩,fun b xs z=>by
   have:b≠a:=by rintro rfl;exact q1 _ z
   rw[aT this];exact z,fun b ob u z=>by
   have:b≠a:=by rintro rfl;exact q2 _ _ z
   rw[aT this];exact z⟩
 refine⟨⟨by simp[r.len],r.nd,fun m b o' e1 e2=>?_⟩,l⟩;by_cases hm:m=n
 ·subst hm;rw[e] at e1;cases e1;rw[bR]
  have:m<h.length:=by rw[<-r.len];exact (qaf.mp e).1
  rw[qax this] at e2;cases e2;exact hn.le l
 ·rw[qah (fun z=>hm z.symm)] at e2;have hb:b≠a:=by
   rintro rfl;have h1:=qaf.mp e;have h2:=qaf.mp e1;obtain⟨l1,g1⟩:=h1;obtain⟨l2,g2⟩:=h2;exact hm ((List.getElem_inj r.nd).mp (g2.trans g1.symm))
  rw[aT hb];exact (r.at' m b o' e1 e2).le l
def RH.tup(r:RH K mg ρ H h){p:Addr}(hp:H p=none)(ys:List V):RH K mg ρ (upd H p (.tup ys)) h/\Le ρ H ρ (upd H p (.tup ys)):=by
 have hne:∀n a,ρ[n]?=some a->a≠p:=fun n a e z=>by
  obtain⟨o',_,q⟩:=r.obj e;rw[z,hp] at q;exact q.some rfl
 have l:Le ρ H ρ (upd H p (.tup ys)):=⟨⟨[],by simp⟩,fun a xs e=>by rw[aT (bo e hp)];exact e,fun a ob u e=>by rw[aT (bo e hp)];exact e⟩;exact⟨⟨r.len,r.nd,fun n a o e1 e2=>by rw[aT (hne n a e1)];exact (r.at' n a o e1 e2).le l⟩,l⟩
end
def RS(K:qaa)(ρ:List Addr)(H:Hp)(σp:PSt)(σ:L2.St):Prop :=
 σ.length=σp.length/\∀(i:Nat) (v:PV),σp[i]?=some (some v)->∃v',σ[i]?=some (some v')/\RP K ρ H v v'
def RS.le{K:qaa}{ρ ρ':List Addr}{H H':Hp}{σp:PSt}{σ:L2.St}(l:Le ρ H ρ' H')(r:RS K ρ H σp σ):RS K ρ' H' σp σ :=
 ⟨r.1,fun i v e=>by obtain⟨v',e',q⟩:=r.2 i v e;exact⟨v',e',q.le l⟩⟩
def RS.set{K:qaa}{ρ:List Addr}{H:Hp}{σp:PSt}{σ:L2.St}(r:RS K ρ H σp σ)(i:Nat){v:PV}{v':V}(q:RP K ρ H v v'):RS K ρ H (σp.set i (some v)) (σ.set i (some v')):=by
 refine⟨by simp[r.1],fun j u e=>?_⟩;by_cases hj:j=i
 ·subst hj;by_cases hl:j<σp.length
  ·rw[qax hl] at e;cases e;exact⟨v',qax (by rw[r.1];exact hl),q⟩
  ·rw[List.getElem?_eq_none (by simp;lia)] at e;cases e
 ·rw[qah (fun z=>hj z.symm)] at e;obtain⟨u',e',q'⟩:=r.2 j u e;exact⟨u',by rw[qah (fun z=>hj z.symm)];exact e',q'⟩
def Cov(B:Heap)(fs:List Addr)(h:Heap):Prop:=∀b o,h.get? b=some o->b∉fs->∃ob,B.get? b=some ob
def Fly(l:List Env)(H:Hp)(lim:Heap)(C ea:Addr)(h:Heap):Prop :=
 ∃B t,Heap.FlyingW B l ea (.ref C) (.ref t) h/\(∀b o,H b=some o->∃ob,B.get? b=some ob)/\Cov B (frs l) lim/\H ea=none
structure Bears (X:Cx) (h:Heap):Prop where
 old:∀b o,X.s₀.heap.get? b=some o->b∉X.ex->∃o',h.get? b=some o'
 cell:∀x c,X.env.cells.lookup x=some c->∃o,h.get? c=some o
 pin:∀p∈X.pn,∃o,h.get? p.1=some o
def Inv.bears{X:Cx}{FA:List (Addr × Obj)}{σ:L2.St}{H:Hp}{s:Shared}(I:Inv X FA σ H s):Bears X s.heap :=
 ⟨fun b o e n=>I.base.there b o e n,fun x c e=>let ⟨_,o,eo,_⟩:=I.cell x c e;⟨o,eo⟩,fun p hp=>⟨_,(I.pin p (qaY _ hp)).1⟩⟩
def XP(X:Cx)(σp:PSt)(ρ:List Addr)(H:Hp)(x:MExc)(h:MH):Prop:=∀(ea C:Addr) (ρ':List Addr) (H':Hp) (σ':L2.St) (s':Shared) (lim:Heap),x.fs=[]->X.mg x.cls=some (.ref C)->Le ρ H ρ' H'->RH X.K X.mg ρ' H' h->RS X.K ρ' H' σp σ' ->
 Inv X [] σ' H' s'->Bears X lim->Fly X.stack H' lim C ea s'.heap->X.xe (.ref ea) s'
structure MadeX (h h':Heap) (e C:Addr):Prop where
 keeps:∀b o,h.get? b=some o->h'.get? b=some o
 new:h.get? e=none
 there:∃t dx,h'.get? e=some { cls:=.ref C,dict:=dx,data:=.fields #[.ref t,.none,.none,.none,.bool false,.none]}
def XM(X:Cx)(σp:PSt)(ρ:List Addr)(H:Hp)(x:MExc)(h:MH):Prop:=∀(ea C:Addr) (ρ':List Addr) (H':Hp) (σ':L2.St) (s':Shared) (h0:Heap),x.fs=[]->X.mg x.cls=some (.ref C)->Le ρ H ρ' H'->RH X.K X.mg ρ' H' h->RS X.K ρ' H' σp σ' ->
 Inv X [] σ' H' { s' with heap:=h0}->MadeX h0 s'.heap ea C->X.xe (.ref ea) s'
def XP.le(l:Le ρ H ρ' H')(q:XP X σp ρ H x h):XP X σp ρ' H' x h :=
 fun ea C ρ2 H2 σ2 s2 lim e1 e2 l2=>q ea C ρ2 H2 σ2 s2 lim e1 e2 (l.trans l2)
def XM.le(l:Le ρ H ρ' H')(q:XM X σp ρ H x h):XM X σp ρ' H' x h :=
 fun ea C ρ2 H2 σ2 s2 lim e1 e2 l2=>q ea C ρ2 H2 σ2 s2 lim e1 e2 (l.trans l2)
abbrev Rl(α β:Type):=List Addr->Hp->α->β->Prop
def Ful{α β:Type}(X:Cx)(R:Rl α β)(σp:PSt)(ρ:List Addr)(H:Hp)(o:Out α)(Q:β->Hp->Prop):Prop:=match o with
 | .ok v h'=>∀ρ' H' v',Le ρ H ρ' H'->RH X.K X.mg ρ' H' h'->R ρ' H' v v'->Q v' H'
 | .exc x h'=>XP X σp ρ H x h'
 | .bad=>False
def fo{α β:Type}(X:Cx)(R:Rl α β)(ρ:List Addr)(H:Hp)(o:Out α)(Q:β->Hp->Prop):Prop:=match o with
 | .ok v h'=>∀ρ' H' v',Le ρ H ρ' H'->RH X.K X.mg ρ' H' h'->R ρ' H' v v'->Q v' H'
 | _=>False
def Ful.zero(f:Ful X R σp ρ H o.ne Q):fo X R ρ H o Q:=by
 cases o with
 | ok v h=>exact f
 | exc x h=>exact f
 | bad=>exact f
def Ful.le(l:Le ρ H ρ1 H1)(f:Ful X R σp ρ H o Q):Ful X R σp ρ1 H1 o Q:=by
 cases o with
 | ok v h=>exact fun ρ' H' v' l'=>f ρ' H' v' (l.trans l')
 | exc x h=>exact XP.le l f
 | bad=>exact f
def Ful.bind{α β γ δ:Type}{X:Cx}{R:Rl α β}{S:Rl γ δ}{σp:PSt}{ρ:List Addr}{H:Hp}{o:Out α}{f:α->MH->Out γ}{Q:δ->Hp->Prop}{Q':β->Hp->Prop}(q:Ful X S σp ρ H (o.bind f) Q)
  (k:∀ρ1 H1 v v' h1,o=.ok v h1->Le ρ H ρ1 H1->RH X.K X.mg ρ1 H1 h1->R ρ1 H1 v v'->Ful X S σp ρ1 H1 (f v h1) Q->Q' v' H1):Ful X R σp ρ H o Q':=by
 cases o with
 | ok v h=>exact fun ρ' H' v' l r w=>k ρ' H' v v' h rfl l r w (Ful.le l q)
 | exc x h=>exact q
 | bad=>exact q
abbrev RV'(X:Cx):Rl PV V:=fun ρ H=>RP X.K ρ H
abbrev RVs'(X:Cx):Rl (List PV) (List V):=fun ρ H=>RPs X.K ρ H
abbrev REq{α:Type}:Rl α α:=fun _ _ x y=>x=y
abbrev Mx(α:Type):=PSt->MH->Out α
inductive tM {α β:Type} (X:Cx) (R:Rl α β) (m:Mx α) (σ:L2.St) (H:Hp) (Q:β->Hp->Prop):Prop
 | mk (ρ:List Addr) (σp:PSt) (h:MH) (rs:RS X.K ρ H σp σ) (rh:RH X.K X.mg ρ H h) (q:Ful X R σp ρ H (m σp h) Q):tM X R m σ H Q
def ME(X:Cx)(e:Expr)(m:Mx PV):Prop:=PE X e (tM X (RV' X) m)
def MT(X:Cx)(e:Expr)(m:Mx Bool):Prop:=PT X e (tM X REq m)
def MW(X:Cx)(e:Expr)(m:Mx Bool):Prop:=PW X e (tM X REq m)
def MA(X:Cx)(es:List Expr)(m:Mx (List PV)):Prop:=PA X es (tM X (RVs' X) m)
def PE.imp(h:PE X e t)(i:∀σ H Q,t' σ H Q->t σ H Q):PE X e t':=fun FA s σ H Q I q=>h FA s σ H Q I (i σ H Q q)
def PT.imp(h:PT X e t)(i:∀σ H Q,t' σ H Q->t σ H Q):PT X e t':=fun FA s σ H Q I q=>h FA s σ H Q I (i σ H Q q)
def PW.imp(h:PW X e t)(i:∀σ H Q,t' σ H Q->t σ H Q):PW X e t':=fun whole FA s σ H Q I q=>h whole FA s σ H Q I (i σ H Q q)
def PA.imp(h:PA X e t)(i:∀σ H Q,t' σ H Q->t σ H Q):PA X e t':=fun pos FA s σ H Q I q=>h pos FA s σ H Q I (i σ H Q q)
def PS.imp(h:PS X e t)(i:∀D σ H,t' D σ H->t D σ H):PS X e t':=fun FA s σ H D I q=>h FA s σ H D I (i D σ H q)
def PSs.imp(h:PSs X e t)(i:∀D σ H,t' D σ H->t D σ H):PSs X e t':=fun FA s σ H D I q=>h FA s σ H D I (i D σ H q)
def bj(X:Cx)(ρ:List Addr)(H:Hp)(o:SOut)(D:Ends):Prop:=match o with
 | .nx σp h'=>∀ρ' H' σ',Le ρ H ρ' H'->RH X.K X.mg ρ' H' h'->RS X.K ρ' H' σp σ'->D.nx σ' H'
 | .bk σp h'=>∀ρ' H' σ',Le ρ H ρ' H'->RH X.K X.mg ρ' H' h'->RS X.K ρ' H' σp σ'->D.bk σ' H'
 | .ct σp h'=>∀ρ' H' σ',Le ρ H ρ' H'->RH X.K X.mg ρ' H' h'->RS X.K ρ' H' σp σ'->D.ct σ' H'
 | .rt v h'=>∀ρ' H' v',Le ρ H ρ' H'->RH X.K X.mg ρ' H' h'->RP X.K ρ' H' v v'->D.rt v' H'
 | .exc x σp h'=>XP X σp ρ H x h'
 | .rse x σp h'=>XM X σp ρ H x h'
 | .bad=>False
def bj.le(l:Le ρ H ρ1 H1)(f:bj X ρ H o D):bj X ρ1 H1 o D:=by
 cases o with
 | nx σp h=>exact fun ρ' H' v' l'=>f ρ' H' v' (l.trans l')
 | bk σp h=>exact fun ρ' H' v' l'=>f ρ' H' v' (l.trans l')
 | ct σp h=>exact fun ρ' H' v' l'=>f ρ' H' v' (l.trans l')
 | rt v h=>exact fun ρ' H' v' l'=>f ρ' H' v' (l.trans l')
 | exc x σp h=>exact XP.le l f
 | rse x σp h=>exact XM.le l f
 | bad=>exact f
abbrev Mst:=PSt->MH->SOut
inductive tMS (X:Cx) (m:Mst) (D:Ends) (σ:L2.St) (H:Hp):Prop
 | mk (ρ:List Addr) (σp:PSt) (h:MH) (rs:RS X.K ρ H σp σ) (rh:RH X.K X.mg ρ H h) (q:bj X ρ H (m σp h) D):tMS X m D σ H
def MS(X:Cx)(st:Stmt)(m:Mst):Prop:=PS X st (tMS X m)
def MSs(X:Cx)(st:List Stmt)(m:Mst):Prop:=PSs X st (tMS X m)
section
variable {X:Cx} {N W G:List Str} {k:Nat}
structure Good (X:Cx) (N W G:List Str) (k:Nat):Prop where
 hN:X.N=N
 nd:N.Nodup
 loc:∀x∈N,Loc X.env.scope x
 fn:∀x∈W,X.fn x=true\/X.env.scope.names.lookup x=some .local
 gl:∀x∈G,Gl X x
 dbg:∀x∈N++G,(x == ("__debug__":Str))=false/\(x == ("__classdict__":Str))=false/\x≠"__name__"
 calm:X.calm=true
 room:Room k X.A
 po:PassesOwn (model X.prog X.w) X.A X.env X.xe
def Good.x(g:Good X N W G k){i:Nat}{x:Str}(hi:N[i]?=some x):X.N[i]?=some x:=by rw[g.hN];exact hi
def aR{l:List Str}{i:Nat}{x:Str}(hi:l[i]?=some x):x∈l:=qaK hi
def rJ(X:Cx)(g:PV->PV->MH->Out PV):R2:=fun x' y' H Q=>∃ρ h x y,RH X.K X.mg ρ H h/\RP X.K ρ H x x'/\RP X.K ρ H y y'/\fo X (RV' X) ρ H (g x y h) Q
abbrev OpJ(X:Cx)(f:Value->Value->Sem Value)(g:PV->PV->MH->Out PV):Prop:=OpR X f (rJ X g)
def uJ(X:Cx)(g:PV->MH->Out PV):V->Hp->VK->Prop:=fun x' H Q=>∃ρ h x,RH X.K X.mg ρ H h/\RP X.K ρ H x x'/\fo X (RV' X) ρ H (g x h) Q
abbrev UnJ(X:Cx)(f:Value->Sem Value)(g:PV->MH->Out PV):Prop:=UnR X f (uJ X g)
def cJ(X:Cx)(g:List PV->MH->Out PV):List V->Hp->VK->Prop:=fun xs' H Q=>∃ρ h xs,RH X.K X.mg ρ H h/\RPs X.K ρ H xs xs'/\fo X (RV' X) ρ H (g xs h) Q
abbrev bX(X:Cx)(f:Value)(g:List PV->MH->Out PV):Prop:=cP X f (cJ X g)
def ae(i:Nat):Mx PV:=fun σ h=>match σ[i]? with
 | some (some v)=>.ok v h
 | _=>.bad
def mC(v:PV):Mx PV:=fun _ h=>.ok v h
def t7(g:Good X N W G k)(i:Nat){x:Str}{pos:Pos}(hi:N[i]?=some x):ME X (.Name x pos) (ae i):=by
 have d:=g.dbg x (qaY _ (aR hi));have hv:Vis X.env.scope x:=by
  rcases g.loc x (aR hi) with q|q
  ·exact .inl q
  ·exact .inr (.inl q)
 refine PE.imp (pe_var (g.x hi) hv d.1 d.2.1) fun σ H Q ⟨ρ,σp,h,rs,rh,f⟩=>?_;unfold ae at f
 cases e:σp[i]? with
 | none=>rw[e] at f;exact f.elim
 | some o =>
  rw[e] at f
  cases o with
  | none=>exact f.elim
  | some v =>
   obtain⟨v',e',r⟩:=rs.2 i v e;exact⟨v',e',f ρ H v' (Le.refl _ _) rh r⟩
def aw:ME X (.Constant (.int i) j pos) (mC (.int i)):=PE.imp pe_int fun _ H _ ⟨ρ,_,_,_,rh,f⟩=>f ρ H _ (Le.refl _ _) rh (.int i)
def hG:ME X (.Constant (.str i) j pos) (mC (.str i)):=PE.imp pe_str fun _ H _ ⟨ρ,_,_,_,rh,f⟩=>f ρ H _ (Le.refl _ _) rh (.str i)
def ni:ME X (.Constant (.bool i) j pos) (mC (.bl i)):=PE.imp pe_bl fun _ H _ ⟨ρ,_,_,_,rh,f⟩=>f ρ H _ (Le.refl _ _) rh (.bl i)
def tw:ME X (.Constant .none j pos) (mC .non):=PE.imp pe_non fun _ H _ ⟨ρ,_,_,_,rh,f⟩=>f ρ H _ (Le.refl _ _) rh .non
def ai(f:PV->PV->MH->Out PV)(ma mb:Mx PV):Mx PV:=fun σ h=>(ma σ h).bind fun x h1=>(mb σ h1).bind fun y h2=>(f x y h2).ne
def mUn(f:PV->MH->Out PV)(ma:Mx PV):Mx PV:=fun σ h=>(ma σ h).bind fun x h1=>(f x h1).ne
def oY{f:PV->PV->MH->Out PV}{ma mb:Mx PV}{σ:L2.St}{H:Hp}{Q:VK}(q:tM X (RV' X) (ai f ma mb) σ H Q):tOp (rJ X f) (tM X (RV' X) ma) (tM X (RV' X) mb) σ H Q:=by
 obtain⟨ρ,σp,h,rs,rh,q⟩:=q;refine⟨ρ,σp,h,rs,rh,Ful.bind q fun ρ1 H1 x x' h1 _ l1 rh1 rx q1=>?_⟩;refine⟨ρ1,σp,h1,rs.le l1,rh1,Ful.bind q1 fun ρ2 H2 y y' h2 _ l2 rh2 ry q2=>?_⟩;exact⟨ρ2,h2,x,y,rh2,rx.le l2,ry,q2.zero⟩
def aP(ho:OpJ X (binaryOp op) f)(ha:ME X a ma)(hb:ME X b mb):ME X (.BinOp a op b pos) (ai f ma mb) :=
 PE.imp (pe_op ho ha hb) fun _ _ _ q=>oY q
def me_un(ho:UnJ X (unaryOp op) f)(ha:ME X a ma):ME X (.UnaryOp op a pos) (mUn f ma) :=
 PE.imp (pe_un ho ha) fun _ _ _ ⟨ρ,σp,h,rs,rh,q⟩=>⟨ρ,σp,h,rs,rh,Ful.bind q fun ρ1 H1 x x' h1 _ l1 rh1 rx q1=>⟨ρ1,h1,x,rh1,rx,q1.zero⟩⟩
def tq(ho:OpJ X (compareOp op) f)(ha:ME X a ma)(hb:ME X b mb)(hm:behindInMarks op b=false):ME X (.Compare a [op] [b] pos) (ai f ma mb) :=
 PE.imp (pe_cmpR ho ha hb hm) fun _ _ _ q=>oY q
def mB(m:Mx PV):Mx Bool:=fun σ h=>(m σ h).bind fun v h1=>match v with
 | .bl b=>.ok b h1
 | _=>.bad
def tM_B(q:tM X REq (mB m) σ H Q):tM X (RV' X) m σ H fun x H1=>∃c,x=.bl c/\Q c H1:=by
 obtain⟨ρ,σp,h,rs,rh,q⟩:=q;refine⟨ρ,σp,h,rs,rh,Ful.bind q fun ρ1 H1 x x' h1 _ l1 rh1 rx q1=>?_⟩
 cases rx with
 | bl b=>exact⟨b,rfl,q1 ρ1 H1 b (Le.refl _ _) rh1 rfl⟩
 | _=>exact q1.elim
def sF(ho:OpJ X (compareOp op) f)(ha:ME X a ma)(hb:ME X b mb)(hm:behindInMarks op b=false):MT X (.Compare a [op] [b] pos) (mB (ai f ma mb)) :=
 PT.imp (pt_cmpR ho ha hb hm) fun σ H Q q=>by
  obtain⟨ρ,σp,h,rs,rh,q⟩:=tM_B q;exact oY ⟨ρ,σp,h,rs,rh,q⟩
def sK(h:ME X e m)(he:∀whole,isTrue e X.env whole=(do let v <-whole;standAt e.pos;holding [v] (truthy v)):=by intro _;rfl):MT X e (mB m) :=
 PT.imp (pt_val h he) fun _ _ _ q=>tM_B q
def lP(m:Mx Bool):Mx Bool:=fun σ h=>(m σ h).bind fun b h1=>.ok (!b) h1
def tT(h:MT X e m):MT X (.UnaryOp .Not e pos) (lP m) :=
 PT.imp (pt_not h) fun _ _ _ ⟨ρ,σp,h,rs,rh,q⟩=>⟨ρ,σp,h,rs,rh,Ful.bind q fun ρ1 H1 x x' h1 _ l1 rh1 rx q1=>by
  cases rx;exact q1 ρ1 H1 _ (Le.refl _ _) rh1 rfl⟩
def mAnd(a b:Mx Bool):Mx Bool:=fun σ h=>(a σ h).bind fun x h1=>if x=true then b σ h1 else .ok false h1
def mOr(a b:Mx Bool):Mx Bool:=fun σ h=>(a σ h).bind fun x h1=>if x=true then .ok true h1 else b σ h1
section
variable {a b:Expr} {rest:List Expr} {ma mb:Mx Bool} {pos:Pos}
def mw_and1(ha:MT X a ma):MW X (.BoolOp .And [a] pos) ma:=pw_and1 ha
def k5(ha:MT X a ma):MW X (.BoolOp .Or [a] pos) ma:=pw_or1 ha
def mw_and(ha:MT X a ma)(hb:MW X (.BoolOp .And (b::rest) pos) mb):MW X (.BoolOp .And (a::b::rest) pos) (mAnd ma mb) :=
 PW.imp (pw_and ha hb) fun σ H Q ⟨ρ,σp,h,rs,rh,q⟩=>⟨ρ,σp,h,rs,rh,Ful.bind q fun ρ1 H1 x x' h1 _ l1 rh1 rx q1=>by
  cases rx
  cases x with
  | true=>exact⟨ρ1,σp,h1,rs.le l1,rh1,q1⟩
  | false=>exact q1 ρ1 H1 _ (Le.refl _ _) rh1 rfl⟩
def kS(ha:MT X a ma)(hb:MW X (.BoolOp .Or (b::rest) pos) mb):MW X (.BoolOp .Or (a::b::rest) pos) (mOr ma mb) :=
 PW.imp (pw_or ha hb) fun σ H Q ⟨ρ,σp,h,rs,rh,q⟩=>⟨ρ,σp,h,rs,rh,Ful.bind q fun ρ1 H1 x x' h1 _ l1 rh1 rx q1=>by
  cases rx
  cases x with
  | true=>exact q1 ρ1 H1 _ (Le.refl _ _) rh1 rfl
  | false=>exact⟨ρ1,σp,h1,rs.le l1,rh1,q1⟩⟩
def MW.mt(h:MW X e m):MT X e m:=PW.pt h
end
def iL(a b:Mx PV):Mx PV:=fun σ h=>(a σ h).bind fun x h1=>match x with
 | .bl c=>if c=true then b σ h1 else .ok (.bl false) h1
 | _=>.bad
def si(a:Mx PV):Mx PV:=fun σ h=>(a σ h).bind fun x h1=>match x with
 | .bl c=>.ok (.bl (!c)) h1
 | _=>.bad
section
variable {a b:Expr} {rest:List Expr} {ma mb:Mx PV} {pos:Pos}
def tZ(ha:ME X a ma):ME X (.BoolOp op [a] pos) ma:=pe_one ha
def oB(ha:ME X a ma)(hb:ME X (.BoolOp .And (b::rest) pos) mb):ME X (.BoolOp .And (a::b::rest) pos) (iL ma mb) :=
 PE.imp (pe_and ha hb) fun σ H Q ⟨ρ,σp,h,rs,rh,q⟩=>⟨ρ,σp,h,rs,rh,Ful.bind q fun ρ1 H1 x x' h1 _ l1 rh1 rx q1=>by
  cases rx with
  | bl c =>
   refine⟨c,rfl,?_⟩
   cases c with
   | true=>exact⟨ρ1,σp,h1,rs.le l1,rh1,q1⟩
   | false=>exact q1 ρ1 H1 _ (Le.refl _ _) rh1 (.bl false)
  | _=>exact q1.elim⟩
def me_not(ha:ME X a ma):ME X (.UnaryOp .Not a pos) (si ma) :=
 PE.imp (pe_not ha) fun σ H Q ⟨ρ,σp,h,rs,rh,q⟩=>⟨ρ,σp,h,rs,rh,Ful.bind q fun ρ1 H1 x x' h1 _ l1 rh1 rx q1=>by
  cases rx with
  | bl c=>exact⟨c,rfl,q1 ρ1 H1 _ (Le.refl _ _) rh1 (.bl _)⟩
  | _=>exact q1.elim⟩
def mIfE(c:Mx Bool)(a b:Mx PV):Mx PV:=fun σ h=>(c σ h).bind fun x h1=>if x=true then a σ h1 else b σ h1
def me_ifE(hc:MT X c mc)(ha:ME X a ma)(hb:ME X b mb):ME X (.IfExp c a b pos) (mIfE mc ma mb) :=
 PE.imp (vF hc ha hb) fun σ H Q ⟨ρ,σp,h,rs,rh,q⟩=>⟨ρ,σp,h,rs,rh,Ful.bind q fun ρ1 H1 x x' h1 _ l1 rh1 rx q1=>by
  cases rx
  cases x with
  | true=>exact⟨ρ1,σp,h1,rs.le l1,rh1,q1⟩
  | false=>exact⟨ρ1,σp,h1,rs.le l1,rh1,q1⟩⟩
end
def mNil:Mx (List PV):=fun _ h=>.ok [] h
def ac(a:Mx PV)(r:Mx (List PV)):Mx (List PV):=fun σ h=>(a σ h).bind fun x h1=>(r σ h1).bind fun xs h2=>.ok (x::xs) h2
def aE:MA X [] mNil:=PA.imp pE fun σ H Q ⟨ρ,σp,h,rs,rh,q⟩=>q ρ H _ (Le.refl _ _) rh .nil
def ao(ha:ME X e m)(hr:MA X es ms)(hs:starEach (e::es) X.env=(false,eval e X.env)::starEach es X.env:=by rfl):MA X (e::es) (ac m ms) :=
 PA.imp (jC ha hr hs) fun σ H Q ⟨ρ,σp,h,rs,rh,q⟩=>⟨ρ,σp,h,rs,rh,Ful.bind q fun ρ1 H1 x x' h1 _ l1 rh1 rx q1 =>
  ⟨ρ1,σp,h1,rs.le l1,rh1,Ful.bind q1 fun ρ2 H2 y y' h2 _ l2 rh2 ry q2=>q2 ρ2 H2 _ (Le.refl _ _) rh2 (.cons (rx.le l2) ry)⟩⟩
def newL(xs:List PV)(h:MH):Out PV:=if xs.length<=sizeLine then .ok (.loc h.length) (h++[.lst xs]) else .bad
def newT(xs:List PV)(h:MH):Out PV:=if xs.length<=sizeLine then .ok (.tup xs) h else .bad
def jy{ρ:List Addr}{H:Hp}{h:MH}{xs:List PV}{ys:List V}{Q:VK}(rh:RH X.K X.mg ρ H h)(rs:RPs X.K ρ H xs ys)(f:fo X (RV' X) ρ H (newL xs h) Q):ys.length<=sizeLine/\∀p,H p=none->Q (.ref p) (upd H p (.lst ys)):=by
 unfold newL at f
 split at f
 ·rename_i hl
  refine⟨by rw[<-rs.length];exact hl,fun p hp=>?_⟩;obtain⟨r1,l1⟩:=rh.new hp (o:=.lst xs) ⟨ys,rfl,rs⟩;refine f _ _ _ l1 r1 (.loc ?_);rw[<-rh.len];simp
 ·exact f.elim
def qu{ρ:List Addr}{H:Hp}{h:MH}{xs:List PV}{ys:List V}{Q:VK}(rh:RH X.K X.mg ρ H h)(rs:RPs X.K ρ H xs ys)(f:fo X (RV' X) ρ H (newT xs h) Q):ys.length<=sizeLine/\∀p,H p=none->Q (.ref p) (upd H p (.tup ys)):=by
 unfold newT at f
 split at f
 ·rename_i hl
  refine⟨by rw[<-rs.length];exact hl,fun p hp=>?_⟩;obtain⟨r1,l1⟩:=rh.tup hp ys;exact f _ _ _ l1 r1 (.tup (.inl (.inl bR)) (rs.le l1))
 ·exact f.elim
def newL_f{σp:PSt}{ρ:List Addr}{H:Hp}{h:MH}{xs:List PV}{Q:VK}(f:Ful X (RV' X) σp ρ H (newL xs h) Q):fo X (RV' X) ρ H (newL xs h) Q:=by
 unfold newL at f ⊢
 split at f
 ·rw[qae (by assumption)];exact f
 ·exact f.elim
def newT_f{σp:PSt}{ρ:List Addr}{H:Hp}{h:MH}{xs:List PV}{Q:VK}(f:Ful X (RV' X) σp ρ H (newT xs h) Q):fo X (RV' X) ρ H (newT xs h) Q:=by
 unfold newT at f ⊢
 split at f
 ·rw[qae (by assumption)];exact f
 ·exact f.elim
def ft(m:Mx (List PV)):Mx PV:=fun σ h=>(m σ h).bind newL
def dR(m:Mx (List PV)):Mx PV:=fun σ h=>(m σ h).bind newT
def ul(h:MA X es ms):ME X (.List es pos) (ft ms) :=
 PE.imp (pe_lst h) fun σ H Q ⟨ρ,σp,h,rs,rh,q⟩=>⟨ρ,σp,h,rs,rh,Ful.bind q fun ρ1 H1 x x' h1 _ l1 rh1 rx q1=>jy rh1 rx (newL_f q1)⟩
def nH(h:MA X es ms):ME X (.Tuple es j pos) (dR ms) :=
 PE.imp (pe_tup h) fun σ H Q ⟨ρ,σp,h,rs,rh,q⟩=>⟨ρ,σp,h,rs,rh,Ful.bind q fun ρ1 H1 x x' h1 _ l1 rh1 rx q1=>qu rh1 rx (newT_f q1)⟩
def SOut.then(o:SOut)(k:Mst):SOut:=match o with
 | .nx σ h=>k σ h
 | o=>o
def aI(a b:Mst):Mst:=fun σ h=>(a σ h).then b
def mSkip:Mst:=fun σ h=>.nx σ h
def eJ:MSs X [] mSkip:=PSs.imp pss_nil fun D σ H ⟨ρ,σp,h,rs,rh,q⟩=>q ρ H σ (Le.refl _ _) rh rs
def mss_one{st:Stmt}{m:Mst}(h:MS X st m):MSs X [st] m:=pss_one h
def bj.then{ρ:List Addr}{H:Hp}{o:SOut}{k:Mst}{D:Ends}(q:bj X ρ H (o.then k) D):bj X ρ H o { D with nx:=fun σ H=>tMS X k D σ H}:=by
 cases o with
 | nx σp h=>exact fun ρ' H' σ' l r s=>⟨ρ',σp,h,s,r,bj.le l q⟩
 | _=>exact q
def vK{st:Stmt}{rest:List Stmt}{m u:Mst}(h1:MS X st m)(h2:MSs X rest u):MSs X (st::rest) (aI m u) :=
 PSs.imp (vC h1 h2) fun D σ H ⟨ρ,σp,h,rs,rh,q⟩=>⟨ρ,σp,h,rs,rh,bj.then q⟩
def bn(m:Mx PV):Mst:=fun σ h=>match m σ h with
 | .ok v h'=>.rt v h'
 | .exc x h'=>.exc x σ h'
 | .bad=>.bad
def ms_ret(he:ME X e m):MS X (.Return (some e) pos) (bn m) :=
 PS.imp (ps_ret he) fun D σ H ⟨ρ,σp,h,rs,rh,q⟩=>⟨ρ,σp,h,rs,rh,by
  unfold bn at q
  cases e:m σp h with
  | ok v h'=>rw[e] at q;exact q
  | exc x h'=>rw[e] at q;exact q
  | bad=>rw[e] at q;exact q⟩
def mEx{α:Type}(m:Mx α)(k:α->Mst):Mst:=fun σ h=>match m σ h with
 | .ok v h'=>k v σ h'
 | .exc x h'=>.exc x σ h'
 | .bad=>.bad
def bj.ex{α β:Type}{R:Rl α β}{m:Mx α}{k:α->Mst}{ρ:List Addr}{H:Hp}{σp:PSt}{h:MH}{D:Ends}{Q:β->Hp->Prop}(q:bj X ρ H (mEx m k σp h) D)
  (w:∀ρ1 H1 v v' h1,Le ρ H ρ1 H1->RH X.K X.mg ρ1 H1 h1->R ρ1 H1 v v'->bj X ρ1 H1 (k v σp h1) D->Q v' H1):Ful X R σp ρ H (m σp h) Q:=by
 unfold mEx at q
 cases e:m σp h with
 | ok v h'=>rw[e] at q;exact fun ρ1 H1 v' l r z=>w ρ1 H1 v v' h' l r z (bj.le l q)
 | exc x h'=>rw[e] at q;exact q
 | bad=>rw[e] at q;exact q
def gu(m:Mx PV):Mst:=mEx m fun _=>mSkip
def qU{e:Expr}{m:Mx PV}{pos:Pos}(he:ME X e m)(hs:swapsWith e none pos.line X.env=pure false:=by rfl):MS X (.Expr e pos) (gu m) :=
 PS.imp (ps_expr he hs) fun D σ H ⟨ρ,σp,h,rs,rh,q⟩=>⟨ρ,σp,h,rs,rh,bj.ex q fun ρ1 H1 v v' h1 l r z w=>w ρ1 H1 σ (Le.refl _ _) r (rs.le l)⟩
def mIf(c:Mx Bool)(a b:Mst):Mst:=mEx c fun x=>if x=true then a else b
def gF{c:Expr}{a b:List Stmt}{mc:Mx Bool}{ma mb:Mst}{pos:Pos}(hc:MT X c mc)(ha:MSs X a ma)(hb:MSs X b mb):MS X (.If c a b pos) (mIf mc ma mb) :=
 PS.imp (ps_if hc ha hb) fun D σ H ⟨ρ,σp,h,rs,rh,q⟩=>⟨ρ,σp,h,rs,rh,bj.ex q fun ρ1 H1 v v' h1 l r z w=>by
  cases z
  cases v with
  | true=>exact⟨ρ1,σp,h1,rs.le l,r,w⟩
  | false=>exact⟨ρ1,σp,h1,rs.le l,r,w⟩⟩
def aU(i:Nat)(m:Mx PV):Mst:=mEx m fun v σ h=>.nx (σ.set i (some v)) h
def oU(g:Good X N W G k)(i:Nat){x:Str}{e:Expr}{m:Mx PV}{pos pos':Pos}(hi:N[i]?=some x)(hw:W[i]?=some x)(he:ME X e m)(hs:swapsWith e (some (.Name x pos')) pos.line X.env=pure false:=by rfl) :
  MS X (.Assign [.Name x pos'] e pos) (aU i m):=by
 refine PS.imp (ps_set (by rw[g.hN];exact g.nd) (g.x hi) (g.loc x (aR hi)) he hs (g.fn x (aR hw))) fun D σ H ⟨ρ,σp,h,rs,rh,q⟩=>?_;exact⟨ρ,σp,h,rs,rh,bj.ex q fun ρ1 H1 v v' h1 l r z w=>w ρ1 H1 _ (Le.refl _ _) r ((rs.le l).set i z)⟩
end
end MM
namespace MM
open PySem PySem.Spec PyProof.Rows L2
local instance (priority:=1) cdec (p:Prop):Decidable p:=Classical.propDecidable p
section
variable {X:Cx} {N W G:List Str} {k:Nat}
abbrev Mg:=PV->Mst
def j4(X:Cx)(ρ:List Addr)(H:Hp)(o:SOut)(Q:L2.St->Hp->Prop):Prop:=match o with
 | .nx σp h'=>∀ρ' H' σ',Le ρ H ρ' H'->RH X.K X.mg ρ' H' h'->RS X.K ρ' H' σp σ'->Q σ' H'
 | .exc x σp h'=>XP X σp ρ H x h'
 | _=>False
def j4.le(l:Le ρ H ρ1 H1)(f:j4 X ρ H o Q):j4 X ρ1 H1 o Q:=by
 cases o with
 | nx σp h=>exact fun ρ' H' v' l'=>f ρ' H' v' (l.trans l')
 | exc x σp h=>exact XP.le l f
 | _=>exact f
inductive tG (X:Cx) (g:Mg) (v':V) (σ:L2.St) (H:Hp) (Q:L2.St->Hp->Prop):Prop
 | mk (ρ:List Addr) (σp:PSt) (h:MH) (v:PV) (rs:RS X.K ρ H σp σ) (rh:RH X.K X.mg ρ H h) (rv:RP X.K ρ H v v') (q:j4 X ρ H (g v σp h) Q):tG X g v' σ H Q
def MG(X:Cx)(tg:Expr)(g:Mg):Prop:=PG X tg (tG X g)
def PG.imp(h:PG X e t)(i:∀v σ H Q,t' v σ H Q->t v σ H Q):PG X e t':=fun FA s σ H v u Q I r q=>h FA s σ H v u Q I r (i v σ H Q q)
def gNm(i:Nat):Mg:=fun v σ h=>.nx (σ.set i (some v)) h
def qH(g:Good X N W G k)(i:Nat)(hi:N[i]?=some x)(hw:W[i]?=some x):MG X (.Name x pos) (gNm i) :=
 PG.imp (pg_name (by rw[g.hN];exact g.nd) (g.x hi) (g.loc x (aR hi)) (g.fn x (aR hw))) fun v' σ H Q ⟨ρ,σp,h,v,rs,rh,rv,q⟩=>q ρ H _ (Le.refl _ _) rh (rs.set i rv)
abbrev Mgs:=List PV->Mst
inductive tGs (X:Cx) (g:Mgs) (v':List V) (σ:L2.St) (H:Hp) (Q:L2.St->Hp->Prop):Prop
 | mk (ρ:List Addr) (σp:PSt) (h:MH) (v:List PV) (rs:RS X.K ρ H σp σ) (rh:RH X.K X.mg ρ H h) (rv:RPs X.K ρ H v v') (q:j4 X ρ H (g v σp h) Q):tGs X g v' σ H Q
def MGs(X:Cx)(tg:List Expr)(g:Mgs):Prop:=PGs X tg (tGs X g)
def PGs.imp(h:PGs X e t)(i:∀v σ H Q,t' v σ H Q->t v σ H Q):PGs X e t':=fun FA s σ H v u Q I r q=>h FA s σ H v u Q I r (i v σ H Q q)
def gNl:Mgs:=fun vs σ h=>match vs with
 | []=>.nx σ h
 | _=>.bad
def gCn(a:Mg)(r:Mgs):Mgs:=fun vs σ h=>match vs with
 | v::vr=>(a v σ h).then (r vr)
 | []=>.bad
def mgs_nil:MGs X [] gNl:=PGs.imp pgs_nil fun v' σ H Q ⟨ρ,σp,h,v,rs,rh,rv,q⟩=>by
 cases rv with
 | nil=>exact⟨rfl,q ρ H σ (Le.refl _ _) rh rs⟩
 | cons _ _=>exact q.elim
def u7(h1:MG X e a)(h2:MGs X es r)
  (hs:(assignEach (e::es) X.env).map (·.2)=assign e X.env::(assignEach es X.env).map (·.2):=by rfl):MGs X (e::es) (gCn a r) :=
 PGs.imp (u5 h1 h2 hs) fun v' σ H Q ⟨ρ,σp,h,v,rs,rh,rv,q⟩=>by
  cases rv with
  | nil=>exact q.elim
  | @cons x y xs ys rx rr =>
   refine⟨_,_,rfl,ρ,σp,h,x,rs,rh,rx,?_⟩;dsimp only[gCn] at q
   cases e:a x σp h with
   | nx σ1 h1=>rw[e] at q;exact fun ρ' H' σ' l r1 s1=>⟨ρ',σ1,h1,xs,s1,r1,rr.le l,j4.le l q⟩
   | _=>rw[e] at q;exact q
def gTp(r:Mgs)(n:Nat):Mg:=fun v σ h=>match v with
 | .tup xs=>if xs.length=n then r xs σ h else .bad
 | _=>.bad
def mg_tup(g:Good X N W G k){es:List Expr}{j:Nat}{r:Mgs}{n:Nat}{pos:Pos}(h:MGs X es r)(hn:(assignEach es X.env).length=n:=by rfl)(hst:(assignEach es X.env).findIdx? (·.1)=none:=by rfl) :
  MG X (.Tuple es j pos) (gTp r n) :=
 PG.imp (pg_tup g.calm h hn hst) fun v' σ H Q ⟨ρ,σp,h,v,rs,rh,rv,q⟩=>by
  cases rv with
  | tup s rr =>
   dsimp only[gTp] at q
   split at q
   ·rename_i hl
    exact⟨_,_,rfl,s,by rw[<-rr.length];exact hl,ρ,σp,h,_,rs,rh,rr,q⟩
   ·exact q.elim
  | _=>exact q.elim
def mAsg(m:Mx PV)(g:Mg):Mst:=mEx m fun v σ h=>match g v σ h with
 | .nx σ2 h2=>.nx σ2 h2
 | .exc x σ2 h2=>.exc x σ2 h2
 | _=>.bad
def tI{tg e:Expr}{m:Mx PV}{g:Mg}{pos:Pos}(he:ME X e m)(hg:MG X tg g)(hs:swapsWithSole [tg] e pos.line X.env=pure false:=by rfl)(hw:swappedStores [tg] e X.env=pure none:=by rfl)
  (h1:(assignEach [tg] X.env).map (·.2)=[assign tg X.env]:=by rfl):MS X (.Assign [tg] e pos) (mAsg m g) :=
 PS.imp (ps_asg he hg hs hw h1) fun D σ H ⟨ρ,σp,h,rs,rh,q⟩=>⟨ρ,σp,h,rs,rh,bj.ex q fun ρ1 H1 v v' h1 l r z w=>⟨ρ1,σp,h1,v,rs.le l,r,z,by
  cases e:g v σp h1 with
  | _=>rw[e] at w;exact w⟩⟩
def mPar(i j:Nat)(m:Mx (List PV)):Mst:=mEx m fun vs σ h=>match vs with
 | [v,w]=>.nx ((σ.set i (some v)).set j (some w)) h
 | _=>.bad
def ms_par(g:Good X N W G k)(i j:Nat)(hi:N[i]?=some x)(hj:N[j]?=some y)(hij:i≠j)(ha:MA X [a,b] m)
  (hx:X.env.scope.names.lookup x=some .local) (hy:X.env.scope.names.lookup y=some .local)
  (hw:swappedStores [.Tuple [.Name x px,.Name y py] kt pt] (.Tuple [a,b] k2 pt2) X.env=pure (some [x,y]))
  (hs:swapsWithSole [.Tuple [.Name x px,.Name y py] kt pt] (.Tuple [a,b] k2 pt2) pos.line X.env=pure false:=by rfl) :
  MS X (.Assign [.Tuple [.Name x px,.Name y py] kt pt] (.Tuple [a,b] k2 pt2) pos) (mPar i j m) :=
 PS.imp (ps_par g.calm (by rw[g.hN];exact g.nd) (g.x hi) (g.x hj) hij hx hy ha hw hs) fun D σ H ⟨ρ,σp,h,rs,rh,q⟩=>⟨ρ,σp,h,rs,rh,bj.ex q fun ρ1 H1 v v' h1 l r z w=>by
  cases z with
  | nil=>exact w.elim
  | cons z1 z =>
   cases z with
   | nil=>exact w.elim
   | cons z2 z =>
    cases z with
    | nil=>exact⟨_,_,rfl,w ρ1 H1 _ (Le.refl _ _) r (((rs.le l).set i z1).set j z2)⟩
    | cons _ _=>exact w.elim⟩
def n4(o i v:PV)(h:MH):Option MH:=match o,i with
 | .loc n,.int j=>(match h[n]? with
  | some (.lst xs)=>(ixN xs.length j).map fun p=>h.set n (.lst (xs.set p v))
  | _=>none)
 | _,_=>none
def gSb(mo mi:Mx PV):Mg:=fun v=>mEx mo fun o=>mEx mi fun i σ h=>match n4 o i v h with
 | some h2=>.nx σ h2
 | none=>.bad
def uj(ho:ME X o mo)(hi:ME X i mi)
  (ha:∀v,assign (.Subscript o i pos) X.env v=(do
   let ov <-holding [v] (eval o X.env)
   let iv <-holding [v,ov] (eval i X.env)
   standAt pos
   holding [v,ov,iv] (setItem ov iv v)
   release [v,ov,iv] []):=by intro _;rfl):MG X (.Subscript o i pos) (gSb mo mi) :=
 PG.imp (pg_sub ho hi uP ha) fun v' σ H Q ⟨ρ,σp,h,v,rs,rh,rv,q⟩=>by
  refine⟨ρ,σp,h,rs,rh,?_⟩;unfold gSb mEx at q
  cases e:mo σp h with
  | exc x h1=>rw[e] at q;exact q
  | bad=>rw[e] at q;exact q
  | ok ov h1 =>
   rw[e] at q;intro ρ1 H1 o' l1 rh1 ro;refine⟨ρ1,σp,h1,rs.le l1,rh1,?_⟩;dsimp only at q
   cases e2:mi σp h1 with
   | exc x h2=>rw[e2] at q;exact XP.le l1 q
   | bad=>rw[e2] at q;exact q
   | ok iv h2 =>
    rw[e2] at q;intro ρ2 H2 i' l2 rh2 ri;have ro2:=ro.le l2;have rv2:=(rv.le l1).le l2;unfold n4 at q
    cases ro2 with
    | @loc n a en =>
     cases ri with
     | int j =>
      dsimp only at q;obtain⟨ob,eo,rob⟩:=rh2.obj en;rw[eo] at q
      cases ob with
      | dic fz ks xs=>exact q.elim
      | exc x=>exact q.elim
      | lst xs =>
       obtain⟨ys,ey,ry⟩:=rob;dsimp only at q
       cases ep:ixN xs.length j with
       | none=>rw[ep] at q;exact q.elim
       | some p =>
        rw[ep] at q;refine⟨a,ys,j,p,rfl,rfl,ey,by rw[<-ry.length];exact ep,?_⟩;obtain⟨r3,l3⟩:=rh2.put en (o:=.lst (xs.set p v)) ⟨_,rfl,RPs.set rv2 p ry⟩;exact q ρ2 _ σ (l1.trans (l2.trans l3)) r3 (rs.le (l1.trans (l2.trans l3)))
     | _=>exact q.elim
    | _=>exact q.elim
structure MIt where
 xs:List PV
 gd:List (Nat × List PV):=[]
def MIt.ok(it:MIt)(h:MH):Prop:=∀p∈it.gd,h[p.1]?=some (.lst p.2)
def nN(X:Cx):Rl MIt It:=fun ρ0 H0 it J=>∀ρ H h (i:Nat),Le ρ0 H0 ρ H->RH X.K X.mg ρ H h->it.ok h ->
 (i<it.xs.length->J.go i H/\∀x' H',J.yld i H x' H'->∃ρ' x,Le ρ H ρ' H'/\RH X.K X.mg ρ' H' h/\it.xs[i]?=some x/\RP X.K ρ' H' x x')/\(it.xs.length<=i->J.stop i H)
def MI(X:Cx)(tg iter:Expr)(m:Mx MIt):Prop:=PI X tg iter (tM X (nN X) m)
def PI.imp(h:PI X tg e t)(i:∀σ H Q,t' σ H Q->t σ H Q):PI X tg e t':=fun FA s σ H Q I q=>h FA s σ H Q I (i σ H Q q)
def mGo(it:MIt)(g:Mg)(b:Mst):List PV->Mst
 | []=>fun σ h=>if it.ok h then .nx σ h else .bad
 | x::r=>fun σ h=>if it.ok h then (match g x σ h with
   | .nx σ1 h1=>(match b σ1 h1 with
    | .nx σ2 h2=>mGo it g b r σ2 h2
    | .ct σ2 h2=>mGo it g b r σ2 h2
    | .bk σ2 h2=>.nx σ2 h2
    | .rt v h2=>.rt v h2
    | .exc e σ2 h2=>.exc e σ2 h2
    | .rse e σ2 h2=>.rse e σ2 h2
    | .bad=>.bad)
   | .exc e σ1 h1=>.exc e σ1 h1
   | _=>.bad) else .bad
def nS(mi:Mx MIt)(g:Mg)(b:Mst):Mst:=mEx mi fun it=>mGo it g b it.xs
def ue(gd:Good X N W G k)(hi:MI X tg iter mi)(hg:MG X tg g)(hb:MSs X body mb)
  (hs:∀x,foldedSetIterable iter X.env x=pure x:=by intro _;rfl):MS X (.For tg iter body [] pos) (nS mi g mb):=by
 refine PS.imp (ps_for gd.po gd.calm hi hg hb hs) fun D σ H ⟨ρ,σp,h,rs,rh,q⟩=>⟨ρ,σp,h,rs,rh,bj.ex q fun ρ1 H1 it J h1 l1 rh1 jr w=>?_⟩;refine⟨fun i m σ H=>m=it.xs.length - i/\i<=it.xs.length/\∃ρ σp h,Le ρ1 H1 ρ H/\RS X.K ρ H σp σ/\RH X.K X.mg ρ H h/\bj X ρ H (mGo it g mb (it.xs.drop i) σp h) D,⟨_,rfl,qaO _,ρ1,σp,h1,Le.refl _ _,rs.le l1,rh1,w⟩,?_⟩;rintro i m σ2 H2 ⟨rfl,hi,ρ2,σp2,h2,l2,rs2,rh2,w2⟩;by_cases hlt:i<it.xs.length
 ·have ed:it.xs.drop i=it.xs[i]::it.xs.drop (i+1):=qbz hlt;rw[ed] at w2;unfold mGo at w2
  split at w2
  ·rename_i hok
   obtain⟨j1,j2⟩:=jr ρ2 H2 h2 i l2 rh2 hok;obtain⟨go,yl⟩:=j1 hlt;refine .inr ⟨go,fun σ3 H3=>∃ρ3 σp3 h3,Le ρ1 H1 ρ3 H3/\RS X.K ρ3 H3 σp3 σ3/\RH X.K X.mg ρ3 H3 h3/\bj X ρ3 H3 (mGo it g mb (it.xs.drop (i+1)) σp3 h3) D,fun σ3 H3 z=>⟨_,by ext,rfl,hlt,z⟩,fun x' H' y=>?_⟩;obtain⟨ρ',x,l',rh',ex,rx⟩:=yl x' H' y;have ex':x=it.xs[i]:=by rw[qaA hlt] at ex;exact (Option.some.inj ex).symm
   subst ex';refine⟨ρ',σp2,h2,_,rs2.le l',rh',rx,?_⟩;have w2':=bj.le l' w2
   cases eg:g it.xs[i] σp2 h2 with
   | nx σ4 h4 =>
    rw[eg] at w2';intro ρ5 H5 σ5 l5 r5 s5;refine⟨ρ5,σ4,h4,s5,r5,?_⟩;have w3:=bj.le l5 w2';have l6:Le ρ1 H1 ρ5 H5:=l2.trans (l'.trans l5);dsimp only at w3
    cases em:mb σ4 h4 with
    | nx σ6 h6=>rw[em] at w3;exact fun ρ7 H7 σ7 l7 r7 s7=>⟨ρ7,σ6,h6,l6.trans l7,s7,r7,bj.le l7 w3⟩
    | ct σ6 h6=>rw[em] at w3;exact fun ρ7 H7 σ7 l7 r7 s7=>⟨ρ7,σ6,h6,l6.trans l7,s7,r7,bj.le l7 w3⟩
    | bk σ6 h6=>rw[em] at w3;exact w3
    | rt v h6=>rw[em] at w3;exact w3
    | exc e σ6 h6=>rw[em] at w3;exact w3
    | rse e σ6 h6=>rw[em] at w3;exact w3
    | bad=>rw[em] at w3;exact w3
   | exc e σ4 h4=>rw[eg] at w2';exact w2'
   | _=>rw[eg] at w2';exact w2'.elim
  ·exact w2.elim
 ·have e:i=it.xs.length:=by ext
  rw[e,List.drop_length] at w2;unfold mGo at w2
  split at w2
  ·rename_i hok
   obtain⟨j1,j2⟩:=jr ρ2 H2 h2 i l2 rh2 hok;exact .inl ⟨j2 (by ext),w2 ρ2 H2 σ2 (Le.refl _ _) rh2 rs2⟩
  ·exact w2.elim
def itSeq(v:PV)(h:MH):Out MIt:=match v with
 | .loc n=>(match h[n]? with
  | some (.lst xs)=>.ok ⟨xs,[(n,xs)]⟩ h
  | _=>.bad)
 | .frl xs=>.ok ⟨xs,[]⟩ h
 | _=>.bad
def mItL(m:Mx PV):Mx MIt:=fun σ h=>(m σ h).bind itSeq
def qo(hS:∀ρ' H' h,Le ρ H ρ' H'->RH X.K X.mg ρ' H' h->(⟨xs,gd⟩:MIt).ok h->∃ys,SqL X.K H' a ys/\RPs X.K ρ' H' xs ys):nN X ρ H ⟨xs,gd⟩ (Itl X.K a):=by
 intro ρ' H' h i l rh ok;obtain⟨ys,hs,rs⟩:=hS ρ' H' h l rh ok;refine⟨fun hi=>?_,fun hi=>⟨ys,hs,by rw[<-rs.length];exact hi⟩⟩;have hx:=qaA hi;obtain⟨y,ey,ry⟩:=rs.get hx;refine⟨⟨ys,y,hs,ey⟩,fun x' H2 ⟨e,z⟩=>?_⟩;subst e
 have:=z ys hs
 rw[ey] at this;cases this;exact⟨ρ',_,Le.refl _ _,rh,hx,ry⟩
def mi_list(hl:ME X l m):MI X tg l (mItL m) :=
 PI.imp (pi_list hl) fun σ H Q ⟨ρ,σp,h,rs,rh,q⟩=>⟨ρ,σp,h,rs,rh,Ful.bind q fun ρ1 H1 x x' h1 _ l1 rh1 rx q1=>by
  cases rx with
  | @loc n a e =>
   obtain⟨ob,eo,rob⟩:=rh1.obj e;dsimp only[itSeq] at q1;rw[eo] at q1
   cases ob with
   | dic fz ks xs=>exact q1.elim
   | exc x=>exact q1.elim
   | lst xs =>
    obtain⟨ys,ey,ry⟩:=rob;refine⟨a,rfl,⟨ys,SqL.of ey⟩,q1 ρ1 H1 _ (Le.refl _ _) rh1 (qo fun ρ' H' h' l rh' ok=>?_)⟩;obtain⟨ys',ey',ry'⟩:=rh'.at' n a _ (l.get e) (ok (n,xs) (by simp));exact⟨ys',SqL.of ey',ry'⟩
  | frl s r =>
   exact⟨_,rfl,⟨_,s.sq⟩,q1 ρ1 H1 _ (Le.refl _ _) rh1 (qo fun ρ' H' h' l rh' ok=>⟨_,(l.sqf s).sq,r.le l⟩)⟩
  | _=>exact q1.elim⟩
def mItT(m:Mx PV):Mx MIt:=fun σ h=>(m σ h).bind fun v h1=>match v with
 | .tup xs=>.ok ⟨xs,[]⟩ h1
 | _=>.bad
def mi_tup(hl:ME X l m):MI X tg l (mItT m) :=
 PI.imp (pi_tup hl) fun σ H Q ⟨ρ,σp,h,rs,rh,q⟩=>⟨ρ,σp,h,rs,rh,Ful.bind q fun ρ1 H1 x x' h1 _ l1 rh1 rx q1=>by
  cases rx with
  | @tup xs a ys s r =>
   refine⟨_,rfl,⟨_,s⟩,q1 ρ1 H1 _ (Le.refl _ _) rh1 ?_⟩;intro ρ' H' h' i l rh' ok;have s':=l.sqt s;have r':=r.le l;refine⟨fun hi=>?_,fun hi=>⟨ys,s',by rw[<-r.length];exact hi⟩⟩;have hx:=qaA hi;obtain⟨y,ey,ry⟩:=r'.get hx;refine⟨⟨ys,y,s',ey⟩,fun x' H2 ⟨e,z⟩=>?_⟩;subst e
   have:=z ys s'
   rw[ey] at this;cases this;exact⟨ρ',_,Le.refl _ _,rh',hx,ry⟩
  | _=>exact q1.elim⟩
def bw(lo:Int)(n:Nat):List PV:=(List.range n).map fun (i:Nat)=>PV.int (lo+(i:Int))
def hX(lo:Int)(n:Nat):(bw lo n).length=n:=by simp[bw]
def Itr_rel(lo:Int)(n:Nat):nN X ρ H ⟨bw lo n,[]⟩ (Itr lo n):=by
 intro ρ' H' h i l rh ok;have hl:=hX lo n;refine⟨fun hi=>⟨by rw[hl] at hi;exact hi,fun x' H2 ⟨e1,e2⟩=>?_⟩,fun hi=>by rw[hl] at hi;exact hi⟩;subst e1;subst e2;rw[hl] at hi;exact⟨ρ',.int (lo+i),Le.refl _ _,rh,by simp[bw,hi],.int _⟩
def gq(m:Mx (List PV)):Mx MIt:=fun σ h=>(m σ h).bind fun vs h1=>match vs with
 | [.int j]=>if -(2 ^ 62)<=j/\j<2 ^ 62 then .ok ⟨bw 0 j.toNat,[]⟩ h1 else .bad
 | _=>.bad
def my(hg:Gl X "range")(hm:X.mg "range"=none)(ha:MA X [a] m)(hs:starEach [a] X.env=[(false,eval a X.env)]:=by rfl):MI X tg (.Call (.Name "range" p) [a] [] pos) (gq m):=by
 refine PI.imp (sZ hg hm ha hs) fun σ H Q ⟨ρ,σp,h,rs,rh,q⟩=>⟨ρ,σp,h,rs,rh,Ful.bind q fun ρ1 H1 x x' h1 _ l1 rh1 rx q1=>?_⟩
 cases rx with
 | nil=>exact q1.elim
 | cons r1 t1 =>
  cases t1 with
  | nil =>
   cases r1 with
   | int j =>
    dsimp only at q1
    split at q1
    ·rename_i hj
     exact⟨j,rfl,hj.1,hj.2,q1 ρ1 H1 _ (Le.refl _ _) rh1 (Itr_rel 0 j.toNat)⟩
    ·exact q1.elim
   | _=>exact q1.elim
  | cons r2 t2=>cases r1 <;> exact q1.elim
def bJ(c:Mx Bool)(b:Mst):Nat->Mst
 | 0=>fun _ _=>.bad
 | n+1=>mEx c fun x=>if x=true then (fun σ h=>match b σ h with
   | .nx σ2 h2=>bJ c b n σ2 h2
   | .ct σ2 h2=>bJ c b n σ2 h2
   | .bk σ2 h2=>.nx σ2 h2
   | .rt v h2=>.rt v h2
   | .exc e σ2 h2=>.exc e σ2 h2
   | .rse e σ2 h2=>.rse e σ2 h2
   | .bad=>.bad) else mSkip
def mWh(c:Mx Bool)(b:Mst):Mst:=fun σ h=>if z:∃n,bJ c b n σ h≠.bad then bJ c b (Classical.choose z) σ h else .bad
def iR:∀{n:Nat} {σ:PSt} {h:MH},bJ c b n σ h≠.bad->bJ c b (n+1) σ h=bJ c b n σ h
 | n+1,σ,h,q=>by
  rw[bJ] at q;rw[bJ]
  conv=>rhs;rw[bJ]
  unfold mEx at q ⊢
  cases e:c σ h with
  | exc x h1=>rfl
  | bad=>rfl
  | ok x h1 =>
   rw[e] at q
   cases x with
   | false=>rfl
   | true =>
    simp only[if_true] at q ⊢
    cases em:b σ h1 with
    | nx σ2 h2=>rw[em] at q;exact iR q
    | ct σ2 h2=>rw[em] at q;exact iR q
    | _=>rfl
def qy(q:bJ c b n σ h≠.bad)(l:n<=m):bJ c b m σ h=bJ c b n σ h:=by
 induction l with
 | refl=>rfl
 | step l ih=>rw[iR (by rw[ih];exact q),ih]
def hR(q:bJ c b n σ h≠.bad):mWh c b σ h=bJ c b n σ h:=by
 have z:∃n,bJ c b n σ h≠.bad:=⟨n,q⟩;unfold mWh;rw[dif_pos z];have q2:=Classical.choose_spec z;rcases Nat.le_total n (Classical.choose z) with l|l
 ·exact qy q l
 ·exact (qy q2 l).symm
def va(gd:Good X N W G k)(hc:MT X c mc)(hb:MSs X body mb):MS X (.While c body [] pos) (mWh mc mb):=by
 refine PS.imp (vo gd.po hc hb) fun D σ H ⟨ρ,σp,h,rs,rh,q⟩=>?_;refine⟨fun m σ H=>∃ρ σp h,RS X.K ρ H σp σ/\RH X.K X.mg ρ H h/\bj X ρ H (bJ mc mb m σp h) D,?_,?_⟩
 ·unfold mWh at q
  split at q
  ·exact⟨_,ρ,σp,h,rs,rh,q⟩
  ·exact q.elim
 ·rintro m σ1 H1 ⟨ρ1,σp1,h1,rs1,rh1,q1⟩
  cases m with
  | zero=>exact q1.elim
  | succ m =>
   refine⟨ρ1,σp1,h1,rs1,rh1,bj.ex q1 fun ρ2 H2 v v' h2 l2 r2 z w=>?_⟩;cases z
   cases v with
   | false=>exact w ρ2 H2 σ1 (Le.refl _ _) r2 (rs1.le l2)
   | true =>
    rw[qae rfl] at w ⊢;refine⟨fun σ H=>∃ρ σp h,RS X.K ρ H σp σ/\RH X.K X.mg ρ H h/\bj X ρ H (bJ mc mb m σp h) D,fun σ' H' z=>⟨m,qbD _,z⟩,ρ2,σp1,h2,rs1.le l2,r2,?_⟩
    cases em:mb σp1 h2 with
    | nx σ6 h6=>rw[em] at w;exact fun ρ7 H7 σ7 l7 r7 s7=>⟨ρ7,σ6,h6,s7,r7,bj.le l7 w⟩
    | ct σ6 h6=>rw[em] at w;exact fun ρ7 H7 σ7 l7 r7 s7=>⟨ρ7,σ6,h6,s7,r7,bj.le l7 w⟩
    | bk σ6 h6=>rw[em] at w;exact w
    | rt v h6=>rw[em] at w;exact w
    | exc e σ6 h6=>rw[em] at w;exact w
    | rse e σ6 h6=>rw[em] at w;exact w
    | bad=>rw[em] at w;exact w
def ck(f:PV->Option PyData):List PV->Option (List PyData)
 | []=>some []
 | x::r=>match f x,ck f r with
  | some d,some ds=>some (d::ds)
  | _,_=>none
def rd:Nat->MH->PV->Option PyData
 | 0,_,v=>(match v with
  | .non=>some .none
  | .bl b=>some (.bool b)
  | .int i=>some (.int i)
  | .str x=>some (.str x)
  | _=>none)
 | n+1,h,v=>(match v with
  | .non=>some .none
  | .bl b=>some (.bool b)
  | .int i=>some (.int i)
  | .str x=>some (.str x)
  | .tup xs=>(ck (rd n h) xs).map PyData.tuple
  | .frl xs=>(ck (rd n h) xs).map PyData.list
  | .loc m=>(match h[m]? with
   | some (.lst xs)=>(ck (rd n h) xs).map PyData.list
   | _=>none))
def gR{hp:Heap}{f:PV->Option PyData}{K:qaa}{ρ:List Addr}{H:Hp}(hf:∀v v' u d,RP K ρ H v v'->aM v' u->f v=some d->∃as,Reads hp u d as) :
  ∀{xs:List PV} {ys:List V} {us:List Value} {ds:List PyData},RPs K ρ H xs ys->aA ys us->ck f xs=some ds->∃as,ReadsAll hp us ds as:=by
 intro xs
 induction xs with
 | nil =>
  intro ys us ds r v e;cases r;cases v;cases e;exact⟨_,.nil⟩
 | cons x xs ih =>
  intro ys us ds r v e;cases r with|cons r t=>cases v with|cons v w =>
  simp only[ck] at e
  split at e
  ·rename_i d ds' e1 e2
   cases e;obtain⟨a1,q1⟩:=hf _ _ _ _ r v e1;obtain⟨a2,q2⟩:=ih t w e2;exact⟨_,.cons q1 q2⟩
  ·cases e
def fR{FA:List (Addr × Obj)}{σ:L2.St}{H:Hp}{s:Shared}{ρ:List Addr}{h:MH}(I:Inv X FA σ H s)(rh:RH X.K X.mg ρ H h) :
  ∀(n:Nat) (v:PV) (v':V) (u:Value) (d:PyData),RP X.K ρ H v v'->aM v' u->rd n h v=some d->∃as,Reads s.heap u d as:=by
 intro n
 induction n with
 | zero =>
  intro v v' u d rp r e
  cases rp with
  | non=>cases e;cases r;exact⟨_,.none⟩
  | bl b=>cases e;cases r;exact⟨_,.bool b⟩
  | int i=>cases e;obtain⟨t,rfl⟩:=r;exact⟨_,.int i t⟩
  | str i=>cases e;obtain⟨t,rfl⟩:=r;exact⟨_,.str i t⟩
  | _=>cases e
 | succ n ih =>
  intro v v' u d rp r e
  cases rp with
  | non=>cases e;cases r;exact⟨_,.none⟩
  | bl b=>cases e;cases r;exact⟨_,.bool b⟩
  | int i=>cases e;obtain⟨t,rfl⟩:=r;exact⟨_,.int i t⟩
  | str i=>cases e;obtain⟨t,rfl⟩:=r;exact⟨_,.str i t⟩
  | @tup xs a ys s rr =>
   cases r;simp only[rd] at e
   cases q:ck (rd n h) xs with
   | none=>rw[q] at e;cases e
   | some ds =>
    rw[q] at e;cases e;obtain⟨its,rv,⟨o,e1,e2,m,e3⟩,_⟩:=I.tuple s;obtain⟨as,ra⟩:=gR (ih) rr rv q;exact⟨_,.tuple e1 e2 e3 (by simpa using ra)⟩
  | @frl xs a ys s rr =>
   cases r;simp only[rd] at e
   cases q:ck (rd n h) xs with
   | none=>rw[q] at e;cases e
   | some ds =>
    rw[q] at e;cases e;obtain⟨its,rv,⟨o,m,e1,e2,_,e3⟩,_⟩:=I.list s.sq;obtain⟨as,ra⟩:=gR (ih) rr rv q;exact⟨_,.list e1 e2 e3 (by simpa using ra)⟩
  | loc en =>
   cases r;simp only[rd] at e;obtain⟨ob,eo,rob⟩:=rh.obj en;rw[eo] at e
   cases ob with
   | dic fz ks xs=>cases e
   | exc x=>cases e
   | lst xs =>
    obtain⟨ys,ey,ry⟩:=rob;dsimp only at e
    cases q:ck (rd n h) xs with
    | none=>rw[q] at e;cases e
    | some ds =>
     rw[q] at e;cases e;obtain⟨its,rv,⟨o,m',e1,e2,_,e3⟩,_⟩:=I.list (SqL.of (K:=X.K) ey);obtain⟨as,ra⟩:=gR (ih) ry rv q;exact⟨_,.list e1 e2 e3 (by simpa using ra)⟩
def opEq(x y:PV)(h:MH):Out PV:=match rd 60 h x,rd 60 h y with
 | some a,some b=>if SeqAt.shaped a=true/\SeqAt.shaped b=true then .ok (.bl (PyData.eqv a b)) h else .bad
 | _,_=>.bad
def opNe(x y:PV)(h:MH):Out PV:=match rd 60 h x,rd 60 h y with
 | some a,some b=>if SeqAt.shaped a=true/\SeqAt.shaped b=true then .ok (.bl (!PyData.eqv a b)) h else .bad
 | _,_=>.bad
def iF(hr:Room k X.A):OpJ X (compareOp .Eq) opEq:=by
 intro FA s σ H x' y' u v Q I rx' ry' ⟨ρ,h,x,y,rh,rx,ry,q⟩;unfold opEq at q
 split at q
 ·rename_i a b ea eb
  split at q
  ·rename_i hs
   obtain⟨_,ra⟩:=fR I rh 60 x x' u a rx rx' ea;obtain⟨_,rb⟩:=fR I rh 60 y y' v b ry ry' eb;exact eq_dataH ra rb hs.1 hs.2 hr.units ⟨.bl _,H,I,rfl,q ρ H _ (Le.refl _ _) rh (.bl _)⟩
  ·exact q.elim
 ·exact q.elim
def rP(hr:Room k X.A):OpJ X (compareOp .NotEq) opNe:=by
 intro FA s σ H x' y' u v Q I rx' ry' ⟨ρ,h,x,y,rh,rx,ry,q⟩;unfold opNe at q
 split at q
 ·rename_i a b ea eb
  split at q
  ·rename_i hs
   obtain⟨_,ra⟩:=fR I rh 60 x x' u a rx rx' ea;obtain⟨_,rb⟩:=fR I rh 60 y y' v b ry ry' eb;exact ne_dataH ra rb hs.1 hs.2 hr.units ⟨.bl _,H,I,rfl,q ρ H _ (Le.refl _ _) rh (.bl _)⟩
  ·exact q.elim
 ·exact q.elim
def j0(f:Int->Int->PV):PV->PV->MH->Out PV:=fun x y h=>match x,y with
 | .int i,.int j=>.ok (f i j) h
 | _,_=>.bad
def kA(ho:OpR X F (rI0 f))(hfg:∀ρ H i j,RP X.K ρ H (g i j) (f i j)):OpJ X F (j0 g):=by
 intro FA s σ H x' y' u v Q I rx' ry' ⟨ρ,h,x,y,rh,rx,ry,q⟩;unfold j0 at q
 split at q
 ·cases rx;cases ry;exact ho FA s σ H _ _ u v Q I rx' ry' ⟨_,_,rfl,rfl,q ρ H _ (Le.refl _ _) rh (hfg ρ H _ _)⟩
 ·exact q.elim
def opLt:=j0 fun i j=>.bl (decide (i<j))
def opLe:=j0 fun i j=>.bl (decide (i<=j))
def opGt:=j0 fun i j=>.bl (decide (j<i))
def opGe:=j0 fun i j=>.bl (decide (j<=i))
def oj_lt:OpJ X (compareOp .Lt) opLt:=kA op_lt fun _ _ _ _=>.bl _
def oj_le:OpJ X (compareOp .LtE) opLe:=kA op_le fun _ _ _ _=>.bl _
def oj_gt:OpJ X (compareOp .Gt) opGt:=kA op_gt fun _ _ _ _=>.bl _
def oj_ge:OpJ X (compareOp .GtE) opGe:=kA op_ge fun _ _ _ _=>.bl _
def opIs(neg:Bool):PV->PV->MH->Out PV:=fun x y h=>match y with
 | .non=>(match x with
  | .non=>.ok (.bl (!neg)) h
  | _=>.ok (.bl neg) h)
 | .bl b=>(match x with
  | .bl c=>.ok (.bl (if neg then !(c == b) else c == b)) h
  | .non=>.ok (.bl neg) h
  | .int _=>.ok (.bl neg) h
  | .str _=>.ok (.bl neg) h
  | .tup _=>.ok (.bl neg) h
  | _=>.bad)
 | _=>.bad
def opMul(x y:PV)(h:MH):Out PV:=match x,y with
 | .int i,.int j=>if IntMulOk i j then .ok (.int (i * j)) h else .bad
 | .loc n,.int j=>(match h[n]? with
  | some (.lst xs)=>if -(2 ^ 63)<=j/\j<2 ^ 63 then newL (List.flatten (List.replicate j.toNat xs)) h else .bad
  | _=>.bad)
 | _,_=>.bad
def opFd(x y:PV)(h:MH):Out PV:=match x,y with
 | .int i,.int j=>if j≠0 then .ok (.int (i.fdiv j)) h else .bad
 | _,_=>.bad
def opMod(x y:PV)(h:MH):Out PV:=match x,y with
 | .int i,.int j=>if j≠0 then .ok (.int (i.fmod j)) h else .bad
 | _,_=>.bad
def opPow(x y:PV)(h:MH):Out PV:=match x,y with
 | .int i,.int j=>if di i j then .ok (.int (i ^ j.toNat)) h else .bad
 | _,_=>.bad
def opAdd(x y:PV)(h:MH):Out PV:=match x,y with
 | .int i,.int j=>.ok (.int (i+j)) h
 | .str a,.str b=>if a.length+b.length<=sizeLine then .ok (.str (a++b)) h else .bad
 | .loc n,.loc m=>(match h[n]?,h[m]? with
  | some (.lst xs),some (.lst ys)=>newL (xs++ys) h
  | _,_=>.bad)
 | .tup xs,.tup ys=>if xs≠[] then newT (xs++ys) h else .bad
 | _,_=>.bad
def opSub:=j0 fun i j=>.int (i - j)
def opNeg(x:PV)(h:MH):Out PV:=match x with
 | .int i=>.ok (.int (-i)) h
 | _=>.bad
def oj_sub:OpJ X (binaryOp .Sub) opSub:=kA op_sub fun _ _ _ _=>.int _
def uj_neg:UnJ X (unaryOp .USub) opNeg:=by
 intro FA s σ H x' u Q I rx' ⟨ρ,h,x,rh,rx,q⟩
 cases rx with
 | int i=>exact un_neg FA s σ H _ u Q I rx' ⟨i,rfl,q ρ H _ (Le.refl _ _) rh (.int _)⟩
 | _=>exact q.elim
def pyl{FA:List (Addr × Obj)}{σ:L2.St}{H:Hp}{s:Shared}(hr:Room k X.A)(I:Inv X FA σ H s):PylongRoom (model X.prog X.w) X.A s:=by
 obtain⟨e,l,h1,h2,h3,h4,h5⟩:=I.ok.top;exact PylongRoom.of I.nolimit (by have:=hr.dp;show X.A.depth+100<_;ext) (SeerAt.of (I.ok.mod.seer.keeps I.bk) I.ok.tree (I.ok.frames.trans (congrArg some h1)) h2 h3 h4 h5)
def r9(hr:Room k X.A):OpJ X (binaryOp .FloorDiv) opFd:=by
 intro FA s σ H x' y' u v Q I rx' ry' ⟨ρ,h,x,y,rh,rx,ry,q⟩;unfold opFd at q
 split at q
 ·rename_i i j
  cases rx;cases ry;obtain⟨t,rfl⟩:=rx';obtain⟨t',rfl⟩:=ry';by_cases z:j≠0
  ·rw[qae z] at q;exact floordiv_int z ⟨.int _,H,I.tok _,⟨_,rfl⟩,q ρ H _ (Le.refl _ _) rh (.int _)⟩ (.inr (pyl hr I))
  ·rw[qat z] at q;exact q.elim
 ·exact q.elim
def cZ:OpJ X (binaryOp .Mod) opMod:=by
 intro FA s σ H x' y' u v Q I rx' ry' ⟨ρ,h,x,y,rh,rx,ry,q⟩;unfold opMod at q
 split at q
 ·cases rx;cases ry
  split at q
  ·rename_i hc
   obtain⟨t,rfl⟩:=rx';obtain⟨t',rfl⟩:=ry';exact mod_int' hc ⟨.int _,H,I.tok _,⟨_,rfl⟩,q ρ H _ (Le.refl _ _) rh (.int _)⟩
  ·exact q.elim
 ·exact q.elim
def o8:OpJ X (binaryOp .Pow) opPow:=by
 intro FA s σ H x' y' u v Q I rx' ry' ⟨ρ,h,x,y,rh,rx,ry,q⟩;unfold opPow at q
 split at q
 ·rename_i i j
  cases rx;cases ry
  split at q
  ·rename_i hc
   exact op_pow FA s σ H _ _ u v Q I rx' ry' ⟨i,j,rfl,rfl,hc,q ρ H _ (Le.refl _ _) rh (.int _)⟩
  ·exact q.elim
 ·exact q.elim
def dk:OpJ X (binaryOp .Add) opAdd:=by
 intro FA s σ H x' y' u v Q I rx' ry' ⟨ρ,h,x,y,rh,rx,ry,q⟩
 cases rx with
 | int i =>
  cases ry with
  | int j=>exact op_add FA s σ H _ _ u v Q I rx' ry' ⟨i,j,rfl,rfl,q ρ H _ (Le.refl _ _) rh (.int _)⟩
  | _=>exact q.elim
 | str a =>
  cases ry with
  | str b =>
   dsimp only[opAdd] at q
   split at q
   ·rename_i hl
    exact rN FA s σ H _ _ u v Q I rx' ry' ⟨a,b,rfl,rfl,hl,q ρ H _ (Le.refl _ _) rh (.str _)⟩
   ·exact q.elim
  | _=>exact q.elim
 | @loc n a e =>
  cases ry with
  | @loc m b e2 =>
   dsimp only[opAdd] at q;obtain⟨o1,h1,r1⟩:=rh.obj e;obtain⟨o2,h2,r2⟩:=rh.obj e2;rw[h1,h2] at q
   cases o1 with
   | dic fz ks xs=>exact q.elim
   | exc x=>exact q.elim
   | lst xs =>
    cases o2 with
    | dic fz ks xs=>exact q.elim
    | exc x=>exact q.elim
    | lst ys =>
     obtain⟨xs',ex,rx1⟩:=r1;obtain⟨ys',ey,ry1⟩:=r2;obtain⟨z1,z2⟩:=jy rh (rx1.append ry1) q;exact op_cat FA s σ H _ _ u v Q I rx' ry' ⟨a,b,xs',ys',rfl,rfl,ex,ey,by rw[<-qaN];exact z1,z2⟩
  | _=>exact q.elim
 | tup s1 r1 =>
  cases ry with
  | tup s2 r2 =>
   dsimp only[opAdd] at q
   split at q
   ·rename_i hne
    obtain⟨z1,z2⟩:=qu rh (r1.append r2) q;refine op_catT FA s σ H _ _ u v Q I rx' ry' ⟨_,_,_,_,rfl,rfl,s1,s2,?_,by rw[<-qaN];exact z1,fun z=>?_,fun _=>z2⟩
    ·rintro rfl;cases r1;exact hne rfl
    ·subst z;cases r2;unfold newT at q
     split at q
     ·exact q ρ H _ (Le.refl _ _) rh (by rw[qbr];exact .tup s1 r1)
     ·exact q.elim
   ·exact q.elim
  | _=>exact q.elim
 | _=>cases ry <;> exact q.elim
def RPs.rep{K:qaa}{ρ:List Addr}{H:Hp}{xs:List PV}{ys:List V}(r:RPs K ρ H xs ys):∀n:Nat,RPs K ρ H (List.replicate n xs).flatten (List.replicate n ys).flatten
 | 0=>.nil
 | n+1=>by exact r.append (RPs.rep r n)
def gc:OpJ X (binaryOp .Mult) opMul:=by
 intro FA s σ H x' y' u v Q I rx' ry' ⟨ρ,h,x,y,rh,rx,ry,q⟩
 cases rx with
 | int i =>
  cases ry with
  | int j =>
   dsimp only[opMul] at q
   split at q
   ·rename_i hc
    obtain⟨t,rfl⟩:=rx';obtain⟨t',rfl⟩:=ry';exact PyProof.Rows.mul_int ⟨.int _,H,I.tok _,⟨_,rfl⟩,q ρ H _ (Le.refl _ _) rh (.int _)⟩ hc
   ·exact q.elim
  | _=>exact q.elim
 | @loc n a e =>
  cases ry with
  | int j =>
   dsimp only[opMul] at q;obtain⟨o1,h1,r1⟩:=rh.obj e;rw[h1] at q
   cases o1 with
   | dic fz ks xs=>exact q.elim
   | exc x=>exact q.elim
   | lst xs =>
    dsimp only at q
    split at q
    ·rename_i hj
     obtain⟨xs',ex,rx1⟩:=r1;obtain⟨z1,z2⟩:=jy rh (rx1.rep j.toNat) q;refine op_rep FA s σ H _ _ u v Q I rx' ry' ⟨a,j,xs',rfl,rfl,ex,hj.1,hj.2,?_,z2⟩;rw[qr] at z1;rw[Nat.mul_comm];exact z1
    ·exact q.elim
  | _=>exact q.elim
 | _=>cases ry <;> exact q.elim
def kY{FA:List (Addr × Obj)}{σ:L2.St}{H:Hp}{s:Shared}{Q:VK}{x':V}{u:Value}{b c:Bool}(I:Inv X FA σ H s)(r:aM x' u)(hp:plainIs u (.bool b)=true)(hc:(u == .bool b)=c)(q:Q (.bl c) H) :
  wpAny (model X.prog X.w) X.A (compareOp .Is u (.bool b)) (EP X FA σ Q) X.xe s:=by
 exact qad (wpAny_isSame_plain hp (qaz (by rw[hc];exact⟨.bl c,H,I,rfl,q⟩)))
def oj_is:OpJ X (compareOp .Is) (opIs false):=by
 intro FA s σ H x' y' u v Q I rx' ry' ⟨ρ,h,x,y,rh,rx,ry,q⟩
 cases ry with
 | non =>
  refine op_isN FA s σ H _ _ u v Q I rx' ry' ⟨rfl,?_⟩;cases rx <;> exact q ρ H _ (Le.refl _ _) rh (by first | exact .bl true | exact .bl false)
 | bl b =>
  cases ry'
  cases rx with
  | non=>cases rx';exact kY (x':=.non) I rfl (by cases b <;> rfl) (by cases b <;> rfl) (q ρ H _ (Le.refl _ _) rh (.bl false))
  | bl c=>cases rx';exact kY (x':=.bl c) I rfl (by cases b <;> cases c <;> rfl) (by cases b <;> cases c <;> rfl) (q ρ H _ (Le.refl _ _) rh (.bl _))
  | int i=>obtain⟨t,rfl⟩:=rx';exact kY (x':=.int i) I ⟨_,rfl⟩ (by cases b <;> rfl) (by cases b <;> rfl) (q ρ H _ (Le.refl _ _) rh (.bl false))
  | str i=>obtain⟨t,rfl⟩:=rx';exact kY (x':=.str i) I ⟨_,rfl⟩ (by cases b <;> rfl) (by cases b <;> rfl) (q ρ H _ (Le.refl _ _) rh (.bl false))
  | tup s1 r1=>cases rx';exact kY (x':=.ref _) I rfl (by cases b <;> rfl) (by cases b <;> rfl) (q ρ H _ (Le.refl _ _) rh (.bl false))
  | _=>exact q.elim
 | _=>exact q.elim
def bW(x y:PV)(h:MH):Out PV:=match y with
 | .int i=>(match x with
  | .loc n=>(match h[n]? with
   | some (.lst xs)=>(match atI xs i with
    | some v=>.ok v h
    | none=>.bad)
   | _=>.bad)
  | .tup xs=>(match atI xs i with
   | some v=>.ok v h
   | none=>.bad)
  | .frl xs=>(match atI xs i with
   | some v=>.ok v h
   | none=>.bad)
  | .str z=>(match atI z.cps.toList i with
   | some c=>if z.length<=sizeLine then .ok (.str ⟨#[c]⟩) h else .bad
   | none=>.bad)
  | _=>.bad)
 | _=>.bad
def lS{K:qaa}{ρ:List Addr}{H:Hp}{xs:List PV}{ys:List V}{i:Int}{v:PV}(r:RPs K ρ H xs ys)(e:atI xs i=some v):∃v',atI ys i=some v'/\RP K ρ H v v':=by
 unfold atI at e ⊢;rw[<-r.length]
 cases q:ixN xs.length i with
 | none=>rw[q] at e;cases e
 | some j =>
  rw[q] at e;exact r.get e
def me_ix{a b:Expr}{ma mb:Mx PV}{pos:Pos}(ha:ME X a ma)(hb:ME X b mb)(hs:ju b):ME X (.Subscript a b pos) (ai bW ma mb):=by
 refine PE.imp (pe_ix ix_seq ha hb hs) fun σ H Q q=>?_;obtain⟨ρ,σp,h,rs,rh,q⟩:=q;refine⟨ρ,σp,h,rs,rh,Ful.bind q fun ρ1 H1 x x' h1 _ l1 rh1 rx q1=>⟨ρ1,σp,h1,rs.le l1,rh1,Ful.bind q1 fun ρ2 H2 y y' h2 _ l2 rh2 ry q2=>?_⟩⟩;have rx2:=rx.le l2
 cases ry with
 | int i =>
  cases rx2 with
  | @loc n a e =>
   obtain⟨ob,eo,rob⟩:=rh2.obj e;dsimp only[bW] at q2;rw[eo] at q2
   cases ob with
   | dic fz ks xs=>exact q2.elim
   | exc x=>exact q2.elim
   | lst xs =>
    obtain⟨ys,ey,rr⟩:=rob;dsimp only at q2
    cases ea:atI xs i with
    | none=>rw[ea] at q2;exact q2.elim
    | some v =>
     rw[ea] at q2;obtain⟨v',e',rv⟩:=lS rr ea;exact .inl ⟨a,ys,i,v',rfl,rfl,SqL.of ey,e',q2 ρ2 H2 _ (Le.refl _ _) rh2 rv⟩
  | @tup xs a ys s1 rr =>
   dsimp only[bW] at q2
   cases ea:atI xs i with
   | none=>rw[ea] at q2;exact q2.elim
   | some v =>
    rw[ea] at q2;obtain⟨v',e',rv⟩:=lS rr ea;exact .inr (.inl ⟨_,_,i,v',rfl,rfl,s1,e',q2 ρ2 H2 _ (Le.refl _ _) rh2 rv⟩)
  | @frl xs a ys s1 rr =>
   dsimp only[bW] at q2
   cases ea:atI xs i with
   | none=>rw[ea] at q2;exact q2.elim
   | some v =>
    rw[ea] at q2;obtain⟨v',e',rv⟩:=lS rr ea;exact .inl ⟨_,_,i,v',rfl,rfl,s1.sq,e',q2 ρ2 H2 _ (Le.refl _ _) rh2 rv⟩
  | str z =>
   dsimp only[bW] at q2
   cases ea:atI z.cps.toList i with
   | none=>rw[ea] at q2;exact q2.elim
   | some c =>
    rw[ea] at q2;dsimp only at q2
    split at q2
    ·rename_i hz
     exact .inr (.inr ⟨z,i,c,rfl,rfl,hz,ea,q2 ρ2 H2 _ (Le.refl _ _) rh2 (.str _)⟩)
    ·exact q2.elim
  | _=>exact q2.elim
 | _=>exact q2.elim
def mCB(f:List PV->MH->Out PV)(m:Mx (List PV)):Mx PV:=fun σ h=>(m σ h).bind fun xs h1=>(f xs h1).ne
section
variable {x:Str} {id T:String} {e:Expr} {es:List Expr} {f:List PV→MH→Out PV} {m:Mx (List PV)} {p pos:Pos}
def tM_cb{σ:L2.St}{H:Hp}{Q:VK}(q:tM X (RV' X) (mCB f m) σ H Q):tCB (cJ X f) (tM X (RVs' X) m) σ H Q:=by
 obtain⟨ρ,σp,h,rs,rh,q⟩:=q;exact⟨ρ,σp,h,rs,rh,Ful.bind q fun ρ1 H1 x x' h1 _ l1 rh1 rx q1=>⟨ρ1,h1,x,rh1,rx,q1.zero⟩⟩
def pB(g:Good X N W G k)(j:Nat)(hj:G[j]?=some x)(hc:bX X (.builtin id) f)(hm:X.mg x=none)(hv:bootBuiltins x=some (.builtin id))(ha:MA X (e::es) m)
  (he:starEach (e::es) X.env=(false,eval e X.env)::starEach es X.env:=by rfl) (hpl:(backTo pos (starEach es X.env)).any (·.1)=false:=by rfl):ME X (.Call (.Name x p) (e::es) [] pos) (mCB f m) :=
 have d:=g.dbg x (qal _ (aR hj))
 PE.imp (jV hc (g.gl x (aR hj)) hm hv ha d.2.2 d.1 he hpl) fun _ _ _ q=>tM_cb q
def sN(g:Good X N W G k)(j:Nat)(hj:G[j]?=some x)(hc:bX X (.type T) f)(hm:X.mg x=none)(hv:bootBuiltins x=some (.type T))(ha:MA X (e::es) m)
  (he:starEach (e::es) X.env=(false,eval e X.env)::starEach es X.env:=by rfl) (hpl:(backTo pos (starEach es X.env)).any (·.1)=false:=by rfl):ME X (.Call (.Name x p) (e::es) [] pos) (mCB f m) :=
 have d:=g.dbg x (qal _ (aR hj))
 PE.imp (mJ hc (g.gl x (aR hj)) hm hv ha d.2.2 d.1 he hpl) fun _ _ _ q=>tM_cb q
end
def fAbs(xs:List PV)(h:MH):Out PV:=match xs with
 | [.int i]=>.ok (.int (if i<0 then -i else i)) h
 | _=>.bad
def fMin(xs:List PV)(h:MH):Out PV:=match xs with
 | [.int i,.int j]=>.ok (.int (if j<i then j else i)) h
 | _=>.bad
def fInt(xs:List PV)(h:MH):Out PV:=match xs with
 | [.int i]=>.ok (.int i) h
 | [.bl b]=>.ok (.int (if b then 1 else 0)) h
 | _=>.bad
def fStr(xs:List PV)(h:MH):Out PV:=match xs with
 | [.int i]=>if i.natAbs.log2<1920 then .ok (.str (toString i)) h else .bad
 | _=>.bad
def fLen(xs:List PV)(h:MH):Out PV:=match xs with
 | [.loc n]=>(match h[n]? with
  | some (.lst ys)=>.ok (.int ys.length) h
  | _=>.bad)
 | [.tup ys]=>.ok (.int ys.length) h
 | [.frl ys]=>.ok (.int ys.length) h
 | [.str z]=>if z.length<=sizeLine then .ok (.int z.length) h else .bad
 | _=>.bad
def oz:bX X (.builtin "abs") fAbs:=by
 intro FA s σ H xs us Q I r ⟨ρ,h,ps,rh,rp,q⟩
 cases rp with
 | nil=>exact q.elim
 | cons r1 t1 =>
  cases t1 with
  | cons _ _=>cases r1 <;> exact q.elim
  | nil =>
   cases r1 with
   | int i=>exact uB FA s σ H _ us Q I r ⟨i,rfl,q ρ H _ (Le.refl _ _) rh (.int _)⟩
   | _=>exact q.elim
def uL{f:List PV->MH->Out PV}{F:Int->Int->Int}{r:List V->Hp->VK->Prop}{V0:Value}(hf:∀i j h,f [.int i,.int j] h=.ok (.int (F i j)) h)(hb:∀xs h,(∀i j,xs≠[.int i,.int j])->f xs h=.bad)
  (hc:cP X V0 (fun xs H Q=>∃i j,xs=[.int i,.int j]/\Q (.int (F i j)) H)):bX X V0 f:=by
 intro FA s σ H xs us Q I r ⟨ρ,h,ps,rh,rp,q⟩;by_cases z:∃i j,ps=[.int i,.int j]
 ·obtain⟨i,j,rfl⟩:=z
  cases rp with
  | cons r1 t1=>cases t1 with
   | cons r2 t2 =>
    cases t2;cases r1;cases r2;rw[hf] at q;exact hc FA s σ H _ us Q I r ⟨i,j,rfl,q ρ H _ (Le.refl _ _) rh (.int _)⟩
 ·rw[hb ps h fun i j e=>z ⟨i,j,e⟩] at q;exact q.elim
def ui(g:Good X N W G k):bX X (.builtin "min") fMin:=uL (r:=fun _ _ _=>True) (fun _ _ _=>rfl) (fun xs h z=>by unfold fMin;split <;> first | rfl | exact absurd rfl (z _ _)) (tf g.calm)
def tD:bX X (.type "int") fInt:=by
 intro FA s σ H xs us Q I r ⟨ρ,h,ps,rh,rp,q⟩
 cases rp with
 | nil=>exact q.elim
 | cons r1 t1 =>
  cases t1 with
  | cons _ _=>cases r1 <;> exact q.elim
  | nil =>
   cases r1 with
   | int i=>exact mK FA s σ H _ us Q I r (.inl ⟨i,rfl,q ρ H _ (Le.refl _ _) rh (.int _)⟩)
   | bl b=>exact mK FA s σ H _ us Q I r (.inr ⟨b,rfl,q ρ H _ (Le.refl _ _) rh (.int _)⟩)
   | _=>exact q.elim
def cj_str:bX X (.type "str") fStr:=by
 intro FA s σ H xs us Q I r ⟨ρ,h,ps,rh,rp,q⟩
 cases rp with
 | nil=>exact q.elim
 | cons r1 t1 =>
  cases t1 with
  | cons _ _=>cases r1 <;> exact q.elim
  | nil =>
   cases r1 with
   | int i =>
    dsimp only[fStr] at q
    split at q
    ·rename_i hz
     exact nF FA s σ H _ us Q I r ⟨i,rfl,hz,q ρ H _ (Le.refl _ _) rh (.str _)⟩
    ·exact q.elim
   | _=>exact q.elim
def lf:bX X (.builtin "len") fLen:=by
 intro FA s σ H xs us Q I r ⟨ρ,h,ps,rh,rp,q⟩
 cases rp with
 | nil=>exact q.elim
 | cons r1 t1 =>
  cases t1 with
  | cons _ _=>cases r1 <;> exact q.elim
  | nil =>
   cases r1 with
   | @loc n a e =>
    obtain⟨ob,eo,rob⟩:=rh.obj e;dsimp only[fLen] at q;rw[eo] at q
    cases ob with
    | dic fz ks xs=>exact q.elim
    | exc x=>exact q.elim
    | lst xs =>
     obtain⟨ys,ey,rr⟩:=rob;exact iI FA s σ H _ us Q I r ⟨_,_,rfl,.inl ⟨ys,SqL.of ey,rfl⟩,by rw[<-rr.length];exact q ρ H _ (Le.refl _ _) rh (.int _)⟩
   | tup s1 rr=>exact iI FA s σ H _ us Q I r ⟨_,_,rfl,.inr ⟨_,s1,rfl⟩,by rw[<-rr.length];exact q ρ H _ (Le.refl _ _) rh (.int _)⟩
   | frl s1 rr=>exact iI FA s σ H _ us Q I r ⟨_,_,rfl,.inl ⟨_,s1.sq,rfl⟩,by rw[<-rr.length];exact q ρ H _ (Le.refl _ _) rh (.int _)⟩
   | str z =>
    dsimp only[fLen] at q
    split at q
    ·rename_i hz
     exact iI FA s σ H _ us Q I r ⟨_,_,rfl,⟨hz,rfl⟩,q ρ H _ (Le.refl _ _) rh (.int _)⟩
    ·exact q.elim
   | _=>exact q.elim
def tyP(h:MH):PV->Option String
 | .non=>some "NoneType"
 | .bl _=>some "bool"
 | .int _=>some "int"
 | .str _=>some "str"
 | .tup _=>some "tuple"
 | .frl _=>some "list"
 | .loc n=>match h[n]? with
  | some (.lst _)=>some "list"
  | some (.dic _ _ _)=>some "dict"
  | _=>none
def fv(t:String)(T:String):Bool:=t == T || (t == "bool" && T == "int")
def iY(Ts:List String)(x:PV)(h:MH):Out PV:=match tyP h x with
 | some t=>.ok (.bl (Ts.any (fv t))) h
 | none=>.bad
def okT(T:String):Prop:=∀K:qaa,∀t∈["NoneType","bool","int","str","tuple","list","dict"],PySem.W.kitOne K (.type t) (.type T)=some (fv t T)
def jh(h1:∀K,PySem.W.kitOne K (.type "NoneType") (.type T)=some (fv "NoneType" T))(h2:∀K,PySem.W.kitOne K (.type "bool") (.type T)=some (fv "bool" T))(h3:∀K,PySem.W.kitOne K (.type "int") (.type T)=some (fv "int" T))
  (h4:∀K,PySem.W.kitOne K (.type "str") (.type T)=some (fv "str" T)) (h5:∀K,PySem.W.kitOne K (.type "tuple") (.type T)=some (fv "tuple" T)) (h6:∀K,PySem.W.kitOne K (.type "list") (.type T)=some (fv "list" T))
  (h7:∀K,PySem.W.kitOne K (.type "dict") (.type T)=some (fv "dict" T)):okT T:=by
 intro K t ht;simp only[qag,qaG,or_false] at ht;rcases ht with rfl|rfl|rfl|rfl|rfl|rfl|rfl
 ·exact h1 K
 ·exact h2 K
 ·exact h3 K
 ·exact h4 K
 ·exact h5 K
 ·exact h6 K
 ·exact h7 K
def okT_int:okT "int":=jh (fun _=>rfl) (fun _=>rfl) (fun _=>rfl) (fun _=>rfl) (fun _=>rfl) (fun _=>rfl) (fun _=>rfl)
def vx:okT "bool":=jh (fun _=>rfl) (fun _=>rfl) (fun _=>rfl) (fun _=>rfl) (fun _=>rfl) (fun _=>rfl) (fun _=>rfl)
def okT_str:okT "str":=jh (fun _=>rfl) (fun _=>rfl) (fun _=>rfl) (fun _=>rfl) (fun _=>rfl) (fun _=>rfl) (fun _=>rfl)
def uy:okT "list":=jh (fun _=>rfl) (fun _=>rfl) (fun _=>rfl) (fun _=>rfl) (fun _=>rfl) (fun _=>rfl) (fun _=>rfl)
def sI:okT "tuple":=jh (fun _=>rfl) (fun _=>rfl) (fun _=>rfl) (fun _=>rfl) (fun _=>rfl) (fun _=>rfl) (fun _=>rfl)
def kitx_of{FA:List (Addr × Obj)}{σ:L2.St}{H:Hp}{s:Shared}{ρ:List Addr}{h:MH}{x:PV}{x':V}{u:Value}{t:String}(I:Inv X FA σ H s)(rh:RH X.K X.mg ρ H h)(rx:RP X.K ρ H x x')(ru:aM x' u)(e:tyP h x=some t) :
  t∈["NoneType","bool","int","str","tuple","list","dict"]/\u≠.builtin "__main__.__loader__#opaque"/\∃Hq,PySem.W.KitX X.K u (.type t) Hq/\Hq s.heap:=by
 cases rx with
 | non=>cases e;cases ru;exact⟨by simp,(fun z=>nomatch z),_,PySem.W.kitx_none,trivial⟩
 | bl b=>cases e;cases ru;exact⟨by simp,(fun z=>nomatch z),_,PySem.W.kitx_bool,trivial⟩
 | int i=>cases e;obtain⟨t,rfl⟩:=ru;exact⟨by simp,(fun z=>nomatch z),_,PySem.W.kitx_int,trivial⟩
 | str i=>cases e;obtain⟨t,rfl⟩:=ru;exact⟨by simp,(fun z=>nomatch z),_,PySem.W.kitx_str,trivial⟩
 | tup s1 r1 =>
  cases e;cases ru;obtain⟨its,rv,⟨o,e1,e2,_⟩,_⟩:=I.tuple s1;exact⟨by simp,(fun z=>nomatch z),_,PySem.W.kitx_tuple,⟨o,e1,e2⟩⟩
 | frl s1 r1 =>
  cases e;cases ru;obtain⟨its,rv,⟨o,m,e1,e2,_,e3⟩,_⟩:=I.list s1.sq;exact⟨by simp,(fun z=>nomatch z),_,PySem.W.kitx_list,⟨o,e1,e2⟩⟩
 | @loc n a en =>
  obtain⟨ob,eo,rob⟩:=rh.obj en;dsimp only[tyP] at e;rw[eo] at e;cases ru
  cases ob with
  | lst xs =>
   cases e;obtain⟨ys,ey,_⟩:=rob;obtain⟨its,rv,⟨o,m,e1,e2,_,e3⟩,_⟩:=I.list (SqL.of ey);exact⟨by simp,(fun z=>nomatch z),_,PySem.W.kitx_list,⟨o,e1,e2⟩⟩
  | dic fz ks xs =>
   cases e;obtain⟨zs,_,_,ey⟩:=rob;obtain⟨_,_,vs,_,p⟩:=dO_ok I.hok ey;obtain⟨o,es,ep,h1,h2,_⟩:=p;exact⟨by simp,(fun z=>nomatch z),_,PySem.W.kitx_dict,⟨o,h1,h2.1⟩⟩
  | exc x=>cases e
def sU(g:Good X N W G k){a:Expr}{m:Mx PV}{T:String}{c:Str}{i j:Nat}{p q pos:Pos}(hi:G[i]?=some "isinstance")(hm:X.mg "isinstance"=none)(hj:G[j]?=some c)(hc:X.mg c=none)(hv:bootBuiltins c=some (.type T))(hT:okT T)(ha:ME X a m)
  (he:starEach [a,.Name c q] X.env=(false,eval a X.env)::starEach [.Name c q] X.env:=by rfl) (he2:starEach [.Name c q] X.env=[(false,eval (.Name c q) X.env)]:=by rfl) (hpl:(backTo pos (starEach [.Name c q] X.env)).any (·.1)=false:=by rfl) :
  ME X (.Call (.Name "isinstance" p) [a,.Name c q] [] pos) (mUn (iY [T]) m):=by
 have d1:=g.dbg _ (qal _ (aR hi));have d:=g.dbg c (qal _ (aR hj));have hcall:cP X (.builtin "isinstance") (fun xs H Q=>∃x',xs=[x',.ty T]/\uJ X (iY [T]) x' H Q):=by
  intro FA s σ H xs us Q I r ⟨x',e,ρ,h,x,rh,rx,q⟩;subst e
  cases r with
  | cons r1 t1=>cases t1 with
   | cons r2 t2 =>
    cases t2;obtain rfl:=(r2);unfold iY at q
    cases et:tyP h x with
    | none=>rw[et] at q;exact q.elim
    | some t =>
     rw[et] at q;obtain⟨ht,hne,Hq,Z,hz⟩:=kitx_of I rh rx r1 et
     exact PySem.W.kia_one Z I.kIn hz (hT X.K t ht) hne fun tk=>⟨.bl _,H,I.tok _,rfl,by
      have q':=q ρ H _ (Le.refl _ _) rh (.bl _)
      simpa using q'⟩
 refine PE.imp (jV hcall (g.gl _ (aR hi)) hm PyProof.Rows.Boot.«isinstance» (jC ha (jC (pe_bltn (v:=.ty T) (g.gl c (aR hj)) hc hv rfl d.2.2 d.1) pE he2) he) d1.2.2 d1.1 he hpl) fun σ H Q ⟨ρ,σp,h,rs,rh,q⟩=>?_;exact⟨ρ,σp,h,rs,rh,Ful.bind q fun ρ1 H1 x x' h1 _ l1 rh1 rx q1=>⟨x',rfl,ρ1,h1,x,rh1,rx,q1.zero⟩⟩
def spM(K:qaa)(mg:MGl)(F:List PV->MH->Out PV):Sp:=fun vs H Q E=>∃ρ ps h,RPs K ρ H ps vs/\RH K mg ρ H h/\match F ps h with
 | .ok v h'=>∀ρ' H' v',Le ρ H ρ' H'->RH K mg ρ' H' h'->RP K ρ' H' v v'->Q v' H'
 | .exc x h'=>∀C ρ' H',x.fs=[]->mg x.cls=some (.ref C)->Le ρ H ρ' H'->RH K mg ρ' H' h'->E (.ref C) none H'
 | .bad=>False
def CXm(P:Program)(w:World):CXT:=fun outer H s E e s'=>∃ea C H',e=.ref ea/\s'.os=s.os/\AllBare s'.gens/\Un (frs outer) [] H H' s.heap s'.heap/\HOk P w H' s'.heap/\Fly outer H' s.heap C ea s'.heap/\E (.ref C) none H'
structure Cal (X:Cx) (x:Str) (ps:List Str) (F:List PV->MH->Out PV) (k:Nat):Prop where
 ex:∃f fd,X.mg x=some (.ref f)/\PySem.W.keepIn X.K (.ref f)=true/\kH X.K fd ps []/\FnOk X.prog X.w X.K X.mg X.base (CXm X.prog X.w) k f fd ps (spM X.K X.mg F)
def aB(F:List PV->MH->Out PV)(m:Mx (List PV)):Mx PV:=fun σ h=>(m σ h).bind F
def qC(g:Good X N W G k){x:Str}{j:Nat}(hj:G[j]?=some x){ps:List Str}{F:List PV->MH->Out PV}(C:Cal X x ps F k){e:Expr}{es:List Expr}{m:Mx (List PV)}{p pos:Pos}(ha:MA X (e::es) m)
  (he:starEach (e::es) X.env=(false,eval e X.env)::starEach es X.env:=by rfl) (hpl:(backTo pos (starEach es X.env)).any (·.1)=false:=by rfl):ME X (.Call (.Name x p) (e::es) [] pos) (aB F m):=by
 obtain⟨f,fd,hm,hk,hb,F'⟩:=C.ex;have d:=g.dbg x (qal _ (aR hj));intro FA s σ H Q I ⟨ρ,σp,h,rs,rh,q⟩;refine wpAny_Call_Name_kw (qv I (g.gl x (aR hj)) hm ?_ d.1)
 refine PySem.W.callWith_K I.ok.mod.kin hk (thn (ha pos FA s σ H (fun vs H1=>∃ρ1 xs h1,Le ρ H ρ1 H1/\RH X.K X.mg ρ1 H1 h1/\RPs X.K ρ1 H1 xs vs/\Ful X (RV' X) σp ρ1 H1 (F xs h1) Q) I
  ⟨ρ,σp,h,rs,rh,Ful.bind q fun ρ1 H1 xs vs h1 _ l1 rh1 rx q1=>⟨ρ1,xs,h1,l1,rh1,rx,q1⟩⟩) fun us s1 ⟨vs,H1,I1,r,ρ1,xs,h1,l1,rh1,rx,q1⟩=>⟨I1.kIn,?_⟩) he hpl
 have run:∀E:XK,spM X.K X.mg F vs H1 Q E->(∀ea C H' s',s'.os=s1.os->AllBare s'.gens->Un (frs X.stack) [] H1 H' s1.heap s'.heap->HOk X.prog X.w H' s'.heap->Fly X.stack H' s1.heap C ea s'.heap->E (.ref C) none H'->X.xe (.ref ea) s') ->
   wpAny (model X.prog X.w) X.A (call (.ref f) us) (EP X FA σ Q) X.xe s1:=fun E hsp hE=>by
  have hl:(us++[]).length=ps.length:=by rw[qbr,<-r.length];exact F'.len _ _ _ _ hsp
  have hb1:=hb s1 us I1.kIn hl;rw[qbr] at hb1;refine wpAny_call (codeAny_mono (F'.run X.A X.stack s1 H1 ⟨us,[]⟩ us vs Q E g.room I1.env0 hb1 r hsp) fun r s' hq=>?_)
  cases r with
  | error e =>
   obtain⟨ea,C,H',rfl,a1,a2,a3,a4,a5,a6⟩:=hq;exact hE ea C H' s' a1 a2 a3 a4 a5 a6
  | ok fl =>
   cases fl with
   | ret u=>exact I1.after hq
   | next=>exact False.elim hq
   | brk=>exact False.elim hq
   | cont=>exact False.elim hq
 cases eF:F xs h1 with
 | bad=>rw[eF] at q1;exact q1.elim
 | ok v h' =>
  rw[eF] at q1;exact run (fun _ _ _=>False) ⟨ρ1,xs,h1,rx,rh1,by rw[eF];exact q1⟩ fun _ _ _ _ _ _ _ _ _ z=>z.elim
 | exc x' h' =>
  rw[eF] at q1;refine run (fun c _ H'=>∃C ρ',c=.ref C/\x'.fs=[]/\X.mg x'.cls=some (.ref C)/\Le ρ1 H1 ρ' H'/\RH X.K X.mg ρ' H' h') ⟨ρ1,xs,h1,rx,rh1,by rw[eF];exact fun C ρ' H' a b c d=>⟨C,ρ',rfl,a,b,c,d⟩⟩ fun ea C H' s' a1 a2 a3 a4 a5 a6=>?_;obtain⟨C',ρ',eC,b1,b2,b3,b4⟩:=a6;cases eC;have IX:=I1.call' (s':=s') (ch:=[]) a1 a3 a4 a2 (fun b z=>absurd z (by simp));have IX0:=Inv.unpinned (FA:=[]) (pl:=FA) IX;exact q1 ea C ρ' H' σ s' s1.heap b1 b2 b3 b4 (rs.le (l1.trans b3)) IX0 (Inv.bears I1) a5
def bH(n:Nat)(ps:List PV):PSt:=ps.map some++List.replicate (n - ps.length) none
def dE(n np:Nat)(m:Mst):List PV->MH->Out PV:=fun ps h=>if ps.length=np then (match m (bH n ps) h with
 | .nx _ h'=>.ok .non h'
 | .rt v h'=>.ok v h'
 | .exc x _ h'=>.exc x h'
 | .rse x _ h'=>.exc x h'
 | _=>.bad) else .bad
def uZ{K:qaa}{ρ:List Addr}{H:Hp}{N:List Str}{ps:List PV}{vs:List V}(r:RPs K ρ H ps vs):RS K ρ H (bH N.length ps) (L2.start N vs):=by
 have hl:=r.length;refine⟨by simp[bH,L2.start,hl],fun i v e=>?_⟩;unfold bH at e;by_cases hi:i<ps.length
 ·rw[qai (by simpa using hi),qaD] at e
  cases q:ps[i]? with
  | none=>rw[q] at e;cases e
  | some x =>
   rw[q] at e;cases e;obtain⟨v',e',rv⟩:=r.get q;refine⟨v',?_,rv⟩;unfold L2.start;rw[qai (by simp;lia),qaD,e'];rfl
 ·rw[qay (by simpa using hi),qaM] at e
  split at e <;> cases e
def u4{B h:Heap}(k:B.StaysIn h){b:Addr}{o ob:Obj}(e1:B.get? b=some ob)(e2:h.get? b=some o):ob=o:=by
 have:=k b ob e1
 rw[e2] at this;exact (Option.some.inj this).symm
def qt{X:Cx}{σ':L2.St}{H':Hp}{s':Shared}{h' B:Heap}(I:Inv X [] σ' H' s')(hex:X.ex=[])(hB:B.StaysIn s'.heap)(hB':B.StaysIn h')(sm:s'.heap.UpToSlots h')
  (cov:∀b o,X.s₀.heap.get? b=some o->b∉X.fs->∃ob,B.get? b=some ob) (cvH:∀b o,H' b=some o->∃ob,B.get? b=some ob):Un X.fs [] X.H₀ H' X.s₀.heap h'/\HOk X.prog X.w H' h':=by
 have nex:∀b:Addr,b∉X.ex:=fun b=>by rw[hex];simp
 have kp:∀b o ob,B.get? b=some ob->s'.heap.get? b=some o->h'.get? b=some o:=fun b o ob e1 e2=>by
  have:=u4 hB e1 e2
  subst this;exact hB' b ob e1
 refine⟨⟨fun b o e n hf _=>?_,fun b o e n hf _=>?_,fun b o e n _=>I.base.free b o e n (nex b),fun b o e _=>?_,I.base.tups,I.base.frzs,I.base.tbls⟩,fun a o e=>?_⟩
 ·obtain⟨ob,eb⟩:=cov b o e hf;exact kp b o ob eb (I.base.keep b o e n hf (nex b))
 ·obtain⟨sl,e1⟩:=I.base.slot b o e n hf (nex b);obtain⟨_,oF,eF,dF⟩:=I.ok.funs.mem hf;rw[e] at eF;cases eF;obtain⟨sl',e2⟩:=sm b _ e1 (fun vs z=>dF vs z);exact⟨sl',e2⟩
 ·by_cases hf:b∈X.fs
  ·obtain⟨_,oF,eF,dF⟩:=I.ok.funs.mem hf;rw[e] at eF;cases eF;obtain⟨sl,e1⟩:=I.base.slot b o e (I.ok.frf b hf) hf (nex b);obtain⟨sl',e2⟩:=sm b _ e1 (fun vs z=>dF vs z);exact⟨_,e2⟩
  ·obtain⟨ob,eb⟩:=cov b o e hf;exact⟨ob,hB' b ob eb⟩
 ·refine (I.hok a o e).stay (fun b u hb z=>?_) (fun _ z=>z) fun _ _ z=>z;rcases hb with rfl|hb
  ·obtain⟨ob,eb⟩:=cvH _ _ e;exact kp _ u ob eb z
  ·obtain⟨ob,eb⟩:=cvH _ _ hb;exact kp _ u ob eb z
def _root_.L2.ObjOk.has(x:ObjOk P w H h a o):∃u,h.get? a=some u:=by
 cases o with
 | lst xs=>obtain⟨_,_,_,_,e⟩:=x;exact⟨_,e⟩
 | tup xs=>obtain⟨_,_,_,o,e,_⟩:=x;exact⟨o,e⟩
 | dK kvs=>obtain⟨_,_,_,_,o,_,_,e,_⟩:=x;exact⟨o,e⟩
 | dT kvs=>obtain⟨_,_,_,_,o,_,_,e,_⟩:=x;exact⟨o,e⟩
 | set S n=>obtain⟨o,_,_,_,e,_⟩:=x;exact⟨o,e⟩
 | ins C dx fs=>obtain⟨_,_,_,e,_⟩:=x;exact⟨_,e⟩
 | own y=>obtain⟨o,e⟩:=x;exact⟨o,e⟩
 | xd fs=>obtain⟨_,⟨o,_,_,e,_⟩,_⟩:=x;exact⟨o,e⟩
 | rng lo hi=>obtain⟨_,_,_,e⟩:=x;exact⟨_,e⟩
 | frz ob u=>obtain⟨e,_⟩:=x;exact⟨_,e⟩
 | tbl ps=>exact⟨_,(x)⟩
 | met f y=>exact⟨_,(x)⟩
 | ext φ=>obtain⟨_,⟨o,e⟩,_⟩:=x;exact⟨o,e⟩
def oR{M:Model}{A:Around}{E:Value->Shared->Prop}{s:Shared}{base h:Heap}{env:Env}{outer:List Env}{L e C:Addr}{Q:Unit->Shared->Prop}(hfr:A.frames=some (env::outer))(hf:env.frame=some L)(hkb:base.StaysIn h)(hl:h.FunFrames base (env::outer))(hx:MadeX h s.heap e C)
  (hQ:∀h' t,Heap.FlyingW base outer e (.ref C) (.ref t) h'->s.heap.UpToSlots h'->Q () { s with heap:=h'}):wpAny M A (leaving env (.ref e)) Q E s:=by
 obtain⟨t,dx,he⟩:=hx.there;have en:base.get? e=none:=by
  cases q:base.get? e with
  | none=>rfl
  | some o=>have:=hkb e o q;rw[hx.new] at this;cases this
 refine wpAny_leaving_firstW hfr (hl.of_keeps fun b o hb _=>⟨o,hx.keeps b o hb,rfl⟩) hf he (fun b o hb=>hx.keeps b o (hkb b o hb)) en rfl rfl rfl fun h' hL=>?_;obtain⟨a1,⟨_,_,a2⟩,a3,a4⟩:=hL;exact hQ h' t ⟨a1,en,a2,a3⟩ a4
structure DefCx (X:Cx):Prop where
 stk:X.stack=X.env::X.outer
 fr:X.env.frame=some X.env.locals
 ex:X.ex=[]
def fn_M{P:Program}{w:World}{K:qaa}{mg:Str->Option Value}{base:Heap}{x qual:Str}{st:Stmt}{f:Addr}{fd:FuncData}{ps:List Str}{m:Mst}(Fu:Fun K x qual st f fd)(S:FnScope N ps (ag st))
  (hl:∀y∈N,Loc (ag st) y) (hgl:∀y∈G,(ag st).names.lookup y=some .globalImplicit)
  (dbg:∀x∈N++G,(x == ("__debug__":Str))=false/\(x == ("__classdict__":Str))=false/\x≠"__name__")
  (hb:∀X:Cx,X.prog=P->X.w=w->X.K=K->X.mg=mg->X.base=base->X.env.scope=ag st->Good X N N G k->DefCx X->MSs X (au st) m) :
  FnOk P w K mg base (CXm P w) (k+1) f fd ps (spM K mg (dE N.length ps.length m)):=by
 have len:∀vs H Q E,spM K mg (dE N.length ps.length m) vs H Q E->vs.length=ps.length:=by
  rintro vs H Q E ⟨ρ,zs,h,r,rh,q⟩;rw[<-r.length];unfold dE at q;by_cases hp:zs.length=ps.length
  ·exact hp
  ·rw[qat hp] at q;exact q.elim
 obtain⟨oc,od,kV,doc,pm,an,cdv,ct,osl,rfl,lk,hcd⟩:=Fu.ex;refine fn_of lk hcd S len fun A outer s H vs Q E hr hsp=>?_;obtain⟨ρ,zs,h,r,rh,q⟩:=hsp;refine⟨_,hb _ rfl rfl rfl rfl rfl rfl ⟨rfl,S.nd,hl,fun _ _=>.inl rfl,hgl,dbg,rfl,hr,PassesOwn.leaving⟩ ⟨rfl,rfl,rfl⟩,ρ,bH N.length zs,h,uZ r,rh,?_⟩;unfold dE at q;by_cases hp:zs.length=ps.length
 ·rw[qae hp] at q
  cases e:m (bH N.length zs) h with
  | nx σ' h'=>rw[e] at q;exact fun ρ' H' σ' l r' s'=>q ρ' H' .non l r' .non
  | rt v h'=>rw[e] at q;exact q
  | bk σ h'=>rw[e] at q;exact q.elim
  | ct σ h'=>rw[e] at q;exact q.elim
  | bad=>rw[e] at q;exact q.elim
  | exc x σ h' =>
   rw[e] at q;intro ea C ρ' H' σ' s' lim hfs hmg l rh' rs' I' brs fly;obtain⟨B,t,hfl,hBH,hcov,hea⟩:=fly;refine wpAny_leaves_onW (base:=B) (env:=envOfC qual (ag st) s.heap.objs.size f cdv) (outer:=outer) I'.ok.frames rfl hfl fun h'' hfl' sm=>?_;have hb1:∀b o,s.heap.get? b=some o->b∉frs outer->∃ob,B.get? b=some ob:=fun b o eb hf=>by
    obtain⟨o',e'⟩:=brs.old b o eb (by show b∉([]:List Addr);simp);refine hcov b o' e' fun hm=>?_;rcases qag.mp (I'.stkSub b hm) with z|z
    ·exact absurd (qam eb) (by rw[z];exact qaI _)
    ·exact hf z
   obtain⟨un,hk'⟩:=qt (B:=B) I' rfl hfl.1 hfl'.1 sm hb1 hBH;exact⟨ea,C,H',rfl,I'.os,I'.bare,un,hk',⟨B,t,hfl',hBH,hb1,hea⟩,q C ρ' H' hfs hmg l rh'⟩
  | rse x σ h' =>
   rw[e] at q;intro ea C ρ' H' σ' s' h0 hfs hmg l rh' rs' I' made;have hst:=I'.stack;have hin:∀env∈(envOfC qual (ag st) s.heap.objs.size f cdv::outer),∀b,env.frame=some b->b∈frs (envOfC qual (ag st) s.heap.objs.size f cdv::outer):=fun env he b hb=>qbv.mpr ⟨env,he,hb⟩;refine oR (base:=PySem.W.hideAll h0 (frs (envOfC qual (ag st) s.heap.objs.size f cdv::outer))) (h:=h0) (env:=envOfC qual (ag st) s.heap.objs.size f cdv) (outer:=outer) I'.ok.frames rfl (fun b o z=>PySem.W.of_hideAll _ z)
    (PySem.W.funFrames_hide (base:=base) hst hin) made fun h'' t hfl' sm=>?_
   have sub:∀b,b∈frs (envOfC qual (ag st) s.heap.objs.size f cdv::outer)->b=s.heap.objs.size\/b∈frs outer:=fun b hm=>qag.mp (I'.stkSub b hm);have hb1:∀b o,s.heap.get? b=some o->b∉frs outer->∃ob,(PySem.W.hideAll h0 (frs (envOfC qual (ag st) s.heap.objs.size f cdv::outer))).get? b=some ob:=fun b o eb hf=>by
    obtain⟨o',e'⟩:=I'.base.there b o eb (by show b∉([]:List Addr);simp);refine⟨o',PySem.W.hideAll_get _ e' fun hm=>?_⟩;rcases sub b hm with z|z
    ·exact absurd (qam eb) (by rw[z];exact qaI _)
    ·exact hf z
   have hBH:∀b o,H' b=some o->∃ob,(PySem.W.hideAll h0 (frs (envOfC qual (ag st) s.heap.objs.size f cdv::outer))).get? b=some ob:=fun b o eb=>by
    have hlt:=I'.hok.lt eb;obtain⟨u,eu⟩:∃u,h0.get? b=some u:=(I'.hok b o eb).has;refine⟨u,PySem.W.hideAll_get _ eu fun hm=>?_⟩
    have:=I'.stkFree b hm
    rw[eb] at this;cases this
   have sm0:h0.UpToSlots h'':=(Heap.UpToSlots.of_keeps made.keeps).trans sm;obtain⟨un,hk'⟩:=qt (B:=PySem.W.hideAll h0 (frs (envOfC qual (ag st) s.heap.objs.size f cdv::outer))) I' rfl (fun b o z=>PySem.W.of_hideAll _ z) hfl'.1 sm0 hb1 hBH;have hea:H' ea=none:=by
    cases z:H' ea with
    | none=>rfl
    | some o =>
     obtain⟨u,eu⟩:=(I'.hok ea o z).has;rw[made.new] at eu;cases eu
   exact⟨ea,C,H',rfl,I'.os,I'.bare,un,hk',⟨_,t,hfl',hBH,hb1,hea⟩,q C ρ' H' hfs hmg l rh'⟩
 ·rw[qat hp] at q;exact q.elim
def itAny(v:PV)(h:MH):Out MIt:=match v with
 | .loc n=>(match h[n]? with
  | some (.lst xs)=>.ok ⟨xs,[(n,xs)]⟩ h
  | _=>.bad)
 | .frl xs=>.ok ⟨xs,[]⟩ h
 | .tup xs=>.ok ⟨xs,[]⟩ h
 | _=>.bad
def pc(m:Mx PV):Mx MIt:=fun σ h=>(m σ h).bind itAny
def mi_seq(hl:ME X l m):MI X tg l (pc m):=by
 intro FA s σ H R I ⟨ρ,σp,h,rs,rh,q⟩;by_cases z:∃xs h1,m σp h=.ok (.tup xs) h1
 ·obtain⟨xs,h1,e⟩:=z;refine mi_tup hl FA s σ H R I ⟨ρ,σp,h,rs,rh,?_⟩;unfold pc at q;unfold mItT;rw[e] at q ⊢;exact q
 ·refine mi_list hl FA s σ H R I ⟨ρ,σp,h,rs,rh,?_⟩;unfold pc at q;unfold mItL
  cases e:m σp h with
  | ok v h1 =>
   rw[e] at q
   cases v with
   | tup xs=>exact absurd ⟨xs,h1,e⟩ z
   | _=>exact q
  | exc x h1=>rw[e] at q;exact q
  | bad=>rw[e] at q;exact q
structure FnAt (P:Program) (w:World) (K:qaa) (mg:Str->Option Value) (base:Heap) (x:Str) (ps:List Str) (F:List PV->MH->Out PV) (k:Nat):Prop where
 ex:∃f fd,mg x=some (.ref f)/\PySem.W.keepIn K (.ref f)=true/\kH K fd ps []/\FnOk P w K mg base (CXm P w) k f fd ps (spM K mg F)/\∃oc od osl,K.lookup f=some ⟨oc,od,.func fd,osl⟩
def FnAt.mono{P:Program}{w:World}{K:qaa}{mg:Str->Option Value}{base:Heap}{x:Str}{ps:List Str}{F:List PV->MH->Out PV}{i j:Nat}(c:FnAt P w K mg base x ps F i)(h:i<=j):FnAt P w K mg base x ps F j :=
 let ⟨f,fd,a,b,d,e,z⟩:=c.ex;⟨f,fd,a,b,d,e.mono h,z⟩
def FnAt.cal{P:Program}{w:World}{K:qaa}{mg:Str->Option Value}{base:Heap}{x:Str}{ps:List Str}{F:List PV->MH->Out PV}{i:Nat}(c:FnAt P w K mg base x ps F i){X:Cx}(e1:X.prog=P)(e2:X.w=w)(e3:X.K=K)(e4:X.mg=mg)(e5:X.base=base):Cal X x ps F i:=by
 subst e1;subst e2;subst e3;subst e4;subst e5;obtain⟨f,fd,a,b,d,e,_⟩:=c.ex;exact⟨f,fd,a,b,d,e⟩
structure DefAt (K:qaa) (x:Str) (st:Stmt):Prop where
 ex:∃f fd,PySem.W.nsIn K mainGlobals x=some (some (.ref f))/\Fun K x x st f fd
def defAt_mk{K:qaa}{x:Str}{st:Stmt}{f:Addr}{oc:Value}{od an:Option Addr}{sl:Array (Option Value)}{kV dc pm cd ct:Value}
  (a:PySem.W.nsIn K mainGlobals x=some (some (.ref f))) (l:K.lookup f=some ⟨oc,od,.func (PySem.W.fnOf x x (fL st) (au st) (ag st) .none kV dc pm an cd ct),sl⟩) (c:PySem.W.codeIn K cd x=true) (kp:PySem.W.keepIn K (.ref f)=true):DefAt K x st :=
 ⟨f,_,a,fun_mk l c kp⟩
def g7(x:Str)(st:Stmt)(ps:List Str):Prop:=∀(kV doc pm:Value) (an:Option Addr) (cdv ct:Value) (us:List Value),us.length=ps.length->bindArgs (PySem.W.fnOf x x (fL st) (au st) (ag st) .none kV doc pm an cdv ct) ⟨us,[]⟩=pure (ps.zip us)
def tW{P:Program}{w:World}{K:qaa}{mg:Str->Option Value}{base:Heap}{x:Str}{st:Stmt}{ps:List Str}{m:Mst}(kin:K.In base)(ns:base.Ns mainGlobals mg)(D:DefAt K x st)(S:FnScope N ps (ag st))(B:g7 x st ps)
  (hl:∀y∈N,(ag st).names.lookup y=some .local\/(ag st).names.lookup y=some .cell) (hgl:∀y∈G,(ag st).names.lookup y=some .globalImplicit)
  (dbg:∀x∈N++G,(x == ("__debug__":Str))=false/\(x == ("__classdict__":Str))=false/\x≠"__name__")
  (hb:∀X:Cx,X.prog=P->X.w=w->X.K=K->X.mg=mg->X.base=base->X.env.scope=ag st->Good X N N G k->DefCx X->MSs X (au st) m) :
  FnAt P w K mg base x ps (dE N.length ps.length m) (k+1):=by
 obtain⟨f,fd,a,Fu⟩:=D.ex;have Fx:=Fu.ex;obtain⟨oc,od,kV,doc,pm,an,cdv,ct,osl,e1,e2,_⟩:=Fx;exact⟨f,fd,PySem.W.mg_of kin ns a,Fu.kp,Fu.binds B,fn_M Fu S hl hgl dbg hb,oc,od,osl,e2⟩
def head_M{P:Program}{w:World}{K:qaa}{mg:Str->Option Value}{h:Heap}{x y:Str}{st:Stmt}{F:List PV->MH->Out PV}{fa:Addr}(D:DefAt K x st)(B:g7 x st [y])(hmg:mg x=some (.ref fa))(kin:K.In h)(ns:h.Ns mainGlobals mg)
  (H:∀base:Heap,K.In base->base.Ns mainGlobals mg->FnAt P w K mg base x [y] F k) :
  ∃fd:FuncData,(∀(s:Shared) (u:Value),BindsTo s fd ⟨[u],[]⟩ [(y,u)])/\∀base:Heap,K.In base->base.Ns mainGlobals mg->FnOk P w K mg base (CXm P w) k fa fd [y] (spM K mg F):=by
 obtain⟨f,fd,a,Fu⟩:=D.ex;have e:=hmg.symm.trans (PySem.W.mg_of kin ns a);obtain⟨oc,od,kV,doc,pm,an,cdv,ct,osl,e1,e2,e3⟩:=Fu.ex;refine⟨fd,fun s u=>.of_eq ?_,fun base kb nb=>?_⟩
 ·rw[e1];exact B kV doc pm an cdv ct [u] rfl
 ·obtain⟨f',fd',g1,g2,g3,g4,oc',od',osl',g5⟩:=(H base kb nb).ex
  grind
def spLaw(K:qaa):Sp:=fun vs H Q _=>∃(a:Addr) (ns:List Int),vs=[.ref a]/\SqF K H a (ns.map V.int)/\ns.length<=63/\∀H',Q (.bl true) H'
def walk_M{l:PySem.W.OpenLaw}{q:Program}{loose:List Str}{XP:(Str->Option Value)->Heap->Prop}{YP:World->Heap->Prop}{d:DefRec}{K:Params->qaa}{x:Str}{F:List PV->MH->Out PV}(hn:l.most=some 63)(hdf:d.params.defaults=[])(hr:Room k callerA)(hi:PyProof.Rows.importsNone q=true)(htr:l.prog.given.tree=none)
  (hY:∀(w:World) (h:Heap),YP w h->(K w.params).In h)
  (HF:∀(w:World) (mg:Str->Option Value) (fa:Addr) (h:Heap),(K w.params).In h->h.Ns mainGlobals mg->mg d.name=some (.ref fa) ->
   ∃fd:FuncData,(∀(s:Shared) (u:Value),BindsTo s fd ⟨[u],[]⟩ [(x,u)])/\∀base:Heap,(K w.params).In base->base.Ns mainGlobals mg->FnOk l.prog w (K w.params) mg base (CXm l.prog w) k fa fd [x] (spM (K w.params) mg F))
  (ht:∀ns:List Int,ns.length<=63->∃h',F [.frl (ns.map .int)] []=.ok (.bl true) h') :
  PySem.W.WalkO q loose XP YP l.row.toRowW d [] (fun f vs=>PySem.call f vs):=by
 refine L2.walk_of (x:=x) (CX:=fun w=>CXm l.prog w) (sp:=fun w=>spLaw (K w.params)) hn (by decide) hdf hr hi htr hY (fun w mg fa h hK hns hmg=>?_) (fun w H a ns hl hO hS=>?_) fun w H s e s' z=>?_
 ·obtain⟨fd,hb,hF⟩:=HF w mg fa h hK hns hmg;refine⟨fd,hb,fun base kb nb=>(hF base kb nb).imp fun vs H Q E z=>?_⟩;obtain⟨a,ns,rfl,sf,hl,hq⟩:=z;obtain⟨h',e⟩:=ht ns hl;refine⟨[],[.frl (ns.map .int)],[],.cons (.frl sf (RPs.ints ns)) .nil,⟨rfl,List.nodup_nil,fun n a o z _=>by simp at z⟩,?_⟩;rw[e];intro ρ' H' v' _ _ r;cases r;exact hq H'
 ·have sf:SqF (K w.params) H a (ns.map V.int):=by
   rcases hS with (z|z)|z
   ·rcases hO a with y|⟨o,xs,y⟩
    ·rw[y] at z;cases z
    ·rw[y] at z;cases z
   ·exact .inl z
   ·exact .inr z
  exact⟨a,ns,rfl,sf,hl,fun _=>rfl⟩
 ·obtain⟨_,_,_,_,_,_,_,_,_,z⟩:=z;exact z
end
section
variable {α:Type} {σ:PSt} {h:MH}
@[simp] theorem mC_ap:mC v σ h=.ok v h:=rfl
@[simp] theorem mVar_0{v:PV}{r:PSt}:ae 0 (some v::r) h=.ok v h:=rfl
@[simp] theorem mVar_s{i:Nat}{o:Option PV}{r:PSt}:ae (i+1) (o::r) h=ae i r h:=by simp[ae]
@[simp] theorem mBin_ap:ai f a b σ h=(a σ h).bind fun x h1=>(b σ h1).bind fun y h2=>(f x y h2).ne:=rfl
@[simp] theorem mUn_ap:mUn f a σ h=(a σ h).bind fun x h1=>(f x h1).ne:=rfl
@[simp] theorem mCB_ap:mCB f a σ h=(a σ h).bind fun x h1=>(f x h1).ne:=rfl
@[simp] theorem mCall_ap:aB f a σ h=(a σ h).bind f:=rfl
@[simp] theorem mNil_ap:mNil σ h=.ok [] h:=rfl
@[simp] theorem mCons_ap:ac a r σ h=(a σ h).bind fun x h1=>(r σ h1).bind fun xs h2=>.ok (x::xs) h2:=rfl
@[simp] theorem mLst_ap:ft a σ h=(a σ h).bind newL:=rfl
@[simp] theorem mTup_ap:dR a σ h=(a σ h).bind newT:=rfl
@[simp] theorem mB_ap:mB a σ h=(a σ h).bind fun v h1=>match v with | .bl b=>.ok b h1 | _=>.bad:=rfl
@[simp] theorem mNot_ap:lP a σ h=(a σ h).bind fun b h1=>.ok (!b) h1:=rfl
@[simp] theorem mAnd_ap:mAnd a b σ h=(a σ h).bind fun x h1=>if x=true then b σ h1 else .ok false h1:=rfl
@[simp] theorem mOr_ap:mOr a b σ h=(a σ h).bind fun x h1=>if x=true then .ok true h1 else b σ h1:=rfl
@[simp] theorem mAndV_ap:iL a b σ h=(a σ h).bind fun x h1=>match x with | .bl c=>if c=true then b σ h1 else .ok (.bl false) h1 | _=>.bad:=rfl
@[simp] theorem mNotV_ap:si a σ h=(a σ h).bind fun x h1=>match x with | .bl c=>.ok (.bl (!c)) h1 | _=>.bad:=rfl
@[simp] theorem mIfE_ap:mIfE c a b σ h=(c σ h).bind fun x h1=>if x=true then a σ h1 else b σ h1:=rfl
@[simp] theorem mSkip_ap:mSkip σ h=.nx σ h:=rfl
@[simp] theorem jJ:aI a b σ h=(a σ h).then b:=rfl
@[simp] theorem az:(SOut.nx σ h).then k=k σ h:=rfl
@[simp] theorem then_rt:(SOut.rt v h).then k=.rt v h:=rfl
@[simp] theorem then_bk:(SOut.bk σ h).then k=.bk σ h:=rfl
@[simp] theorem then_ct:(SOut.ct σ h).then k=.ct σ h:=rfl
@[simp] theorem vM:(SOut.rse x σ h).then k=.rse x σ h:=rfl
@[simp] theorem vw:(SOut.exc x σ h).then k=.exc x σ h:=rfl
@[simp] theorem vJ:SOut.bad.then k=.bad:=rfl
def Out.rt(o:Out PV)(σ:PSt):SOut:=match o with
 | .ok v h'=>.rt v h'
 | .exc x h'=>.exc x σ h'
 | .bad=>.bad
@[simp] theorem rt_ok:(Out.ok v h).rt σ=.rt v h:=rfl
@[simp] theorem rt_exc:(Out.exc x h:Out PV).rt σ=.exc x σ h:=rfl
@[simp] theorem rt_bad:(Out.bad:Out PV).rt σ=.bad:=rfl
@[simp] theorem mRet_ap:bn m σ h=(m σ h).rt σ:=rfl
def Out.go{α:Type}(o:Out α)(σ:PSt)(k:α->Mst):SOut:=match o with
 | .ok v h'=>k v σ h'
 | .exc x h'=>.exc x σ h'
 | .bad=>.bad
@[simp] theorem aF:(Out.ok v h).go σ k=k v σ h:=rfl
@[simp] theorem go_exc:(Out.exc x h:Out α).go σ k=.exc x σ h:=rfl
@[simp] theorem go_bad:(Out.bad:Out α).go σ k=.bad:=rfl
@[simp] theorem mEx_ap:mEx m k σ h=(m σ h).go σ k:=rfl
@[simp] theorem mDrop_ap:gu m σ h=(m σ h).go σ fun _=>mSkip:=rfl
@[simp] theorem mIf_ap:mIf c a b σ h=(c σ h).go σ fun x=>if x=true then a else b:=rfl
@[simp] theorem mSet_ap:aU i m σ h=(m σ h).go σ fun v σ h=>.nx (σ.set i (some v)) h:=rfl
@[simp] theorem mPar_ap:mPar i j m σ h=(m σ h).go σ fun vs σ h=>match vs with | [v,w]=>.nx ((σ.set i (some v)).set j (some w)) h | _=>.bad:=rfl
@[simp] theorem mAsg_ap:mAsg m g σ h=(m σ h).go σ fun v σ h=>match g v σ h with | .nx σ2 h2=>.nx σ2 h2 | .exc x σ2 h2=>.exc x σ2 h2 | _=>.bad:=rfl
@[simp] theorem gNm_ap:gNm i v σ h=.nx (σ.set i (some v)) h:=rfl
@[simp] theorem gNl_ap:gNl [] σ h=.nx σ h:=rfl
@[simp] theorem gCn_ap:gCn a r (v::vs) σ h=(a v σ h).then (r vs):=rfl
@[simp] theorem gTp_ap:gTp r n (.tup xs) σ h=if xs.length=n then r xs σ h else .bad:=rfl
@[simp] theorem mFor_ap:nS mi g b σ h=(mi σ h).go σ fun it=>mGo it g b it.xs:=rfl
@[simp] theorem mItS_ap:pc m σ h=(m σ h).bind itAny:=rfl
@[simp] theorem mItR1_ap:gq m σ h=(m σ h).bind fun vs h1=>match vs with
 | [.int j]=>if -(2 ^ 62)<=j/\j<2 ^ 62 then .ok ⟨bw 0 j.toNat,[]⟩ h1 else .bad
 | _=>.bad:=rfl
@[simp] theorem gSb_ap:gSb mo mi v σ h=(mo σ h).go σ fun o=>mEx mi fun i σ h=>match n4 o i v h with
 | some h2=>.nx σ h2
 | none=>.bad:=rfl
def SOut.fin(o:SOut):Out PV:=match o with
 | .nx _ h'=>.ok .non h'
 | .rt v h'=>.ok v h'
 | .exc x _ h'=>.exc x h'
 | .rse x _ h'=>.exc x h'
 | _=>.bad
@[simp] theorem fin_exc:(SOut.exc x σ h).fin=.exc x h:=rfl
@[simp] theorem fin_rse:(SOut.rse x σ h).fin=.exc x h:=rfl
@[simp] theorem bP:(SOut.rt v h).fin=.ok v h:=rfl
@[simp] theorem fin_nx:(SOut.nx σ h).fin=.ok .non h:=rfl
theorem jo(e:ps.length=np):dE n np m ps h=(m (bH n ps) h).fin:=by unfold dE;rw[qae e];rfl
end
section
variable {h:MH} {i j:Int}
@[simp] theorem opAdd_ii:opAdd (.int i) (.int j) h=.ok (.int (i+j)) h:=rfl
@[simp] theorem opSub_ii:opSub (.int i) (.int j) h=.ok (.int (i - j)) h:=rfl
@[simp] theorem opNeg_i:opNeg (.int i) h=.ok (.int (-i)) h:=rfl
@[simp] theorem opLt_ii:opLt (.int i) (.int j) h=.ok (.bl (decide (i<j))) h:=rfl
@[simp] theorem opLe_ii:opLe (.int i) (.int j) h=.ok (.bl (decide (i<=j))) h:=rfl
@[simp] theorem opGt_ii:opGt (.int i) (.int j) h=.ok (.bl (decide (j<i))) h:=rfl
@[simp] theorem opGe_ii:opGe (.int i) (.int j) h=.ok (.bl (decide (j<=i))) h:=rfl
@[simp] theorem opEq_ii:opEq (.int i) (.int j) h=.ok (.bl (decide (i=j))) h:=rfl
@[simp] theorem opNe_ii:opNe (.int i) (.int j) h=.ok (.bl (!decide (i=j))) h:=rfl
@[simp] theorem opEq_bb:opEq (.bl a) (.bl b) h=.ok (.bl (a == b)) h:=by simp[opEq,rd,SeqAt.shaped,PyData.canLay0,PyData.depth,PyData.eqv]
@[simp] theorem opNe_bb:opNe (.bl a) (.bl b) h=.ok (.bl (!(a == b))) h:=by simp[opNe,rd,SeqAt.shaped,PyData.canLay0,PyData.depth,PyData.eqv]
theorem eL(hj:j≠0):opMod (.int i) (.int j) h=.ok (.int (i.fmod j)) h:=by simp[opMod,hj]
def qm(hj:j≠0):opFd (.int i) (.int j) h=.ok (.int (i.fdiv j)) h:=by simp[opFd,hj]
def fN(hl:-(2 ^ 64)<i/\i<2 ^ 64):opMul (.int i) (.int j) h=.ok (.int (i * j)) h:=by simp[opMul,IntMulOk.of_left (intBits_le_64 hl.1 hl.2)]
def opMul_r(hl:-(2 ^ 64)<j/\j<2 ^ 64):opMul (.int i) (.int j) h=.ok (.int (i * j)) h:=by simp[opMul,IntMulOk.of_right (intBits_le_64 hl.1 hl.2)]
def nC(hj:0<=j/\j<=1000000/\i.natAbs<2 ^ 64):opPow (.int i) (.int j) h=.ok (.int (i ^ j.toNat)) h:=by simp[opPow,di,hj]
@[simp] theorem fAbs_i:fAbs [.int i] h=.ok (.int (if i<0 then -i else i)) h:=rfl
@[simp] theorem fMin_ii:fMin [.int i,.int j] h=.ok (.int (if j<i then j else i)) h:=rfl
@[simp] theorem fInt_i:fInt [.int i] h=.ok (.int i) h:=rfl
@[simp] theorem fInt_b:fInt [.bl b] h=.ok (.int (if b then 1 else 0)) h:=rfl
@[simp] theorem fLen_frl:fLen [.frl xs] h=.ok (.int xs.length) h:=rfl
@[simp] theorem fLen_tup:fLen [.tup xs] h=.ok (.int xs.length) h:=rfl
theorem rV(hl:xs.length<=1000):newL xs h=.ok (.loc h.length) (h++[.lst xs]):=by
 unfold newL;rw[qae (qav hl (by decide))]
def qw(hl:m<n):ixN n (m:Int)=some m:=by unfold ixN;rw[qae (by lia),qae (by lia)];simp
@[simp] theorem atI_0:atI (a::r) 0=some a:=fM (j:=0) rfl
@[simp] theorem atI_1:atI (a::b::r) 1=some b:=fM (j:=1) rfl
@[simp] theorem atI_2:atI (a::b::c::r) 2=some c:=fM (j:=2) rfl
@[simp] theorem atI_3:atI (a::b::c::d::r) 3=some d:=fM (j:=3) rfl
def Out.ofO(o:Option PV)(h:MH):Out PV:=match o with
 | some v=>.ok v h
 | none=>.bad
@[simp] theorem ofO_some:Out.ofO (some v) h=.ok v h:=rfl
@[simp] theorem opIx_tup:bW (.tup xs) (.int i) h=Out.ofO (atI xs i) h:=rfl
@[simp] theorem opIx_frl:bW (.frl xs) (.int i) h=Out.ofO (atI xs i) h:=rfl
theorem hZ(e:h[n]?=some (.lst xs)):bW (.loc n) (.int i) h=Out.ofO (atI xs i) h:=by
 simp only[bW,e];rfl
def ki(e:h[n]?=some (.lst xs)):n4 (.loc n) (.int i) v h=(ixN xs.length i).map fun p=>h.set n (.lst (xs.set p v)):=by simp only[n4,e]
@[simp] theorem itAny_tup:itAny (.tup xs) h=.ok ⟨xs,[]⟩ h:=rfl
@[simp] theorem itAny_frl:itAny (.frl xs) h=.ok ⟨xs,[]⟩ h:=rfl
@[simp] theorem ok_none:(⟨xs,[]⟩:MIt).ok h↔True:=⟨fun _=>trivial,fun _ p hp=>nomatch hp⟩
@[simp] theorem ok_some:(⟨xs,[(n,zs)]⟩:MIt).ok h↔h[n]?=some (.lst zs):=by
 constructor
 ·intro q;exact q (n,zs) (by simp)
 ·intro q p hp;have e:=qbj.mp hp;subst e;exact q
end
def SOut.turn(o:SOut)(k:Mst):SOut:=match o with
 | .nx σ2 h2=>k σ2 h2
 | .ct σ2 h2=>k σ2 h2
 | .bk σ2 h2=>.nx σ2 h2
 | .rt v h2=>.rt v h2
 | .exc e σ2 h2=>.exc e σ2 h2
 | .rse e σ2 h2=>.rse e σ2 h2
 | .bad=>.bad
@[simp] theorem vj:(SOut.rse x σ h).turn k=.rse x σ h:=rfl
@[simp] theorem vq:(SOut.exc x σ h).turn k=.exc x σ h:=rfl
@[simp] theorem turn_nx:(SOut.nx σ h).turn k=k σ h:=rfl
@[simp] theorem turn_ct:(SOut.ct σ h).turn k=k σ h:=rfl
@[simp] theorem turn_bk:(SOut.bk σ h).turn k=.nx σ h:=rfl
@[simp] theorem turn_rt:(SOut.rt v h).turn k=.rt v h:=rfl
theorem mGo_nil(e:it.ok h):mGo it g b [] σ h=.nx σ h:=by
 rw[mGo];dsimp only;rw[qae e]
def vt(e:it.ok h)(eg:g x σ h=.nx σ1 h1):mGo it g b (x::r) σ h=(b σ1 h1).turn (mGo it g b r):=by
 rw[mGo];dsimp only;rw[qae e,eg];rfl
def nU(I:Nat->Shared->Prop)
  (turn:∀n s,I n s->wpAny (model prog w) A (pyNext it) (fun r s₁=>match r with
   | none=>R (.ok .next) s₁
   | some v=>wpAny (model prog w) A (letOwnedTupleGo target it v) (fun _ s₂'=>wpAny (model prog w) A (assign target env v) (fun _ s₂ =>
     wpAny (model prog w) A (forIn ifs true fun c r=>if r=true then do let ok <-isTrue c env (eval c env);pure (ForInStep.yield ok) else pure (ForInStep.yield r)) (fun ok s₃ =>
      if ok=true then wpAny (model prog w) A (eval elt env) (fun x s₄ =>
       wpAny (model prog w) A (call (.builtin "list.append") [acc,x]) (fun _ s₅=>∃m,m<n/\I m s₅) (fun _ _=>False) s₄) (fun _ _=>False) s₃
      else ∃m,m<n/\I m s₃) (fun _ _=>False) s₂) (fun _ _=>False) s₂') (fun _ _=>False) s₁) (fun _ _=>False) s)
  (n:Nat) (h:I n s) :
  codeAny (model prog w) A (.compLoop (.ListComp elt [⟨target,iter,ifs,0⟩] scope pos) 0 it acc env) R s:=by
 refine codeAny_loop rfl I (fun n s hI=>?_) n h;refine wpAny_noted ?_;rw[compTurn_list];refine qad (wpAny_standAt (qad (wpAny_mono (turn n s hI) (fun r s₁ h₁=>?_) fun _ _ h'=>h'.elim)))
 cases r with
 | none=>exact qaz h₁
 | some v =>
  refine qad (wpAny_mono h₁ (fun _ s₂' h₂'=>?_) fun _ _ h'=>h'.elim);refine qad (wpAny_mono h₂' (fun _ s₂ h₂=>qad (wpAny_mono h₂ (fun ok s₃ h₃=>?_) fun _ _ h'=>h'.elim)) fun _ _ h'=>h'.elim)
  cases ok with
  | false=>exact qaz ⟨rfl,h₃⟩
  | true =>
   exact qad (qad (wpAny_mono h₃ (fun x s₄ h₄=>qad (wpAny_mono h₄ (fun _ s₅ h₅=>qaz (qaz ⟨rfl,h₅⟩)) fun _ _ h'=>h'.elim)) fun _ _ h'=>h'.elim))
def ip(env:Env):List (Str × NameKind)->List (Str × Addr)->List (Str × Addr)
 | [],cs=>cs
 | (n,k)::r,cs=>ip env r (if (k == NameKind.free)=true then (n,(env.cells.lookup n).getD 0)::cs else cs)
def mY(h:∀y∈scope.names,y.2=.free->∃c,env.cells.lookup y.1=some c):closureFor scope env=pure (ip env scope.names []):=by
 have key:∀(l:List (Str × NameKind)) (cs:List (Str × Addr)),(∀y∈l,y.2=.free->∃c,env.cells.lookup y.1=some c) ->
   (forIn l cs fun (x:Str × NameKind) (r:List (Str × Addr))=>if (x.2 == NameKind.free)=true then (do let a <-cellOf env x.1;pure (ForInStep.yield ((x.1,a)::r)):Sem _) else pure (ForInStep.yield r))=(pure (ip env l cs):Sem _):=by
  intro l
  induction l with
  | nil=>intro cs _;rfl
  | cons y l ih =>
   intro cs hh;obtain⟨n,k⟩:=y;rw[List.forIn_cons];have hl:=fun z hz=>hh z (qab _ hz);by_cases hk:(k == NameKind.free)=true
   ·obtain⟨c,hc⟩:=hh (n,k) qaC (by simpa using hk);rw[qae hk];have hco:cellOf env n=pure c:=by unfold cellOf;rw[hc]
    rw[hco];refine (ih ((n,c)::cs) hl).trans ?_;simp only[ip,hk,if_true,hc,qbE]
   ·rw[qat hk];refine (ih cs hl).trans ?_;simp[ip,hk]
 exact (congrArg (fun z=>z >>= fun r=>pure r) (key scope.names [] h)).trans rfl
def jR:∀(l:List (Str × NameKind)) (cs:List (Str × Addr)),(∀a,cs.lookup x=some a->a=(env.cells.lookup x).getD 0)->(∀a,(ip env l cs).lookup x=some a->a=(env.cells.lookup x).getD 0)/\((∃k,(x,k)∈l/\k=.free)\/(∃a,cs.lookup x=some a)->∃a,(ip env l cs).lookup x=some a):=by
 intro l
 induction l with
 | nil =>
  intro cs h;refine⟨h,fun z=>?_⟩;rcases z with ⟨k,z,_⟩|z
  ·cases z
  ·exact z
 | cons y r ih =>
  intro cs h;obtain⟨n,k⟩:=y;have h':∀a,(if (k == NameKind.free)=true then (n,(env.cells.lookup n).getD 0)::cs else cs).lookup x=some a->a=(env.cells.lookup x).getD 0:=fun a ha=>by
   split at ha
   ·rw[qaQ] at ha
    split at ha
    ·rename_i e
     have:x=n:=by simpa using e
     subst this;exact (Option.some.inj ha).symm
    ·exact h a ha
   ·exact h a ha
  obtain⟨i1,i2⟩:=ih _ h';refine⟨i1,fun z=>i2 ?_⟩;rcases z with ⟨k',z,hk⟩|⟨a,z⟩
  ·rcases qag.mp z with e|e
   ·cases e;right;subst hk;exact⟨(env.cells.lookup x).getD 0,by simp⟩
   ·exact .inl ⟨k',e,hk⟩
  ·right;split
   ·rw[qaQ];split
    ·exact⟨_,rfl⟩
    ·exact⟨a,z⟩
   ·exact⟨a,z⟩
def bT{env:Env}(hk:env.scope.kind=.function):∀{names:List (Str × NameKind)} {x:Str} {k:NameKind},names.lookup x=some k ->
  (names.map fun (n,k)=>if (k == NameKind.free && env.scope.kind == .function && env.kindOf n == some .cell) then (n,NameKind.cell) else (n,k)).lookup x=some (if k=.free/\env.kindOf x=some .cell then .cell else k):=by
 intro names
 induction names with
 | nil=>intro x k h;simp at h
 | cons y r ih0 =>
  intro x k h;obtain⟨n,k'⟩:=y;have ih:=@ih0 x k;show List.lookup x ((if (k' == NameKind.free && env.scope.kind == .function && env.kindOf n == some .cell)=true then (n,NameKind.cell) else (n,k'))::_)=_
  cases hx:x == n with
  | true =>
   have e:x=n:=by simpa using hx
   subst e;simp only[qaQ,hx] at h;cases h;by_cases z:k=.free/\env.kindOf x=some .cell
   ·rw[qae (by simp[z.1,z.2,hk]),qae z];simp
   ·rw[qat (by simp[hk];intro q1 q2;exact z ⟨q1,q2⟩),qat z];simp
  | false =>
   simp only[qaQ,hx] at h;by_cases hc:(k' == NameKind.free && env.scope.kind == .function && env.kindOf n == some .cell)=true
   ·rw[qae hc];simp only[qaQ,hx];exact ih h
   ·rw[qat hc];simp only[qaQ,hx];exact ih h
def c8(X:Cx)(scope:Scope)(cl:List (Str × Addr))(s₃:Shared)(H₃:Hp)(fp:List Addr)(N':List Str):Cx :=
 { X with N:=N',s₀:=s₃,H₀:=H₃,env:=compEnvC scope cl s₃.heap.objs.size X.env,outer:=X.stack,ex:=fp,fn:=fun x=>decide (scope.names.lookup x=some .cell),pn:=[],xe:=fun _ _=>False}
structure CompOk (X:Cx) (N:List Str) (scope:Scope) (vars frees:List Str) (fm:List Nat):Prop where
 kind:scope.kind=.function
 cell:∀y∈scope.names,y.2=.cell->scope.names.lookup y.1=some .cell
 names:∀y∈scope.names,y.2=.local->scope.names.lookup y.1=some .local
 hv:∀x∈vars,scope.names.lookup x=some .local\/scope.names.lookup x=some .cell
 hf:∀x∈frees,scope.names.lookup x=some .free
 all:∀y∈scope.names,y.2=.free->y.1∈frees
 fm:fm.map (fun i=>N[i]?)=frees.map some
 cl:∀x∈frees,X.env.kindOf x=some .cell
def cSt(nv:Nat)(fm:List Nat)(σ:PSt):PSt:=List.replicate nv none++fm.map fun i=>(σ[i]?).getD none
def cGo(it:MIt)(n:Nat)(gt:Mg)(mt:Mx Bool)(me:Mx PV):List PV->PSt->MH->Out Unit
 | [],_,h=>if it.ok h then .ok () h else .bad
 | x::r,σ,h=>if it.ok h then (match gt x σ h with
  | .nx σ1 h1=>(mt σ1 h1).ne.bind fun b h2=>if b=true then (me σ1 h2).ne.bind fun v h3=>(match h3[n]? with
    | some (.lst ys)=>if ys.length<sizeLine then cGo it n gt mt me r σ1 (h3.set n (.lst (ys++[v]))) else .bad
    | _=>.bad) else cGo it n gt mt me r σ1 h2
  | _=>.bad) else .bad
def nu(nv:Nat)(fm:List Nat)(mi:Mx MIt)(gt:Mg)(mt:Mx Bool)(me:Mx PV):Mx PV:=fun σ h =>
 (mi σ h).bind fun it h1=>(cGo it h1.length gt mt me it.xs (cSt nv fm σ) (h1++[.lst []])).bind fun _ h3=>.ok (.loc h1.length) h3
def MTs(X:Cx)(ifs:List Expr)(m:Mx Bool):Prop :=
 ∀(FA:List (Addr × Obj)) (s:Shared) (σ:L2.St) (H:Hp) (Q:Bool->Hp->Prop),Inv X FA σ H s->tM X REq m σ H Q ->
  wpAny (model X.prog X.w) X.A (forIn ifs true fun c r=>if r=true then do let ok <-isTrue c X.env (eval c X.env);pure (ForInStep.yield ok) else pure (ForInStep.yield r)) (TP X FA σ Q) X.xe s
def mTrue:Mx Bool:=fun _ h=>.ok true h
def mts_nil:MTs X [] mTrue:=fun FA s σ H Q I ⟨ρ,σp,h,rs,rh,q⟩=>wpAny_tests_nil ⟨H,I,q ρ H true (Le.refl _ _) rh rfl⟩
def mts_one(h:MT X c m):MTs X [c] m:=fun FA s σ H Q I q=>wpAny_tests_one (h FA s σ H Q I q)
inductive CS (X:Cx) (ρ:List Addr) (H:Hp) (σp:PSt) (gt:Mg) (mt:Mx Bool) (me:Mx PV) (σ0:PSt) (Q:VK) (J:It) (H1:Hp):Prop
 | mk (ρ1:List Addr) (it:MIt) (h1:MH) (l:Le ρ H ρ1 H1) (rh:RH X.K X.mg ρ1 H1 h1) (j:nN X ρ1 H1 it J) (q:Ful X (RV' X) σp ρ1 H1 ((cGo it h1.length gt mt me it.xs σ0 (h1++[.lst []])).bind fun _ h3=>.ok (.loc h1.length) h3) Q):CS X ρ H σp gt mt me σ0 Q J H1
inductive CI (X Y:Cx) (it:MIt) (tn:Nat->Heap->Prop) (fp ρ0:List Addr) (H0:Hp) (σp:PSt) (n1:Nat) (gt:Mg) (mt:Mx Bool) (me:Mx PV) (Q:VK) (n:Nat) (s6:Shared):Prop
 | mk (i:Nat) (σ6:L2.St) (H6:Hp) (ρ6:List Addr) (σp6:PSt) (h6:MH) (e:n=it.xs.length - i) (l:i<=it.xs.length) (v:Inv Y [] σ6 H6 s6) (t:tn i s6.heap) (f:∀b∈fp,H6 b=none) (le:Le ρ0 H0 ρ6 H6) (rs:RS X.K ρ6 H6 σp6 σ6) (rh:RH X.K X.mg ρ6 H6 h6)
   (q:Ful X (RV' X) σp ρ6 H6 ((cGo it n1 gt mt me (it.xs.drop i) σp6 h6).bind fun _ h3=>.ok (.loc n1) h3) Q):CI X Y it tn fp ρ0 H0 σp n1 gt mt me Q n s6
def m9
  (hQ:Q (newEnv scope s.heap.objs.size globals (cellsFrom (s.heap.objs.size+1) scope.names closure) qual none .none (some env) builtinsNs) { s with heap:=pushCells (s.heap.push { cls:=.type "dict",data:=.dict #[]}) scope.names}) :
  wpAny M A (newFunctionEnv scope globals closure [] qual none .none (some env)) Q E s:=by
 simp only[newFunctionEnv,Option.isSome_some,if_true];refine qad (wpAny_alloc ?_);refine qad (wpAny_layCells _ (fun name kind cells=>by cases hkc:kind == NameKind.cell <;> simp) _ _ _ _ ?_);rw[show ({ s with heap:=s.heap.push { cls:=.type "dict",data:=.dict #[]}}:Shared).heap.objs.size=s.heap.objs.size+1 from qbe ..];exact qad (qaz (qaz hQ))
def cF:∀(names:List (Str × NameKind)) (n:Nat) (acc:List (Str × Addr)),cellsFrom n names acc=cellsFrom n names []++acc
 | [],n,acc=>rfl
 | (x,k)::r,n,acc=>by
  unfold cellsFrom;split
  ·rw[cF r (n+1) ((x,n)::acc),cF r (n+1) [(x,n)]];simp
  ·exact cF r n acc
def d8:∀(names:List (Str × NameKind)) (n:Nat) (x:Str),(∃c,(x,c)∈cellsFrom n names [])↔(x,NameKind.cell)∈names
 | [],n,x=>by simp[cellsFrom]
 | (y,k)::r,n,x=>by
  unfold cellsFrom;split
  ·rename_i hk
   have hk':k=NameKind.cell:=by simpa using hk
   subst hk';rw[cF];constructor
   ·rintro⟨c,hc⟩;rcases qaL.mp hc with hc|hc
    ·exact qab _ ((d8 r (n+1) x).mp ⟨c,hc⟩)
    ·have:x=y:=by simp at hc;exact hc.1
     rw[this];exact qaC
   ·intro h;rcases qag.mp h with e|h
    ·have:x=y:=by simpa using e
     subst this;exact⟨n,qal _ (by simp)⟩
    ·obtain⟨c,hc⟩:=(d8 r (n+1) x).mpr h;exact⟨c,qaY _ hc⟩
  ·rw[d8 r n x];constructor
   ·exact qab _
   ·intro h;rcases qag.mp h with e|h
    ·exfalso
     grind
    ·exact h
def kl{α:Type}:∀(a b:List (Str × α)) (x:Str),(a++b).lookup x=(a.lookup x).or (b.lookup x):= by grind
def vh{α:Type}:∀(a:List (Str × α)) (x:Str),a.lookup x=none->∀c,(x,c)∉a:= by grind
section
variable {X:Cx} {N W G:List Str} {k:Nat}
def sM(g:Good X N W G k){tg iter elt:Expr}{ifs:List Expr}{scope:Scope}{pos:Pos}{vars frees G':List Str}{fm:List Nat}{mi:Mx MIt}{gt:Mg}{mt:Mx Bool}{me:Mx PV}(C:CompOk X N scope vars frees fm)
  (nd:(vars++frees).Nodup) (hgl:∀x∈G',scope.names.lookup x=some .globalImplicit) (dbg:∀x∈(vars++frees)++G',(x == ("__debug__":Str))=false/\(x == ("__classdict__":Str))=false/\x≠"__name__")
  (hi:MI X tg iter mi)
  (hY:∀Y:Cx,Y.prog=X.prog->Y.w=X.w->Y.K=X.K->Y.mg=X.mg->Y.base=X.base->Y.env.scope=relabel scope X.env->Good Y (vars++frees) vars G' k->MG Y tg gt/\MTs Y ifs mt/\ME Y elt me)
  (hs:∀x,foldedSetIterable iter X.env x=pure x) {use:Option (Value->Sem Unit)} {Qv:Value->Shared->Prop} {pp:Pos} {FA:List (Addr × Obj)} {s:Shared} {σ:L2.St} {H:Hp} {Q:VK} (I:Inv X FA σ H s) (tm:tM X (RV' X) (nu vars.length fm mi gt mt me) σ H Q)
  (fin:∀(acc C:Addr) (H6:Hp) (s7:Shared) (m7:Str->Option Value),Inv X FA σ H6 s7->H6 C=none->s7.heap.Ns C m7->C≠X.env.locals->X.s₀.heap.objs.size<=C->C∉X.fs->(∀x c,X.env.cells.lookup x=some c->c≠C)->(∀p∈X.pn++FA,p.1≠C)->Q (.ref acc) H6 ->
   compPost (model X.prog X.w) X.A X.xe use Qv (.ref acc) C (.ok .next) s7) :
  wpAny (model X.prog X.w) X.A (comprehension (.ListComp elt [⟨tg,iter,ifs,0⟩] scope pos) scope X.env pp (newList []) false (eval iter X.env) use) Qv X.xe s:=by
 obtain⟨ρ,σp,h,rs,rh,q⟩:=tm;have hfree:∀y∈scope.names,y.2=.free->∃c,X.env.cells.lookup y.1=some c:=fun y hy e=>I.ok.has y.1 (.inl (C.cl _ (C.all y hy e)));refine wpAny_comprehension_free (use:=use) rfl hs (mY hfree) C.kind C.names ?_;generalize hcl:ip X.env scope.names []=cl;have clk:∀x a,cl.lookup x=some a->X.env.cells.lookup x=some a\/((X.env.cells.lookup x)=none/\a=0):=fun x a e=>by
  rw[<-hcl] at e
  have:=(jR (env:=X.env) (x:=x) scope.names [] (fun a z=>by simp at z)).1 a e
  cases z:X.env.cells.lookup x with
  | none=>right;rw[z] at this;exact⟨rfl,this⟩
  | some c=>left;rw[z] at this;rw[this];rfl
 have clf:∀x∈frees,∃c,cl.lookup x=some c/\X.env.cells.lookup x=some c:=fun x hx=>by
  obtain⟨c,hc⟩:=I.ok.has x (.inl (C.cl x hx));have hm:(∃kk,(x,kk)∈scope.names/\kk=.free):=⟨.free,PySem.mem_of_lookup (C.hf x hx),rfl⟩;obtain⟨a,ha⟩:=(jR (env:=X.env) (x:=x) scope.names [] (fun a z=>by simp at z)).2 (.inl hm);rw[hcl] at ha;rcases clk x a ha with z|⟨z,_⟩
  ·rw[hc] at z;cases z;exact⟨c,ha,hc⟩
  ·rw[hc] at z;cases z
 have clin:∀x a,cl.lookup x=some a->X.env.cells.lookup x=some a/\x∈frees:=fun x a e=>by
   have only:∀(l:List (Str × NameKind)) (cs:List (Str × Addr)) (x:Str) (a:Addr),(ip X.env l cs).lookup x=some a->(x,NameKind.free)∈l\/cs.lookup x=some a:=by
    intro l
    induction l with
    | nil=>intro cs x a e;exact .inr e
    | cons y l ih =>
     intro cs x a e;obtain⟨n,kk⟩:=y;rcases ih _ x a e with z|z
     ·exact .inl (qab _ z)
     ·split at z
      ·rename_i hk
       have hk':kk=NameKind.free:=by simpa using hk
       rw[qaQ] at z
       split at z
       ·rename_i e'
        have:x=n:=by simpa using e'
        subst this;subst hk';exact .inl qaC
       ·exact .inr z
      ·exact .inr z
   have e':=e;rw[<-hcl] at e';rcases only _ _ x a e' with z'|z'
   ·refine⟨?_,C.all _ z' rfl⟩;rcases clk x a e with z|⟨z,_⟩
    ·exact z
    ·obtain⟨c,hc⟩:=hfree _ z' rfl;rw[z] at hc;cases hc
   ·simp at z'
 have start:=hi FA s σ H (CS X ρ H σp gt mt me (cSt vars.length fm σp) Q) I
  ⟨ρ,σp,h,rs,rh,Ful.bind q fun ρ1 H1 it J h1 _ l1 rh1 jr q1=>⟨ρ1,it,h1,l1,rh1,jr,q1⟩⟩
 refine wpAny_mono start (fun x s₁ h₁=>wpAny_mono h₁ (fun itv s₂ h₂=>?_) fun _ _ e=>e) fun _ _ e=>e;obtain⟨ita,fp,tn,J,H2,rfl,I2,T,st2,f2,ρ1,it,h1,l1,rh1,jr,q1⟩:=h₂;refine wpAny_newObj_type ?_;have hf2:H2 s₂.heap.objs.size=none:=I2.hok.fresh (qaj _);have I3:=I2.lnew (ys:=[]) (its:=[]) (t':=s₂.toks) .nil (qaO _);obtain⟨rh3,l3⟩:=rh1.new hf2 (o:=.lst []) (ho:=.lst []) ⟨[],rfl,.nil⟩;generalize hs3:({ s₂ with heap:=s₂.heap.push { cls:=.type "list",data:=.seq ([]:List Value).toArray},toks:=s₂.toks}:Shared)=s₃ at I3;generalize hH3:upd H2 s₂.heap.objs.size (.lst [])=H₃ at I3 rh3 l3;have hacc:H₃ s₂.heap.objs.size=some (.lst []):=by rw[<-hH3];exact bR
 have es3:s₃.heap=s₂.heap.push { cls:=.type "list",data:=.seq ([]:List Value).toArray}:=by rw[<-hs3]
 have st3:tn 0 s₃.heap:=T.keep _ _ _ st2 fun b _ o e=>by rw[es3];exact qac _ e
 have fp3:∀b∈fp,gN X FA H₃ b:=fun b hb=>by
  obtain⟨a0,a1⟩:=f2 b hb;refine⟨?_,a1⟩;obtain⟨o,eo,_⟩:=T.obj _ _ st2 b hb;rw[<-hH3,aT (qaH (qam eo))];exact a0
 have goal3:wpAny (model X.prog X.w) X.A (newFunctionEnv scope X.env.globals cl [] X.env.qual none .none (some X.env)) (fun cenv s₄ =>
    codeAny (model X.prog X.w) X.A (.compStart (.ListComp elt [⟨tg,iter,ifs,0⟩] scope pos) 0 (.ref ita) (.ref s₂.heap.objs.size) { cenv with scope:=relabel scope X.env}) (compPost (model X.prog X.w) X.A X.xe use Qv (.ref s₂.heap.objs.size) cenv.locals) s₄) X.xe s₃:=by
  refine m9 ?_;have keep4:∀b o,s₃.heap.get? b=some o->(pushCells (s₃.heap.push { cls:=.type "dict",data:=.dict #[]}) scope.names).get? b=some o:=fun b o e=>pushCells_keeps _ _ b o (qac _ e);have hns:=(Heap.Ns.new s₃.heap (.type "dict")).keeps (pushCells_keeps scope.names _);have okc:=cellsFrom_ok scope.names (s₃.heap.push { cls:=.type "dict",data:=.dict #[]}) (s₃.heap.objs.size+1) [] ⟨fun _ _ hm=>(nomatch hm),List.Pairwise.nil⟩ (by rw[qbe];exact qaj _);rw[qbe] at okc;rw[cF];have hin:=d8 scope.names (s₃.heap.objs.size+1);generalize cellsFrom (s₃.heap.objs.size+1) scope.names []=cn at okc hin ⊢;generalize pushCells (s₃.heap.push { cls:=.type "dict",data:=.dict #[]}) scope.names=h' at keep4 hns okc ⊢;dsimp only[newEnv];have csl:∀x c,(cn++cl).lookup x=some c->((x,c)∈cn/\scope.names.lookup x=some .cell/\s₃.heap.objs.size<c/\h'.IsCell c none)\/(X.env.cells.lookup x=some c/\scope.names.lookup x=some .free):=fun x c e=>by
   rw[kl] at e
   cases z:cn.lookup x with
   | some c' =>
    rw[z] at e
    have:c'=c:=by simpa using e
    subst this;have m:=PySem.mem_of_lookup z;obtain⟨q1,q2⟩:=okc.empty x c' m;exact .inl ⟨m,C.cell _ ((hin x).mp ⟨c',m⟩) rfl,q2,q1⟩
   | none =>
    rw[z] at e;obtain⟨q1,q2⟩:=clin x c (by simpa using e);exact .inr ⟨q1,C.hf x q2⟩
  have csf:∀x c,x∈frees->cl.lookup x=some c->(cn++cl).lookup x=some c:=fun x c hx e=>by
   rw[kl]
   cases z:cn.lookup x with
   | none=>simpa using e
   | some c' =>
    have:=C.cell _ ((hin x).mp ⟨c',PySem.mem_of_lookup z⟩) rfl
    rw[C.hf x hx] at this;cases this
  have old:∀x c,X.env.cells.lookup x=some c->c<s₃.heap.objs.size:=fun x c e=>by
   obtain⟨v,qc⟩:=I3.cell x c e;exact qc.lt
  have ok:(c8 X scope (cn++cl) s₃ H₃ fp (vars++frees)).Ok:=by
   refine⟨I3.ok.mod,C.kind,I3.ok.glob,I3.ok.blt,qaj _,fun x y c h1 h2=>?_,fun x hx=>?_,fun x c hx e=>?_,I3.ok.hd,I3.ok.frames,.inl rfl,
    fun b hb=>⟨?_,fun x c e z=>?_⟩,I3.bs,qav I3.ok.bsz I3.sz,fun b o e hb=>?_,fun b hb z=>?_,I3.stack,I3.stkFree,I3.ok.tree,I3.ok.top⟩
   ·rcases csl x c h1 with ⟨a1,_,a2,_⟩|⟨a1,_⟩ <;> rcases csl y c h2 with ⟨b1,_,b2,_⟩|⟨b1,_⟩
    ·exact PySem.name_of_addr okc.apart a1 b1
    ·exact absurd (qbh a2 (old y c b1)) (qaI _)
    ·exact absurd (qbh b2 (old x c a1)) (qaI _)
    ·exact I3.ok.inj x y c a1 b1
   ·
    have hx':(relabel scope X.env).names.lookup x=some .cell\/(relabel scope X.env).names.lookup x=some .free:=hx
    cases e:scope.names.lookup x with
    | none =>
     exfalso;have nn:∀(l:List (Str × NameKind)),l.lookup x=none->(l.map fun (n,k)=>if (k == NameKind.free && X.env.scope.kind == .function && X.env.kindOf n == some .cell) then (n,NameKind.cell) else (n,k)).lookup x=none:=by
      intro l
      induction l with
      | nil=>intro _;rfl
      | cons y l ih =>
       intro hl;obtain⟨n,kk⟩:=y;rw[qaQ] at hl
       split at hl
       ·cases hl
       ·rename_i hx2
        rw[qaJ];dsimp only
        split <;> (rw[qaQ];simp only[hx2];exact ih hl)
     have e2:=nn scope.names e;rcases hx' with z|z
     ·rw[show (relabel scope X.env).names.lookup x=none from e2] at z;cases z
     ·rw[show (relabel scope X.env).names.lookup x=none from e2] at z;cases z
    | some kk =>
     have e2:=bT (env:=X.env) I3.ok.kind e;have hk:kk=.free\/kk=.cell:=by
      rcases hx' with z|z
      ·rw[show (relabel scope X.env).names.lookup x=_ from e2] at z;have z':=Option.some.inj z;by_cases zz:kk=.free/\X.env.kindOf x=some .cell
       ·exact .inl zz.1
       ·rw[qat zz] at z';exact .inr z'
      ·rw[show (relabel scope X.env).names.lookup x=_ from e2] at z;have z':=Option.some.inj z;by_cases zz:kk=.free/\X.env.kindOf x=some .cell
       ·exact .inl zz.1
       ·rw[qat zz] at z';exact .inl z'
     rcases hk with hk|hk
     ·subst hk;have hf:=C.all _ (PySem.mem_of_lookup e) rfl;obtain⟨c,h1,_⟩:=clf x hf;exact⟨c,csf x c hf h1⟩
     ·subst hk;obtain⟨c,hc⟩:=(hin x).mpr (PySem.mem_of_lookup e);show ∃c,(cn++cl).lookup x=some c;rw[kl]
      cases z:cn.lookup x with
      | some c'=>exact⟨c',rfl⟩
      | none=>exact absurd hc (vh cn x z c)
   ·have hx':=of_decide_eq_true hx;rcases csl x c e with ⟨_,_,q,_⟩|⟨_,q⟩
    ·exact qbu q
    ·rw[q] at hx';cases hx'
   ·obtain⟨o,eo,_⟩:=T.obj _ _ st3 b hb;exact qaH (qam eo)
   ·rcases csl x c e with ⟨_,_,q,_⟩|⟨q,_⟩
    ·obtain⟨o,eo,_⟩:=T.obj _ _ st3 b hb;exact absurd (qbh q (z▸qam eo)) (qaI _)
    ·exact (fp3 b hb).2.2.2.2.1 x c q z
   ·obtain⟨_,_,_,h4,_⟩:=fp3 b hb;rcases h4 with h4|h4
    ·exact I3.ok.noex b o e h4
    ·exact absurd (qas (qam e) (qav I3.ok.bsz h4)) (qaI _)
   ·obtain⟨_,h2,h3,_⟩:=fp3 b hb;rcases qag.mp (I3.stkSub b z) with e|e
    ·exact h2 e
    ·exact h3 e
  obtain⟨mX,nsX,lX⟩:=I3.loc;have l13:Le ρ H (ρ1++[s₂.heap.objs.size]) H₃:=l1.trans l3
  let σY:L2.St:=List.replicate vars.length none++fm.map fun i=>(σ[i]?).getD none
  have fml:fm.length=frees.length:=by have:=congrArg List.length C.fm;simpa using this
  have invY:Inv (c8 X scope (cn++cl) s₃ H₃ fp (vars++frees)) [] σY H₃ { s₃ with heap:=h',toks:=s₃.toks}:=by
   refine⟨ok,rfl,I3.bare,Un.kept keep4,⟨_,hns,fun i x v hN hv hvis=>?_⟩,fun x c e=>?_,?_,fun x c e=>?_,fun p hp=>absurd (show p∈([]:List (Addr × Obj)) from hp) (by simp),I3.hok.kept keep4,?_⟩
   ·have hN':(vars++frees)[i]?=some x:=hN;have hiv:vars.length<=i:=by
     by_cases z:vars.length<=i
     ·exact z
     ·exfalso;have hv':σY[i]?=some (some v):=hv;rw[qai (by simp;ext),qaM] at hv'
      split at hv' <;> cases hv'
    have hv':σY[i]?=some (some v):=hv;rw[qay (by simpa using hiv),qaX,qaD] at hv';rw[qay hiv] at hN'
    cases ej:fm[i - vars.length]? with
    | none=>rw[ej] at hv';cases hv'
    | some j =>
     rw[ej] at hv';have ef:=congrArg (fun l=>l[i - vars.length]?) C.fm;simp only[qaD,ej,hN',Option.map_some] at ef;have ef':N[j]?=some x:=by simpa using ef
     have ev:σ[j]?=some (some v):=by
      have:(σ[j]?).getD none=some v:=by simpa using hv'
      cases z:σ[j]? with
      | none=>rw[z] at this;cases this
      | some o=>rw[z] at this;simp at this;rw[this]
     have hx:x∈frees:=qaK hN';have vis:Vis X.env.scope x:=.inr (.inl (C.cl x hx));obtain⟨u,ru,look⟩:=lX j x v (by rw[g.hN];exact ef') ev vis;refine⟨u,ru,.inr ⟨?_,?_⟩⟩
     ·left;show (relabel scope X.env).names.lookup x=some .cell
      have:=bT (env:=X.env) I3.ok.kind (C.hf x hx)
      rw[qae ⟨rfl,C.cl x hx⟩] at this;exact this
     ·rcases look with ⟨hk,_⟩|⟨_,c,hc,hcell⟩
      ·rw[C.cl x hx] at hk;cases hk
      ·obtain⟨c',h1,h2⟩:=clf x hx;rw[hc] at h2;cases h2;obtain⟨o,eo,ed⟩:=hcell;exact⟨c,csf x c hx h1,o,keep4 _ _ eo,ed⟩
   ·rcases csl x c e with ⟨_,_,_,q⟩|⟨q,_⟩
    ·exact⟨none,q⟩
    ·obtain⟨v,o,eo,ed⟩:=I3.cell x c q;exact⟨v,o,keep4 _ _ eo,ed⟩
   ·exact I3.hok.fresh (qaj _)
   ·rcases csl x c e with ⟨_,_,q,_⟩|⟨q,_⟩
    ·exact I3.hok.fresh (qbu q)
    ·exact I3.freeC x c q
   ·show σY.length=(vars++frees).length;simp[σY,fml]
  have gY:Good (c8 X scope (cn++cl) s₃ H₃ fp (vars++frees)) (vars++frees) vars G' k:=by
   refine⟨rfl,nd,fun x hx=>?_,fun x hx=>?_,fun x hx=>?_,dbg,g.calm,g.room,PassesOwn.never⟩
   ·rcases qaL.mp hx with z|z
    ·rcases C.hv x z with z|z
     ·left
      have:=bT (env:=X.env) I3.ok.kind z
      rw[qat (fun q=>nomatch q.1)] at this;exact this
     ·right
      have:=bT (env:=X.env) I3.ok.kind z
      rw[qat (fun q=>nomatch q.1)] at this;exact this
    ·right
     have:=bT (env:=X.env) I3.ok.kind (C.hf x z)
     rw[qae ⟨rfl,C.cl x z⟩] at this;exact this
   ·rcases C.hv x hx with z|z
    ·right
     have:=bT (env:=X.env) I3.ok.kind z
     rw[qat (fun q=>nomatch q.1)] at this;exact this
    ·exact .inl (decide_eq_true z)
   ·have:=bT (env:=X.env) I3.ok.kind (hgl x hx)
    rw[qat (fun q=>nomatch q.1)] at this;exact this
  obtain⟨hg,ht,he⟩:=hY (c8 X scope (cn++cl) s₃ H₃ fp (vars++frees)) rfl rfl rfl rfl rfl rfl gY;have rsY:RS X.K (ρ1++[s₂.heap.objs.size]) H₃ (cSt vars.length fm σp) σY:=by
   refine⟨by simp[σY,cSt],fun i v e=>?_⟩;unfold cSt at e;by_cases z:vars.length<=i
   ·rw[qay (by simpa using z),qaX,qaD] at e
    cases ej:fm[i - vars.length]? with
    | none=>rw[ej] at e;cases e
    | some j =>
     rw[ej] at e;have ev:σp[j]?=some (some v):=by
      have:(σp[j]?).getD none=some v:=by simpa using e
      cases z:σp[j]? with
      | none=>rw[z] at this;cases this
      | some o=>rw[z] at this;simp at this;rw[this]
     obtain⟨v',e',rv⟩:=rs.2 j v ev;refine⟨v',?_,rv.le l13⟩;show σY[i]?=_;rw[qay (by simpa using z),qaX,qaD,ej];simp[e']
   ·rw[qai (by simp;ext),qaM] at e
    split at e <;> cases e
  have q3:Ful X (RV' X) σp (ρ1++[s₂.heap.objs.size]) H₃ ((cGo it h1.length gt mt me it.xs (cSt vars.length fm σp) (h1++[.lst []])).bind fun _ h3=>.ok (.loc h1.length) h3) Q:=Ful.le l3 q1;have hrho:(ρ1++[s₂.heap.objs.size])[h1.length]?=some s₂.heap.objs.size:=by rw[<-rh1.len];simp
  have loop:∀s₅:Shared,s₅={ s₃ with heap:=h',toks:=s₃.toks}->codeAny (model X.prog X.w) X.A (.compLoop (.ListComp elt [⟨tg,iter,ifs,0⟩] scope pos) 0 (.ref ita) (.ref s₂.heap.objs.size) (compEnvC scope (cn++cl) s₃.heap.objs.size X.env))
    (compPost (model X.prog X.w) X.A X.xe use Qv (.ref s₂.heap.objs.size) s₃.heap.objs.size) s₅:=by
   rintro s₅ rfl;refine nU (CI X (c8 X scope (cn++cl) s₃ H₃ fp (vars++frees)) it tn fp (ρ1++[s₂.heap.objs.size]) H₃ σp h1.length gt mt me Q) ?_ it.xs.length
    ⟨0,σY,H₃,_,_,_,rfl,qaO _,invY,T.keep _ _ _ st3 (fun b _ o e=>keep4 b o e),fun b hb=>(fp3 b hb).1,Le.refl _ _,rsY,rh3,by simpa using q3⟩
   rintro n s6 ⟨i,σ6,H6,ρ6,σp6,h6,rfl,hi6,I6,st6,fr6,l6,rs6,rh6,q6⟩;have stat:∀{H':Hp},(∀b∈fp,H' b=none)->∀b∈fp,gN (c8 X scope (cn++cl) s₃ H₃ fp (vars++frees)) [] H' b:=fun {H'} hn b hb =>
    ⟨hn b hb,(ok.exf b hb).1,ok.exfs b hb,.inl hb,(ok.exf b hb).2,fun p hp=>absurd (show p∈([]:List (Addr × Obj)) from hp) (by simp)⟩
   by_cases hlt:i<it.xs.length
   ·have ed:it.xs.drop i=it.xs[i]::it.xs.drop (i+1):=qbz hlt;rw[ed] at q6;simp only[cGo] at q6;by_cases hok:it.ok h6
    ·rw[qae hok] at q6;obtain⟨j1,_⟩:=jr ρ6 H6 h6 i (l3.trans l6) rh6 hok;obtain⟨go,yl⟩:=j1 hlt;refine thn (T.item (c8 X scope (cn++cl) s₃ H₃ fp (vars++frees)) rfl rfl rfl g.calm i [] s6 σ6 H6 (fun _ _=>False) I6 (stat fr6) st6 go) fun r s7 ⟨u,hr,h7⟩=>?_;subst hr;refine thn h7 fun _ s8 ⟨x8,H8,I8,r8,y8,st8,fr8⟩=>?_;obtain⟨ρ8,x,l8,rh8,ex,rx⟩:=yl x8 H8 y8;have ex':x=it.xs[i]:=by rw[qaA hlt] at ex;exact (Option.some.inj ex).symm
     subst ex';have I8p:=I8.pinned (stat fr8) (T.obj _ _ st8);have q8:=Ful.le l8 q6;have back:∀{σ9:L2.St} {H9:Hp} {s9:Shared},Inv (c8 X scope (cn++cl) s₃ H₃ fp (vars++frees)) ([]++i6 fp s8.heap) σ9 H9 s9->Inv (c8 X scope (cn++cl) s₃ H₃ fp (vars++frees)) [] σ9 H9 s9/\tn (i+1) s9.heap/\∀b∈fp,H9 b=none:=fun {σ9 H9 s9} I9=>by
      refine⟨I9.unpinned,T.keep _ _ _ st8 fun b hb o e=>(I9.pin (b,o) (qal _ (qal _ (fI hb e)))).1,fun b hb=>?_⟩;obtain⟨o,e,d⟩:=T.obj _ _ st8 b hb;exact (I9.pin (b,o) (qal _ (qal _ (fI hb e)))).2.1
     cases eg:gt it.xs[i] σp6 h6 with
     | nx σp9 h9 =>
      rw[eg] at q8;dsimp only at q8
      refine thn (hg _ s8 σ6 H8 x8 u (fun σ' H'=>∃ρ',Le ρ8 H8 ρ' H'/\RH X.K X.mg ρ' H' h9/\RS X.K ρ' H' σp9 σ') I8p r8 ⟨ρ8,σp6,h6,_,rs6.le l8,rh8,rx,by
       show j4 _ _ _ (gt it.xs[i] σp6 h6) _
       rw[eg];exact fun ρ' H' σ' l r s=>⟨ρ',l,r,s⟩⟩) fun _ s9 ⟨σ9,H9,I9,ρ9,l9,rh9,rs9⟩=>?_
      have q9:=Ful.le l9 q8
      cases em:mt σp9 h9 with
      | ok b h10 =>
       rw[em,Out.ne_ok] at q9;rw[Out.bind_ok] at q9
       refine thn (ht _ s9 σ9 H9 (fun b' H'=>b'=b/\∃ρ',Le ρ9 H9 ρ' H'/\RH X.K X.mg ρ' H' h10) I9 ⟨ρ9,σp9,h9,rs9,rh9,by
        show Ful _ _ _ _ _ (mt σp9 h9) _
        rw[em];exact fun ρ' H' v' l r e=>⟨e.symm,ρ',l,r⟩⟩) fun b' s10 ⟨H10,I10,eb,ρ10,l10,rh10⟩=>?_
       subst eb;have q10:=Ful.le l10 q9
       cases b' with
       | false =>
        rw[qat qbw] at q10 ⊢;obtain⟨I10',st10,fr10⟩:=back I10;exact⟨_,by ext,i+1,σ9,H10,ρ10,σp9,h10,rfl,hlt,I10',st10,fr10,l6.trans (l8.trans (l9.trans l10)),rs9.le l10,rh10,q10⟩
       | true =>
        rw[qae rfl] at q10 ⊢
        cases ee:me σp9 h10 with
        | ok v h11 =>
         rw[ee,Out.ne_ok] at q10;rw[Out.bind_ok] at q10
         refine thn (he _ s10 σ9 H10 (fun v' H'=>∃ρ',Le ρ10 H10 ρ' H'/\RH X.K X.mg ρ' H' h11/\RP X.K ρ' H' v v') I10 ⟨ρ10,σp9,h10,rs9.le l10,rh10,by
          show Ful _ _ _ _ _ (me σp9 h10) _
          rw[ee];exact fun ρ' H' v' l r e=>⟨ρ',l,r,e⟩⟩) fun u11 s11 ⟨v',H11,I11,ru11,ρ11,l11,rh11,rv11⟩=>?_
         have q11:=Ful.le l11 q10;have lall:Le (ρ1++[s₂.heap.objs.size]) H₃ ρ11 H11:=l6.trans (l8.trans (l9.trans (l10.trans l11)));obtain⟨oa,eoa,roa⟩:=rh11.obj (lall.get hrho);rw[eoa] at q11
         cases oa with
         | dic fz ks xs=>exact q11.elim
         | exc x=>exact q11.elim
         | lst ys =>
          dsimp only at q11;by_cases hl11:ys.length<sizeLine
          ·rw[qae hl11] at q11;obtain⟨ys',ey',ry⟩:=roa;obtain⟨rh12,l12⟩:=rh11.put (lall.get hrho) (o:=.lst (ys++[v])) (ho:=.lst (ys'++[v'])) ⟨_,rfl,ry.append (.cons rv11 .nil)⟩;have ap:=mT (X:=c8 X scope (cn++cl) s₃ H₃ fp (vars++frees)) _ s11 σ9 H11 (.ref s₂.heap.objs.size) [v'] (.ref s₂.heap.objs.size) [u11] (fun _ H'=>H'=upd H11 s₂.heap.objs.size (.lst (ys'++[v']))) I11 rfl (.cons ru11 .nil) ⟨s₂.heap.objs.size,ys',v',rfl,rfl,ey',by rw[<-ry.length];exact hl11,rfl⟩;refine thn ap fun _ s12 ⟨_,H12,I12,_,eH⟩=>?_;subst eH;obtain⟨I12',st12,fr12⟩:=back I12;exact⟨_,by ext,i+1,σ9,_,ρ11,σp9,_,rfl,hlt,I12',st12,fr12,lall.trans l12,(rs9.le l10).le (l11.trans l12),rh12,Ful.le l12 q11⟩
          ·rw[qat hl11] at q11;exact q11.elim
        | exc x h11=>rw[ee] at q10;exact q10.elim
        | bad=>rw[ee] at q10;exact q10.elim
      | exc x h10=>rw[em] at q9;exact q9.elim
      | bad=>rw[em] at q9;exact q9.elim
     | _=>rw[eg] at q8;exact q8.elim
    ·rw[qat hok] at q6;exact q6.elim
   ·have e:i=it.xs.length:=by ext
    rw[e,List.drop_length] at q6;simp only[cGo] at q6;by_cases hok:it.ok h6
    ·rw[qae hok] at q6;obtain⟨_,j2⟩:=jr ρ6 H6 h6 i (l3.trans l6) rh6 hok;refine thn (T.done (c8 X scope (cn++cl) s₃ H₃ fp (vars++frees)) rfl rfl rfl g.calm i [] s6 σ6 H6 (fun _ _=>False) I6 (stat fr6) st6 (j2 (by ext))) fun r s7 ⟨hr,I7⟩=>?_;subst hr;obtain⟨m7,ns7,_⟩:=I7.loc;have IX:=I3.call' (s':=s7) (ch:=fp) I7.os I7.base I7.hok I7.bare fun b hb=>by
      obtain⟨_,a2,_,a4,a5,a6⟩:=fp3 b hb;exact⟨a4,a2,a5,a6⟩
     exact fin _ _ H6 s7 m7 IX I7.free ns7 (qbm I3.lt) I3.sz (I3.nofs (qaj _)) (fun x c e z=>by
      obtain⟨v,qc⟩:=I3.cell x c e
      exact absurd qc.lt (by rw[z];exact qaI _)) (fun p hp z=>absurd (qam (I3.pin p hp).1) (by rw[z];exact qaI _)) (q6 ρ6 H6 _ (Le.refl _ _) rh6 (.loc (l6.get hrho)))
    ·rw[qat hok] at q6;exact q6.elim
  exact codeAny_compStart_list (loop _ rfl) (T.self X.A 0 _ _ _ (T.keep _ _ _ st3 (fun b _ o e=>keep4 b o e)) (loop _ rfl))
 exact goal3
def me_comp(g:Good X N W G k){tg iter elt:Expr}{ifs:List Expr}{scope:Scope}{pos:Pos}{vars frees G':List Str}{fm:List Nat}{mi:Mx MIt}{gt:Mg}{mt:Mx Bool}{me:Mx PV}(C:CompOk X N scope vars frees fm)
  (nd:(vars++frees).Nodup) (hgl:∀x∈G',scope.names.lookup x=some .globalImplicit) (dbg:∀x∈(vars++frees)++G',(x == ("__debug__":Str))=false/\(x == ("__classdict__":Str))=false/\x≠"__name__")
  (hi:MI X tg iter mi)
  (hY:∀Y:Cx,Y.prog=X.prog->Y.w=X.w->Y.K=X.K->Y.mg=X.mg->Y.base=X.base->Y.env.scope=relabel scope X.env->Good Y (vars++frees) vars G' k->MG Y tg gt/\MTs Y ifs mt/\ME Y elt me)
  (hs:∀x,foldedSetIterable iter X.env x=pure x:=by intro _;rfl):ME X (.ListComp elt [⟨tg,iter,ifs,0⟩] scope pos) (nu vars.length fm mi gt mt me):=by
 intro FA s σ H Q I tm;refine sM g C nd hgl dbg hi hY hs I tm fun acc D H6 s7 m7 IX hC ns hL hz hfs hcl hp q=>?_;refine⟨m7,ns,fun h'' hsb=>⟨.ref acc,H6,?_,rfl,q⟩⟩;exact IX.turned (t':=s7.toks) (fun b o hb e=>hsb.extBut b o hb e) hC hL (.inr hz) hcl hp
end
def fRepr(xs:List PV)(h:MH):Out PV:=match xs with
 | [x]=>(match x with
  | .tup _=>(match rd 60 h x with
   | some d=>if d.showable=true/\d.shown.length<=sizeLine then .ok (.str d.shown) h else .bad
   | none=>.bad)
  | .frl _=>(match rd 60 h x with
   | some d=>if d.showable=true/\d.shown.length<=sizeLine then .ok (.str d.shown) h else .bad
   | none=>.bad)
  | .loc _=>(match rd 60 h x with
   | some d=>if d.showable=true/\d.shown.length<=sizeLine then .ok (.str d.shown) h else .bad
   | none=>.bad)
  | _=>.bad)
 | _=>.bad
def jU(hf:∀v d,f v=some d->d.depth<=n/\d.hasDict=false):∀{xs:List PV} {ds:List PyData},ck f xs=some ds->PyData.depthAll ds<=n/\PyData.hasDictAll ds=false
 | [],ds,e=>by cases e;simp[PyData.depthAll,PyData.hasDictAll]
 | x::r,ds,e=>by
  simp only[ck] at e
  split at e
  ·rename_i d ds' e1 e2
   cases e;obtain⟨a1,a2⟩:=hf _ _ e1;obtain⟨b1,b2⟩:=jU hf e2;simp only[PyData.depthAll,PyData.hasDictAll,a2,b2];exact⟨by lia,rfl⟩
  ·cases e
def oe:∀(n:Nat) (v:PV) (d:PyData),rd n h v=some d->d.depth<=n/\d.hasDict=false
 | 0,v,d,e=>by
  cases v <;> simp only[rd] at e <;> cases e <;> simp[PyData.depth,PyData.hasDict]
 | n+1,v,d,e=>by
  have key:∀xs,(∀ds,ck (rd n h) xs=some ds->PyData.depthAll ds<=n/\PyData.hasDictAll ds=false):=fun xs ds=>jU (oe n)
  cases v with
  | non=>cases e;simp[PyData.depth,PyData.hasDict]
  | bl b=>cases e;simp[PyData.depth,PyData.hasDict]
  | int b=>cases e;simp[PyData.depth,PyData.hasDict]
  | str b=>cases e;simp[PyData.depth,PyData.hasDict]
  | tup xs =>
   simp only[rd,qap] at e;obtain⟨ds,e1,rfl⟩:=e;obtain⟨a,b⟩:=key xs ds e1;exact⟨by simp only[PyData.depth];lia,by simp only[PyData.hasDict,b]⟩
  | frl xs =>
   simp only[rd,qap] at e;obtain⟨ds,e1,rfl⟩:=e;obtain⟨a,b⟩:=key xs ds e1;exact⟨by simp only[PyData.depth];lia,by simp only[PyData.hasDict,b]⟩
  | loc m =>
   simp only[rd] at e
   split at e
   ·rename_i xs _
    simp only[qap] at e;obtain⟨ds,e1,rfl⟩:=e;obtain⟨a,b⟩:=key xs ds e1;exact⟨by simp only[PyData.depth];lia,by simp only[PyData.hasDict,b]⟩
   ·cases e
section
variable {X:Cx} {N W G:List Str} {k:Nat}
def j5{FA:List (Addr × Obj)}{σ:L2.St}{H:Hp}{s:Shared}{ρ:List Addr}{h:MH}{x:PV}{a:Addr}{Q:VK}(hr:Room k X.A)(I:Inv X FA σ H s)(rh:RH X.K X.mg ρ H h)(rx:RP X.K ρ H x (.ref a))
  (q:fo X (RV' X) ρ H (match rd 60 h x with
   | some d=>if d.showable=true/\d.shown.length<=sizeLine then .ok (.str d.shown) h else .bad
   | none=>.bad) Q):wpAny (model X.prog X.w) X.A (call (.builtin "repr") [.ref a]) (EP X FA σ Q) X.xe s:=by
 cases e:rd 60 h x with
 | none=>rw[e] at q;exact q.elim
 | some d =>
  rw[e] at q;dsimp only at q;by_cases z:d.showable=true/\d.shown.length<=sizeLine
  ·rw[qae z] at q;obtain⟨as,rd1⟩:=fR I rh 60 x (.ref a) (.ref a) d rx rfl e;obtain⟨f1,f2⟩:=oe 60 x d e;refine repr_of_reads' rd1 z.1 (PyData.noDict_hsm f2) hr.gd (by have:=hr.un;lia) (fun _ _ e=>e) (fun h' u tk hk=>⟨.str d.shown,H,I.kept hk,⟨u,rfl⟩,q ρ H _ (Le.refl _ _) rh (.str _)⟩) z.2
  ·rw[qat z] at q;exact q.elim
def dI(g:Good X N W G k):bX X (.builtin "repr") fRepr:=by
 intro FA s σ H xs us Q I r ⟨ρ,h,ps,rh,rp,q⟩
 cases rp with
 | nil=>exact q.elim
 | cons r1 t1 =>
  cases t1 with
  | cons _ _=>cases r1 <;> exact q.elim
  | nil =>
   cases r with
   | cons ru tu =>
    cases tu
    cases r1 with
    | tup s1 rr=>cases ru;exact j5 g.room I rh (.tup s1 rr) q
    | frl s1 rr=>cases ru;exact j5 g.room I rh (.frl s1 rr) q
    | loc e=>cases ru;exact j5 g.room I rh (.loc e) q
    | _=>exact q.elim
end
def oj{p:Str->Prop}{a:Str}{l:List Str}(h:p a)(t:∀x∈l,p x):∀x∈a::l,p x:=fun x hx=>by
 rcases qag.mp hx with rfl|z
 ·exact h
 ·exact t x z
end MM
namespace MM
open PySem PySem.Spec PyProof.Rows L2
def compOk(hsc:X.env.scope=sc)(h1:scope.kind=.function)(h2:∀y∈scope.names,y.2=.cell->scope.names.lookup y.1=some .cell)(h3:∀y∈scope.names,y.2=.local->scope.names.lookup y.1=some .local)(h4:∀x∈vars,scope.names.lookup x=some .local\/scope.names.lookup x=some .cell)
  (h5:∀x∈frees,scope.names.lookup x=some .free) (h6:∀y∈scope.names,y.2=.free->y.1∈frees) (h7:fm.map (fun i=>N[i]?)=frees.map some) (h8:∀x∈frees,sc.names.lookup x=some .cell):CompOk X N scope vars frees fm :=
 ⟨h1,h2,h3,h4,h5,h6,h7,fun x hx=>by rw[<-hsc] at h8;exact h8 x hx⟩
end MM
namespace MM
open PySem PySem.Spec PyProof.Rows L2
local instance (priority:=1) cdec16 (p:Prop):Decidable p:=Classical.propDecidable p
section
variable {σ:PSt} {h:MH}
@[simp] theorem mComp_ap{nv:Nat}{fm:List Nat}{mi:Mx MIt}{gt:Mg}{mt:Mx Bool}{me:Mx PV}:nu nv fm mi gt mt me σ h =
 (mi σ h).bind fun it h1=>(cGo it h1.length gt mt me it.xs (cSt nv fm σ) (h1++[.lst []])).bind fun _ h3=>.ok (.loc h1.length) h3:=rfl
def app_0{o:MO}{g:MH}:(h++o::g)[h.length]?=some o:=by simp
end
end MM
namespace MM
open PySem PySem.Spec PyProof.Rows L2
def dB(s:String):PyData.strOk (Str.ofString s)=true:=by
 rw[Str.ofString_eq_toList];unfold PyData.strOk;simp only[List.all_toArray,List.all_map,qbn];intro c _;simp only[Function.comp]
 have:=c.valid
 have h2:c.toNat<0x110000:=by
  rcases this with z|z
  ·have:c.toNat<0xd800:=z;lia
  ·exact z.2
 simpa using h2
def cT(ha:PyData.strOk a=true)(hb:PyData.strOk b=true):PyData.strOk (a++b)=true:=by
 unfold PyData.strOk at *;rw[Str.cps_append,Array.all_append,ha,hb];rfl
end MM
namespace MM
open PySem PySem.Spec PyProof.Rows L2
local instance (priority:=1) cdec18 (p:Prop):Decidable p:=Classical.propDecidable p
def mMt(f:Nat->List PV->MH->Out PV)(m:Mx PV)(ma:Mx (List PV)):Mx PV:=fun σ h=>(m σ h).bind fun o h1=>match o with
 | .loc n=>(match h1[n]? with
  | some (.lst _)=>(ma σ h1).bind fun vs h2=>(f n vs h2).ne
  | _=>.bad)
 | _=>.bad
def eM(n:Nat)(vs:List PV)(h:MH):Out PV:=match vs,h[n]? with
 | [v],some (.lst xs)=>if xs.length<sizeLine then .ok .non (h.set n (.lst (xs++[v]))) else .bad
 | _,_=>.bad
section
variable {X:Cx} {N W G:List Str} {k:Nat}
def mtJ(X:Cx)(f:Nat->List PV->MH->Out PV):V->List V->Hp->VK->Prop:=fun x vs H Q=>∃ρ h n a ps,x=.ref a/\ρ[n]?=some a/\RH X.K X.mg ρ H h/\RPs X.K ρ H ps vs/\fo X (RV' X) ρ H (f n ps h) Q
def mF:MtR X "list.append" (mtJ X eM):=by
 intro FA s σ H x vs v us Q I rx rv ⟨ρ,h,n,a,ps,e,en,rh,rp,q⟩;subst e;obtain⟨o,eo,ro⟩:=rh.obj en;unfold eM at q
 cases rp with
 | nil=>exact q.elim
 | cons r1 t1 =>
  cases t1 with
  | cons _ _=>exact q.elim
  | nil =>
   rw[eo] at q
   cases o with
   | lst xs =>
    dsimp only at q;by_cases hl:xs.length<sizeLine
    ·rw[qae hl] at q;obtain⟨ys,ey,ry⟩:=ro;obtain⟨rh',l'⟩:=rh.put en (o:=.lst (xs++[_])) ⟨_,rfl,ry.append (.cons r1 .nil)⟩;exact mT FA s σ H _ _ v us Q I rx rv ⟨a,ys,_,rfl,rfl,ey,by rw[<-ry.length];exact hl,q ρ _ .non l' rh' .non⟩
    ·rw[qat hl] at q;exact q.elim
   | _=>exact q.elim
variable {o e:Expr} {es:List Expr} {name:Str} {apos cpos:Pos} {id:String} {f:Nat→List PV→MH→Out PV} {m:Mx PV} {ma:Mx (List PV)}
def tM_mt{ta:TA}(hna:∀σ H Q,tM X (RVs' X) ma σ H Q->ta σ H Q){σ:L2.St}{H:Hp}{Q:VK}(tm:tM X (RV' X) (mMt f m ma) σ H Q):tM X (RV' X) m σ H (fun x H1=>tyV X.K "list" x H1/\ta σ H1 fun xs H2=>mtJ X f x xs H2 Q):=by
 obtain⟨ρ,σp,h,rs,rh,q⟩:=tm;refine⟨ρ,σp,h,rs,rh,?_⟩;refine Ful.bind q fun ρ1 H1 x x' h1 _ l1 rh1 rx q1=>?_
 cases rx with
 | @loc n a en =>
  obtain⟨ob,eo,ro⟩:=rh1.obj en;dsimp only at q1;rw[eo] at q1
  cases ob with
  | lst xs =>
   obtain⟨ys,ey,ry⟩:=ro;refine⟨.inl ⟨rfl,ys,SqL.of ey⟩,hna σ H1 _ ⟨ρ1,σp,h1,rs.le l1,rh1,?_⟩⟩;exact Ful.bind q1 fun ρ2 H2 vs vs' h2 _ l2 rh2 rvs q2=>⟨ρ2,h2,n,a,vs,rfl,l2.get en,rh2,rvs,q2.zero⟩
  | _=>exact q1.elim
 | _=>exact q1.elim
def me_bm(slot:Slot "list" name id)(hty:typeOf (.builtin id)=pure (.type "method_descriptor"))(hm:MtR X id (mtJ X f))(ho:ME X o m)(ha:MA X (e::es) ma)
  (hbase:attributeBase o name X.env (eval o X.env)=eval o X.env:=by rfl)
  (hfew:((backTo cpos (starEach (e::es) X.env)).all (fun x=>!x.1) && (backToKw cpos (keywordEach [] X.env)).all (fun x=>x.1.isSome)
   && decide ((e::es).length+([]:List Keyword).length+(if ([]:List Keyword).isEmpty then 0 else 1)<30))=true:=by rfl)
  (hline:(apos.endLine == cpos.line)=true:=by rfl) (hs:starEach (e::es) X.env=(false,eval e X.env)::starEach es X.env:=by rfl) (hplain:(backTo cpos (starEach es X.env)).any (·.1)=false:=by rfl) :
  ME X (.Call (.Attribute o name apos) (e::es) [] cpos) (mMt f m ma) :=
 PE.imp (pe_bm PySem.F.plainAttrs_list slot hty hm ho ha hbase hfew hline hs hplain) fun σ H Q q=>tM_mt (fun _ _ _ z=>z) q
@[simp] theorem mMt_ap:mMt f m ma σ h=(m σ h).bind fun o h1=>match o with
 | .loc n=>(match h1[n]? with
  | some (.lst _)=>(ma σ h1).bind fun vs h2=>(f n vs h2).ne
  | _=>.bad)
 | _=>.bad:=rfl
end
end MM
namespace MM
open PySem PySem.Spec PyProof.Rows L2
def qN(hs:PyData.strOk sep=true):∀{ts:List Str},(∀t∈ts,PyData.strOk t=true)->PyData.strOk (Str.join sep ts)=true
 | [],_=>by simp[Str.join,PyData.strOk,Str.empty]
 | [x],h=>h x (by simp)
 | x::y::r,h=>by
  show PyData.strOk (x++sep++Str.join sep (y::r))=true;exact cT (cT (h x (by simp)) hs) (qN hs fun t ht=>h t (qab _ ht))
def dH:∀{ts:List Str},(∀t∈ts,t.length<=L)->(Str.join ", " ts).length<=(L+2) * ts.length
 | [],_=>qaO _
 | [x],h=>by have:=h x (by simp);show x.length<=_;simp;lia
 | x::y::r,h=>by
  show (x++(", ":Str)++Str.join ", " (y::r)).length<=_
  have:=h x (by simp)
  have ih:=dH (ts:=y::r) fun t ht=>h t (qab _ ht);have e2:(", ":Str).length=2:=by decide
  rw[Str.length_append,Str.length_append,e2]
  have:(L+2) * (x::y::r).length=(L+2)+(L+2) * (y::r).length:=by rw[qaq,Nat.mul_succ];lia
  lia
structure Sh (L:Nat) (d:PyData):Prop where
 able:d.showable=true
 ok:PyData.strOk d.shown=true
 len:d.shown.length<=L
def Sh.mono(s:Sh L d)(h:L<=M):Sh M d:=⟨s.able,s.ok,qav s.len h⟩
def oP:∀{ds:List PyData},(∀d∈ds,Sh L d)->PyData.showableAll ds=true/\(∀t∈PyData.shownAll ds,PyData.strOk t=true/\t.length<=L)/\(PyData.shownAll ds).length=ds.length
 | [],_=>⟨rfl,(fun t h=>nomatch h),rfl⟩
 | d::ds,h=>by
  obtain⟨a,b,c⟩:=oP (ds:=ds) fun x hx=>h x (qab _ hx);have hd:=h d (by simp);refine⟨by simp only[PyData.showableAll,a,hd.able,Bool.and_self],fun t ht=>?_,by simp only[PyData.shownAll,qaq,c]⟩;simp only[PyData.shownAll,qag] at ht;rcases ht with rfl|ht
  ·exact⟨hd.ok,hd.len⟩
  ·exact b t ht
def qf:∀{ts:List Str} {k:Nat} {acc:Str},PyData.strOk acc=true->(∀t∈ts,PyData.strOk t=true)->PyData.strOk (textFrom k acc ts)=true
 | [],k,acc,ha,_=>ha
 | t::r,k,acc,ha,h=>by
  show PyData.strOk (textFrom (k+1) _ r)=true;refine qf (cT ?_ (h t (by simp))) fun t ht=>h t (qab _ ht);exact cT ha (dB _)
def nZ:∀{ts:List Str} {k:Nat} {acc:Str},(∀t∈ts,t.length<=L)->(textFrom k acc ts).length<=acc.length+(L+2) * ts.length
 | [],k,acc,_=>by show acc.length<=_;simp
 | t::r,k,acc,h=>by
  have e2:(", ":Str).length=2:=by decide
  have ht:=h t (by simp);have ih:∀b:Str,(textFrom (k+1) b r).length<=b.length+(L+2) * r.length:=fun b=>nZ fun t ht=>h t (qab _ ht);show (textFrom (k+1) _ r).length<=_;refine qav (ih _) ?_;rw[Str.length_append,qaq,Nat.mul_succ];split
  ·rw[Str.length_append,e2];lia
  ·have e0:("":Str).length=0:=by decide
   rw[Str.length_append,e0];lia
def sh_list(h:∀d∈ds,Sh L d):Sh ((L+2) * ds.length+2) (.list ds):=by
 obtain⟨a,b,c⟩:=oP h;have e1:("[":Str).length=1:=by decide
 have e2:("]":Str).length=1:=by decide
 refine⟨by simp only[PyData.showable,a],?_,?_⟩
 ·simp only[PyData.shown,listText];exact cT (qf (dB _) fun t ht=>(b t ht).1) (dB _)
 ·simp only[PyData.shown,listText]
  have:=nZ (k:=0) (acc:="[") fun t ht=>(b t ht).2
  rw[c,e1] at this;rw[Str.length_append,e2];lia
def vg(h:∀d∈ds,Sh L d):Sh ((L+2) * ds.length+3) (.tuple ds):=by
 obtain⟨a,b,c⟩:=oP h;have e1:("(":Str).length=1:=by decide
 have e2:∀z:Bool,(Str.ofString (if z=true then ",)" else ")")).length<=2:=by decide
 refine⟨by simp only[PyData.showable,a],?_,?_⟩
 ·simp only[PyData.shown,tupleText];exact cT (cT (dB _) (qN (dB _) fun t ht=>(b t ht).1)) (dB _)
 ·simp only[PyData.shown,tupleText]
  have:=dH fun t ht=>(b t ht).2
  rw[c] at this;rw[Str.length_append,Str.length_append,e1]
  have:=e2 ((PyData.shownAll ds).length == 1)
  lia
def sh_int(h:i.natAbs.log2<1920):Sh 2000 (.int i):=by
 have l1:=PySem.int_text_length_le (by decide) h;have e1:(Str.ofString (toString i)).length=(toString i).length:=by rw[Str.ofString_eq_toList];simp only[Str.length,qak,qaS];exact String.length_toList
 exact⟨by simpa [PyData.showable] using h,dB _,by show (Str.ofString (toString i)).length<=2000;lia⟩
end MM
namespace MM
open PySem PySem.Spec PyProof.Rows L2
local instance (priority:=1) cdec20 (p:Prop):Decidable p:=Classical.propDecidable p
def ca(h:MH):PV->Option (List PV)
 | .tup xs=>some xs
 | .frl xs=>some xs
 | .loc n=>(match h[n]? with
  | some (.lst xs)=>some xs
  | _=>none)
 | _=>none
section
variable {X:Cx} {N W G:List Str} {k:Nat}
def jq(rh:RH X.K X.mg ρ H h)(rx:RP X.K ρ H x x')(e:ca h x=some xs):∃a ys,x'=.ref a/\(SqL X.K H a ys\/SqT X.K H a ys)/\RPs X.K ρ H xs ys:=by
 cases rx with
 | tup s r=>cases e;exact⟨_,_,rfl,.inr s,r⟩
 | frl s r=>cases e;exact⟨_,_,rfl,.inl s.sq,r⟩
 | @loc n a en =>
  obtain⟨o,eo,ro⟩:=rh.obj en;simp only[ca,eo] at e
  cases o with
  | lst ys =>
   cases e;obtain⟨zs,ez,rz⟩:=ro;exact⟨a,zs,rfl,.inl (SqL.of ez),rz⟩
  | _=>cases e
 | _=>cases e
def lu(f g:PV->PV->MH->Out PV)(a b c:Mx PV):Mx PV:=fun σ h=>(a σ h).bind fun x h1=>(b σ h1).bind fun y h2=>(f x y h2).ne.bind fun z h3=>match z with
 | .bl t=>if t=true then (c σ h3).bind fun w h4=>(g y w h4).ne else .ok (.bl false) h3
 | _=>.bad
variable {a b c:Expr} {ma mb mc:Mx PV} {f g':PV→PV→MH→Out PV} {op op':CmpOp} {pos:Pos}
def vz{σ:L2.St}{H:Hp}{Q:VK}(q:tM X (RV' X) (lu f g' ma mb mc) σ H Q):t8 (rJ X f) (rJ X g') (tM X (RV' X) ma) (tM X (RV' X) mb) (tM X (RV' X) mc) σ H Q:=by
 obtain⟨ρ,σp,h,rs,rh,q⟩:=q;refine⟨ρ,σp,h,rs,rh,Ful.bind q fun ρ1 H1 x x' h1 _ l1 rh1 rx q1=>?_⟩;refine⟨ρ1,σp,h1,rs.le l1,rh1,Ful.bind q1 fun ρ2 H2 y y' h2 _ l2 rh2 ry q2=>?_⟩;refine⟨ρ2,h2,x,y,rh2,rx.le l2,ry,?_⟩;have key:Ful X (RV' X) σp ρ2 H2 (f x y h2).ne (fun z H3=>∃k,z=.bl k/\(if k=true then tM X (RV' X) mc σ H3 fun w' H4=>rJ X g' y' w' H4 Q else Q (.bl false) H3)):=Ful.bind q2 fun ρ3 H3 z z' h3 _ l3 rh3 rz q3=>by
  cases rz with
  | bl t =>
   refine⟨t,rfl,?_⟩
   cases t with
   | true =>
    exact⟨ρ3,σp,h3,rs.le (l1.trans (l2.trans l3)),rh3,Ful.bind q3 fun ρ4 H4 w w' h4 _ l4 rh4 rw' q4=>⟨ρ4,h4,y,w,rh4,(ry.le l3).le l4,rw',q4.zero⟩⟩
   | false =>
    exact q3 ρ3 H3 _ (Le.refl _ _) rh3 (.bl _)
  | _=>exact q3.elim
 exact key.zero
def vy(ho:OpJ X (compareOp op) f)(ho':OpJ X (compareOp op') g')(ha:ME X a ma)(hb:ME X b mb)(hc:ME X c mc)(hm:lastMarks [op,op'] [b,c]=false:=by with_unfolding_all rfl):ME X (.Compare a [op,op'] [b,c] pos) (lu f g' ma mb mc) :=
 PE.imp (u3 ho ho' ha hb hc hm) fun _ _ _ q=>vz q
@[simp] theorem mChain_ap:lu f g' ma mb mc σ h=(ma σ h).bind fun x h1=>(mb σ h1).bind fun y h2=>(f x y h2).ne.bind fun z h3=>match z with
 | .bl t=>if t=true then (mc σ h3).bind fun w h4=>(g' y w h4).ne else .ok (.bl false) h3
 | _=>.bad:=rfl
def fList(xs:List PV)(h:MH):Out PV:=match xs with
 | [x]=>(match ca h x with
  | some ys=>newL ys h
  | none=>.bad)
 | _=>.bad
def fTuple(xs:List PV)(h:MH):Out PV:=match xs with
 | [x]=>(match ca h x with
  | some ys=>.ok (.tup ys) h
  | none=>.bad)
 | _=>.bad
def cj_list:bX X (.type "list") fList:=by
 intro FA s σ H xs us Q I r ⟨ρ,h,ps,rh,rp,q⟩
 cases rp with
 | nil=>exact q.elim
 | cons r1 t1 =>
  cases t1 with
  | cons _ _=>exact q.elim
  | nil =>
   rename_i x y
   unfold fList at q
   cases es:ca h x with
   | none=>simp only[es] at q;exact q.elim
   | some ys =>
    simp only[es] at q;obtain⟨a,zs,rfl,hsq,rzs⟩:=jq rh r1 es;obtain⟨_,q'⟩:=jy rh rzs q;exact oZ FA s σ H _ us Q I r ⟨a,zs,rfl,hsq,q'⟩
def uI:bX X (.type "tuple") fTuple:=by
 intro FA s σ H xs us Q I r ⟨ρ,h,ps,rh,rp,q⟩
 cases rp with
 | nil=>exact q.elim
 | cons r1 t1 =>
  cases t1 with
  | cons _ _=>exact q.elim
  | nil =>
   rename_i x y
   unfold fTuple at q
   cases es:ca h x with
   | none=>simp only[es] at q;exact q.elim
   | some ys =>
    simp only[es] at q;obtain⟨a,zs,rfl,hsq,rzs⟩:=jq rh r1 es;rcases hsq with hq|hq
    ·refine iQ FA s σ H _ us Q I r ⟨a,zs,rfl,.inl ⟨hq,fun l hl=>?_⟩⟩;obtain⟨r',l'⟩:=rh.tup hl zs;exact q ρ _ _ l' r' (.tup (SqT.of bR) (rzs.le l'))
    ·exact iQ FA s σ H _ us Q I r ⟨a,zs,rfl,.inr ⟨hq,q ρ H _ (Le.refl _ _) rh (.tup hq rzs)⟩⟩
def eO(xs:List PV)(lo hi:Option Int):List PV:=(xs.drop (HT.sIx xs.length 0 lo)).take (HT.sIx xs.length xs.length hi - HT.sIx xs.length 0 lo)
def fSl(x:PV)(lo hi:Option Int)(h:MH):Out PV:=match x with
 | .tup xs=>if HT.sIx xs.length 0 lo=0/\HT.sIx xs.length xs.length hi=xs.length then .bad else .ok (.tup (eO xs lo hi)) h
 | .frl xs=>.ok (.loc h.length) (h++[.lst (eO xs lo hi)])
 | .loc n=>(match h[n]? with
  | some (.lst xs)=>.ok (.loc h.length) (h++[.lst (eO xs lo hi)])
  | _=>.bad)
 | _=>.bad
def slJ(X:Cx)(f:PV->Option Int->Option Int->MH->Out PV):V->Option Int->Option Int->Hp->VK->Prop:=fun x' lo hi H Q=>∃ρ h x,RH X.K X.mg ρ H h/\RP X.K ρ H x x'/\fo X (RV' X) ρ H (f x lo hi h) Q
def lw{K:qaa}{ρ:List Addr}{H:Hp}{xs:List PV}{ys:List V}(r:RPs K ρ H xs ys)(lo hi:Option Int):RPs K ρ H (eO xs lo hi) (kj ys lo hi):=by
 unfold eO kj;rw[r.length];exact (r.drop _).take _
def sj_sl:SlR X (slJ X fSl):=by
 intro FA s σ H x' v vl vu lo hi sl Q I rx hs pl pu ⟨ρ,h,x,rh,rxx,q⟩
 cases rxx with
 | tup s1 r1 =>
  unfold fSl at q;dsimp only at q
  rename_i xs a ys
  by_cases z:HT.sIx xs.length 0 lo=0/\HT.sIx xs.length xs.length hi=xs.length
  ·rw[qae z] at q;exact q.elim
  ·rw[qat z] at q;refine sl_tup FA s σ H _ v vl vu lo hi sl Q I rx hs pl pu ⟨a,ys,rfl,s1,by rw[<-r1.length];exact z,fun p hp=>?_⟩;obtain⟨r',l'⟩:=rh.tup hp (kj ys lo hi);exact q ρ _ _ l' r' (.tup (SqT.of bR) ((lw r1 lo hi).le l'))
 | frl s1 r1 =>
  rename_i xs a ys
  refine q0 FA s σ H _ v vl vu lo hi sl Q I rx hs pl pu ⟨a,ys,rfl,s1.sq,fun p hp=>?_⟩;obtain⟨r',l'⟩:=rh.new hp (o:=.lst (eO xs lo hi)) ⟨_,rfl,lw r1 lo hi⟩;exact q _ _ _ l' r' (.loc (by rw[<-rh.len];simp))
 | @loc n a en =>
  obtain⟨o,eo,ro⟩:=rh.obj en;unfold fSl at q;dsimp only at q;rw[eo] at q
  cases o with
  | lst xs =>
   obtain⟨ys,ey,ry⟩:=ro;refine q0 FA s σ H _ v vl vu lo hi sl Q I rx hs pl pu ⟨a,ys,rfl,SqL.of ey,fun p hp=>?_⟩;obtain⟨r',l'⟩:=rh.new hp (o:=.lst (eO xs lo hi)) ⟨_,rfl,lw ry lo hi⟩;exact q _ _ _ l' r' (.loc (by rw[<-rh.len];simp))
  | _=>exact q.elim
 | _=>exact q.elim
def MO'(X:Cx)(e:Option Expr)(m:Mx (Option Int)):Prop:=PO X e (tM X REq m)
def mNo:Mx (Option Int):=fun _ h=>.ok none h
def mPt(m:Mx PV):Mx (Option Int):=fun σ h=>(m σ h).bind fun v h1=>match v with
 | .int i=>.ok (some i) h1
 | _=>.bad
def mo_none:MO' X none mNo:=fun FA s σ H Q I ⟨ρ,σp,h,rs,rh,q⟩=>po_none FA s σ H Q I (q ρ H none (Le.refl _ _) rh rfl)
def mo_some(h:ME X e m):MO' X (some e) (mPt m):=fun FA s σ H Q I ⟨ρ,σp,hh,rs,rh,q⟩=>po_some h FA s σ H Q I ⟨ρ,σp,hh,rs,rh,Ful.bind q fun ρ1 H1 v v' h1 _ l1 rh1 rv q1=>by
 cases rv with
 | int i=>exact⟨i,rfl,q1 ρ1 H1 (some i) (Le.refl _ _) rh1 rfl⟩
 | _=>exact q1.elim⟩
def mSl(m:Mx PV)(ml mh:Mx (Option Int)):Mx PV:=fun σ h=>(m σ h).bind fun x h1=>(ml σ h1).bind fun lo h2=>(mh σ h2).bind fun hi h3=>(fSl x lo hi h3).ne
def me_sl{e:Expr}{lo hi:Option Expr}{m:Mx PV}{ml mh:Mx (Option Int)}{p2:Pos}(he:ME X e m)(hl:MO' X lo ml)(hu:MO' X hi mh):ME X (.Subscript e (.Slice lo hi none p2) pos) (mSl m ml mh) :=
 PE.imp (nW sj_sl he hl hu) fun σ H Q ⟨ρ,σp,h,rs,rh,q⟩=>⟨ρ,σp,h,rs,rh,Ful.bind q fun ρ1 H1 x x' h1 _ l1 rh1 rx q1=>⟨ρ1,σp,h1,rs.le l1,rh1,Ful.bind q1 fun ρ2 H2 lo lo' h2 _ l2 rh2 el q2=>by
  subst el
  exact⟨ρ2,σp,h2,rs.le (l1.trans l2),rh2,Ful.bind q2 fun ρ3 H3 hi hi' h3 _ l3 rh3 eh q3=>by
   subst eh
   exact⟨ρ3,h3,x,rh3,(rx.le l2).le l3,q3.zero⟩⟩⟩⟩
end
section
variable {X:Cx} {N W G:List Str} {k:Nat}
def uw{A:Around}{E:Value->Shared->Prop}{FA:List (Addr × Obj)}{σ:L2.St}{H:Hp}{s:Shared}{a:Addr}{ys:List V}{Q:Value->Shared->Prop}(hh:A.handled=none)(I:Inv X FA σ H s)(hq:SqL X.K H a ys\/SqT X.K H a ys)
  (h:∀(its:List Value) (h2:Heap) (It:Addr) (St:Nat->Heap->Prop),aA ys its->Walks X.prog X.w A It [It,a] [It] its.toArray.size (fun i v=>its.toArray[i]?=some v) St->St 0 h2->(∀b∈[It,a],b<h2.objs.size)->(∀b o,s.heap.get? b=some o->h2.get? b=some o)->s.heap.objs.size=It->Q (.ref It) { s with heap:=h2}) :
  wpAny (model X.prog X.w) A (pyIter (.ref a)) Q E s:=by
 have sz:∀(o:Obj),a<s.heap.objs.size->∀b∈[s.heap.objs.size,a],b<(s.heap.push o).objs.size:=fun o hlt b hb=>by
  rw[qbe];rcases qag.mp hb with rfl|hb
  ·exact qbD _
  ·rcases qag.mp hb with rfl|hb
   ·exact Nat.lt_succ_of_lt hlt
   ·cases hb
 rcases hq with hq|hq
 ·obtain⟨its,rv,pl,_⟩:=I.list hq;have hl:=pl.isList;have hlt:a<s.heap.objs.size:=by obtain⟨_,e,_⟩:=hl;exact qam e
  exact wpAny_pyIter_list hl (h its _ _ _ rv (Walks.list hh _ a (qaH hlt) its.toArray) ⟨⟨_,qaw _ rfl,rfl,rfl⟩,hl.push _⟩ (sz _ hlt) (fun b o e=>qac _ e) rfl)
 ·obtain⟨its,rv,hl,_⟩:=I.tuple hq;have hlt:a<s.heap.objs.size:=by obtain⟨_,e,_⟩:=hl;exact qam e
  exact wpAny_pyIter_tuple hl (h its _ _ _ rv (Walks.tuple hh _ a (qaH hlt) its.toArray) ⟨⟨_,qaw _ rfl,rfl,rfl⟩,hl.push _⟩ (sz _ hlt) (fun b o e=>qac _ e) rfl)
def kept2{s:Shared}{h2 h':Heap}{It:Addr}(k1:∀b o,s.heap.get? b=some o->h2.get? b=some o)(e:s.heap.objs.size=It)(k2:∀b o,b∉[It]->h2.get? b=some o->h'.get? b=some o):∀b o,s.heap.get? b=some o->h'.get? b=some o:=fun b o q=>by
 refine k2 b o (fun hm=>?_) (k1 b o q)
 have:b=It:=by simpa using hm
 exact absurd (qam q) (by rw[this,e];exact qaI _)
def kh:List PV->Option (List Bool)
 | []=>some []
 | .bl b::r=>(kh r).map (b::·)
 | _=>none
def bls_rel{K:qaa}{ρ:List Addr}{H:Hp}:∀{xs:List PV} {ys:List V} {bs:List Bool} {us:List Value},RPs K ρ H xs ys->aA ys us->kh xs=some bs->us=bs.map Value.bool:=by
 intro xs
 induction xs with
 | nil=>intro ys bs us r v e;cases r;cases v;cases e;rfl
 | cons x xs ih =>
  intro ys bs us r v e
  cases r with
  | cons r1 r2 =>
   cases v with
   | cons v1 v2 =>
    cases r1 with
    | bl b =>
     simp only[kh,qap] at e;obtain⟨bs',e',rfl⟩:=e;rw[ih r2 v2 e',show _=Value.bool b from v1];rfl
    | _=>cases e
def pP(bs:List Bool):TruthOf X.prog X.w A (fun i v=>(bs.map Value.bool).toArray[i]?=some v) (fun i=>bs.getD i false):=fun i v s Q E hP hQ=>by
 have:v=.bool (bs.getD i false):=by
  have hP:(List.map Value.bool bs).toArray[i]?=some v:=hP;rw[List.getElem?_toArray,qaD,qap] at hP;obtain⟨b,e,rfl⟩:=hP
  simp_all
 subst this;exact wpAny_truthy_bool hQ
def tV(bs:List Bool):(List.range bs.length).all (fun i=>bs.getD i false)=bs.all id:=by
 induction bs with
 | nil=>rfl
 | cons b r ih =>
  rw[qaq,qbI,List.all_cons,List.all_map,List.all_cons,<-ih];rfl
def fAll(xs:List PV)(h:MH):Out PV:=match xs with
 | [x]=>(match (ca h x).bind kh with
  | some bs=>.ok (.bl (bs.all id)) h
  | none=>.bad)
 | _=>.bad
def cj_all(g:Good X N W G k):bX X (.builtin "all") fAll:=by
 intro FA s σ H xs us Q I r ⟨ρ,h,ps,rh,rp,q⟩
 cases rp with
 | nil=>exact q.elim
 | cons r1 t1 =>
  cases t1 with
  | cons _ _=>exact q.elim
  | nil =>
   rename_i x y
   unfold fAll at q
   cases es:(ca h x).bind kh with
   | none=>simp only[es] at q;exact q.elim
   | some bs =>
    simp only[es] at q;obtain⟨ys,e1,e2⟩:=qaT.mp es;obtain⟨a,zs,rfl,hsq,rzs⟩:=jq rh r1 e1
    cases r with
    | cons ru tu =>
     cases tu;cases ru;refine call_all_walk (uw g.room.hd I hsq fun its h2 It St rv Wk st fp kp esz=>?_);have ei:=bls_rel rzs rv e2;refine⟨It,_,_,_,_,St,_,rfl,Wk,st,by rw[ei];exact pP bs,fun h' tk kk=>?_⟩;have el:its.toArray.size=bs.length:=by rw[ei];simp
     rw[el,tV];exact⟨.bl _,H,I.kept (kept2 kp esz kk),rfl,q ρ H _ (Le.refl _ _) rh (.bl _)⟩
end
def RH.loose{K:qaa}{mg:MGl}{ρ:List Addr}{H:Hp}{h:MH}(r:RH K mg ρ H h){p:Addr}(hp:H p=none)(ho:HO):RH K mg ρ (upd H p ho) h/\Le ρ H ρ (upd H p ho):=by
 have hne:∀n a,ρ[n]?=some a->a≠p:=fun n a e z=>by
  obtain⟨o',_,q⟩:=r.obj e;rw[z,hp] at q;exact q.some rfl
 have l:Le ρ H ρ (upd H p ho):=⟨⟨[],by simp⟩,fun a xs e=>by rw[aT (bo e hp)];exact e,fun a ob u e=>by rw[aT (bo e hp)];exact e⟩;exact⟨⟨r.len,r.nd,fun n a o e1 e2=>by rw[aT (hne n a e1)];exact (r.at' n a o e1 e2).le l⟩,l⟩
section
variable {X:Cx} {N W G:List Str} {k:Nat}
def me_glI(g:Good X N W G k){x:Str}{j:Nat}{i:Int}{pos:Pos}(hj:G[j]?=some x)(hm:∃t,X.mg x=some (.int i t)):ME X (.Name x pos) (mC (.int i)):=by
 obtain⟨t,hm⟩:=hm;have d:=g.dbg x (qal _ (aR hj));exact PE.imp (lE (v:=.int i) (g.gl x (aR hj)) hm ⟨t,rfl⟩ d.1) fun σ H Q ⟨ρ,σp,h,rs,rh,q⟩=>q ρ H _ (Le.refl _ _) rh (.int _)
def me_glS(g:Good X N W G k){x:Str}{j:Nat}{i:Str}{pos:Pos}(hj:G[j]?=some x)(hm:∃t,X.mg x=some (.str i t)):ME X (.Name x pos) (mC (.str i)):=by
 obtain⟨t,hm⟩:=hm;have d:=g.dbg x (qal _ (aR hj));exact PE.imp (lE (v:=.str i) (g.gl x (aR hj)) hm ⟨t,rfl⟩ d.1) fun σ H Q ⟨ρ,σp,h,rs,rh,q⟩=>q ρ H _ (Le.refl _ _) rh (.str _)
end
end MM
namespace SetT
open PySem PySem.SetTable
def base(M:Nat)(h:Int):Nat->Nat × Nat
 | 0=>(bits h % (M+1),bits h)
 | b+1=>leap M (base M h b).1 (base M h b).2
end SetT
namespace SortT
open PySem PyProof.Rows
end SortT
namespace SortT
open PySem PyProof.Rows SetT PySem.W
section
variable {prog:Program} {w:World} {A:Around} {E:Value→Shared→Prop} {s:Shared}
def li(ho:h.get? a=some (seqObj "list" vs.toArray n))(out:Array Value):∃c,(sortedHeap h a vs out).get? a=some (seqObj "list" out c):=by
 obtain⟨e1,ho1⟩:∃e1,(h.update a (Obj.mapSeq fun _=>(#[]:Array Value))).get? a=some (seqObj "list" #[] e1):=⟨_,get?_update_seq ho fun _=>#[]⟩;exact⟨_,get?_update_seq (qac _ (qac _ ho1)) fun _=>out⟩
def j9(hb:b≠a)(ho:h.get? b=some o)(out:Array Value):(sortedHeap h a vs out).get? b=some o:=by
 unfold sortedHeap;rw[qbg _ _ _ _ hb];exact qac _ (qac _ ((qbg _ _ _ _ hb).trans ho))
end
end SortT
namespace MM
open PySem PySem.Spec PyProof.Rows L2 SetT SortT
def vints{K:qaa}{ρ:List Addr}{H:Hp}:∀{k:List Int} {ys:List V},RPs K ρ H (k.map PV.int) ys->ys=k.map V.int
 | [],ys,h=>by cases h;rfl
 | i::k,ys,h=>by
  cases h with
  | cons r t =>
   cases r;rw[vints t];rfl
section
variable {X:Cx} {N W G:List Str} {k:Nat}
def fB(h:MH):PV->Option (List PV)
 | .frl xs=>some xs
 | .loc n=>(match h[n]? with
  | some (.lst xs)=>some xs
  | _=>none)
 | _=>none
def lst_rel{ρ:List Addr}{H:Hp}{h:MH}{x:PV}{y:V}{xs:List PV}{K:qaa}{mg:MGl}(rh:RH K mg ρ H h)(r:RP K ρ H x y)(e:fB h x=some xs):∃a zs,y=.ref a/\SqL K H a zs/\RPs K ρ H xs zs:=by
 cases r with
 | frl s r=>cases e;exact⟨_,_,rfl,s.sq,r⟩
 | @loc n a en =>
  obtain⟨o,eo,ro⟩:=rh.obj en;unfold fB at e;dsimp only at e;rw[eo] at e
  cases o with
  | lst zs =>
   cases e;obtain⟨ys,ey,ry⟩:=ro;exact⟨a,ys,rfl,SqL.of ey,ry⟩
  | _=>cases e
 | _=>cases e
end
end MM
namespace SeqT
open PySem
abbrev itN(tp:Bool):String:=if tp then "tuple_iterator" else "list_iterator"
abbrev sqN(tp:Bool):String:=if tp then "tuple" else "list"
def SqI(tp:Bool)(h:Heap)(it a:Addr)(i:Nat):Prop:=∃o,h.get? it=some o/\o.cls=.type (itN tp)/\o.data=.fields #[.ref a,.int i 0]
def SqO(tp:Bool)(h:Heap)(a:Addr)(xs:Array Value):Prop:=∃o,h.get? a=some o/\o.cls=.type (sqN tp)/\∃n,o.data=.seq xs n
def SqI.at'(x:SqI tp h it a i)(k:∀o,h.get? it=some o->h'.get? it=some o):SqI tp h' it a i:=let ⟨o,e,r⟩:=x;⟨o,k o e,r⟩
def SqO.at'(x:SqO tp h a xs)(k:∀o,h.get? a=some o->h'.get? a=some o):SqO tp h' a xs:=let ⟨o,e,r⟩:=x;⟨o,k o e,r⟩
def SqI.lt(x:SqI tp h it a i):it<h.objs.size:=let ⟨_,e,_⟩:=x;qam e
section
variable {prog:Program} {w:World} {A:Around} {E:Value→Shared→Prop} {s:Shared}
def ug(hi:SqI tp s.heap it a i)(ho:SqO tp s.heap a xs)(hx:xs[i]?=some x)
  (hQ:∀h',SqI tp h' it a (i+1)->Heap.SameBut it s.heap h'->Q x { s with heap:=h'}):wpAny (model prog w) A (Builtin.SmallTypes.nextOf (.ref it)) Q E s:=by
 cases tp with
 | false=>exact wpAny_nextOf_list_item (hi) (ho) hx hQ
 | true =>
  obtain⟨o,e,hc,hd⟩:=id hi;obtain⟨ol,hol,_,nl,hdl⟩:=ho;have hT:s.TypeIs (.ref it) "tuple_iterator":=⟨o,e,hc⟩;refine qad (wpAny_callSpecial?_slot hT F.slot_tuple_iterator_next (wpAny_call_entry F.slot_tuple_iterator_next hT F.entry_tuple_iterator_next ?_ (F.args_tuple_iterator_next_1 _)));show wpAny _ _ (field (.ref it) 0 >>= _) _ _ s;refine qad (wpAny_field e hd rfl ?_);refine qad (wpAny_field e hd rfl ?_);refine qad (wpAny_seqItems hol hdl ?_);simp only[qaR,hx];refine qad (wpAny_setField e hd (by simp) (qaz ⟨x,rfl,qaz (hQ _ ?_ (Heap.SameBut.update ..))⟩));exact⟨_,qbL _ e (Obj.isFreed_of_fields (Obj.data_mapFields hd _)),(Obj.cls_mapFields ..).trans hc,by rw[Obj.data_mapFields hd];simp[rawInt]⟩
def o9(hh:A.handled=none)(hi:SqI tp s.heap it a i)(ho:SqO tp s.heap a xs)(hx:xs[i]?=none)
  (hE:∀h' e,Heap.ExtBut it s.heap h'->(∃o,h'.get? e=some o/\o.cls=.type "StopIteration")->E (.ref e) { s with heap:=h'}):wpAny (model prog w) A (Builtin.SmallTypes.nextOf (.ref it)) Q E s:=by
 cases tp with
 | false=>exact wpAny_nextOf_list_end hh (hi) (ho) hx hE
 | true =>
  obtain⟨o,e,hc,hd⟩:=id hi;obtain⟨ol,hol,_,nl,hdl⟩:=ho;have hT:s.TypeIs (.ref it) "tuple_iterator":=⟨o,e,hc⟩;refine qad (wpAny_callSpecial?_slot hT F.slot_tuple_iterator_next (wpAny_call_entry F.slot_tuple_iterator_next hT F.entry_tuple_iterator_next ?_ (F.args_tuple_iterator_next_1 _)));show wpAny _ _ (field (.ref it) 0 >>= _) _ _ s;refine qad (wpAny_field e hd rfl ?_);refine qad (wpAny_field e hd rfl ?_);refine qad (wpAny_seqItems hol hdl ?_);simp only[qaR,hx];refine qad (wpAny_rule (qad (wpAny_setField e hd (by simp) ?_)));refine qad ?_;refine qad (m:=firstArgMember _ _) (wpAny_of_eq (by first | rfl | (simp only)) ?_);refine wpAny_newObj_type ?_ (by size_fits);refine qad (wpAny_handled ?_);rw[show A.in1.handled=none from hh];refine qad (qaz (wpAny_throw ?_));exact hE _ _ (((Heap.SameBut.update ..).extBut.push _).push _) ⟨_,qaw _ rfl,rfl⟩
def lH(ho:SqO tp s.heap a xs)
  (hQ:Q (.ref s.heap.objs.size) { s with heap:=s.heap.push { cls:=.type (itN tp),data:=.fields #[.ref a,.int 0 0]}}):wpAny (model prog w) A (pyIter (.ref a)) Q E s:=by
 cases tp with
 | false=>exact wpAny_pyIter_list (ho) hQ
 | true=>exact wpAny_pyIter_tuple (ho) hQ
end
def draws(hh:A.handled=none)(tp:Bool)(it a:Addr)(hne:a≠it)(xs:Array Value) :
  Draws prog w A it [it,a] xs.size (fun i v=>xs[i]?=some v) (fun i h=>SqI tp h it a i/\SqO tp h a xs) where
 live:=fun _ _ st=>let ⟨o,ho,_⟩:=st.1;⟨o,ho⟩
 frame:=fun _ _ _ st hk=>⟨st.1.at' fun o e=>hk it (by simp) o e,st.2.at' fun o e=>hk a (by simp) o e⟩
 item:=fun i s Q E hi st hQ=>by
  refine ug st.1 st.2 (x:=xs[i]) (by simp) fun h' hit' hs'=>?_;exact hQ _ h' s.toks (by simp) ⟨hit',st.2.at' fun o e=>(hs'.2 a hne).trans e⟩ hs'
 done:=fun s Q E st hE=>o9 hh st.1 st.2 (by simp) hE
def uT(tp:Bool)(a:Addr)(xs:Array Value)(n:Nat)(dct:Option Addr)(sl:Array (Option Value)) :
  Meets (Builtin.«enumerate.__new__» ⟨[.type "enumerate",.ref a],[]⟩) (fun _ R s=>s.heap.get? a=some { cls:=.type (sqN tp),dict:=dct,data:=.seq xs n,slots:=sl} /\
   R (.ok (.ret (.ref (s.heap.push { cls:=.type (itN tp),data:=.fields #[.ref a,.int 0 0]}).objs.size)))
    { s with heap:=(s.heap.push { cls:=.type (itN tp),data:=.fields #[.ref a,.int 0 0]}).push { cls:=.type "enumerate",data:=.fields #[.none,.bool false,.ref s.heap.objs.size,rawInt 0,.none,.none]}}) :=
 .of_wp fun prog w A R s h=>by
  obtain⟨hp,g,d,tk,os⟩:=s;obtain⟨hl,h⟩:=h;have hsub:=sub_enumerate;have hL:SqO tp (Shared.heap ⟨hp,g,d,tk,os⟩) a xs:=⟨_,hl,rfl,n,rfl⟩
  wp_walk using AutoSeq1.wpAny_loadPart' hl
  refine wpAny_stack_any fun st=>qaz ?_;split
  ·rename_i c _ _ _ _ _
   cases (c == Value.type "enumerate")
   ·wp_walk using AutoSeq1.wpAny_loadPart' hl,lH hL
    exact⟨_,rfl,h⟩
   ·wp_walk using AutoSeq1.wpAny_loadPart' hl,lH hL
    exact⟨_,rfl,h⟩
  ·wp_walk using AutoSeq1.wpAny_loadPart' hl,lH hL
   exact⟨_,rfl,h⟩
section
variable {prog:Program} {w:World} {A:Around} {E:Value→Shared→Prop} {s:Shared}
def tX(hL:SqO tp s.heap a xs)
  (h:∀h',IsEnum h' (s.heap.objs.size+1) s.heap.objs.size 0 .none->SqI tp h' s.heap.objs.size a 0->h'.objs.size=s.heap.objs.size+2 ->
   (∀b o,s.heap.get? b=some o->h'.get? b=some o)->Q (.ref (s.heap.objs.size+1)) { s with heap:=h'}) :
  wpAny (model prog w) A (call (.type "enumerate") [.ref a]) Q E s:=by
 obtain⟨⟨c,dct,dt,sl⟩,hl,hc,n,hd⟩:=hL;subst hc hd;refine callType_new F.called_enumerate (by decide) (F.typeCall_enumerate_1 _) (F.newCall_enumerate_1 _) (fun obj=>F.args_object_init_2 obj _) F.entry_enumerate_new (uT tp a xs n dct sl) ⟨hl,?_⟩;have hz:(s.heap.push { cls:=.type (itN tp),data:=.fields #[.ref a,.int 0 0]}).objs.size=s.heap.objs.size+1:=qbe ..;rw[hz]
 have he:IsEnum ((s.heap.push { cls:=.type (itN tp),data:=.fields #[.ref a,.int 0 0]}).push
   { cls:=.type "enumerate",data:=.fields #[.none,.bool false,.ref s.heap.objs.size,rawInt 0,.none,.none]}) (s.heap.objs.size+1) s.heap.objs.size 0 .none:=by
  have:=qaw (s.heap.push { cls:=.type (itN tp),data:=.fields #[.ref a,.int 0 0]})
   (o:={ cls:=.type "enumerate",data:=.fields #[.none,.bool false,.ref s.heap.objs.size,rawInt 0,.none,.none]}) rfl
  rw[hz] at this;exact this
 exact⟨⟨_,he,rfl⟩,h _ he ⟨_,qac _ (qaw _ rfl),rfl,rfl⟩ (by rw[qbe,hz]) fun b o x=>qac _ (qac _ x)⟩
end
end SeqT
namespace MM
open PySem PySem.Spec PyProof.Rows L2 SeqT
def SqB(tp:Bool)(K:qaa)(H:Hp)(a:Addr)(ys:List V):Prop:=match tp with
 | true=>SqT K H a ys
 | false=>SqL K H a ys
section
variable {X:Cx} {FA:List (Addr × Obj)} {σ:L2.St} {H:Hp} {s:Shared}
def oE(I:Inv X FA σ H s)(h:SqB tp X.K H a ys):∃its:List Value,aA ys its/\SqO tp s.heap a its.toArray/\ys.length<=sizeLine:=by
 cases tp with
 | true =>
  obtain⟨its,rv,pl,hz⟩:=I.tuple h;exact⟨its,rv,pl,hz⟩
 | false =>
  obtain⟨its,rv,pl,hz⟩:=I.list h;exact⟨its,rv,pl.isList,hz⟩
def inv_sqi(I:Inv X FA σ H s)(h:SqB tp X.K H a xs)(h':SqB tp X.K H a ys):xs=ys:=by
 cases tp with
 | true=>exact I.tuple_inj h h'
 | false=>exact I.list_inj h h'
def k9(I:Inv X FA σ H s){h':Heap}{t':Nat}{ch:List Addr}(hf:∀b∈ch,gN X FA H b)(k:∀b o,b∉ch->s.heap.get? b=some o->h'.get? b=some o) :
  Inv X FA σ H { s with heap:=h',toks:=t'}:=by
 have nit:∀b u,H b=some u->b∉ch:=fun b u e z=>by rw[(hf b z).1] at e;cases e
 refine I.step (g':=s.gens) (d':=s.drawn) (fun b hb=>?_) (fun b o _ _ hc e _=>k b o hc e) (fun b o _ _ hc e _=>⟨o.slots,k b o hc e⟩) (fun _ _ _ _ n=>n)
  (fun b o hc e=>⟨o,k b o hc e⟩) (fun _ _ e=>e) (fun _ _ _ e=>e) (fun b ps e=>⟨#[],by rw[e];simp⟩) (fun m hm=>?_) (fun b u e=>?_) I.bare
 ·obtain⟨f0,f1,f2,f3,f4,f5⟩:=hf b hb;exact⟨f3,f1,f4,f5⟩
 ·obtain⟨o,es,ep,ho,r⟩:=hm;exact⟨o,es,ep,k _ o (fun z=>(hf _ z).2.1 rfl) ho,r⟩
 ·refine (I.hok b u e).stay (fun c v hc q=>k c v ?_ q) (fun _ q=>q) fun _ _ q=>q;rcases hc with z|z
  ·rw[z];exact nit b u e
  ·exact nit c _ z
def inv_tup(I:Inv X FA σ H s){h':Heap}{t':Nat}{ch:List Addr}{ys:List V}{its:List Value}(hf:∀b∈ch,gN X FA H b)(rv:aA ys its)(hz:ys.length<=sizeLine)(hch:s.heap.objs.size∉ch)
  (ht:h'.get? s.heap.objs.size=some { cls:=.type "tuple",data:=.seq its.toArray}) (k:∀b o,b∉ch->s.heap.get? b=some o->h'.get? b=some o) :
  Inv X FA σ (upd H s.heap.objs.size (.tup ys)) { s with heap:=h',toks:=t'}/\(∀b∈ch,(upd H s.heap.objs.size (.tup ys)) b=none)/\H s.heap.objs.size=none:=by
 have hfr:=I.hok.fresh (qaj s.heap.objs.size);have hne:∀b∈ch,b≠s.heap.objs.size:=fun b hb z=>hch (by rw[<-z];exact hb);have I1:Inv X FA σ (upd H s.heap.objs.size (.tup ys)) { s with heap:=s.heap.push { cls:=.type "tuple",data:=.seq its.toArray},toks:=s.toks} :=
  I.laid (fun b u q=>qac _ q) (qaj _) ⟨hz,its,rv,_,qaw _ rfl,rfl,⟨_,rfl⟩,rfl⟩
 have hup:∀b∈ch,(upd H s.heap.objs.size (.tup ys)) b=none:=fun b hb=>by rw[aT (hne b hb)];exact (hf b hb).1
 refine⟨?_,hup,hfr⟩;refine k9 (t':=t') I1 (fun b hb=>⟨hup b hb,(hf b hb).2⟩) fun b o hb e=>?_;by_cases z:b=s.heap.objs.size
 ·have e':(s.heap.push { cls:=.type "tuple",data:=.seq its.toArray}).get? s.heap.objs.size=some { cls:=.type "tuple",data:=.seq its.toArray}:=qaw _ rfl
  grind
 ·have e':=e;rw[Heap.get?_push_ne _ _ _ z] at e';exact k b o hb e'
end
def Ite(K:qaa)(tp:Bool)(a:Addr):It :=
 ⟨fun i H=>∃ys y,SqB tp K H a ys/\ys[i]?=some y,fun i H x H'=>∃p y,H p=none/\x=.ref p/\H'=upd H p (.tup [.int i,y])/\∀ys,SqB tp K H a ys->ys[i]?=some y,fun i H=>∃ys,SqB tp K H a ys/\ys.length<=i⟩
def sO{P:Program}{w:World}{K:qaa}{elts:List Expr}{x1:Nat}{pos:Pos}(tp:Bool)(a e it:Addr)(hei:e≠it)(hae:a≠e)(hai:a≠it) :
  Turn P w K (.Tuple elts x1 pos) (Ite K tp a) [e,it] e (fun i h=>(∃old,IsEnum h e it i old)/\SqI tp h it a i) where
 mem:=by simp
 obj:=fun i h st b hb=>by
  obtain⟨⟨old,he⟩,hi⟩:=st
  have:b=e\/b=it:=by simpa using hb
  rcases this with rfl|rfl
  ·exact⟨_,he,fun v z=>nomatch z⟩
  ·obtain⟨o,ho,hc,hd⟩:=hi;exact⟨o,ho,fun v z=>by rw[hd] at z;cases z⟩
 keep:=fun i h h' st k=>let ⟨⟨old,he⟩,hi⟩:=st;⟨⟨old,k e (by simp) _ he⟩,hi.at' fun o q=>k it (by simp) o q⟩
 item:=by
  intro X hP hw hK hc i FA s σ H E I hf st hg;subst hP hw hK;obtain⟨⟨old,he⟩,hi⟩:=st;obtain⟨ys,y,hq,hy⟩:=hg;obtain⟨its,rv,so,hz⟩:=oE I hq;obtain⟨u,hu,ru⟩:=rv.get hy;have hlt:i<its.toArray.size:=by
   have:=(qaf.mp hu).1
   simpa using this
  have hin:(X.A.in1).handled=none:=by have:=I.ok.hd hc;simpa using this
  refine wpAny_pyNext_enum_itemD (draws hin tp it a hai its.toArray) he ⟨hi,so⟩ hlt hei (by simp[hei,Ne.symm hae]) fun x h1 tk hx ho1 st1 ht1 hz1 hk1=>⟨_,rfl,?_⟩;have hxu:x=u:=by
   have:its.toArray[i]?=some u:=by simpa using hu
   rw[this] at hx;exact (Option.some.inj hx).symm
  subst hxu;refine wpAny_letOwnedTupleGo_enum (s:={ s with heap:=h1,toks:=tk+1}) ho1 fun h2 he2 sb2=>?_;have hlte:e<s.heap.objs.size:=qam he;have hlti:it<s.heap.objs.size:=hi.lt;obtain⟨I2,hup,hfr⟩:=inv_tup (t':=tk+1) (h':=h2) I (ch:=[e,it]) (ys:=[.int i,y]) (its:=[.int i tk,x]) hf (.cons ⟨tk,rfl⟩ (.cons ru .nil)) (by rw[sizeLine_eq];show 2<=_;decide)
   (by simp only[qag,qaG,or_false,not_or];exact⟨qbm hlte,qbm hlti⟩)
   ((sb2.2 _ (qbm hlte)).trans ht1)
   (fun b o hb q=>by
    have h1':b≠e:=fun z=>hb (by simp[z]);have h2':b≠it:=fun z=>hb (by simp[z])
    exact (sb2.2 b h1').trans (hk1 b o h1' h2' q))
  refine⟨.ref s.heap.objs.size,_,I2,rfl,⟨_,y,hfr,rfl,rfl,fun zs hzs=>by rw[inv_sqi I hzs hq];exact hy⟩,⟨⟨x,by simpa using he2⟩,?_⟩,hup⟩;exact st1.1.at' fun o q=>(sb2.2 it (Ne.symm hei)).trans q
 done:=by
  intro X hP hw hK hc i FA s σ H E I hf st hg;subst hP hw hK;obtain⟨⟨old,he⟩,hi⟩:=st;obtain⟨ys,hq,hy⟩:=hg;obtain⟨its,rv,so,hz⟩:=oE I hq;have hin:(X.A.in1).handled=none:=by have:=I.ok.hd hc;simpa using this
  have hlen:=rv.length;have hT:s.TypeIs (.ref e) "enumerate":=⟨_,he,rfl⟩;unfold pyNext;refine qad (wpAny_attempt (wpAny_callSpecial?_slot (name:=Str.ofString "__next__") hT PySem.F.slot_enumerate_next (wpAny_call_entry PySem.F.slot_enumerate_next hT PySem.F.entry_enumerate_next ?_ (PySem.F.args_enumerate_next_1 _))));show wpAny _ _ (field (.ref e) 2 >>= _) _ _ _;refine qad (wpAny_field he rfl (x:=.ref it) rfl ?_);refine qad (o9 hin hi so (by simp;ext) fun h1 x he' hx'=>?_);obtain⟨o,ho,hcx⟩:=hx';refine qad (wpAny_isInstance (T:="StopIteration") (b:=true) ⟨o,ho,hcx⟩ isSubtype_stop ?_);refine qaz ⟨rfl,k9 (t':=s.toks) I hf fun b o hb q=>he' b o (fun z=>hb (by simp[z])) q⟩
 self:=fun A i s Q E st h=>let ⟨⟨old,he⟩,_⟩:=st;wpAny_pyIter_enum he h
def eU(v:PV)(h:MH):Option (Bool × List PV × List (Nat × List PV)):=match v with
 | .loc n=>(match h[n]? with
  | some (.lst xs)=>some (false,xs,[(n,xs)])
  | _=>none)
 | .frl xs=>some (false,xs,[])
 | .tup xs=>some (true,xs,[])
 | _=>none
def sq_rel{X:Cx}{ρ:List Addr}{H:Hp}{h:MH}{x:PV}{y:V}{tp:Bool}{xs:List PV}{gd:List (Nat × List PV)}(rh:RH X.K X.mg ρ H h)(r:RP X.K ρ H x y)(e:eU x h=some (tp,xs,gd)) :
  ∃a,y=.ref a/\(∃ys,SqB tp X.K H a ys)/\∀ρ' H' h',Le ρ H ρ' H'->RH X.K X.mg ρ' H' h'->(∀p∈gd,h'[p.1]?=some (.lst p.2))->∃ys,SqB tp X.K H' a ys/\RPs X.K ρ' H' xs ys:=by
 cases r with
 | frl s r=>cases e;exact⟨_,rfl,⟨_,s.sq⟩,fun ρ' H' h' l _ _=>⟨_,(l.sqf s).sq,r.le l⟩⟩
 | tup s r=>cases e;exact⟨_,rfl,⟨_,s⟩,fun ρ' H' h' l _ _=>⟨_,l.sqt s,r.le l⟩⟩
 | @loc n a en =>
  obtain⟨o,eo,ro⟩:=rh.obj en;unfold eU at e;dsimp only at e;rw[eo] at e
  cases o with
  | lst zs =>
   cases e;obtain⟨ys,ey,ry⟩:=ro;refine⟨a,rfl,⟨ys,SqL.of ey⟩,fun ρ' H' h' l rh' ok=>?_⟩;obtain⟨ys',ey',ry'⟩:=rh'.at' n a _ (l.get en) (ok (n,xs) (by simp));exact⟨ys',SqL.of ey',ry'⟩
  | _=>cases e
 | _=>cases e
def gG(xs:List PV):List PV:=xs.zipIdx.map fun p=>.tup [.int (p.2:Int),p.1]
def uq{xs:List PV}{i:Nat}{x:PV}(h:xs[i]?=some x):(gG xs)[i]?=some (.tup [.int (i:Int),x]):=by
 unfold gG;rw[qaD,qbp,h];simp
def mn(xs:List PV):(gG xs).length=xs.length:=by simp[gG]
def mItE(m:Mx (List PV)):Mx MIt:=fun σ h=>(m σ h).bind fun vs h1=>match vs with
 | [x]=>(match eU x h1 with
  | some (_,xs,gd)=>.ok ⟨gG xs,gd⟩ h1
  | none=>.bad)
 | _=>.bad
section
variable {X:Cx} {N W G:List Str} {k:Nat}
def mi_enum(g:Good X N W G k){elts:List Expr}{x1:Nat}{tp:Pos}{a:Expr}{m:Mx (List PV)}{p pos:Pos}{j:Nat}(hj:G[j]?=some "enumerate")(hm:X.mg "enumerate"=none)(ha:MA X [a] m)
  (hs:starEach [a] X.env=[(false,eval a X.env)]:=by rfl):MI X (.Tuple elts x1 tp) (.Call (.Name "enumerate" p) [a] [] pos) (mItE m):=by
 have d:=g.dbg _ (qal _ (aR hj));intro FA s σ H R I ⟨ρ,σp,h,rs,rh,q⟩;refine wpAny_Call_Name_kw (i8 I (g.gl _ (aR hj)) hm PyProof.Rows.Boot.«enumerate» ?_ d.2.2 d.1)
 refine PyProof.Rows.callWith_type1 (thn (ha pos FA s σ H (fun vs H1=>∃ρ1 h1 xs,Le ρ H ρ1 H1/\RH X.K X.mg ρ1 H1 h1/\RPs X.K ρ1 H1 xs vs/\Ful X (nN X) σp ρ1 H1 ((match xs with
   | [x]=>(match eU x h1 with | some (_,xs,gd)=>.ok ⟨gG xs,gd⟩ h1 | none=>.bad)
   | _=>.bad:Out MIt)) R) I ⟨ρ,σp,h,rs,rh,Ful.bind q fun ρ1 H1 v v' h1 _ l1 rh1 rv q1=>⟨ρ1,h1,v,l1,rh1,rv,q1⟩⟩) fun us s1 ⟨vs,H1,I1,r1,ρ1,h1,xs,l1,rh1,rv,q1⟩=>?_) hs rfl
 cases rv with
 | nil=>exact q1.elim
 | @cons y y' ys ys' ry t1 =>
  cases t1 with
  | cons _ _=>exact q1.elim
  | nil =>
   dsimp only at q1
   cases hsq:eU y h1 with
   | none=>rw[hsq] at q1;exact q1.elim
   | some z =>
    obtain⟨b,zs,gd⟩:=z;rw[hsq] at q1;obtain⟨ad,rfl,⟨ws,hws⟩,rel⟩:=sq_rel rh1 ry hsq;obtain⟨u,rfl,rx⟩:=dy r1;cases rx;obtain⟨its,rvv,so,hz⟩:=oE I1 hws;refine tX so fun h' he hi hsz hk=>?_;refine wpAny_pyIter_enum he ?_;have I2:Inv X FA σ H1 { s1 with heap:=h',toks:=s1.toks}:=I1.kept hk;obtain⟨oa,hoa,hca,_⟩:=id so;have hlt:ad<s1.heap.objs.size:=qam hoa;have hfr0:=I1.hok.fresh (qaj s1.heap.objs.size);have hfr1:=I1.hok.fresh (Nat.le_succ s1.heap.objs.size);refine⟨s1.heap.objs.size+1,_,_,_,H1,rfl,I2,sO b ad _ s1.heap.objs.size (qbm (qbD _)) (qaH (Nat.lt_succ_of_lt hlt)) (qaH hlt),⟨⟨_,he⟩,hi⟩,fun c hc=>?_,?_⟩
    ·have:c=s1.heap.objs.size+1\/c=s1.heap.objs.size:=by simpa using hc
     rcases this with rfl|rfl
     ·have F:=Inv.fpOk I1 (H':=H1) (b:=s1.heap.objs.size+1) (Nat.le_succ _) hfr1;exact F
     ·exact Inv.fpOk I1 (H':=H1) (qaj _) hfr0
    ·refine q1 ρ1 H1 _ (Le.refl _ _) rh1 ?_;intro ρ' H' h2 i l rh' ok;obtain⟨ws',hws',rws⟩:=rel ρ' H' h2 l rh' ok;refine⟨fun hi'=>?_,fun hi'=>⟨ws',hws',by rw[<-rws.length];rw[mn] at hi';exact hi'⟩⟩;rw[mn] at hi';have hx:zs[i]?=some (zs[i]'hi'):=qaA hi';obtain⟨w',ew,rw'⟩:=rws.get hx;refine⟨⟨ws',w',hws',ew⟩,fun x' H3 ⟨pp,y2,hp,e1,e2,hall⟩=>?_⟩;subst e1;subst e2;have ey:y2=w':=by
      have:=hall ws' hws'
      rw[ew] at this;exact (Option.some.inj this).symm
     subst ey;obtain⟨rh3,l3⟩:=rh'.tup hp [.int i,y2];exact⟨ρ',_,l3,rh3,uq hx,.tup (SqT.of bR) (.cons (.int _) (.cons (rw'.le l3) .nil))⟩
end
end MM
namespace MM
open PySem PySem.Spec PyProof.Rows L2 SetT SortT
def iG:List PV->Option (List Int)
 | []=>some []
 | .int i::r=>(iG r).map (i::·)
 | _=>none
def qg:∀{xs:List PV} {k:List Int},iG xs=some k->xs=k.map .int
 | [],k,h=>by cases h;rfl
 | x::r,k,h=>by
  cases x with
  | int i =>
   unfold iG at h
   cases hr:iG r with
   | none=>rw[hr] at h;cases h
   | some kr =>
    rw[hr] at h;cases h;rw[qg hr];rfl
  | _=>cases h
end MM
namespace MM
open PySem PySem.Spec PyProof.Rows L2
local instance (priority:=1) cdec26 (p:Prop):Decidable p:=Classical.propDecidable p
def qM(I:Nat->PSt->MH->Prop):∀(xs:List PV) (j:Nat) (σ:PSt) (h:MH),I j σ h->(∀j σ h,I j σ h->it.ok h) ->
  (∀m σ h x,I (j+m) σ h->xs[m]?=some x->∃σ1 h1 σ' h',g x σ h=.nx σ1 h1/\b σ1 h1=.nx σ' h'/\I (j+m+1) σ' h') ->
  ∃σ' h',mGo it g b xs σ h=.nx σ' h'/\I (j+xs.length) σ' h'
 | [],j,σ,h,hI,hok,_=>⟨σ,h,mGo_nil (hok _ _ _ hI),hI⟩
 | x::r,j,σ,h,hI,hok,st=>by
  obtain⟨σ1,h1,σ2,h2,e1,e2,I1⟩:=st 0 σ h x hI rfl;obtain⟨σ3,h3,e3,I3⟩:=qM I r (j+1) σ2 h2 I1 hok fun m σ' h' y q z=>by
   have:=st (m+1) σ' h' y (by rw[show j+(m+1)=j+1+m by lia];exact q) (by simpa using z)
   rw[show j+(m+1)+1=j+1+m+1 by lia] at this;exact this
  refine⟨σ3,h3,?_,by rw[qaq,show j+(r.length+1)=j+1+r.length by lia];exact I3⟩;rw[vt (hok _ _ _ hI) e1,e2];exact e3
end MM
namespace MM
open PySem PySem.Spec PyProof.Rows L2 SetT SortT
def itR1'(em:m σ h=.ok [.int j] h1)(z:-(2 ^ 62)<=j/\j<2 ^ 62):gq m σ h=.ok ⟨bw 0 j.toNat,[]⟩ h1:=by simp_all
def itR1(em:m σ h=.ok [.int (n:Int)] h1)(hn:n<=100000):gq m σ h=.ok ⟨bw 0 n,[]⟩ h1:=by
 have z1:-(2 ^ 62)<=(n:Int):=Int.le_trans (by decide) (Int.natCast_nonneg n);have z2:(n:Int)<2 ^ 62:=Int.lt_of_le_of_lt (Int.ofNat_le.mpr hn) (by decide)
 have:=itR1' em ⟨z1,z2⟩
 rwa [qaR] at this
def int_mk{K:qaa}{n:Str}{i:Int}{t:Nat}(e:PySem.W.nsIn K mainGlobals n=some (some (.int i t))):∃t,PySem.W.nsIn K mainGlobals n=some (some (.int i t)):=⟨t,e⟩
end MM
namespace MM
open PySem PySem.Spec PyProof.Rows L2
local instance (priority:=1) cdec28 (p:Prop):Decidable p:=Classical.propDecidable p
def ko(h:MH):PV->Option Bool
 | .non=>some false
 | .bl b=>some b
 | .int i=>some (i != 0)
 | .str _=>none
 | .tup xs=>some (!xs.isEmpty)
 | .frl xs=>some (!xs.isEmpty)
 | .loc n=>match h[n]? with
  | some (.lst xs)=>some (!xs.isEmpty)
  | _=>none
def mTr(m:Mx PV):Mx Bool:=fun σ h=>(m σ h).bind fun v h1=>match ko h1 v with
 | some b=>.ok b h1
 | none=>.bad
section
variable {X:Cx} {N W G:List Str} {k:Nat}
def jf{K:qaa}{ρ:List Addr}{H:Hp}{xs:List PV}{ys:List V}(r:RPs K ρ H xs ys):(!xs.isEmpty)=!ys.isEmpty:=by
 cases r <;> rfl
def mt_tru{e:Expr}{m:Mx PV}(h:ME X e m)(he:∀whole,isTrue e X.env whole=(do let v <-whole;standAt e.pos;holding [v] (truthy v)):=by intro _;rfl):MT X e (mTr m):=by
 refine PT.imp (vk h he) fun σ H Q ⟨ρ,σp,h,rs,rh,q⟩=>⟨ρ,σp,h,rs,rh,Ful.bind q fun ρ1 H1 x x' h1 _ l1 rh1 rx q1=>?_⟩
 cases rx with
 | non=>exact⟨false,rfl,q1 ρ1 H1 _ (Le.refl _ _) rh1 rfl⟩
 | bl b=>exact⟨b,rfl,q1 ρ1 H1 _ (Le.refl _ _) rh1 rfl⟩
 | int i=>exact⟨_,rfl,q1 ρ1 H1 _ (Le.refl _ _) rh1 rfl⟩
 | str i=>exact q1.elim
 | @tup xs a ys s r=>exact⟨_,.inr (.inl ⟨ys,s,rfl⟩),by rw[<-jf r];exact q1 ρ1 H1 _ (Le.refl _ _) rh1 rfl⟩
 | @frl xs a ys s r=>exact⟨_,.inl ⟨ys,s.sq,rfl⟩,by rw[<-jf r];exact q1 ρ1 H1 _ (Le.refl _ _) rh1 rfl⟩
 | @loc n a e =>
  obtain⟨o,eo,ro⟩:=rh1.obj e
  cases o with
  | lst xs =>
   obtain⟨ys,ey,ry⟩:=ro;simp only[ko,eo] at q1;exact⟨_,.inl ⟨ys,.inl (.inl ey),rfl⟩,by rw[<-jf ry];exact q1 ρ1 H1 _ (Le.refl _ _) rh1 rfl⟩
  | dic fz ks xs=>simp only[ko,eo] at q1;exact q1.elim
  | exc z=>simp only[ko,eo] at q1;exact q1.elim
end
end MM
namespace MM
open PySem PySem.Spec PyProof.Rows L2 PySem.W
local instance (priority:=1) cdec29 (p:Prop):Decidable p:=Classical.propDecidable p
end MM
namespace MM
open PySem PySem.Spec PyProof.Rows L2
section
variable {X:Cx}
def hW:List PV->Option (List Str)
 | []=>some []
 | .str x::r=>(hW r).map (x::·)
 | _=>none
def sH{K:qaa}{ρ:List Addr}{H:Hp}:∀{xs:List PV} {ys:List V} {us:List Value} {ts:List Str},RPs K ρ H xs ys->aA ys us->hW xs=some ts->∃l:List (Str × Tok),us=strValues l/\l.map (·.1)=ts:=by
 intro xs
 induction xs with
 | nil =>
  intro ys us ts r v e;cases r;cases v;cases e;exact⟨[],rfl,rfl⟩
 | cons x xs ih =>
  intro ys us ts r v e
  cases r with
  | cons r1 r2 =>
   cases v with
   | cons v1 v2 =>
    cases r1 with
    | str z =>
     unfold hW at e;rw[qap] at e;obtain⟨ts',e1,rfl⟩:=e;obtain⟨l,e2,e3⟩:=ih r2 v2 e1;obtain⟨t,rfl⟩:=v1;exact⟨(z,t)::l,by rw[e2];rfl,by rw[<-e3];rfl⟩
    | _=>cases e
def d4(z:Str)(xs:List PV)(h:MH):Out PV:=match xs with
 | [.loc n]=>(match h[n]? with
  | some (.lst ys)=>(match hW ys with
   | some ts=>if JoinOk z ts=true then .ok (.str (Txt.join z ts)) h else .bad
   | none=>.bad)
  | _=>.bad)
 | _=>.bad
def o6(z:Str)(xs:List PV)(h:MH):Out PV:=match xs with
 | [.int i]=>if PadOk i=true then .ok (.str (Txt.zfill z i)) h else .bad
 | _=>.bad
def mSm(f:Str->List PV->MH->Out PV)(m:Mx PV)(ma:Mx (List PV)):Mx PV:=fun σ h=>(m σ h).bind fun o h1=>match o with
 | .str x=>(ma σ h1).bind fun vs h2=>(f x vs h2).ne
 | _=>.bad
def smJ(X:Cx)(f:Str->List PV->MH->Out PV):V->List V->Hp->VK->Prop:=fun x' xs' H Q=>∃ρ h z xs,x'=.str z/\RH X.K X.mg ρ H h/\RPs X.K ρ H xs xs'/\fo X (RV' X) ρ H (f z xs h) Q
def lI:MtR X "str.join" (smJ X d4):=by
 intro FA s σ H x vs v us Q I rx rv ⟨ρ,h,z,ps,e,rh,rp,q⟩;subst e;obtain⟨t,rfl⟩:=rx
 cases rp with
 | nil=>exact q.elim
 | cons r1 t1 =>
  cases t1 with
  | cons _ _=>cases r1 <;> exact q.elim
  | nil =>
   cases r1 with
   | @loc n a en =>
    dsimp only[d4] at q;obtain⟨o,eo,ro⟩:=rh.obj en;rw[eo] at q
    cases o with
    | lst xs =>
     obtain⟨ys,ey,ry⟩:=ro;obtain⟨u,rfl,ru⟩:=rv.one;cases ru;obtain⟨_,its,n',r,hl,e⟩:=I.lstM ey;dsimp only at q
     cases es:hW xs with
     | none=>rw[es] at q;exact q.elim
     | some ts =>
      rw[es] at q;dsimp only at q
      split at q
      ·rename_i hj
       obtain⟨l,rfl,el⟩:=sH ry r es;exact SC.join ⟨_,e,rfl,_,rfl⟩ el hj fun t' k=>⟨.str _,H,I.tok k,⟨t',rfl⟩,q ρ H _ (Le.refl _ _) rh (.str _)⟩
      ·exact q.elim
    | _=>exact q.elim
   | _=>exact q.elim
def uE:MtR X "str.zfill" (smJ X o6):=by
 intro FA s σ H x vs v us Q I rx rv ⟨ρ,h,z,ps,e,rh,rp,q⟩;subst e;obtain⟨t,rfl⟩:=rx
 cases rp with
 | nil=>exact q.elim
 | cons r1 t1 =>
  cases t1 with
  | cons _ _=>cases r1 <;> exact q.elim
  | nil =>
   cases r1 with
   | int i =>
    obtain⟨u,rfl,ru⟩:=rv.one;obtain⟨t2,rfl⟩:=ru;dsimp only[o6] at q
    split at q
    ·rename_i hp
     exact SC.zfill hp fun t' k=>⟨.str _,H,I.tok k,⟨t',rfl⟩,q ρ H _ (Le.refl _ _) rh (.str _)⟩
    ·exact q.elim
   | _=>exact q.elim
variable {o e:Expr} {es:List Expr} {name:Str} {apos cpos:Pos} {id:String} {f:Str→List PV→MH→Out PV} {m:Mx PV} {ma:Mx (List PV)}
def sy(slot:Slot "str" name id)(hty:typeOf (.builtin id)=pure (.type "method_descriptor"))(hm:MtR X id (smJ X f))(ho:ME X o m)(ha:MA X (e::es) ma)
  (hbase:attributeBase o name X.env (eval o X.env)=eval o X.env:=by rfl)
  (hfew:((backTo cpos (starEach (e::es) X.env)).all (fun x=>!x.1) && (backToKw cpos (keywordEach [] X.env)).all (fun x=>x.1.isSome)
   && decide ((e::es).length+([]:List Keyword).length+(if ([]:List Keyword).isEmpty then 0 else 1)<30))=true:=by rfl)
  (hline:(apos.endLine == cpos.line)=true:=by rfl) (hs:starEach (e::es) X.env=(false,eval e X.env)::starEach es X.env:=by rfl) (hplain:(backTo cpos (starEach es X.env)).any (·.1)=false:=by rfl) :
  ME X (.Call (.Attribute o name apos) (e::es) [] cpos) (mSm f m ma) :=
 PE.imp (pe_bm PySem.F.plainAttrs_str slot hty hm ho ha hbase hfew hline hs hplain) fun σ H Q tm=>by
  obtain⟨ρ,σp,h,rs,rh,q⟩:=tm;refine⟨ρ,σp,h,rs,rh,?_⟩;refine Ful.bind q fun ρ1 H1 x x' h1 _ l1 rh1 rx q1=>?_
  cases rx with
  | str z =>
   refine⟨rfl,ρ1,σp,h1,rs.le l1,rh1,?_⟩;exact Ful.bind q1 fun ρ2 H2 vs vs' h2 _ l2 rh2 rvs q2=>⟨ρ2,h2,z,vs,rfl,rh2,rvs,q2.zero⟩
  | _=>exact q1.elim
@[simp] theorem mSm_ap:mSm f m ma σ h=(m σ h).bind fun o h1=>match o with
 | .str x=>(ma σ h1).bind fun vs h2=>(f x vs h2).ne
 | _=>.bad:=rfl
def fFs(c:Str)(v:PV)(h:MH):Out PV:=match v with
 | .int i=>if i.natAbs.log2<1920/\(Str.empty++(toString i:Str)).length<=sizeLine/\(Str.empty++(toString i:Str)++c).length<=sizeLine then .ok (.str (Str.empty++(toString i:Str)++c)) h else .bad
 | _=>.bad
def me_fs(he:ME X e m):ME X (.JoinedStr [.FormattedValue e (-1) none p1,.Constant (.str c) j p2] pos) (mUn (fFs c) m):=by
 intro FA s σ H Q I ⟨ρ,σp,h,rs,rh,q⟩;refine wpAny_JoinedStr ?_;refine wpAny_FormattedValue_plain ?_;refine thn (he FA s σ H (fun x H1=>∃i,x=.int i/\(i.natAbs.log2<1920/\(Str.empty++(toString i:Str)).length<=sizeLine/\(Str.empty++(toString i:Str)++c).length<=sizeLine)/\Q (.str (Str.empty++(toString i:Str)++c)) H1) I ⟨ρ,σp,h,rs,rh,?_⟩) fun v s1 ⟨x,H1,I1,r1,i,e1,z,q1⟩=>?_
 ·refine Ful.bind q fun ρ1 H1 v v' h1 _ l1 rh1 rv q1=>?_
  cases rv with
  | int i =>
   dsimp only[fFs] at q1
   split at q1
   ·rename_i z
    exact⟨i,rfl,z,q1 ρ1 H1 _ (Le.refl _ _) rh1 (.str _)⟩
   ·exact q1.elim
  | _=>exact q1.elim
 ·subst e1;obtain⟨t,rfl⟩:=r1;refine wpAny_formatField_int z.1 ⟨_,_,rfl,z.2.1,?_⟩;show wpAny _ _ (eval (.Constant (.str c) j p2) X.env) _ _ _;exact Calls.Constant_str ⟨_,_,rfl,z.2.2,z.2.2,.str _,H1,((I1.tok _).tok _).tok _,⟨_,rfl⟩,q1⟩
end
end MM
namespace DcT
open PySem PyProof.Rows
end DcT
namespace MM
open PySem PySem.Spec PyProof.Rows L2 DcT
local instance (priority:=1) cdec31 (p:Prop):Decidable p:=Classical.propDecidable p
section
variable {X:Cx} {N W G:List Str} {k:Nat}
local instance inhPV:Inhabited PV:=⟨.non⟩
def kI(K:qaa)(x:Str)(i j:Int):Prop:=∃(a:Addr) (t t':Tok) (n:Nat) (sl:Array (Option Value)),PySem.W.nsIn K mainGlobals x=some (some (.ref a))/\K.lookup a=some ⟨.type "tuple",none,.seq #[.int i t,.int j t'] n,sl⟩
def TupG(K:qaa)(mg:MGl)(x:Str)(i j:Int):Prop:=∃(a:Addr) (t t':Tok) (n:Nat) (sl:Array (Option Value)),mg x=some (.ref a)/\K.lookup a=some ⟨.type "tuple",none,.seq #[.int i t,.int j t'] n,sl⟩
def tupK_mk{K:qaa}{x:Str}{i j:Int}{a:Addr}{t t':Tok}{n:Nat}{sl:Array (Option Value)}(h:PySem.W.nsIn K mainGlobals x=some (some (.ref a)))(l:K.lookup a=some ⟨.type "tuple",none,.seq #[.int i t,.int j t'] n,sl⟩):kI K x i j:=⟨a,t,t',n,sl,h,l⟩
def kI.mg{K:qaa}{mg:MGl}{base:Heap}{x:Str}{i j:Int}(z:kI K x i j)(kin:K.In base)(ns:base.Ns mainGlobals mg):TupG K mg x i j:=by
 obtain⟨a,t,t',n,sl,h,l⟩:=z;exact⟨a,t,t',n,sl,PySem.W.mg_of kin ns h,l⟩
def me_glT(g:Good X N W G k){x:Str}{q:Nat}{i j:Int}{pos:Pos}(hj:G[q]?=some x)(hm:TupG X.K X.mg x i j):ME X (.Name x pos) (mC (.tup [.int i,.int j])):=by
 obtain⟨a,t,t',n,sl,hm,hl⟩:=hm;have d:=g.dbg x (qal _ (aR hj));exact PE.imp (lE (v:=.ref a) (g.gl x (aR hj)) hm rfl d.1) fun σ H Q ⟨ρ,σp,h,rs,rh,q⟩=>q ρ H _ (Le.refl _ _) rh (.tup (ys:=[.int i,.int j]) (.inr ⟨_,_,n,hl,rfl,⟨rfl,rfl⟩,by show 2<=sizeLine;decide,.cons ⟨t,rfl⟩ (.cons ⟨t',rfl⟩ .nil)⟩) (.cons (.int _) (.cons (.int _) .nil)))
end
end MM
namespace MM
open PySem PySem.Spec PyProof.Rows L2
local instance (priority:=1) cdec32 (p:Prop):Decidable p:=Classical.propDecidable p
def lsO(h:MH):PV->Option (List PV)
 | .frl xs=>some xs
 | .loc n=>(match h[n]? with
  | some (.lst xs)=>some xs
  | _=>none)
 | _=>none
def opEqL(x y:PV)(h:MH):Out PV:=match lsO h x,lsO h y with
 | some xs,some ys=>if xs.length≠ys.length then .ok (.bl false) h else opEq x y h
 | _,_=>opEq x y h
section
variable {X:Cx} {k:Nat}
def lsR{ρ:List Addr}{H:Hp}{h:MH}{x:PV}{x':V}{xs:List PV}(rh:RH X.K X.mg ρ H h)(rx:RP X.K ρ H x x')(e:lsO h x=some xs):∃a ys,x'=.ref a/\SqL X.K H a ys/\RPs X.K ρ H xs ys:=by
 cases rx with
 | frl s r=>cases e;exact⟨_,_,rfl,s.sq,r⟩
 | @loc n a en =>
  obtain⟨o,eo,ro⟩:=rh.obj en;simp only[lsO,eo] at e
  cases o with
  | lst ys =>
   cases e;obtain⟨zs,ez,rz⟩:=ro;exact⟨a,zs,rfl,SqL.of ez,rz⟩
  | _=>cases e
 | _=>cases e
def oj_eqL(hr:Room k X.A):OpJ X (compareOp .Eq) opEqL:=by
 intro FA s σ H x' y' u v Q I rx' ry' ⟨ρ,h,x,y,rh,rx,ry,q⟩;unfold opEqL at q
 split at q
 ·rename_i xs ys ex ey
  by_cases z:xs.length≠ys.length
  ·rw[qae z] at q;obtain⟨a,zs,rfl,hl,rz⟩:=lsR rh rx ex;obtain⟨b,ws,rfl,hb,rw'⟩:=lsR rh ry ey;cases rx';cases ry';obtain⟨its,r1,p1,_⟩:=I.list hl;obtain⟨its2,r2,p2,_⟩:=I.list hb;refine SeqAt.eq_list_lengthsAt p1.isList p2.isList ?_ (by have:=hr.units;lia) ⟨.bl _,H,I,rfl,q ρ H _ (Le.refl _ _) rh (.bl _)⟩;rw[qak,qak,<-r1.length,<-r2.length,<-rz.length,<-rw'.length];simpa using z
  ·rw[qat z] at q;exact iF hr FA s σ H x' y' u v Q I rx' ry' ⟨ρ,h,x,y,rh,rx,ry,q⟩
 ·exact iF hr FA s σ H x' y' u v Q I rx' ry' ⟨ρ,h,x,y,rh,rx,ry,q⟩
end
end MM
namespace MM
open PySem PySem.Spec PyProof.Rows L2 SetT SortT
local instance (priority:=1) cdec34 (p:Prop):Decidable p:=Classical.propDecidable p
def many(ns:List Int):Nat:=(firstMet (fun i=>ns.getD i 0) ns.length).length
def many_le(ns:List Int):many ns<=ns.length:=firstMet_length_le _ _
def IPh(prog:Program)(w:World)(S:Addr)(n:Nat)(h:Heap):Prop:=∃f,h.SetOf (intKind prog w) S f n
def rc{prog:Program}{w:World}{S:Addr}{n:Nat}{h1 h2:Heap}(p:IPh prog w S n h1)(k:∀o,h1.get? S=some o->h2.get? S=some o):IPh prog w S n h2:=by
 obtain⟨f,o,es,ep,t,p1,r⟩:=p;exact⟨f,o,es,ep,t,k o p1,r⟩
section
variable {X:Cx} {N W G:List Str} {k:Nat}
def tv(hh:X.calm=true):cP X (.type "set") (fun xs H Q=>∃l ns,xs=[.ref l]/\SqL X.K H l (ns.map V.int)/\ns.length<=1000/\∀S,H S=none->Q (.ref S) (upd H S (.ext (IPh X.prog X.w S (many ns))))):=by
 intro FA s σ H xs us Q I r ⟨l,ns,e,hq,hl,q⟩;subst e;obtain⟨u,rfl,rx⟩:=dy r;cases rx;obtain⟨its,rv,pl,hz⟩:=I.list hq;have hlen:its.length=ns.length:=by have:=rv.length;rw[qaS] at this;exact this.symm
 have ia:=rG rv;have hfr:=I.hok.fresh (qaj s.heap.objs.size);refine call_set_list (I.ok.hd hh) pl.isList ia (by rw[qak];unfold scanBound;ext) fun h' tk T x=>?_;have es':its.toArray.size=ns.length:=by rw[qak,hlen]
 rw[es'] at T;have sp:IPh X.prog X.w s.heap.objs.size (many ns) h':=⟨_,T⟩;obtain⟨f,o,es,ep,t,ho,rest⟩:=id sp;exact⟨.ref s.heap.objs.size,_,I.laid (o:=.ext (IPh X.prog X.w s.heap.objs.size (many ns))) (fun b o e=>x b o (qam e) e) (qaj _) ⟨sp,⟨o,ho⟩,fun h1 h2 a b=>rc a b⟩,rfl,q _ hfr⟩
def sG:cP X (.builtin "len") (fun xs H Q=>∃S n,xs=[.ref S]/\H S=some (.ext (IPh X.prog X.w S n))/\n<=1000/\Q (.int n) H):=by
 intro FA s σ H xs us Q I r ⟨S,n,e,hS,hn,q⟩;subst e;obtain⟨u,rfl,rx⟩:=dy r;cases rx;obtain⟨sp,_,_⟩:=(I.hok S _ hS);obtain⟨f,o,es,ep,t,p1,p2,p3,p4,p5,p6,p7,p8⟩:=sp;refine call_len_set p1 p2 p3 p7 (by ext) ?_;rw[p8];exact⟨.int n,H,I.kept fun b ob q=>q,⟨_,rfl⟩,q⟩
def mLS(m:Mx (List PV)):Mx PV:=fun σ h=>(m σ h).bind fun xs h1=>match xs with
 | [x]=>(match (fB h1 x).bind iG with
  | some ns=>if ns.length<=1000 then .ok (.int (many ns)) h1 else .bad
  | none=>.bad)
 | _=>.bad
def tE(g:Good X N W G k){a:Expr}{m:Mx (List PV)}{p p' pos pos':Pos}(i j:Nat)(hm:X.mg "len"=none)(hm':X.mg "set"=none)(ha:MA X [a] m)(hi:G[i]?=some "len":=by rfl)(hj:G[j]?=some "set":=by rfl)
  (hs:starEach [a] X.env=[(false,eval a X.env)]:=by rfl) (he:starEach [.Call (.Name "set" p') [a] [] pos'] X.env=[(false,eval (.Call (.Name "set" p') [a] [] pos') X.env)]:=by rfl) :
  ME X (.Call (.Name "len" p) [.Call (.Name "set" p') [a] [] pos'] [] pos) (mLS m):=by
 have d:=g.dbg _ (qal _ (aR hi));have d':=g.dbg _ (qal _ (aR hj));refine PE.imp (jV sG (g.gl _ (aR hi)) hm PyProof.Rows.Boot.«len» (jC (mJ (tv g.calm) (g.gl _ (aR hj)) hm' PyProof.Rows.Boot.«set» ha d'.2.2 d'.1 hs rfl) pE he) d.2.2 d.1 he rfl) fun σ H Q ⟨ρ,σp,h,rs,rh,q⟩=>?_;refine⟨ρ,σp,h,rs,rh,Ful.bind q fun ρ1 H1 x x' h1 ex l1 rh1 rx q1=>?_⟩
 cases rx with
 | nil=>exact q1.elim
 | @cons y y' _ _ r1 t1 =>
  cases t1 with
  | cons _ _=>exact q1.elim
  | nil =>
   dsimp only at q1
   cases hl:fB h1 y with
   | none=>rw[hl] at q1;exact q1.elim
   | some xs =>
    rw[hl] at q1
    cases hk:iG xs with
    | none=>simp only[qba,hk] at q1;exact q1.elim
    | some ns =>
     simp only[qba,hk] at q1;by_cases z:ns.length<=1000
     ·rw[qae z] at q1;obtain⟨la,zs,rfl,hsq,rzs⟩:=lst_rel rh1 r1 hl;rw[qg hk] at rzs;rw[vints rzs] at hsq;refine⟨la,ns,rfl,hsq,z,fun S hS=>?_⟩;obtain⟨rh2,l2⟩:=rh1.loose hS (.ext (IPh X.prog X.w S (many ns)));exact⟨S,many ns,rfl,bR,qav (many_le ns) z,q1 ρ1 _ _ l2 rh2 (.int _)⟩
     ·rw[qat z] at q1;exact q1.elim
end
end MM
namespace MM
open PySem PySem.Spec PyProof.Rows L2 DcT
local instance (priority:=1) cdec52 (p:Prop):Decidable p:=Classical.propDecidable p
section
variable {X:Cx} {N W G:List Str} {k:Nat}
local instance inhPV2:Inhabited PV:=⟨.non⟩
end
end MM
namespace PU
open PySem MM
def ys{α:Type}{a b:α}(h:a=b):a=b:=h
inductive D where
 | non | bl (b:Bool) | int (i:Int) | str (x:Str) | tup (xs:List D) | lst (xs:List D) | dic (fz:Bool) (ks:List Int) (ds:List D) | exc (c:Str) | pen
abbrev Pen:=Int × Int × Int
abbrev am:=List (Option D)
def bA(h:MH)(p:Nat)(s:Pen):Prop:=h[p]?=some (.lst [.int s.1,.int s.2.1,.int s.2.2])
inductive RcT (P:List PV->Prop) (v:PV):Prop
 | mk (xs:List PV) (e:v=.tup xs) (r:P xs):RcT P v
inductive RcL (h:MH) (O:List Nat) (P:List PV->Prop) (v:PV):Prop
 | mk (n:Nat) (xs:List PV) (e:v=.loc n) (no:n∉O) (g:h[n]?=some (.lst xs)) (r:P xs):RcL h O P v
inductive RcD (h:MH) (O:List Nat) (fz:Bool) (ks:List Int) (P:List PV->Prop) (v:PV):Prop
 | mk (n:Nat) (xs:List PV) (e:v=.loc n) (no:n∉O) (g:h[n]?=some (.dic fz ks xs)) (r:P xs):RcD h O fz ks P v
inductive RcO (h:MH) (O:List Nat) (o:MO) (v:PV):Prop
 | mk (n:Nat) (e:v=.loc n) (no:n∉O) (g:h[n]?=some o):RcO h O o v
inductive RcC (P:PV->Prop) (Q:List PV->Prop) (vs:List PV):Prop
 | mk (x:PV) (r:List PV) (e:vs=x::r) (a:P x) (b:Q r):RcC P Q vs
mutual
def Rp(p:Nat)(h:MH)(O:List Nat):D->PV->Prop
 | .non,v=>v=.non
 | .bl b,v=>v=.bl b
 | .int i,v=>v=.int i
 | .str x,v=>v=.str x
 | .tup ds,v=>RcT (Rps p h O ds) v
 | .lst ds,v=>RcL h O (Rps p h O ds) v
 | .dic fz ks ds,v=>RcD h O fz ks (Rps p h O ds) v
 | .exc c,v=>RcO h O (.exc ⟨c,[]⟩) v
 | .pen,v=>v=.loc p
def Rps(p:Nat)(h:MH)(O:List Nat):List D->List PV->Prop
 | [],vs=>vs=[]
 | d::ds,vs=>RcC (Rp p h O d) (Rps p h O ds) vs
end
def aW{h:MH}{n:Nat}{o:MO}(e:h[n]?=some o):n<h.length:=(qaf.mp e).1
structure Mv (O:List Nat) (h:MH) (O':List Nat) (h':MH):Prop where
 keep:∀n:Nat,n<h.length->n∉O->h'[n]?=h[n]?
 new:∀o∈O',o∈O\/h.length<=o
def Mv.get{O O':List Nat}{h h':MH}(s:Mv O h O' h'){n:Nat}{o:MO}(e:h[n]?=some o)(no:n∉O):n∉O'/\h'[n]?=some o:=by
 have hl:=aW e;refine⟨fun z=>?_,(s.keep n hl no).trans e⟩;rcases s.new n z with q|q
 ·exact no q
 ·lia
section
variable {p:Nat} {O O':List Nat} {h h':MH}
def Rp.mv(s:Mv O h O' h')(r:Rp p h O d v):Rp p h' O' d v:=by
 refine D.rec (motive_2:=fun ds=>∀vs,Rps p h O ds vs->Rps p h' O' ds vs)
  (fun _ r=>r) (fun _ _ r=>r) (fun _ _ r=>r) (fun _ _ r=>r) (fun ds i _ r=>?_) (fun ds i _ r=>?_) (fun _ _ ds i _ r=>?_) (fun _ _ r=>?_) (fun _ r=>r) (fun _ r=>r) (fun _ _ i j _ r=>?_) d v r
 ·obtain⟨xs,e,r⟩:=r;exact⟨xs,e,i _ r⟩
 ·obtain⟨n,xs,e,no,g,r⟩:=r;exact⟨n,xs,e,(s.get g no).1,(s.get g no).2,i _ r⟩
 ·obtain⟨n,xs,e,no,g,r⟩:=r;exact⟨n,xs,e,(s.get g no).1,(s.get g no).2,i _ r⟩
 ·obtain⟨n,e,no,g⟩:=r;exact⟨n,e,(s.get g no).1,(s.get g no).2⟩
 ·obtain⟨x,t,e,a,b⟩:=r;exact⟨x,t,e,i _ a,j _ b⟩
def Rps.mv(s:Mv O h O' h')(r:Rps p h O ds vs):Rps p h' O' ds vs:=by
 induction ds generalizing vs with
 | nil=>exact r
 | cons d ds ih=>obtain⟨x,t,e,a,b⟩:=r;exact⟨x,t,e,a.mv s,ih b⟩
def Rps.length(r:Rps p h O ds vs):vs.length=ds.length:=by
 induction ds generalizing vs with
 | nil=>rw[show vs=[] from r];rfl
 | cons d ds ih=>obtain⟨x,t,e,a,b⟩:=r;rw[e,qaq,qaq,ih b]
def Rps.get{ds:List D}{vs:List PV}{i:Nat}{d:D}(r:Rps p h O ds vs)(g:ds[i]?=some d):∃v,vs[i]?=some v/\Rp p h O d v:=by
 induction ds generalizing vs i with
 | nil=>cases g
 | cons d ds ih =>
  obtain⟨x,t,e,a,b⟩:=r;subst e
  cases i with
  | zero=>cases g;exact⟨x,rfl,a⟩
  | succ i=>have z:=@ih t i b g;exact z
def Rps.app(r:Rps p h O ds vs)(s:Rps p h O es ws):Rps p h O (ds++es) (vs++ws):=by
 induction ds generalizing vs with
 | nil=>rw[show vs=[] from r];exact s
 | cons d ds ih=>obtain⟨x,t,e,a,b⟩:=r;subst e;exact⟨x,t++_,rfl,a,ih b⟩
def Rps.take(n:Nat)(r:Rps p h O ds vs):Rps p h O (ds.take n) (vs.take n):=by
 induction ds generalizing vs n with
 | nil=>rw[show vs=[] from r];cases n <;> rfl
 | cons d ds ih =>
  obtain⟨x,t,e,a,b⟩:=r;subst e
  cases n with
  | zero=>rfl
  | succ n=>exact⟨x,t.take n,rfl,a,ih n b⟩
def Rps.drop(n:Nat)(r:Rps p h O ds vs):Rps p h O (ds.drop n) (vs.drop n):=by
 induction ds generalizing vs n with
 | nil=>rw[show vs=[] from r];cases n <;> rfl
 | cons d ds ih =>
  cases n with
  | zero=>exact r
  | succ n=>obtain⟨x,t,e,a,b⟩:=r;subst e;exact ih n b
end
def dl:Option (List Int)->List D->D
 | none,ds=>.lst ds
 | some ks,ds=>.dic false ks ds
def mo:Option (List Int)->List PV->MO
 | none,xs=>.lst xs
 | some ks,xs=>.dic false ks xs
def fc(e:D.lst ds=dl k es):k=none/\ds=es:=by
 cases k with
 | none=>cases e;exact⟨rfl,rfl⟩
 | some _=>cases e
inductive VwO (p:Nat) (h:MH) (L:Nat) (O:List Nat) (d:D) (v:PV):Prop
 | mk (n:Nat) (k:Option (List Int)) (xs:List PV) (ds:List D) (e:d=dl k ds) (e':v=.loc n) (o:n∈O) (l:L<=n) (g:h[n]?=some (mo k xs)) (r:Rps p h O ds xs):VwO p h L O d v
def Vw(p:Nat)(h:MH)(L:Nat)(O:List Nat)(d:D)(v:PV):Prop:=Rp p h O d v\/VwO p h L O d v
def Vws(p:Nat)(h:MH)(L:Nat)(O:List Nat):List D->List PV->Prop
 | [],vs=>vs=[]
 | d::ds,vs=>RcC (Vw p h L O d) (Vws p h L O ds) vs
inductive FrsI (p:Nat) (L:Nat) (O:List Nat) (h:MH) (k:Option (List Int)) (ds:List D) (v:PV):Prop
 | mk (n:Nat) (xs:List PV) (e:v=.loc n) (l:L<=n) (g:h[n]?=some (mo k xs)) (r:Rps p h (n::O) ds xs):FrsI p L O h k ds v
def Frs(p:Nat)(L:Nat)(O:List Nat)(h:MH)(d:D)(v:PV):Prop:=∀k ds,d=dl k ds->FrsI p L O h k ds v
structure KB (p:Nat) (h h':MH):Prop where
 len:h.length<=h'.length
 keep:∀n:Nat,n<h.length->n≠p->h'[n]?=h[n]?
def KB.refl(p:Nat)(h:MH):KB p h h:=⟨qaj _,fun _ _ _=>rfl⟩
def KB.trans(a:KB p h h1)(b:KB p h1 h2):KB p h h2 :=
 ⟨qav a.len b.len,fun n hn hp=>(b.keep n (qas hn a.len) hp).trans (a.keep n hn hp)⟩
def KB.app(p:Nat)(h g:MH):KB p h (h++g):=⟨by simp,fun n hn _=>qai hn⟩
def KB.mv(k:KB p h h')(hp:p∈O):Mv O h O h' :=
 ⟨fun n hn no=>k.keep n hn fun z=>no (z▸hp),fun o ho=>.inl ho⟩
def bA.app{p:Nat}{h g:MH}{s:Pen}(e:bA h p s):bA (h++g) p s:=by
 unfold bA at *;rw[qai (aW e)];exact e
def Vw.kb{p L:Nat}{h h':MH}{O:List Nat}{d:D}{v:PV}(k:KB p h h')(hp:p∈O)(hL:p<L)(w:Vw p h L O d v):Vw p h' L O d v:=by
 rcases w with r|⟨n,kd,xs,ds,e1,e2,ho,hn,g,r⟩
 ·exact .inl (r.mv (k.mv hp))
 ·exact .inr ⟨n,kd,xs,ds,e1,e2,ho,hn,(k.keep n (aW g) (by lia)).trans g,r.mv (k.mv hp)⟩
inductive PR (α:Type) where
 | ok (a:α) (s:Pen)
 | exc (c:Str) (s:Pen)
 | bad
def PR.bind{α β:Type}(r:PR α)(f:α->Pen->PR β):PR β:=match r with
 | .ok a s=>f a s
 | .exc c s=>.exc c s
 | .bad=>.bad
@[simp] theorem Pb(a:α)(s:Pen)(f:α->Pen->PR β):(PR.ok a s).bind f=f a s:=rfl
@[simp] theorem Pe(c:Str)(s:Pen)(f:α->Pen->PR β):(PR.exc c s).bind f=.exc c s:=rfl
@[simp] theorem Pd(f:α->Pen->PR β):(PR.bad:PR α).bind f=.bad:=rfl
def PR.of{α:Type}(o:Option α)(s:Pen):PR α:=match o with
 | some a=>.ok a s
 | none=>.bad
@[simp] theorem Pf(a:α)(s:Pen):PR.of (some a) s=.ok a s:=rfl
@[simp] theorem Pn(s:Pen):PR.of (none:Option α) s=.bad:=rfl
inductive OkE {α β:Type} (p:Nat) (h:MH) (o:Out β) (a:α) (s:Pen) (R:MH->α->β->Prop):Prop
 | mk (b:β) (h':MH) (e:o=.ok b h') (k:KB p h h') (n:bA h' p s) (r:R h' a b):OkE p h o a s R
inductive OkX {β:Type} (p:Nat) (h:MH) (o:Out β) (c:Str) (s:Pen):Prop
 | mk (h':MH) (e:o=.exc ⟨c,[]⟩ h') (k:KB p h h') (n:bA h' p s):OkX p h o c s
def Ok{α β:Type}(p:Nat)(h:MH)(o:Out β)(r:PR α)(R:MH->α->β->Prop):Prop:=match r with
 | .ok a s=>OkE p h o a s R
 | .exc c s=>OkX p h o c s
 | .bad=>True
def Ok.bind{α β γ δ:Type}{p:Nat}{h:MH}{o:Out β}{r:PR α}{R:MH->α->β->Prop}{f:β->MH->Out δ}{g:α->Pen->PR γ}{S:MH->γ->δ->Prop}(q:Ok p h o r R)
  (k:∀a b h1 s,KB p h h1->bA h1 p s->R h1 a b->Ok p h1 (f b h1) (g a s) S):Ok p h (o.bind f) (r.bind g) S:=by
 cases r with
 | ok a s =>
  obtain⟨b,h1,rfl,kb,pn,rr⟩:=q
  have:=k a b h1 s kb pn rr
  rw[Pb]
  cases e:g a s with
  | ok c s2 =>
   rw[e] at this;obtain⟨d,h2,e2,kb2,pn2,r2⟩:=this;exact⟨d,h2,e2,kb.trans kb2,pn2,r2⟩
  | exc c s2 =>
   rw[e] at this;obtain⟨h2,e2,kb2,pn2⟩:=this;exact⟨h2,e2,kb.trans kb2,pn2⟩
  | bad=>trivial
 | exc c s =>
  obtain⟨h1,rfl,kb,pn⟩:=q;exact⟨h1,rfl,kb,pn⟩
 | bad=>trivial
def Ok.imp{α β:Type}{p:Nat}{h:MH}{o:Out β}{r:PR α}{R S:MH->α->β->Prop}(q:Ok p h o r R)(k:∀h' a b,KB p h h'->R h' a b->S h' a b):Ok p h o r S:=by
 cases r with
 | ok a s=>obtain⟨b,h1,e,kb,pn,rr⟩:=q;exact⟨b,h1,e,kb,pn,k _ _ _ kb rr⟩
 | exc c s=>exact q
 | bad=>trivial
structure SR (p:Nat) (h:MH) (L:Nat) (O:List Nat) (ws:List Nat) (σ:PSt) (env:am):Prop where
 len:σ.length=env.length
 fz:∀i d,env[i]?=some (some d)->i∉ws->∃v,σ[i]?=some (some v)/\Rp p h O d v
 ow:∀i d,env[i]?=some (some d)->i∈ws->∃n k xs ds,d=dl k ds/\σ[i]?=some (some (.loc n))/\n∈O/\L<=n/\h[n]?=some (mo k xs)/\Rps p h O ds xs
structure Cx (p:Nat) (h:MH) (L:Nat) (B O:List Nat) (ws:List Nat) (σ:PSt) (env:am) (s:Pen):Prop where
 bd:∀o∈O,o<h.length
 sub:∀o∈B,o∈O
 bb:∀o∈B,o<L
 pb:p∈B
 hL:L<=h.length
 pen:bA h p s
 sr:SR p h L O ws σ env
section
variable {p L:Nat} {h h':MH} {B O ws:List Nat} {σ:PSt} {env:am} {s s':Pen}
def Cx.pO(c:Cx p h L B O ws σ env s):p∈O:=c.sub p c.pb
def Cx.pL(c:Cx p h L B O ws σ env s):p<L:=c.bb p c.pb
def SR.mv{O':List Nat}(m:Mv O h O' h')(hs:∀o∈O,o∈O')(ho:∀n:Nat,n<h.length->L<=n->n∈O->h'[n]?=h[n]?)(r:SR p h L O ws σ env):SR p h' L O' ws σ env :=
 ⟨r.len,fun i d e hi=>let ⟨v,e1,q⟩:=r.fz i d e hi;⟨v,e1,q.mv m⟩,fun i d e hi=>let ⟨n,k,xs,ds,e1,e2,a,b,g,q⟩:=r.ow i d e hi;⟨n,k,xs,ds,e1,e2,hs n a,b,(ho n (aW g) b a).trans g,q.mv m⟩⟩
def Cx.kb(c:Cx p h L B O ws σ env s)(k:KB p h h')(pn:bA h' p s'):Cx p h' L B O ws σ env s' :=
 ⟨fun o ho=>qas (c.bd o ho) k.len,c.sub,c.bb,c.pb,qav c.hL k.len,pn,c.sr.mv (k.mv c.pO) (fun _ h=>h) fun n hn hl _=>k.keep n hn (by have:=c.pL;lia)⟩
def Vw.base(w:Vw p h L O d v)(sub:∀o∈B,o∈O)(bb:∀o∈B,o<L):Rp p h B d v:=by
 have m:Mv O h B h:=⟨fun _ _ _=>rfl,fun o ho=>.inl (sub o ho)⟩;rcases w with r|⟨n,k,xs,ds,rfl,rfl,_,hn,g,r⟩
 ·exact r.mv m
 ·cases k <;> exact⟨n,xs,rfl,fun z=>by have:=bb n z;lia,g,r.mv m⟩
def Vws.base(sub:∀o∈B,o∈O)(bb:∀o∈B,o<L):∀{ds:List D} {vs:List PV},Vws p h L O ds vs->Rps p h B ds vs
 | [],_,r=>r
 | _::_,_,⟨x,t,e,a,b⟩=>⟨x,t,e,a.base sub bb,Vws.base sub bb b⟩
def Frs.rp(f:Frs p L' O h d v)(bd:∀o∈O,o<L')(e:d=dl k ds):Rp p h O d v:=by
 obtain⟨n,xs,e1,hn,g,r⟩:=f k ds e;subst e;cases k <;> exact⟨n,xs,e1,fun z=>by have:=bd n z;lia,g,r.mv ⟨fun _ _ _=>rfl,fun o ho=>.inl (qab _ ho)⟩⟩
def Frs.le(f:Frs p L2 O h d v)(hl:L1<=L2):Frs p L1 O h d v:=fun k ds e =>
 let ⟨n,xs,e1,hn,g,r⟩:=f k ds e;⟨n,xs,e1,qav hl hn,g,r⟩
end
abbrev Bd(h:MH)(O:List Nat):Prop:=∀o∈O,o<h.length
inductive Gv (p:Nat) (h:MH) (O:List Nat) (fr:Bool) (o:Out PV) (d:D):Prop
 | mk (v:PV) (g:MH) (e:o=.ok v (h++g)) (r:Rp p (h++g) O d v) (f:fr=true->Frs p h.length O (h++g) d v):Gv p h O fr o d
structure Op1 where
 m:PV->MH->Out PV
 p:D->Option D
 fr:Bool
 ok:∀{q h L O a x d},Bd h O->Vw q h L O a x->p a=some d->Gv q h O fr (m x h) d
structure Op2 where
 m:PV->PV->MH->Out PV
 p:D->D->Option D
 fr:Bool
 ok:∀{q h L O a x b y d},Bd h O->Vw q h L O a x->Vw q h L O b y->p a b=some d->Gv q h O fr (m x y h) d
structure OpN where
 k:List PV->MH->Out PV
 p:List D->Option D
 fr:Bool
 ok:∀{q h L O as xs d},Bd h O->Vws q h L O as xs->p as=some d->Gv q h O fr (k xs h) d
structure Fn where
 m:List PV->MH->Out PV
 p:List D->Pen->PR D
 fr:Bool
 ok:∀{q h O vs ds s},Bd h O->q∈O->bA h q s->Rps q h O ds vs->Ok q h (m vs h) (p ds s) (fun h' d v=>Rp q h' O d v/\(fr=true->Frs q h.length O h' d v))
mutual
def flat:D->Bool
 | .lst _ | .dic _ _ _ | .exc _ | .pen=>false
 | .tup ds=>flats ds
 | _=>true
def flats:List D->Bool
 | []=>true
 | d::ds=>flat d && flats ds
end
section
variable {p:Nat} {h h':MH} {O O':List Nat}
mutual
def Rp.flat:∀{d:D} {v:PV},PU.flat d=true->Rp p h O d v->Rp p h' O' d v
 | .non,_,_,r=>r
 | .bl _,_,_,r=>r
 | .int _,_,_,r=>r
 | .str _,_,_,r=>r
 | .tup ds,_,f,⟨xs,e,r⟩=>⟨xs,e,Rps.flat (by simpa [PU.flat] using f) r⟩
 | .lst ds,_,f,_=>by simp[PU.flat] at f
 | .dic _ _ _,_,f,_=>by simp[PU.flat] at f
 | .exc _,_,f,_=>by simp[PU.flat] at f
 | .pen,_,f,_=>by simp[PU.flat] at f
def Rps.flat:∀{ds:List D} {vs:List PV},PU.flats ds=true->Rps p h O ds vs->Rps p h' O' ds vs
 | [],_,_,r=>r
 | _::_,_,f,⟨x,t,e,a,b⟩=>⟨x,t,e,Rp.flat (by simp[PU.flats] at f;exact f.1) a,Rps.flat (by simp[PU.flats] at f;exact f.2) b⟩
end
end
structure Xe (ws:List Nat) where
 m:Mx PV
 p:am->Pen->PR D
 fz:Bool
 fr:Bool
 ok:∀{q h L B O σ env s},Cx q h L B O ws σ env s->Ok q h (m σ h) (p env s) (fun h' d v=>Vw q h' L O d v/\(fz=true->Rp q h' O d v)/\(fr=true->Frs q h.length O h' d v))
structure Xs (ws:List Nat) where
 m:Mx (List PV)
 p:am->Pen->PR (List D)
 fz:Bool
 ok:∀{q h L B O σ env s},Cx q h L B O ws σ env s->Ok q h (m σ h) (p env s) (fun h' ds vs=>Vws q h' L O ds vs/\(fz=true->Rps q h' O ds vs))
structure Xt (ws:List Nat) where
 m:Mx Bool
 p:am->Pen->PR Bool
 ok:∀{q h L B O σ env s},Cx q h L B O ws σ env s->Ok q h (m σ h) (p env s) (fun _ a b=>a=b)
noncomputable section
variable {ws:List Nat}
def give{q L:Nat}{h h2:MH}{O:List Nat}{o:Out PV}{d:D}{s:Pen}{fr:Bool}(le:h.length<=h2.length)(pn:bA h2 q s)(g:Gv q h2 O fr o d) :
  Ok q h2 o (.ok d s) (fun h' d v=>Vw q h' L O d v/\(true=true->Rp q h' O d v)/\(fr=true->Frs q h.length O h' d v)):=by
 obtain⟨v,g,e,r,f⟩:=g;exact⟨v,h2++g,e,KB.app _ _ _,pn.app,.inl r,fun _=>r,fun z=>(f z).le le⟩
def ab(i:Nat):Xe ws where
 m:=ae i
 p:=fun env s=>match env[i]? with
  | some (some d)=>.ok d s
  | _=>.bad
 fz:=!ws.contains i
 fr:=false
 ok {q h L B O σ env s} c:=by
  show Ok q h _ (match env[i]? with | some (some d)=>PR.ok d s | _=>.bad) _
  cases e:env[i]? with
  | none=>trivial
  | some o =>
   cases o with
   | none=>trivial
   | some d =>
    by_cases z:i∈ws
    ·obtain⟨n,k,xs,ds,e1,e2,a,b,g,r⟩:=c.sr.ow i d e z;exact⟨.loc n,h,by simp[ae,e2],KB.refl _ _,c.pen,.inr ⟨n,k,xs,ds,e1,rfl,a,b,g,r⟩,fun f=>by simp[z] at f,fun f=>by simp at f⟩
    ·obtain⟨v,e1,r⟩:=c.sr.fz i d e z;exact⟨v,h,by simp[ae,e1],KB.refl _ _,c.pen,.inl r,fun _=>r,fun f=>by simp at f⟩
inductive Cn where
 | non | bl (b:Bool) | int (i:Int) | str (x:Str)
def Cn.v:Cn->PV
 | .non=>.non
 | .bl b=>.bl b
 | .int i=>.int i
 | .str x=>.str x
def Cn.d:Cn->D
 | .non=>.non
 | .bl b=>.bl b
 | .int i=>.int i
 | .str x=>.str x
def Cn.rp(c:Cn){q:Nat}{h:MH}{O:List Nat}:Rp q h O c.d c.v:=by cases c <;> rfl
def xC(k:Cn):Xe ws where
 m:=mC k.v
 p:=fun _ s=>.ok k.d s
 fz:=true
 fr:=true
 ok {q h L B O σ env s} c:=⟨k.v,h,rfl,KB.refl _ _,c.pen,.inl k.rp,fun _=>k.rp,fun _ kd ds e=>by cases k <;> cases kd <;> cases e⟩
def af(o:Op2)(a b:Xe ws):Xe ws where
 m:=ai o.m a.m b.m
 p:=fun env s=>(a.p env s).bind fun x s1=>(b.p env s1).bind fun y s2=>.of (o.p x y) s2
 fz:=true
 fr:=o.fr
 ok {q h L B O σ env s} c:=by
  refine (a.ok c).bind fun x v h1 s1 k1 p1 ⟨w1,_,_⟩=>?_;refine (b.ok (c.kb k1 p1)).bind fun y w h2 s2 k2 p2 ⟨w2,_,_⟩=>?_
  cases e:o.p x y with
  | none=>trivial
  | some d =>
   have c2:=(c.kb k1 p1).kb k2 p2;obtain⟨u,g,e1,r,f⟩:=o.ok c2.bd (w1.kb k2 c.pO c.pL) w2 e;exact give (qav k1.len k2.len) p2 ⟨u,g,by rw[e1];rfl,r,f⟩
def xUn(o:Op1)(a:Xe ws):Xe ws where
 m:=mUn o.m a.m
 p:=fun env s=>(a.p env s).bind fun x s1=>.of (o.p x) s1
 fz:=true
 fr:=o.fr
 ok {q h L B O σ env s} c:=by
  refine (a.ok c).bind fun x v h1 s1 k1 p1 ⟨w1,_,_⟩=>?_
  cases e:o.p x with
  | none=>trivial
  | some d =>
   obtain⟨u,g,e1,r,f⟩:=o.ok (c.kb k1 p1).bd w1 e;exact give k1.len p1 ⟨u,g,by rw[e1];rfl,r,f⟩
def xNil:Xs ws where
 m:=mNil
 p:=fun _ s=>.ok [] s
 fz:=true
 ok {q h L B O σ env s} c:=⟨[],h,rfl,KB.refl _ _,c.pen,rfl,fun _=>rfl⟩
def aa(a:Xe ws)(r:Xs ws):Xs ws where
 m:=ac a.m r.m
 p:=fun env s=>(a.p env s).bind fun x s1=>(r.p env s1).bind fun y s2=>.ok (x::y) s2
 fz:=a.fz && r.fz
 ok {q h L B O σ env s} c:=by
  refine (a.ok c).bind fun x v h1 s1 k1 p1 ⟨w1,z1,_⟩=>?_;refine (r.ok (c.kb k1 p1)).bind fun y w h2 s2 k2 p2 ⟨w2,z2⟩=>?_;refine⟨v::w,h2,rfl,KB.refl _ _,p2,⟨v,w,rfl,w1.kb k2 c.pO c.pL,w2⟩,fun f=>?_⟩;rw[qaZ] at f;exact⟨v,w,rfl,(z1 f.1).mv (k2.mv c.pO),z2 f.2⟩
def xCb(o:OpN)(a:Xs ws):Xe ws where
 m:=fun σ h=>(a.m σ h).bind o.k
 p:=fun env s=>(a.p env s).bind fun x s1=>.of (o.p x) s1
 fz:=true
 fr:=o.fr
 ok {q h L B O σ env s} c:=by
  refine (a.ok c).bind fun x v h1 s1 k1 p1 ⟨w1,_⟩=>?_
  cases e:o.p x with
  | none=>trivial
  | some d=>exact give k1.len p1 (o.ok (c.kb k1 p1).bd w1 e)
def ah(f:Fn)(a:Xs ws)(hz:a.fz=true:=by exact ys rfl):Xe ws where
 m:=aB f.m a.m
 p:=fun env s=>(a.p env s).bind f.p
 fz:=true
 fr:=f.fr
 ok {q h L B O σ env s} c:=by
  refine (a.ok c).bind fun x v h1 s1 k1 p1 ⟨_,z⟩=>?_;have c1:=c.kb k1 p1;refine (f.ok c1.bd c1.pO p1 (z hz)).imp fun h' d v kb ⟨r,fr⟩=>⟨.inl r,fun _=>r,fun z=>(fr z).le k1.len⟩
def lend(d:D):Bool:=match d with
 | .lst ds=>flats ds
 | d=>flat d
def sn(f:Fn)(a:Xs ws)(hf:f.fr=true:=by exact ys rfl):Xe ws where
 m:=aB f.m a.m
 p:=fun env s=>((a.p env s).bind f.p).bind fun d s=>if lend d=true then .ok d s else .bad
 fz:=true
 fr:=true
 ok {q h L B O σ env s} c:=by
  have key:Ok q h ((a.m σ h).bind f.m) ((a.p env s).bind f.p) (fun h' d v=>Rp q h' B d v/\Frs q h.length B h' d v):=by
   refine (a.ok c).bind fun x v h1 s1 k1 p1 ⟨w,_⟩=>?_;have c1:=c.kb k1 p1;refine (f.ok (fun o ho=>qas (c1.bb o ho) c1.hL) c1.pb p1 (w.base c1.sub c1.bb)).imp fun h' d v kb ⟨r,fr⟩=>⟨r,(fr hf).le k1.len⟩
  show Ok q h ((a.m σ h).bind f.m) _ _
  cases e:(a.p env s).bind f.p with
  | bad=>trivial
  | exc x s1=>rw[e] at key;exact key
  | ok d s1 =>
   rw[e] at key;obtain⟨v,h',e1,kb,pn,r,fr⟩:=key;rw[Pb];by_cases z:lend d=true
   ·rw[qae z];have f2:Frs q h.length O h' d v:=fun k ds ed=>by
     obtain⟨n,xs,a1,a2,a3,a4⟩:=fr k ds ed;subst ed
     cases k with
     | some _=>cases z
     | none=>exact⟨n,xs,a1,a2,a3,Rps.flat z a4⟩
    have r2:Rp q h' O d v:=by
     cases d with
     | lst ds=>exact f2.rp (k:=none) c.bd rfl
     | non=>exact r
     | bl b=>exact r
     | int i=>exact r
     | str i=>exact r
     | tup i=>exact Rp.flat z r
     | dic _ _ _=>cases z
     | exc _=>cases z
     | pen=>cases z
    exact⟨v,h',e1,kb,pn,.inl r2,fun _=>r2,fun _=>f2⟩
   ·rw[qat z];trivial
def iC:100000<=sizeLine:=by decide
def lJ(bd:Bd h O)(r:Rps q h O ds xs)(hl:ds.length<=100000):Gv q h O true (newL xs h) (.lst ds):=by
 have hx:=r.length;have m:Mv O h O (h++[MO.lst xs]):=⟨fun n hn _=>qai hn,fun o ho=>.inl ho⟩
 have m2:Mv O h (h.length::O) (h++[MO.lst xs]):=⟨fun n hn _=>qai hn,fun o ho=>by
  rcases qag.mp ho with z|z
  ·exact .inr (by lia)
  ·exact .inl z⟩
 have g:(h++[MO.lst xs])[h.length]?=some (.lst xs):=by simp
 refine⟨.loc h.length,[.lst xs],?_,⟨_,_,rfl,fun z=>by have:=bd _ z;lia,g,r.mv m⟩,fun _ k ds' e=>?_⟩
 ·unfold newL;have:=iC;lia
 ·obtain⟨rfl,rfl⟩:=fc e;exact⟨_,_,rfl,qaj _,g,r.mv m2⟩
def qx(r:Rps q h O ds xs)(hl:ds.length<=100000):Gv q h O true (newT xs h) (.tup ds):=by
 have hx:=r.length;refine⟨.tup xs,[],?_,?_,fun _ k ds' e=>by cases k <;> cases e⟩
 ·unfold newT;rw[qae (by have:=iC;lia)];simp
 ·simpa using ⟨xs,rfl,r⟩
def cg(a:Xs ws)(hz:a.fz=true:=by exact ys rfl):Xe ws where
 m:=ft a.m
 p:=fun env s=>(a.p env s).bind fun x s1=>if x.length<=100000 then .ok (.lst x) s1 else .bad
 fz:=true
 fr:=true
 ok {q h L B O σ env s} c:=by
  refine (a.ok c).bind fun x v h1 s1 k1 p1 ⟨_,z⟩=>?_;by_cases hl:x.length<=100000
  ·rw[qae hl];exact give k1.len p1 (lJ (c.kb k1 p1).bd (z hz) hl)
  ·rw[qat hl];trivial
def bV(a:Xs ws)(hz:a.fz=true:=by exact ys rfl):Xe ws where
 m:=dR a.m
 p:=fun env s=>(a.p env s).bind fun x s1=>if x.length<=100000 then .ok (.tup x) s1 else .bad
 fz:=true
 fr:=true
 ok {q h L B O σ env s} c:=by
  refine (a.ok c).bind fun x v h1 s1 k1 p1 ⟨_,z⟩=>?_;by_cases hl:x.length<=100000
  ·rw[qae hl];exact give k1.len p1 (qx (z hz) hl)
  ·rw[qat hl];trivial
def Vw.bl(w:Vw q h L O (.bl b) v):v=.bl b:=by
 rcases w with r|⟨n,k,xs,ds,e,_⟩
 ·exact r
 ·cases k <;> cases e
def PR.bl(r:PR D):PR Bool:=r.bind fun d s=>match d with
 | .bl b=>.ok b s
 | _=>.bad
@[simp] theorem Pl:(PR.ok (D.bl b) s).bl=.ok b s:=rfl
def xB(a:Xe ws):Xt ws where
 m:=mB a.m
 p:=fun env s=>(a.p env s).bl
 ok {q h L B O σ env s} c:=by
  refine (a.ok c).bind fun x v h1 s1 k1 p1 ⟨w,_,_⟩=>?_
  cases x with
  | bl b=>rw[w.bl];exact⟨b,h1,rfl,KB.refl _ _,p1,rfl⟩
  | _=>trivial
def fk(a:Xt ws):Xt ws where
 m:=lP a.m
 p:=fun env s=>(a.p env s).bind fun b s=>.ok (!b) s
 ok {q h L B O σ env s} c:=(a.ok c).bind fun x v h1 s1 k1 p1 e=>⟨!v,h1,rfl,KB.refl _ _,p1,by rw[e]⟩
def nL(a b:Xt ws):Xt ws where
 m:=mAnd a.m b.m
 p:=fun env s=>(a.p env s).bind fun x s=>if x=true then b.p env s else .ok false s
 ok {q h L B O σ env s} c:=(a.ok c).bind fun x v h1 s1 k1 p1 e=>by
  subst e
  cases x with
  | true=>simpa using b.ok (c.kb k1 p1)
  | false=>exact⟨false,h1,rfl,KB.refl _ _,p1,rfl⟩
def xOr(a b:Xt ws):Xt ws where
 m:=mOr a.m b.m
 p:=fun env s=>(a.p env s).bind fun x s=>if x=true then .ok true s else b.p env s
 ok {q h L B O σ env s} c:=(a.ok c).bind fun x v h1 s1 k1 p1 e=>by
  subst e
  cases x with
  | false=>simpa using b.ok (c.kb k1 p1)
  | true=>exact⟨true,h1,rfl,KB.refl _ _,p1,rfl⟩
def xTrue:Xt ws where
 m:=mTrue
 p:=fun _ s=>.ok true s
 ok {q h L B O σ env s} c:=⟨true,h,rfl,KB.refl _ _,c.pen,rfl⟩
def Ok.after{α β:Type}{p:Nat}{h h1:MH}{o:Out β}{r:PR α}{R:MH->α->β->Prop}(k:KB p h h1)(q:Ok p h1 o r R):Ok p h o r R:=by
 cases r with
 | bad=>trivial
 | exc c2 s2=>obtain⟨h2,a1,a2,a3⟩:=q;exact⟨h2,a1,k.trans a2,a3⟩
 | ok d2 s2=>obtain⟨v2,h2,a1,a2,a3,a4⟩:=q;exact⟨v2,h2,a1,k.trans a2,a3,a4⟩
def giveB(pn:bA h q s):Ok q h (.ok (.bl b) h) (.ok (.bl b) s) (fun h' d v=>Vw q h' L O d v/\(true=true->Rp q h' O d v)/\(true=true->Frs q l O h' d v)) :=
 ⟨.bl b,h,rfl,KB.refl _ _,pn,.inl rfl,fun _=>rfl,fun _ k ds e=>by cases k <;> cases e⟩
def blOnly(k:Ok q h o r (fun h' d v=>Vw q h' L O d v/\(fz=true->Rp q h' O d v)/\(fr=true->Frs q l' O h' d v))) :
  Ok q h o (r.bl.bind fun b s=>.ok (.bl b) s) (fun h' d v=>Vw q h' L O d v/\(true=true->Rp q h' O d v)/\(true=true->Frs q l O h' d v)):=by
 cases r with
 | bad=>trivial
 | exc c s=>exact k
 | ok d s =>
  obtain⟨v,h',e,kb,pn,w,_,_⟩:=k
  cases d with
  | bl b=>exact⟨v,h',e,kb,pn,w,fun _=>by rw[w.bl];rfl,fun _ k ds e=>by cases k <;> cases e⟩
  | _=>trivial
def cC(a b:Xe ws):Xe ws where
 m:=iL a.m b.m
 p:=fun env s=>(a.p env s).bl.bind fun x s=>if x=true then (b.p env s).bl.bind fun y s=>.ok (.bl y) s else .ok (.bl false) s
 fz:=true
 fr:=true
 ok {q h L B O σ env s} c:=by
  have k:=a.ok c;show Ok q h ((a.m σ h).bind _) _ _
  cases e:a.p env s with
  | bad=>trivial
  | exc x s1 =>
   rw[e] at k;obtain⟨h1,e1,k1,p1⟩:=k;rw[e1];exact⟨h1,rfl,k1,p1⟩
  | ok d s1 =>
   rw[e] at k;obtain⟨v,h1,e1,k1,p1,w,_,_⟩:=k
   cases d with
   | bl x =>
    rw[w.bl] at e1;rw[e1]
    cases x with
    | true =>
     exact Ok.after k1 (blOnly (l:=h.length) (b.ok (c.kb k1 p1)))
    | false =>
     obtain⟨v2,h2,a1,a2,a3,a4⟩:=giveB (L:=L) (l:=h.length) (O:=O) (b:=false) p1;exact⟨v2,h2,a1,k1.trans a2,a3,a4⟩
   | _=>trivial
def nt(a:Xe ws):Xe ws where
 m:=si a.m
 p:=fun env s=>(a.p env s).bl.bind fun x s=>.ok (.bl (!x)) s
 fz:=true
 fr:=true
 ok {q h L B O σ env s} c:=by
  have k:=a.ok c;show Ok q h ((a.m σ h).bind _) _ _
  cases e:a.p env s with
  | bad=>trivial
  | exc x s1 =>
   rw[e] at k;obtain⟨h1,e1,k1,p1⟩:=k;rw[e1];exact⟨h1,rfl,k1,p1⟩
  | ok d s1 =>
   rw[e] at k;obtain⟨v,h1,e1,k1,p1,w,_,_⟩:=k
   cases d with
   | bl x =>
    rw[w.bl] at e1;rw[e1];obtain⟨v2,h2,a1,a2,a3,a4⟩:=giveB (L:=L) (l:=h.length) (O:=O) (b:=!x) p1;exact⟨v2,h2,a1,k1.trans a2,a3,a4⟩
   | _=>trivial
def fZ(t:Xt ws)(a b:Xe ws)(fz:Bool)(hf:fz=(a.fz && b.fz):=by exact ys rfl):Xe ws where
 m:=mIfE t.m a.m b.m
 p:=fun env s=>(t.p env s).bind fun x s=>if x=true then a.p env s else b.p env s
 fz:=fz
 fr:=false
 ok {q h L B O σ env s} c:=(t.ok c).bind fun x v h1 s1 k1 p1 e=>by
  subst e
  cases x with
  | true=>exact (a.ok (c.kb k1 p1)).imp fun h' d v kb r=>⟨r.1,fun f=>r.2.1 (by rw[hf,qaZ] at f;exact f.1),fun f=>by simp at f⟩
  | false=>exact (b.ok (c.kb k1 p1)).imp fun h' d v kb r=>⟨r.1,fun f=>r.2.1 (by rw[hf,qaZ] at f;exact f.2),fun f=>by simp at f⟩
def gV(f g:Op2)(a b e:Xe ws):Xe ws where
 m:=lu f.m g.m a.m b.m e.m
 p:=fun env s=>(a.p env s).bind fun x s1=>(b.p env s1).bind fun y s2=>match f.p x y with
  | some (.bl t)=>if t=true then (e.p env s2).bind fun z s3=>.of (g.p y z) s3 else .ok (.bl false) s2
  | _=>.bad
 fz:=true
 fr:=false
 ok {q h L B O σ env s} c:=by
  refine (a.ok c).bind fun x v h1 s1 k1 p1 ⟨w1,_,_⟩=>?_;refine (b.ok (c.kb k1 p1)).bind fun y w h2 s2 k2 p2 ⟨w2,_,_⟩=>?_;have c2:=(c.kb k1 p1).kb k2 p2
  cases e1:f.p x y with
  | none=>trivial
  | some d =>
   cases d with
   | bl t =>
    obtain⟨u,gg,e2,r,_⟩:=f.ok c2.bd (w1.kb k2 c.pO c.pL) w2 e1;have hu:u=.bl t:=r;subst hu;rw[e2];have k3:=KB.app q h2 gg;have c3:=c2.kb k3 p2.app
    cases t with
    | true =>
     refine Ok.after k3 ?_;show Ok q (h2++gg) ((e.m σ (h2++gg)).bind _) _ _;refine (e.ok c3).bind fun z u h3 s3 k4 p4 ⟨w3,_,_⟩=>?_
     cases e4:g.p y z with
     | none=>trivial
     | some d =>
      obtain⟨u2,g2,e5,r2,_⟩:=g.ok (c3.kb k4 p4).bd ((w2.kb k3 c.pO c.pL).kb k4 c.pO c.pL) w3 e4;refine⟨u2,h3++g2,by rw[e5];rfl,KB.app _ _ _,p4.app,.inl r2,fun _=>r2,fun f=>by simp at f⟩
    | false=>exact⟨.bl false,h2++gg,rfl,k3,p2.app,.inl rfl,fun _=>rfl,fun f=>by simp at f⟩
   | _=>trivial
end
structure Xi (ws:List Nat) where
 m:Mx MIt
 p:am->Pen->PR (List D)
 fz:Bool
 ok:∀{q h L B O σ env s},Cx q h L B O ws σ env s->Ok q h (m σ h) (p env s) (fun h' ds it=>Rps q h' O ds it.xs/\(∀g∈it.gd,h'[g.1]?=some (.lst g.2)/\g.1≠q)/\(fz=true->∀g∈it.gd,g.1∉O))
inductive GI (q:Nat) (h:MH) (O:List Nat) (ds as:List D) (xs:List PV) (o:Out MIt):Prop
 | mk (it:MIt) (e:o=.ok it h) (r:Rps q h O ds it.xs) (g:∀g∈it.gd,h[g.1]?=some (.lst g.2)/\g.1≠q) (z:Rps q h O as xs->∀g∈it.gd,g.1∉O):GI q h O ds as xs o
structure OpI where
 k:List PV->MH->Out MIt
 p:List D->Option (List D)
 ok:∀{q h L O as xs ds},q<L->q∈O->Bd h O->Vws q h L O as xs->p as=some ds->GI q h O ds as xs (k xs h)
def D.items:D->Option (List D)
 | .lst ds=>some ds
 | .tup ds=>some ds
 | _=>none
@[simp] theorem items_lst:(D.lst ds).items=some ds:=rfl
@[simp] theorem items_tup:(D.tup ds).items=some ds:=rfl
noncomputable section
variable {ws:List Nat}
def fw(o:OpI)(a:Xs ws):Xi ws where
 m:=fun σ h=>(a.m σ h).bind o.k
 p:=fun env s=>(a.p env s).bind fun x s1=>.of (o.p x) s1
 fz:=a.fz
 ok {q h L B O σ env s} c:=by
  refine (a.ok c).bind fun x v h1 s1 k1 p1 ⟨w,z⟩=>?_
  cases e:o.p x with
  | none=>trivial
  | some ds =>
   obtain⟨it,e1,r,g1,g2⟩:=o.ok c.pL c.pO (c.kb k1 p1).bd w e;exact⟨it,h1,e1,KB.refl _ _,p1,r,g1,fun f=>g2 (z f)⟩
def Vw.seq(hq:q<L)(hO:q∈O)(w:Vw q h L O d v)(e:d.items=some ds):∃xs gd,itAny v h=.ok ⟨xs,gd⟩ h/\Rps q h O ds xs/\(∀g∈gd,h[g.1]?=some (.lst g.2)/\g.1≠q)/\(Rp q h O d v->∀g∈gd,g.1∉O):=by
 have one:∀n xs,h[n]?=some (MO.lst xs)->n≠q->(∀g∈[(n,xs)],h[g.1]?=some (MO.lst g.2)/\g.1≠q):=fun n xs g hn y hy=>by
  have:y=(n,xs):=by simpa using hy
  subst this;exact⟨g,hn⟩
 cases d with
 | lst es =>
  have:es=ds:=by simpa using e
  subst this;rcases w with ⟨n,xs,e1,no,g,r⟩|⟨n,kd,xs,es',e0,e1,_,hn,g,r⟩
  ·subst e1;refine⟨xs,[(n,xs)],by simp only[itAny,g],r,one n xs g (fun z=>no (z▸hO)),fun _ y hy=>?_⟩
   have:y=(n,xs):=by simpa using hy
   subst this;exact no
  ·obtain⟨rfl,rfl⟩:=fc e0;subst e1;replace g:h[n]?=some (.lst xs):=g;refine⟨xs,[(n,xs)],by simp only[itAny,g],r,one n xs g (by lia),fun ⟨n',xs',e1,no,_,_⟩ y hy=>?_⟩
   grind
 | tup es =>
  have:es=ds:=by simpa using e
  subst this;rcases w with ⟨xs,e1,r⟩|⟨n,kd,xs,es',e0,_⟩
  ·subst e1;exact⟨xs,[],rfl,r,(fun _ hy=>nomatch hy),fun _ _ hy=>nomatch hy⟩
  ·cases kd <;> cases e0
 | _=>simp[D.items] at e
def eQ(a:Xe ws):Xi ws where
 m:=pc a.m
 p:=fun env s=>(a.p env s).bind fun x s1=>.of x.items s1
 fz:=a.fz
 ok {q h L B O σ env s} c:=by
  refine (a.ok c).bind fun x v h1 s1 k1 p1 ⟨w,z,_⟩=>?_
  cases e:x.items with
  | none=>trivial
  | some ds =>
   obtain⟨xs,gd,e1,r,g1,g2⟩:=w.seq c.pL c.pO e;exact⟨⟨xs,gd⟩,h1,e1,KB.refl _ _,p1,r,g1,fun f=>g2 (z f)⟩
structure Xg (ws:List Nat) where
 m:Mg
 p:D->am->Option am
 ok:∀{q h L O σ env d v env'},SR q h L O ws σ env->Rp q h O d v->p d env=some env'->∃σ',m v σ h=.nx σ' h/\SR q h L O ws σ' env'/\∀i∈ws,σ'[i]?=σ[i]?/\env'[i]?=env[i]?
structure Xgs (ws:List Nat) where
 m:Mgs
 p:List D->am->Option am
 ok:∀{q h L O σ env ds vs env'},SR q h L O ws σ env->Rps q h O ds vs->p ds env=some env'->∃σ',m vs σ h=.nx σ' h/\SR q h L O ws σ' env'/\∀i∈ws,σ'[i]?=σ[i]?/\env'[i]?=env[i]?
def SR.set(r:SR q h L O ws σ env)(hi:i∉ws)(w:Rp q h O d v):SR q h L O ws (σ.set i (some v)) (env.set i (some d))/\∀j∈ws,(σ.set i (some v))[j]?=σ[j]?/\(env.set i (some d))[j]?=env[j]?:=by
 have ne:∀j∈ws,i≠j:=fun j hj z=>hi (z▸hj);refine⟨⟨by simp[r.len],fun j e hj hw=>?_,fun j e hj hw=>?_⟩,fun j hj=>⟨qah (ne j hj),qah (ne j hj)⟩⟩
 ·by_cases z:i=j
  ·subst z;have hl:i<env.length:=by
    have:=(qaf.mp hj).1;simpa using this
   rw[qax hl] at hj;cases hj;exact⟨v,qax (by rw[r.len];exact hl),w⟩
  ·rw[qah z] at hj;obtain⟨u,e1,q1⟩:=r.fz j e hj hw
   simp_all
 ·rw[qah (ne j hw)] at hj;obtain⟨n,kd,xs,ds,e1,e2,rest⟩:=r.ow j e hj hw;exact⟨n,kd,xs,ds,e1,by rw[qah (ne j hw)];exact e2,rest⟩
def xNm(i:Nat)(hi:ws.contains i=false:=by exact ys rfl):Xg ws where
 m:=gNm i
 p:=fun d env=>some (env.set i (some d))
 ok {q h L O σ env d v env'} r w e:=by
  cases e;have hi':i∉ws:=fun z=>by simp[z] at hi
  obtain⟨a,b⟩:=r.set hi' w;exact⟨_,rfl,a,b⟩
def xGl:Xgs ws where
 m:=gNl
 p:=fun ds env=>match ds with
  | []=>some env
  | _=>none
 ok {q h L O σ env ds vs env'} r w e:=by
  cases ds with
  | nil =>
   cases e
   have:vs=[]:=w
   subst this;exact⟨σ,rfl,r,fun _ _=>⟨rfl,rfl⟩⟩
  | cons _ _=>cases e
def xGc(a:Xg ws)(t:Xgs ws):Xgs ws where
 m:=gCn a.m t.m
 p:=fun ds env=>match ds with
  | d::ds=>(a.p d env).bind fun env1=>t.p ds env1
  | []=>none
 ok {q h L O σ env ds vs env'} r w e:=by
  cases ds with
  | nil=>cases e
  | cons d ds =>
   obtain⟨x,y,rfl,r1,r2⟩:=w;dsimp only at e
   cases e1:a.p d env with
   | none=>rw[e1] at e;cases e
   | some env1 =>
    rw[e1] at e;obtain⟨σ1,f1,s1,k1⟩:=a.ok r r1 e1;obtain⟨σ2,f2,s2,k2⟩:=t.ok s1 r2 e;exact⟨σ2,by show (a.m x σ h).then (t.m y)=_;rw[f1];exact f2,s2,fun i hi=>⟨(k2 i hi).1.trans (k1 i hi).1,(k2 i hi).2.trans (k1 i hi).2⟩⟩
def xGp(t:Xgs ws)(n:Nat):Xg ws where
 m:=gTp t.m n
 p:=fun d env=>match d with
  | .tup ds=>if ds.length=n then t.p ds env else none
  | _=>none
 ok {q h L O σ env d v env'} r w e:=by
  cases d with
  | tup ds =>
   obtain⟨xs,rfl,w⟩:=w;dsimp only at e;by_cases z:ds.length=n
   ·rw[qae z] at e;obtain⟨σ',a,b⟩:=t.ok r w e;exact⟨σ',by show (if xs.length=n then t.m xs σ h else .bad)=_;rw[qae (by rw[w.length];exact z)];exact a,b⟩
   ·rw[qat z] at e;cases e
  | _=>cases e
def cws(nv:Nat)(fm ws:List Nat):List Nat:=((List.range fm.length).filter fun j=>ws.contains (fm.getD j 0)).map (nv+·)
def cenv(nv:Nat)(fm:List Nat)(env:am):am:=List.replicate nv none++fm.map fun i=>(env[i]?).getD none
def PR.ne{α:Type}(r:PR α):PR α:=match r with
 | .exc _ _=>.bad
 | r=>r
@[simp] theorem PR.ne_ok(a:α)(s:Pen):(PR.ok a s).ne=.ok a s:=rfl
def cj(g:D->am->Option am)(t:am->Pen->PR Bool)(e:am->Pen->PR D):List D->am->Pen->PR (List D)
 | [],_,s=>.ok [] s
 | d::ds,env,s=>match g d env with
  | none=>.bad
  | some env1=>(t env1 s).bind fun b s1=>if b=true then (e env1 s1).bind fun x s2=>(cj g t e ds env1 s2).bind fun r s3=>.ok (x::r) s3 else cj g t e ds env1 s1
def cget{nv:Nat}{fm:List Nat}{α:Type}{env:List (Option α)}{i:Nat}{d:α}(e:(List.replicate nv none++fm.map fun i=>(env[i]?).getD none)[i]?=some (some d)):∃j k,i=nv+j/\fm[j]?=some k/\env[k]?=some (some d):=by
 by_cases z:i<nv
 ·rw[qai (by simpa using z)] at e;simp[z] at e
 ·rw[qay (by simp;lia)] at e;simp only[qaX,qaD] at e
  cases ek:fm[i - nv]? with
  | none=>rw[ek] at e;cases e
  | some k =>
   rw[ek] at e;simp only[Option.map_some] at e;refine⟨i - nv,k,by lia,ek,?_⟩
   cases z2:env[k]? with
   | none=>rw[z2] at e;cases e
   | some o=>rw[z2] at e;simp at e;rw[e]
def cput{nv:Nat}{fm:List Nat}{α:Type}{σ:List (Option α)}{j k:Nat}{v:α}(e1:fm[j]?=some k)(e2:σ[k]?=some (some v)):(List.replicate nv none++fm.map fun i=>(σ[i]?).getD none)[nv+j]?=some (some v):=by
 rw[qay (by simp)];simp[e1,e2]
def qK(e:fm[j]?=some k):nv+j∈cws nv fm ws↔k∈ws:=by
 have hj:=(qaf.mp e).1;unfold cws
 simp_all
def SR.comp{q:Nat}{h:MH}{L:Nat}{O:List Nat}{σ:PSt}{env:am}(nv:Nat)(fm:List Nat)(r:SR q h L O ws σ env):SR q h L O (cws nv fm ws) (cSt nv fm σ) (cenv nv fm env):=by
 refine⟨by simp[cSt,cenv],fun i d e hi=>?_,fun i d e hi=>?_⟩
 ·obtain⟨j,k,rfl,e1,e2⟩:=cget e;obtain⟨v,e3,w⟩:=r.fz k d e2 fun z=>hi ((qK e1).mpr z);exact⟨v,cput e1 e3,w⟩
 ·obtain⟨j,k,rfl,e1,e2⟩:=cget e;obtain⟨n,kd,xs,ds,e0,e3,w⟩:=r.ow k d e2 ((qK e1).mp hi);exact⟨n,kd,xs,ds,e0,cput e1 e3,w⟩
def cGo_ok(gt:Xg ws')(t:Xt ws')(e:Xe ws')(hz:e.fz=true)(hq:q<h1.length)(gd:∀g∈it.gd,h1[g.1]?=some (.lst g.2)/\g.1≠q) :
  ∀(ds:List D) (xs:List PV) (env:am) (σ:PSt) (h:MH) (accD:List D) (acc:List PV) (s:Pen) (r:List D) (s':Pen),(∀i∈ws',∀d,env[i]?=some (some d)->∀n,σ[i]?=some (some (.loc n))->n<h1.length)->KB q h1 h->Cx q h L B (h1.length::O) ws' σ env s->Rps q h (h1.length::O) ds xs->h[h1.length]?=some (.lst acc)->Rps q h (h1.length::O) accD acc->accD.length+ds.length<=100000 ->
  cj gt.p t.p e.p ds env s=.ok r s'->∃h' zs,cGo it h1.length gt.m t.m e.m xs σ h=.ok () h'/\KB q h1 h'/\bA h' q s'/\h'[h1.length]?=some (.lst zs)/\Rps q h' (h1.length::O) (accD++r) zs:=by
 intro ds
 induction ds with
 | nil =>
  intro xs env σ h accD acc s r s' on kb c rx ga ra hl ep
  have:xs=[]:=rx
  subst this;cases ep;have ok:it.ok h:=fun g hg=>(kb.keep _ (aW (gd g hg).1) (gd g hg).2).trans (gd g hg).1;exact⟨h,acc,by rw[cGo,qae ok],kb,c.pen,ga,by simpa using ra⟩
 | cons d ds ih =>
  intro xs env σ h accD acc s r s' on kb c rx ga ra hl ep;obtain⟨x,xr,rfl,r1,r2⟩:=rx;have ok:it.ok h:=fun g hg=>(kb.keep _ (aW (gd g hg).1) (gd g hg).2).trans (gd g hg).1;rw[cj] at ep
  cases eg:gt.p d env with
  | none=>rw[eg] at ep;cases ep
  | some env1 =>
   rw[eg] at ep;dsimp only at ep;obtain⟨σ1,f1,sr1,k1⟩:=gt.ok c.sr r1 eg;have on1:∀i∈ws',∀d,env1[i]?=some (some d)->∀n,σ1[i]?=some (some (.loc n))->n<h1.length:=fun i hi d e n z=>on i hi d ((k1 i hi).2▸e) n ((k1 i hi).1▸z);have c1:Cx q h L B (h1.length::O) ws' σ1 env1 s:=⟨c.bd,c.sub,c.bb,c.pb,c.hL,c.pen,sr1⟩;have kt:=t.ok c1
   cases et:t.p env1 s with
   | bad=>rw[et] at ep;cases ep
   | exc _ _=>rw[et] at ep;cases ep
   | ok b s1 =>
    rw[et] at ep kt;obtain⟨b',h2,f2,k2,p2,eb⟩:=kt;subst eb;have c2:=c1.kb k2 p2;have mv2:Mv (h1.length::O) h (h1.length::O) h2:=k2.mv c.pO;have hn:h1.length<h.length:=aW ga;have ga2:h2[h1.length]?=some (.lst acc):=(k2.keep _ hn (by lia)).trans ga;rw[Pb] at ep
    cases b with
    | false =>
     rw[qat (by simp)] at ep;obtain⟨h',zs,a1,a2⟩:=ih xr env1 σ1 h2 accD acc s1 r s' on1 (kb.trans k2) c2 (r2.mv mv2) ga2 (ra.mv mv2) (by simp at hl;lia) ep;refine⟨h',zs,?_,a2⟩;rw[cGo,qae ok,f1];simp only[f2,Out.ne_ok,Out.bind_ok,qar,if_false];exact a1
    | true =>
     rw[qae rfl] at ep;have ke:=e.ok c2
     cases ee:e.p env1 s1 with
     | bad=>rw[ee] at ep;cases ep
     | exc _ _=>rw[ee] at ep;cases ep
     | ok y s2 =>
      rw[ee] at ep ke;obtain⟨v,h3,f3,k3,p3,_,rv,_⟩:=ke;have rv:=rv hz;have c3:=c2.kb k3 p3;have mv3:Mv (h1.length::O) h2 (h1.length::O) h3:=k3.mv c.pO;have ga3:h3[h1.length]?=some (.lst acc):=(k3.keep _ (aW ga2) (by lia)).trans ga2;have mv4:Mv (h1.length::O) h3 (h1.length::O) (h3.set h1.length (.lst (acc++[v]))) :=
       ⟨fun n hn no=>qah (fun z=>no (by simp[z])),fun o ho=>.inl ho⟩
      have ra3:Rps q h3 (h1.length::O) (accD++[y]) (acc++[v]):=((ra.mv mv2).mv mv3).app ⟨v,[],rfl,rv,rfl⟩;rw[Pb] at ep
      cases er:cj gt.p t.p e.p ds env1 s2 with
      | bad=>rw[er] at ep;cases ep
      | exc _ _=>rw[er] at ep;cases ep
      | ok r' s3 =>
       rw[er] at ep;cases ep;have k03:KB q h1 h3:=(kb.trans k2).trans k3;have c4:Cx q (h3.set h1.length (.lst (acc++[v]))) L B (h1.length::O) ws' σ1 env1 s2:=by
        refine⟨fun o ho=>by simpa using c3.bd o ho,c3.sub,c3.bb,c3.pb,by simpa using c3.hL,?_,?_⟩
        ·unfold bA;rw[qah (by lia)];exact p3
        ·refine⟨c3.sr.len,fun i d e hi=>let ⟨v,e1,q1⟩:=c3.sr.fz i d e hi;⟨v,e1,q1.mv mv4⟩,fun i d e hi=>?_⟩;obtain⟨n,kd,ys,es,b1,b2,b3,b4,b5,b6⟩:=c3.sr.ow i d e hi;have z:=on1 i hi d e n b2;exact⟨n,kd,ys,es,b1,b2,b3,b4,by rw[qah (by lia)];exact b5,b6.mv mv4⟩
       obtain⟨h',zs,a1,a2,a3,a4,a5⟩:=ih xr env1 σ1 (h3.set h1.length (.lst (acc++[v]))) (accD++[y]) (acc++[v]) s2 r' _ on1 ⟨by simpa using k03.len,fun n hn hp=>by rw[qah (by lia)];exact k03.keep n hn hp⟩ c4 (((r2.mv mv2).mv mv3).mv mv4) (qax (aW ga3)) (ra3.mv mv4) (by simp at hl ⊢;lia) er;refine⟨h',zs,?_,a2,a3,a4,by simpa using a5⟩;rw[cGo,qae ok,f1];simp only[f2,Out.ne_ok,Out.bind_ok,if_true,f3,ga3];rw[qae (by have:=iC;have:=ra.length;simp at hl;lia)];exact a1
def bD(nv:Nat)(fm:List Nat)(i:Xi ws){ws':List Nat}(g:Xg ws')(t:Xt ws')(e:Xe ws')(hw:cws nv fm ws=ws':=by exact ys rfl)(hz:e.fz=true:=by exact ys rfl):Xe ws where
 m:=nu nv fm i.m g.m t.m e.m
 p:=fun env s=>(i.p env s).bind fun ds s1=>if ds.length<=100000 then (match cj g.p t.p e.p ds (cenv nv fm env) s1 with
  | .ok r s2=>.ok (.lst r) s2
  | _=>.bad) else .bad
 fz:=true
 fr:=true
 ok {q h L B O σ env s} c:=by
  subst hw;refine (i.ok c).bind fun ds it h1 s1 k1 p1 ⟨rx,gd,_⟩=>?_;have c1:=c.kb k1 p1;by_cases hl:ds.length<=100000
  ·rw[qae hl]
   cases er:cj g.p t.p e.p ds (cenv nv fm env) s1 with
   | bad=>trivial
   | exc _ _=>trivial
   | ok r s2 =>
    have mv:Mv O h1 (h1.length::O) (h1++[MO.lst []]):=⟨fun n hn _=>qai hn,fun o ho=>by
     rcases qag.mp ho with z|z
     ·exact .inr (by lia)
     ·exact .inl z⟩
    have sr:=(c1.sr.comp nv fm).mv mv (fun o ho=>qab _ ho) fun n hn _ _=>qai hn;have c2:Cx q (h1++[MO.lst []]) L B (h1.length::O) (cws nv fm ws) (cSt nv fm σ) (cenv nv fm env) s1:=by
     refine⟨fun o ho=>?_,fun o ho=>qab _ (c.sub o ho),c.bb,c.pb,by have:=c1.hL;simp;lia,p1.app,sr⟩;rcases qag.mp ho with z|z
     ·subst z;simp
     ·have:=c1.bd o z;simp;lia
    have hq:q<h1.length:=aW p1
    obtain⟨h',zs,a1,a2,a3,a4,a5⟩:=cGo_ok g t e hz (L:=L) (B:=B) (O:=O) hq gd ds it.xs (cenv nv fm env) (cSt nv fm σ) (h1++[MO.lst []]) [] [] s1 r s2 (fun i hi d ed n en=>by
     obtain⟨n',_,_,_,_,b2,_,_,b5,_⟩:=(c1.sr.comp nv fm).ow i d ed hi;rw[b2] at en;cases en
     exact aW b5) (KB.app _ _ _) c2 (rx.mv mv) (by simp) rfl (by simpa using hl) er
    have f:Frs q h.length O h' (.lst r) (.loc h1.length):=fun k ds e=>by
     obtain⟨rfl,rfl⟩:=fc e;exact⟨_,zs,rfl,k1.len,a4,by simpa using a5⟩
    have rr:=f.rp (k:=none) c.bd rfl;exact⟨.loc h1.length,h',by show (cGo _ _ _ _ _ _ _ _).bind _=_;rw[a1];rfl,a2,a3,.inl rr,fun _=>rr,fun _=>f⟩
  ·rw[qat hl];trivial
end
end PU
namespace PU
open PySem MM
local instance (priority:=1) cdecN4 (p:Prop):Decidable p:=Classical.propDecidable p
inductive PS where
 | nx (e:am) (s:Pen)
 | rt (d:D) (s:Pen)
 | bk (e:am) (s:Pen)
 | ct (e:am) (s:Pen)
 | exc (c:Str) (e:am) (s:Pen)
 | rse (c:Str) (e:am) (s:Pen)
 | bad
structure Stp (q L:Nat) (h:MH) (O:List Nat) (h':MH) (O':List Nat):Prop where
 len:h.length<=h'.length
 mv:Mv O h O' h'
 sub:∀o∈O,o∈O'
 base:∀n:Nat,n<L->n≠q->h'[n]?=h[n]?
def Stp.refl(q L:Nat)(h:MH)(O:List Nat):Stp q L h O h O:=⟨qaj _,⟨fun _ _ _=>rfl,fun _ h=>.inl h⟩,fun _ h=>h,fun _ _ _=>rfl⟩
def Stp.trans(a:Stp q L h O h1 O1)(b:Stp q L h1 O1 h2 O2):Stp q L h O h2 O2:=by
 refine⟨qav a.len b.len,⟨fun n hn no=>?_,fun o ho=>?_⟩,fun o ho=>b.sub o (a.sub o ho),fun n hn hq=>(b.base n hn hq).trans (a.base n hn hq)⟩
 ·have n1:n∉O1:=fun z=>by
   rcases a.mv.new n z with q|q
   ·exact no q
   ·lia
  exact (b.mv.keep n (qas hn a.len) n1).trans (a.mv.keep n hn no)
 ·rcases b.mv.new o ho with z|z
  ·exact a.mv.new o z
  ·exact .inr (qav a.len z)
def Dis(ws:List Nat)(σ:PSt)(env:am):Prop:=∀i j,i∈ws->j∈ws->i≠j->∀d d' n,env[i]?=some (some d)->env[j]?=some (some d')->σ[i]?=some (some (.loc n))->σ[j]?≠some (some (.loc n))
inductive Nxt (q L:Nat) (h:MH) (B O ws:List Nat) (σ':PSt) (h':MH) (env:am) (s:Pen):Prop
 | mk (O':List Nat) (a:Stp q L h O h' O') (c:Cx q h' L B O' ws σ' env s) (d:Dis ws σ' env):Nxt q L h B O ws σ' h' env s
inductive SNx (q L:Nat) (h:MH) (B O ws:List Nat) (f:PSt->MH->SOut) (o:SOut) (env:am) (s:Pen):Prop
 | mk (σ':PSt) (h':MH) (e:o=f σ' h') (n:Nxt q L h B O ws σ' h' env s):SNx q L h B O ws f o env s
inductive SRt (q L:Nat) (h:MH) (B:List Nat) (fr:Bool) (o:SOut) (d:D) (s:Pen):Prop
 | mk (v:PV) (h':MH) (e:o=.rt v h') (l:h.length<=h'.length) (b:∀n:Nat,n<L->n≠q->h'[n]?=h[n]?) (p:bA h' q s) (r:Rp q h' B d v) (f:fr=true->Frs q L B h' d v):SRt q L h B fr o d s
def SOk(q L:Nat)(h:MH)(B O ws:List Nat)(fr:Bool)(o:SOut)(r:PS):Prop:=match r with
 | .nx env s=>SNx q L h B O ws .nx o env s
 | .bk env s=>SNx q L h B O ws .bk o env s
 | .ct env s=>SNx q L h B O ws .ct o env s
 | .exc c env s=>SNx q L h B O ws (.exc ⟨c,[]⟩) o env s
 | .rse c env s=>SNx q L h B O ws (.rse ⟨c,[]⟩) o env s
 | .rt d s=>SRt q L h B fr o d s
 | .bad=>True
structure Xd (ws:List Nat) where
 m:Mst
 p:am->Pen->PS
 fr:Bool
 ok:∀{q h L B O σ env s},Cx q h L B O ws σ env s->Dis ws σ env->SOk q L h B O ws fr (m σ h) (p env s)
def Nxt.after(a:Stp q L h O h1 O1)(n:Nxt q L h1 B O1 ws σ' h' env s):Nxt q L h B O ws σ' h' env s :=
 let ⟨O',b,c,d⟩:=n;⟨O',a.trans b,c,d⟩
def SOk.after(a:Stp q L h O h1 O1)(k:SOk q L h1 B O1 ws fr o r):SOk q L h B O ws fr o r:=by
 cases r with
 | nx env s=>obtain⟨σ',h',e,n⟩:=k;exact⟨σ',h',e,n.after a⟩
 | bk env s=>obtain⟨σ',h',e,n⟩:=k;exact⟨σ',h',e,n.after a⟩
 | ct env s=>obtain⟨σ',h',e,n⟩:=k;exact⟨σ',h',e,n.after a⟩
 | exc c env s=>obtain⟨σ',h',e,n⟩:=k;exact⟨σ',h',e,n.after a⟩
 | rse c env s=>obtain⟨σ',h',e,n⟩:=k;exact⟨σ',h',e,n.after a⟩
 | rt d s=>obtain⟨v,h',e,l,b,r1,r2,r3⟩:=k;exact⟨v,h',e,qav a.len l,fun n hn hq=>(b n hn hq).trans (a.base n hn hq),r1,r2,r3⟩
 | bad=>trivial
def SOk.fr(hf:f'=true->f=true)(k:SOk q L h B O ws f o r):SOk q L h B O ws f' o r:=by
 cases r with
 | rt d s=>obtain⟨v,h',e,l,b,p,r,z⟩:=k;exact⟨v,h',e,l,b,p,r,fun y=>z (hf y)⟩
 | nx env s=>exact k
 | bk env s=>exact k
 | ct env s=>exact k
 | exc c env s=>exact k
 | rse c env s=>exact k
 | bad=>trivial
def KB.stp(c:Cx q h L B O ws σ env s)(k:KB q h h'):Stp q L h O h' O :=
 ⟨k.len,k.mv c.pO,fun _ h=>h,fun n hn hq=>k.keep n (qas hn c.hL) hq⟩
def PR.go{α:Type}(r:PR α)(env:am)(k:α->am->Pen->PS):PS:=match r with
 | .ok a s=>k a env s
 | .exc c s=>.exc c env s
 | .bad=>.bad
@[simp] theorem Pg(a:α)(s:Pen)(env:am)(k:α->am->Pen->PS):(PR.ok a s).go env k=k a env s:=rfl
@[simp] theorem PR.go_exc(c:Str)(s:Pen)(env:am)(k:α->am->Pen->PS):(PR.exc c s:PR α).go env k=.exc c env s:=rfl
@[simp] theorem PR.go_bad(env:am)(k:α->am->Pen->PS):(PR.bad:PR α).go env k=.bad:=rfl
theorem SOk.ex{α β:Type}{q L:Nat}{h:MH}{B O ws:List Nat}{fr:Bool}{σ:PSt}{env:am}{s:Pen}{o:Out β}{r:PR α}{R:MH->α->β->Prop}{f:β->Mst}{g:α->am->Pen->PS}(c:Cx q h L B O ws σ env s)(d:Dis ws σ env)(k:Ok q h o r R)
  (n:∀a b h1 s1,KB q h h1->Cx q h1 L B O ws σ env s1->R h1 a b->SOk q L h1 B O ws fr (f b σ h1) (g a env s1)) :
  SOk q L h B O ws fr (o.go σ f) (r.go env g):=by
 cases r with
 | ok a s1 =>
  obtain⟨b,h1,rfl,kb,pn,rr⟩:=k;exact (n a b h1 s1 kb (c.kb kb pn) rr).after (kb.stp c)
 | exc x s1 =>
  obtain⟨h1,rfl,kb,pn⟩:=k;exact⟨σ,h1,rfl,O,kb.stp c,c.kb kb pn,d⟩
 | bad=>trivial
noncomputable section
variable {ws:List Nat}
def PS.then(r:PS)(k:am->Pen->PS):PS:=match r with
 | .nx env s=>k env s
 | r=>r
@[simp] theorem az:(PS.nx env s).then k=k env s:=rfl
@[simp] theorem then_rt:(PS.rt d s).then k=.rt d s:=rfl
@[simp] theorem then_bk:(PS.bk env s).then k=.bk env s:=rfl
@[simp] theorem then_ct:(PS.ct env s).then k=.ct env s:=rfl
@[simp] theorem vw:(PS.exc c env s).then k=.exc c env s:=rfl
@[simp] theorem vM:(PS.rse c env s).then k=.rse c env s:=rfl
@[simp] theorem vJ:PS.bad.then k=.bad:=rfl
def aq(a b:Xd ws):Xd ws where
 m:=aI a.m b.m
 p:=fun env s=>(a.p env s).then b.p
 fr:=a.fr && b.fr
 ok {q h L B O σ env s} c d:=by
  have k:=a.ok c d;show SOk q L h B O ws _ ((a.m σ h).then b.m) _
  cases e:a.p env s with
  | nx env1 s1 =>
   rw[e] at k;obtain⟨σ1,h1,e1,O1,st,c1,d1⟩:=k;rw[e1];exact ((b.ok c1 d1).fr (by simp)).after st
  | rt x s1=>rw[e] at k;obtain⟨v,h',e1,r1,r2,r3,r4,r5⟩:=k;rw[e1];exact SOk.fr (f:=a.fr) (by simp;exact fun h _=>h) (show SOk q L h B O ws a.fr (.rt v h') (.rt x s1) from⟨v,h',rfl,r1,r2,r3,r4,r5⟩)
  | bk env1 s1=>rw[e] at k;obtain⟨σ',h',e1,r⟩:=k;rw[e1];exact⟨σ',h',rfl,r⟩
  | ct env1 s1=>rw[e] at k;obtain⟨σ',h',e1,r⟩:=k;rw[e1];exact⟨σ',h',rfl,r⟩
  | exc x env1 s1=>rw[e] at k;obtain⟨σ',h',e1,r⟩:=k;rw[e1];exact⟨σ',h',rfl,r⟩
  | rse x env1 s1=>rw[e] at k;obtain⟨σ',h',e1,r⟩:=k;rw[e1];exact⟨σ',h',rfl,r⟩
  | bad=>trivial
def xSkip:Xd ws where
 m:=mSkip
 p:=.nx
 fr:=true
 ok {q h L B O σ env s} c d:=⟨σ,h,rfl,O,Stp.refl _ _ _ _,c,d⟩
def ret_go{m:Mx PV}{σ:PSt}{h:MH}:bn m σ h=(m σ h).go σ fun v _ h'=>.rt v h':=by unfold bn;cases m σ h <;> rfl
def aS(e:Xe ws):Xd ws where
 m:=bn e.m
 p:=fun env s=>(e.p env s).go env fun d _ s=>.rt d s
 fr:=e.fr
 ok {q h L B O σ env s} c d:=by
  rw[ret_go];refine SOk.ex (f:=fun v _ h'=>.rt v h') (g:=fun d _ s=>.rt d s) c d (e.ok c) fun x v h1 s1 kb c1 ⟨w,z,f⟩=>?_;refine⟨v,h1,rfl,qaj _,fun _ _ _=>rfl,c1.pen,w.base c1.sub c1.bb,fun y=>?_⟩;intro k ds ed;obtain⟨n,xs,a1,a2,a3,a4⟩:=f y k ds ed
  have:=c.hL
  exact⟨n,xs,a1,by lia,a3,a4.mv ⟨fun _ _ _=>rfl,fun o ho=>.inl (by
   rcases qag.mp ho with z|z
   ·subst z;simp
   ·exact qab _ (c.sub o z))⟩⟩
def lr(i:Nat)(hi:ws.contains i=true:=by exact ys rfl):Xd ws where
 m:=bn (ae i)
 p:=fun env s=>match env[i]? with
  | some (some d)=>.rt d s
  | _=>.bad
 fr:=true
 ok {q h L B O σ env s} c d:=by
  show SOk q L h B O ws _ _ (match env[i]? with | some (some d)=>PS.rt d s | _=>.bad)
  cases e:env[i]? with
  | none=>trivial
  | some o =>
   cases o with
   | none=>trivial
   | some x =>
    obtain⟨n,kd,xs,ds,e1,e2,a,b,g,r⟩:=c.sr.ow i x e (by simpa using hi);subst e1
    have m1:Mv O h (n::B) h:=⟨fun _ _ _=>rfl,fun o ho=>.inl (by
     rcases qag.mp ho with z|z
     ·subst z;exact a
     ·exact c.sub o z)⟩
    have f:Frs q L B h (dl kd ds) (.loc n):=fun k' ds' e=>by
     have:k'=kd/\ds'=ds:=by cases kd <;> cases k' <;> cases e <;> exact⟨rfl,rfl⟩
     obtain⟨rfl,rfl⟩:=this;exact⟨n,xs,rfl,b,g,r.mv m1⟩
    refine⟨.loc n,h,by simp[bn,ae,e2],qaj _,fun _ _ _=>rfl,c.pen,f.rp c.bb rfl,fun _=>f⟩
def xIf(t:Xt ws)(a b:Xd ws):Xd ws where
 m:=mIf t.m a.m b.m
 p:=fun env s=>(t.p env s).go env fun x env s=>if x=true then a.p env s else b.p env s
 fr:=a.fr && b.fr
 ok {q h L B O σ env s} c d:=SOk.ex (f:=fun x=>if x=true then a.m else b.m) (g:=fun x env s=>if x=true then a.p env s else b.p env s) c d (t.ok c) fun x v h1 s1 kb c1 e=>by
  subst e
  cases x with
  | true=>exact (a.ok c1 d).fr (by simp;exact fun h _=>h)
  | false=>exact (b.ok c1 d).fr (by simp)
def Dis.keep(d:Dis ws σ env)(k:∀i∈ws,σ'[i]?=σ[i]?/\env'[i]?=env[i]?):Dis ws σ' env':=fun i j hi hj ne x y n a b e=>by
 rw[(k i hi).1] at e;rw[(k i hi).2] at a;rw[(k j hj).2] at b;rw[(k j hj).1];exact d i j hi hj ne x y n a b e
def aD(i:Nat)(e:Xe ws)(hi:ws.contains i=false:=by exact ys rfl)(hz:e.fz=true:=by exact ys rfl):Xd ws where
 m:=aU i e.m
 p:=fun env s=>(e.p env s).go env fun d env s=>.nx (env.set i (some d)) s
 fr:=true
 ok {q h L B O σ env s} c d:=by
  refine SOk.ex (f:=fun v σ h=>.nx (σ.set i (some v)) h) (g:=fun d env s=>.nx (env.set i (some d)) s) c d (e.ok c) fun x v h1 s1 kb c1 ⟨_,z,_⟩=>?_;obtain⟨a,b⟩:=c1.sr.set (i:=i) (fun z=>by simp[z] at hi) (z hz);exact⟨_,h1,rfl,O,Stp.refl _ _ _ _,⟨c1.bd,c1.sub,c1.bb,c1.pb,c1.hL,c1.pen,a⟩,d.keep b⟩
def D.mine:D->Bool
 | .lst _=>true
 | .dic fz _ _=>!fz
 | _=>false
def gA(i:Nat)(e:Xe ws)(hi:ws.contains i=true:=by exact ys rfl)(hz:e.fr=true:=by exact ys rfl):Xd ws where
 m:=aU i e.m
 p:=fun env s=>(e.p env s).go env fun d env s=>if d.mine=true then .nx (env.set i (some d)) s else .bad
 fr:=true
 ok {q h L B O σ env s} c d:=by
  show SOk q L h B O ws _ _ _;have k:=e.ok c;show SOk q L h B O ws _ ((e.m σ h).go σ fun v σ h=>.nx (σ.set i (some v)) h) _
  cases ee:e.p env s with
  | bad=>trivial
  | exc x s1 =>
   rw[ee] at k;obtain⟨h1,e1,kb,pn⟩:=k;rw[e1];exact⟨σ,h1,rfl,O,kb.stp c,c.kb kb pn,d⟩
  | ok x s1 =>
   rw[ee] at k;obtain⟨v,h1,e1,kb,pn,_,_,f⟩:=k;rw[e1];by_cases hm:x.mine=true
   ·obtain⟨kd,ds,rfl⟩:∃kd ds,x=dl kd ds:=by
     cases x with
     | lst ds=>exact⟨none,ds,rfl⟩
     | dic fz ks ds =>
      cases fz with
      | false=>exact⟨some ks,ds,rfl⟩
      | true=>cases hm
     | _=>cases hm
    obtain⟨n,xs,rfl,hn,g,r⟩:=f hz kd ds rfl;show SOk q L h B O ws _ _ (if (dl kd ds).mine=true then _ else _);rw[qae hm];have c1:=c.kb kb pn;have hi':i∈ws:=by simpa using hi
    have mv:Mv O h (n::O) h1:=⟨fun m hm no=>kb.keep m hm fun z=>no (z▸c.pO),fun o ho=>by
     rcases qag.mp ho with z|z
     ·exact .inr (by lia)
     ·exact .inl z⟩
    have hnO:n∉O:=fun z=>by have:=c.bd n z;lia
    refine⟨σ.set i (some (.loc n)),h1,rfl,n::O,⟨kb.len,mv,fun o ho=>qab _ ho,fun m hm hq=>kb.keep m (qas hm c.hL) hq⟩,⟨fun o ho=>?_,fun o ho=>qab _ (c.sub o ho),c.bb,c.pb,c1.hL,pn,?_⟩,?_⟩
    ·rcases qag.mp ho with z|z
     ·subst z;exact aW g
     ·exact c1.bd o z
    ·have sr:=c.sr.mv mv (fun o ho=>qab _ ho) fun m hm hl _=>kb.keep m hm (by have:=c.pL;lia);refine⟨by simp[sr.len],fun j x ej hj=>?_,fun j x ej hj=>?_⟩
     ·have ne:i≠j:=fun z=>hj (z▸hi');rw[qah ne] at ej;rw[qah ne];exact sr.fz j x ej hj
     ·by_cases z:i=j
      ·subst z;have hl:i<env.length:=by have:=(qaf.mp ej).1;simpa using this
       rw[qax hl] at ej;cases ej;exact⟨n,kd,xs,ds,rfl,qax (by rw[sr.len];exact hl),by simp,by have:=c.hL;lia,g,r⟩
      ·rw[qah z] at ej;rw[qah z];exact sr.ow j x ej hj
    ·have old:∀j d,j∈ws->i≠j->(env.set i (some (dl kd ds)))[j]?=some (some d)->(σ.set i (some (.loc n)))[j]?≠some (some (.loc n)):=fun j d hj ne ej z=>by
      rw[qah ne] at ej z;obtain⟨n',_,_,_,_,b2,b3,_⟩:=c.sr.ow j d ej hj;rw[z] at b2;cases b2;exact hnO b3
     intro a b ha hb ne x y m ea eb es;by_cases z1:i=a
     ·subst z1;have hl:i<σ.length:=by have:=(qaf.mp es).1;simpa using this
      rw[qax hl] at es;cases es;exact old b y hb ne eb
     ·by_cases z2:i=b
      ·subst z2;intro z;have hl:i<σ.length:=by have:=(qaf.mp z).1;simpa using this
       rw[qax hl] at z;cases z;exact old a x ha z1 ea es
      ·rw[qah z1] at ea es;rw[qah z2] at eb ⊢;exact d a b ha hb ne x y m ea eb es
   ·show SOk q L h B O ws _ _ (if x.mine=true then _ else _);rw[qat hm];trivial
end
end PU
namespace PU
open PySem MM
open L2 (ixN)
local instance (priority:=1) cdecN5 (p:Prop):Decidable p:=Classical.propDecidable p
noncomputable section
variable {ws:List Nat}
def PS.turn(r:PS)(k:am->Pen->PS):PS:=match r with
 | .nx e s=>k e s
 | .ct e s=>k e s
 | .bk e s=>.nx e s
 | r=>r
@[simp] theorem turn_nx:(PS.nx e s).turn k=k e s:=rfl
@[simp] theorem turn_ct:(PS.ct e s).turn k=k e s:=rfl
@[simp] theorem turn_bk:(PS.bk e s).turn k=.nx e s:=rfl
@[simp] theorem turn_rt:(PS.rt d s).turn k=.rt d s:=rfl
@[simp] theorem vq:(PS.exc c e s).turn k=.exc c e s:=rfl
@[simp] theorem vj:(PS.rse c e s).turn k=.rse c e s:=rfl
@[simp] theorem turn_bad:PS.bad.turn k=.bad:=rfl
def pGo(g:D->am->Option am)(b:am->Pen->PS):List D->am->Pen->PS
 | [],env,s=>.nx env s
 | d::ds,env,s=>match g d env with
  | none=>.bad
  | some env1=>(b env1 s).turn (pGo g b ds)
def mGo_ok(g:Xg ws)(b:Xd ws):∀(ds:List D) (xs:List PV) (env:am) (σ:PSt) (h:MH) (O:List Nat) (s:Pen),Cx q h L B O ws σ env s->Dis ws σ env->Rps q h O ds xs->(∀y∈it.gd,h[y.1]?=some (.lst y.2)/\y.1∉O) ->
  SOk q L h B O ws b.fr (mGo it g.m b.m xs σ h) (pGo g.p b.p ds env s):=by
 intro ds
 induction ds with
 | nil =>
  intro xs env σ h O s c d r gd
  have:xs=[]:=r
  subst this;have ok:it.ok h:=fun y hy=>(gd y hy).1;refine⟨σ,h,by rw[mGo];dsimp only;rw[qae ok],O,Stp.refl _ _ _ _,c,d⟩
 | cons x ds ih =>
  intro xs env σ h O s c d r gd;obtain⟨v,xr,rfl,r1,r2⟩:=r;have ok:it.ok h:=fun y hy=>(gd y hy).1;rw[pGo]
  cases eg:g.p x env with
  | none=>trivial
  | some env1 =>
   obtain⟨σ1,f1,sr,k⟩:=g.ok c.sr r1 eg;have c1:Cx q h L B O ws σ1 env1 s:=⟨c.bd,c.sub,c.bb,c.pb,c.hL,c.pen,sr⟩;have kb:=b.ok c1 (d.keep k)
   have em:mGo it g.m b.m (v::xr) σ h=(match b.m σ1 h with
    | .nx σ2 h2=>mGo it g.m b.m xr σ2 h2
    | .ct σ2 h2=>mGo it g.m b.m xr σ2 h2
    | .bk σ2 h2=>.nx σ2 h2
    | .rt v h2=>.rt v h2
    | .exc e σ2 h2=>.exc e σ2 h2
    | .rse e σ2 h2=>.rse e σ2 h2
    | .bad=>.bad):=by rw[mGo];dsimp only;(rw[qae ok,f1]) <;> rfl
   rw[em];have gd':∀{h2:MH} {O2:List Nat},Stp q L h O h2 O2->∀y∈it.gd,h2[y.1]?=some (.lst y.2)/\y.1∉O2:=fun st y hy=>by
    obtain⟨a,b⟩:=st.mv.get (gd y hy).1 (gd y hy).2;exact⟨b,a⟩
   dsimp only
   cases eb:b.p env1 s with
   | bad=>trivial
   | nx e2 s2 =>
    rw[eb] at kb;obtain⟨σ2,h2,e1,O2,st,c2,d2⟩:=kb;rw[e1];exact (ih xr e2 σ2 h2 O2 s2 c2 d2 (r2.mv st.mv) (gd' st)).after st
   | ct e2 s2 =>
    rw[eb] at kb;obtain⟨σ2,h2,e1,O2,st,c2,d2⟩:=kb;rw[e1];exact (ih xr e2 σ2 h2 O2 s2 c2 d2 (r2.mv st.mv) (gd' st)).after st
   | bk e2 s2=>rw[eb] at kb;obtain⟨σ2,h2,e1,r⟩:=kb;rw[e1];exact⟨σ2,h2,rfl,r⟩
   | exc x e2 s2=>rw[eb] at kb;obtain⟨σ2,h2,e1,r⟩:=kb;rw[e1];exact⟨σ2,h2,rfl,r⟩
   | rse x e2 s2=>rw[eb] at kb;obtain⟨σ2,h2,e1,r⟩:=kb;rw[e1];exact⟨σ2,h2,rfl,r⟩
   | rt x s2=>rw[eb] at kb;obtain⟨v,h2,e1,r1,r2,r3,r4,r5⟩:=kb;rw[e1];exact⟨v,h2,rfl,r1,r2,r3,r4,r5⟩
def lL(i:Xi ws)(g:Xg ws)(b:Xd ws)(hz:i.fz=true:=by exact ys rfl):Xd ws where
 m:=nS i.m g.m b.m
 p:=fun env s=>(i.p env s).go env fun ds env s=>pGo g.p b.p ds env s
 fr:=b.fr
 ok {q h L B O σ env s} c d:=SOk.ex (f:=fun it=>mGo it g.m b.m it.xs) (g:=fun ds env s=>pGo g.p b.p ds env s) c d (i.ok c) fun ds it h1 s1 kb c1 r =>
  mGo_ok g b ds it.xs env σ h1 O s1 c1 d r.1 fun y hy=>⟨(r.2.1 y hy).1,r.2.2 hz y hy⟩
def cA(t:am->Pen->PR Bool)(b:am->Pen->PS):Nat->am->Pen->PS
 | 0,_,_=>.bad
 | n+1,env,s=>(t env s).go env fun x env s=>if x=true then (b env s).turn (cA t b n) else .nx env s
def lV(t:Xt ws)(b:Xd ws):∀(n:Nat) (env:am) (σ:PSt) (h:MH) (O:List Nat) (s:Pen),Cx q h L B O ws σ env s->Dis ws σ env->SOk q L h B O ws b.fr (bJ t.m b.m n σ h) (cA t.p b.p n env s)
 | 0,env,σ,h,O,s,c,d=>trivial
 | n+1,env,σ,h,O,s,c,d=>by
  refine SOk.ex c d (t.ok c) fun x v h1 s1 kb c1 e=>?_;subst e
  cases x with
  | false=>exact⟨σ,h1,rfl,O,Stp.refl _ _ _ _,c1,d⟩
  | true =>
   have k:=b.ok c1 d;rw[qae rfl]
   cases eb:b.p env s1 with
   | bad=>trivial
   | nx e2 s2 =>
    rw[eb] at k;obtain⟨σ2,h2,e1,O2,st,c2,d2⟩:=k;rw[e1];exact (lV t b n e2 σ2 h2 O2 s2 c2 d2).after st
   | ct e2 s2 =>
    rw[eb] at k;obtain⟨σ2,h2,e1,O2,st,c2,d2⟩:=k;rw[e1];exact (lV t b n e2 σ2 h2 O2 s2 c2 d2).after st
   | bk e2 s2=>rw[eb] at k;obtain⟨σ2,h2,e1,r⟩:=k;rw[e1];exact⟨σ2,h2,rfl,r⟩
   | exc x e2 s2=>rw[eb] at k;obtain⟨σ2,h2,e1,r⟩:=k;rw[e1];exact⟨σ2,h2,rfl,r⟩
   | rse x e2 s2=>rw[eb] at k;obtain⟨σ2,h2,e1,r⟩:=k;rw[e1];exact⟨σ2,h2,rfl,r⟩
   | rt x s2=>rw[eb] at k;obtain⟨v,h2,e1,r1,r2,r3,r4,r5⟩:=k;rw[e1];exact⟨v,h2,rfl,r1,r2,r3,r4,r5⟩
def xWh(N:Nat)(t:Xt ws)(b:Xd ws)(hm:∀{σ h n},bJ t.m b.m n σ h≠.bad->mWh t.m b.m σ h=bJ t.m b.m n σ h):Xd ws where
 m:=mWh t.m b.m
 p:=cA t.p b.p N
 fr:=b.fr
 ok {q h L B O σ env s} c d:=by
  have k:=lV t b N env σ h O s c d;by_cases z:bJ t.m b.m N σ h=.bad
  ·rw[z] at k
   cases e:cA t.p b.p N env s with
   | bad=>trivial
   | nx e2 s2=>rw[e] at k;obtain⟨_,_,e1,_⟩:=k;cases e1
   | ct e2 s2=>rw[e] at k;obtain⟨_,_,e1,_⟩:=k;cases e1
   | bk e2 s2=>rw[e] at k;obtain⟨_,_,e1,_⟩:=k;cases e1
   | exc x e2 s2=>rw[e] at k;obtain⟨_,_,e1,_⟩:=k;cases e1
   | rse x e2 s2=>rw[e] at k;obtain⟨_,_,e1,_⟩:=k;cases e1
   | rt x s2=>rw[e] at k;obtain⟨_,_,e1,_⟩:=k;cases e1
  ·rw[hm z];exact k
structure OpM where
 m:Nat->List PV->MH->Out PV
 p:List D->List D->Option (D × List D)
 ok:∀{q:Nat} {h:MH} {O:List Nat} {n:Nat} {xs:List PV} {ds as:List D} {vs:List PV} {d:D} {ds':List D},h[n]?=some (.lst xs)->Rps q h O ds xs->Rps q h O as vs->p ds as=some (d,ds')->∃v xs',m n vs h=.ok v (h.set n (.lst xs'))/\Rps q h O ds' xs'/\Rp q h O d v
def ut{q h L B O σ env s n xs' ds' i d0 kd}(c:Cx q h L B O ws σ env s)(d:Dis ws σ env)(hi:i∈ws)(e:env[i]?=some (some d0))(es:σ[i]?=some (some (.loc n)))(r:Rps q h O ds' xs') :
  Nxt q L h B O ws σ (h.set n (mo kd xs')) (env.set i (some (dl kd ds'))) s:=by
 obtain⟨n',k0,xs,ds0,e0,e2,a,b,g,r0⟩:=c.sr.ow i _ e hi;rw[es] at e2;cases e2;have mv:Mv O h O (h.set n (mo kd xs')):=⟨fun m hm no=>qah (fun (z:n=m)=>no (z▸a)),fun o ho=>.inl ho⟩;have hp:=c.pL;have il:=(qaf.mp e).1;refine⟨O,⟨by simp,mv,fun _ h=>h,fun m hm _=>qah (by lia)⟩,⟨fun o ho=>by simpa using c.bd o ho,c.sub,c.bb,c.pb,by simpa using c.hL,?_,⟨by simp[c.sr.len],fun j x ej hj=>?_,fun j x ej hj=>?_⟩⟩,?_⟩
 ·unfold bA;rw[qah (by lia)];exact c.pen
 ·have ne:i≠j:=fun z=>hj (z▸hi);rw[qah ne] at ej;obtain⟨v,e1,w⟩:=c.sr.fz j x ej hj;exact⟨v,e1,w.mv mv⟩
 ·by_cases z:i=j
  ·subst z;rw[qax il] at ej;cases ej;exact⟨n,kd,xs',ds',rfl,es,a,b,qax (aW g),r.mv mv⟩
  ·rw[qah z] at ej;obtain⟨m,k1,ys,es',e1,e3,b3,b4,b5,b6⟩:=c.sr.ow j x ej hj
   have:n≠m:=fun y=>d i j hi hj z _ _ n e ej es (y▸e3)
   exact⟨m,k1,ys,es',e1,e3,b3,b4,by rw[qah this];exact b5,b6.mv mv⟩
 ·intro j k hj hk ne x y m ej ek e1;have up:∀j x,(env.set i (some (dl kd ds')))[j]?=some (some x)->∃x',env[j]?=some (some x'):=fun j x ej=>by
   by_cases z:i=j
   ·subst z;exact⟨_,e⟩
   ·rw[qah z] at ej;exact⟨x,ej⟩
  obtain⟨x',ej'⟩:=up j x ej;obtain⟨y',ek'⟩:=up k y ek;exact d j k hj hk ne x' y' m ej' ek' e1
def own_set{q h L B O σ env s n xs' ds' i ds}(c:Cx q h L B O ws σ env s)(d:Dis ws σ env)(hi:i∈ws)(e:env[i]?=some (some (D.lst ds)))(es:σ[i]?=some (some (.loc n)))(r:Rps q h O ds' xs') :
  Nxt q L h B O ws σ (h.set n (.lst xs')) (env.set i (some (.lst ds'))) s:=ut (kd:=none) c d hi e es r
def mt_ok(o:OpM)(i:Nat)(a:Xs ws)(hi:i∈ws)(hz:a.fz=true){q h L B O σ env s}(c:Cx q h L B O ws σ env s)(d:Dis ws σ env)
  (ea:a.p env s=.ok as s1) (ei:env[i]?=some (some (.lst ds))) (eo:o.p ds as=some (r,ds')):∃v h1 n xs',KB q h h1/\Cx q h1 L B O ws σ env s1/\σ[i]?=some (some (.loc n))/\mMt o.m (ae i) a.m σ h=.ok v (h1.set n (.lst xs'))/\Rps q h1 O ds' xs'/\Rp q h1 O r v:=by
 obtain⟨n,kd,xs,ds0,e0,e2,b1,b2,g,r0⟩:=c.sr.ow i _ ei hi;obtain⟨rfl,rfl⟩:=fc e0;replace g:h[n]?=some (.lst xs):=g;have ka:=a.ok c;rw[ea] at ka;obtain⟨vs,h1,e3,kb,pn,_,rv⟩:=ka;have c1:=c.kb kb pn;have g1:=(kb.keep n (aW g) (by have:=c.pL;lia)).trans g;obtain⟨v,xs',e4,r1,r2⟩:=o.ok g1 (r0.mv (kb.mv c.pO)) (rv hz) eo;refine⟨v,h1,n,xs',kb,c1,e2,?_,r1,r2⟩;have em:ae i σ h=.ok (.loc n) h:=by simp[ae,e2]
 simp_all
def pMt(o:OpM)(i:Nat)(a:am->Pen->PR (List D))(env:am)(s:Pen)(k:D->am->Pen->PS):PS:=match a env s with
 | .ok as s1=>(match env[i]? with
  | some (some (.lst ds))=>(match o.p ds as with
   | some (r,ds')=>k r (env.set i (some (.lst ds'))) s1
   | none=>.bad)
  | _=>.bad)
 | _=>.bad
def tO(e1:a env s=.ok as s1)(e2:env[i]?=some (some (.lst ds)))(e3:o.p ds as=some (r,ds')):pMt o i a env s k=k r (env.set i (some (.lst ds'))) s1:=by
 simp only[pMt,e1,e2,e3]
def pMt_inv:pMt o i a env s k=.bad\/∃as s1 ds r ds',a env s=.ok as s1/\env[i]?=some (some (.lst ds))/\o.p ds as=some (r,ds')/\pMt o i a env s k=k r (env.set i (some (.lst ds'))) s1:=by
 cases e1:a env s with
 | bad=>left;simp only[pMt,e1]
 | exc _ _=>left;simp only[pMt,e1]
 | ok as s1 =>
  cases e2:env[i]? with
  | none=>left;simp only[pMt,e1,e2]
  | some x =>
   cases x with
   | none=>left;simp only[pMt,e1,e2]
   | some d =>
    cases d with
    | lst ds =>
     cases e3:o.p ds as with
     | none=>left;simp only[pMt,e1,e2,e3]
     | some y=>exact .inr ⟨as,s1,ds,y.1,y.2,rfl,rfl,e3,tO e1 e2 e3⟩
    | _=>left;simp only[pMt,e1,e2]
def xMt(o:OpM)(i:Nat)(a:Xs ws)(hi:ws.contains i=true:=by exact ys rfl)(hz:a.fz=true:=by exact ys rfl):Xd ws where
 m:=gu (mMt o.m (ae i) a.m)
 p:=fun env s=>pMt o i a.p env s fun _=>.nx
 fr:=true
 ok {q h L B O σ env s} c d:=by
  rcases pMt_inv (o:=o) (i:=i) (a:=a.p) (env:=env) (s:=s) (k:=fun _=>.nx) with z|⟨as,s1,ds,r,ds',e1,e2,e3,z⟩
  ·rw[z];trivial
  ·rw[z];have hi':i∈ws:=by simpa using hi
   obtain⟨v,h1,n,xs',kb,c1,es,em,r1,r2⟩:=mt_ok o i a hi' hz c d e1 e2 e3;refine⟨σ,h1.set n (.lst xs'),?_,(own_set c1 d hi' e2 es r1).after (kb.stp c)⟩;unfold gu mEx;rw[em];rfl
def Vw.int(w:Vw q h L O (.int b) v):v=.int b:=by
 rcases w with r|⟨n,kd,xs,ds,e,_⟩
 ·exact r
 ·cases kd <;> cases e
def PS.fin(r:PS):PR D:=match r with
 | .nx _ s=>.ok .non s
 | .rt d s=>.ok d s
 | .exc c _ s=>.exc c s
 | .rse c _ s=>.exc c s
 | _=>.bad
@[simp] theorem fin_nx:(PS.nx e s).fin=.ok .non s:=rfl
@[simp] theorem bP:(PS.rt d s).fin=.ok d s:=rfl
@[simp] theorem fin_exc:(PS.exc c e s).fin=.exc c s:=rfl
@[simp] theorem fin_rse:(PS.rse c e s).fin=.exc c s:=rfl
@[simp] theorem fin_bad:PS.bad.fin=.bad:=rfl
def dSt(n:Nat)(ds:List D):am:=ds.map some++List.replicate (n - ds.length) none
def ba(n np:Nat)(b:Xd ws)(hw:ws.all (fun i=>decide (np<=i))=true:=by exact ys rfl):Fn where
 m:=dE n np b.m
 p:=fun ds s=>if ds.length=np then (b.p (dSt n ds) s).fin else .bad
 fr:=b.fr
 ok {q h O vs ds s} bd hq pn r:=by
  by_cases hl:ds.length=np
  ·rw[qae hl];have hv:vs.length=np:=by rw[r.length];exact hl
   have low:∀i d,(dSt n ds)[i]?=some (some d)->i<np/\ds[i]?=some d:=fun i d e=>by
    by_cases z:i<ds.length
    ·refine⟨by lia,?_⟩;unfold dSt at e;rw[qai (by simpa using z)] at e;simp at e;simpa using e
    ·unfold dSt at e;rw[qay (by simpa using z)] at e;by_cases y:i - (ds.map some).length<n - ds.length
     ·simp[qaM,y] at e
     ·simp at y e;exact absurd e (by simp[qaM])
   have nw:∀i d,(dSt n ds)[i]?=some (some d)->i∉ws:=fun i d e hi=>by
    have:=(low i d e).1
    rw[qbn] at hw
    have:=hw i hi
    simp at this;lia
   have c:Cx q h h.length O O ws (bH n vs) (dSt n ds) s:=by
    refine⟨bd,fun _ h=>h,bd,hq,qaj _,pn,⟨by simp[bH,dSt,r.length],fun i d e _=>?_,fun i d e hi=>absurd hi (nw i d e)⟩⟩;obtain⟨v,ev,rv⟩:=r.get (low i d e).2;refine⟨v,?_,rv⟩;unfold bH;rw[qai (by simpa using (qaf.mp ev).1)];simp[ev]
   have k:=b.ok c fun i j hi _ _ d _ _ e=>absurd hi (nw i d e)
   have em:dE n np b.m vs h=(match b.m (bH n vs) h with
    | .nx _ h'=>.ok .non h'
    | .rt v h'=>.ok v h'
    | .exc x _ h'=>.exc x h'
    | .rse x _ h'=>.exc x h'
    | _=>.bad):=by unfold dE;(rw[qae hv]) <;> (cases b.m (bH n vs) h <;> rfl)
   rw[em];have kb:∀{h' O'},Stp q h.length h O h' O'->KB q h h':=fun st=>⟨st.len,fun m hm hq=>st.base m hm hq⟩
   cases e:b.p (dSt n ds) s with
   | nx e1 s1=>rw[e] at k;obtain⟨σ',h',f,O',st,c',_⟩:=k;rw[f];exact⟨.non,h',rfl,kb st,c'.pen,rfl,fun _ k ds e=>by cases k <;> cases e⟩
   | exc x e1 s1=>rw[e] at k;obtain⟨σ',h',f,O',st,c',_⟩:=k;rw[f];exact⟨h',rfl,kb st,c'.pen⟩
   | rse x e1 s1=>rw[e] at k;obtain⟨σ',h',f,O',st,c',_⟩:=k;rw[f];exact⟨h',rfl,kb st,c'.pen⟩
   | rt x s1=>rw[e] at k;obtain⟨v,h',f,l,b,p,rr,rs⟩:=k;rw[f];exact⟨v,h',rfl,⟨l,b⟩,p,rr,rs⟩
   | bk e1 s1=>trivial
   | ct e1 s1=>trivial
   | bad=>trivial
  ·rw[qat hl];trivial
end
end PU
namespace PU
open PySem MM SetT SortT
open L2 (ixN atI di)
local instance (priority:=1) cdecN6 (p:Prop):Decidable p:=Classical.propDecidable p
noncomputable section
section
variable {q:Nat} {h:MH} {L:Nat} {O:List Nat} {v:PV}
def Vw.non(w:Vw q h L O .non v):v=.non:=by
 rcases w with r|⟨n,kd,xs,ds,e,_⟩
 ·exact r
 ·cases kd <;> cases e
def Vw.str(w:Vw q h L O (.str x) v):v=.str x:=by
 rcases w with r|⟨n,kd,xs,ds,e,_⟩
 ·exact r
 ·cases kd <;> cases e
inductive VwL (h:MH) (P:List PV->Prop) (v:PV):Prop
 | mk (n:Nat) (xs:List PV) (e:v=.loc n) (g:h[n]?=some (.lst xs)) (r:P xs):VwL h P v
def Vw.lst(w:Vw q h L O (.lst ds) v):VwL h (Rps q h O ds) v:=by
 rcases w with ⟨n,xs,e,_,g,r⟩|⟨n,kd,xs,ds',e,e1,_,_,g,r⟩
 ·exact⟨n,xs,e,g,r⟩
 ·obtain⟨rfl,rfl⟩:=fc e;exact⟨n,xs,e1,g,r⟩
def Vw.tup(w:Vw q h L O (.tup ds) v):RcT (Rps q h O ds) v:=by
 rcases w with r|⟨n,kd,xs,ds',e,_⟩
 ·exact r
 ·cases kd <;> cases e
def gv0(r:Rp q h O d v)(hf:fr=true->∀k ds,d≠dl k ds):Gv q h O fr (.ok v h) d :=
 ⟨v,[],by simp,by simpa using r,fun z k ds e=>absurd e (hf z k ds)⟩
def gvI:Gv q h O fr (.ok (.int i) h) (.int i):=gv0 rfl fun _ k _ e=>by cases k <;> cases e
def gvB:Gv q h O fr (.ok (.bl i) h) (.bl i):=gv0 rfl fun _ k _ e=>by cases k <;> cases e
def bU(w:Vws q h L O [d] vs):∃x,vs=[x]/\Vw q h L O d x:=by
 obtain⟨x,r,e,a,b⟩:=w
 have:r=[]:=b
 subst this;exact⟨x,e,a⟩
end
def nR(m:PV->PV->MH->Out PV)(f:Int->Int->D)(g:Int->Int->PV)(hm:∀i j h,m (.int i) (.int j) h=.ok (g i j) h)(hg:∀i j q h O fr,Gv q h O fr (.ok (g i j) h) (f i j)):Op2 where
 m:=m
 p:=fun a b=>match a,b with
  | .int i,.int j=>some (f i j)
  | _,_=>none
 fr:=true
 ok {q h L O a x b y d} bd wa wb e:=by
  cases a with
  | int i =>
   cases b with
   | int j=>cases e;rw[wa.int,wb.int,hm];exact hg i j q h O true
   | _=>cases e
  | _=>cases e
def gS:Op2:=nR opSub (fun i j=>.int (i - j)) (fun i j=>.int (i - j)) (fun _ _ _=>rfl) fun _ _ _ _ _ _=>gvI
def oLt:Op2:=nR opLt (fun i j=>.bl (decide (i<j))) (fun i j=>.bl (decide (i<j))) (fun _ _ _=>rfl) fun _ _ _ _ _ _=>gvB
def oLe:Op2:=nR opLe (fun i j=>.bl (decide (i<=j))) (fun i j=>.bl (decide (i<=j))) (fun _ _ _=>rfl) fun _ _ _ _ _ _=>gvB
def oGt:Op2:=nR opGt (fun i j=>.bl (decide (j<i))) (fun i j=>.bl (decide (j<i))) (fun _ _ _=>rfl) fun _ _ _ _ _ _=>gvB
def oGe:Op2:=nR opGe (fun i j=>.bl (decide (j<=i))) (fun i j=>.bl (decide (j<=i))) (fun _ _ _=>rfl) fun _ _ _ _ _ _=>gvB
def o3:Op2 where
 m:=opAdd
 p:=fun a b=>match a,b with
  | .int i,.int j=>some (.int (i+j))
  | .lst x,.lst y=>if x.length+y.length<=100000 then some (.lst (x++y)) else none
  | .tup (a::x),.tup y=>if x.length+1+y.length<=100000 then some (.tup (a::x++y)) else none
  | _,_=>none
 fr:=true
 ok {q h L O a x b y d} bd wa wb e:=by
  cases a with
  | int i =>
   cases b with
   | int j=>cases e;rw[wa.int,wb.int];exact gvI
   | _=>cases e
  | lst x =>
   cases b with
   | lst y =>
    dsimp only at e;by_cases z:x.length+y.length<=100000
    ·rw[qae z] at e;cases e;obtain⟨n,xs,rfl,g,r⟩:=wa.lst;obtain⟨n',ys,rfl,g',r'⟩:=wb.lst;show Gv q h O true (match h[n]?,h[n']? with | some (.lst xs),some (.lst ys)=>newL (xs++ys) h | _,_=>.bad) _;rw[g,g'];exact lJ bd (r.app r') (by simpa using z)
    ·rw[qat z] at e;cases e
   | _=>cases e
  | tup x =>
   cases x with
   | nil=>cases b <;> cases e
   | cons a x =>
    cases b with
    | tup y =>
     dsimp only at e;by_cases z:x.length+1+y.length<=100000
     ·rw[qae z] at e;cases e;obtain⟨xs,rfl,r⟩:=wa.tup;obtain⟨ys,rfl,r'⟩:=wb.tup;have ne:xs≠[]:=fun z=>by have:=r.length;simp[z] at this
      show Gv q h O true (if xs≠[] then newT (xs++ys) h else .bad) _;rw[qae ne];exact qx (r.app r') (by simp;lia)
     ·rw[qat z] at e;cases e
    | _=>cases e
  | _=>cases e
def oFd:Op2 where
 m:=opFd
 p:=fun a b=>match a,b with
  | .int i,.int j=>if j≠0 then some (.int (i.fdiv j)) else none
  | _,_=>none
 fr:=true
 ok {q h L O a x b y d} bd wa wb e:=by
  cases a with
  | int i =>
   cases b with
   | int j =>
    dsimp only at e;by_cases z:j≠0
    ·rw[qae z] at e;cases e;rw[wa.int,wb.int];show Gv q h O true (if j≠0 then .ok (.int (i.fdiv j)) h else .bad) _;rw[qae z];exact gvI
    ·rw[qat z] at e;cases e
   | _=>cases e
  | _=>cases e
def io:Op2 where
 m:=opMod
 p:=fun a b=>match a,b with
  | .int i,.int j=>if j≠0 then some (.int (i.fmod j)) else none
  | _,_=>none
 fr:=true
 ok {q h L O a x b y d} bd wa wb e:=by
  cases a with
  | int i =>
   cases b with
   | int j =>
    dsimp only at e;by_cases z:j≠0
    ·rw[qae z] at e;cases e;rw[wa.int,wb.int];show Gv q h O true (if j≠0 then .ok (.int (i.fmod j)) h else .bad) _;rw[qae z];exact gvI
    ·rw[qat z] at e;cases e
   | _=>cases e
  | _=>cases e
def dD:Op2 where
 m:=opPow
 p:=fun a b=>match a,b with
  | .int i,.int j=>if di i j then some (.int (i ^ j.toNat)) else none
  | _,_=>none
 fr:=true
 ok {q h L O a x b y d} bd wa wb e:=by
  cases a with
  | int i =>
   cases b with
   | int j =>
    dsimp only at e;by_cases z:di i j
    ·rw[qae z] at e;cases e;rw[wa.int,wb.int];show Gv q h O true (if di i j then .ok (.int (i ^ j.toNat)) h else .bad) _;rw[qae z];exact gvI
    ·rw[qat z] at e;cases e
   | _=>cases e
  | _=>cases e
def oIx:Op2 where
 m:=bW
 p:=fun a b=>match a,b with
  | .lst x,.int j=>atI x j
  | .tup x,.int j=>atI x j
  | _,_=>none
 fr:=false
 ok {q h L O a x b y d} bd wa wb e:=by
  have at':∀{ds:List D} {xs:List PV} {j:Int},Rps q h O ds xs->atI ds j=some d->∃v,atI xs j=some v/\Rp q h O d v:=fun {ds xs j} r e=>by
   unfold atI at e ⊢;rw[r.length]
   cases e1:ixN ds.length j with
   | none=>rw[e1] at e;cases e
   | some k=>rw[e1] at e;exact r.get e
  cases b with
  | int j =>
   rw[wb.int]
   cases a with
   | lst ds =>
    obtain⟨n,xs,rfl,g,r⟩:=wa.lst;obtain⟨v,e1,rv⟩:=at' r e;show Gv q h O false (match h[n]? with | some (.lst xs)=>(match atI xs j with | some v=>.ok v h | none=>.bad) | _=>.bad) _;rw[g];dsimp only;rw[e1];exact gv0 rv fun z=>by cases z
   | tup ds =>
    obtain⟨xs,rfl,r⟩:=wa.tup;obtain⟨v,e1,rv⟩:=at' r e;show Gv q h O false (match atI xs j with | some v=>.ok v h | none=>.bad) _;rw[e1];exact gv0 rv fun z=>by cases z
   | _=>cases e
  | _=>cases a <;> cases e
def oIs(neg:Bool):Op2 where
 m:=opIs neg
 p:=fun a b=>match b with
  | .non=>(match a with
   | .non=>some (.bl (!neg))
   | _=>some (.bl neg))
  | .bl b=>(match a with
   | .bl c=>some (.bl (if neg then !(c == b) else c == b))
   | .non=>some (.bl neg)
   | .int _=>some (.bl neg)
   | .str _=>some (.bl neg)
   | .tup _=>some (.bl neg)
   | _=>none)
  | _=>none
 fr:=true
 ok {q h L O a x b y d} bd wa wb e:=by
  have loc:∀{a:D} {x:PV},Vw q h L O a x->(∃ds,a=.lst ds)\/(∃fz ks ds,a=.dic fz ks ds)\/(∃c,a=.exc c)\/a=.pen->∃n,x=.loc n:=fun {a x} w z=>by
   rcases w with r|⟨n,kd,xs,ds,e,e1,_⟩
   ·rcases z with ⟨ds,rfl⟩|⟨_,_,_,rfl⟩|⟨c,rfl⟩|rfl
    ·obtain⟨n,_,e,_⟩:=r;exact⟨n,e⟩
    ·obtain⟨n,_,e,_⟩:=r;exact⟨n,e⟩
    ·obtain⟨n,e,_⟩:=r;exact⟨n,e⟩
    ·exact⟨q,r⟩
   ·exact⟨n,e1⟩
  cases b with
  | non =>
   rw[wb.non]
   cases a with
   | non=>cases e;rw[wa.non];exact gvB
   | bl c=>cases e;rw[wa.bl];exact gvB
   | int c=>cases e;rw[wa.int];exact gvB
   | str c=>cases e;rw[wa.str];exact gvB
   | tup c=>cases e;obtain⟨xs,rfl,_⟩:=wa.tup;exact gvB
   | lst c=>cases e;obtain⟨n,rfl⟩:=loc wa (.inl ⟨_,rfl⟩);exact gvB
   | dic a b c=>cases e;obtain⟨n,rfl⟩:=loc wa (.inr (.inl ⟨_,_,_,rfl⟩));exact gvB
   | exc c=>cases e;obtain⟨n,rfl⟩:=loc wa (.inr (.inr (.inl ⟨_,rfl⟩)));exact gvB
   | pen=>cases e;obtain⟨n,rfl⟩:=loc wa (.inr (.inr (.inr rfl)));exact gvB
  | bl b =>
   rw[wb.bl]
   cases a with
   | non=>cases e;rw[wa.non];exact gvB
   | bl c=>cases e;rw[wa.bl];exact gvB
   | int c=>cases e;rw[wa.int];exact gvB
   | str c=>cases e;rw[wa.str];exact gvB
   | tup c=>cases e;obtain⟨xs,rfl,_⟩:=wa.tup;exact gvB
   | _=>cases e
  | _=>cases e
mutual
def py:D->Option PyData
 | .non=>some .none
 | .bl b=>some (.bool b)
 | .int i=>some (.int i)
 | .str x=>some (.str x)
 | .tup ds=>(pys ds).map .tuple
 | .lst ds=>(pys ds).map .list
 | _=>none
def pys:List D->Option (List PyData)
 | []=>some []
 | d::ds=>match py d,pys ds with
  | some x,some xs=>some (x::xs)
  | _,_=>none
end
mutual
def dep:D->Nat
 | .tup ds=>1+deps ds
 | .lst ds=>1+deps ds
 | _=>0
def deps:List D->Nat
 | []=>0
 | d::ds=>max (dep d) (deps ds)
end
def qE(d:D):(∀(v:PV) (e:PyData) (n:Nat),Rp q h O d v->py d=some e->dep d<=n->rd n h v=some e):=by
 refine D.rec (motive_1:=fun d=>∀(v:PV) (e:PyData) (n:Nat),Rp q h O d v->py d=some e->dep d<=n->rd n h v=some e)
  (motive_2:=fun ds=>∀(vs:List PV) (es:List PyData) (n:Nat),Rps q h O ds vs->pys ds=some es->deps ds<=n->ck (rd n h) vs=some es)
  (fun v _ n r e _=>?_) (fun b v _ n r e _=>?_) (fun b v _ n r e _=>?_) (fun b v _ n r e _=>?_) (fun ds ih v e n r ep hd=>?_) (fun ds ih v e n r ep hd=>?_) (fun _ _ _ _ _ _ _ _ e _=>?_) (fun _ _ _ _ _ e _=>?_) (fun _ _ _ _ e _=>?_)
  (fun vs es n r e _=>?_) (fun d ds i1 i2 vs es n r e hd=>?_) d
 ·rw[show v=PV.non from r];cases e;cases n <;> rfl
 ·rw[show v=PV.bl b from r];cases e;cases n <;> rfl
 ·rw[show v=PV.int b from r];cases e;cases n <;> rfl
 ·rw[show v=PV.str b from r];cases e;cases n <;> rfl
 ·obtain⟨xs,ex,r⟩:=r;subst ex;rw[py,qap] at ep;obtain⟨es,e1,rfl⟩:=ep;rw[dep] at hd
  cases n with
  | zero=>lia
  | succ n=>simp only[rd];rw[ih _ _ n r e1 (by lia)];rfl
 ·obtain⟨m,xs,ex,_,g,r⟩:=r;subst ex;rw[py,qap] at ep;obtain⟨es,e1,rfl⟩:=ep;rw[dep] at hd
  cases n with
  | zero=>lia
  | succ n=>simp only[rd,g];rw[ih _ _ n r e1 (by lia)];rfl
 ·simp[py] at e
 ·simp[py] at e
 ·simp[py] at e
 ·rw[show vs=[] from r];rw[pys] at e;cases e;rfl
 ·obtain⟨x,t,ex,a,b⟩:=r;subst ex;rw[deps] at hd;rw[pys] at e
  cases e1:py d with
  | none=>rw[e1] at e;cases e
  | some y =>
   cases e2:pys ds with
   | none=>rw[e1,e2] at e;cases e
   | some ys =>
    rw[e1,e2] at e;cases e;have a1:=i1 _ _ n a e1 (by lia);have b1:=i2 _ _ n b e2 (by lia);simp only[ck,a1,b1]
def rd_ok(r:Rp q h O d v)(ep:py d=some e)(hd:dep d<=n):rd n h v=some e:=qE d v e n r ep hd
def rds_ok(r:Rps q h O ds vs)(ep:pys ds=some es)(hd:deps ds<=n):ck (rd n h) vs=some es:=by
 have:=qE (.tup ds) (.tup vs) (.tuple es) (n+1) (⟨vs,rfl,r⟩) (by rw[py,ep];rfl) (by rw[dep];lia)
 simp only[rd] at this
 simp_all
def jv(w:Vw q h L O d v)(ep:py d=some e)(hd:dep d<=60):rd 60 h v=some e:=by
 rcases w with r|⟨n,kd,xs,ds,rfl,rfl,_,_,g,r⟩
 ·exact rd_ok r ep hd
 ·cases kd with
  | some _=>simp[dl,py] at ep
  | none =>
   replace g:h[n]?=some (.lst xs):=g;unfold dl at ep hd;rw[py,qap] at ep;obtain⟨es,e1,rfl⟩:=ep;rw[dep] at hd;have a1:=rds_ok (n:=59) r e1 (by lia);show (match h[n]? with | some (.lst xs)=>(ck (rd 59 h) xs).map PyData.list | _=>none)=_;rw[g];dsimp only;rw[a1];rfl
def eqD(neg:Bool)(a b:D):Option D:=match py a,py b with
 | some x,some y=>if (dep a<=60/\dep b<=60)/\SeqAt.shaped x=true/\SeqAt.shaped y=true then some (.bl (if neg then !PyData.eqv x y else PyData.eqv x y)) else none
 | _,_=>none
def jt(e:eqD neg a b=some d):∃x y,py a=some x/\py b=some y/\(dep a<=60/\dep b<=60)/\(SeqAt.shaped x=true/\SeqAt.shaped y=true)/\d=.bl (if neg then !PyData.eqv x y else PyData.eqv x y):=by
 unfold eqD at e
 cases e1:py a with
 | none=>rw[e1] at e;cases e
 | some x =>
  cases e2:py b with
  | none=>rw[e1,e2] at e;cases e
  | some y =>
   simp_all
def oEq:Op2 where
 m:=opEq
 p:=eqD false
 fr:=true
 ok {q h L O a x b y d} bd wa wb e:=by
  obtain⟨u,w,e1,e2,hd,hs,rfl⟩:=jt e;unfold opEq;rw[jv wa e1 hd.1,jv wb e2 hd.2];dsimp only;rw[qae hs];exact gvB
def oNe:Op2 where
 m:=opNe
 p:=eqD true
 fr:=true
 ok {q h L O a x b y d} bd wa wb e:=by
  obtain⟨u,w,e1,e2,hd,hs,rfl⟩:=jt e;unfold opNe;rw[jv wa e1 hd.1,jv wb e2 hd.2];dsimp only;rw[qae hs];exact gvB
def Vw.seqOf(w:Vw q h L O d v)(e:d.items=some ds):∃xs,MM.ca h v=some xs/\Rps q h O ds xs:=by
 cases d with
 | lst es=>cases e;obtain⟨n,xs,rfl,g,r⟩:=w.lst;exact⟨xs,by simp[MM.ca,g],r⟩
 | tup es=>cases e;obtain⟨xs,rfl,r⟩:=w.tup;exact⟨xs,rfl,r⟩
 | _=>cases e
end
noncomputable section
def fj:Op1 where
 m:=opNeg
 p:=fun a=>match a with
  | .int i=>some (.int (-i))
  | _=>none
 fr:=true
 ok {q h L O a x d} bd w e:=by
  cases a with
  | int i=>cases e;rw[w.int];exact gvI
  | _=>cases e
def tyD:D->Option String
 | .non=>some "NoneType"
 | .bl _=>some "bool"
 | .int _=>some "int"
 | .str _=>some "str"
 | .tup _=>some "tuple"
 | .lst _=>some "list"
 | .dic _ _ _=>some "dict"
 | _=>none
def ty_ok(w:Vw q h L O d v)(e:tyD d=some t):tyP h v=some t:=by
 cases d with
 | non=>cases e;rw[w.non];rfl
 | bl b=>cases e;rw[w.bl];rfl
 | int b=>cases e;rw[w.int];rfl
 | str b=>cases e;rw[w.str];rfl
 | tup b=>cases e;obtain⟨xs,rfl,_⟩:=w.tup;rfl
 | lst b=>cases e;obtain⟨n,xs,rfl,g,_⟩:=w.lst;simp[tyP,g]
 | dic fz ks ds =>
  cases e;rcases w with ⟨n,xs,rfl,_,g,_⟩|⟨n,kd,xs,ds',e,rfl,_,_,g,_⟩
  ·simp[tyP,g]
  ·cases kd with
   | none=>cases e
   | some _=>simp[tyP,g,mo]
 | _=>cases e
def d7(Ts:List String):Op1 where
 m:=iY Ts
 p:=fun a=>(tyD a).map fun t=>.bl (Ts.any (fv t))
 fr:=true
 ok {q h L O a x d} bd w e:=by
  rw[qap] at e;obtain⟨t,e1,rfl⟩:=e;unfold iY;rw[ty_ok w e1];exact gvB
def lZ:OpN where
 k:=fun xs h=>(fAbs xs h).ne
 p:=fun as=>match as with
  | [.int i]=>some (.int (if i<0 then -i else i))
  | _=>none
 fr:=true
 ok {q h L O as xs d} bd w e:=by
  match as,e with
  | [.int i],e=>cases e;obtain⟨x,rfl,a⟩:=bU w;rw[a.int];exact gvI
def jX:OpN where
 k:=fun xs h=>(fInt xs h).ne
 p:=fun as=>match as with
  | [.int i]=>some (.int i)
  | [.bl b]=>some (.int (if b then 1 else 0))
  | _=>none
 fr:=true
 ok {q h L O as xs d} bd w e:=by
  match as,e with
  | [.int i],e=>cases e;obtain⟨x,rfl,a⟩:=bU w;rw[a.int];exact gvI
  | [.bl i],e=>cases e;obtain⟨x,rfl,a⟩:=bU w;rw[a.bl];exact gvI
def dC:OpN where
 k:=fun xs h=>(fStr xs h).ne
 p:=fun as=>match as with
  | [.int i]=>if i.natAbs.log2<1920 then some (.str (toString i)) else none
  | _=>none
 fr:=true
 ok {q h L O as xs d} bd w e:=by
  match as,e with
  | [.int i],e =>
   dsimp only at e;by_cases z:i.natAbs.log2<1920
   ·rw[qae z] at e;cases e;obtain⟨x,rfl,a⟩:=bU w;rw[a.int];show Gv q h O true (if i.natAbs.log2<1920 then Out.ok (PV.str (toString i)) h else .bad).ne _;rw[qae z];exact gv0 rfl fun _ k _ e=>by cases k <;> cases e
   ·rw[qat z] at e;cases e
def dY:OpN where
 k:=fun xs h=>(fLen xs h).ne
 p:=fun as=>match as with
  | [.lst ds]=>some (.int ds.length)
  | [.tup ds]=>some (.int ds.length)
  | [.str x]=>if x.length<=sizeLine then some (.int x.length) else none
  | _=>none
 fr:=true
 ok {q h L O as xs d} bd w e:=by
  match as,e with
  | [.lst ds],e =>
   cases e;obtain⟨x,rfl,a⟩:=bU w;obtain⟨n,ys,rfl,g,r⟩:=a.lst;simp only[fLen,g];rw[r.length];exact gvI
  | [.tup ds],e =>
   cases e;obtain⟨x,rfl,a⟩:=bU w;obtain⟨ys,rfl,r⟩:=a.tup;simp only[fLen];rw[r.length];exact gvI
  | [.str x],e =>
   dsimp only at e;by_cases z:x.length<=sizeLine
   ·rw[qae z] at e;cases e;obtain⟨x,rfl,a⟩:=bU w;rw[a.str];simp only[fLen];rw[qae z];exact gvI
   ·rw[qat z] at e;cases e
def ss:OpN where
 k:=fun xs h=>(fList xs h).ne
 p:=fun as=>match as with
  | [d]=>d.items.bind fun ds=>if ds.length<=100000 then some (.lst ds) else none
  | _=>none
 fr:=true
 ok {q h L O as xs d} bd w e:=by
  match as,e with
  | [a],e =>
   obtain⟨x,rfl,wx⟩:=bU w;rw[qaT] at e;obtain⟨ds,e1,e2⟩:=e;obtain⟨xs,e3,r⟩:=wx.seqOf e1;by_cases z:ds.length<=100000
   ·rw[qae z] at e2;cases e2;obtain⟨v,g,e4,r4,r5⟩:=lJ bd r z;exact⟨v,g,by simp only[fList,e3];rw[e4];rfl,r4,r5⟩
   ·rw[qat z] at e2;cases e2
def d9:OpN where
 k:=fun xs h=>(fTuple xs h).ne
 p:=fun as=>match as with
  | [d]=>d.items.map .tup
  | _=>none
 fr:=true
 ok {q h L O as xs d} bd w e:=by
  match as,e with
  | [a],e =>
   obtain⟨x,rfl,wx⟩:=bU w;rw[qap] at e;obtain⟨ds,e1,rfl⟩:=e;obtain⟨xs,e3,r⟩:=wx.seqOf e1;simp only[fTuple,e3];exact gv0 ⟨xs,rfl,r⟩ fun _ k _ e=>by cases k <;> cases e
def iZ:List D->Option (List Bool)
 | []=>some []
 | .bl b::r=>(iZ r).map (b::·)
 | _=>none
def ub:∀{ds:List D} {xs:List PV} {bs:List Bool},Rps q h O ds xs->iZ ds=some bs->kh xs=some bs
 | [],_,_,r,e=>by rw[show _=[] from r];cases e;rfl
 | d::ds,_,bs,⟨x,t,ex,a,b⟩,e=>by
  subst ex
  cases d with
  | bl c =>
   rw[show x=PV.bl c from a];rw[iZ,qap] at e;obtain⟨cs,e1,rfl⟩:=e;rw[kh,ub b e1];rfl
  | _=>cases e
def nK:OpN where
 k:=fun xs h=>(fAll xs h).ne
 p:=fun as=>match as with
  | [d]=>(d.items.bind iZ).map fun bs=>.bl (bs.all id)
  | _=>none
 fr:=true
 ok {q h L O as xs d} bd w e:=by
  match as,e with
  | [a],e =>
   obtain⟨x,rfl,wx⟩:=bU w;rw[qap] at e;obtain⟨bs,e1,rfl⟩:=e;rw[qaT] at e1;obtain⟨ds,e1,e2⟩:=e1;obtain⟨xs,e3,r⟩:=wx.seqOf e1;simp only[fAll,e3,qba,ub r e2];exact gvB
def iJ:List D->Option (List Int)
 | []=>some []
 | .int b::r=>(iJ r).map (b::·)
 | _=>none
def oK:∀{ds:List D} {xs:List PV} {bs:List Int},Rps q h O ds xs->iJ ds=some bs->xs=bs.map .int
 | [],_,_,r,e=>by rw[show _=[] from r];cases e;rfl
 | d::ds,_,bs,⟨x,t,ex,a,b⟩,e=>by
  subst ex
  cases d with
  | int c =>
   rw[show x=PV.int c from a];rw[iJ,qap] at e;obtain⟨cs,e1,rfl⟩:=e;rw[oK b e1];rfl
  | _=>cases e
def mI:∀(bs:List Int),iG (bs.map .int)=some bs
 | []=>rfl
 | b::bs=>by rw[qaJ,iG,mI bs];rfl
def ot:∀(bs:List Int),Rps q h O (bs.map .int) (bs.map .int)
 | []=>rfl
 | b::bs=>⟨_,_,rfl,rfl,ot bs⟩
def Vw.lstOf(w:Vw q h L O (.lst ds) v):∃xs,MM.fB h v=some xs/\Rps q h O ds xs:=by
 obtain⟨n,xs,rfl,g,r⟩:=w.lst;exact⟨xs,by simp[MM.fB,g],r⟩
def gvL(bd:Bd h O)(r:∀h O,Rps q h O ds xs):Gv q h O true (.ok (.loc h.length) (h++[.lst xs])) (.lst ds):=by
 have g:(h++[MO.lst xs])[h.length]?=some (.lst xs):=by simp
 exact⟨_,_,rfl,⟨_,_,rfl,fun z=>by have:=bd _ z;ext,g,r _ _⟩,fun _ k ds' e=>by obtain⟨rfl,rfl⟩:=fc e;exact⟨_,_,rfl,qaj _,g,r _ _⟩⟩
def cf(lo:Int)(n:Nat):List D:=(List.range n).map fun (i:Nat)=>D.int (lo+(i:Int))
def rps_rng:Rps q h O (cf lo n) (bw lo n):=by
 have:=ot (q:=q) (h:=h) (O:=O) ((List.range n).map fun (i:Nat)=>lo+(i:Int))
 rw[qaE,qaE] at this;exact this
def iR1:OpI where
 k:=fun vs h1=>match vs with
  | [.int j]=>if -(2 ^ 62)<=j/\j<2 ^ 62 then .ok ⟨bw 0 j.toNat,[]⟩ h1 else .bad
  | _=>.bad
 p:=fun as=>match as with
  | [.int j]=>if -100000<=j/\j<=100000 then some (cf 0 j.toNat) else none
  | _=>none
 ok {q h L O as xs d} hq hO bd w e:=by
  match as,e with
  | [.int j],e =>
   obtain⟨x,rfl,wx⟩:=bU w;rw[wx.int];dsimp only at e;by_cases z:-100000<=j/\j<=100000
   ·rw[qae z] at e;cases e;dsimp only;rw[qae ⟨by ext,by ext⟩];exact⟨_,rfl,rps_rng,(fun _ hg=>nomatch hg),fun _ _ hg=>nomatch hg⟩
   ·rw[qat z] at e;cases e
def Vw.sqAny(hq:q<L)(hO:q∈O)(w:Vw q h L O d v)(e:d.items=some ds):∃t xs gd,MM.eU v h=some (t,xs,gd)/\Rps q h O ds xs/\(∀g∈gd,h[g.1]?=some (.lst g.2)/\g.1≠q)/\(Rp q h O d v->∀g∈gd,g.1∉O):=by
 obtain⟨xs,gd,e1,r,g1,g2⟩:=w.seq hq hO e
 cases d with
 | lst es =>
  cases e;obtain⟨n,ys,rfl,g,r'⟩:=w.lst;simp only[itAny,g] at e1;cases e1;exact⟨false,xs,[(n,xs)],by simp[MM.eU,g],r',g1,g2⟩
 | tup es =>
  cases e;obtain⟨ys,rfl,r'⟩:=w.tup;cases e1;exact⟨true,_,[],rfl,r',g1,g2⟩
 | _=>cases e
def cz(ds:List D):List D:=ds.zipIdx.map fun p=>.tup [.int (p.2:Int),p.1]
def oW:∀{ds:List D} {xs:List PV} (n:Nat),Rps q h O ds xs->Rps q h O ((ds.zipIdx n).map fun p=>.tup [.int (p.2:Int),p.1]) ((xs.zipIdx n).map fun p=>.tup [.int (p.2:Int),p.1])
 | [],_,_,r=>by rw[show _=[] from r];rfl
 | d::ds,_,n,⟨x,t,e,a,b⟩=>by
  subst e;exact⟨_,_,rfl,⟨_,rfl,⟨_,_,rfl,rfl,⟨_,_,rfl,a,rfl⟩⟩⟩,oW (n+1) b⟩
def iE:OpI where
 k:=fun vs h1=>match vs with
  | [x]=>(match eU x h1 with
   | some (_,xs,gd)=>.ok ⟨gG xs,gd⟩ h1
   | none=>.bad)
  | _=>.bad
 p:=fun as=>match as with
  | [d]=>d.items.map cz
  | _=>none
 ok {q h L O as xs d} hq hO bd w e:=by
  match as,e with
  | [a],e =>
   obtain⟨x,rfl,wx⟩:=bU w;rw[qap] at e;obtain⟨ds,e1,rfl⟩:=e;obtain⟨t,ys,gd,e2,r,g1,g2⟩:=wx.sqAny hq hO e1;refine⟨⟨gG ys,gd⟩,by simp only[e2],oW 0 r,g1,fun z=>g2 ?_⟩;obtain⟨x',r',e3,a,_⟩:=z;cases e3;exact a
def fS(xs:List D)(lo hi:Option Int):List D:=(xs.drop (HT.sIx xs.length 0 lo)).take (HT.sIx xs.length xs.length hi - HT.sIx xs.length 0 lo)
def qY(lo hi:Option Int)(r:Rps q h O ds xs):Rps q h O (fS ds lo hi) (eO xs lo hi):=by
 unfold fS eO;rw[r.length];exact (r.drop _).take _
structure Xo (ws:List Nat) where
 m:Mx (Option Int)
 p:am->Pen->PR (Option Int)
 ok:∀{q h L B O σ env s},Cx q h L B O ws σ env s->Ok q h (m σ h) (p env s) (fun _ a b=>a=b)
section
variable {ws:List Nat}
def xNo:Xo ws where
 m:=mNo
 p:=fun _ s=>.ok none s
 ok {q h L B O σ env s} c:=⟨none,h,rfl,KB.refl _ _,c.pen,rfl⟩
def xPt(e:Xe ws):Xo ws where
 m:=mPt e.m
 p:=fun env s=>(e.p env s).bind fun d s=>match d with
  | .int i=>.ok (some i) s
  | _=>.bad
 ok {q h L B O σ env s} c:=by
  refine (e.ok c).bind fun x v h1 s1 k1 p1 ⟨w,_,_⟩=>?_
  cases x with
  | int i=>rw[w.int];exact⟨some i,h1,rfl,KB.refl _ _,p1,rfl⟩
  | _=>trivial
def slD(d:D)(lo hi:Option Int):Option D:=match d with
 | .lst ds=>some (.lst (fS ds lo hi))
 | .tup ds=>if HT.sIx ds.length 0 lo=0/\HT.sIx ds.length ds.length hi=ds.length then none else some (.tup (fS ds lo hi))
 | _=>none
def sl_ok(bd:Bd h O)(w:Vw q h L O a x)(e:slD a lo hi=some d):Gv q h O true (fSl x lo hi h) d:=by
 cases a with
 | lst ds =>
  cases e;obtain⟨n,xs,rfl,g,r⟩:=w.lst;simp only[fSl,g];have r:=qY lo hi r;have m:Mv O h O (h++[MO.lst (eO xs lo hi)]):=⟨fun n hn _=>qai hn,fun o ho=>.inl ho⟩
  have m2:Mv O h (h.length::O) (h++[MO.lst (eO xs lo hi)]):=⟨fun n hn _=>qai hn,fun o ho=>by
   rcases qag.mp ho with z|z
   ·exact .inr (by ext)
   ·exact .inl z⟩
  have g:(h++[MO.lst (eO xs lo hi)])[h.length]?=some (.lst (eO xs lo hi)):=by simp
  exact⟨_,_,rfl,⟨_,_,rfl,fun z=>by have:=bd _ z;ext,g,r.mv m⟩,fun _ k ds' e=>by obtain⟨rfl,rfl⟩:=fc e;exact⟨_,_,rfl,qaj _,g,r.mv m2⟩⟩
 | tup ds =>
  unfold slD at e;dsimp only at e;by_cases z:HT.sIx ds.length 0 lo=0/\HT.sIx ds.length ds.length hi=ds.length
  ·rw[qae z] at e;cases e
  ·rw[qat z] at e;cases e;obtain⟨xs,rfl,r⟩:=w.tup;simp only[fSl];rw[r.length,qat z];exact gv0 ⟨_,rfl,qY lo hi r⟩ fun _ k _ e=>by cases k <;> cases e
 | _=>cases e
def xSl(a:Xe ws)(lo hi:Xo ws):Xe ws where
 m:=mSl a.m lo.m hi.m
 p:=fun env s=>(a.p env s).bind fun x s=>(lo.p env s).bind fun l s=>(hi.p env s).bind fun u s=>.of (slD x l u) s
 fz:=true
 fr:=true
 ok {q h L B O σ env s} c:=by
  refine (a.ok c).bind fun x v h1 s1 k1 p1 ⟨w,_,_⟩=>?_;have c1:=c.kb k1 p1;refine (lo.ok c1).bind fun l l' h2 s2 k2 p2 e=>?_;subst e;have c2:=c1.kb k2 p2;refine (hi.ok c2).bind fun u u' h3 s3 k3 p3 e=>?_;subst e;have c3:=c2.kb k3 p3
  cases e:slD x l u with
  | none=>trivial
  | some d =>
   obtain⟨y,g,e1,r,r'⟩:=sl_ok c3.bd ((w.kb k2 c.pO c.pL).kb k3 c.pO c.pL) e;exact give (qav (qav k1.len k2.len) k3.len) p3 ⟨y,g,by rw[e1];rfl,r,r'⟩
end
def aAppend:OpM where
 m:=eM
 p:=fun ds as=>match as with
  | [a]=>if ds.length<100000 then some (.non,ds++[a]) else none
  | _=>none
 ok {q h O n xs ds as vs d ds'} g r ra e:=by
  match as,e with
  | [a],e =>
   obtain⟨x,t,rfl,a,b⟩:=ra
   have:t=[]:=b
   subst this;dsimp only at e;by_cases z:ds.length<100000
   ·rw[qae z] at e;cases e;refine⟨.non,xs++[x],?_,r.app ⟨x,[],rfl,a,rfl⟩,rfl⟩;simp only[eM,g];rw[qae (by have:=iC;rw[r.length];ext)]
   ·rw[qat z] at e;cases e
end
section
variable {ws:List Nat} {env:am} {s:Pen}
@[simp] theorem al{d:D}{r:am}:(ab 0:Xe ws).p (some d::r) s=.ok d s:=rfl
@[simp] theorem av{i:Nat}{o:Option D}{r:am}:(ab (i+1):Xe ws).p (o::r) s=(ab i:Xe ws).p r s:=by simp[ab]
theorem xVar_at(e:env[i]?=some (some d)):(ab i:Xe ws).p env s=.ok d s:=by
 show (match env[i]? with | some (some d)=>PR.ok d s | _=>.bad)=_;rw[e]
@[simp] theorem aV:(xC k:Xe ws).p env s=.ok k.d s:=rfl
@[simp] theorem sP:Cn.non.d=.non:=rfl
@[simp] theorem cn_bl:(Cn.bl b).d=.bl b:=rfl
@[simp] theorem aZ:(Cn.int b).d=.int b:=rfl
@[simp] theorem bi:(Cn.str b).d=.str b:=rfl
@[simp] theorem aJ:(af o a b).p env s=(a.p env s).bind fun x s1=>(b.p env s1).bind fun y s2=>.of (o.p x y) s2:=rfl
@[simp] theorem gC:(xUn o a).p env s=(a.p env s).bind fun x s1=>.of (o.p x) s1:=rfl
@[simp] theorem ar:(xNil:Xs ws).p env s=.ok [] s:=rfl
@[simp] theorem aj:(aa a r).p env s=(a.p env s).bind fun x s1=>(r.p env s1).bind fun y s2=>.ok (x::y) s2:=rfl
@[simp] theorem bu:(xCb o a).p env s=(a.p env s).bind fun x s1=>.of (o.p x) s1:=rfl
@[simp] theorem aH:(ah f a h).p env s=(a.p env s).bind f.p:=rfl
@[simp] theorem xLend_p:(sn f a h).p env s=((a.p env s).bind f.p).bind fun d s=>if lend d=true then .ok d s else .bad:=rfl
@[simp] theorem cI:(cg a h).p env s=(a.p env s).bind fun x s1=>if x.length<=100000 then .ok (.lst x) s1 else .bad:=rfl
@[simp] theorem i4:(bV a h).p env s=(a.p env s).bind fun x s1=>if x.length<=100000 then .ok (.tup x) s1 else .bad:=rfl
@[simp] theorem cM:(xB a).p env s=(a.p env s).bl:=rfl
@[simp] theorem hU:(fk a).p env s=(a.p env s).bind fun b s=>.ok (!b) s:=rfl
@[simp] theorem um:(nL a b).p env s=(a.p env s).bind fun x s=>if x=true then b.p env s else .ok false s:=rfl
@[simp] theorem jK:(xOr a b).p env s=(a.p env s).bind fun x s=>if x=true then .ok true s else b.p env s:=rfl
@[simp] theorem xTrue_p:(xTrue:Xt ws).p env s=.ok true s:=rfl
@[simp] theorem hV:(cC a b).p env s=(a.p env s).bl.bind fun x s=>if x=true then (b.p env s).bl.bind fun y s=>.ok (.bl y) s else .ok (.bl false) s:=rfl
@[simp] theorem xNotV_p:(nt a).p env s=(a.p env s).bl.bind fun x s=>.ok (.bl (!x)) s:=rfl
@[simp] theorem eB:(fZ t a b z h).p env s=(t.p env s).bind fun x s=>if x=true then a.p env s else b.p env s:=rfl
@[simp] theorem xChain_p:(gV f g a b e).p env s=(a.p env s).bind fun x s1=>(b.p env s1).bind fun y s2=>match f.p x y with
  | some (.bl t)=>if t=true then (e.p env s2).bind fun z s3=>.of (g.p y z) s3 else .ok (.bl false) s2
  | _=>.bad:=rfl
@[simp] theorem f7:(fw o a).p env s=(a.p env s).bind fun x s1=>.of (o.p x) s1:=rfl
@[simp] theorem pf:(eQ a).p env s=(a.p env s).bind fun x s1=>.of x.items s1:=rfl
@[simp] theorem xNm_p{i:Nat}{h:ws.contains i=false}{d:D}:(xNm i h).p d env=some (env.set i (some d)):=rfl
@[simp] theorem xGl_p:(xGl:Xgs ws).p [] env=some env:=rfl
@[simp] theorem xGc_p:(xGc a t).p (d::ds) env=(a.p d env).bind fun env1=>t.p ds env1:=rfl
@[simp] theorem xGp_p:(xGp t n).p (.tup ds) env=if ds.length=n then t.p ds env else none:=rfl
@[simp] theorem jG{nv:Nat}{fm:List Nat}{i:Xi ws}{ws':List Nat}{g:Xg ws'}{t:Xt ws'}{e:Xe ws'}{hw:cws nv fm ws=ws'}{hz:e.fz=true}:(bD nv fm i g t e hw hz).p env s=(i.p env s).bind fun ds s1=>if ds.length<=100000 then (match cj g.p t.p e.p ds (cenv nv fm env) s1 with
  | .ok r s2=>.ok (.lst r) s2
  | _=>.bad) else .bad:=rfl
@[simp] theorem r6:(xNo:Xo ws).p env s=.ok none s:=rfl
@[simp] theorem se:(xPt e).p env s=(e.p env s).bind fun d s=>match d with
  | .int i=>.ok (some i) s
  | _=>.bad:=rfl
@[simp] theorem xSl_p:(xSl a lo hi).p env s=(a.p env s).bind fun x s=>(lo.p env s).bind fun l s=>(hi.p env s).bind fun u s=>.of (slD x l u) s:=rfl
@[simp] theorem aQ:(aq a b).p env s=(a.p env s).then b.p:=rfl
@[simp] theorem bO:(xSkip:Xd ws).p env s=.nx env s:=rfl
@[simp] theorem aX:(aS e).p env s=(e.p env s).go env fun d _ s=>.rt d s:=rfl
theorem qe{i:Nat}{h:ws.contains i=true}{d:D}(e:env[i]?=some (some d)):(lr i h).p env s=.rt d s:=by
 show (match env[i]? with | some (some d)=>PS.rt d s | _=>.bad)=_;rw[e]
@[simp] theorem cN:(xIf t a b).p env s=(t.p env s).go env fun x env s=>if x=true then a.p env s else b.p env s:=rfl
@[simp] theorem bc:(aD i e hi hz).p env s=(e.p env s).go env fun d env s=>.nx (env.set i (some d)) s:=rfl
@[simp] theorem lh:(D.lst ds).mine=true:=rfl
@[simp] theorem mine_d:(D.dic false ks ds).mine=true:=rfl
@[simp] theorem js{hi hz}:(gA i e hi hz:Xd ws).p env s=(e.p env s).go env fun d env s=>if d.mine=true then .nx (env.set i (some d)) s else .bad:=rfl
@[simp] theorem pk:(lL i g b hz).p env s=(i.p env s).go env fun ds env s=>pGo g.p b.p ds env s:=rfl
@[simp] theorem xMt_p:(xMt o i a hi hz).p env s=pMt o i a.p env s fun _=>.nx:=rfl
theorem aO{hw}(hl:ds.length=np):(ba n np b hw).p ds s=(b.p (dSt n ds) s).fin:=by
 show (if ds.length=np then _ else _)=_;rw[qae hl]
variable {i j:Int} {b:Bool} {x y:List D}
@[simp] theorem oAdd_ii:o3.p (.int i) (.int j)=some (.int (i+j)):=rfl
theorem qA(h:x.length+y.length<=100000):o3.p (.lst x) (.lst y)=some (.lst (x++y)):=by
 show (if x.length+y.length<=100000 then _ else _)=_;rw[qae h]
@[simp] theorem oSub_ii:gS.p (.int i) (.int j)=some (.int (i - j)):=rfl
@[simp] theorem oLt_ii:oLt.p (.int i) (.int j)=some (.bl (decide (i<j))):=rfl
@[simp] theorem oLe_ii:oLe.p (.int i) (.int j)=some (.bl (decide (i<=j))):=rfl
@[simp] theorem oGt_ii:oGt.p (.int i) (.int j)=some (.bl (decide (j<i))):=rfl
@[simp] theorem pF:oGe.p (.int i) (.int j)=some (.bl (decide (j<=i))):=rfl
@[simp] theorem kJ:oIx.p (.lst x) (.int j)=atI x j:=rfl
@[simp] theorem gL:oIx.p (.tup x) (.int j)=atI x j:=rfl
theorem oMod_ii(h:j≠0):io.p (.int i) (.int j)=some (.int (i.fmod j)):=by
 show (if j≠0 then _ else _)=_;rw[qae h]
@[simp] theorem oIsi_p:(d7 Ts).p d=(tyD d).map fun t=>.bl (Ts.any (fv t)):=rfl
@[simp] theorem ty_non:tyD .non=some "NoneType":=rfl
@[simp] theorem ty_bl:tyD (.bl b)=some "bool":=rfl
@[simp] theorem ty_int:tyD (.int i)=some "int":=rfl
@[simp] theorem ty_str:tyD (.str z)=some "str":=rfl
@[simp] theorem ty_tup:tyD (.tup x)=some "tuple":=rfl
@[simp] theorem ty_lst:tyD (.lst x)=some "list":=rfl
@[simp] theorem ty_dic:tyD (.dic fz ks es)=some "dict":=rfl
@[simp] theorem cInt_b:jX.p [.bl b]=some (.int (if b then 1 else 0)):=rfl
@[simp] theorem cInt_i:jX.p [.int i]=some (.int i):=rfl
@[simp] theorem cLen_l:dY.p [.lst x]=some (.int x.length):=rfl
@[simp] theorem cLen_t:dY.p [.tup x]=some (.int x.length):=rfl
@[simp] theorem cTuple_l:d9.p [.lst x]=some (.tup x):=rfl
@[simp] theorem cTuple_t:d9.p [.tup x]=some (.tup x):=rfl
theorem nq(h:-100000<=i/\i<=100000):iR1.p [.int i]=some (cf 0 i.toNat):=by
 show (if _ then _ else _)=_;rw[qae h]
@[simp] theorem iE_l:iE.p [.lst x]=some (cz x):=rfl
@[simp] theorem sk:slD (.lst x) lo hi=some (.lst (fS x lo hi)):=rfl
theorem gr(h:x.length<100000):aAppend.p x [a]=some (.non,x++[a]):=by
 show (if _ then _ else _)=_;rw[qae h]
end
section
variable {i j:Int} {b c:Bool}
def mw(h1:x.canLay0=true)(h2:x.depth<=64):SeqAt.shaped x=true:=by simp[SeqAt.shaped,h1,h2]
@[simp] theorem eqD_ii:eqD neg (.int i) (.int j)=some (.bl (if neg then !decide (i=j) else decide (i=j))):=rfl
@[simp] theorem eqD_bb:eqD neg (.bl b) (.bl c)=some (.bl (if neg then !(b == c) else b == c)):=rfl
@[simp] theorem sw:oEq.p a d=eqD false a d:=rfl
@[simp] theorem oNe_p:oNe.p a d=eqD true a d:=rfl
end
@[simp] theorem pGo_nil:pGo g b [] env s=.nx env s:=rfl
theorem uQ(e:g d env=some env1):pGo g b (d::ds) env s=(b env1 s).turn (pGo g b ds):=by
 rw[pGo,e]
def jp(I:Nat->am->Pen->Prop):∀(ds:List D) (j:Nat) (env:am) (s:Pen),I j env s ->
  (∀m env s d,I (j+m) env s->ds[m]?=some d->∃env1 env' s',g d env=some env1/\b env1 s=.nx env' s'/\I (j+m+1) env' s')->∃env' s',pGo g b ds env s=.nx env' s'/\I (j+ds.length) env' s'
 | [],j,env,s,hI,_=>⟨env,s,rfl,hI⟩
 | d::ds,j,env,s,hI,st=>by
  obtain⟨env1,env2,s2,e1,e2,I2⟩:=st 0 env s d hI rfl;obtain⟨env3,s3,e3,I3⟩:=jp I ds (j+1) env2 s2 I2 fun m env' s' x q z=>by
   have:=st (m+1) env' s' x (by rw[show j+(m+1)=j+1+m by lia];exact q) (by simpa using z)
   rw[show j+(m+1)+1=j+1+m+1 by lia] at this;exact this
  refine⟨env3,s3,?_,by rw[qaq,show j+(ds.length+1)=j+1+ds.length by lia];exact I3⟩;rw[uQ e1,e2];exact e3
def lm(p:D->Bool)(f:D->D):∀(ds:List D) (vs:am),vs.length=nv ->
  (∀x∈ds,∀vs:am,vs.length=nv->∃vs':am,vs'.length=nv/\g x (vs++fr)=some (vs'++fr)/\t (vs'++fr) s=.ok (p x) s/\(p x=true->e (vs'++fr) s=.ok (f x) s))->cj g t e ds (vs++fr) s=.ok ((ds.filter p).map f) s
 | [],vs,hv,body=>rfl
 | x::ds,vs,hv,body=>by
  obtain⟨vs',hv',e1,e2,e3⟩:=body x (by simp) vs hv;have ih:=lm p f ds vs' hv' fun y hy=>body y (qab _ hy);rw[cj,e1];dsimp only;rw[e2]
  cases hp:p x with
  | true=>simp only[Pb,if_true,e3 hp,ih,List.filter_cons_of_pos hp,qaJ]
  | false=>simp only[Pb,qar,if_false,ih,List.filter_cons_of_neg (show ¬p x=true by simp[hp])]
def kZ{ws ws':List Nat}{env:am}{s:Pen}{nv:Nat}{fm:List Nat}{i:Xi ws}{g:Xg ws'}{t:Xt ws'}{e:Xe ws'}{hw:cws nv fm ws=ws'}{hz:e.fz=true}{ds:List D}(p:D->Bool)(f:D->D)(ei:i.p env s=.ok ds s)(hl:ds.length<=100000)
  (body:∀x∈ds,∀vs:am,vs.length=nv->∃vs':am,vs'.length=nv/\g.p x (vs++fm.map fun i=>(env[i]?).getD none)=some (vs'++fm.map fun i=>(env[i]?).getD none)/\t.p (vs'++fm.map fun i=>(env[i]?).getD none) s=.ok (p x) s/\(p x=true->e.p (vs'++fm.map fun i=>(env[i]?).getD none) s=.ok (f x) s)) :
  (bD nv fm i g t e hw hz).p env s=.ok (.lst ((ds.filter p).map f)) s:=by
 rw[jG,ei,Pb,qae hl];unfold cenv;rw[lm p f ds _ (by simp) body]
def nk{ws ws':List Nat}{env:am}{s:Pen}{fm:List Nat}{i:Xi ws}{t:Xt ws'}{e:Xe ws'}{ds:List D}(p:D->Bool)(f:D->D)(ei:i.p env s=.ok ds s)(hl:ds.length<=100000)
  (body:∀x∈ds,t.p (some x::fm.map fun i=>(env[i]?).getD none) s=.ok (p x) s/\(p x=true->e.p (some x::fm.map fun i=>(env[i]?).getD none) s=.ok (f x) s)) (h0:ws'.contains 0=false:=by exact ys rfl) (hw:cws 1 fm ws=ws':=by exact ys rfl) (hz:e.fz=true:=by exact ys rfl) :
  (bD 1 fm i (xNm 0 h0) t e hw hz).p env s=.ok (.lst ((ds.filter p).map f)) s :=
 kZ p f ei hl fun x hx vs hv=>match vs,hv with
  | [_],_=>⟨[some x],rfl,rfl,body x hx⟩
def kN{ws ws':List Nat}{env:am}{s:Pen}{fm:List Nat}{i:Xi ws}{t:Xt ws'}{e:Xe ws'}{ds:List D}(p:D->Bool)(f:D->D)(ei:i.p env s=.ok ds s)(hl:ds.length<=100000)
  (body:∀x∈ds,∃a b,x=.tup [a,b]/\t.p (some a::some b::fm.map fun i=>(env[i]?).getD none) s=.ok (p x) s/\(p x=true->e.p (some a::some b::fm.map fun i=>(env[i]?).getD none) s=.ok (f x) s)) (h0:ws'.contains 0=false:=by exact ys rfl) (h1:ws'.contains 1=false:=by exact ys rfl) (hw:cws 2 fm ws=ws':=by exact ys rfl) (hz:e.fz=true:=by exact ys rfl) :
  (bD 2 fm i (xGp (xGc (xNm 0 h0) (xGc (xNm 1 h1) xGl)) 2) t e hw hz).p env s=.ok (.lst ((ds.filter p).map f)) s :=
 kZ p f ei hl fun x hx vs hv=>match vs,hv with
  | [_,_],_=>let ⟨a,b,e,q⟩:=body x hx;⟨[some a,some b],rfl,by subst e;rfl,q⟩
end PU
namespace PU
open PySem MM SetT SortT
open L2 (ixN atI di)
def gE{α:Type}(l:List α):(l.filter fun _=>true)=l:=List.filter_eq_self.mpr (by simp)
def gW(h:0<=i):∃n:Nat,i=(n:Int):=⟨i.toNat,by lia⟩
end PU
namespace PU
open PySem MM SetT SortT
open L2 (ixN atI di)
local instance (priority:=1) cdecN10 (p:Prop):Decidable p:=Classical.propDecidable p
noncomputable section
def lB:D->Option Bool
 | .non=>some false
 | .bl b=>some b
 | .int i=>some (i != 0)
 | .tup xs=>some (!xs.isEmpty)
 | .lst xs=>some (!xs.isEmpty)
 | _=>none
def Rps.empty(r:Rps p h O ds vs):vs.isEmpty=ds.isEmpty:=by
 cases ds with
 | nil=>rw[show vs=[] from r];rfl
 | cons d ds=>obtain⟨x,t,e,_⟩:=r;rw[e];rfl
def oS(w:Vw q h L O d v)(e:lB d=some b):ko h v=some b:=by
 cases d with
 | non=>cases e;rw[w.non];rfl
 | bl c=>cases e;rw[w.bl];rfl
 | int c=>cases e;rw[w.int];rfl
 | tup c=>cases e;obtain⟨xs,rfl,r⟩:=w.tup;rw[ko,r.empty]
 | lst c=>cases e;obtain⟨n,xs,rfl,g,r⟩:=w.lst;simp only[ko,g];rw[r.empty]
 | _=>cases e
section
variable {ws:List Nat}
def xTr(a:Xe ws):Xt ws where
 m:=mTr a.m
 p:=fun env s=>(a.p env s).bind fun d s=>.of (lB d) s
 ok {q h L B O σ env s} c:=by
  refine (a.ok c).bind fun x v h1 s1 k1 p1 ⟨w,_,_⟩=>?_
  cases e:lB x with
  | none=>trivial
  | some b=>rw[oS w e];exact⟨b,h1,rfl,KB.refl _ _,p1,rfl⟩
structure OpR where
 m:Nat->List PV->MH->Out PV
 p:List D->List D->Option D
 ok:∀{q:Nat} {h:MH} {L:Nat} {O:List Nat} {n:Nat} {xs:List PV} {ds as:List D} {vs:List PV} {d:D},h[n]?=some (.lst xs)->Rps q h O ds xs->Vws q h L O as vs->p ds as=some d->∃v,m n vs h=.ok v h/\Rp q h O d v/\∀k es,d≠dl k es
end
section
variable {ws:List Nat} {env:am} {s:Pen}
@[simp] theorem xTr_p:(xTr a).p env s=(a.p env s).bind fun d s=>.of (lB d) s:=rfl
end
end
noncomputable section
def aN:Op2 where
 m:=opAdd
 p:=fun a b=>match a,b with
  | .str x,.str y=>if x.length+y.length<=sizeLine then some (.str (x++y)) else none
  | a,b=>o3.p a b
 fr:=true
 ok {q h L O a x b y d} bd wa wb e:=by
  cases a with
  | str u =>
   cases b with
   | str w =>
    dsimp only at e;by_cases z:u.length+w.length<=sizeLine
    ·rw[qae z] at e;cases e;rw[wa.str,wb.str];show Gv q h O true (if u.length+w.length<=sizeLine then .ok (.str (u++w)) h else .bad) _;rw[qae z];exact gv0 rfl fun _ k _ e=>by cases k <;> cases e
    ·rw[qat z] at e;cases e
   | _=>cases e
  | _=>exact o3.ok bd wa wb e
def gH:List D->Option (List Str)
 | []=>some []
 | .str x::r=>(gH r).map (x::·)
 | _=>none
def vn:∀{ds:List D} {xs:List PV} {ts:List Str},Rps q h O ds xs->gH ds=some ts->hW xs=some ts:=by
 intro ds
 induction ds with
 | nil=>intro xs ts r e;rw[show xs=[] from r];cases e;rfl
 | cons d ds ih =>
  intro xs ts r e;obtain⟨x,t,rfl,r1,r2⟩:=r
  cases d with
  | str z =>
   unfold gH at e;rw[qap] at e;obtain⟨ts',e1,rfl⟩:=e;rw[show x=PV.str z from r1];unfold hW;rw[ih r2 e1];rfl
  | _=>cases e
structure OpS where
 f:Str->List PV->MH->Out PV
 p:Str->List D->Option D
 fr:Bool
 ok:∀{q h L O z as xs d},Bd h O->Vws q h L O as xs->p z as=some d->Gv q h O fr (f z xs h) d
def sJoin:OpS where
 f:=d4
 p:=fun z as=>match as with
  | [.lst ds]=>(match gH ds with
   | some ts=>if JoinOk z ts=true then some (.str (Txt.join z ts)) else none
   | none=>none)
  | _=>none
 fr:=true
 ok {q h L O z as xs d} bd w e:=by
  match as,e with
  | [.lst ds],e =>
   dsimp only at e
   cases es:gH ds with
   | none=>rw[es] at e;cases e
   | some ts =>
    rw[es] at e;dsimp only at e;by_cases hj:JoinOk z ts=true
    ·rw[qae hj] at e;cases e;obtain⟨x,rfl,a⟩:=bU w;obtain⟨n,xs,rfl,g,r⟩:=a.lst;have e2:d4 z [.loc n] h=.ok (.str (Txt.join z ts)) h:=by
      simp only[d4,g,vn r es];rw[qae hj]
     rw[e2];exact gv0 rfl fun _ k _ e=>by cases k <;> cases e
    ·rw[qat hj] at e;cases e
def sZfill:OpS where
 f:=o6
 p:=fun z as=>match as with
  | [.int i]=>if PadOk i=true then some (.str (Txt.zfill z i)) else none
  | _=>none
 fr:=true
 ok {q h L O z as xs d} bd w e:=by
  match as,e with
  | [.int i],e =>
   dsimp only at e;by_cases hj:PadOk i=true
   ·rw[qae hj] at e;cases e;obtain⟨x,rfl,a⟩:=bU w;rw[a.int];show Gv q h O true (if PadOk i=true then .ok (.str (Txt.zfill z i)) h else .bad) _;rw[qae hj];exact gv0 rfl fun _ k _ e=>by cases k <;> cases e
   ·rw[qat hj] at e;cases e
def oFs(c:Str):Op1 where
 m:=fFs c
 p:=fun a=>match a with
  | .int i=>if i.natAbs.log2<1920/\(Str.empty++(toString i:Str)).length<=sizeLine/\(Str.empty++(toString i:Str)++c).length<=sizeLine then some (.str (Str.empty++(toString i:Str)++c)) else none
  | _=>none
 fr:=true
 ok {q h L O a x d} bd w e:=by
  cases a with
  | int i =>
   dsimp only at e;by_cases z:i.natAbs.log2<1920/\(Str.empty++(toString i:Str)).length<=sizeLine/\(Str.empty++(toString i:Str)++c).length<=sizeLine
   ·rw[qae z] at e;cases e;rw[w.int];show Gv q h O true (if i.natAbs.log2<1920/\(Str.empty++(toString i:Str)).length<=sizeLine/\(Str.empty++(toString i:Str)++c).length<=sizeLine then .ok (.str (Str.empty++(toString i:Str)++c)) h else .bad) _;rw[qae z];exact gv0 rfl fun _ k _ e=>by cases k <;> cases e
   ·rw[qat z] at e;cases e
  | _=>cases e
section
variable {ws:List Nat}
def xSm(o:OpS)(a:Xe ws)(as:Xs ws):Xe ws where
 m:=mSm o.f a.m as.m
 p:=fun env s=>(a.p env s).bind fun x s1=>match x with
  | .str z=>(as.p env s1).bind fun y s2=>.of (o.p z y) s2
  | _=>.bad
 fz:=true
 fr:=o.fr
 ok {q h L B O σ env s} c:=by
  refine (a.ok c).bind fun x v h1 s1 k1 p1 ⟨w,_,_⟩=>?_
  cases x with
  | str z =>
   have c1:=c.kb k1 p1;rw[w.str];dsimp only;refine (as.ok c1).bind fun y vs h2 s2 k2 p2 ⟨w2,_⟩=>?_
   cases e:o.p z y with
   | none=>trivial
   | some d =>
    obtain⟨u,g,e1,r,f⟩:=o.ok (c1.kb k2 p2).bd w2 e;exact give (qav k1.len k2.len) p2 ⟨u,g,by rw[e1];rfl,r,f⟩
  | _=>trivial
def kc(i j:Nat)(a:Xs ws)(hi:ws.contains i=false:=by exact ys rfl)(hj:ws.contains j=false:=by exact ys rfl)(hz:a.fz=true:=by exact ys rfl):Xd ws where
 m:=mPar i j a.m
 p:=fun env s=>(a.p env s).go env fun ds env s=>match ds with
  | [x,y]=>.nx ((env.set i (some x)).set j (some y)) s
  | _=>.bad
 fr:=true
 ok {q h L B O σ env s} c d:=by
  refine SOk.ex (f:=fun vs σ h=>match vs with | [v,w]=>.nx ((σ.set i (some v)).set j (some w)) h | _=>.bad) (g:=fun ds env s=>match ds with | [x,y]=>.nx ((env.set i (some x)).set j (some y)) s | _=>.bad) c d (a.ok c) fun xs vs h1 s1 kb c1 ⟨_,z⟩=>?_;have z:=z hz
  match xs,z with
  | [],_=>trivial
  | [_],_=>trivial
  | [x,y],z =>
   obtain⟨v,t,rfl,rv,t2⟩:=z;obtain⟨w,t3,rfl,rw',rfl⟩:=t2;obtain⟨a1,b1⟩:=c1.sr.set (i:=i) (fun z=>by simp[z] at hi) rv;obtain⟨a2,b2⟩:=a1.set (i:=j) (fun z=>by simp[z] at hj) rw';exact⟨_,h1,rfl,O,Stp.refl _ _ _ _,⟨c1.bd,c1.sub,c1.bb,c1.pb,c1.hL,c1.pen,a2⟩,(d.keep b1).keep b2⟩
  | _::_::_::_,_=>trivial
variable {env:am} {s:Pen}
@[simp] theorem cB:(xSm o a as).p env s=(a.p env s).bind fun x s1=>match x with
  | .str z=>(as.p env s1).bind fun y s2=>.of (o.p z y) s2
  | _=>.bad:=rfl
@[simp] theorem pI:(kc i j a hi hj hz).p env s=(a.p env s).go env fun ds env s=>match ds with
  | [x,y]=>.nx ((env.set i (some x)).set j (some y)) s
  | _=>.bad:=rfl
@[simp] theorem nE:aN.p (.int i) (.int j)=some (.int (i+j)):=rfl
@[simp] theorem oq:aN.p (.lst x) (.lst y)=o3.p (.lst x) (.lst y):=rfl
theorem bS(h:x.length+y.length<=sizeLine):aN.p (.str x) (.str y)=some (.str (x++y)):=by
 show (if x.length+y.length<=sizeLine then _ else _)=_;rw[qae h]
end
end
noncomputable section
section
variable {ws:List Nat}
def xCT(i j:Int):Xe ws where
 m:=mC (.tup [.int i,.int j])
 p:=fun _ s=>.ok (.tup [.int i,.int j]) s
 fz:=true
 fr:=true
 ok {q h L B O σ env s} c:=by
  have r:Rp q h O (.tup [.int i,.int j]) (.tup [.int i,.int j]):=⟨_,rfl,_,_,rfl,rfl,_,_,rfl,rfl,rfl⟩;exact⟨_,h,rfl,KB.refl _ _,c.pen,.inl r,fun _=>r,fun _ k ds e=>by cases k <;> cases e⟩
end
end
noncomputable section
variable {ws:List Nat}
end
end PU
namespace MM
open PySem PySem.Spec PyProof.Rows L2
def mBad:Mst:=fun _ _=>.bad
def ms_bad{X:Cx}{st:Stmt}:MS X st mBad:=fun FA s σ H D I ⟨ρ,σp,h,rs,rh,q⟩=>q.elim
end MM
namespace PU
open PySem MM
def j3{ws:List Nat}:Xd ws where
 m:=mBad
 p:=fun _ _=>.bad
 fr:=true
 ok _ _:=trivial
end PU
namespace MM
open PySem PySem.Spec PyProof.Rows L2
abbrev CPm(scope sc:Scope)(vars frees:List Str):Prop:=(∀y∈scope.names,y.2=.cell->scope.names.lookup y.1=some .cell)/\(∀y∈scope.names,y.2=.local->scope.names.lookup y.1=some .local)/\(∀x∈vars,scope.names.lookup x=some .local\/scope.names.lookup x=some .cell)/\(∀x∈frees,scope.names.lookup x=some .free)/\(∀y∈scope.names,y.2=.free->y.1∈frees)/\(∀x∈frees,sc.names.lookup x=some .cell)
def rlb(scope sc:Scope):Scope:={ scope with names:=scope.names.map fun (n,k)=>if (k == .free && sc.kind == .function && sc.names.lookup n == some .cell) then (n,.cell) else (n,k)}
def rlb_eq{scope sc:Scope}{env:Env}(h:env.scope=sc):relabel scope env=rlb scope sc:=by subst h;rfl
def compOk1{X:Cx}{N:List Str}{scope sc:Scope}{vars frees:List Str}{fm:List Nat}(hsc:X.env.scope=sc)(h1:scope.kind=.function)(h7:fm.map (fun i=>N[i]?)=frees.map some)(h:CPm scope sc vars frees):CompOk X N scope vars frees fm :=
 compOk hsc h1 h.1 h.2.1 h.2.2.1 h.2.2.2.1 h.2.2.2.2.1 h7 h.2.2.2.2.2
def ar1{Q:List Value->Prop}(h:∀a0,Q [a0]):∀us,us.length=1->Q us
 | [_],_=>h _
def ar2{Q:List Value->Prop}(h:∀a0 a1,Q [a0,a1]):∀us,us.length=2->Q us
 | [_,_],_=>h _ _
def ar3{Q:List Value->Prop}(h:∀a0 a1 a2,Q [a0,a1,a2]):∀us,us.length=3->Q us
 | [_,_,_],_=>h _ _ _
abbrev Zn(K:qaa)(x:Str):Prop:=PySem.W.nsIn K mainGlobals x=some none
abbrev Nn(X:Cx)(x:Str):Prop:=X.mg x=none
abbrev Sc(X:Cx)(s:Stmt):Prop:=X.env.scope=ag s
abbrev Gd(X:Cx)(N G:List Str)(k:Nat):Prop:=Good X N N G k
structure Ba (P:Program) (w:World) (K:qaa) (mg:Str->Option Value) (base:Heap):Prop where
 kin:K.In base
 ns:base.Ns mainGlobals mg
structure EE (X:Cx) (P:Program) (w:World) (K:qaa) (mg:Str->Option Value) (base:Heap):Prop where
 e1:X.prog=P
 e2:X.w=w
 e3:X.K=K
 e4:X.mg=mg
 e5:X.base=base
 b:Ba P w K mg base
section
variable {P:Program} {w:World} {K:qaa} {mg:Str→Option Value} {base:Heap} {X:Cx}
def EE.n(e:EE X P w K mg base){x:Str}(z:Zn K x):Nn X x:=by
 show X.mg x=none;rw[e.e4];exact PySem.W.mg_none_of e.b.kin e.b.ns z
def FnAt.c{x:Str}{ps:List Str}{F:List PV->MH->Out PV}{i j:Nat}(a:FnAt P w K mg base x ps F i)(e:EE X P w K mg base)(h:i<=j:=by decide):Cal X x ps F j :=
 (a.mono h).cal e.e1 e.e2 e.e3 e.e4 e.e5
def fnN{x:Str}{st:Stmt}{N G ps:List Str}{m:Mst}{k:Nat}(b:Ba P w K mg base)(D:DefAt K x st)(hb:∀X:Cx,EE X P w K mg base->Sc X st->Gd X N G k->DefCx X->MSs X (au st) m)
  (B:g7 x st ps:=by first | exact fun _ _ _ _ _ _=>ar1 fun _=>rfl | exact fun _ _ _ _ _ _=>ar2 fun _ _=>rfl | exact fun _ _ _ _ _ _=>ar3 fun _ _ _=>rfl | exact fun _ _ _ _ _ _=>ar4 fun _ _ _ _=>rfl | exact fun _ _ _ _ _ _=>ar5 fun _ _ _ _ _=>rfl)
  (S:FnScope N ps (ag st):=by exact⟨rfl,rfl,rfl,by decide +kernel,rfl,by decide +kernel,by decide +kernel⟩)
  (hl:∀y∈N,(ag st).names.lookup y=some .local\/(ag st).names.lookup y=some .cell:=by decide +kernel) (hgl:∀y∈G,(ag st).names.lookup y=some .globalImplicit:=by decide +kernel)
  (dbg:∀x∈N++G,(x == ("__debug__":Str))=false/\(x == ("__classdict__":Str))=false/\x≠"__name__":=by decide +kernel) :
  FnAt P w K mg base x ps (dE N.length ps.length m) (k+1) :=
 tW b.kin b.ns D S B hl hgl dbg fun X e1 e2 e3 e4 e5 e6 g dc=>hb X ⟨e1,e2,e3,e4,e5,b⟩ e6 g dc
end
structure YE (Y X:Cx):Prop where
 e1:Y.prog=X.prog
 e2:Y.w=X.w
 e3:Y.K=X.K
 e4:Y.mg=X.mg
 e5:Y.base=X.base
section
variable {X Y:Cx} {N W G:List Str} {k:Nat} {x:Str} {p pos:Pos} {e:Expr} {es:List Expr} {m:Mx (List PV)} {f:List PV→MH→Out PV}
def kV(g:Good X N W G k)(i:Nat)(hi:N[i]?=some x:=by rfl):ME X (.Name x pos) (ae i):=t7 g i hi
def kNm(g:Good X N W G k)(i:Nat)(hi:N[i]?=some x:=by rfl)(hw:W[i]?=some x:=by rfl):MG X (.Name x pos) (gNm i):=qH g i hi hw
def kIx{a b:Expr}{ma mb:Mx PV}(ha:ME X a ma)(hb:ME X b mb)(hs:ju b:=by exact fun _ _=>rfl):ME X (.Subscript a b pos) (ai bW ma mb):=me_ix ha hb hs
def kCm{op:CmpOp}{f:PV->PV->MH->Out PV}{a b:Expr}{ma mb:Mx PV}(ho:OpJ X (compareOp op) f)(ha:ME X a ma)(hb:ME X b mb)(hm:behindInMarks op b=false:=by first | exact nomark _ | rfl):ME X (.Compare a [op] [b] pos) (ai f ma mb):=tq ho ha hb hm
def kTc{op:CmpOp}{f:PV->PV->MH->Out PV}{a b:Expr}{ma mb:Mx PV}(ho:OpJ X (compareOp op) f)(ha:ME X a ma)(hb:ME X b mb)(hm:behindInMarks op b=false:=by first | exact nomark _ | rfl):MT X (.Compare a [op] [b] pos) (mB (ai f ma mb)):=sF ho ha hb hm
def kCa(g:Good X N W G k)(j:Nat){ps:List Str}{F:List PV->MH->Out PV}(C:Cal X x ps F k)(ha:MA X (e::es) m)(hj:G[j]?=some x:=by rfl)
  (he:starEach (e::es) X.env=(false,eval e X.env)::starEach es X.env:=by rfl) (hpl:(backTo pos (starEach es X.env)).any (·.1)=false:=by rfl):ME X (.Call (.Name x p) (e::es) [] pos) (aB F m):=qC g hj C ha he hpl
def kCb{id:String}(g:Good X N W G k)(j:Nat)(hc:bX X (.builtin id) f)(hm:X.mg x=none)(hv:bootBuiltins x=some (.builtin id))(ha:MA X (e::es) m)(hj:G[j]?=some x:=by rfl)
  (he:starEach (e::es) X.env=(false,eval e X.env)::starEach es X.env:=by rfl) (hpl:(backTo pos (starEach es X.env)).any (·.1)=false:=by rfl):ME X (.Call (.Name x p) (e::es) [] pos) (mCB f m):=pB g j hj hc hm hv ha he hpl
def kR1{tg a:Expr}(g:Good X N W G k)(j:Nat)(hm:X.mg "range"=none)(ha:MA X [a] m)(hj:G[j]?=some "range":=by rfl)(hs:starEach [a] X.env=[(false,eval a X.env)]:=by rfl):MI X tg (.Call (.Name "range" p) [a] [] pos) (gq m):=my (g.gl _ (aR hj)) hm ha hs
end
abbrev pz:=@PyProof.Rows.Boot.«abs»
abbrev sQ:=@PyProof.Rows.Boot.«min»
abbrev om:=@PyProof.Rows.Boot.«int»
abbrev tP:=@PyProof.Rows.Boot.«str»
abbrev kL:=@PyProof.Rows.Boot.«len»
abbrev qI:=@PyProof.Rows.Boot.«list»
abbrev ph:=@PyProof.Rows.Boot.«tuple»
abbrev dJ:=@PyProof.Rows.Boot.«repr»
abbrev bt_all:=@PyProof.Rows.Boot.«all»
abbrev sR:=@PyProof.Rows.Boot.«sorted»
abbrev bt_bool:=@PyProof.Rows.Boot.«bool»
abbrev mP:=@PySem.F.slot_list_append
abbrev md:=@PySem.F.type_list_append
end MM
namespace PU
open PySem MM
open L2 (ixN atI di)
local instance (priority:=1) cdecN15 (p:Prop):Decidable p:=Classical.propDecidable p
noncomputable section
end
noncomputable section
def eqL(a b:D):Option D:=match a,b with
 | .lst xs,.lst ys=>if xs.length≠ys.length then some (.bl false) else eqD false a b
 | _,_=>eqD false a b
def opEqL_1{x y:PV}{h:MH}(e:lsO h x=none):opEqL x y h=opEq x y h:=by simp only[opEqL,e]
def opEqL_2{x y:PV}{h:MH}(e:lsO h y=none):opEqL x y h=opEq x y h:=by
 simp only[opEqL,e];cases lsO h x <;> rfl
def tL{q:Nat}{h:MH}{L:Nat}{O:List Nat}{d:D}{v:PV}{u:PyData}(w:Vw q h L O d v)(e:py d=some u)(nl:∀ds,d≠.lst ds):lsO h v=none:=by
 cases d with
 | non=>rw[w.non];rfl
 | bl b=>rw[w.bl];rfl
 | int b=>rw[w.int];rfl
 | str b=>rw[w.str];rfl
 | tup b=>obtain⟨xs,rfl,_⟩:=w.tup;rfl
 | lst ds=>exact absurd rfl (nl ds)
 | _=>cases e
def oEqL:Op2 where
 m:=opEqL
 p:=eqL
 fr:=true
 ok {q h L O a x b y d} bd wa wb e:=by
  have other:eqD false a b=some d->opEqL x y h=opEq x y h->Gv q h O true (opEqL x y h) d:=fun e1 e2=>by
   rw[e2];exact oEq.ok bd wa wb e1
  by_cases la:∃xs,a=.lst xs
  ·obtain⟨xs,rfl⟩:=la;by_cases lb:∃zs,b=.lst zs
   ·obtain⟨zs,rfl⟩:=lb;obtain⟨n,us,rfl,g,r⟩:=wa.lst;obtain⟨m,vs,rfl,g',r'⟩:=wb.lst;have l1:=r.length;have l2:=r'.length;have e0:opEqL (.loc n) (.loc m) h=if us.length≠vs.length then .ok (.bl false) h else opEq (.loc n) (.loc m) h:=by simp only[opEqL,lsO,g,g']
    unfold eqL at e;dsimp only at e;by_cases z:xs.length≠zs.length
    ·rw[qae z] at e;cases e;rw[e0,qae (by lia)];exact gvB
    ·rw[qat z] at e;exact other e (by rw[e0,qat (by lia)])
   ·have e1:eqD false (.lst xs) b=some d:=by
     cases b with
     | lst zs=>exact absurd ⟨zs,rfl⟩ lb
     | _=>exact e
    obtain⟨_,_,_,e3,_⟩:=jt e1;exact other e1 (opEqL_2 (tL wb e3 fun zs z=>lb ⟨zs,z⟩))
  ·have e1:eqD false a b=some d:=by
    cases a with
    | lst xs=>exact absurd ⟨xs,rfl⟩ la
    | _=>exact e
   obtain⟨_,_,e3,_⟩:=jt e1;exact other e1 (opEqL_1 (tL wa e3 fun zs z=>la ⟨zs,z⟩))
def eqL_eq{xs zs:List D}(h:xs.length=zs.length):oEqL.p (.lst xs) (.lst zs)=eqD false (.lst xs) (.lst zs):=by
 show eqL (.lst xs) (.lst zs)=_;unfold eqL;dsimp only;rw[qat (by simpa using h)]
end
noncomputable section
def cLS:OpN where
 k:=fun vs h1=>match vs with
  | [x]=>(match (fB h1 x).bind iG with
   | some ns=>if ns.length<=1000 then .ok (.int (many ns)) h1 else .bad
   | none=>.bad)
  | _=>.bad
 p:=fun as=>match as with
  | [.lst ds]=>(iJ ds).bind fun ns=>if ns.length<=1000 then some (.int (many ns)) else none
  | _=>none
 fr:=true
 ok {q h L O as xs d} bd w e:=by
  match as,e with
  | [.lst ds],e =>
   obtain⟨x,rfl,wx⟩:=bU w;obtain⟨zs,e0,r⟩:=wx.lstOf;rw[qaT] at e;obtain⟨ns,e1,e2⟩:=e;by_cases z:ns.length<=1000
   ·rw[qae z] at e2;cases e2;simp only[e0,qba,oK r e1,mI];rw[qae z];exact gvI
   ·rw[qat z] at e2;cases e2
def cLS_i{ns:List Int}(h:ns.length<=1000):cLS.p [.lst (ns.map .int)]=some (.int (many ns)):=by
 have e:∀ns:List Int,iJ (ns.map .int)=some ns:=fun ns=>by
  induction ns with
  | nil=>rfl
  | cons i k ih=>rw[qaJ,iJ,ih];rfl
 show (iJ (ns.map .int)).bind _=_;rw[e,qba,qae h]
end
def many_nd{ns:List Int}:many ns=ns.length↔ns.Nodup:=by
 have key:∀j,j<=ns.length->(∀k,k∈PyProof.Rows.firstMet (fun i=>ns.getD i 0) j↔k∈ns.take j)/\((PyProof.Rows.firstMet (fun i=>ns.getD i 0) j).length=j↔(ns.take j).Nodup):=by
  intro j
  induction j with
  | zero=>simp[PyProof.Rows.firstMet_zero]
  | succ j ih =>
   intro hj;obtain⟨a,b⟩:=ih (by lia);have hj':j<ns.length:=by lia
   have et:ns.take (j+1)=ns.take j++[ns[j]]:=by simp
   have eg:ns.getD j 0=ns[j]:=by simp[hj']
   have ea:(PyProof.Rows.firstMet (fun i=>ns.getD i 0) j).any (· == ns.getD j 0)=decide (ns[j]∈ns.take j):=by
    rw[Bool.eq_iff_iff,qbF,decide_eq_true_iff,<-a,eg];exact⟨fun ⟨x,hx,e⟩=>by rw[<-eq_of_beq e];exact hx,fun h=>⟨_,h,by simp⟩⟩
   have hle:=PyProof.Rows.firstMet_length_le (fun i=>ns.getD i 0) j;rw[PyProof.Rows.firstMet_succ,et];constructor
   ·intro k
    have:=PyProof.Rows.step_any (PyProof.Rows.firstMet (fun i=>ns.getD i 0) j) (ns.getD j 0) k
    rw[Bool.eq_iff_iff,qbF,Bool.or_eq_true,qbF,decide_eq_true_iff,eg] at this;rw[qaL,qbj,<-a];constructor
    ·intro h;rw[eg] at h;rcases this.mp ⟨k,h,by simp⟩ with ⟨x,hx,e⟩|e
     ·rw[<-eq_of_beq e];exact .inl hx
     ·exact .inr e
    ·intro h;obtain⟨x,hx,e⟩:=this.mpr (h.imp (fun h=>⟨k,h,by simp⟩) id);rw[eg,<-eq_of_beq e];exact hx
   ·rw[PyProof.Rows.step_length,ea,List.nodup_append];by_cases z:ns[j]∈ns.take j
    ·exact⟨fun h=>by lia,fun h=>absurd rfl (h.2.2 _ z _ (by simp))⟩
    ·simp only[z,decide_false,qar];constructor
     ·intro h
      exact⟨b.mp (by lia),by simp,fun x hx y hy e=>z (by
       have:y=ns[j]:=by simpa using hy
       rw[<-this,<-e];exact hx)⟩
     ·intro h;lia
 have:=(key ns.length (qaj _)).2
 rw[qbG] at this;exact this
end PU
namespace PU
open PySem MM L2
noncomputable section
inductive VwD (h:MH) (fz:Bool) (ks:List Int) (P:List PV->Prop) (v:PV):Prop
 | mk (n:Nat) (xs:List PV) (e:v=.loc n) (g:h[n]?=some (.dic fz ks xs)) (r:P xs):VwD h fz ks P v
variable {ws:List Nat}
end
end PU
namespace MM
open PySem PySem.Spec PyProof.Rows L2
section
variable {X:Cx} {a b:Expr} {pos:Pos} {k:Nat}
def bC:Expr->Bool
 | .Starred _ _=>false
 | _=>true
def bf(h:bC e=true):starEach (e::es) env=(false,eval e env)::starEach es env:=by
 cases e <;> first | rfl | cases h
def ma_con(ha:ME X e m)(hr:MA X es ms)(hp:bC e=true:=by rfl):MA X (e::es) (ac m ms):=ao ha hr (bf hp)
structure ME1 (X:Cx) (e:Expr) (m:Mx PV):Prop where
 h:ME X e m
structure MAs (X:Cx) (es:List Expr) (ms:Mx (List PV)):Prop where
 h:MA X es ms
structure MS1 (X:Cx) (st:Stmt) (m:Mst):Prop where
 h:MS X st m
structure MS2 (X:Cx) (st:List Stmt) (m:Mst):Prop where
 h:MSs X st m
section
variable {e:Expr} {es:List Expr} {m ma mb:Mx PV} {ms:Mx (List PV)} {st:Stmt} {rest:List Stmt} {u v:Mst} {f:PV→PV→MH→Out PV} {N W G:List Str} {x:Str}
def hJ:MAs X [] mNil:=⟨aE⟩
def cK(ha:ME1 X e m)(hr:MAs X es ms)(hp:bC e=true:=by rfl):MAs X (e::es) (ac m ms):=⟨ma_con ha.h hr.h hp⟩
def e_1(h:ME X e m):ME1 X e m:=⟨h⟩
def l_1(h:MAs X es ms):ME1 X (.List es pos) (ft ms):=⟨ul h.h⟩
def t_1(h:MAs X es ms):ME1 X (.Tuple es j pos) (dR ms):=⟨nH h.h⟩
def s_1(h:MS X st u):MS1 X st u:=⟨h⟩
def a_1(g:Good X N W G k)(i:Nat){pos':Pos}(he:ME1 X e m)(hi:N[i]?=some x:=by rfl)(hw:W[i]?=some x:=by rfl)(hs:swapsWith e (some (.Name x pos')) pos.line X.env=pure false:=by rfl) :
  MS1 X (.Assign [.Name x pos'] e pos) (aU i m):=⟨oU g i hi hw he.h hs⟩
def r_1(he:ME1 X e m):MS1 X (.Return (some e) pos) (bn m):=⟨ms_ret he.h⟩
def m1n(h:MS1 X st u):MS2 X [st] u:=⟨mss_one h.h⟩
def m1c(h1:MS1 X st u)(h2:MS2 X rest v):MS2 X (st::rest) (aI u v):=⟨vK h1.h h2.h⟩
end
end
end MM
namespace MM
open PySem PySem.Spec PyProof.Rows L2
local instance (priority:=1) cdec54 (p:Prop):Decidable p:=Classical.propDecidable p
end MM
namespace PU
open PySem MM
noncomputable section
local instance (priority:=1) cdec51 (p:Prop):Decidable p:=Classical.propDecidable p
end
end PU
namespace MM
open PySem PySem.Spec PyProof.Rows L2 SetT SortT
local instance (priority:=1) cdec55 (p:Prop):Decidable p:=Classical.propDecidable p
end MM
namespace PU
open PySem MM SetT
local instance (priority:=1) cdecN52 (p:Prop):Decidable p:=Classical.propDecidable p
noncomputable section
end
end PU
namespace MM
open PySem PySem.Spec PyProof.Rows L2
open PU (Xe Xs Xt Xi Xg Xgs Xo Xd Op1 Op2 OpN OpI OpM OpR Fn ab xC af xUn xNil aa xCb ah sn cg bV xB fk nL xOr xTrue cC nt fZ gV bD fw eQ xNm xGl xGc xGp aq xSkip aS lr xIf aD gA lL xWh xMt ba xNo xPt xSl xTr kc j3 xCT)
structure MT1 (X:Cx) (e:Expr) (m:Mx Bool):Prop where
 h:MT X e m
structure MW1 (X:Cx) (e:Expr) (m:Mx Bool):Prop where
 h:MW X e m
structure MI1 (X:Cx) (tg e:Expr) (m:Mx MIt):Prop where
 h:MI X tg e m
structure MG1 (X:Cx) (e:Expr) (m:Mg):Prop where
 h:MG X e m
structure MG2 (X:Cx) (e:List Expr) (m:Mgs):Prop where
 h:MGs X e m
structure MT2 (X:Cx) (e:List Expr) (m:Mx Bool):Prop where
 h:MTs X e m
structure MO1 (X:Cx) (e:Option Expr) (m:Mx (Option Int)):Prop where
 h:MO' X e m
structure OJ (X:Cx) (r:Value->Value->Sem Value) (o:Op2):Prop where
 h:OpJ X r o.m
def sGl(sc:Scope):List Str:=(sc.names.filter fun y=>match y.2 with | .globalImplicit=>true | _=>false).map (·.1)
abbrev gm(sc:Scope)(x:Str):Prop:=x∈sGl sc
def tgN:Expr->List Str
 | .Name x _=>[x]
 | .Tuple es _ _=>es.flatMap fun e=>match e with
  | .Name x _=>[x]
  | .Tuple es _ _=>es.flatMap fun e=>match e with
   | .Name x _=>[x]
   | _=>[]
  | _=>[]
 | _=>[]
def frN(N:List Str)(fm:List Nat):List Str:=fm.filterMap (N[·]?)
structure Wc (X:Cx) (P:Program) (w:World) (K:qaa) (mg:Str->Option Value) (base:Heap) (N W:List Str) (k:Nat) (sc:Scope):Prop where
 g:Good X N W (sGl sc) k
 e:EE X P w K mg base
 s:X.env.scope=sc
section
variable {X Y:Cx} {P:Program} {w:World} {K:qaa} {mg:Str→Option Value} {base:Heap} {N W:List Str} {k:Nat} {sc:Scope} {ws:List Nat} {x y:Str} {p p' pos spos:Pos} {e a b d tg:Expr} {es:List Expr} {i j:Nat} {st:Stmt} {rest body:List Stmt} {xa xb xd:Xe ws} {ta tb:Xt ws} {sa:Xs ws} {da db:Xd ws}
def Wc.gj(c:Wc X P w K mg base N W k sc)(h:gm sc x):∃j:Nat,(sGl sc)[j]?=some x:=List.getElem?_of_mem h
def Wc.n(c:Wc X P w K mg base N W k sc)(z:Zn K x):X.mg x=none:=c.e.n z
def w_int{i:Int}:ME1 X (.Constant (.int i) j pos) (xC (ws:=ws) (.int i)).m:=⟨aw⟩
def w_str{i:Str}:ME1 X (.Constant (.str i) j pos) (xC (ws:=ws) (.str i)).m:=⟨hG⟩
def w_bl{i:Bool}:ME1 X (.Constant (.bool i) j pos) (xC (ws:=ws) (.bl i)).m:=⟨ni⟩
def w_non:ME1 X (.Constant .none j pos) (xC (ws:=ws) .non).m:=⟨tw⟩
def w_bin{op:Operator}{o:Op2}(ho:OJ X (binaryOp op) o)(ha:ME1 X a xa.m)(hb:ME1 X b xb.m):ME1 X (.BinOp a op b pos) (af o xa xb).m:=⟨aP ho.h ha.h hb.h⟩
def w_cmp{op:CmpOp}{o:Op2}(ho:OJ X (compareOp op) o)(ha:ME1 X a xa.m)(hb:ME1 X b xb.m)(hm:behindInMarks op b=false):ME1 X (.Compare a [op] [b] pos) (af o xa xb).m:=⟨tq ho.h ha.h hb.h hm⟩
def w_ix(ha:ME1 X a xa.m)(hb:ME1 X b xb.m)(hs:ju b):ME1 X (.Subscript a b pos) (af PU.oIx xa xb).m:=⟨me_ix ha.h hb.h hs⟩
def w_neg(ha:ME1 X a xa.m):ME1 X (.UnaryOp .USub a pos) (xUn PU.fj xa).m:=⟨me_un uj_neg ha.h⟩
def w_notV(ha:ME1 X a xa.m):ME1 X (.UnaryOp .Not a pos) (nt xa).m:=⟨me_not ha.h⟩
def w_chain{op op':CmpOp}{o o':Op2}(ho:OJ X (compareOp op) o)(ho':OJ X (compareOp op') o')(ha:ME1 X a xa.m)(hb:ME1 X b xb.m)(hd:ME1 X d xd.m)(hm:lastMarks [op,op'] [b,d]=false):ME1 X (.Compare a [op,op'] [b,d] pos) (gV o o' xa xb xd).m:=⟨vy ho.h ho'.h ha.h hb.h hd.h hm⟩
def w_one{op:BoolOp}(ha:ME1 X a xa.m):ME1 X (.BoolOp op [a] pos) xa.m:=⟨tZ ha.h⟩
def w_andV(ha:ME1 X a xa.m)(hb:ME1 X (.BoolOp .And (b::es) pos) xb.m):ME1 X (.BoolOp .And (a::b::es) pos) (cC xa xb).m:=⟨oB ha.h hb.h⟩
def w_ifE{fz hf}(hc:MT1 X e ta.m)(ha:ME1 X a xa.m)(hb:ME1 X b xb.m):ME1 X (.IfExp e a b pos) (fZ ta xa xb fz hf).m:=⟨me_ifE hc.h ha.h hb.h⟩
def w_tup{hz}(h:MAs X es sa.m):ME1 X (.Tuple es j pos) (bV sa hz).m:=t_1 h
def w_lst{hz}(h:MAs X es sa.m):ME1 X (.List es pos) (cg sa hz).m:=l_1 h
def w_sl{lo hi:Option Expr}{ol oh:Xo ws}(ha:ME1 X a xa.m)(hl:MO1 X lo ol.m)(hh:MO1 X hi oh.m):ME1 X (.Subscript a (.Slice lo hi none p) pos) (xSl xa ol oh).m:=⟨me_sl ha.h hl.h hh.h⟩
def w_no:MO1 X none (xNo (ws:=ws)).m:=⟨mo_none⟩
def w_pt(ha:ME1 X a xa.m):MO1 X (some a) (xPt xa).m:=⟨mo_some ha.h⟩
def w_nil:MAs X [] (xNil (ws:=ws)).m:=hJ
def w_cons(ha:ME1 X e xa.m)(hs:MAs X es sa.m)(hp:bC e=true):MAs X (e::es) (aa xa sa).m:=cK ha hs hp
def j_Sub:OJ X (binaryOp .Sub) PU.gS:=⟨oj_sub⟩
def j_Mod:OJ X (binaryOp .Mod) PU.io:=⟨cZ⟩
def j_Pow:OJ X (binaryOp .Pow) PU.dD:=⟨o8⟩
def j_Lt:OJ X (compareOp .Lt) PU.oLt:=⟨oj_lt⟩
def j_Le:OJ X (compareOp .LtE) PU.oLe:=⟨oj_le⟩
def j_Gt:OJ X (compareOp .Gt) PU.oGt:=⟨oj_gt⟩
def j_Ge:OJ X (compareOp .GtE) PU.oGe:=⟨oj_ge⟩
def j_Is:OJ X (compareOp .Is) (PU.oIs false):=⟨oj_is⟩
section
variable (c:Wc X P w K mg base N W k sc)
include c
def w_var(hi:N[i]?=some x):ME1 X (.Name x pos) (ab (ws:=ws) i).m:=⟨t7 c.g i hi⟩
def w_glI{i:Int}(v:∃t,PySem.W.nsIn K mainGlobals x=some (some (.int i t)))(hx:gm sc x):ME1 X (.Name x pos) (xC (ws:=ws) (.int i)).m :=
 let ⟨_,hj⟩:=c.gj hx
 ⟨me_glI c.g hj (let ⟨t,z⟩:=v;⟨t,by rw[c.e.e4];exact PySem.W.mg_of c.e.b.kin c.e.b.ns z⟩)⟩
def j_Fd:OJ X (binaryOp .FloorDiv) PU.oFd:=⟨r9 c.g.room⟩
def w_glT{i j:Int}(v:TupG K mg x i j)(hx:gm sc x):ME1 X (.Name x pos) (xCT (ws:=ws) i j).m :=
 let ⟨_,hj⟩:=c.gj hx
 ⟨me_glT c.g hj (by rw[c.e.e3,c.e.e4];exact v)⟩
def j_Eq:OJ X (compareOp .Eq) PU.oEq:=⟨iF c.g.room⟩
def j_Ne:OJ X (compareOp .NotEq) PU.oNe:=⟨rP c.g.room⟩
end
def fC{env:Env}:∀{es:List Expr},es.all bC=true->(backTo pos (starEach es env)).any (·.1)=false
 | [],_=>rfl
 | e::es,h=>by
  have h':bC e=true/\es.all bC=true:=by simpa using h
  have:=fC (env:=env) h'.2
  rw[bf h'.1];simpa [backTo] using this
section
variable (c:Wc X P w K mg base N W k sc)
include c
def w_call{F:Fn}{ps:List Str}{hz}(ha:MAs X (e::es) sa.m)(f:FnAt P w K mg base x ps F.m i)(h:i<=k)(hx:gm sc x)(hp:(e::es).all bC=true):ME1 X (.Call (.Name x p) (e::es) [] pos) (ah F sa hz).m :=
 let ⟨_,hj⟩:=c.gj hx
 have hp':bC e=true/\es.all bC=true:=by simpa using hp
 ⟨qC c.g hj (f.c c.e h) ha.h (bf hp'.1) (fC hp'.2)⟩
end
inductive BB (X:Cx) (x:Str) (o:OpN):Prop
 | fn (id:String) (f:List PV->MH->Out PV) (h:bootBuiltins x=some (.builtin id)) (c:bX X (.builtin id) f) (e:o.k=fun xs h=>(f xs h).ne:=by rfl):BB X x o
 | ty (T:String) (f:List PV->MH->Out PV) (h:bootBuiltins x=some (.type T)) (c:bX X (.type T) f) (e:o.k=fun xs h=>(f xs h).ne:=by rfl):BB X x o
def b_abs:BB X "abs" PU.lZ:=.fn _ _ pz oz
def b_int:BB X "int" PU.jX:=.ty _ _ om tD
def b_str:BB X "str" PU.dC:=.ty _ _ tP cj_str
def b_len:BB X "len" PU.dY:=.fn _ _ kL lf
def b_list:BB X "list" PU.ss:=.ty _ _ qI cj_list
def b_tuple:BB X "tuple" PU.d9:=.ty _ _ ph uI
section
variable (c:Wc X P w K mg base N W k sc)
include c
def w_blt{o:OpN}(B:BB X x o)(ha:MAs X (e::es) sa.m)(z:Zn K x)(hx:gm sc x)(hp:(e::es).all bC=true):ME1 X (.Call (.Name x p) (e::es) [] pos) (xCb o sa).m:=by
 obtain⟨j,hj⟩:=c.gj hx;have hp':bC e=true/\es.all bC=true:=by simpa using hp
 refine⟨?_⟩;show ME X _ (fun σ h=>(sa.m σ h).bind o.k)
 cases B with
 | fn id f h d q=>rw[q];exact pB c.g j hj d (c.n z) h ha.h (bf hp'.1) (fC hp'.2)
 | ty T f h d q=>rw[q];exact sN c.g j hj d (c.n z) h ha.h (bf hp'.1) (fC hp'.2)
def b_all:BB X "all" PU.nK:=.fn _ _ bt_all (cj_all c.g)
def w_LS(ha:MAs X [a] sa.m)(z1:Zn K "len")(z2:Zn K "set")(h1:gm sc "len")(h2:gm sc "set")(hp:bC a=true):ME1 X (.Call (.Name "len" p) [.Call (.Name "set" p') [a] [] spos] [] pos) (xCb PU.cLS sa).m :=
 let ⟨_,i⟩:=c.gj h1;let ⟨_,j⟩:=c.gj h2
 ⟨tE c.g _ _ (c.n z1) (c.n z2) ha.h i j (bf hp)⟩
end
structure BT (x:Str) (T:String):Prop where
 h:bootBuiltins x=some (.type T)
 o:okT T
def B_int:BT "int" "int":=⟨om,okT_int⟩
def B_bool:BT "bool" "bool":=⟨bt_bool,vx⟩
def B_tuple:BT "tuple" "tuple":=⟨ph,sI⟩
def B_str:BT "str" "str":=⟨tP,okT_str⟩
section
variable (c:Wc X P w K mg base N W k sc)
include c
def w_isi{T:String}(B:BT x T)(ha:ME1 X a xa.m)(z1:Zn K "isinstance")(z2:Zn K x)(h1:gm sc "isinstance")(h2:gm sc x)(hp:bC a=true):ME1 X (.Call (.Name "isinstance" p) [a,.Name x p'] [] pos) (xUn (PU.d7 [T]) xa).m :=
 let ⟨_,i⟩:=c.gj h1;let ⟨_,j⟩:=c.gj h2
 ⟨sU c.g i (c.n z1) j (c.n z2) B.h B.o ha.h (bf hp)⟩
end
abbrev MJ(X:Cx)(name:Str)(f:Nat->List PV->MH->Out PV):Prop:=∃id,Slot "list" name id/\typeOf (.builtin id)=pure (.type "method_descriptor")/\MtR X id (mtJ X f)
section
variable {name:Str} {f:Nat→List PV→MH→Out PV} {o:OpM} {m:Mx PV}
def w_me{ma:Mx (List PV)}(M:MJ X name f)(ho:ME1 X a m)(ha:MAs X (e::es) ma)(h:(((backTo pos (starEach (e::es) X.env)).all (fun x=>!x.1) && (backToKw pos (keywordEach [] X.env)).all (fun x=>x.1.isSome) && decide ((e::es).length+([]:List Keyword).length+(if ([]:List Keyword).isEmpty then 0 else 1)<30))=true/\(p.endLine == pos.line)=true)/\attributeBase a name X.env (eval a X.env)=eval a X.env/\starEach (e::es) X.env=(false,eval e X.env)::starEach es X.env/\(backTo pos (starEach es X.env)).any (·.1)=false):ME1 X (.Call (.Attribute a name p) (e::es) [] pos) (mMt f m ma) :=
 let ⟨_,x,y,z⟩:=M
 ⟨me_bm x y z ho.h ha.h h.2.1 h.1.1 h.1.2 h.2.2.1 h.2.2.2⟩
def w_mt{hi hz}(h:ME1 X e (mMt o.m (ab (ws:=ws) i).m sa.m))(hs:swapsWith e none pos.line X.env=pure false):MS1 X (.Expr e pos) (xMt o i sa hi hz).m:=⟨qU h.h hs⟩
end
def vv:MJ X "append" PU.aAppend.m:=⟨_,mP,md,mF⟩
def w_tcmp{op:CmpOp}{o:Op2}(ho:OJ X (compareOp op) o)(ha:ME1 X a xa.m)(hb:ME1 X b xb.m)(hm:behindInMarks op b=false):MT1 X (.Compare a [op] [b] pos) (xB (af o xa xb)).m:=⟨sF ho.h ha.h hb.h hm⟩
def w_tnot(h:MT1 X a ta.m):MT1 X (.UnaryOp .Not a pos) (fk ta).m:=⟨tT h.h⟩
def w_tw{op:BoolOp}(h:MW1 X (.BoolOp op es pos) ta.m):MT1 X (.BoolOp op es pos) ta.m:=⟨MW.mt h.h⟩
def w_and1(h:MT1 X a ta.m):MW1 X (.BoolOp .And [a] pos) ta.m:=⟨mw_and1 h.h⟩
def w_or1(h:MT1 X a ta.m):MW1 X (.BoolOp .Or [a] pos) ta.m:=⟨k5 h.h⟩
def w_and(h:MT1 X a ta.m)(h2:MW1 X (.BoolOp .And (b::es) pos) tb.m):MW1 X (.BoolOp .And (a::b::es) pos) (nL ta tb).m:=⟨mw_and h.h h2.h⟩
def w_or(h:MT1 X a ta.m)(h2:MW1 X (.BoolOp .Or (b::es) pos) tb.m):MW1 X (.BoolOp .Or (a::b::es) pos) (xOr ta tb).m:=⟨kS h.h h2.h⟩
def w_tru(h:ME1 X e xa.m)(he:∀whole,isTrue e X.env whole=(do let v <-whole;standAt e.pos;holding [v] (truthy v))):MT1 X e (xTr xa).m:=⟨mt_tru h.h he⟩
def w_val(h:ME1 X e xa.m)(he:∀whole,isTrue e X.env whole=(do let v <-whole;standAt e.pos;holding [v] (truthy v))):MT1 X e (xB xa).m:=⟨sK h.h he⟩
def w_ts0:MT2 X [] (xTrue (ws:=ws)).m:=⟨mts_nil⟩
def w_ts1(h:MT1 X a ta.m):MT2 X [a] ta.m:=⟨mts_one h.h⟩
def w_gl:MG2 X [] (xGl (ws:=ws)).m:=⟨mgs_nil⟩
def w_gc{ga:Xg ws}{gs:Xgs ws}(h1:MG1 X e ga.m)(h2:MG2 X es gs.m)(hs:(assignEach (e::es) X.env).map (·.2)=assign e X.env::(assignEach es X.env).map (·.2)):MG2 X (e::es) (xGc ga gs).m:=⟨u7 h1.h h2.h hs⟩
def w_itS(h:ME1 X a xa.m):MI1 X tg a (eQ xa).m:=⟨mi_seq h.h⟩
section
variable (c:Wc X P w K mg base N W k sc)
include c
def w_nm{hi}(h:N[i]?=some x)(hw:W[i]?=some x):MG1 X (.Name x pos) (xNm (ws:=ws) i hi).m:=⟨qH c.g i h hw⟩
def w_gp{gs:Xgs ws}{n:Nat}(h:MG2 X es gs.m)(hn:(assignEach es X.env).length=n)(hst:(assignEach es X.env).findIdx? (·.1)=none):MG1 X (.Tuple es j pos) (xGp gs n).m:=⟨mg_tup c.g h.h hn hst⟩
def w_iE{n:Nat}(h:MAs X [a] sa.m)(z:Zn K "enumerate")(hx:gm sc "enumerate")(hp:bC a=true):MI1 X (.Tuple es n p) (.Call (.Name "enumerate" p') [a] [] pos) (fw PU.iE sa).m:=let ⟨_,hj⟩:=c.gj hx;⟨mi_enum c.g hj (c.n z) h.h (bf hp)⟩
def w_iR1(h:MAs X [a] sa.m)(z:Zn K "range")(hx:gm sc "range")(hp:bC a=true):MI1 X tg (.Call (.Name "range" p) [a] [] pos) (fw PU.iR1 sa).m:=⟨my (c.g.gl _ hx) (c.n z) h.h (bf hp)⟩
end
structure CB (Y:Cx) (tg elt:Expr) (ifs:List Expr) (gt:Mg) (mt:Mx Bool) (me:Mx PV):Prop where
 g:MG1 Y tg gt
 t:MT2 Y ifs mt
 e:ME1 Y elt me
section
variable {iter elt:Expr} {ifs:List Expr} {scope:Scope} {nv:Nat} {fm ws':List Nat} {xi:Xi ws} {gt:Xg ws'} {xt:Xt ws'} {xe:Xe ws'}
abbrev CPs(N:List Str)(tg:Expr)(nv:Nat)(fm:List Nat)(scope sc:Scope):Prop:=CPm scope sc (tgN tg) (frN N fm)/\(tgN tg++frN N fm).Nodup/\(∀x∈sGl (rlb scope sc),scope.names.lookup x=some .globalImplicit)/\(∀x∈(tgN tg++frN N fm)++sGl (rlb scope sc),(x == ("__debug__":Str))=false/\(x == ("__classdict__":Str))=false/\x≠"__name__")/\fm.map (fun i=>N[i]?)=(frN N fm).map some/\(tgN tg).length=nv
section
variable (c:Wc X P w K mg base N W k sc)
include c
def w_comp{hw:PU.cws nv fm ws=ws'}{hz:xe.fz=true}(hi:MI1 X tg iter xi.m)(hY:∀Y:Cx,Wc Y P w K mg base (tgN tg++frN N fm) (tgN tg) k (rlb scope sc)->CB Y tg elt ifs gt.m xt.m xe.m)(h1:scope.kind=.function)(h:CPs N tg nv fm scope sc)
  (hs:∀x,foldedSetIterable iter X.env x=pure x):ME1 X (.ListComp elt [⟨tg,iter,ifs,0⟩] scope pos) (bD nv fm xi gt xt xe hw hz).m:=by
 obtain⟨h2,nd,hg,dbg,h7,rfl⟩:=h;exact⟨me_comp c.g (compOk1 c.s h1 h7 h2) nd hg dbg hi.h (fun Y y1 y2 y3 y4 y5 y6 g=>let q:=hY Y ⟨g,⟨y1.trans c.e.e1,y2.trans c.e.e2,y3.trans c.e.e3,y4.trans c.e.e4,y5.trans c.e.e5,c.e.b⟩,y6.trans (rlb_eq c.s)⟩;⟨q.g.h,q.t.h,q.e.h⟩) hs⟩
end
section
variable (c:Wc X P w K mg base N W k sc) (hsw:∀env:Env,env.scope=sc→swapsWith (.ListComp elt [⟨tg,iter,ifs,0⟩] scope pos) (some (.Name y p)) spos.line env=pure true) (hi:MI1 X tg iter xi.m) (hY:∀Y:Cx,Wc Y P w K mg base (tgN tg++frN N fm) (tgN tg) k (rlb scope sc)→CB Y tg elt ifs gt.m xt.m xe.m) (hyi:N[i]?=some y) (hyw:W[i]?=some y) (h1:scope.kind=.function) (h:CPs N tg nv fm scope sc) (hs:∀x,foldedSetIterable iter X.env x=pure x)
include hsw hi hY c hyi hyw h1 h hs
end
end
def w_s0:MS2 X [] (xSkip (ws:=ws)).m:=⟨eJ⟩
def eG(h:MS1 X st da.m):MS2 X [st] da.m:=m1n h
def cc(h1:MS1 X st da.m)(h2:MS2 X rest db.m):MS2 X (st::rest) (aq da db).m:=m1c h1 h2
def w_ret(h:ME1 X e xa.m):MS1 X (.Return (some e) pos) (aS xa).m:=r_1 h
def w_retO{hi}(h:ME1 X e (ab (ws:=ws) i).m):MS1 X (.Return (some e) pos) (lr (ws:=ws) i hi).m:=r_1 h
def w_if(hc:MT1 X e ta.m)(ha:MS2 X body da.m)(hb:MS2 X rest db.m):MS1 X (.If e body rest pos) (xIf ta da db).m:=⟨gF hc.h ha.h hb.h⟩
def w_bad:MS1 X st (j3 (ws:=ws)).m:=⟨ms_bad⟩
section
variable (c:Wc X P w K mg base N W k sc)
include c
def w_for{xi:Xi ws}{xg:Xg ws}{hz}(hi:MI1 X tg e xi.m)(hg:MG1 X tg xg.m)(hb:MS2 X body da.m)(hs:∀x,foldedSetIterable e X.env x=pure x):MS1 X (.For tg e body [] pos) (lL xi xg da hz).m:=⟨ue c.g hi.h hg.h hb.h hs⟩
def w_wh{n hm}(hc:MT1 X e ta.m)(hb:MS2 X body da.m):MS1 X (.While e body [] pos) (xWh n ta da hm).m:=⟨va c.g hc.h hb.h⟩
def w_set{hi' hz}(he:ME1 X e xa.m)(hs:swapsWith e (some (.Name x p)) pos.line X.env=pure false)(hi:N[i]?=some x)(hw:W[i]?=some x):MS1 X (.Assign [.Name x p] e pos) (aD i xa hi' hz).m:=⟨oU c.g i hi hw he.h hs⟩
def w_setO{hi' hz}(he:ME1 X e xa.m)(hs:swapsWith e (some (.Name x p)) pos.line X.env=pure false)(hi:N[i]?=some x)(hw:W[i]?=some x):MS1 X (.Assign [.Name x p] e pos) (gA i xa hi' hz).m:=⟨oU c.g i hi hw he.h hs⟩
def w_par{x y:Str}{px py pt pt2:Pos}{kt k2}{hi' hj' hz}(hw:∀env:Env,env.scope=sc->swappedStores [.Tuple [.Name x px,.Name y py] kt pt] (.Tuple [a,b] k2 pt2) env=pure (some [x,y]))(ha:MAs X [a,b] sa.m)(hi:N[i]?=some x)(hj:N[j]?=some y)(hij:i≠j)(hx:sc.names.lookup x=some .local)(hy:sc.names.lookup y=some .local)
  (hs:swapsWithSole [.Tuple [.Name x px,.Name y py] kt pt] (.Tuple [a,b] k2 pt2) pos.line X.env=pure false):MS1 X (.Assign [.Tuple [.Name x px,.Name y py] kt pt] (.Tuple [a,b] k2 pt2) pos) (kc i j sa hi' hj' hz).m:=⟨ms_par c.g i j hi hj hij ha.h (by rw[c.s];exact hx) (by rw[c.s];exact hy) (hw _ c.s) hs⟩
end
def fnW{F:Fn}{np:Nat}{ws:List Nat}{B:Xd ws}{hw}(N:List Str)(b:Ba P w K mg base)(D:DefAt K x st)(hb:∀X:Cx,Wc X P w K mg base N N k (ag st)->DefCx X->MS2 X (au st) B.m)(hF:F=ba N.length np B hw:=by rfl)
  (Bi:g7 x st (N.take np):=by first | exact fun _ _ _ _ _ _=>ar1 fun _=>rfl | exact fun _ _ _ _ _ _=>ar2 fun _ _=>rfl | exact fun _ _ _ _ _ _=>ar3 fun _ _ _=>rfl | exact fun _ _ _ _ _ _=>ar4 fun _ _ _ _=>rfl | exact fun _ _ _ _ _ _=>ar5 fun _ _ _ _ _=>rfl)
  (S:FnScope N (N.take np) (ag st):=by exact⟨rfl,rfl,rfl,by decide +kernel,rfl,by decide +kernel,by decide +kernel⟩)
  (hl:∀y∈N,(ag st).names.lookup y=some .local\/(ag st).names.lookup y=some .cell:=by decide +kernel) (hgl:∀y∈sGl (ag st),(ag st).names.lookup y=some .globalImplicit:=by decide +kernel)
  (dbg:∀x∈N++sGl (ag st),(x == ("__debug__":Str))=false/\(x == ("__classdict__":Str))=false/\x≠"__name__":=by decide +kernel) (hp:(N.take np).length=np:=by rfl) :
  FnAt P w K mg base x (N.take np) F.m (k+1):=by
 have q:=tW b.kin b.ns D S Bi hl hgl dbg fun X e1 e2 e3 e4 e5 e6 g dc=>(hb X ⟨g,⟨e1,e2,e3,e4,e5,b⟩,e6⟩ dc).h;rw[hp] at q;subst hF;exact q
end
end MM
namespace SortT
open PySem PyProof.Rows PySem.W
def fW(h:Heap)(rk:Value->Int)(v:Value):Prop:=∃b o xs m t,v=.ref b/\h.get? b=some o/\o.cls=.type "tuple"/\o.data=.seq xs m/\xs[0]?=some (.int (rk v) t)
def ic(n:Nat)(c:Nat->Nat->Bool):KasT (Array Nat)->Option (Array Nat)
 | .ret p=>some p
 | .ask i j k=>if i<n/\j<n then ic n c (k (c i j)) else none
def nj(l:List Nat):Bool:=match ic l.length (fun i j=>decide (l.getD i 0<l.getD j 0)) (kas_sort l.length) with
 | some p=>p.toList.isPerm (List.range l.length) && decide ((p.toList.map fun i=>l.getD i 0).Pairwise (·<=·))
 | none=>false
def ff(ks:List Int):Prop:=∃l:List Nat,nj l=true/\l.length=ks.length/\∀i j:Nat,i<ks.length->j<ks.length->(ks.getD i 0<ks.getD j 0↔l.getD i 0<l.getD j 0)
section
variable {prog:Program} {w:World} {A:Around} {E:Value→Shared→Prop} {s:Shared} {rk:Value→Int} {vs:List Value}
def pZ{v:Value}{Q:Bool->Shared->Prop}(hv:(v == v)=true)(h:Q true s):wpAny (model prog w) A (eqBool v v) Q E s:=by
 unfold eqBool;refine wpAny_holding ?_;rw[qae hv];exact qad (wpAny_rule (qaz h))
def pi{b:Bool}{Q:Bool->Shared->Prop}(h:Q fin s):∀(xs:List Value) (i:Nat),(∀v∈xs,(v == v)=true)->KatLex prog w A b fin Q (xs.zip xs) i s
 | [],_,_=>kat_nil h
 | x::xs,i,hv=>by
  rw[List.zip_cons_cons];exact kat_cons (pZ (hv x qaC) (kat_yes (pi h xs (i+1) fun v z=>hv v (qab _ z))))
def nh(rk:Value->Int)(vs:List Value):Prop:=∀x∈vs,∀y∈vs,rk x=rk y->x=y
def row_lt{x1 y1:Value}{Q:Bool->Shared->Prop}(hk:∀v∈vs,fW s.heap rk v)(nd:nh rk vs)(gx:x1∈vs)(gy:y1∈vs)(q':Q (decide (rk x1<rk y1)) s):wpAny (model prog w) A (keyLt' (tuples' true) x1 y1) Q (fun _ _=>False) s:=by
 obtain⟨ax,ox,ix,nx,tx,ex,hox,_,hdx,hix⟩:=hk x1 gx;obtain⟨ay,oy,iy,ny,ty,ey,hoy,_,hdy,hiy⟩:=hk y1 gy;by_cases z:rk x1=rk y1
 ·have e:=nd x1 gx y1 gy z;subst e;have e0:decide (rk x1<rk x1)=decide (ix.size<ix.size):=by simp
  rw[e0] at q';rw[ex];exact kat_lt hox hdx hox hdx (pi q' _ _ fun v _=>beq_self_eq_true v)
 ·rw[ex,ey];refine kat_lt hox hdx hoy hdy ?_;obtain⟨rx,e1⟩:∃r,ix.toList=.int (rk x1) tx::r:=by
   cases e:ix.toList with
   | nil=>rw[<-qbc,e] at hix;cases hix
   | cons a r=>rw[<-qbc,e] at hix;cases hix;exact⟨r,rfl⟩
  obtain⟨ry,e2⟩:∃r,iy.toList=.int (rk y1) ty::r:=by
   cases e:iy.toList with
   | nil=>rw[<-qbc,e] at hiy;cases hiy
   | cons a r=>rw[<-qbc,e] at hiy;cases hiy;exact⟨r,rfl⟩
  rw[e1,e2,List.zip_cons_cons];refine kat_cons (wpAny_eqBool_int ?_)
  have:(rk x1 == rk y1)=false:=by simpa using z
  rw[this];exact kat_no (oneLt_int q')
def oO{i:Nat}(h:i<vs.length):vs.getD i Value.none∈vs:=by
 rw[qaF,qaA h];exact qbo h
def uk{G:Array Nat->Shared->Prop}(hk:∀v∈vs,fW s.heap rk v)(nd:nh rk vs){c:Nat->Nat->Bool}(hc:∀i j,i<vs.length->j<vs.length->c i j=decide (rk (vs.getD i Value.none)<rk (vs.getD j Value.none))){p:Array Nat}(g:G p s) :
  ∀t:KasT (Array Nat),ic vs.length c t=some p->t.kasWp (kas_ask prog w A (tuples' true) vs) G s
 | .ret a,e=>by cases e;exact g
 | .ask i j k,e=>by
  unfold ic at e;by_cases z:i<vs.length/\j<vs.length
  ·rw[qae z] at e;show kas_ask prog w A (tuples' true) vs i j _ s;unfold kas_ask;refine row_lt hk nd (oO z.1) (oO z.2) ?_;rw[<-hc i j z.1 z.2];exact uk hk nd hc g _ e
  ·rw[qat z] at e;cases e
def fW.up{h h':Heap}{v:Value}(k:∀b o,h.get? b=some o->o.cls=.type "tuple"->h'.get? b=some o)(r:fW h rk v):fW h' rk v :=
 let ⟨b,o,xs,m,t,e,g,c,d⟩:=r;⟨b,o,xs,m,t,e,k b o g c,c,d⟩
def oC{Q:SortKind->Shared->Prop}(hk:∀v∈vs,fW s.heap rk v)(h1:0<vs.length)(h:Q (tuples' true) s):wpAny (model prog w) A (keyKind' vs.toArray) Q E s:=by
 have key:∀us:List Value,(∀v∈us,fW s.heap rk v)->∃fs:List Value,fs.length=us.length/\KatTups s.heap us fs/\∀v∈fs,∃i t,v=.int i t:=by
  intro us
  induction us with
  | nil=>exact fun _=>⟨[],rfl,KatTups.nil,fun v hv=>by cases hv⟩
  | cons u us ih =>
   intro hall;obtain⟨fs,f1,f2,f3⟩:=ih fun v hv=>hall v (qab _ hv);obtain⟨b,o,xs,m,t,e,g,c,d,f⟩:=hall u qaC;rw[e] at f ⊢;refine⟨.int (rk (.ref b)) t::fs,by simp[f1],KatTups.cons g c d f f2,fun v hv=>?_⟩;rcases qag.mp hv with rfl|hv
   ·exact⟨_,_,rfl⟩
   ·exact f3 v hv
 obtain⟨fs,f1,f2,f3⟩:=key vs hk;refine kat_kind (T:=.type "int") f2 (by lia) (fun v hv=>?_) (by decide) h;obtain⟨i,t,rfl⟩:=f3 v hv;exact .now
def ok_out(ok:ff (vs.map rk))(h64:vs.length<64):∃p:Array Nat,ic vs.length (fun i j=>decide (rk (vs.getD i Value.none)<rk (vs.getD j Value.none))) (kas_sort vs.length)=some p/\(p.toList.map fun i=>vs.getD i Value.none).Perm vs/\((p.toList.map fun i=>vs.getD i Value.none).map rk).Pairwise (·<=·):=by
 obtain⟨l,h1,h2,h3⟩:=ok;rw[qaS] at h2 h3;have gk:∀i,i<vs.length->(vs.map rk).getD i 0=rk (vs.getD i Value.none):=fun i hi=>by simp[qaF,hi]
 have run:∀t:KasT (Array Nat),ic vs.length (fun i j=>decide (rk (vs.getD i Value.none)<rk (vs.getD j Value.none))) t=ic l.length (fun i j=>decide (l.getD i 0<l.getD j 0)) t:=by
  intro t;rw[h2]
  induction t with
  | ret a=>rfl
  | ask i j k ih =>
   unfold ic;by_cases z:i<vs.length/\j<vs.length
   ·rw[qae z,qae z];have e:=h3 i j z.1 z.2;rw[gk i z.1,gk j z.2] at e;rw[decide_eq_decide.mpr e,ih]
   ·rw[qat z,qat z]
 unfold nj at h1
 cases e:ic l.length (fun i j=>decide (l.getD i 0<l.getD j 0)) (kas_sort l.length) with
 | none=>rw[e] at h1;cases h1
 | some p =>
  rw[e] at h1;dsimp only at h1;rw[qaZ,decide_eq_true_eq] at h1;have pm:=List.isPerm_iff.mp h1.1;rw[h2] at pm;have lt:∀i∈p.toList,i<vs.length:=fun i hi=>qbM.mp (pm.mem_iff.mp hi);refine⟨p,by rw[run,<-h2,e],?_,?_⟩
  ·have a:=pm.map fun i=>vs.getD i Value.none;refine a.trans (List.Perm.of_eq ?_);apply List.ext_getElem
   ·simp
   ·intro i x1 x2;simp[qaF,x2]
  ·have b:=h1.2;rw[qaU] at b;rw[qaU,qaU];refine (List.Pairwise.and_mem.mp b).imp fun {a b} q=>?_
   have:=h3 b a (lt b q.2.1) (lt a q.1)
   rw[gk b (lt b q.2.1),gk a (lt a q.1)] at this;lia
def ud(ho:s.heap.get? a=some (seqObj "list" vs.toArray n))(hk:∀v∈vs,fW s.heap rk v)(nd:nh rk vs)(ok:ff (vs.map rk))(h64:vs.length<64)
  (h:∀out:List Value,out.Perm vs->(out.map rk).Pairwise (·<=·)->P (.done (.ret .none)) { s with heap:=sortedHeap s.heap a vs out.toArray}) :
  wpAny (model prog w) A (Builtin.«list.sort» ⟨[.ref a],[]⟩) P E s:=by
 rw[list_sort_plain];have ha:a<s.heap.objs.size:=qam ho;have hfits:vs.length<=sizeLine:=by rw[sizeLine_eq];lia
 refine qad (listItems_at ho rfl ?_);refine qad (listUpdate_at ho rfl ?_ (by rw[qak];exact hfits) (qaO _));obtain⟨e1,ho1⟩:∃e1,(s.heap.update a (Obj.mapSeq fun _=>(#[]:Array Value))).get? a=some (seqObj "list" #[] e1):=⟨_,get?_update_seq ho fun _=>#[]⟩;refine qad (seqEpoch_at ho1 rfl ?_);refine qad (wpAny_newTuple ?_ (by show vs.length<=_;exact hfits));refine qad (wpAny_newList ?_ (qaO _));refine wpAny_holding ?_;have ho6:(((s.heap.update a (Obj.mapSeq fun _=>(#[]:Array Value))).push (seqObj "tuple" vs.toArray 0)).push (seqObj "list" #[] 0)).get? a=some (seqObj "list" #[] e1) :=
  qac _ (qac _ ho1)
 show wpAny (model prog w) A _ P E { s with heap:=((s.heap.update a (Obj.mapSeq fun _=>(#[]:Array Value))).push (seqObj "tuple" vs.toArray 0)).push (seqObj "list" #[] 0)};have hk6:∀v∈vs,fW (((s.heap.update a (Obj.mapSeq fun _=>(#[]:Array Value))).push (seqObj "tuple" vs.toArray 0)).push (seqObj "list" #[] 0)) rk v:=fun v hv=>(hk v hv).up fun b o hb hc=>by
  have hne':b≠a:=by
   rintro rfl;rw[ho] at hb;cases hb;have hc':Value.type "list"=Value.type "tuple":=hc;exact absurd hc' (by decide)
  exact qac _ (qac _ ((qbg _ _ _ _ hne').trans hb))
 have hsz:vs.toArray.size=vs.length:=by simp
 dsimp only;by_cases h2:vs.toArray.size<2
 ·rw[qae h2,qae h2];refine qad (qaz ?_);rw[StateT.run_pure];refine qad (qaz ?_);dsimp only;refine qad (seqEpoch_at ho6 rfl ?_);have hz:((vs.toArray.zip vs.toArray).map (·.2))=vs.toArray:=by
   apply Array.toList_inj.mp;simp only[Array.toList_map,Array.toList_zip,List.toList_toArray];exact List.map_snd_zip (qaj _)
  refine qad (listUpdate_at ho6 rfl ?_ (qaO _) (by show ((vs.toArray.zip vs.toArray).map (·.2)).size<=_;rw[hz,hsz];lia));simp only[bne_self_eq_false,qar,if_false];refine qaz ?_
  have:=h vs (List.Perm.refl _) (by
   match vs,hsz▸h2 with
   | [],_=>simp
   | [x],_=>simp)
  have e:(arrOf (SortSt.mk' general' (vs.toArray.zip vs.toArray) #[] 7 none)).map (·.2)=vs.toArray:=hz;rw[e];exact this
 ·rw[qat h2,qat h2];refine qad (oC (s:={ s with heap:=_}) hk6 (by lia) ?_);obtain⟨p,hp,pm,pw⟩:=ok_out ok h64
  refine qad (wpAny_mono (kat_run (Q:=fun st' s'=>(arrOf st').map (·.2)=(p.toList.map fun i=>vs.getD i Value.none).toArray/\failedOf st'=none/\s'={ s with heap:=((s.heap.update a (Obj.mapSeq fun _=>(#[]:Array Value))).push (seqObj "tuple" vs.toArray 0)).push (seqObj "list" #[] 0)})
   (G:=fun p' s'=>p'=p/\s'={ s with heap:=((s.heap.update a (Obj.mapSeq fun _=>(#[]:Array Value))).push (seqObj "tuple" vs.toArray 0)).push (seqObj "list" #[] 0)}) rfl (by lia) h64 (fun p' st' s' _ a2 a3 ⟨a4,a5⟩=>by subst a4;exact⟨kat_snds rfl a2,a3,a5⟩)
   (uk (s:={ s with heap:=((s.heap.update a (Obj.mapSeq fun _=>(#[]:Array Value))).push (seqObj "tuple" vs.toArray 0)).push (seqObj "list" #[] 0)}) hk6 nd (fun i j _ _=>rfl) ⟨rfl,rfl⟩ _ hp)) ?_ fun _ _ e=>e)
  rintro⟨⟨⟩,st'⟩ s' ⟨hout,hf,rfl⟩;dsimp only;refine qad (seqEpoch_at ho6 rfl ?_);have hz:((arrOf st').map (·.2)).size=vs.length:=by rw[hout,qak,pm.length_eq]
  refine qad (listUpdate_at ho6 rfl ?_ (qaO _) (by show ((arrOf st').map (·.2)).size<=_;rw[hz];lia));rw[hf];simp only[bne_self_eq_false,qar,if_false];refine qaz ?_;rw[hout];exact h _ pm pw
def re{T:String}{p:Addr}{o:Obj}{m:Nat}{Q:List Value->Shared->Prop}(hT:T="list"\/T="tuple")(hp:s.heap.get? p=some o)(hc:o.cls=.type T)(hd:o.data=.seq vs.toArray m)(hz:vs.length<=sizeLine)
  (h:Q vs { s with heap:=(s.heap.push (seqObj "list" #[] 0)).update s.heap.objs.size (Obj.mapSeq (·++vs.toArray))}):wpAny (model prog w) A (collect (.ref p)) Q E s:=by
 have hp':(s.heap.push (seqObj "list" #[] 0)).get? p=some o:=qac _ hp;have h0:(s.heap.push (seqObj "list" #[] 0)).get? s.heap.objs.size=some (seqObj "list" #[] 0):=qaw _ rfl;have br:(Value.type T == Value.type "list" || Value.type T == Value.type "tuple")=true:=by rcases hT with rfl|rfl <;> rfl
 unfold collect;refine qad (wpAny_runValue (codeAny_builtin entry_proto_collect' (qad (wpAny_newList (qaz ⟨Code.quiet_builtin _ (by decide +kernel),codeAny_builtin entry_list_iadd' ?_⟩)))));show wpAny _ _ (Builtin.List.listExtendWith (.ref s.heap.objs.size) (.ref p) _) _ _ { s with heap:=s.heap.push (seqObj "list" #[] 0)};unfold Builtin.List.listExtendWith;refine qad (wpAny_typeOf (T:=T) ⟨o,hp',hc⟩ ?_);rw[qae (by rw[Bool.or_assoc,br,Bool.or_true])];refine qad (listItems_at hp' hd (qad (listItems_at h0 rfl ?_)));rw[qat (by simp)];refine qad (listUpdate_at h0 rfl (qaz ?_) (qaO _) (by show (#[]++vs.toArray).size<=_;simp;lia));show wpAny _ A (load s.heap.objs.size >>= _) _ _ _;refine qad (wpAny_load (get?_update_seq h0 _) ?_);have e:((#[]:Array Value)++vs.toArray).toList=vs:=by simp
 show wpAny _ _ (pure _) _ _ _;rw[e];exact qaz h
def pS{T:String}{p:Addr}{o:Obj}{m:Nat}{Q:Value->Shared->Prop}(hT:T="list"\/T="tuple")(hp:s.heap.get? p=some o)(hc:o.cls=.type T)(hd:o.data=.seq vs.toArray m)(hk:∀v∈vs,fW s.heap rk v)(nd:nh rk vs)(ok:ff (vs.map rk))(h64:vs.length<64)
  (h:∀(h':Heap) (l:Addr) (out:List Value),(∀b o',s.heap.get? b=some o'->h'.get? b=some o')->s.heap.objs.size<=l->(∃c,h'.get? l=some (seqObj "list" out.toArray c))->out.Perm vs->(out.map rk).Pairwise (·<=·)->Q (.ref l) { s with heap:=h'}) :
  wpAny (model prog w) A (call (.builtin "sorted") [.ref p]) Q E s:=by
 have hfits:vs.length<=sizeLine:=by rw[sizeLine_eq];lia
 refine Calls.call_function_entry kind_sorted plain_sorted entry_sorted (args_sorted1 _) ?_;unfold Builtin.«sorted»;refine qad (m:=checkCount "sorted" 1 1 _) (qaz (qad (re hT hp hc hd hfits (qad (wpAny_newList ?_ hfits)))));generalize e1:(s.heap.push (seqObj "list" #[] 0)).update s.heap.objs.size (Obj.mapSeq (·++vs.toArray))=h1;have x1:∀b o,s.heap.get? b=some o->h1.get? b=some o:=fun b o z=>by
  rw[<-e1,qbg _ _ _ _ (qaH (qam z))];exact qac _ z
 have hle:s.heap.objs.size<=h1.objs.size:=by rw[<-e1,Heap.size_update,size_push'];exact Nat.le_succ _
 have hoL:(h1.push (seqObj "list" vs.toArray 0)).get? h1.objs.size=some (seqObj "list" vs.toArray 0):=qaw _ rfl;have up:∀b o,h1.get? b=some o->(h1.push (seqObj "list" vs.toArray 0)).get? b=some o:=fun b o e=>qac _ e
 refine qad (wpAny_holding (wpAny_call_entry slot_list_sort ⟨_,hoL,rfl⟩ entry_list_sort
  (ud (s:={ s with heap:=h1.push (seqObj "list" vs.toArray 0)}) hoL (fun v hv=>(hk v hv).up fun b o hb _=>up b o (x1 b o hb)) nd ok h64 fun out pv r2=>⟨_,rfl,?_⟩) (args_list_sort _)))
 refine qaz ⟨_,rfl,h _ h1.objs.size out (fun b o e=>?_) hle (li hoL _) pv r2⟩;exact j9 (qaH (qam (x1 b o e))) (up b o (x1 b o e)) _
end
end SortT
namespace SortT
def oneAt(m p:Nat):List Nat:=(List.range m).map (fun i=>if i<p then i else i+1)++[p]
def one_all:∀m,m<13->nj (List.range m)=true/\∀p,p<m+1->nj (oneAt m p)=true:=by decide +kernel
def rise_lt{as:List Int}(h:as.Pairwise (·<·)){i j:Nat}(hi:i<as.length)(hj:j<as.length):as.getD i 0<as.getD j 0↔i<j:=by
 rw[qaF,qaA hi,qaF,qaA hj,qbE,qbE];have k:=List.pairwise_iff_getElem.mp h;rcases Nat.lt_trichotomy i j with z|z | z
 ·have:=k i j hi hj z;lia
 ·subst z;lia
 ·have:=k j i hj hi z;lia
def rise_ok{as:List Int}(h:as.Pairwise (·<·))(hl:as.length<13):ff as :=
 ⟨List.range as.length,(one_all _ hl).1,by simp,fun i j hi hj=>by
  rw[rise_lt h hi hj,qaF,qaF,List.getElem?_range hi,List.getElem?_range hj];rfl⟩
end SortT
namespace MM
open PySem PySem.Spec PyProof.Rows L2
local instance (priority:=1) cdec43 (p:Prop):Decidable p:=Classical.propDecidable p
section
variable {α β:Type}
def bv(f:α->Int)(x:α):List α->List α
 | []=>[x]
 | y::r=>if f x<=f y then x::y::r else y::bv f x r
def aL(f:α->Int)(l:List α):List α:=l.foldr (bv f) []
def iO(f:α->Int)(x:α):∀l,(bv f x l).Perm (x::l)
 | []=>.refl _
 | y::r=>by
  unfold bv;split
  ·exact .refl _
  ·exact ((iO f x r).cons y).trans (.swap x y r)
def cD(f:α->Int):∀l,(aL f l).Perm l
 | []=>.refl _
 | x::l=>(iO f x (aL f l)).trans ((cD f l).cons x)
def mM(f:α->Int)(x:α):∀l:List α,l.Pairwise (fun a b=>f a<=f b)->(bv f x l).Pairwise (fun a b=>f a<=f b)
 | [],_=>by simp[bv]
 | y::r,h=>by
  have h':=qbk.mp h;unfold bv;split
  ·rename_i z
   refine qbk.mpr ⟨fun a ha=>?_,h⟩;rcases qag.mp ha with q|q
   ·rw[q];exact z
   ·exact Int.le_trans z (h'.1 a q)
  ·rename_i z
   refine qbk.mpr ⟨fun a ha=>?_,mM f x r h'.2⟩;rcases qag.mp ((iO f x r).mem_iff.mp ha) with rfl|ha
   ·lia
   ·exact h'.1 a ha
def mL(f:α->Int):∀l:List α,(aL f l).Pairwise (fun a b=>f a<=f b)
 | []=>.nil
 | x::l=>mM f x _ (mL f l)
def mH(g:β->α)(f:α->Int)(x:β):∀l:List β,bv f (g x) (l.map g)=(bv (fun b=>f (g b)) x l).map g
 | []=>rfl
 | y::r=>by
  rw[qaJ];unfold bv;split
  ·rfl
  ·rw[mH g f x r];rfl
def jg(g:β->α)(f:α->Int):∀l:List β,aL f (l.map g)=(aL (fun b=>f (g b)) l).map g
 | []=>rfl
 | x::l=>by
  show bv f (g x) (aL f (l.map g))=(bv _ x (aL _ l)).map g;rw[jg g f l,mH]
def jS{f g:α->Int}{x:α}:∀{l:List α},f x=g x->(∀a∈l,f a=g a)->bv f x l=bv g x l
 | [],_,_=>rfl
 | y::r,hx,h=>by
  unfold bv;rw[hx,h y qaC,jS hx fun a ha=>h a (qab _ ha)]
def jO{f g:α->Int}:∀{l:List α},(∀a∈l,f a=g a)->aL f l=aL g l
 | [],_=>rfl
 | x::l,h=>by
  have e:=jO (f:=f) (g:=g) (l:=l) fun a ha=>h a (qab _ ha);show bv f x (aL f l)=bv g x (aL g l);rw[e];exact jS (h x qaC) fun a ha=>h a (qab _ ((cD g l).mem_iff.mp ha))
def i7{f:α->Int}:∀{l:List α} {x y:α},(l.map f).Nodup->x∈l->y∈l->f x=f y->x=y
 | [],_,_,_,h,_,_=>by cases h
 | a::l,x,y,nd,hx,hy,e=>by
  rw[qaJ,qbi] at nd;rcases qag.mp hx with q1|q1
  ·rcases qag.mp hy with q2|q2
   ·exact q1.trans q2.symm
   ·exact absurd (qau.mpr ⟨y,q2,e.symm.trans (congrArg f q1)⟩) nd.1
  ·rcases qag.mp hy with q2|q2
   ·exact absurd (qau.mpr ⟨x,q1,e.trans (congrArg f q2)⟩) nd.1
   ·exact i7 nd.2 q1 q2 e
def kG{f:α->Int}{l m:List α}(p:m.Perm l)(nd:(l.map f).Nodup)(h:m.Pairwise fun a b=>f a<=f b):m=aL f l :=
 List.Perm.eq_of_pairwise (fun a b ha hb x y=>i7 nd (p.mem_iff.mp ha) ((cD f l).mem_iff.mp hb) (by lia)) h (mL f l) (p.trans (cD f l).symm)
end
def nQ:PV->Option Int
 | .tup (.int k::_)=>some k
 | _=>none
def rkP(x:PV):Int:=(nQ x).getD 0
def rkH(h:Heap)(v:Value):Int:=match v with
 | .ref b=>(match h.get? b with
  | some o=>(match o.data with
   | .seq xs _=>(match (xs[0]?:Option Value) with
    | some (.int k _)=>k
    | _=>0)
   | _=>0)
  | none=>0)
 | _=>0
def fSortR(xs:List PV)(h:MH):Out PV:=match xs with
 | [x]=>(match ca h x with
  | some ys=>if (∀y∈ys,(nQ y).isSome=true)/\(ys.map rkP).Nodup/\SortT.ff (ys.map rkP)/\ys.length<64 then .ok (.loc h.length) (h++[.lst (aL rkP ys)]) else .bad
  | none=>.bad)
 | _=>.bad
inductive T3 (K:qaa) (ρ:List Addr) (H:Hp):List PV->List V->List Value->List (PV × V × Value)->Prop
 | nil:T3 K ρ H [] [] [] []
 | cons {x:PV} {y:V} {u:Value} {xs:List PV} {ys:List V} {us:List Value} {ts:List (PV × V × Value)} (r:RP K ρ H x y) (v:aM y u) (t:T3 K ρ H xs ys us ts):T3 K ρ H (x::xs) (y::ys) (u::us) ((x,y,u)::ts)
section
variable {K:qaa} {ρ:List Addr} {H:Hp}
def T3.ex:∀{xs:List PV} {ys:List V} {us:List Value},RPs K ρ H xs ys->aA ys us->∃ts,T3 K ρ H xs ys us ts
 | _,_,_,.nil,.nil=>⟨[],.nil⟩
 | _,_,_,.cons r rs,.cons v vs=>let ⟨ts,t⟩:=T3.ex rs vs;⟨_,.cons r v t⟩
def T3.maps:∀{xs:List PV} {ys:List V} {us:List Value} {ts:List (PV × V × Value)},T3 K ρ H xs ys us ts->xs=ts.map (·.1)/\us=ts.map (·.2.2)/\∀t∈ts,RP K ρ H t.1 t.2.1/\aM t.2.1 t.2.2
 | _,_,_,_,.nil=>⟨rfl,rfl,fun t h=>by cases h⟩
 | _,_,_,_,.cons r v t=>by
  obtain⟨e1,e2,h⟩:=t.maps;refine⟨by rw[e1];rfl,by rw[e2];rfl,fun q hq=>?_⟩;rcases qag.mp hq with rfl|hq
  ·exact⟨r,v⟩
  ·exact h q hq
def sJ:∀{ts:List (PV × V × Value)},(∀t∈ts,RP K ρ H t.1 t.2.1/\aM t.2.1 t.2.2)->RPs K ρ H (ts.map (·.1)) (ts.map (·.2.1))/\aA (ts.map (·.2.1)) (ts.map (·.2.2))
 | [],_=>⟨.nil,.nil⟩
 | t::ts,h=>by
  obtain⟨a,b⟩:=sJ (ts:=ts) fun q hq=>h q (qab _ hq);obtain⟨c,d⟩:=h t qaC;exact⟨.cons c a,.cons d b⟩
end
section
variable {X:Cx}
def vf:bX X (.builtin "sorted") fSortR:=by
 intro FA s σ H xs us Q I r ⟨ρ,h,ps,rh,rp,q⟩
 cases rp with
 | nil=>exact q.elim
 | @cons x y _ _ r1 t1 =>
  cases t1 with
  | cons _ _=>exact q.elim
  | nil =>
   unfold fSortR at q
   cases es:ca h x with
   | none=>simp only[es] at q;exact q.elim
   | some ys =>
    simp only[es] at q;by_cases z:(∀y∈ys,(nQ y).isSome=true)/\(ys.map rkP).Nodup/\SortT.ff (ys.map rkP)/\ys.length<64
    ·rw[qae z] at q;obtain⟨a,zs,rfl,hsq,rzs⟩:=jq rh r1 es;obtain⟨u,rfl,rx⟩:=dy r;cases rx;obtain⟨T,o,m,its,hT,ho,hc,hd,rv⟩:∃(T:String) (o:Obj) (m:Nat) (its:List Value),(T="list"\/T="tuple")/\s.heap.get? a=some o/\o.cls=.type T/\o.data=.seq its.toArray m/\aA zs its:=by
      rcases hsq with hq|hq
      ·obtain⟨its,rv,pl,_⟩:=I.list hq;obtain⟨o,ho,hc,n,hd⟩:=pl.isList;exact⟨"list",o,n,its,.inl rfl,ho,hc,hd,rv⟩
      ·obtain⟨its,rv,⟨o,ho,hc,n,hd⟩,_⟩:=I.tuple hq;exact⟨"tuple",o,n,its,.inr rfl,ho,hc,hd,rv⟩
     obtain⟨ts,t3⟩:=T3.ex rzs rv;obtain⟨e1,e2,hm⟩:=t3.maps;have key:∀t∈ts,SortT.fW s.heap (rkH s.heap) t.2.2/\rkP t.1=rkH s.heap t.2.2:=fun t ht=>by
      obtain⟨rp,rl⟩:=hm t ht;have hk:=z.1 t.1 (by rw[e1];exact qau.mpr ⟨t,ht,rfl⟩);obtain⟨t1,t2,t3⟩:=t;dsimp only at rp rl hk ⊢
      cases rp with
      | @tup ps a2 vs sq rps =>
       cases rl
       cases rps with
       | nil=>cases hk
       | @cons p0 v0 _ _ r0 rr =>
        cases r0 with
        | int i =>
         obtain⟨it2,rv2,⟨o2,g2,c2,n2,d2⟩,_⟩:=I.tuple sq
         cases rv2 with
         | cons w0 wr =>
          obtain⟨tk,rfl⟩:=w0;have e:rkH s.heap (.ref a2)=i:=by simp[rkH,g2,d2]
          exact⟨⟨a2,o2,_,n2,tk,rfl,g2,c2,d2,by rw[e];rfl⟩,by rw[e];rfl⟩
        | _=>cases hk
      | _=>cases hk
     have ek:ys.map rkP=its.map (rkH s.heap):=by
      rw[e1,e2,qaE,qaE];exact qaV fun t ht=>(key t ht).2
     have hl:its.length=ys.length:=by rw[e1,e2];simp
     refine SortT.pS (vs:=its) (rk:=rkH s.heap) hT ho hc hd (fun v hv=>?_) (fun x hx y hy e=>i7 (ek▸z.2.1) hx hy e) (ek▸z.2.2.1) (by rw[hl];exact z.2.2.2) fun h' l out kp hsz ⟨c,hc'⟩ pv ri=>?_
     ·rw[e2] at hv;obtain⟨t,ht,rfl⟩:=qau.mp hv;exact (key t ht).1
     ·have eo:out=aL (rkH s.heap) its:=kG pv (ek▸z.2.1) (qaU.mp ri);have et:aL (fun t:PV × V × Value=>rkP t.1) ts=aL (fun t=>rkH s.heap t.2.2) ts:=jO fun t ht=>(key t ht).2;obtain⟨ra,rb⟩:=sJ (K:=X.K) (ρ:=ρ) (H:=H) (ts:=aL (fun t:PV × V × Value=>rkP t.1) ts) fun t ht=>hm t ((cD _ _).mem_iff.mp ht);have s1:aL rkP ys=(aL (fun t:PV × V × Value=>rkP t.1) ts).map (·.1):=by rw[e1,jg]
      have s2:out=(aL (fun t:PV × V × Value=>rkP t.1) ts).map (·.2.2):=by rw[eo,et,e2,jg]
      rw[<-s1] at ra;rw[<-s2] at rb;have lz:((aL (fun t:PV × V × Value=>rkP t.1) ts).map (·.2.1)).length<=sizeLine:=by
       rw[<-ra.length,(cD rkP ys).length_eq,sizeLine_eq];have:=z.2.2.2;lia
      refine⟨.ref l,_,I.laid (o:=.lst ((aL (fun t:PV × V × Value=>rkP t.1) ts).map (·.2.1))) (t':=s.toks) kp hsz (show ObjOk X.prog X.w _ _ _ (.lst _) from⟨lz,out,c,rb,hc'⟩),rfl,?_⟩;obtain⟨rh3,l3⟩:=rh.new (I.hok.fresh hsz) (o:=.lst (aL rkP ys)) (ho:=.lst ((aL (fun t:PV × V × Value=>rkP t.1) ts).map (·.2.1))) ⟨_,rfl,ra⟩;exact q _ _ _ l3 rh3 (.loc (by rw[<-rh.len];simp))
    ·rw[qat z] at q;exact q.elim
end
end MM
namespace PU
open PySem MM
local instance (priority:=1) cdecN25 (p:Prop):Decidable p:=Classical.propDecidable p
def gB:D->Option Int
 | .tup (.int k::_)=>some k
 | _=>none
def rkD(d:D):Int:=(gB d).getD 0
section
variable {q:Nat} {h:MH} {O:List Nat}
def qh{d:D}{v:PV}(r:Rp q h O d v)(e:(gB d).isSome=true):nQ v=gB d:=by
 cases d with
 | tup ds =>
  cases ds with
  | nil=>cases e
  | cons d0 ds =>
   cases d0 with
   | int k =>
    obtain⟨xs,rfl,x,t,rfl,a,b⟩:=r;rw[show x=.int k from a];rfl
   | _=>cases e
 | _=>cases e
def oI{d:D}{v:PV}(r:Rp q h O d v)(e:rkP v=rkD d):∀{ds:List D} {vs:List PV},Rps q h O ds vs->(∀(i:Nat) a b,ds[i]?=some a->vs[i]?=some b->rkP b=rkD a)->Rps q h O (bv rkD d ds) (bv rkP v vs)
 | [],vs,rs,_=>by
  rw[show vs=[] from rs];exact⟨v,[],rfl,r,rfl⟩
 | d'::ds,vs,rs,hk=>by
  obtain⟨x,t,rfl,a,b⟩:=rs;unfold bv;rw[e,hk 0 d' x rfl rfl];split
  ·exact⟨v,x::t,rfl,r,x,t,rfl,a,b⟩
  ·exact⟨x,_,rfl,a,oI r e b fun i a b h1 h2=>hk (i+1) a b (by simpa using h1) (by simpa using h2)⟩
def tY{ds:List D}{vs:List PV}(r:Rps q h O ds vs)(hk:∀d∈ds,(gB d).isSome=true):(∀v∈vs,(nQ v).isSome=true)/\vs.map rkP=ds.map rkD:=by
 induction ds generalizing vs with
 | nil=>rw[show vs=[] from r];exact⟨(fun v h=>by cases h),rfl⟩
 | cons d ds ih =>
  obtain⟨x,t,rfl,a,b⟩:=r;obtain⟨i1,i2⟩:=ih b fun d hd=>hk d (qab _ hd);have e:=qh a (hk d qaC);refine⟨fun v hv=>?_,?_⟩
  ·rcases qag.mp hv with rfl|hv
   ·rw[e];exact hk d qaC
   ·exact i1 v hv
  ·rw[qaJ,qaJ,i2];simp[rkP,rkD,e]
def vG{ds:List D}{vs:List PV}(r:Rps q h O ds vs)(hk:∀d∈ds,(gB d).isSome=true):Rps q h O (aL rkD ds) (aL rkP vs):=by
 induction ds generalizing vs with
 | nil=>rw[show vs=[] from r];exact rfl
 | cons d ds ih =>
  obtain⟨x,t,rfl,a,b⟩:=r;have hk':∀d∈ds,(gB d).isSome=true:=fun d hd=>hk d (qab _ hd);have r2:=ih b hk';show Rps q h O (bv rkD d (aL rkD ds)) (bv rkP x (aL rkP t));have e2:=(tY r2 fun z hz=>hk' z ((cD rkD ds).mem_iff.mp hz)).2;refine oI a (by simp[rkP,rkD,qh a (hk d qaC)]) r2 fun i a b h1 h2=>?_
  have:=congrArg (·[i]?) e2
  simpa [h1,h2] using this
end
def oA:OpN where
 k:=fun xs h=>(fSortR xs h).ne
 p:=fun as=>match as with
  | [d]=>d.items.bind fun ds=>if (∀d∈ds,(gB d).isSome=true)/\(ds.map rkD).Nodup/\SortT.ff (ds.map rkD)/\ds.length<64 then some (.lst (aL rkD ds)) else none
  | _=>none
 fr:=true
 ok {q h L O as xs d} bd w e:=by
  match as,e with
  | [d0],e =>
   obtain⟨x,rfl,wx⟩:=bU w;dsimp only at e;rw[qaT] at e;obtain⟨ds,e1,e2⟩:=e;by_cases z:(∀d∈ds,(gB d).isSome=true)/\(ds.map rkD).Nodup/\SortT.ff (ds.map rkD)/\ds.length<64
   ·rw[qae z] at e2;cases e2;obtain⟨ys,e0,r⟩:=wx.seqOf e1;obtain⟨k1,k2⟩:=tY r z.1
    have:fSortR [x] h=.ok (.loc h.length) (h++[.lst (aL rkP ys)]):=by
     simp only[fSortR,e0];rw[qae ⟨k1,k2▸z.2.1,k2▸z.2.2.1,by rw[r.length];exact z.2.2.2⟩]
    show Gv q h O true (fSortR [x] h).ne _;rw[this];have r':=vG r z.1;have g:(h++[MO.lst (aL rkP ys)])[h.length]?=some (.lst (aL rkP ys)):=by simp
    have m1:Rps q (h++[MO.lst (aL rkP ys)]) O (aL rkD ds) (aL rkP ys):=r'.mv ⟨fun n hn _=>qai hn,fun o ho=>.inl ho⟩;have m2:Rps q (h++[MO.lst (aL rkP ys)]) (h.length::O) (aL rkD ds) (aL rkP ys):=r'.mv ⟨fun n hn _=>qai hn,fun o ho=>(qag.mp ho).elim (fun z=>.inr (Nat.le_of_eq z.symm)) .inl⟩;exact⟨_,_,rfl,⟨_,_,rfl,fun z=>by have:=bd _ z;lia,g,m1⟩,fun _ k ds' e=>by obtain⟨rfl,rfl⟩:=fc e;exact⟨_,_,rfl,qaj _,g,m2⟩⟩
   ·rw[qat z] at e2;cases e2
end PU
namespace MM
open PySem L2
def b_sortR{X:L2.Cx}:BB X "sorted" PU.oA:=.fn _ _ sR vf
end MM
namespace TupM
open PySem PySem.Builtin
section
open PyProof.Rows
variable {prog:Program} {w:World} {A:Around} {E:Value→Shared→Prop} {s:Shared}
end
end TupM
namespace MM
open PySem PySem.Spec PyProof.Rows L2
local instance (priority:=1) cdec58 (p:Prop):Decidable p:=Classical.propDecidable p
end MM
namespace PU
open PySem MM
local instance (priority:=1) cdecN58 (p:Prop):Decidable p:=Classical.propDecidable p
noncomputable section
end
end PU
namespace PU
open PySem MM
open L2 (ixN atI di)
noncomputable section
mutual
def Rp.fq{p p':Nat}{h h':MH}{O O':List Nat}:∀{d:D} {v:PV},PU.flat d=true->Rp p h O d v->Rp p' h' O' d v
 | .non,_,_,r=>r
 | .bl _,_,_,r=>r
 | .int _,_,_,r=>r
 | .str _,_,_,r=>r
 | .tup ds,_,f,⟨xs,e,r⟩=>⟨xs,e,Rps.fq (by simpa [PU.flat] using f) r⟩
 | .lst ds,_,f,_=>by simp[PU.flat] at f
 | .dic _ _ _,_,f,_=>by simp[PU.flat] at f
 | .exc _,_,f,_=>by simp[PU.flat] at f
 | .pen,_,f,_=>by simp[PU.flat] at f
def Rps.fq{p p':Nat}{h h':MH}{O O':List Nat}:∀{ds:List D} {vs:List PV},PU.flats ds=true->Rps p h O ds vs->Rps p' h' O' ds vs
 | [],_,_,r=>r
 | _::_,_,f,⟨x,t,e,a,b⟩=>⟨x,t,e,Rp.fq (by simp[PU.flats] at f;exact f.1) a,Rps.fq (by simp[PU.flats] at f;exact f.2) b⟩
end
end
end PU
namespace MM
open PySem PySem.Spec PyProof.Rows L2
local instance (priority:=1) cdec60 (p:Prop):Decidable p:=Classical.propDecidable p
section
open Builtin.ObjectAttr
variable {prog:Program} {w:World} {A:Around} {E:Value→Shared→Prop} {s:Shared} {K:qaa} {x C F:Addr} {o:Obj} {name:Str} {v:Value} {cd:ClassData}
end
end MM
namespace PU
open PySem MM
local instance (priority:=1) cdecN61 (p:Prop):Decidable p:=Classical.propDecidable p
end PU
namespace PU
open PySem MM
noncomputable section
end
end PU
namespace L2
open PySem PySem.Spec PyProof.Rows
def Its(x:Str):It:=⟨fun i _=>i<x.cps.size,fun i H v H'=>H'=H/\∃c,x.cps[i]?=some c/\v=.str ⟨#[c]⟩,fun i _=>x.cps.size<=i⟩
def uC{P:Program}{w:World}{K:qaa}{tg:Expr}(x:Str)(t:Tok)(it:Addr):Turn P w K tg (Its x) [it] it (fun i h=>h.IsStrIter it "str_ascii_iterator" x t i) where
 mem:=by simp
 obj:=fun i h st b hb=>by
  have e:b=it:=by simpa using hb
  subst e;obtain⟨o,e,c,d⟩:=st;exact⟨o,e,fun v z=>by rw[d] at z;cases z⟩
 keep:=fun i h h' st k=>let ⟨o,ho,r⟩:=st;⟨o,k it (by simp) o ho,r⟩
 item:=by
  intro X hP hw hK hc i FA s σ H E I hf st hg;subst hP hw hK;have hg:i<x.cps.size:=hg;obtain⟨f0,f1,f2,f3,f4,f5⟩:=hf it (by simp);refine wpAny_pyNext_ascii_item st (c:=x.cps[i]) (by simp[hg]) fun h' st' sb=>?_;have I1:=I.turned (t':=s.toks+1) (fun b o hb e=>(sb.2 b hb).trans e) f0 f1 f3 f4 f5;obtain⟨o,e,c,d⟩:=id st';exact⟨_,rfl,nz e c d (by decide) ⟨.str ⟨#[x.cps[i]]⟩,H,I1,⟨_,rfl⟩,⟨rfl,_,by simp[hg],rfl⟩,st',fun b hb=>(hf b hb).1⟩⟩
 done:=by
  intro X hP hw hK hc i FA s σ H E I hf st hg;subst hP hw hK;have hg:x.cps.size<=i:=hg;obtain⟨f0,f1,f2,f3,f4,f5⟩:=hf it (by simp);exact wpAny_pyNext_ascii_end (I.ok.hd hc) st (by simp;lia) fun h' eb=>⟨rfl,I.turned (t':=s.toks) (fun b o hb e=>eb b o hb e) f0 f1 f3 f4 f5⟩
 self:=fun _ _ _ _ _ st h=>wpAny_pyIter_striter_ascii st h
section
variable {X:Cx} {tg:Expr}
def iStr(tl:TE):TI:=fun σ H R=>tl σ H fun x H1=>∃z:Str,x=.str z/\z.cps.all (·<128)=true/\R (Its z) H1
def pi_str{l:Expr}{tl:TE}(hl:PE X l tl):PI X tg l (iStr tl):=by
 intro FA s σ H R I h;refine thn (hl FA s σ H _ I h) fun v s1 ⟨x,H1,I1,r1,q1⟩=>?_;obtain⟨z,e,ha,q⟩:=q1;subst e;obtain⟨t,rfl⟩:=r1;refine wpAny_pyIter_ascii ha ?_;refine⟨s1.heap.objs.size,[s1.heap.objs.size],_,_,H1,rfl,I1.kept (t':=s1.toks) fun b o e=>qac _ e,uC z t _,⟨_,qaw _ rfl,rfl,rfl⟩,fun b hb=>?_,q⟩;have e:b=s1.heap.objs.size:=by simpa using hb
 subst e;exact I1.fpOk (qaj _) (I1.hok.fresh (qaj _))
end
end L2
namespace L2
open PySem PySem.Spec PyProof.Rows PySem.Builtin PySem.Builtin.Str
section
variable {prog:Program} {w:World} {A:Around} {E:Value→Shared→Prop} {s:Shared} {x y:Str} {t u:Tok} {Q:Value→Shared→Prop}
def uV(hy:(y.length == 0)=false)(hsz:x.length<=sizeLine)(hs2:(Txt.split x y).length<=sizeLine)
  (hq:∀l k,l.map (·.1)=Txt.split x y->Q (.ref s.heap.objs.size) { s with toks:=k,heap:=s.heap.push { cls:=.type "list",data:=.seq (strValues l).toArray}}) :
  wpAny (model prog w) A (call (.builtin "str.split") [.str x t,.str y u]) Q E s:=by
 cases h1:(decide (x.length<y.length) || decide (strKind x<strKind y))
 ·cases hf:(occurrences x y 0 x.length (x.length+1)).isEmpty
  ·have es:Txt.split x y=partsBetween x (occurrences x y 0 x.length (x.length+1)) y.length:=(qat (ne_true_of_eq_false h1)).trans (qat (ne_true_of_eq_false hf));refine call_meets F.slot_str_split (typeIs_str _ _ _) F.entry_str_split (F.args_str_split_2 _ _) (meets_str_split_sep x y t u h1 hy hf hsz (es▸hs2)) ?_;show wants Q E _ { s with toks:=_,heap:=s.heap.push { cls:=.type "list",data:=.seq (strsFrom s.toks (partsBetween x (occurrences x y 0 x.length (x.length+1)) y.length)).toArray}};rw[strsFrom_eq];exact hq (numbered s.toks _) _ ((numbered_texts _ _).trans es.symm)
  ·exact call_meets F.slot_str_split (typeIs_str _ _ _) F.entry_str_split (F.args_str_split_2 _ _) (meets_str_split_not_found x y t u h1 hy hf)
    (hq [(x,t)] s.toks ((qat (ne_true_of_eq_false h1)).trans (qae hf)).symm)
 ·exact call_meets F.slot_str_split (typeIs_str _ _ _) F.entry_str_split (F.args_str_split_2 _ _) (meets_str_split_cannot_occur x y t u h1)
   (hq [(x,t)] s.toks (qae h1).symm)
def jw(hy:(y.length == 0)=false)(hsz:x.length<=sizeLine)
  (hq:∀ta tb tc k,Q (.ref s.heap.objs.size) { s with toks:=k,heap:=s.heap.push { cls:=.type "tuple",data:=.seq [.str (Txt.partition x y).1 ta,.str (Txt.partition x y).2.1 tb,.str (Txt.partition x y).2.2 tc].toArray}}) :
  wpAny (model prog w) A (call (.builtin "str.partition") [.str x t,.str y u]) Q E s:=by
 refine call_meets F.slot_str_partition (typeIs_str _ _ _) F.entry_str_partition (F.args_str_partition_2 _ _) (meets_str_partition x y t u hy hsz) ?_;have h':=hq;unfold Txt.partition at h';revert h'
 cases occurrences x y 0 x.length 1 with
 | nil=>intro h';exact h' _ _ _ _
 | cons i r=>intro h';exact h' _ _ _ _
end
def mE:∀(l:List (Str × Tok)),aA (l.map fun p=>V.str p.1) (strValues l)
 | []=>.nil
 | p::l=>.cons ⟨_,rfl⟩ (mE l)
end L2
namespace MM
open PySem PySem.Spec PyProof.Rows L2
section
variable {X:Cx}
def kq{K:qaa}{ρ:List Addr}{H:Hp}:∀(l:List Str),RPs K ρ H (l.map PV.str) (l.map V.str)
 | []=>.nil
 | p::l=>.cons (.str p) (kq l)
def oQ(z:Str)(xs:List PV)(h:MH):Out PV:=match xs with
 | [.str y]=>if (y.length == 0)=false/\z.length<=sizeLine/\(Txt.split z y).length<=sizeLine then .ok (.loc h.length) (h++[.lst ((Txt.split z y).map .str)]) else .bad
 | _=>.bad
def iq(z:Str)(xs:List PV)(h:MH):Out PV:=match xs with
 | [.str y]=>if (y.length == 0)=false/\z.length<=sizeLine then .ok (.tup [.str (Txt.partition z y).1,.str (Txt.partition z y).2.1,.str (Txt.partition z y).2.2]) h else .bad
 | _=>.bad
def jP(z:Str)(xs:List PV)(h:MH):Out PV:=match xs with
 | [.str y]=>.ok (.bl (Txt.startswith z y)) h
 | _=>.bad
def uY:MtR X "str.split" (smJ X oQ):=by
 intro FA s σ H x vs v us Q I rx rv ⟨ρ,h,z,ps,e,rh,rp,q⟩;subst e;obtain⟨t,rfl⟩:=rx
 cases rp with
 | nil=>exact q.elim
 | cons r1 t1 =>
  cases t1 with
  | cons _ _=>cases r1 <;> exact q.elim
  | nil =>
   cases r1 with
   | str y =>
    obtain⟨u,rfl,ru⟩:=rv.one;obtain⟨t2,rfl⟩:=ru;dsimp only[oQ] at q
    split at q
    ·rename_i hp
     refine uV hp.1 hp.2.1 hp.2.2 fun l k el=>?_;have ev:(Txt.split z y).map V.str=l.map fun p=>V.str p.1:=by rw[<-el,qaE];rfl
     refine⟨.ref s.heap.objs.size,upd H s.heap.objs.size (.lst ((Txt.split z y).map V.str)),I.laid (t':=k) (fun b ob q=>qac _ q) (qaj _) ⟨by rw[qaS];exact hp.2.2,_,0,ev▸mE l,qaw _ rfl⟩,rfl,?_⟩;obtain⟨r',l'⟩:=rh.new (I.hok.fresh (qaj _)) (o:=.lst ((Txt.split z y).map .str)) ⟨_,rfl,kq _⟩;exact q _ _ _ l' r' (.loc (by rw[<-rh.len];simp))
    ·exact q.elim
   | _=>exact q.elim
def nP:MtR X "str.partition" (smJ X iq):=by
 intro FA s σ H x vs v us Q I rx rv ⟨ρ,h,z,ps,e,rh,rp,q⟩;subst e;obtain⟨t,rfl⟩:=rx
 cases rp with
 | nil=>exact q.elim
 | cons r1 t1 =>
  cases t1 with
  | cons _ _=>cases r1 <;> exact q.elim
  | nil =>
   cases r1 with
   | str y =>
    obtain⟨u,rfl,ru⟩:=rv.one;obtain⟨t2,rfl⟩:=ru;dsimp only[iq] at q
    split at q
    ·rename_i hp
     refine jw hp.1 hp.2 fun ta tb tc k=>?_;refine⟨.ref s.heap.objs.size,upd H s.heap.objs.size (.tup ([(Txt.partition z y).1,(Txt.partition z y).2.1,(Txt.partition z y).2.2].map V.str)),I.laid (t':=k) (fun b ob q=>qac _ q) (qaj _) ⟨(show 3<=sizeLine by decide),_,.cons ⟨_,rfl⟩ (.cons ⟨_,rfl⟩ (.cons ⟨_,rfl⟩ .nil)),fi.new _ _⟩,rfl,?_⟩;obtain⟨r',l'⟩:=rh.tup (I.hok.fresh (qaj _)) ([(Txt.partition z y).1,(Txt.partition z y).2.1,(Txt.partition z y).2.2].map V.str);exact q _ _ _ l' r' (.tup (SqT.of bR) (kq [_,_,_]))
    ·exact q.elim
   | _=>exact q.elim
def na:MtR X "str.startswith" (smJ X jP):=by
 intro FA s σ H x vs v us Q I rx rv ⟨ρ,h,z,ps,e,rh,rp,q⟩;subst e;obtain⟨t,rfl⟩:=rx
 cases rp with
 | nil=>exact q.elim
 | cons r1 t1 =>
  cases t1 with
  | cons _ _=>cases r1 <;> exact q.elim
  | nil =>
   cases r1 with
   | str y =>
    obtain⟨u,rfl,ru⟩:=rv.one;obtain⟨t2,rfl⟩:=ru;exact SC.startswith ⟨.bl _,H,I,rfl,q ρ H _ (Le.refl _ _) rh (.bl _)⟩
   | _=>exact q.elim
def fIntS(xs:List PV)(h:MH):Out PV:=match xs with
 | [.str z]=>(match PySem.intText? z with
  | some n=>if z.length<=640 then .ok (.int n) h else .bad
  | none=>.bad)
 | _=>fInt xs h
def cj_intS:bX X (.type "int") fIntS:=by
 intro FA s σ H xs us Q I r ⟨ρ,h,ps,rh,rp,q⟩;by_cases z:∃y,ps=[.str y]
 ·obtain⟨y,rfl⟩:=z
  cases rp with
  | cons r1 t1 =>
   cases t1;cases r1;obtain⟨u,rfl,ru⟩:=dy r;obtain⟨t2,rfl⟩:=ru;dsimp only[fIntS] at q
   cases en:PySem.intText? y with
   | none=>rw[en] at q;exact q.elim
   | some n =>
    rw[en] at q;dsimp only at q
    split at q
    ·rename_i hl
     exact PySem.W.KIN.call_text en hl ⟨.int n,H,I.tok _,⟨_,rfl⟩,q ρ H _ (Le.refl _ _) rh (.int _)⟩
    ·exact q.elim
 ·refine tD FA s σ H xs us Q I r ⟨ρ,h,ps,rh,rp,?_⟩
  have:fIntS ps h=fInt ps h:=by
   unfold fIntS;split
   ·exact absurd ⟨_,rfl⟩ z
   ·rfl
  rw[this] at q;exact q
def opInS(neg:Bool)(x y:PV)(h:MH):Out PV:=match x,y with
 | .str a,.str b=>.ok (.bl (if neg then !(!(PySem.Builtin.Str.occurrences b a 0 b.length 1).isEmpty) else !(PySem.Builtin.Str.occurrences b a 0 b.length 1).isEmpty)) h
 | _,_=>.bad
def oj_inS(neg:Bool):OpJ X (compareOp (if neg then .NotIn else .In)) (opInS neg):=by
 intro FA s σ H x' y' u v Q I rx' ry' ⟨ρ,h,x,y,rh,rx,ry,q⟩
 cases rx with
 | str a =>
  cases ry with
  | str b =>
   obtain⟨t,rfl⟩:=rx';obtain⟨t',rfl⟩:=ry'
   cases neg with
   | false=>exact in_str ⟨.bl _,H,I,rfl,q ρ H _ (Le.refl _ _) rh (.bl _)⟩
   | true=>exact notIn_str ⟨.bl _,H,I,rfl,q ρ H _ (Le.refl _ _) rh (.bl _)⟩
  | _=>exact q.elim
 | _=>cases ry <;> exact q.elim
def mItC(m:Mx PV):Mx MIt:=fun σ h=>(m σ h).bind fun v h1=>match v with
 | .str z=>if z.cps.all (·<128)=true then .ok ⟨z.cps.toList.map fun c=>.str ⟨#[c]⟩,[]⟩ h1 else .bad
 | _=>.bad
def mi_str{tg l:Expr}{m:Mx PV}(hl:ME X l m):MI X tg l (mItC m) :=
 PI.imp (pi_str hl) fun σ H Q ⟨ρ,σp,h,rs,rh,q⟩=>⟨ρ,σp,h,rs,rh,Ful.bind q fun ρ1 H1 x x' h1 _ l1 rh1 rx q1=>by
  cases rx with
  | str z =>
   dsimp only at q1
   split at q1
   ·rename_i ha
    refine⟨z,rfl,ha,q1 ρ1 H1 _ (Le.refl _ _) rh1 ?_⟩;intro ρ' H' h' i l rh' ok;refine⟨fun hi=>?_,fun hi=>?_⟩
    ·have hi:i<z.cps.size:=by simpa using hi
     refine⟨hi,fun x' H2 ⟨e,c,ec,ev⟩=>?_⟩;subst e ev;exact⟨ρ',.str ⟨#[c]⟩,Le.refl _ _,rh',by simp[ec],.str _⟩
    ·show z.cps.size<=i;simpa using hi
   ·exact q1.elim
  | _=>exact q1.elim⟩
def j6(x:PV)(lo hi:Option Int)(h:MH):Out PV:=match x with
 | .str z=>if z.length<=sizeLine then .ok (.str (Txt.slice z lo hi)) h else .bad
 | _=>fSl x lo hi h
def sj_slC:SlR X (slJ X j6):=by
 intro FA s σ H x' v vl vu lo hi sl Q I rx hs pl pu ⟨ρ,h,x,rh,rxx,q⟩;by_cases z:∃y,x=.str y
 ·obtain⟨y,rfl⟩:=z;cases rxx;obtain⟨t,rfl⟩:=rx;dsimp only[j6] at q
  split at q
  ·rename_i hz
   have el:∃l:Option (Int × Tok),vl=partValue l/\l.map (·.1)=lo:=by
    cases pl with
    | none=>exact⟨none,rfl,rfl⟩
    | int i t=>exact⟨some (i,t),rfl,rfl⟩
   have eu:∃l:Option (Int × Tok),vu=partValue l/\l.map (·.1)=hi:=by
    cases pu with
    | none=>exact⟨none,rfl,rfl⟩
    | int i t=>exact⟨some (i,t),rfl,rfl⟩
   obtain⟨l,rfl,rfl⟩:=el;obtain⟨u,rfl,rfl⟩:=eu
   refine⟨"str",_,F.slot_str_getitem.lookup,typeIs_str _ _ _,wpAny_getItem_str_slice (l:=l) (u:=u) (st:=none) hs rfl
    (post_val_or_str ⟨qav (Txt.slice_le y _ _) hz,fun t' k=>⟨.str _,H,I.tok k,⟨_,rfl⟩,q ρ H _ (Le.refl _ _) rh (.str _)⟩⟩)⟩
  ·exact q.elim
 ·refine sj_sl FA s σ H x' v vl vu lo hi sl Q I rx hs pl pu ⟨ρ,h,x,rh,rxx,?_⟩
  have:j6 x lo hi h=fSl x lo hi h:=by
   unfold j6;split
   ·exact absurd ⟨_,rfl⟩ z
   ·rfl
  rw[this] at q;exact q
def mSlC(m:Mx PV)(ml mh:Mx (Option Int)):Mx PV:=fun σ h=>(m σ h).bind fun x h1=>(ml σ h1).bind fun lo h2=>(mh σ h2).bind fun hi h3=>(j6 x lo hi h3).ne
def me_slC{e:Expr}{lo hi:Option Expr}{m:Mx PV}{ml mh:Mx (Option Int)}{p2 pos:Pos}(he:ME X e m)(hl:MO' X lo ml)(hu:MO' X hi mh):ME X (.Subscript e (.Slice lo hi none p2) pos) (mSlC m ml mh) :=
 PE.imp (nW sj_slC he hl hu) fun σ H Q ⟨ρ,σp,h,rs,rh,q⟩=>⟨ρ,σp,h,rs,rh,Ful.bind q fun ρ1 H1 x x' h1 _ l1 rh1 rx q1=>⟨ρ1,σp,h1,rs.le l1,rh1,Ful.bind q1 fun ρ2 H2 lo lo' h2 _ l2 rh2 el q2=>by
  subst el
  exact⟨ρ2,σp,h2,rs.le (l1.trans l2),rh2,Ful.bind q2 fun ρ3 H3 hi hi' h3 _ l3 rh3 eh q3=>by
   subst eh
   exact⟨ρ3,h3,x,rh3,(rx.le l2).le l3,q3.zero⟩⟩⟩⟩
end
end MM
namespace L2
open PySem PySem.Spec PyProof.Rows
variable {X:Cx}
def pt_trS{a:Expr}{ta:TE}(ha:PE X a ta)(he:∀whole,isTrue a X.env whole=(do let v <-whole;standAt a.pos;holding [v] (truthy v))) :
  PT X a (fun σ H Q=>ta σ H fun x H'=>∃z:Str,x=.str z/\z.length<=sizeLine/\Q ((z.length:Int) != 0) H'):=by
 intro FA s σ H Q I h;refine isTrue_plain (thn (ha FA s σ H _ I h) fun v s1 ⟨x,H1,I1,r1,q1⟩=>?_) (he _);obtain⟨z,rfl,hz,q⟩:=q1;obtain⟨t,rfl⟩:=r1;have hs:sizeLine<2 ^ 63:=by decide
 exact PySem.P.truthy_str (by ext) ⟨H1,I1.tok _,q⟩
end L2
namespace MM
open PySem PySem.Spec PyProof.Rows L2
variable {X:Cx}
def mTrS(m:Mx PV):Mx Bool:=fun σ h=>(m σ h).bind fun v h1=>match v with
 | .str z=>if z.length<=sizeLine then .ok ((z.length:Int) != 0) h1 else .bad
 | _=>.bad
def mt_trS{e:Expr}{m:Mx PV}(h:ME X e m)(he:∀whole,isTrue e X.env whole=(do let v <-whole;standAt e.pos;holding [v] (truthy v)):=by intro _;rfl):MT X e (mTrS m):=by
 refine PT.imp (pt_trS h he) fun σ H Q ⟨ρ,σp,h,rs,rh,q⟩=>⟨ρ,σp,h,rs,rh,Ful.bind q fun ρ1 H1 x x' h1 _ l1 rh1 rx q1=>?_⟩
 cases rx with
 | str z =>
  dsimp only at q1
  split at q1
  ·rename_i hz
   exact⟨z,rfl,hz,q1 ρ1 H1 _ (Le.refl _ _) rh1 rfl⟩
  ·exact q1.elim
 | _=>exact q1.elim
def opNeS(x y:PV)(h:MH):Out PV:=match x,y with
 | .str a,.str b=>.ok (.bl (a.cps.toList != b.cps.toList)) h
 | _,_=>.bad
def kF:OpJ X (compareOp .NotEq) opNeS:=by
 intro FA s σ H x' y' u v Q I rx' ry' ⟨ρ,h,x,y,rh,rx,ry,q⟩
 cases rx with
 | str a =>
  cases ry with
  | str b =>
   obtain⟨t,rfl⟩:=rx';obtain⟨t',rfl⟩:=ry';exact P.ne_str ⟨.bl _,H,I,rfl,q ρ H _ (Le.refl _ _) rh (.bl _)⟩
  | _=>exact q.elim
 | _=>cases ry <;> exact q.elim
end MM
namespace PU
open PySem MM SetT SortT
open L2 (ixN atI di)
local instance (priority:=1) cdecN70 (p:Prop):Decidable p:=Classical.propDecidable p
noncomputable section
def jB:∀(l:List Str),Rps q h O (l.map D.str) (l.map PV.str)
 | []=>rfl
 | x::l=>⟨_,_,rfl,rfl,jB l⟩
def sSplit:OpS where
 f:=oQ
 p:=fun z as=>match as with
  | [.str y]=>if (y.length == 0)=false/\z.length<=sizeLine/\(Txt.split z y).length<=sizeLine then some (.lst ((Txt.split z y).map .str)) else none
  | _=>none
 fr:=true
 ok {q h L O z as xs d} bd w e:=by
  match as,e with
  | [.str y],e =>
   dsimp only at e;by_cases hj:(y.length == 0)=false/\z.length<=sizeLine/\(Txt.split z y).length<=sizeLine
   ·rw[qae hj] at e;cases e;obtain⟨x,rfl,a⟩:=bU w;rw[a.str];show Gv q h O true (if _ then _ else _) _;rw[qae hj];exact gvL bd fun h O=>jB _
   ·rw[qat hj] at e;cases e
def sPartition:OpS where
 f:=iq
 p:=fun z as=>match as with
  | [.str y]=>if (y.length == 0)=false/\z.length<=sizeLine then some (.tup [.str (Txt.partition z y).1,.str (Txt.partition z y).2.1,.str (Txt.partition z y).2.2]) else none
  | _=>none
 fr:=true
 ok {q h L O z as xs d} bd w e:=by
  match as,e with
  | [.str y],e =>
   dsimp only at e;by_cases hj:(y.length == 0)=false/\z.length<=sizeLine
   ·rw[qae hj] at e;cases e;obtain⟨x,rfl,a⟩:=bU w;rw[a.str];show Gv q h O true (if _ then _ else _) _;rw[qae hj];exact gv0 ⟨_,rfl,jB [_,_,_]⟩ fun _ k _ e=>by cases k <;> cases e
   ·rw[qat hj] at e;cases e
def sStartswith:OpS where
 f:=jP
 p:=fun z as=>match as with
  | [.str y]=>some (.bl (Txt.startswith z y))
  | _=>none
 fr:=true
 ok {q h L O z as xs d} bd w e:=by
  match as,e with
  | [.str y],e =>
   cases e;obtain⟨x,rfl,a⟩:=bU w;rw[a.str];exact gvB
def kD:OpN where
 k:=fun xs h=>(fIntS xs h).ne
 p:=fun as=>match as with
  | [.str z]=>(match PySem.intText? z with
   | some n=>if z.length<=640 then some (.int n) else none
   | none=>none)
  | [.int i]=>some (.int i)
  | [.bl b]=>some (.int (if b then 1 else 0))
  | _=>none
 fr:=true
 ok {q h L O as xs d} bd w e:=by
  match as,e with
  | [.int i],e=>cases e;obtain⟨x,rfl,a⟩:=bU w;rw[a.int];exact gvI
  | [.bl i],e=>cases e;obtain⟨x,rfl,a⟩:=bU w;rw[a.bl];exact gvI
  | [.str z],e =>
   dsimp only at e;obtain⟨x,rfl,a⟩:=bU w;rw[a.str];dsimp only[fIntS]
   cases en:PySem.intText? z with
   | none=>rw[en] at e;cases e
   | some n =>
    rw[en] at e;dsimp only at e ⊢;by_cases hl:z.length<=640
    ·rw[qae hl] at e ⊢;cases e;exact gvI
    ·rw[qat hl] at e;cases e
def oInS(neg:Bool):Op2 where
 m:=opInS neg
 p:=fun a b=>match a,b with
  | .str a,.str b=>some (.bl (if neg then !(!(PySem.Builtin.Str.occurrences b a 0 b.length 1).isEmpty) else !(PySem.Builtin.Str.occurrences b a 0 b.length 1).isEmpty))
  | _,_=>none
 fr:=true
 ok {q h L O a x b y d} bd wa wb e:=by
  cases a with
  | str u =>
   cases b with
   | str v =>
    cases e;rw[wa.str,wb.str];exact gvB
   | _=>cases e
  | _=>cases e
def oV:Op2 where
 m:=opNeS
 p:=fun a b=>match a,b with
  | .str x,.str y=>some (.bl (x.cps.toList != y.cps.toList))
  | _,_=>none
 fr:=true
 ok {q h L O a x b y d} bd wa wb e:=by
  cases a with
  | str u =>
   cases b with
   | str v =>
    cases e;rw[wa.str,wb.str];exact gvB
   | _=>cases e
  | _=>cases e
def i5{x:Str}:oV.p (.str x) (.str x)=some (.bl false):=by
 show some (D.bl (x.cps.toList != x.cps.toList))=_;simp
def kn(d:D):Option Str:=match d with
 | .tup ds=>(match py (.tup ds) with
  | some e=>if dep (.tup ds)<=60/\e.showable=true/\e.shown.length<=sizeLine then some e.shown else none
  | none=>none)
 | .lst ds=>(match py (.lst ds) with
  | some e=>if dep (.lst ds)<=60/\e.showable=true/\e.shown.length<=sizeLine then some e.shown else none
  | none=>none)
 | _=>none
def eW:OpN where
 k:=fun xs h=>(fRepr xs h).ne
 p:=fun as=>match as with
  | [d]=>(kn d).map .str
  | _=>none
 fr:=true
 ok {q h L O as xs d} bd w e:=by
  match as,e with
  | [a],e =>
   obtain⟨x,rfl,wx⟩:=bU w;rw[qap] at e;obtain⟨u,e1,rfl⟩:=e
   cases a with
   | tup ds =>
    unfold kn at e1;dsimp only at e1
    cases ep:py (.tup ds) with
    | none=>rw[ep] at e1;cases e1
    | some t =>
     rw[ep] at e1;dsimp only at e1;by_cases z:dep (.tup ds)<=60/\t.showable=true/\t.shown.length<=sizeLine
     ·rw[qae z] at e1;cases e1;have rd1:=jv wx ep z.1;obtain⟨zs,rfl,_⟩:=wx.tup;show Gv q h O true (fRepr [.tup zs] h).ne _;simp only[fRepr,rd1];rw[qae z.2];exact gv0 rfl fun _ k _ e=>by cases k <;> cases e
     ·rw[qat z] at e1;cases e1
   | lst ds =>
    unfold kn at e1;dsimp only at e1
    cases ep:py (.lst ds) with
    | none=>rw[ep] at e1;cases e1
    | some t =>
     rw[ep] at e1;dsimp only at e1;by_cases z:dep (.lst ds)<=60/\t.showable=true/\t.shown.length<=sizeLine
     ·rw[qae z] at e1;cases e1;have rd1:=jv wx ep z.1;obtain⟨n,zs,rfl,g,_⟩:=wx.lst;show Gv q h O true (fRepr [.loc n] h).ne _;simp only[fRepr,rd1];rw[qae z.2];exact gv0 rfl fun _ k _ e=>by cases k <;> cases e
     ·rw[qat z] at e1;cases e1
   | _=>cases e1
section
variable {ws:List Nat}
def itC:D->Option (List D)
 | .str z=>if z.cps.all (·<128)=true then some (z.cps.toList.map fun c=>.str ⟨#[c]⟩) else none
 | _=>none
def pr(a:Xe ws):Xi ws where
 m:=mItC a.m
 p:=fun env s=>(a.p env s).bind fun x s1=>.of (itC x) s1
 fz:=a.fz
 ok {q h L B O σ env s} c:=by
  refine (a.ok c).bind fun x v h1 s1 k1 p1 ⟨w,z,_⟩=>?_
  cases x with
  | str y =>
   rw[w.str];dsimp only[itC];by_cases hj:y.cps.all (·<128)=true
   ·rw[qae hj,qae hj];have r:=jB (q:=q) (h:=h1) (O:=O) (y.cps.toList.map fun c=>(⟨#[c]⟩:Str));rw[qaE,qaE] at r;exact⟨⟨_,[]⟩,h1,rfl,KB.refl _ _,p1,r,(fun p hp=>by cases hp),fun f p hp=>by cases hp⟩
   ·rw[qat hj,qat hj];trivial
  | _=>trivial
def lT(x:D)(l u:Option Int):Option D:=match x with
 | .str z=>if z.length<=sizeLine then some (.str (Txt.slice z l u)) else none
 | _=>none
def slC_ok(w:Vw q h L O x v)(e:lT x l u=some d):Gv q h O true (j6 v l u h) d:=by
 cases x with
 | str z =>
  rw[w.str];dsimp only[lT] at e;dsimp only[j6];by_cases hj:z.length<=sizeLine
  ·rw[qae hj] at e ⊢;cases e;exact gv0 rfl fun _ k _ e=>by cases k <;> cases e
  ·rw[qat hj] at e;cases e
 | _=>cases e
def xSlC(a:Xe ws)(lo hi:Xo ws):Xe ws where
 m:=mSlC a.m lo.m hi.m
 p:=fun env s=>(a.p env s).bind fun x s=>(lo.p env s).bind fun l s=>(hi.p env s).bind fun u s=>.of (lT x l u) s
 fz:=true
 fr:=true
 ok {q h L B O σ env s} c:=by
  refine (a.ok c).bind fun x v h1 s1 k1 p1 ⟨w,_,_⟩=>?_;have c1:=c.kb k1 p1;refine (lo.ok c1).bind fun l l' h2 s2 k2 p2 e=>?_;subst e;have c2:=c1.kb k2 p2;refine (hi.ok c2).bind fun u u' h3 s3 k3 p3 e=>?_;subst e;have c3:=c2.kb k3 p3
  cases e:lT x l u with
  | none=>trivial
  | some d =>
   obtain⟨y,g,e1,r,r'⟩:=slC_ok ((w.kb k2 c.pO c.pL).kb k3 c.pO c.pL) e;exact give (qav (qav k1.len k2.len) k3.len) p3 ⟨y,g,by rw[e1];rfl,r,r'⟩
def lY:D->Option Bool
 | .str z=>if z.length<=sizeLine then some ((z.length:Int) != 0) else none
 | _=>none
def lN(a:Xe ws):Xt ws where
 m:=mTrS a.m
 p:=fun env s=>(a.p env s).bind fun d s=>.of (lY d) s
 ok {q h L B O σ env s} c:=by
  refine (a.ok c).bind fun x v h1 s1 k1 p1 ⟨w,_,_⟩=>?_
  cases x with
  | str z =>
   rw[w.str];dsimp only[lY];by_cases hj:z.length<=sizeLine
   ·rw[qae hj,qae hj];exact⟨_,h1,rfl,KB.refl _ _,p1,rfl⟩
   ·rw[qat hj,qat hj];trivial
  | _=>trivial
variable {env:am} {s:Pen}
@[simp] theorem xItC_p{a:Xe ws}:(pr a).p env s=(a.p env s).bind fun x s1=>.of (itC x) s1:=rfl
@[simp] theorem xSlC_p{a:Xe ws}{lo hi:Xo ws}:(xSlC a lo hi).p env s=(a.p env s).bind fun x s=>(lo.p env s).bind fun l s=>(hi.p env s).bind fun u s=>.of (lT x l u) s:=rfl
@[simp] theorem kB{a:Xe ws}:(lN a).p env s=(a.p env s).bind fun d s=>.of (lY d) s:=rfl
end
end
end PU
namespace MM
open PySem PySem.Spec PyProof.Rows L2
open PU (Xe Xs Xt Xi Xo OpS xUn xC xSm pr xSlC lN)
section
variable {X:Cx} {P:Program} {w:World} {K:qaa} {mg:Str→Option Value} {base:Heap} {N W:List Str} {k:Nat} {sc:Scope} {ws:List Nat} {x name:Str} {p pos:Pos} {a e tg:Expr} {es:List Expr} {xa:Xe ws} {sa:Xs ws} {f:Str→List PV→MH→Out PV}
def str_mk{K:qaa}{x i:Str}{t:Tok}(h:PySem.W.nsIn K mainGlobals x=some (some (.str i t))):∃t,PySem.W.nsIn K mainGlobals x=some (some (.str i t)):=⟨t,h⟩
structure SJ (X:Cx) (name:Str) (f:Str->List PV->MH->Out PV):Prop where
 h:∃id,Slot "str" name id/\typeOf (.builtin id)=pure (.type "method_descriptor")/\MtR X id (smJ X f)
def s_Join:SJ X "join" PU.sJoin.f:=⟨_,PySem.F.slot_str_join,PySem.F.type_str_join,lI⟩
def s_Zfill:SJ X "zfill" PU.sZfill.f:=⟨_,PySem.F.slot_str_zfill,PySem.F.type_str_zfill,uE⟩
def s_Split:SJ X "split" PU.sSplit.f:=⟨_,PySem.F.slot_str_split,PySem.F.type_str_split,uY⟩
def qa:SJ X "partition" PU.sPartition.f:=⟨_,PySem.F.slot_str_partition,PySem.F.type_str_partition,nP⟩
def pg:SJ X "startswith" PU.sStartswith.f:=⟨_,PySem.F.slot_str_startswith,PySem.F.type_str_startswith,na⟩
def w_sm{o:OpS}(M:SJ X name o.f)(ho:ME1 X a xa.m)(ha:MAs X (e::es) sa.m)(h:(((backTo pos (starEach (e::es) X.env)).all (fun x=>!x.1) && (backToKw pos (keywordEach [] X.env)).all (fun x=>x.1.isSome) && decide ((e::es).length+([]:List Keyword).length+(if ([]:List Keyword).isEmpty then 0 else 1)<30))=true/\(p.endLine == pos.line)=true)/\attributeBase a name X.env (eval a X.env)=eval a X.env/\starEach (e::es) X.env=(false,eval e X.env)::starEach es X.env/\(backTo pos (starEach es X.env)).any (·.1)=false):ME1 X (.Call (.Attribute a name p) (e::es) [] pos) (xSm o xa sa).m :=
 let ⟨_,x,y,z⟩:=M.h
 ⟨sy x y z ho.h ha.h h.2.1 h.1.1 h.1.2 h.2.2.1 h.2.2.2⟩
def w_fs{c:Str}{j:Nat}{p1 p2:Pos}(h:ME1 X e xa.m):ME1 X (.JoinedStr [.FormattedValue e (-1) none p1,.Constant (.str c) j p2] pos) (xUn (PU.oFs c) xa).m:=⟨me_fs h.h⟩
def w_itC(h:ME1 X a xa.m):MI1 X tg a (pr xa).m:=⟨mi_str h.h⟩
def w_slC{lo hi:Option Expr}{ol oh:Xo ws}(ha:ME1 X a xa.m)(hl:MO1 X lo ol.m)(hh:MO1 X hi oh.m):ME1 X (.Subscript a (.Slice lo hi none p) pos) (xSlC xa ol oh).m:=⟨me_slC ha.h hl.h hh.h⟩
def w_trS(h:ME1 X e xa.m)(he:∀whole,isTrue e X.env whole=(do let v <-whole;standAt e.pos;holding [v] (truthy v))):MT1 X e (lN xa).m:=⟨mt_trS h.h he⟩
def j_InS:OJ X (compareOp .In) (PU.oInS false):=⟨oj_inS false⟩
def j_AddS:OJ X (binaryOp .Add) PU.aN:=⟨dk⟩
def b_intS:BB X "int" PU.kD:=.ty _ _ om cj_intS
variable (c:Wc X P w K mg base N W k sc)
include c
def w_glS{i:Str}(v:∃t,PySem.W.nsIn K mainGlobals x=some (some (.str i t)))(hx:gm sc x):ME1 X (.Name x pos) (xC (ws:=ws) (.str i)).m :=
 let ⟨_,hj⟩:=c.gj hx
 ⟨me_glS c.g hj (let ⟨t,z⟩:=v;⟨t,by rw[c.e.e4];exact PySem.W.mg_of c.e.b.kin c.e.b.ns z⟩)⟩
end
end MM
namespace Law
open PySem PySem.Spec PyProof.Rows L2 MM
set_option maxHeartbeats 4000000
noncomputable section
def m_l_pen:Mst:=(aI (aU 2 (ai opAdd (ai opMul (mC (.int 7919)) (ae 1)) (mC (.int 11))))
 (aI (mIf (mB (ai opLt (ae 1) (mCB fMin (ac (mCB fLen (ac (ae 0) mNil)) (ac (mC (.int 63)) mNil))))) (aU 2 (ai bW (ae 0) (ae 1))) (mIf (mB (ai opGt (mCB fLen (ac (ae 0) mNil)) (mC (.int 0)))) (aU 2 (ai opAdd (ai opMod (ai bW (ae 0) (ai opMod (ae 1) (mCB fMin (ac (mCB fLen (ac (ae 0) mNil)) (ac (mC (.int 63)) mNil))))) (ai opPow (mC (.int 10)) (mC (.int 15)))) (ai opMul (mC (.int 48271)) (ae 1)))) mSkip))
 (aI (mIf (mB (ai opGe (mCB fAbs (ac (ae 2) mNil)) (ai opPow (mC (.int 10)) (mC (.int 18))))) (bn (ft (ac (mC (.int 1)) (ac (mCB fAbs (ac (ae 2) mNil)) (ac (mC (.int 0)) mNil))))) mSkip)
 (bn (ft (ac (mC (.int 0)) (ac (ai opAdd (ai opMod (ae 2) (mC (.int 2147483587))) (ai opMul (mC (.int 40009)) (ae 1))) (ac (mC (.int 0)) mNil))))))))
def eK:List PV->MH->Out PV:=dE 3 2 m_l_pen
def m_l_draw:Mst:=(aI (mAsg (ai opAdd (ai bW (ae 0) (mC (.int 2))) (mC (.int 1))) (gSb (ae 0) (mC (.int 2))))
 (aI (mIf (mB (ai opEq (ai bW (ae 0) (mC (.int 0))) (mC (.int 1)))) (aI (aU 3 (ai opMod (ai bW (ae 0) (mC (.int 1))) (ae 1)))
 (aI (mAsg (ai opFd (ai bW (ae 0) (mC (.int 1))) (ae 1)) (gSb (ae 0) (mC (.int 1))))
 (bn (ae 3)))) mSkip)
 (aI (aU 2 (ai opMod (ai opMul (ai opAdd (ai opAdd (ai bW (ae 0) (mC (.int 1))) (ai opMul (mC (.int 40503)) (ai bW (ae 0) (mC (.int 2))))) (mC (.int 1))) (mC (.int 48271))) (mC (.int 2147483647))))
 (aI (aU 2 (ai opMod (ai opMul (ae 2) (ai opAdd (ai opAdd (ai opMod (ae 2) (mC (.int 65521))) (ai bW (ae 0) (mC (.int 2)))) (mC (.int 3)))) (mC (.int 2147483629))))
 (bn (ai opMod (ai opFd (ai opMod (ai opMul (ae 2) (ai opAdd (ai opMod (ae 2) (mC (.int 8191))) (mC (.int 7)))) (mC (.int 2147483563))) (mC (.int 64))) (ae 1)))))))
def bx:List PV->MH->Out PV:=dE 4 2 m_l_draw
end
end Law
namespace Law
open PySem MM PU
open L2 (ixN atI di)
set_option maxHeartbeats 4000000
noncomputable section
def d5:Xd []:=(aS (cC (xUn (d7 ["int"]) (ab 0)) (nt (xUn (d7 ["bool"]) (ab 0)))))
def bY:Fn:=ba 1 1 d5
def pX{ds:List D}{s:Pen}(h:ds.length=1):bY.p ds s=(d5.p (dSt 1 ds) s).fin:=aO h
def fb:Xd []:=(aS (cC (xUn (d7 ["tuple"]) (ab 0)) (af oEq (xCb dY (aa (ab 0) xNil)) (xC (.int 2)))))
def b9:Fn:=ba 1 1 fb
def rq{ds:List D}{s:Pen}(h:ds.length=1):b9.p ds s=(fb.p (dSt 1 ds) s).fin:=aO h
def bF:Xd []:=(aq (xWh 2000000 (xB (af oNe (ab 1) (xC (.int 0)))) (aq (aD 2 (af io (ab 0) (ab 1)))
 (aq (aD 0 (ab 1))
 (aD 1 (ab 2)))) hR)
 (aS (ab 0)))
def bG:Fn:=ba 3 2 bF
def i0{ds:List D}{s:Pen}(h:ds.length=2):bG.p ds s=(bF.p (dSt 3 ds) s).fin:=aO h
def dv:Xd []:=(aq (xIf (xOr (fk (xB (ah b9 (aa (ab 0) xNil)))) (xOr (fk (xB (ah bY (aa (af oIx (ab 0) (xC (.int 0))) xNil)))) (fk (xB (ah bY (aa (af oIx (ab 0) (xC (.int 1))) xNil)))))) (aS (xC (.bl false))) xSkip)
 (aS (cC (af oGe (af oIx (ab 0) (xC (.int 1))) (xC (.int 1))) (af oEq (ah bG (aa (xCb lZ (aa (af oIx (ab 0) (xC (.int 0))) xNil)) (aa (af oIx (ab 0) (xC (.int 1))) xNil))) (xC (.int 1))))))
def ce:Fn:=ba 1 1 dv
def oN{ds:List D}{s:Pen}(h:ds.length=1):ce.p ds s=(dv.p (dSt 1 ds) s).fin:=aO h
def dX:Xd []:=(aS (cC (ah bY (aa (ab 1) xNil)) (gV oLe oLt (xC (.int 0)) (ab 1) (ab 0))))
def cy:Fn:=ba 2 2 dX
def p9{ds:List D}{s:Pen}(h:ds.length=2):cy.p ds s=(dX.p (dSt 2 ds) s).fin:=aO h
def eZ:Xd []:=(aS (cC (ah b9 (aa (ab 1) xNil)) (cC (ah cy (aa (ab 0) (aa (af oIx (ab 1) (xC (.int 0))) xNil))) (cC (ah ce (aa (af oIx (ab 1) (xC (.int 1))) xNil)) (af oNe (af oIx (ab 1) (xC (.int 1))) (xCT 0 1))))))
def c9:Fn:=ba 2 2 eZ
def rC{ds:List D}{s:Pen}(h:ds.length=2):c9.p ds s=(eZ.p (dSt 2 ds) s).fin:=aO h
def dr:Xd []:=(aq (xIf (fk (xB (xCb nK (aa (bD 1 [0] (eQ (ab 1)) (ws':=[]) (xNm 0) xTrue (ah c9 (aa (ab 1) (aa (ab 0) xNil)))) xNil)))) (aS (xC (.bl false))) xSkip)
 (aS (af oEq (xCb cLS (aa (bD 1 [] (eQ (ab 1)) (ws':=[]) (xNm 0) xTrue (af oIx (ab 0) (xC (.int 0)))) xNil)) (xCb dY (aa (ab 1) xNil)))))
def dn:Fn:=ba 2 2 dr
def nX{ds:List D}{s:Pen}(h:ds.length=2):dn.p ds s=(dr.p (dSt 2 ds) s).fin:=aO h
def fX:Xd []:=(aS (cC (xUn (d7 ["tuple"]) (ab 1)) (cC (ah dn (aa (ab 0) (aa (ab 1) xNil))) (af oEq (xCb ss (aa (ab 1) xNil)) (xCb oA (aa (ab 1) xNil))))))
def fU:Fn:=ba 2 2 fX
def sX{ds:List D}{s:Pen}(h:ds.length=2):fU.p ds s=(fX.p (dSt 2 ds) s).fin:=aO h
def cU:Xd []:=(aq (aD 1 (xC (.str "")))
 (aq (xWh 2000000 (xB (af oGe (ab 0) (af dD (xC (.int 10)) (xC (.int 60))))) (aq (aD 1 (af aN (xSm sZfill (xCb dC (aa (af io (ab 0) (af dD (xC (.int 10)) (xC (.int 60)))) xNil)) (aa (xC (.int 60)) xNil)) (ab 1)))
 (aD 0 (af oFd (ab 0) (af dD (xC (.int 10)) (xC (.int 60)))))) hR)
 (aS (af aN (xCb dC (aa (ab 0) xNil)) (ab 1)))))
def cp:Fn:=ba 2 1 cU
def m4{ds:List D}{s:Pen}(h:ds.length=1):cp.p ds s=(cU.p (dSt 2 ds) s).fin:=aO h
def cE:Xd []:=(aq (aD 1 (ah cp (aa (xCb lZ (aa (af oIx (ab 0) (xC (.int 0))) xNil)) xNil)))
 (aq (xIf (xB (af oLt (af oIx (ab 0) (xC (.int 0))) (xC (.int 0)))) (aD 1 (af aN (xC (.str "-")) (ab 1))) xSkip)
 (aq (xIf (xB (af oNe (af oIx (ab 0) (xC (.int 1))) (xC (.int 1)))) (aD 1 (af aN (af aN (ab 1) (xC (.str "/"))) (ah cp (aa (af oIx (ab 0) (xC (.int 1))) xNil)))) xSkip)
 (aS (ab 1)))))
def bg:Fn:=ba 2 1 cE
def lK{ds:List D}{s:Pen}(h:ds.length=1):bg.p ds s=(cE.p (dSt 2 ds) s).fin:=aO h
def cV:Xd []:=(aS (bD 2 [] (eQ (ab 0)) (ws':=[]) (xGp (xGc (xNm 0) (xGc (xNm 1) xGl)) 2) xTrue (af aN (af aN (xCb dC (aa (ab 0) xNil)) (xC (.str "="))) (ah bg (aa (ab 1) xNil)))))
def bQ:Fn:=ba 1 1 cV
def mV{ds:List D}{s:Pen}(h:ds.length=1):bQ.p ds s=(cV.p (dSt 1 ds) s).fin:=aO h
def de:Xd []:=(aS (xSm sJoin (xC (.str "\n")) (aa (bD 2 [] (fw iE (aa (af oIx (ab 0) (xC (.int 1))) xNil)) (ws':=[]) (xGp (xGc (xNm 0) (xGc (xNm 1) xGl)) 2) xTrue (xSm sJoin (xC (.str " ")) (aa (af aN (cg (aa (xUn (oFs ":") (ab 0)) xNil)) (ah bQ (aa (ab 1) xNil))) xNil))) xNil)))
def bB:Fn:=ba 1 1 de
def mW{ds:List D}{s:Pen}(h:ds.length=1):bB.p ds s=(de.p (dSt 1 ds) s).fin:=aO h
def dj:Xd []:=(aS (xSm sJoin (xC (.str "\n")) (aa (bD 2 [] (eQ (ab 0)) (ws':=[]) (xGp (xGc (xNm 0) (xGc (xNm 1) xGl)) 2) xTrue (xSm sJoin (xC (.str " ")) (aa (af aN (ah bQ (aa (ab 0) xNil)) (cg (aa (xC (.str "|")) (aa (ah bg (aa (ab 1) xNil)) xNil)))) xNil))) xNil)))
def bL:Fn:=ba 1 1 dj
def oo{ds:List D}{s:Pen}(h:ds.length=1):bL.p ds s=(dj.p (dSt 1 ds) s).fin:=aO h
def cH:Xd []:=(aS (cC (gV oLe oLe (xC (.int 1)) (xCb dY (aa (ab 0) xNil)) (xC (.int 60))) (xCb nK (aa (bD 1 [] (pr (ab 0)) (ws':=[]) (xNm 0) xTrue (af (oInS false) (ab 0) (xC (.str "0123456789")))) xNil))))
def bt:Fn:=ba 1 1 cH
def lA{ds:List D}{s:Pen}(h:ds.length=1):bt.p ds s=(cH.p (dSt 1 ds) s).fin:=aO h
def cR:Xd []:=(aq (xIf (fk (xB (ah bt (aa (ab 1) xNil)))) (aS (xC .non)) xSkip)
 (aq (aD 2 (xCb kD (aa (ab 1) xNil)))
 (aS (fZ (nL (xB (ah cy (aa (ab 0) (aa (ab 2) xNil)))) (xB (af oEq (xCb dC (aa (ab 2) xNil)) (ab 1)))) (ab 2) (xC .non) true))))
def cS:Fn:=ba 3 2 cR
def mZ{ds:List D}{s:Pen}(h:ds.length=2):cS.p ds s=(cR.p (dSt 3 ds) s).fin:=aO h
def cG:Xd []:=(aq (aD 1 (xSm sPartition (ab 0) (aa (xC (.str "/")) xNil)))
 (aq (aD 2 (fZ (xB (xSm sStartswith (ab 0) (aa (xC (.str "-")) xNil))) (xC (.str "-")) (xC (.str "")) true))
 (aq (aD 3 (xSlC (af oIx (ab 1) (xC (.int 0))) (xPt (xCb dY (aa (ab 2) xNil))) xNo))
 (aq (aD 4 (fZ (lN (af oIx (ab 1) (xC (.int 1)))) (af oIx (ab 1) (xC (.int 2))) (xC (.str "1")) true))
 (aq (xIf (xOr (fk (xB (ah bt (aa (ab 3) xNil)))) (fk (xB (ah bt (aa (ab 4) xNil))))) (aS (xC .non)) xSkip)
 (aq (aD 5 (bV (aa (xCb kD (aa (af aN (ab 2) (ab 3)) xNil)) (aa (xCb kD (aa (ab 4) xNil)) xNil))))
 (aS (fZ (nL (xB (ah ce (aa (ab 5) xNil))) (xB (af oEq (ah bg (aa (ab 5) xNil)) (ab 0)))) (ab 5) (xC .non) true))))))))
def bq:Fn:=ba 6 1 cG
def lU{ds:List D}{s:Pen}(h:ds.length=1):bq.p ds s=(cG.p (dSt 6 ds) s).fin:=aO h
def dm:Xd []:=(aq (aD 2 (xSm sPartition (ab 1) (aa (xC (.str "=")) xNil)))
 (aS (bV (aa (ah cS (aa (ab 0) (aa (af oIx (ab 2) (xC (.int 0))) xNil))) (aa (ah bq (aa (af oIx (ab 2) (xC (.int 2))) xNil)) xNil)))))
def bM:Fn:=ba 3 2 dm
def pd{ds:List D}{s:Pen}(h:ds.length=2):bM.p ds s=(dm.p (dSt 3 ds) s).fin:=aO h
def cY:Xd []:=(aq (aD 2 (xCb d9 (aa (bD 1 [0] (eQ (ab 1)) (ws':=[]) (xNm 0) xTrue (ah bM (aa (ab 1) (aa (ab 0) xNil)))) xNil)))
 (aS (fZ (xB (ah fU (aa (ab 0) (aa (ab 2) xNil)))) (ab 2) (xC .non) true)))
def bp:Fn:=ba 3 2 cY
def nc{ds:List D}{s:Pen}(h:ds.length=2):bp.p ds s=(cY.p (dSt 3 ds) s).fin:=aO h
def dS:Xd []:=(aq (xIf (fk (xB (xUn (d7 ["str"]) (ab 0)))) j3 xSkip)
 (aS (fZ (lN (ab 0)) (xSm sSplit (ab 0) (aa (xC (.str "\n")) xNil)) (cg xNil) true)))
def cw:Fn:=ba 1 1 dS
def pT{ds:List D}{s:Pen}(h:ds.length=1):cw.p ds s=(dS.p (dSt 1 ds) s).fin:=aO h
def c5:Xd [3]:=(aq (aD 1 (ah cw (aa (ab 0) xNil)))
 (aq (aD 2 (xCb dY (aa (ab 1) xNil)))
 (aq (gA 3 (cg xNil))
 (aq (lL (fw iE (aa (ab 1) xNil)) (xGp (xGc (xNm 4) (xGc (xNm 5) xGl)) 2) (aq (aD 6 (xSm sSplit (ab 5) (aa (xC (.str " ")) xNil)))
 (aq (aD 7 (ah bp (aa (ab 2) (aa (xSl (ab 6) (xPt (xC (.int 1))) xNo) xNil))))
 (aq (xIf (xOr (xB (af oGe (ab 4) (xC (.int 12)))) (xOr (xB (af oNe (af oIx (ab 6) (xC (.int 0))) (xUn (oFs ":") (ab 4)))) (xB (af (oIs false) (ab 7) (xC .non))))) j3 xSkip)
 (xMt aAppend 3 (aa (ab 7) xNil))))))
 (aS (bV (aa (ab 2) (aa (xCb d9 (aa (ab 3) xNil)) xNil))))))))
def aC:Fn:=ba 8 1 c5
def ng{ds:List D}{s:Pen}(h:ds.length=1):aC.p ds s=(c5.p (dSt 8 ds) s).fin:=aO h
def du:Xd [2]:=(aq (gA 2 (cg xNil))
 (aq (lL (fw iE (aa (ah cw (aa (ab 1) xNil)) xNil)) (xGp (xGc (xNm 3) (xGc (xNm 4) xGl)) 2) (aq (aD 5 (xSm sSplit (ab 4) (aa (xC (.str " ")) xNil)))
 (aq (aD 6 (ah bp (aa (ab 0) (aa (xSl (ab 5) xNo (xPt (xUn fj (xC (.int 2))))) xNil))))
 (aq (aD 7 (ah bq (aa (af oIx (ab 5) (xUn fj (xC (.int 1)))) xNil)))
 (aq (xIf (xOr (xB (af oGe (ab 3) (xC (.int 20)))) (xOr (xB (af oNe (xSl (ab 5) (xPt (xUn fj (xC (.int 2)))) (xPt (xUn fj (xC (.int 1))))) (cg (aa (xC (.str "|")) xNil)))) (xOr (xB (af (oIs false) (ab 6) (xC .non))) (xB (af (oIs false) (ab 7) (xC .non)))))) j3 xSkip)
 (xMt aAppend 2 (aa (bV (aa (ab 6) (aa (ab 7) xNil))) xNil)))))))
 (lr 2)))
def aG:Fn:=ba 8 2 du
def pD{ds:List D}{s:Pen}(h:ds.length=2):aG.p ds s=(du.p (dSt 8 ds) s).fin:=aO h
def lW{h:MH}{p:Nat}{o:MO}(hp:p<h.length):(h.set p o)[p]?=some o:=qax hp
def ix2:ixN 3 2=some 2:=qw (n:=3) (m:=2) (by decide)
def ix1:ixN 3 1=some 1:=qw (n:=3) (m:=1) (by decide)
def eP(s:Pen)(size:Int)(hs:0<size)(hl:size.natAbs.log2<9000):∃x:Int × Int,(0<=x.1/\x.1<size)/\∀(h:MH) (p:Nat),bA h p s->bx [.loc p,.int size] h=.ok (.int x.1) (h.set p (.lst [.int s.1,.int x.2,.int (s.2.2+1)])):=by
 obtain⟨m,c,t⟩:=s;have hs0:size≠0:=by ext
 have st:∀n:Int,0<=n.fmod size/\n.fmod size<size:=fun n=>by
  rw[qaW n (by ext)];exact⟨qbl n hs0,qbb n hs⟩
 by_cases hm:m=1
 ·subst hm;refine⟨(c.fmod size,c.fdiv size),st c,fun h p e=>?_⟩;have e:h[p]?=some (.lst [.int 1,.int c,.int t]):=e;have hp:p<h.length:=(qaf.mp e).1;have e2:(h.set p (.lst [.int 1,.int c,.int (t+1)]))[p]?=some (.lst [.int 1,.int c,.int (t+1)]):=lW hp;unfold bx;refine (jo (by rfl)).trans ?_;unfold m_l_draw;simp[bH,List.replicate,hZ e,ki e,ix2,hZ e2,eL hs0,qm hs0,ki e2,ix1]
 ·have big:∀n k:Int,0<k->0<=n.fmod k/\n.fmod k<k:=fun n k hk=>by
   rw[qaW n (by ext)];exact⟨qbl n (by ext),qbb n hk⟩
  generalize ea:((c+40503 * (t+1)+1) * 48271).fmod 2147483647=A;have b1:=big ((c+40503 * (t+1)+1) * 48271) 2147483647 (by decide);rw[ea] at b1;generalize eb:(A * (A.fmod 65521+(t+1)+3)).fmod 2147483629=C;have b2:=big (A * (A.fmod 65521+(t+1)+3)) 2147483629 (by decide);rw[eb] at b2;refine⟨((((C * (C.fmod 8191+7)).fmod 2147483563).fdiv 64).fmod size,c),st _,fun h p e=>?_⟩;have e:h[p]?=some (.lst [.int m,.int c,.int t]):=e;have hp:p<h.length:=(qaf.mp e).1;have e2:(h.set p (.lst [.int m,.int c,.int (t+1)]))[p]?=some (.lst [.int m,.int c,.int (t+1)]):=lW hp;have c1:-(2 ^ 64)<A/\A<2 ^ 64:=by ext
  have c2:-(2 ^ 64)<C/\C<2 ^ 64:=by ext
  have k1:∀{i:Int} {h:MH},opMul (.int 40503) (.int i) h=.ok (.int (40503 * i)) h:=fN (by decide);have k2:∀{i:Int} {h:MH},opMul (.int i) (.int 48271) h=.ok (.int (i * 48271)) h:=opMul_r (by decide);unfold bx;refine (jo (by rfl)).trans ?_;unfold m_l_draw;simp[bH,List.replicate,hZ e,ki e,ix2,hZ e2,hm,k1,k2,eL,ea,fN c1,eb,fN c2,qm (show (64:Int)≠0 by decide),eL hs0]
open Classical in
def gv(s:Pen)(size:Int):Int × Int:=if z:0<size/\size.natAbs.log2<9000 then (eP s size z.1 z.2).choose else (0,0)
def kP(ds:List D):Option Int:=match ds with
 | [.pen,.int i]=>some i
 | _=>none
def rA{ds:List D}{i:Int}(e:kP ds=some i):ds=[.pen,.int i]:=by
 unfold kP at e
 split at e
 ·cases e;rfl
 ·cases e
open Classical in
def aK:Fn where
 m:=bx
 p:=fun ds s=>match kP ds with
  | some size=>if 0<size/\size.natAbs.log2<9000 then .ok (.int (gv s size).1) (s.1,(gv s size).2,s.2.2+1) else .bad
  | none=>.bad
 fr:=true
 ok {q h O vs ds s} bd hq pn r:=by
  cases e:kP ds with
  | none=>trivial
  | some size =>
   have:=rA e
   subst this;dsimp only;by_cases z:0<size/\size.natAbs.log2<9000
   ·rw[qae z];obtain⟨x,t,rfl,hx,y,t',rfl,hy,ht⟩:=r;rw[show x=PV.loc q from hx,show y=PV.int size from hy,show t'=[] from ht];have k:=(eP s size z.1 z.2).choose_spec.2 h q pn;have ed:gv s size=(eP s size z.1 z.2).choose:=by unfold gv;rw[dif_pos z]
    rw[<-ed] at k;refine⟨_,_,k,⟨by simp,fun n hn hp=>qah (Ne.symm hp)⟩,lW (aW pn),rfl,fun _ k ds e=>by cases k <;> cases e⟩
   ·rw[qat z];trivial
def rK:aK.m=bx:=rfl
open Classical in
theorem bE{s:Pen}{size:Int}(hs:0<size)(hl:size<=2000000000):∃d s',0<=d/\d<size/\aK.p [.pen,.int size] s=.ok (.int d) s':=by
 have hlog:size.natAbs.log2<9000:=by
  have h1:size.natAbs<=2000000000:=by ext
  have h2:size.natAbs.log2<31:=(Nat.log2_lt (by ext)).mpr (by ext);ext
 have z:0<size/\size.natAbs.log2<9000:=⟨hs,hlog⟩;have ed:gv s size=(eP s size z.1 z.2).choose:=by unfold gv;rw[dif_pos z]
 have k:=(eP s size z.1 z.2).choose_spec.1;rw[<-ed] at k;exact⟨_,_,k.1,k.2,by show (if 0<size/\size.natAbs.log2<9000 then _ else _)=_;rw[qae z]⟩
def dN:Xd []:=(aq (kc 2 3 (aa (xCb lZ (aa (ab 0) xNil)) (aa (xCb lZ (aa (ab 1) xNil)) xNil)))
 (aq (xWh 2000000 (xB (af oGt (ab 3) (xC (.int 0)))) (kc 2 3 (aa (ab 3) (aa (af io (ab 2) (ab 3)) xNil))) hR)
 (aq (xIf (xB (af oLt (ab 1) (xC (.int 0)))) (aD 2 (xUn fj (ab 2))) xSkip)
 (aS (bV (aa (af oFd (ab 0) (ab 2)) (aa (af oFd (ab 1) (ab 2)) xNil)))))))
def cb:Fn:=ba 4 2 dN
def pM{ds:List D}{s:Pen}(h:ds.length=2):cb.p ds s=(dN.p (dSt 4 ds) s).fin:=aO h
def dM:Xd []:=(aq (aD 1 (ah aK (aa (ab 0) (aa (xC (.int 4)) xNil))))
 (aq (aD 2 (af aN (xC (.int 1)) (ah aK (aa (ab 0) (aa (af oIx (cg (aa (xC (.int 6)) (aa (xC (.int 6)) (aa (xC (.int 12)) (aa (xC (.int 999999)) xNil))))) (ab 1)) xNil)))))
 (aq (aD 3 (af aN (xC (.int 1)) (ah aK (aa (ab 0) (aa (af oIx (cg (aa (xC (.int 1)) (aa (xC (.int 1)) (aa (xC (.int 5)) (aa (xC (.int 999999)) xNil))))) (ab 1)) xNil)))))
 (aq (xIf (xB (af oEq (ah aK (aa (ab 0) (aa (xC (.int 2)) xNil))) (xC (.int 1)))) (aD 2 (af gS (xC (.int 0)) (ab 2))) xSkip)
 (aS (ah cb (aa (ab 2) (aa (ab 3) xNil))))))))
def dP:Fn:=ba 4 1 dM
def pU{ds:List D}{s:Pen}(h:ds.length=1):dP.p ds s=(dM.p (dSt 4 ds) s).fin:=aO h
def g6:Xd []:=(aq (aD 1 (ah aK (aa (ab 0) (aa (xC (.int 5)) xNil))))
 (aq (aD 2 (af aN (xC (.int 1)) (ah aK (aa (ab 0) (aa (af oIx (cg (aa (xC (.int 6)) (aa (xC (.int 12)) (aa (af dD (xC (.int 10)) (xC (.int 6))) (aa (af gS (af dD (xC (.int 10)) (xC (.int 60))) (xC (.int 1))) (aa (xC (.int 9)) xNil)))))) (ab 1)) xNil)))))
 (aq (aD 3 (af aN (xC (.int 1)) (ah aK (aa (ab 0) (aa (af oIx (cg (aa (xC (.int 1)) (aa (xC (.int 5)) (aa (af dD (xC (.int 10)) (xC (.int 6))) (aa (af gS (af dD (xC (.int 10)) (xC (.int 60))) (xC (.int 1))) (aa (xC (.int 9)) xNil)))))) (ab 1)) xNil)))))
 (aq (xIf (xB (af oEq (ab 1) (xC (.int 4)))) (kc 2 3 (aa (af gS (af dD (xC (.int 10)) (xC (.int 60))) (ab 2)) (aa (af gS (af dD (xC (.int 10)) (xC (.int 60))) (ab 3)) xNil))) xSkip)
 (aq (xIf (xB (af oEq (ah aK (aa (ab 0) (aa (xC (.int 2)) xNil))) (xC (.int 1)))) (aD 2 (af gS (xC (.int 0)) (ab 2))) xSkip)
 (aS (ah cb (aa (ab 2) (aa (ab 3) xNil)))))))))
def gZ:Fn:=ba 4 1 g6
def ur{ds:List D}{s:Pen}(h:ds.length=1):gZ.p ds s=(g6.p (dSt 4 ds) s).fin:=aO h
def fJ:Xd []:=(aq (xIf (xTr (ab 1)) (aS (ah gZ (aa (ab 0) xNil))) xSkip)
 (aS (ah dP (aa (ab 0) xNil))))
def cL:Fn:=ba 2 2 fJ
def oX{ds:List D}{s:Pen}(h:ds.length=2):cL.p ds s=(fJ.p (dSt 2 ds) s).fin:=aO h
def fg:Xd []:=(aq (aD 3 (af aN (xC (.int 1)) (ah aK (aa (ab 0) (aa (xC (.int 4)) xNil)))))
 (aS (xCb d9 (aa (bD 1 [0,2,3] (fw iR1 (aa (ab 1) xNil)) (ws':=[]) (xNm 0) (xB (af oEq (ah aK (aa (ab 1) (aa (ab 3) xNil))) (xC (.int 0)))) (bV (aa (ab 0) (aa (ah cL (aa (ab 1) (aa (ab 2) xNil))) xNil)))) xNil))))
def bN:Fn:=ba 4 3 fg
def sx{ds:List D}{s:Pen}(h:ds.length=3):bN.p ds s=(fg.p (dSt 4 ds) s).fin:=aO h
def fh:Xd []:=(aq (aD 2 (af oIx (cg (aa (ah aK (aa (ab 0) (aa (xC (.int 13)) xNil))) (aa (ah aK (aa (ab 0) (aa (xC (.int 8)) xNil))) xNil))) (xCb jX (aa (ab 1) xNil))))
 (aS (bV (aa (ab 2) (aa (xCb d9 (aa (bD 1 [0,2,1] (fw iR1 (aa (ab 2) xNil)) (ws':=[]) (xNm 0) xTrue (ah bN (aa (ab 1) (aa (ab 2) (aa (ab 3) xNil))))) xNil)) xNil)))))
def cv:Fn:=ba 3 2 fh
def rT{ds:List D}{s:Pen}(h:ds.length=2):cv.p ds s=(fh.p (dSt 3 ds) s).fin:=aO h
def gh:Xd [4]:=(aq (aD 3 (af oIx (cg (aa (af oIx (cg (aa (ah aK (aa (ab 0) (aa (xC (.int 6)) xNil))) (aa (xC (.int 20)) (aa (ah aK (aa (ab 0) (aa (xC (.int 21)) xNil))) xNil)))) (ah aK (aa (ab 0) (aa (xC (.int 3)) xNil)))) (aa (ah aK (aa (ab 0) (aa (xC (.int 5)) xNil))) xNil))) (xCb jX (aa (ab 2) xNil))))
 (aq (gA 4 (cg xNil))
 (aq (lL (fw iR1 (aa (ab 3) xNil)) (xNm 5) (aq (aD 6 (ah cL (aa (ab 0) (aa (ab 2) xNil))))
 (aq (xIf (xB (af oEq (ah aK (aa (ab 0) (aa (xC (.int 4)) xNil))) (xC (.int 0)))) (aD 6 (bV (aa (xC (.int 0)) (aa (xC (.int 1)) xNil)))) xSkip)
 (xMt aAppend 4 (aa (bV (aa (ah bN (aa (ab 0) (aa (ab 1) (aa (ab 2) xNil)))) (aa (ab 6) xNil))) xNil)))))
 (lr 4))))
def cW:Fn:=ba 7 3 gh
def sT{ds:List D}{s:Pen}(h:ds.length=3):cW.p ds s=(gh.p (dSt 7 ds) s).fin:=aO h
def f9:Xd []:=(aq (xIf (xB (af oEq (af oIx (ab 0) (xC (.int 1))) (xC (.int 1)))) (aS (xCb dC (aa (af oIx (ab 0) (xC (.int 0))) xNil))) xSkip)
 (aS (af aN (af aN (xCb dC (aa (af oIx (ab 0) (xC (.int 0))) xNil)) (xC (.str "/"))) (xCb dC (aa (af oIx (ab 0) (xC (.int 1))) xNil)))))
def dG:Fn:=ba 1 1 f9
def tj{ds:List D}{s:Pen}(h:ds.length=1):dG.p ds s=(f9.p (dSt 1 ds) s).fin:=aO h
def fe:Xd []:=(aS (bD 2 [] (eQ (ab 0)) (ws':=[]) (xGp (xGc (xNm 0) (xGc (xNm 1) xGl)) 2) xTrue (af aN (af aN (xCb dC (aa (ab 0) xNil)) (xC (.str "="))) (ah dG (aa (ab 1) xNil)))))
def cX:Fn:=ba 1 1 fe
def su{ds:List D}{s:Pen}(h:ds.length=1):cX.p ds s=(fe.p (dSt 1 ds) s).fin:=aO h
def bZ:Xd []:=(aS (bD 1 [0] (fw iR1 (aa (af oIx (ab 0) (xC (.int 0))) xNil)) (ws':=[]) (xNm 0) xTrue (xSm sJoin (xC (.str " ")) (aa (af aN (cg (aa (af aN (xCb dC (aa (ab 0) xNil)) (xC (.str ":"))) xNil)) (ah cX (aa (af oIx (af oIx (ab 1) (xC (.int 1))) (ab 0)) xNil))) xNil))))
def be:Fn:=ba 1 1 bZ
def kw{ds:List D}{s:Pen}(h:ds.length=1):be.p ds s=(bZ.p (dSt 1 ds) s).fin:=aO h
def cq:Xd []:=(aS (bD 2 [] (eQ (ab 0)) (ws':=[]) (xGp (xGc (xNm 0) (xGc (xNm 1) xGl)) 2) xTrue (xSm sJoin (xC (.str " ")) (aa (af aN (ah cX (aa (ab 0) xNil)) (cg (aa (xC (.str "|")) (aa (ah dG (aa (ab 1) xNil)) xNil)))) xNil))))
def bh:Fn:=ba 1 1 cq
def lq{ds:List D}{s:Pen}(h:ds.length=1):bh.p ds s=(cq.p (dSt 1 ds) s).fin:=aO h
def c6:Xd [8]:=(aq (aD 3 (af oEq (ab 1) (xC (.int 1))))
 (aq (aD 4 (ah cv (aa (ab 2) (aa (ab 3) xNil))))
 (aq (aD 5 (xSm sJoin (xC (.str "\n")) (aa (ah be (aa (ab 4) xNil)) xNil)))
 (aq (xIf (xOr (xB (af oV (xCb eW (aa (ah aC (aa (ab 5) xNil)) xNil)) (xCb eW (aa (ab 4) xNil)))) (xB (af oNe (ah bB (aa (ah aC (aa (ab 5) xNil)) xNil)) (ab 5)))) (aS (xC (.bl false))) xSkip)
 (aq (aD 6 (ah aK (aa (ab 2) (aa (xC (.int 13)) xNil))))
 (aq (aD 7 (ah cW (aa (ab 2) (aa (ab 6) (aa (ab 3) xNil)))))
 (aq (aD 5 (xSm sJoin (xC (.str "\n")) (aa (ah bh (aa (ab 7) xNil)) xNil)))
 (aq (gA 8 (ah aG (aa (ab 6) (aa (ab 5) xNil))))
 (aq (xIf (xOr (fk (xB (xUn (d7 ["list"]) (ab 8)))) (xOr (xB (af oV (xCb eW (aa (ab 8) xNil)) (xCb eW (aa (ab 7) xNil)))) (xB (af oNe (sn bL (aa (ab 8) xNil)) (ab 5))))) (aS (xC (.bl false))) xSkip)
 (aq (xMt aAppend 8 (aa (xC .non) xNil))
 (xIf (xOr (xB (af oV (xCb eW (aa (ah aG (aa (ab 6) (aa (ab 5) xNil))) xNil)) (xCb eW (aa (ab 7) xNil)))) (xB (af oV (xCb eW (aa (ah aG (aa (xC (.int 12)) (aa (ab 5) xNil))) xNil)) (xCb eW (aa (ab 7) xNil))))) (aS (xC (.bl false))) xSkip)))))))))))
def fO:Xd [8]:=(aS (cC (af oEq (ah aC (aa (xC (.str "")) xNil)) (bV (aa (xC (.int 0)) (aa (bV xNil) xNil)))) (cC (af oEqL (ah aG (aa (xC (.int 3)) (aa (xC (.str "")) xNil))) (cg xNil)) (af oEq (ah aC (aa (xC (.str "0:")) xNil)) (bV (aa (xC (.int 1)) (aa (bV (aa (bV xNil) xNil)) xNil)))))))
def m_law:Mst:=(aI (nS (gq (ac (mC (.int 3)) mNil)) (gNm 1) (aI (aU 2 (aB eK (ac (ae 0) (ac (ae 1) mNil))))
 (aI (aU 3 (ai opEq (ae 1) (mC (.int 1))))
 (aI (aU 4 (aB cv.m (ac (ae 2) (ac (ae 3) mNil))))
 (aI (aU 5 (mSm d4 (mC (.str "\n")) (ac (aB be.m (ac (ae 4) mNil)) mNil)))
 (aI (mIf (mOr (mB (ai opNeS (mCB fRepr (ac (aB aC.m (ac (ae 5) mNil)) mNil)) (mCB fRepr (ac (ae 4) mNil)))) (mB (ai opNe (aB bB.m (ac (aB aC.m (ac (ae 5) mNil)) mNil)) (ae 5)))) (bn (mC (.bl false))) mSkip)
 (aI (aU 6 (aB bx (ac (ae 2) (ac (mC (.int 13)) mNil))))
 (aI (aU 7 (aB cW.m (ac (ae 2) (ac (ae 6) (ac (ae 3) mNil)))))
 (aI (aU 5 (mSm d4 (mC (.str "\n")) (ac (aB bh.m (ac (ae 7) mNil)) mNil)))
 (aI (aU 8 (aB aG.m (ac (ae 6) (ac (ae 5) mNil))))
 (aI (mIf (mOr (lP (mB (mUn (iY ["list"]) (ae 8)))) (mOr (mB (ai opNeS (mCB fRepr (ac (ae 8) mNil)) (mCB fRepr (ac (ae 7) mNil)))) (mB (ai opNe (aB bL.m (ac (ae 8) mNil)) (ae 5))))) (bn (mC (.bl false))) mSkip)
 (aI (gu (mMt eM (ae 8) (ac (mC .non) mNil)))
 (mIf (mOr (mB (ai opNeS (mCB fRepr (ac (aB aG.m (ac (ae 6) (ac (ae 5) mNil))) mNil)) (mCB fRepr (ac (ae 7) mNil)))) (mB (ai opNeS (mCB fRepr (ac (aB aG.m (ac (mC (.int 12)) (ac (ae 5) mNil))) mNil)) (mCB fRepr (ac (ae 7) mNil))))) (bn (mC (.bl false))) mSkip)))))))))))))
 (bn (iL (ai opEq (aB aC.m (ac (mC (.str "")) mNil)) (dR (ac (mC (.int 0)) (ac (dR mNil) mNil)))) (iL (ai opEqL (aB aG.m (ac (mC (.int 3)) (ac (mC (.str "")) mNil))) (ft mNil)) (ai opEq (aB aC.m (ac (mC (.str "0:")) mNil)) (dR (ac (mC (.int 1)) (ac (dR (ac (dR mNil) mNil)) mNil))))))))
def f_law:List PV->MH->Out PV:=dE 9 1 m_law
end
end Law
namespace Law
open PySem MM PU SetT SortT
open L2 (ixN atI di)
set_option maxHeartbeats 1000000
def iB{lo:Int}{c:Nat}:(cf lo c).length=c:=by simp[cf]
def ve{lo:Int}{c:Nat}{x:D}(h:x∈cf lo c):∃i:Int,x=.int i/\lo<=i/\i<lo+c:=by
 unfold cf at h;obtain⟨k,hk,rfl⟩:=qau.mp h;rw[qbM] at hk;exact⟨_,rfl,by ext,by ext⟩
def uu{c i:Nat}{x:D}(h:(cf 0 c)[i]?=some x):x=.int (i:Int)/\i<c:=by
 unfold cf at h;rw[qaD,qap] at h;obtain⟨k,hk,rfl⟩:=h;obtain⟨a,b⟩:=qaf.mp hk;simp at a b;subst b;exact⟨by simp,a⟩
def jL{ws:List Nat}{env:am}{s s1:Pen}{o:OpM}{i:Nat}{a:Xs ws}{hi:ws.contains i=true}{hz:a.fz=true}{as ds ds':List D}{r:D}(e1:a.p env s=.ok as s1)(e2:env[i]?=some (some (.lst ds)))(e3:o.p ds as=some (r,ds')):(xMt o i a hi hz).p env s=.nx (env.set i (some (.lst ds'))) s1:=by
 rw[xMt_p,tO e1 e2 e3]
abbrev nD(t b:Int):D:=.tup [.int t,.int b]
def iD{a b:Int}(ha:0<=a)(hb:0<=b):Int.gcd b (a % b)=Int.gcd a b:=by
 obtain⟨m,rfl⟩:=qbB ha;obtain⟨n,rfl⟩:=qbB hb;show Nat.gcd n (m % n)=Nat.gcd m n;rw[Nat.gcd_comm m n,Nat.gcd_rec n m,Nat.gcd_comm]
def oH{a b:Int}(hb:0<b):io.p (.int a) (.int b)=some (.int (a % b)):=by
 rw[oMod_ii (by ext),qaW _ (by ext)]
def oFd_ne{a b:Int}(hb:b≠0):oFd.p (.int a) (.int b)=some (.int (a.fdiv b)):=qae hb
def qV{a b:Int}(hb:0<b):oFd.p (.int a) (.int b)=some (.int (a / b)):=by
 rw[oFd_ne (by ext),Int.fdiv_eq_ediv_of_nonneg _ (by ext)]
def abs_nn{a:Int}:(if a<0 then -a else a)=(a.natAbs:Int):=by split <;> ext
def g8{a:Int}:lZ.p [.int a]=some (.int (a.natAbs:Int)):=by
 show some (D.int (if a<0 then -a else a))=_;rw[abs_nn]
def rn{ws:List Nat}{N:Nat}{t:Xt ws}{b:Xd ws}(hm:∀{σ h n},bJ t.m b.m n σ h≠.bad->mWh t.m b.m σ h=bJ t.m b.m n σ h){env:am}{s:Pen}:(xWh N t b hm).p env s=cA t.p b.p N env s:=rfl
def o4{b r:Int}(h0:0<r)(h1:r<b):0<=b % r/\b % r<r/\2 * (b % r)<b:=by
 have a1:=qbl b (show r≠0 by ext);have a2:=qbb b h0;have a3:=Int.mul_ediv_add_emod b r;have a4:1<=b / r:=by rw[Int.le_ediv_iff_mul_le h0];ext
 have a5:r * 1<=r * (b / r):=Int.mul_le_mul_of_nonneg_left a4 (by ext);ext
def dL{a:Int}(h:0<=a):((Int.gcd a 0:Nat):Int)=a:=by rw[Int.gcd_zero_right];ext
abbrev lowT:Xt []:=xB (af oGt (ab 3) (xC (.int 0)))
abbrev lowB:Xd []:=kc 2 3 (aa (ab 3) (aa (af io (ab 2) (ab 3)) xNil))
def low1{x y:Option D}{a b:Int}{n:Nat}{s:Pen}(hb:0<b):cA lowT.p lowB.p (n+1) [x,y,some (.int a),some (.int b)] s=cA lowT.p lowB.p n [x,y,some (.int b),some (.int (a % b))] s:=by
 rw[cA];simp[oH hb,hb,PR.bl]
def low0{x y:Option D}{a:Int}{n:Nat}{s:Pen}:cA lowT.p lowB.p (n+1) [x,y,some (.int a),some (.int 0)] s=.nx [x,y,some (.int a),some (.int 0)] s:=by
 rw[cA];simp[PR.bl]
def low_run{x y:Option D}{s:Pen}:∀(k n:Nat) (a b:Int),0<=a->0<=b->b<2 ^ k->2 * k+1<=n->cA lowT.p lowB.p n [x,y,some (.int a),some (.int b)] s=.nx [x,y,some (.int (Int.gcd a b)),some (.int 0)] s:=by
 intro k
 induction k with
 | zero =>
  intro n a b ha hb hk hn;obtain⟨m,rfl⟩:∃m,n=m+1:=⟨n - 1,by ext⟩
  have:b=0:=by simp at hk;ext
  subst this;rw[low0,dL ha]
 | succ k ih =>
  intro n a b ha hb hk hn;obtain⟨m,rfl⟩:∃m,n=m+1+1:=⟨n - 2,by ext⟩;by_cases e:b=0
  ·subst e;rw[low0,dL ha]
  ·have hb':0<b:=by ext
   rw[low1 hb',<-iD ha hb];have r0:=qbl a e;have r1:=qbb a hb';generalize a % b=r at r0 r1 ⊢;by_cases er:r=0
   ·subst er;rw[low0,dL hb]
   ·obtain⟨h0,h1,h2⟩:=o4 (b:=b) (r:=r) (by ext) r1;rw[low1 (by ext),<-iD hb r0];refine ih m r (b % r) r0 h0 ?_ (by ext);rw[Int.pow_succ] at hk;ext
abbrev qD(q:Rat):D:=nD q.num (q.den:Int)
def uc{n k:Nat}(hk:0<k)(h:n<2 ^ k):n.log2+1<=k:=by
 rcases Nat.eq_zero_or_pos n with e|e
 ·subst e;simp only[Nat.log2_zero];ext
 ·exact (Nat.log2_lt (by ext)).mpr h
def qZ(t:Int)(b:Nat)(hb:b≠0):(Rat.divInt t b).num=t / (Nat.gcd t.natAbs b:Int)/\(Rat.divInt t b).den=b / Nat.gcd t.natAbs b:=by
 rw[Rat.divInt_ofNat];unfold mkRat;rw[dif_neg hb,Rat.normalize_eq];exact⟨rfl,rfl⟩
def div_abs{t:Int}{g:Nat}:(t / (g:Int)).natAbs<=t.natAbs:=Int.natAbs_ediv_le_natAbs t g
local macro_rules | `(tactic| simp! [$a,*]) => `(tactic| simp only [$a,*, PU.az, Pb, Pf, Pg, aj, al, ar, av, qan, qao])
local macro_rules | `(tactic| dsimp! [$a,*]) => `(tactic| simp only [$a,*, Pb, Pf, aj, al, ar])
def u6{t:Int}{b k:Nat}{s:Pen}(hb:b≠0)(hk:b<2 ^ k)(hc:k<=950000):cb.p [.int t,.int (b:Int)] s=.ok (qD (Rat.divInt t b)) s:=by
 obtain⟨e1,e2⟩:=qZ t b hb;have hkI:((b:Nat):Int)<2 ^ k:=by
  have:=Int.ofNat_lt.mpr hk
  simpa using this
 have h0:0<(Nat.gcd t.natAbs b:Int):=by
  have:0<Nat.gcd t.natAbs b:=Nat.gcd_pos_of_pos_right _ (by ext)
  ext
 rw[pM (by rfl)];unfold dN;have e0:dSt 4 [D.int t,.int (b:Int)]=[some (.int t),some (.int (b:Int)),none,none]:=rfl;have q:=low_run (x:=some (.int t)) (y:=some (.int (b:Int))) (s:=s) k 2000000 (t.natAbs:Int) ((b:Int).natAbs:Int) (by ext) (by ext) (by simpa using hkI) (by ext);rw[e0];simp![aQ,pI,bu,g8];rw[rn hR];refine (congrArg (fun z:PS=>(z.then _).fin) q).trans ?_;rw[Int.gcd_natCast_natCast,qaP];have f1:=qV (a:=t) h0;have f2:=qV (a:=(b:Int)) h0;rw[qD,e1,e2];simp[PR.bl,show ¬(b:Int)<0 by ext,f1,f2]
def t5{s:Pen}{size:Int}(hs:0<size)(hlog:size.natAbs.log2<9000):∃d s',0<=d/\d<size/\aK.p [.pen,.int size] s=.ok (.int d) s':=by
 have z:0<size/\size.natAbs.log2<9000:=⟨hs,hlog⟩;have ed:gv s size=(eP s size z.1 z.2).choose:=by unfold gv;rw[dif_pos z]
 have k:=(eP s size z.1 z.2).choose_spec.1;rw[<-ed] at k;exact⟨_,_,k.1,k.2,by show (if 0<size/\size.natAbs.log2<9000 then _ else _)=_;rw[qae z]⟩
def Six(t b:Int):Prop:=t.natAbs<10 ^ 60/\1<=b/\b<10 ^ 60/\Nat.gcd t.natAbs b.natAbs=1
def low60{t b:Int}{s:Pen}(hb:1<=b)(h1:t.natAbs<10 ^ 60)(h2:b<10 ^ 60):∃t' b',cb.p [.int t,.int b] s=.ok (nD t' b') s/\Six t' b'/\(t≠0->t'≠0):=by
 obtain⟨n,rfl⟩:∃n:Nat,b=n:=⟨b.toNat,by ext⟩;have hn:n≠0:=by ext
 obtain⟨e1,e2⟩:=qZ t n hn;refine⟨_,_,u6 (k:=200) hn (qbh (show n<10 ^ 60 by ext) (by decide +kernel)) (by decide),⟨?_,?_,?_,?_⟩,fun ht z=>?_⟩
 ·rw[e1];exact Nat.lt_of_le_of_lt div_abs h1
 ·have:=(Rat.divInt t n).den_pos;ext
 ·have:(Rat.divInt t n).den<=n:=by rw[e2];exact Nat.div_le_self _ _
  ext
 ·rw[qaP];exact (Rat.divInt t n).reduced
 ·rw[e1] at z;have hd:((Nat.gcd t.natAbs n:Nat):Int) ∣ t:=by
   have:=Nat.gcd_dvd_left t.natAbs n
   exact Int.ofNat_dvd_left.mpr this
  have:=Int.ediv_mul_cancel hd
  rw[z] at this;ext
def ux{s:Pen}:∃t b s',dP.p [.pen] s=.ok (nD t b) s'/\Six t b/\t≠0:=by
 obtain⟨w,s1,w0,w1,q1⟩:=bE (s:=s) (size:=4) (by decide) (by decide);obtain⟨m,em,m0,m1⟩:∃m:Int,atI [D.int 6,.int 6,.int 12,.int 999999] w=some (.int m)/\0<m/\m<=999999:=by
  obtain rfl|rfl|rfl|rfl:w=0\/w=1\/w=2\/w=3:=by ext
  ·exact⟨6,rfl,by decide,by decide⟩
  ·exact⟨6,rfl,by decide,by decide⟩
  ·exact⟨12,rfl,by decide,by decide⟩
  ·exact⟨999999,rfl,by decide,by decide⟩
 obtain⟨n,en,n0,n1⟩:∃m:Int,atI [D.int 1,.int 1,.int 5,.int 999999] w=some (.int m)/\0<m/\m<=999999:=by
  obtain rfl|rfl|rfl|rfl:w=0\/w=1\/w=2\/w=3:=by ext
  ·exact⟨1,rfl,by decide,by decide⟩
  ·exact⟨1,rfl,by decide,by decide⟩
  ·exact⟨5,rfl,by decide,by decide⟩
  ·exact⟨999999,rfl,by decide,by decide⟩
 obtain⟨t,s2,t0,t1,q2⟩:=bE (s:=s1) (size:=m) m0 (by ext);obtain⟨b,s3,b0,b1,q3⟩:=bE (s:=s2) (size:=n) n0 (by ext);obtain⟨g,s4,g0,g1,q4⟩:=bE (s:=s3) (size:=2) (by decide) (by decide);obtain⟨t',b',q5,h1,h2⟩:=low60 (t:=if g=1 then 0 - (1+t) else 1+t) (b:=1+b) (s:=s4) (by ext) (by split <;> ext) (by ext);refine⟨t',b',s4,?_,h1,h2 (by split <;> ext)⟩;rw[pU (by rfl)];unfold dM;have e0:dSt 4 [D.pen]=[some .pen,none,none,none]:=rfl;rw[e0];by_cases z:g=1
 ·rw[qae z,Int.zero_sub] at q5;simp[q1,em,q2,en,q3,q4,PR.bl,z,q5]
 ·rw[qat z] at q5;simp[q1,em,q2,en,q3,q4,PR.bl,z,q5]
def p60:dD.p (.int 10) (.int 60)=some (.int ((10 ^ 60:Nat):Int)):=by
 exact qae (show di 10 60 from⟨by decide,by decide,by decide⟩)
def p6:dD.p (.int 10) (.int 6)=some (.int 1000000):=by
 exact qae (show di 10 6 from⟨by decide,by decide,by decide⟩)
def far_p{s:Pen}:∃t b s',gZ.p [.pen] s=.ok (nD t b) s'/\Six t b/\t≠0:=by
 obtain⟨w,s1,w0,w1,q1⟩:=bE (s:=s) (size:=5) (by decide) (by decide);obtain⟨M,hM⟩:∃M:Int,M=((10 ^ 60:Nat):Int) - 1:=⟨_,rfl⟩;obtain⟨m,em,m0,m1,m2⟩:∃m:Int,atI [D.int 6,.int 12,.int 1000000,.int M,.int 9] w=some (.int m)/\0<m/\m<=M/\(w=4->m=9):=by
  obtain rfl|rfl|rfl|rfl|rfl:w=0\/w=1\/w=2\/w=3\/w=4:=by ext
  ·exact⟨6,rfl,by decide,by ext,by ext⟩
  ·exact⟨12,rfl,by decide,by ext,by ext⟩
  ·exact⟨1000000,rfl,by decide,by ext,by ext⟩
  ·exact⟨M,rfl,by ext,by ext,by ext⟩
  ·exact⟨9,rfl,by decide,by ext,by ext⟩
 obtain⟨n,en,n0,n1,n2⟩:∃m:Int,atI [D.int 1,.int 5,.int 1000000,.int M,.int 9] w=some (.int m)/\0<m/\m<=M/\(w=4->m=9):=by
  obtain rfl|rfl|rfl|rfl|rfl:w=0\/w=1\/w=2\/w=3\/w=4:=by ext
  ·exact⟨1,rfl,by decide,by ext,by ext⟩
  ·exact⟨5,rfl,by decide,by ext,by ext⟩
  ·exact⟨1000000,rfl,by decide,by ext,by ext⟩
  ·exact⟨M,rfl,by ext,by ext,by ext⟩
  ·exact⟨9,rfl,by decide,by ext,by ext⟩
 have lg:∀x:Int,0<x->x<=M->x.natAbs.log2<9000:=fun x h0 h1=>by
  have:x.natAbs<2 ^ 200:=qbh (show x.natAbs<10 ^ 60 by ext) (by decide +kernel)
  have:=uc (k:=200) (by decide) this
  ext
 obtain⟨t,s2,t0,t1,q2⟩:=t5 (s:=s1) (size:=m) m0 (lg m m0 m1);obtain⟨b,s3,b0,b1,q3⟩:=t5 (s:=s2) (size:=n) n0 (lg n n0 n1);obtain⟨g,s4,g0,g1,q4⟩:=bE (s:=s3) (size:=2) (by decide) (by decide);obtain⟨T,hT⟩:∃T:Int,T=if w=4 then ((10 ^ 60:Nat):Int) - (1+t) else 1+t:=⟨_,rfl⟩
 obtain⟨B,hB⟩:∃T:Int,T=if w=4 then ((10 ^ 60:Nat):Int) - (1+b) else 1+b:=⟨_,rfl⟩
 have T0:1<=T/\T<10 ^ 60:=by
  by_cases z:w=4
  ·have:=m2 z;rw[qae z] at hT;ext
  ·rw[qat z] at hT;ext
 have B0:1<=B/\B<10 ^ 60:=by
  by_cases z:w=4
  ·have:=n2 z;rw[qae z] at hB;ext
  ·rw[qat z] at hB;ext
 obtain⟨t',b',q5,h1,h2⟩:=low60 (t:=if g=1 then 0 - T else T) (b:=B) (s:=s4) (by ext) (by split <;> ext) (by ext);refine⟨t',b',s4,?_,h1,h2 (by split <;> ext)⟩;rw[ur (by rfl)];unfold g6;have e0:dSt 4 [D.pen]=[some .pen,none,none,none]:=rfl;rw[e0];rw[hM] at em en;simp![aQ,bc,aJ,cI,aV,aZ,aH,q1,p60,p6,oSub_ii,qaq,qaB,show (0+1+1+1+1+1:Nat)<=100000 by decide,if_true,kJ,em,en,q2,q3,nE];have f1:∀x:Int,gS.p (.int ((10 ^ 60:Nat):Int)) (.int x)=some (.int (((10 ^ 60:Nat):Int) - x)):=fun x=>rfl;have f2:∀x:Int,gS.p (.int 0) (.int x)=some (.int (0 - x)):=fun x=>rfl;have f3:∀x y:Int,oEq.p (.int x) (.int y)=some (.bl (decide (x=y))):=fun x y=>rfl;by_cases z:w=4
 ·rw[qae z] at hT hB;by_cases y:g=1
  ·rw[qae y] at q5;simp![cN,cM,aJ,aV,aZ,f3,PR.bl,z,decide_true,if_true,pI,p60,f1,f2,<-hT,<-hB,aQ,aH,q4,y,bc,aX,q5];rfl
  ·rw[qat y] at q5;simp![cN,cM,aJ,aV,aZ,f3,PR.bl,z,decide_true,if_true,pI,p60,f1,<-hT,<-hB,aQ,aH,q4,decide_eq_false y,qar,if_false,bO,aX,q5];rfl
 ·rw[qat z] at hT hB;by_cases y:g=1
  ·rw[qae y] at q5;simp![cN,cM,aJ,aV,aZ,f3,PR.bl,decide_eq_false z,qar,if_false,bO,f2,<-hT,<-hB,aQ,aH,q4,y,decide_true,if_true,bc,aX,q5];rfl
  ·rw[qat y] at q5;simp![cN,cM,aJ,aV,aZ,f3,PR.bl,decide_eq_false z,qar,if_false,bO,<-hT,<-hB,aQ,aH,q4,decide_eq_false y,aX,q5];rfl
abbrev tS(i:Int):Str:=Str.ofString (toString i)
def ofS_app(a b:String):Str.ofString (a++b)=Str.ofString a++Str.ofString b:=by
 simp only[Str.ofString_eq_toList];show (⟨((a++b).toList.map Char.toNat).toArray⟩:Str)=⟨_++_⟩;simp
def dg(n:Nat):List Nat:=(Nat.toDigits 10 n).map Char.toNat
def sC(n:Nat):tS (n:Int)=⟨(dg n).toArray⟩:=by
 unfold tS dg;rw[Str.ofString_eq_toList,qbq,qbN,qae (by ext)];simp
def g9{i:Int}(h:i<0):tS i=Str.ofString "-"++tS (i.natAbs:Int):=by
 unfold tS;rw[qbq,qbN,qat (by ext),ofS_app,qbq,qbN,qae (by ext)];congr 3;ext
def jm{n c:Nat}(h:c∈dg n):48<=c/\c<=57:=by
 unfold dg at h;obtain⟨d,hd,rfl⟩:=qau.mp h
 have:=Nat.isDigit_of_mem_toDigits (by decide) (by decide) hd
 unfold Char.isDigit at this;simp at this;obtain⟨a,b⟩:=this;constructor
 ·exact UInt32.le_iff_toNat_le.mp a
 ·exact UInt32.le_iff_toNat_le.mp b
def dg_len{n k:Nat}(hk:0<k):(dg n).length<=k↔n<10 ^ k:=by
 unfold dg;rw[qaS];exact Nat.length_toDigits_le_iff (by decide) hk
def cr{i:Int}{k:Nat}(hk:0<k)(h:i.natAbs<10 ^ k):(tS i).length<=k+1:=by
 unfold tS;rw[PySem.ofString_length];exact PySem.int_text_length_le10 hk h
def gD(x:Str):Str.empty++x=x:=by
 show (⟨#[]++x.cps⟩:Str)=x;simp
def mO(x:Str):x++Str.empty=x:=by
 show (⟨x.cps++#[]⟩:Str)=x;simp
def lp(x y z:Str):x++y++z=x++(y++z):=by
 show (⟨x.cps++y.cps++z.cps⟩:Str)=⟨x.cps++(y.cps++z.cps)⟩;simp
def lg{i:Int}(h:i.natAbs<10 ^ 60):i.natAbs.log2<1920:=by
 have:=uc (k:=200) (by decide) (qbh h (by decide +kernel))
 ext
def szL:1000000<=sizeLine:=by decide
def fY{i:Int}(h:i.natAbs<10 ^ 60):dC.p [.int i]=some (.str (tS i)):=by
 exact qae (lg h)
abbrev slash:Str:=Str.ofString "/"
def txt(t b:Int):Str:=if b=1 then tS t else tS t++slash++tS b
def jY{x:String}(h:x.length=1):(Str.ofString x).length=1:=by rw[PySem.ofString_length];exact h
def iX:slash.length=1:=jY rfl
def ds_len:(Str.ofString "-").length=1:=jY rfl
def txt_len{t b:Int}{k:Nat}(hk:0<k)(h1:t.natAbs<10 ^ k)(h2:b.natAbs<10 ^ k):(txt t b).length<=2 * k+3:=by
 have a:=cr hk h1;have c:=cr hk h2;unfold txt;split
 ·ext
 ·rw[strLen_append,strLen_append,iX];ext
def ix0(x y:Int):atI [D.int x,.int y] 0=some (.int x):=rfl
def ixb(x y:Int):atI [D.int x,.int y] 1=some (.int y):=rfl
def nB{t b:Int}{s:Pen}(h1:t.natAbs<10 ^ 60)(h2:b.natAbs<10 ^ 60):dG.p [nD t b] s=.ok (.str (txt t b)) s:=by
 rw[tj (by rfl)];unfold f9;have e0:dSt 1 [nD t b]=[some (nD t b)]:=rfl;have a:=cr (k:=60) (by decide) h1;have c:=cr (k:=60) (by decide) h2;have z:=szL;rw[e0];by_cases hb:b=1
 ·subst hb;simp[ix0,ixb,fY h1,PR.bl,txt]
 ·have e1:aN.p (.str (tS t)) (.str slash)=some (.str (tS t++slash)):=bS (by rw[iX];ext);have e2:aN.p (.str (tS t++slash)) (.str (tS b))=some (.str (tS t++slash++tS b)):=bS (by rw[strLen_append,iX];ext);simp[ix0,ixb,fY h1,fY h2,PR.bl,txt,hb,e1,e2]
abbrev swT:Xt []:=xB (af oGe (ab 0) (af dD (xC (.int 10)) (xC (.int 60))))
abbrev swB:Xd []:=aq (aD 1 (af aN (xSm sZfill (xCb dC (aa (af io (ab 0) (af dD (xC (.int 10)) (xC (.int 60)))) xNil)) (aa (xC (.int 60)) xNil)) (ab 1)))
 (aD 0 (af oFd (ab 0) (af dD (xC (.int 10)) (xC (.int 60)))))
def sw0{n m:Nat}{x:Str}{s:Pen}(h:n<10 ^ 60):cA swT.p swB.p (m+1) [some (.int (n:Int)),some (.str x)] s=.nx [some (.int (n:Int)),some (.str x)] s:=by
 rw[cA]
 have:¬((10 ^ 60:Nat):Int)<=(n:Int):=by ext
 simp only[swT,cM,aJ,al,Pb,aV,aZ,p60,Pf,pF,PR.bl,Pg,decide_eq_true_eq,this,if_false]
def i9{n:Nat}{s:Pen}(h:n<10 ^ 60):cp.p [.int (n:Int)] s=.ok (.str (tS (n:Int))) s:=by
 rw[m4 (by rfl)];unfold cU;have e0:dSt 2 [D.int (n:Int)]=[some (.int (n:Int)),none]:=rfl;have q:=sw0 (n:=n) (m:=1999999) (x:=Str.empty) (s:=s) h;rw[e0];simp only[aQ,bc,aV,bi,Pg,qan,qao,PU.az];rw[rn hR];refine (congrArg (fun z:PS=>(z.then _).fin) q).trans ?_;have l1:=cr (i:=(n:Int)) (k:=60) (by decide) (by rw[qaP];exact h);have e1:aN.p (.str (tS (n:Int))) (.str Str.empty)=some (.str (tS (n:Int))):=by
  rw[bS (by have:=szL;have:Str.empty.length=0:=rfl;ext),mO]
 have e2:dC.p [.int (n:Int)]=some (.str (tS (n:Int))):=fY (by rw[qaP];exact h);dsimp![PU.az,aX,aJ,bu,av,e2,e1,Pg,PU.bP]
def fA{t b:Int}{s:Pen}(h1:t.natAbs<10 ^ 60)(hb:1<=b)(h2:b.natAbs<10 ^ 60):bg.p [nD t b] s=.ok (.str (txt t b)) s:=by
 rw[lK (by rfl)];unfold cE;have e0:dSt 2 [nD t b]=[some (nD t b),none]:=rfl;have q1:=i9 (s:=s) h1;have q2:=i9 (s:=s) h2;rw[show ((b.natAbs:Nat):Int)=b by ext] at q2;have a:=cr (k:=60) (by decide) h1;have a':=cr (i:=(t.natAbs:Int)) (k:=60) (by decide) (by rw[qaP];exact h1);have c:=cr (k:=60) (by decide) h2;have z:=szL;have e1:aN.p (.str (tS t)) (.str slash)=some (.str (tS t++slash)):=bS (by rw[iX];ext);have e2:aN.p (.str (tS t++slash)) (.str (tS b))=some (.str (tS t++slash++tS b)):=bS (by rw[strLen_append,iX];ext);rw[e0];by_cases ht:t<0
 ·have e3:aN.p (.str (Str.ofString "-")) (.str (tS (t.natAbs:Int)))=some (.str (tS t)):=by
   rw[g9 ht];exact bS (by rw[ds_len];ext)
  by_cases hb1:b=1
  ·simp[ix0,ixb,g8,q1,PR.bl,ht,e3,hb1,txt]
  ·simp[ix0,ixb,g8,q1,PR.bl,ht,e3,hb1,txt,e1,q2,e2]
 ·have e3:((t.natAbs:Int))=t:=by ext
  rw[e3] at q1;by_cases hb1:b=1
  ·simp[ix0,ixb,g8,e3,q1,PR.bl,ht,hb1,txt]
  ·simp[ix0,ixb,g8,e3,q1,PR.bl,ht,hb1,txt,e1,q2,e2]
def bK(x:String):PyData.strOk (Str.ofString x)=true:=by
 unfold PyData.strOk;rw[Str.ofString_eq_toList];simp only[List.all_toArray,qbn,qau,decide_eq_true_eq];rintro n ⟨c,_,rfl⟩
 have:=c.valid
 show c.val.toNat<1114112;rcases this with h|h
 ·have:c.val.toNat<55296:=h
  ext
 ·have:c.val.toNat<1114112:=h.2
  ext
def eE{x y:Str}(hx:PyData.strOk x=true)(hy:PyData.strOk y=true):PyData.strOk (x++y)=true:=by
 unfold PyData.strOk at hx hy ⊢;show (x.cps++y.cps).all _=true;rw[Array.all_append,hx,hy];rfl
def kQ(t b:Int):PyData.strOk (txt t b)=true:=by
 unfold txt;split
 ·exact bK _
 ·exact eE (eE (bK _) (bK _)) (bK _)
def jF{z:Str}(hz:PyData.strOk z=true):∀ts:List Str,(∀x∈ts,PyData.strOk x=true)->PyData.strOk (Txt.join z ts)=true:=by
 intro ts h;show PyData.strOk (Builtin.Str.glued z ts)=true;rw[StrLaws.glued_eq_join]
 induction ts with
 | nil=>show PyData.strOk Str.empty=true;simp[PyData.strOk,Str.empty]
 | cons x ts ih =>
  cases ts with
  | nil=>exact h x (by simp)
  | cons y ts=>exact eE (eE (h x (by simp)) hz) (ih fun w hw=>h w (qab _ hw))
def ld{neg:Bool}{x y:Str}(hx:PyData.strOk x=true)(hy:PyData.strOk y=true):eqD neg (.str x) (.str y)=some (.bl (if neg then !decide (x=y) else decide (x=y))):=by
 simp[eqD,py,dep,SeqAt.shaped,PyData.canLay0,PyData.depth,PyData.eqv,hx,hy,Bool.beq_eq_decide_eq]
abbrev Prt:=Int × Int × Int
abbrev partD(p:Prt):D:=.tup [.int p.1,nD p.2.1 p.2.2]
def ir(p:Prt):Prop:=0<=p.1/\p.1<13/\Six p.2.1 p.2.2
abbrev eqS:Str:=Str.ofString "="
abbrev spS:Str:=Str.ofString " "
abbrev nlS:Str:=Str.ofString "\n"
abbrev coS:Str:=Str.ofString ":"
abbrev baS:Str:=Str.ofString "|"
def ak(p:Prt):Str:=tS p.1++eqS++txt p.2.1 p.2.2
def d3{t b:Int}(h:Six t b):t.natAbs<10 ^ 60/\b.natAbs<10 ^ 60:=⟨h.1,by have:=h.2.1;have:=h.2.2.1;ext⟩
def oG:eqS.length=1:=jY rfl
def kC:spS.length=1:=jY rfl
def kT:nlS.length=1:=jY rfl
def o5:coS.length=1:=jY rfl
def ba_len:baS.length=1:=jY rfl
def jI{t b:Int}(h:Six t b):(txt t b).length<=123:=txt_len (k:=60) (by decide) (d3 h).1 (d3 h).2
def lj{i:Int}(h0:0<=i)(h1:i<100):(tS i).length<=3:=cr (k:=2) (by decide) (by ext)
def km{p:Prt}(h:ir p):(ak p).length<=130:=by
 obtain⟨h1,h2,h3⟩:=h
 have:=jI h3
 have:=lj h1 (by ext)
 unfold ak;rw[strLen_append,strLen_append,oG];ext
def qT(p:Prt):PyData.strOk (ak p)=true:=eE (eE (bK _) (bK _)) (kQ _ _)
def ou{i:Int}(h0:0<=i)(h1:i<100):i.natAbs<10 ^ 60:=by
 have e:1000001<=10 ^ 60:=by decide +kernel
 ext
def wD:D->D
 | .tup [.int j,.tup [.int t,.int b]]=>.str (ak (j,t,b))
 | d=>d
def l0(ps:List Prt):((ps.map partD).filter fun _=>true).map wD=(ps.map ak).map .str:=by
 rw[gE,qaE,qaE];rfl
def nM{p:Prt}(h:ir p):dC.p [.int p.1]=some (.str (tS p.1))/\aN.p (.str (tS p.1)) (.str eqS)=some (.str (tS p.1++eqS))/\aN.p (.str (tS p.1++eqS)) (.str (txt p.2.1 p.2.2))=some (.str (ak p)):=by
 obtain⟨h1,h2,h3⟩:=h;have z:=szL;have a:=jI h3;have b:=lj h1 (by ext);refine⟨fY (ou h1 (by ext)),bS (by rw[oG];ext),bS (by rw[strLen_append,oG];ext)⟩
def iT{ps:List Prt}{s:Pen}(hl:ps.length<=13)(h:∀p∈ps,ir p):bQ.p [.tup (ps.map partD)] s=.ok (.lst ((ps.map ak).map .str)) s:=by
 rw[mV (by rfl)];unfold cV
 rw[show dSt 1 [D.tup (ps.map partD)]=[some (.tup (ps.map partD))] from rfl,aX,kN (ds:=ps.map partD) (fun _=>true) wD (by rfl) (by simp;ext) (fun x hx=>by
  obtain⟨p,hp,rfl⟩:=qau.mp hx;obtain⟨e1,e2,e3⟩:=nM (h p hp);obtain⟨a,b⟩:=d3 (h p hp).2.2;refine⟨.int p.1,nD p.2.1 p.2.2,rfl,rfl,fun _=>?_⟩;dsimp![aJ,bu,av,e1,aV,bi,e2,aH,fA a (h p hp).2.2.2.1 b,e3]
  rfl),l0]
 rfl
def mG{ps:List Prt}{s:Pen}(hl:ps.length<=13)(h:∀p∈ps,ir p):cX.p [.tup (ps.map partD)] s=.ok (.lst ((ps.map ak).map .str)) s:=by
 rw[su (by rfl)];unfold fe
 rw[show dSt 1 [D.tup (ps.map partD)]=[some (.tup (ps.map partD))] from rfl,aX,kN (ds:=ps.map partD) (fun _=>true) wD (by rfl) (by simp;ext) (fun x hx=>by
  obtain⟨p,hp,rfl⟩:=qau.mp hx;obtain⟨e1,e2,e3⟩:=nM (h p hp);obtain⟨a,b⟩:=d3 (h p hp).2.2;refine⟨.int p.1,nD p.2.1 p.2.2,rfl,rfl,fun _=>?_⟩;dsimp![aJ,bu,av,e1,aV,bi,e2,aH,nB a b,e3]
  rfl),l0]
 rfl
def sum_le{ts:List Str}{c:Nat}(h:∀x∈ts,x.length<=c):(ts.map (·.length)).sum<=ts.length * c:=by
 induction ts with
 | nil=>simp
 | cons x ts ih =>
  have h1:=h x (by simp);have h2:=ih fun y hy=>h y (qab _ hy);simp only[qaJ,List.sum_cons,qaq,Nat.succ_mul];ext
def mr:∀ts:List Str,gH (ts.map .str)=some ts
 | []=>rfl
 | x::ts=>by simp[gH,mr ts]
def sE{z:Str}{ts:List Str}{c m:Nat}(h:∀x∈ts,x.length<=c)(hl:ts.length<=m):(ts.map (·.length)).sum+ts.length * z.length<=m * (c+z.length):=by
 have h1:=sum_le h;have h2:ts.length * (c+z.length)<=m * (c+z.length):=Nat.mul_le_mul_right _ hl;rw[Nat.mul_add] at h2;ext
def jn{z:Str}{ts:List Str}{c m:Nat}(h:∀x∈ts,x.length<=c)(hl:ts.length<=m)(hm:m * (c+z.length)<=1000000):sJoin.p z [.lst (ts.map .str)]=some (.str (Txt.join z ts)):=by
 show (match gH (ts.map .str) with | some ts=>if JoinOk z ts=true then some (D.str (Txt.join z ts)) else none | none=>none)=_;rw[mr];refine qae ?_;unfold JoinOk;rw[StrLaws.joinTotal]
 have:=sE (z:=z) h hl
 have:=szL
 simp only[Builtin.Str.tooLong,Bool.not_eq_true',decide_eq_false_iff_not];ext
def dH{z:Str}{ts:List Str}{c m:Nat}(h:∀x∈ts,x.length<=c)(hl:ts.length<=m):(Txt.join z ts).length<=m * (c+z.length):=by
 show (Builtin.Str.glued z ts).length<=_;rw[StrLaws.glued_eq_join];exact qav (StrLaws.join_length_le z ts) (sE h hl)
abbrev cQ(rs:List (List Prt)):List D:=rs.map fun ps=>.tup (ps.map partD)
abbrev bI(n:Nat)(rs:List (List Prt)):D:=.tup [.int n,.tup (cQ rs)]
def iS(ps:List Prt):Prop:=ps.length<=12/\∀p∈ps,ir p
def line(i:Int)(ps:List Prt):Str:=Txt.join spS ((tS i++coS)::ps.map ak)
def lines(rs:List (List Prt)):List Str:=rs.zipIdx.map fun p=>line (p.2:Int) p.1
def kx{i:Int}{ps:List Prt}(h0:0<=i)(h1:i<100)(h:iS ps):∀x∈(tS i++coS)::ps.map ak,x.length<=130:=fun x hx=>by
 rcases qag.mp hx with rfl|hx
 ·rw[strLen_append,o5];have:=lj h0 h1;ext
 ·obtain⟨p,hp,rfl⟩:=qau.mp hx;exact km (h.2 p hp)
def kf{i:Int}{ps:List Prt}(h:iS ps):((tS i++coS)::ps.map ak).length<=13:=by simp;exact h.1
def pC{i:Int}{ps:List Prt}(h0:0<=i)(h1:i<100)(h:iS ps):(line i ps).length<=1703:=by
 have:=dH (z:=spS) (kx h0 h1 h) (kf h)
 rw[kC] at this;exact this
def line_ok(i:Int)(ps:List Prt):PyData.strOk (line i ps)=true:=jF (bK _) _ fun x hx=>by
 rcases qag.mp hx with rfl|hx
 ·exact eE (bK _) (bK _)
 ·obtain⟨p,hp,rfl⟩:=qau.mp hx;exact qT p
def mf{i:Int}{ps:List Prt}(h0:0<=i)(h1:i<100)(h:iS ps):sJoin.p spS [.lst (((tS i++coS)::ps.map ak).map .str)]=some (.str (line i ps)) :=
 jn (kx h0 h1 h) (kf h) (by rw[kC];decide)
def gn{rs:List (List Prt)}{x:Str}(hx:x∈lines rs):∃(i:Nat) (ps:List Prt),x=line (i:Int) ps/\i<rs.length/\ps∈rs:=by
 unfold lines at hx;obtain⟨⟨ps,i⟩,hp,rfl⟩:=qau.mp hx
 have:=List.mem_zipIdx hp
 exact⟨i,ps,rfl,by ext,by rw[this.2.2];exact qbo _⟩
def ku(rs:List (List Prt)):Prop:=rs.length<=12/\∀ps∈rs,iS ps
def mQ{rs:List (List Prt)}(h:ku rs):∀x∈lines rs,x.length<=1703:=fun x hx=>by
 obtain⟨i,ps,rfl,h1,h2⟩:=gn hx;exact pC (by ext) (by have:=h.1;ext) (h.2 ps h2)
def eY{rs:List (List Prt)}:(lines rs).length=rs.length:=by simp[lines]
def kR{rs:List (List Prt)}(h:ku rs):sJoin.p nlS [.lst ((lines rs).map .str)]=some (.str (Txt.join nlS (lines rs))) :=
 jn (mQ h) (m:=12) (by rw[eY];exact h.1) (by rw[kT];decide)
def vc(rs:List (List Prt)):PyData.strOk (Txt.join nlS (lines rs))=true:=jF (bK _) _ fun x hx=>by
 obtain⟨i,ps,rfl,_⟩:=gn hx;exact line_ok _ _
def unD:D->Prt
 | .tup [.int j,.tup [.int t,.int b]]=>(j,t,b)
 | _=>(0,0,1)
def i3(ps:List Prt):(ps.map partD).map unD=ps:=by
 rw[qaE];exact (qaV (g:=id) fun _ _=>rfl).trans (List.map_id _)
def lD:D->D
 | .tup [.int i,.tup ds]=>.str (line i (ds.map unD))
 | d=>d
def t6(rs:List (List Prt)):((cz (cQ rs)).filter fun _=>true).map lD=(lines rs).map .str:=by
 rw[gE];unfold cz lines cQ;rw[List.zipIdx_map,qaE,qaE,qaE];refine qaV fun p _=>?_;show D.str (line (p.2:Int) ((p.1.map partD).map unD))=_;rw[i3];rfl
def ixT1{a b:D}:atI [a,b] 1=some b:=rfl
def ixT0{a b:D}:atI [a,b] 0=some a:=rfl
def qR{x:Str}{ts:List Str}(h:ts.length<=99):aN.p (.lst [.str x]) (.lst (ts.map .str))=some (.lst ((x::ts).map .str)):=by
 rw[oq,qA (by simp;ext)];rfl
def fs_p{i:Int}(h0:0<=i)(h1:i<100):(oFs coS).p (.int i)=some (.str (tS i++coS)):=by
 have a:(Str.ofString (toString i)).length<=3:=lj h0 h1;have z:=szL;have e:(oFs coS).p (.int i)=some (.str (Str.empty++tS i++coS)):=qae ⟨lg (ou h0 h1),by rw[gD];ext,by rw[strLen_append,gD,o5];ext⟩;rw[e,gD]
def nI{n:Nat}{rs:List (List Prt)}{s:Pen}(h:ku rs):bB.p [bI n rs] s=.ok (.str (Txt.join nlS (lines rs))) s:=by
 rw[mW (by rfl)];unfold de;rw[show dSt 1 [bI n rs]=[some (bI n rs)] from rfl,aX,cB,aV,Pb];show ((PR.bind ((aa _ xNil).p [some (bI n rs)] s) fun y s2=>PR.of (sJoin.p nlS y) s2).go _ _).fin=_
 rw[aj,kN (ds:=cz (cQ rs)) (fun _=>true) lD (by
  dsimp![f7,aJ,aV,aZ,gL,ixT1];rfl) (by have:=h.1;simp[cz];ext) (fun x hx=>by
  unfold cz at hx;obtain⟨⟨d,i⟩,hp,rfl⟩:=qau.mp hx;have hz:=List.mem_zipIdx hp;have hi:i<rs.length:=by have:=hz.2.1;simpa using this
  have hd:d∈cQ rs:=by rw[hz.2.2];exact qbo _
  obtain⟨ps,hps,rfl⟩:=qau.mp hd;have hk:=h.2 ps hps;have h12:=h.1;refine⟨.int (i:Int),.tup (ps.map partD),rfl,rfl,fun _=>?_⟩;have e1:=fs_p (i:=(i:Int)) (by ext) (by ext);have e2:=iT (s:=s) (ps:=ps) (by have:=hk.1;ext) hk.2;have e3:=qR (x:=tS (i:Int)++coS) (ts:=ps.map ak) (by have:=hk.1;simp;ext);have e4:=mf (i:=(i:Int)) (ps:=ps) (by ext) (by ext) hk;dsimp![cB,aV,bi,aJ,cI,gC,av,e1,qaq,qaB,show (0+1:Nat)<=100000 by decide,if_true,aH,e2,e3,e4];show PR.ok (D.str (line (i:Int) ps)) s=PR.ok (D.str (line (i:Int) ((ps.map partD).map unD))) s
  rw[i3]),t6]
 simp only[Pb,ar,kR h,Pf,Pg,PU.bP]
def l2D(rs:List (List Prt)):D->D
 | .int i=>.str (line i (rs.getD i.toNat []))
 | d=>d
def pJ{n:Nat}{rs:List (List Prt)}(h:rs.length=n):((cf 0 n).filter fun _=>true).map (l2D rs)=(lines rs).map .str:=by
 rw[gE];apply List.ext_getElem
 ·simp[lines,cf,h]
 ·intro i h1 h2;have hi:i<rs.length:=by simp[cf] at h1;ext
  simp[cf,lines,l2D,hi]
def m8{n:Nat}{rs:List (List Prt)}{s:Pen}(h:ku rs)(hn:rs.length=n):be.p [bI n rs] s=.ok (.lst ((lines rs).map .str)) s:=by
 have h12:=h.1;rw[kw (by rfl)];unfold bZ
 rw[show dSt 1 [bI n rs]=[some (bI n rs)] from rfl,aX,nk (ds:=cf 0 n) (fun _=>true) (l2D rs) (by
  dsimp![f7,aJ,aV,aZ,gL,ixT0]
  rw[nq (by ext),qaR];rfl) (by rw[iB];ext) (fun x hx=>by
  obtain⟨i,rfl,hi0,hi1⟩:=ve hx;obtain⟨k,rfl⟩:=gW hi0;have hk:k<rs.length:=by ext
  have hm:rs[k]∈rs:=qbo _;have hp:=h.2 _ hm;refine⟨rfl,fun _=>?_⟩;have e0:atI (cQ rs) (k:Int)=some (.tup (rs[k].map partD)):=L2.fM (by simp[hk]);have e1:dC.p [.int (k:Int)]=some (.str (tS (k:Int))):=fY (ou (by ext) (by ext))
  have e1':aN.p (.str (tS (k:Int))) (.str coS)=some (.str (tS (k:Int)++coS)):=bS (by
   have:=lj (i:=(k:Int)) (by ext) (by ext)
   have:=szL
   rw[o5];ext)
  have e2:=mG (s:=s) (ps:=rs[k]) (by have:=hp.1;ext) hp.2;have e3:=qR (x:=tS (k:Int)++coS) (ts:=rs[k].map ak) (by have:=hp.1;simp;ext);have e4:=mf (i:=(k:Int)) (ps:=rs[k]) (by ext) (by ext) hp;show (xSm sJoin (xC (.str spS)) _:Xe []).p [some (.int (k:Int)),some (bI n rs)] s=_;dsimp![cB,aV,bi,aZ,aJ,cI,bu,av,e1,e1',qaq,qaB,show (0+1:Nat)<=100000 by decide,if_true,aH,gL,ixT1,e0,e2,e3,e4];show PR.ok (D.str (line (k:Int) rs[k])) s=PR.ok (D.str (line (k:Int) (rs.getD (k:Int).toNat []))) s
  rw[qaR,qaF,qaA hk];rfl),pJ hn]
 simp only[Pg,PU.bP]
abbrev Rw:=List Prt × Int × Int
abbrev aY(r:Rw):D:=.tup [.tup (r.1.map partD),nD r.2.1 r.2.2]
def kg(r:Rw):Prop:=iS r.1/\Six r.2.1 r.2.2
def rline(r:Rw):Str:=Txt.join spS (r.1.map ak++[baS,txt r.2.1 r.2.2])
def jT{r:Rw}(h:kg r):∀x∈r.1.map ak++[baS,txt r.2.1 r.2.2],x.length<=130:=fun x hx=>by
 rcases qaL.mp hx with hx|hx
 ·obtain⟨p,hp,rfl⟩:=qau.mp hx;exact km (h.1.2 p hp)
 ·simp only[qag,qaG,or_false] at hx;rcases hx with rfl|rfl
  ·rw[ba_len];decide
  ·have:=jI h.2;ext
def je{r:Rw}(h:kg r):(r.1.map ak++[baS,txt r.2.1 r.2.2]).length<=14:=by
 have:=h.1.1
 simp;ext
def iV{r:Rw}(h:kg r):(rline r).length<=1834:=by
 have:=dH (z:=spS) (jT h) (je h)
 rw[kC] at this;exact this
def vE(r:Rw):PyData.strOk (rline r)=true:=jF (bK _) _ fun x hx=>by
 rcases qaL.mp hx with hx|hx
 ·obtain⟨p,hp,rfl⟩:=qau.mp hx;exact qT p
 ·simp only[qag,qaG,or_false] at hx;rcases hx with rfl|rfl
  ·exact bK _
  ·exact kQ _ _
def lv{r:Rw}(h:kg r):sJoin.p spS [.lst ((r.1.map ak++[baS,txt r.2.1 r.2.2]).map .str)]=some (.str (rline r)) :=
 jn (jT h) (je h) (by rw[kC];decide)
def t4{x y:Str}{ts:List Str}(h:ts.length<=99):aN.p (.lst (ts.map .str)) (.lst [.str x,.str y])=some (.lst ((ts++[x,y]).map .str)):=by
 rw[oq,qA (by simp;ext)];simp
def rD:D->D
 | .tup [.tup ds,.tup [.int t,.int b]]=>.str (rline (ds.map unD,t,b))
 | d=>d
def kO(rws:List Rw):((rws.map aY).filter fun _=>true).map rD=(rws.map rline).map .str:=by
 rw[gE,qaE,qaE];refine qaV fun r _=>?_;show D.str (rline ((r.1.map partD).map unD,r.2.1,r.2.2))=_;rw[i3];rfl
def o7(rws:List Rw):Prop:=rws.length<=20/\∀r∈rws,kg r
def mz{rws:List Rw}(h:o7 rws):sJoin.p nlS [.lst ((rws.map rline).map .str)]=some (.str (Txt.join nlS (rws.map rline))) :=
 jn (c:=1834) (m:=20) (fun x hx=>by obtain⟨r,hr,rfl⟩:=qau.mp hx;exact iV (h.2 r hr)) (by simp;exact h.1) (by rw[kT];decide)
def rows_ok(rws:List Rw):PyData.strOk (Txt.join nlS (rws.map rline))=true:=jF (bK _) _ fun x hx=>by
 obtain⟨r,_,rfl⟩:=qau.mp hx;exact vE r
def pW{rws:List Rw}{s:Pen}(h:o7 rws):bL.p [.lst (rws.map aY)] s=.ok (.str (Txt.join nlS (rws.map rline))) s:=by
 rw[oo (by rfl)];unfold dj;rw[show dSt 1 [D.lst (rws.map aY)]=[some (.lst (rws.map aY))] from rfl,aX,cB,aV,Pb];show ((PR.bind ((aa _ xNil).p [some (.lst (rws.map aY))] s) fun y s2=>PR.of (sJoin.p nlS y) s2).go _ _).fin=_
 rw[aj,kN (ds:=rws.map aY) (fun _=>true) rD (by rfl) (by have:=h.1;simp;ext) (fun x hx=>by
  obtain⟨r,hr,rfl⟩:=qau.mp hx;have hk:=h.2 r hr;obtain⟨a,b⟩:=d3 hk.2;refine⟨.tup (r.1.map partD),nD r.2.1 r.2.2,rfl,rfl,fun _=>?_⟩;have e2:=iT (s:=s) (ps:=r.1) (by have:=hk.1.1;ext) hk.1.2;have e3:=t4 (x:=baS) (y:=txt r.2.1 r.2.2) (ts:=r.1.map ak) (by have:=hk.1.1;simp;ext);have e4:=lv hk;dsimp![cB,aV,bi,aJ,cI,av,qaq,qaB,show (0+1+1:Nat)<=100000 by decide,if_true,aH,e2,fA a hk.2.2.1 b,e3,e4];show PR.ok (D.str (rline r)) s=PR.ok (D.str (rline ((r.1.map partD).map unD,r.2.1,r.2.2))) s
  rw[i3]),kO]
 simp only[Pb,ar,mz h,Pf,Pg,PU.bP]
def oT{rws:List Rw}{s:Pen}(h:o7 rws):bh.p [.lst (rws.map aY)] s=.ok (.lst ((rws.map rline).map .str)) s:=by
 rw[lq (by rfl)];unfold cq
 rw[show dSt 1 [D.lst (rws.map aY)]=[some (.lst (rws.map aY))] from rfl,aX,kN (ds:=rws.map aY) (fun _=>true) rD (by rfl) (by have:=h.1;simp;ext) (fun x hx=>by
  obtain⟨r,hr,rfl⟩:=qau.mp hx;have hk:=h.2 r hr;obtain⟨a,b⟩:=d3 hk.2;refine⟨.tup (r.1.map partD),nD r.2.1 r.2.2,rfl,rfl,fun _=>?_⟩;have e2:=mG (s:=s) (ps:=r.1) (by have:=hk.1.1;ext) hk.1.2;have e3:=t4 (x:=baS) (y:=txt r.2.1 r.2.2) (ts:=r.1.map ak) (by have:=hk.1.1;simp;ext);have e4:=lv hk;dsimp![cB,aV,bi,aJ,cI,av,qaq,qaB,show (0+1+1:Nat)<=100000 by decide,if_true,aH,e2,nB a b,e3,e4];show PR.ok (D.str (rline r)) s=PR.ok (D.str (rline ((r.1.map partD).map unD,r.2.1,r.2.2))) s
  rw[i3]),kO]
 simp only[Pg,PU.bP]
def td{g:D->am->Option am}{t:am->Pen->PR Bool}{e:am->Pen->PR D}(S:am->Prop)(P:D->Prop):∀(ds:List D) (env:am) (s:Pen),S env ->
  (∀x∈ds,∀env s,S env->∃env1,g x env=some env1/\S env1/\t env1 s=.ok true s/\∃y s2,e env1 s=.ok y s2/\P y)->∃r s',cj g t e ds env s=.ok r s'/\r.length=ds.length/\∀y∈r,P y:=by
 intro ds
 induction ds with
 | nil=>intro env s hS body;exact⟨[],s,rfl,rfl,by simp⟩
 | cons x ds ih =>
  intro env s hS body;obtain⟨env1,e1,hS1,e2,y,s2,e4,py⟩:=body x (by simp) env s hS;obtain⟨r,s3,e5,hl,hr⟩:=ih env1 s2 hS1 fun y hy=>body y (qab x hy);refine⟨y::r,s3,?_,by simp[hl],fun z hz=>?_⟩
  ·rw[cj,e1];dsimp only;rw[e2,Pb];simp only[if_true,e4,Pb,e5]
  ·rcases qag.mp hz with rfl|hz
   ·exact py
   ·exact hr z hz
def t9{ws ws':List Nat}{env:am}{s s0:Pen}{fm:List Nat}{i:Xi ws}{e:Xe ws'}{ds:List D}(P:D->Prop)(ei:i.p env s=.ok ds s0)(hl:ds.length<=100000)
  (body:∀x∈ds,∀s,∃y s2,e.p (some x::fm.map fun i=>(env[i]?).getD none) s=.ok y s2/\P y) (h0:ws'.contains 0=false:=by exact ys rfl) (hw:cws 1 fm ws=ws':=by exact ys rfl) (hz:e.fz=true:=by exact ys rfl) :
  ∃r s',(bD 1 fm i (xNm 0 h0) xTrue e hw hz).p env s=.ok (.lst r) s'/\r.length=ds.length/\∀y∈r,P y:=by
 obtain⟨r,s',e1,h1,h2⟩:=td (g:=(xNm 0 h0:Xg ws').p) (t:=(xTrue:Xt ws').p) (e:=e.p) (fun v=>∃z,v=z::fm.map fun i=>(env[i]?).getD none) P ds (cenv 1 fm env) s0 ⟨none,rfl⟩ fun x hx env' s ⟨z,hz⟩=>by
  subst hz;obtain⟨y,s1,e2,e3⟩:=body x hx s;exact⟨_,rfl,⟨some x,rfl⟩,rfl,y,s1,e2,e3⟩
 refine⟨r,s',?_,h1,h2⟩;rw[jG,ei,Pb,qae hl,e1]
def of_all{α:Type}{f:α->D}{Q:α->Prop}:∀{ys:List D},(∀y∈ys,∃p,y=f p/\Q p)->∃ps:List α,ys=ps.map f/\∀p∈ps,Q p:=by
 intro ys
 induction ys with
 | nil=>intro _;exact⟨[],rfl,by simp⟩
 | cons y ys ih =>
  intro h;obtain⟨ps,e,hp⟩:=ih fun y hy=>h y (qab _ hy);obtain⟨p,rfl,h1⟩:=h y (by simp);refine⟨p::ps,by rw[e];rfl,fun k hk=>?_⟩;rcases qag.mp hk with rfl|hk
  ·exact h1
  ·exact hp k hk
def any_p{f:Bool}{s:Pen}:∃t b s',cL.p [.pen,.bl f] s=.ok (nD t b) s'/\Six t b/\t≠0:=by
 cases f with
 | true =>
  obtain⟨t,b,s1,q,h⟩:=far_p (s:=s);refine⟨t,b,s1,?_,h⟩;rw[oX (by rfl)];unfold fJ;rw[show dSt 2 [D.pen,.bl true]=[some .pen,some (.bl true)] from rfl];simp[q,lB]
 | false =>
  obtain⟨t,b,s1,q,h⟩:=ux (s:=s);refine⟨t,b,s1,?_,h⟩;rw[oX (by rfl)];unfold fJ;rw[show dSt 2 [D.pen,.bl false]=[some .pen,some (.bl false)] from rfl];simp[q,lB]
structure Row (n:Int) (ps:List Prt):Prop where
 ris:ps.Pairwise fun p q=>p.1<q.1
 len:(ps.length:Int)<=n
 mem:∀p∈ps,0<=p.1/\p.1<n/\Six p.2.1 p.2.2/\p.2.1≠0
def Row.ok{n:Int}{ps:List Prt}(h:Row n ps)(hn:n<=12):iS ps:=⟨by have:=h.len;ext,fun p hp=>⟨(h.mem p hp).1,by have:=(h.mem p hp).2.1;ext,(h.mem p hp).2.2.1⟩⟩
def rngD_c(lo:Int)(c:Nat):cf lo (c+1)=.int lo::cf (lo+1) c:=by
 unfold cf;rw[qbI,qaJ,qaE];refine congr (congrArg _ (by simp)) (qaV fun i _=>?_);show D.int _=D.int _;congr 1;simp;ext
def lC{k:Int}{f:Bool}(k0:0<k)(k4:k<=4):∀(c:Nat) (lo:Int) (z:Option D) (s:Pen),∃(ps:List Prt) (s':Pen),cj (xNm 0:Xg []).p (xB (af oEq (ah aK (aa (ab 1) (aa (ab 3) xNil))) (xC (.int 0))):Xt []).p (bV (aa (ab 0) (aa (ah cL (aa (ab 1) (aa (ab 2) xNil))) xNil)):Xe []).p (cf lo c) [z,some .pen,some (.bl f),some (.int k)] s=.ok (ps.map partD) s' /\
  ps.Pairwise (fun p q=>p.1<q.1)/\ps.length<=c/\∀p∈ps,lo<=p.1/\p.1<lo+c/\Six p.2.1 p.2.2/\p.2.1≠0
 | 0,lo,z,s=>⟨[],s,rfl,.nil,by simp,by simp⟩
 | c+1,lo,z,s=>by
  obtain⟨d,s1,d0,d1,q1⟩:=bE (s:=s) (size:=k) k0 (by ext);have e1:(xNm 0:Xg []).p (.int lo) [z,some .pen,some (.bl f),some (.int k)]=some [some (.int lo),some .pen,some (.bl f),some (.int k)]:=rfl;have e2:(xB (af oEq (ah aK (aa (ab 1) (aa (ab 3) xNil))) (xC (.int 0))):Xt []).p [some (.int lo),some .pen,some (.bl f),some (.int k)] s=.ok (decide (d=0)) s1:=by
   simp[q1,oEq,PR.bl]
  rw[rngD_c,cj,e1];dsimp only;rw[e2,Pb];by_cases zd:d=0
  ·obtain⟨t,b,s2,q2,nm⟩:=any_p (f:=f) (s:=s1);obtain⟨ps,s3,q3,ri,le,me⟩:=lC k0 k4 c (lo+1) (some (.int lo)) s2;have e3:(bV (aa (ab 0) (aa (ah cL (aa (ab 1) (aa (ab 2) xNil))) xNil)):Xe []).p [some (.int lo),some .pen,some (.bl f),some (.int k)] s1=.ok (partD (lo,t,b)) s2:=by
    simp[q2,partD]
   refine⟨(lo,t,b)::ps,s3,by rw[decide_eq_true zd,qae rfl,e3,Pb,q3,Pb];rfl,qbk.mpr ⟨fun p hp=>by have:=(me p hp).1;show lo<p.1;ext,ri⟩,by simp;ext,fun p hp=>?_⟩;rcases qag.mp hp with rfl|hp
   ·exact⟨by simp,by show lo<_;ext,nm⟩
   ·have:=me p hp;exact⟨by ext,by ext,this.2.2⟩
  ·obtain⟨ps,s3,q3,ri,le,me⟩:=lC k0 k4 c (lo+1) (some (.int lo)) s1;refine⟨ps,s3,by rw[decide_eq_false zd,qat (by simp),q3],ri,by ext,fun p hp=>?_⟩
   have:=me p hp;exact⟨by ext,by ext,this.2.2⟩
def qS{n:Nat}{f:Bool}{s:Pen}(hn:n<=12):∃ps s',bN.p [.pen,.int (n:Int),.bl f] s=.ok (.tup (ps.map partD)) s'/\Row n ps:=by
 obtain⟨d,s1,d0,d1,q1⟩:=bE (s:=s) (size:=4) (by decide) (by decide);obtain⟨ps,s2,q2,ri,le,me⟩:=lC (k:=1+d) (f:=f) (by ext) (by ext) n 0 none s1;refine⟨ps,s2,?_,ri,by ext,fun p hp=>?_⟩
 ·rw[sx (by rfl)];unfold fg;rw[show dSt 4 [D.pen,.int (n:Int),.bl f]=[some .pen,some (.int (n:Int)),some (.bl f),none] from rfl];dsimp![aQ,bc,aJ,aV,aZ,aH,q1,nE,Pg,qan,qao,PU.az,aX,bu];rw[jG,f7,aj,av,al,Pb,ar,Pb,Pb,nq (by ext),qaR,Pf,Pb,qae (by unfold cf;simp;ext)];rw[show cenv 1 [0,2,3] [some D.pen,some (.int (n:Int)),some (.bl f),some (.int (1+d))]=[none,some .pen,some (.bl f),some (.int (1+d))] from rfl,q2];simp
 ·have:=me p hp
  exact⟨this.1,by ext,this.2.2⟩
def sheet_p{f:Bool}{s:Pen}:∃n rs s',cv.p [.pen,.bl f] s=.ok (bI n rs) s'/\(∀ps∈rs,Row n ps)/\n<=12/\rs.length=n:=by
 obtain⟨a,s1,a0,a1,q1⟩:=bE (s:=s) (size:=13) (by decide) (by decide);obtain⟨b,s2,b0,b1,q2⟩:=bE (s:=s1) (size:=8) (by decide) (by decide);obtain⟨n,en,hn⟩:∃n:Nat,atI [D.int a,.int b] (if f then 1 else 0)=some (.int (n:Int))/\n<=12:=by
  cases f with
  | false=>obtain⟨n,rfl⟩:=gW a0;exact⟨n,rfl,by ext⟩
  | true=>obtain⟨n,rfl⟩:=gW b0;exact⟨n,rfl,by ext⟩
 obtain⟨r,s4,q4,hl,hr⟩:=t9 (ws:=[]) (ws':=[]) (env:=[some .pen,some (.bl f),some (.int (n:Int))]) (s:=s2) (s0:=s2) (fm:=[0,2,1]) (i:=fw iR1 (aa (ab 2) xNil))
  (e:=ah bN (aa (ab 1) (aa (ab 2) (aa (ab 3) xNil)))) (ds:=cf 0 n) (fun y=>∃ps:List Prt,y=.tup (ps.map partD)/\Row n ps) (by
   simp only[f7,aj,al,av,Pb,ar]
   rw[nq (by ext),qaR];rfl) (by rw[iB];ext) (fun x hx s=>by
   obtain⟨ps,s5,q5,hp⟩:=qS (f:=f) (s:=s) hn;refine⟨.tup (ps.map partD),s5,?_,ps,rfl,hp⟩;show (ah bN (aa (ab 1) (aa (ab 2) (aa (ab 3) xNil))):Xe []).p [some x,some .pen,some (.int (n:Int)),some (.bl f)] s=_
   simp[q5])
 obtain⟨rs,rfl,hp⟩:=of_all hr;have el:rs.length=n:=by rw[iB,qaS] at hl;exact hl
 refine⟨n,rs,s4,?_,hp,hn,el⟩;rw[rT (by rfl)];unfold fh;rw[show dSt 3 [D.pen,.bl f]=[some .pen,some (.bl f),none] from rfl];have ci:jX.p [.bl f]=some (.int (if f then 1 else 0)):=rfl;simp![aQ,bc,aJ,cI,aV,aZ,aH,q1,q2,qaq,qaB,show (0+1+1:Nat)<=100000 by decide,if_true,ci,kJ,en,aX,i4,bu];rw[q4];simp
def RwR(n:Int)(r:Rw):Prop:=Row n r.1/\Six r.2.1 r.2.2
def rows_p{n:Nat}{f:Bool}{s:Pen}(hn:n<=12):∃(rws:List Rw) (s':Pen),cW.p [.pen,.int (n:Int),.bl f] s=.ok (.lst (rws.map aY)) s'/\rws.length<=20/\∀r∈rws,RwR n r:=by
 obtain⟨a,s1,a0,a1,q1⟩:=bE (s:=s) (size:=6) (by decide) (by decide);obtain⟨b,s2,b0,b1,q2⟩:=bE (s:=s1) (size:=21) (by decide) (by decide);obtain⟨c,s3,c0,c1,q3⟩:=bE (s:=s2) (size:=3) (by decide) (by decide);obtain⟨e,s3',e0,e1,q3'⟩:=bE (s:=s3) (size:=5) (by decide) (by decide);obtain⟨v,ev,v0,v1⟩:∃m:Int,atI [D.int a,.int 20,.int b] c=some (.int m)/\0<=m/\m<=20:=by
  obtain rfl|rfl|rfl:c=0\/c=1\/c=2:=by ext
  ·exact⟨a,rfl,a0,by ext⟩
  ·exact⟨20,rfl,by ext,by ext⟩
  ·exact⟨b,rfl,b0,by ext⟩
 obtain⟨m,em,hm⟩:∃m:Nat,atI [D.int v,.int e] (if f then 1 else 0)=some (.int (m:Int))/\m<=20:=by
  cases f with
  | false=>obtain⟨n,rfl⟩:=gW v0;exact⟨n,rfl,by ext⟩
  | true=>obtain⟨n,rfl⟩:=gW e0;exact⟨n,rfl,by ext⟩
 obtain⟨env',s4,q4,z1,z2,rws,hE,hlen,hok⟩:=jp (g:=(xNm 5:Xg [4]).p) (b:=(aq (aD 6 (ah cL (aa (ab 0) (aa (ab 2) xNil))))
   (aq (xIf (xB (af oEq (ah aK (aa (ab 0) (aa (xC (.int 4)) xNil))) (xC (.int 0)))) (aD 6 (bV (aa (xC (.int 0)) (aa (xC (.int 1)) xNil)))) xSkip)
   (xMt aAppend 4 (aa (bV (aa (ah bN (aa (ab 0) (aa (ab 1) (aa (ab 2) xNil)))) (aa (ab 6) xNil))) xNil))):Xd [4]).p)
  (fun j env _=>∃z1 z2,∃rws:List Rw,env=[some .pen,some (.int (n:Int)),some (.bl f),some (.int (m:Int)),some (.lst (rws.map aY)),z1,z2]/\rws.length=j/\∀r∈rws,RwR n r) (cf 0 m) 0 [some .pen,some (.int (n:Int)),some (.bl f),some (.int (m:Int)),some (.lst []),none,none] s3' ⟨none,none,[],rfl,rfl,by simp⟩ (fun j env s d ⟨z1,z2,rws,hE,hlen,hok⟩ hd=>by
   subst hE;obtain⟨rfl,hj⟩:=uu hd;obtain⟨t,b,s5,q5,h6⟩:=any_p (f:=f) (s:=s);obtain⟨g,s6,g0,g1,q6⟩:=bE (s:=s5) (size:=4) (by decide) (by decide);obtain⟨ps,s7,q7,hp⟩:=qS (f:=f) (s:=s6) hn;obtain⟨t',b',et,h6'⟩:∃t' b':Int,(if g=0 then nD 0 1 else nD t b)=nD t' b'/\Six t' b':=by
    split
    ·exact⟨0,1,rfl,by decide,by decide,by decide,by decide⟩
    ·exact⟨t,b,rfl,h6.1⟩
   refine⟨[some .pen,some (.int (n:Int)),some (.bl f),some (.int (m:Int)),some (.lst (rws.map aY)),some (.int (j:Int)),z2],[some .pen,some (.int (n:Int)),some (.bl f),some (.int (m:Int)),some (.lst ((rws++[(ps,t',b')]).map aY)),some (.int (j:Int)),some (nD t' b')],s7,rfl,?_,_,_,rws++[(ps,t',b')],rfl,by simp[hlen],fun r hr=>?_⟩
   ·have e1:(xIf (xB (af oEq (ah aK (aa (ab 0) (aa (xC (.int 4)) xNil))) (xC (.int 0)))) (aD 6 (bV (aa (xC (.int 0)) (aa (xC (.int 1)) xNil)))) xSkip:Xd [4]).p [some .pen,some (.int (n:Int)),some (.bl f),some (.int (m:Int)),some (.lst (rws.map aY)),some (.int (j:Int)),some (nD t b)] s5=.nx [some .pen,some (.int (n:Int)),some (.bl f),some (.int (m:Int)),some (.lst (rws.map aY)),some (.int (j:Int)),some (nD t' b')] s6:=by
     by_cases z:g=0
     ·rw[qae z] at et;simp[q6,PR.bl,z,<-et]
     ·rw[qat z] at et;simp[q6,PR.bl,z,<-et]
    simp only[aQ,bc,aH,aj,al,av,ar,Pb,q5,Pg,qan,qao,PU.az]
    rw[e1,PU.az,jL (s1:=s7) (as:=[aY (ps,t',b')]) (ds:=rws.map aY) (ds':=(rws++[(ps,t',b')]).map aY) (r:=.non) (by simp[q7]) rfl (by
     rw[gr (by simp;ext)];simp)]
    rfl
   ·rcases qaL.mp hr with hr|hr
    ·exact hok r hr
    ·have:r=(ps,t',b'):=by simpa using hr
     subst this
     exact⟨hp,h6'⟩)
 rw[iB,qbx] at hlen;subst hE;refine⟨rws,s4,?_,by ext,hok⟩;rw[sT (by rfl)];unfold gh;rw[show dSt 7 [D.pen,.int (n:Int),.bl f]=[some .pen,some (.int (n:Int)),some (.bl f),none,none,none,none] from rfl];simp![aQ,bc,js,lh,aJ,cI,aV,aZ,aH,q1,q2,q3,q3',bu,show jX.p [.bl f]=some (.int (if f then 1 else 0)) from rfl,show (0+1+1:Nat)<=100000 by decide,ev,qaq,qaB,show (0+1+1+1:Nat)<=100000 by decide,qaO,if_true,kJ,em,pk,f7];rw[nq (by ext),qaR,Pf,Pg];refine (congrArg (fun z:PS=>(z.then _).fin) q4).trans ?_;rw[PU.az,qe (d:=.lst (rws.map aY)) rfl,PU.bP]
abbrev sg(c:Nat):Str:=⟨#[c]⟩
def cu(x y:Str):(x++y).cps.toList=x.cps.toList++y.cps.toList:=by
 show (x.cps++y.cps).toList=_;simp
def jk{x y:Str}(h:x.cps.toList=y.cps.toList):x=y:=by
 cases x;cases y;simp only[Str.mk.injEq];exact Array.toList_inj.mp h
def kK(c:Nat):∀l:List Nat,0<=PyProof.Rows.cnt c l
 | []=>by rw[PyProof.Rows.cnt_nil];exact Int.le_refl _
 | a::l=>by
  have:=kK c l
  rw[PyProof.Rows.cnt_cons]
  split <;> ext
def cnt0{c:Nat}:∀{l:List Nat},PyProof.Rows.cnt c l=0↔c∉l
 | []=>by simp[PyProof.Rows.cnt_nil]
 | a::l=>by
  have h:=cnt0 (c:=c) (l:=l);have n:=kK c l;rw[PyProof.Rows.cnt_cons,qag];by_cases z:a=c
  ·rw[qae z];exact⟨fun e=>by ext,fun e=>absurd (.inl z.symm) e⟩
  ·rw[qat z,Int.zero_add,h];exact⟨fun e q=>q.elim (fun q=>z q.symm) e,fun e q=>e (.inr q)⟩
def qO{c:Nat}:∀{a b U W:List Nat},c∉a->c∉b->a++c::U=b++c::W->a=b/\U=W
 | [],[],U,W,_,_,e=>by simpa using e
 | [],y::b,U,W,_,hb,e=>by simp at e;exact absurd (by simp[e.1]) hb
 | x::a,[],U,W,ha,_,e=>by simp at e;exact absurd (by simp[e.1]) ha
 | x::a,y::b,U,W,ha,hb,e=>by
  simp only[List.cons_append,List.cons.injEq] at e;obtain⟨h1,h2⟩:=qO (fun z=>ha (qab _ z)) (fun z=>hb (qab _ z)) e.2;exact⟨by rw[e.1,h1],h2⟩
def nr(z x y:Str)(ts:List Str):Str.join z (x::y::ts)=x++z++Str.join z (y::ts):=rfl
def iN(c:Nat)(ts:List Str):Int:=(ts.map fun t=>PyProof.Rows.cnt c t.cps.toList).sum
def gw(c:Nat)(t:Str)(ts:List Str):iN c (t::ts)=PyProof.Rows.cnt c t.cps.toList+iN c ts:=by simp[iN]
def qz(c:Nat):∀ts:List Str,0<=iN c ts
 | []=>Int.le_refl _
 | t::ts=>by
  have:=qz c ts
  have:=kK c t.cps.toList
  rw[gw];ext
def k7{c:Nat}:∀{ts:List Str},iN c ts=0↔∀t∈ts,c∉t.cps.toList
 | []=>by simp[iN]
 | t::ts=>by
  have h:=k7 (c:=c) (ts:=ts);have h1:=qz c ts;have h2:=kK c t.cps.toList;have h3:=cnt0 (c:=c) (l:=t.cps.toList);rw[gw,List.forall_mem_cons,<-h,<-h3];ext
def iM(c:Nat):∀(t:Str) (ts:List Str),PyProof.Rows.cnt c (Str.join (sg c) (t::ts)).cps.toList=iN c (t::ts)+ts.length
 | t,[]=>by
  show PyProof.Rows.cnt c t.cps.toList=_;rw[gw];simp[iN]
 | t,u::ts=>by
  rw[nr,cu,cu,PyProof.Rows.cnt_append,PyProof.Rows.cnt_append,iM c u ts,gw c t,show PyProof.Rows.cnt c (sg c).cps.toList=1 by
   show PyProof.Rows.cnt c [c]=1
   rw[PyProof.Rows.cnt_cons,PyProof.Rows.cnt_nil,qae rfl];rfl]
  simp only[qaq];ext
def og{c:Nat}:∀(ts us:List Str),ts.length=us.length->(∀t∈ts,c∉t.cps.toList)->(∀t∈us,c∉t.cps.toList)->Str.join (sg c) ts=Str.join (sg c) us->ts=us
 | [],[],_,_,_,_=>rfl
 | [],_::_,e,_,_,_=>by cases e
 | _::_,[],e,_,_,_=>by cases e
 | [t],[u],_,_,_,e=>by rw[show t=u from e]
 | [t],u::v::us,e,_,_,_=>by simp at e
 | t::v::ts,[u],e,_,_,_=>by simp at e
 | t::t'::ts,u::u'::us,hl,h1,h2,e=>by
  rw[nr,nr] at e;have e':=congrArg (fun x:Str=>x.cps.toList) e;simp only[cu,qbA] at e';obtain⟨p,q⟩:=qO (U:=(Str.join (sg c) (t'::ts)).cps.toList) (W:=(Str.join (sg c) (u'::us)).cps.toList) (h1 t (by simp)) (h2 u (by simp)) e';rw[jk p,og (t'::ts) (u'::us) (by simpa using hl) (fun x hx=>h1 x (qab _ hx)) (fun x hx=>h2 x (qab _ hx)) (jk q)]
def rE{c:Nat}{ts:List Str}(h0:ts≠[])(hc:∀t∈ts,c∉t.cps.toList):Txt.split (Txt.join (sg c) ts) (sg c)=ts:=by
 have ej:Txt.join (sg c) ts=Str.join (sg c) ts:=StrLaws.glued_eq_join _ _;rw[ej];have e1:=StrLaws.join_split (Str.join (sg c) ts) (sg c);have e2:((Txt.split (Str.join (sg c) ts) (sg c)).length:Int)=1+PyProof.Rows.cnt c (Str.join (sg c) ts).cps.toList:=PyProof.Rows.split_len (Str.join (sg c) ts) c;obtain⟨t,r,rfl⟩:=qbt h0;rw[iM,k7.mpr hc] at e2;have hl:(Txt.split (Str.join (sg c) (t::r)) (sg c)).length=(t::r).length:=by
  simp only[qaq];ext
 generalize Txt.split (Str.join (sg c) (t::r)) (sg c)=us at *;obtain⟨u,us',rfl⟩:=qbt (l:=us) (by intro z;subst z;simp at hl);have e3:=iM c u us';rw[e1,iM,k7.mpr hc] at e3;have hz:iN c (u::us')=0:=by
  simp only[qaq] at hl;ext
 exact og _ _ hl (k7.mp hz) hc e1
def sub_l(a b:Str):Builtin.Str.strSub (a++b) 0 a.length=a:=by
 apply jk;rw[StrLaws.strSub_toList,cu];simp[Str.length]
def sub_r(a b:Str):Builtin.Str.strSub (a++b) a.length (a++b).length=b:=by
 apply jk;rw[StrLaws.strSub_toList,cu];simp[Str.length,show (a++b).cps=a.cps++b.cps from rfl];exact qbJ (by simp)
def at_app{c:Nat}{a b:List Nat}(h:c∉a){k:Nat}(hk:k<a.length):(a++b)[k]?≠some c:=fun e=>by
 rw[qai hk] at e;exact h (qaK e)
def jw{c:Nat}{a b:Str}(h:c∉a.cps.toList):Txt.partition (a++sg c++b) (sg c)=(a,sg c,b):=by
 have el:(a++sg c++b).cps.toList=a.cps.toList++(c::b.cps.toList):=by rw[cu,cu];simp
 have hi:(a++sg c++b).cps.toList[a.length]?=some c:=by rw[el];simp[Str.length]
 rcases PyProof.Rows.partition_whole (a++sg c++b) (sg c) with ⟨_,hn⟩|⟨i,hp,ha,hn⟩
 ·exact absurd ((StrLaws.subAt_one _ c _).mpr hi) (hn _)
 ·have e1:=(StrLaws.subAt_one _ c i).mp ha;have ei:i=a.length:=by
   rcases Nat.lt_trichotomy i a.length with z|z | z
   ·rw[el] at e1;exact absurd e1 (at_app h z)
   ·exact z
   ·exact absurd ((StrLaws.subAt_one _ c _).mpr hi) (hn _ z)
  subst ei;rw[hp];have s1:Builtin.Str.strSub (a++sg c++b) 0 a.length=a:=by rw[lp];exact sub_l _ _
  have s2:Builtin.Str.strSub (a++sg c++b) (a.length+(sg c).length) (a++sg c++b).length=b:=by
   have:=sub_r (a++sg c) b
   rw[strLen_append] at this;exact this
  rw[s1,s2]
def part_no{c:Nat}{a:Str}(h:c∉a.cps.toList):Txt.partition a (sg c)=(a,Str.empty,Str.empty):=by
 rcases PyProof.Rows.partition_whole a (sg c) with ⟨hp,_⟩|⟨i,hp,ha,hn⟩
 ·exact hp
 ·exact absurd (qaK ((StrLaws.subAt_one _ c i).mp ha)) h
abbrev gsT:Xt []:=xB (af oNe (ab 1) (xC (.int 0)))
abbrev gsB:Xd []:=(aq (aD 2 (af io (ab 0) (ab 1))) (aq (aD 0 (ab 1)) (aD 1 (ab 2))))
def gs1{x:Option D}{a b:Int}{n:Nat}{s:Pen}(hb:0<b):cA gsT.p gsB.p (n+1) [some (.int a),some (.int b),x] s=cA gsT.p gsB.p n [some (.int b),some (.int (a % b)),some (.int (a % b))] s:=by
 rw[cA];simp[oH hb,PR.bl,show ¬b=0 by ext]
def gs0{x:Option D}{a:Int}{n:Nat}{s:Pen}:cA gsT.p gsB.p (n+1) [some (.int a),some (.int 0),x] s=.nx [some (.int a),some (.int 0),x] s:=by
 rw[cA];simp[PR.bl]
def gs_run{s:Pen}:∀(k n:Nat) (a b:Int) (x:Option D),0<=a->0<=b->b<2 ^ k->2 * k+1<=n->∃x',cA gsT.p gsB.p n [some (.int a),some (.int b),x] s=.nx [some (.int (Int.gcd a b)),some (.int 0),x'] s:=by
 intro k
 induction k with
 | zero =>
  intro n a b x ha hb hk hn;obtain⟨m,rfl⟩:∃m,n=m+1:=⟨n - 1,by ext⟩
  have:b=0:=by simp at hk;ext
  subst this;exact⟨x,by rw[gs0,dL ha]⟩
 | succ k ih =>
  intro n a b x ha hb hk hn;obtain⟨m,rfl⟩:∃m,n=m+1+1:=⟨n - 2,by ext⟩;by_cases e:b=0
  ·subst e;exact⟨x,by rw[gs0,dL ha]⟩
  ·have hb':0<b:=by ext
   rw[gs1 hb',<-iD ha hb];have r0:=qbl a e;have r1:=qbb a hb';generalize a % b=r at r0 r1 ⊢;by_cases er:r=0
   ·subst er;exact⟨_,by rw[gs0,dL hb]⟩
   ·obtain⟨h0,h1,h2⟩:=o4 (b:=b) (r:=r) (by ext) r1;rw[gs1 (by ext),<-iD hb r0];refine ih m r (b % r) _ r0 h0 ?_ (by ext);rw[Int.pow_succ] at hk;ext
def pow_i{a k:Nat}(h:a<2 ^ k):((a:Nat):Int)<2 ^ k:=by
 have:=Int.ofNat_lt.mpr h
 simpa using this
def uz{a b k:Nat}{s:Pen}(hk:b<2 ^ k)(hc:k<=950000):bG.p [.int (a:Int),.int (b:Int)] s=.ok (.int (Nat.gcd a b:Int)) s:=by
 rw[i0 (by rfl)];unfold bF;obtain⟨x',q⟩:=gs_run (s:=s) k 2000000 (a:Int) (b:Int) none (by ext) (by ext) (pow_i hk) (by ext);rw[show dSt 3 [D.int (a:Int),.int (b:Int)]=[some (.int (a:Int)),some (.int (b:Int)),none] from rfl,aQ,rn hR];refine (congrArg (fun z:PS=>(z.then _).fin) q).trans ?_;simp
def qj{i:Int}{s:Pen}:bY.p [.int i] s=.ok (.bl true) s:=by
 rw[pX (by rfl)];unfold d5;have e1:(d7 ["int"]).p (.int i)=some (.bl true):=rfl;have e2:(d7 ["bool"]).p (.int i)=some (.bl false):=rfl;rw[show dSt 1 [D.int i]=[some (.int i)] from rfl];simp only[aX,hV,gC,al,Pb,e1,e2,Pf,PR.bl,if_true,xNotV_p,Bool.not_false,Pg,PU.bP]
open PySem.NumText in
theorem uh(n:Nat):AllDigits (dg n):=fun c hc=>jm hc
def k6(n:Nat):dg n≠[]:=fun e=>by
 have h:=toDigits_len_ge 10 n;unfold dg at e;rw[List.map_eq_nil_iff.mp e] at h;exact absurd h (by decide)
def c7(n:Nat):(tS (n:Int)).cps.toList=dg n:=by rw[sC]
def lx{t:Int}(h:t<0):(tS t).cps.toList=45::dg t.natAbs:=by rw[g9 h,cu,c7];rfl
def lG(t:Int){c:Nat}(h:c∈(tS t).cps.toList):c=45\/48<=c/\c<=57:=by
 by_cases ht:t<0
 ·rw[lx ht] at h;rcases qag.mp h with h|h
  ·exact .inl h
  ·exact .inr (jm h)
 ·obtain⟨n,rfl⟩:∃n:Nat,t=n:=⟨t.toNat,by ext⟩;rw[c7] at h;exact .inr (jm h)
def rR{t:Int}(h:t.natAbs<10 ^ 60):kD.p [.str (tS t)]=some (.int t):=by
 have hl:=cr (k:=60) (by decide) h;have e:PySem.intText? (tS t)=some t:=by
  by_cases ht:t<0
  ·rw[PySem.intText_neg (lx ht) (uh _) (k6 _) (by ext)];unfold dg;rw[PySem.W.KIN.val_back];congr 1;ext
  ·obtain⟨n,rfl⟩:∃n:Nat,t=n:=⟨t.toNat,by ext⟩
   have:=PySem.intText_digits (x:=tS (n:Int)) (by rw[c7];exact uh _) (by rw[c7];exact k6 _) (by ext)
   rw[c7] at this;rw[this];unfold dg;rw[PySem.W.KIN.val_back]
 show (match PySem.intText? (tS t) with | some n=>if (tS t).length<=640 then some (D.int n) else none | none=>none)=_;rw[e];exact qae (by ext)
def fig_in{c:Nat}(h:48<=c/\c<=57):(oInS false).p (.str ⟨#[c]⟩) (.str "0123456789")=some (.bl true):=by
 have:∀k,k<10->(!(PySem.Builtin.Str.occurrences (Str.ofString "0123456789") ⟨#[48+k]⟩ 0 (Str.ofString "0123456789").length 1).isEmpty)=true:=by decide +kernel
 have e:=this (c - 48) (by ext);rw[show 48+(c - 48)=c by ext] at e;show some (D.bl (!(PySem.Builtin.Str.occurrences (Str.ofString "0123456789") ⟨#[c]⟩ 0 (Str.ofString "0123456789").length 1).isEmpty))=_;rw[e]
def jc:∀(ds:List D),(∀d∈ds,d=.bl true)->iZ ds=some (ds.map fun _=>true)
 | [],_=>rfl
 | d::ds,h=>by
  rw[h d (by simp)];unfold iZ;rw[jc ds fun x hx=>h x (qab _ hx)];rfl
def iW{n:Nat}{s:Pen}(h:n<10 ^ 60):bt.p [.str (tS (n:Int))] s=.ok (.bl true) s:=by
 have h1:(tS (n:Int)).length=(dg n).length:=by rw[<-c7];simp[Str.length]
 have h2:(dg n).length<=60:=(dg_len (by decide)).mpr h;have h3:0<(dg n).length:=qbs.mpr (k6 n);rw[lA (by rfl)];unfold cH;rw[show dSt 1 [D.str (tS (n:Int))]=[some (.str (tS (n:Int)))] from rfl];have el:dY.p [.str (tS (n:Int))]=some (.int ((dg n).length:Int)):=by
  rw[<-h1];exact qae (by have:=szL;ext)
 have ei:itC (.str (tS (n:Int)))=some ((dg n).map fun c=>.str ⟨#[c]⟩):=by
  show (if (tS (n:Int)).cps.all (·<128)=true then some ((tS (n:Int)).cps.toList.map fun c=>D.str ⟨#[c]⟩) else none)=_;rw[qae,c7];rw[<-Array.all_toList,c7,qbn];intro c hc
  have:=jm hc
  simp;ext
 have c1:=nk (ws:=[]) (ws':=[]) (env:=[some (.str (tS (n:Int)))]) (s:=s) (fm:=[]) (i:=pr (ab 0)) (t:=xTrue) (e:=af (oInS false) (ab 0) (xC (.str "0123456789"))) (ds:=(dg n).map fun c=>.str ⟨#[c]⟩) (fun _=>true) (fun _=>.bl true) (by
   rw[xItC_p,al,Pb,ei];rfl) (by simp;ext) (fun x hx=>by
   obtain⟨c,hc,rfl⟩:=qau.mp hx;refine⟨rfl,fun _=>?_⟩
   rw[aJ,al,Pb,aV,Pb,show (Cn.str "0123456789").d=D.str "0123456789" from rfl,fig_in (jm hc)];rfl)
 rw[aX,hV];have ech:(gV oLe oLe (xC (.int 1)) (xCb dY (aa (ab 0) xNil)) (xC (.int 60)):Xe []).p [some (.str (tS (n:Int)))] s=.ok (.bl true) s:=by
  simp[el,PR.bl,show (1:Int)<=((dg n).length:Int) by ext,show ((dg n).length:Int)<=60 by ext]
 rw[ech];simp only[PR.bl,Pb,if_true,bu,aj,ar];rw[c1];simp only[Pb];have ea:nK.p [.lst (List.map (fun _=>D.bl true) (List.filter (fun _=>true) (List.map (fun c=>D.str ⟨#[c]⟩) (dg n))))]=some (.bl true):=by
  show ((iZ _).map fun bs=>D.bl (bs.all id))=_;rw[jc _ fun d hd=>by obtain⟨_,_,rfl⟩:=qau.mp hd;rfl];simp
 rw[ea];rfl
def qk{x:Str}{k:Nat}(hk:k<=x.length):Txt.slice x (some (k:Int)) none=⟨(x.cps.toList.drop k).toArray⟩:=by
 have e:Builtin.Str.strSliceIndices (some (k:Int)) none 1 x.length=(List.range (x.length - k)).map fun i=>k+i:=by
  unfold Builtin.Str.strSliceIndices sliceRange;simp only[show (1:Int)>0 by decide,if_true,show ¬((k:Int)<0) by ext,if_false];rw[show max 0 (min (k:Int) (x.length:Int))=(k:Int) by ext];by_cases z:(k:Int)<(x.length:Int)
  ·rw[qae z,Int.ediv_one,show ((x.length:Int) - (k:Int)+1 - 1).toNat=x.length - k by ext];exact qaV fun i _=>by ext
  ·rw[qat z,show x.length - k=0 by ext];rfl
 unfold Txt.slice;rw[e];by_cases z:k=0
 ·subst z;rw[qae (by simp)];simp
 ·by_cases y:x.length=0
  ·ext
  rw[qat (by simp;ext)];congr 2;have hs:x.cps.toList.length=x.length:=by simp[Str.length]
  apply List.ext_getElem?;intro i;rw[List.filterMap_map,qby];have ef:((fun x_1:Nat=>x.cps[x_1]?)∘fun i=>k+i)=fun i=>x.cps.toList[k+i]?:=by funext i;simp
  rw[ef];have key:∀m,m<=x.length - k->((List.range m).filterMap fun i=>x.cps.toList[k+i]?)=(x.cps.toList.drop k).take m:=by
   intro m
   induction m with
   | zero=>intro _;simp
   | succ m ih =>
    intro hm;rw[List.range_succ,List.filterMap_append,ih (by ext),qbO,qby]
    have:k+m<x.cps.toList.length:=by ext
    rw[qaA this];have hg:x.cps.toList[k+m]?=some x.cps.toList[k+m]:=qaA this;rw[qbf,hg];rfl
  rw[key _ (qaj _),qbJ (by simp[Str.length]),qby]
def pj(n:Nat)(y:Str):Txt.startswith (tS (n:Int)++y) (sg 45)=false:=by
 unfold Txt.startswith;rw[Bool.and_eq_false_iff];right
 cases e:Builtin.Str.subAt (tS (n:Int)++y) (sg 45) 0 with
 | false=>rfl
 | true =>
  have hl:0<(dg n).length:=qbs.mpr (k6 n)
  have e2:=(StrLaws.subAt_one (tS (n:Int)++y) 45 0).mp ⟨by
   rw[strLen_append]
   have:(tS (n:Int)).length=(dg n).length:=by rw[<-c7];simp[Str.length]
   show 0+1<=_
   ext,e⟩
  rw[cu,c7,qai hl] at e2
  have:=jm (qaK e2)
  ext
def nV(y:Str):Txt.startswith (sg 45++y) (sg 45)=true:=by
 unfold Txt.startswith;have e2:=(StrLaws.subAt_one (sg 45++y) 45 0).mpr (by rw[cu];simp);rw[e2.2]
 have:=e2.1
 simp only[Bool.and_true,decide_eq_true_eq];exact this
def no47(t:Int):47∉(tS t).cps.toList:=fun h=>by rcases lG t h with h|h <;> ext
def no61(t:Int):61∉(tS t).cps.toList:=fun h=>by rcases lG t h with h|h <;> ext
def slB(b:Int):Str:=if b=1 then Str.empty else slash
def tlB(b:Int):Str:=if b=1 then Str.empty else tS b
def uU(t b:Int):Txt.partition (txt t b) slash=(tS t,slB b,tlB b):=by
 unfold txt slB tlB;by_cases z:b=1
 ·rw[qae z,qae z,qae z];exact part_no (c:=47) (no47 t)
 ·rw[qat z,qat z,qat z];exact jw (c:=47) (no47 t)
def uo{a b:D}{s:Pen}:b9.p [.tup [a,b]] s=.ok (.bl true) s:=by
 rw[rq (by rfl)];unfold fb;have e1:(d7 ["tuple"]).p (.tup [a,b])=some (.bl true):=rfl;have e2:dY.p [.tup [a,b]]=some (.int 2):=rfl;rw[show dSt 1 [D.tup [a,b]]=[some (.tup [a,b])] from rfl];simp[e1,e2,PR.bl,show fv "tuple" "tuple"=true from rfl]
def qi{t b:Int}{s:Pen}(h:Six t b):ce.p [nD t b] s=.ok (.bl true) s:=by
 obtain⟨h1,h2,h3,h4⟩:=h;obtain⟨n,rfl⟩:∃n:Nat,b=n:=⟨b.toNat,by ext⟩;have q:=uz (a:=t.natAbs) (b:=n) (k:=200) (s:=s) (qbh (show n<10 ^ 60 by ext) (by decide +kernel)) (by decide);rw[qaP] at h4;rw[h4] at q;rw[oN (by rfl)];unfold dv;rw[show dSt 1 [nD t (n:Int)]=[some (nD t (n:Int))] from rfl];have p1:b9.p [nD t (n:Int)] s=.ok (.bl true) s:=uo;simp[p1,ix0,ixb,qj,PR.bl,g8,q,h2]
def qG{n i:Int}{s:Pen}(h0:0<=i)(h1:i<n):cy.p [.int n,.int i] s=.ok (.bl true) s:=by
 rw[p9 (by rfl)];unfold dX;rw[show dSt 2 [D.int n,.int i]=[some (.int n),some (.int i)] from rfl];simp[qj,PR.bl,h0,h1]
def iP{t b:Int}{s:Pen}(h:Six t b):bq.p [.str (txt t b)] s=.ok (nD t b) s:=by
 have hs:=d3 h;have ql:=jI h;have z:=szL;have lt:=cr (k:=60) (by decide) hs.1;have lb:=cr (k:=60) (by decide) hs.2;have qn:=qi (s:=s) h;have qs:=fA (s:=s) hs.1 h.2.1 hs.2;have e1:sPartition.p (txt t b) [.str slash]=some (.tup [.str (tS t),.str (slB b),.str (tlB b)]):=by
  show (if (slash.length == 0)=false/\(txt t b).length<=sizeLine then some (D.tup [.str (Txt.partition (txt t b) slash).1,.str (Txt.partition (txt t b) slash).2.1,.str (Txt.partition (txt t b) slash).2.2]) else none)=_;rw[qae ⟨rfl,by ext⟩,uU]
 obtain⟨f,ef⟩:∃f:Str,f=if t<0 then Str.ofString "-" else Str.ofString "":=⟨_,rfl⟩
 have e2:sStartswith.p (txt t b) [.str (Str.ofString "-")]=some (.bl (decide (t<0))):=by
  show some (D.bl (Txt.startswith (txt t b) (Str.ofString "-")))=_;congr 2;unfold txt;by_cases ht:t<0
  ·rw[decide_eq_true ht,g9 ht];split
   ·exact nV _
   ·rw[lp,lp];exact nV _
  ·obtain⟨n,rfl⟩:∃n:Nat,t=n:=⟨t.toNat,by ext⟩;rw[decide_eq_false ht];split
   ·have:=pj n Str.empty
    rw[mO] at this;exact this
   ·rw[lp];exact pj n _
 have e3:dY.p [.str f]=some (.int (f.length:Int)):=qae (by rw[ef];split <;> decide);have e4:lT (.str (tS t)) (some (f.length:Int)) none=some (.str (tS (t.natAbs:Int))):=by
  show (if (tS t).length<=sizeLine then some (D.str (Txt.slice (tS t) (some (f.length:Int)) none)) else none)=_;rw[qae (by ext)];congr 2;by_cases ht:t<0
  ·rw[qae ht] at ef
   have:f.length=1:=by rw[ef];rfl
   rw[this,qk (k:=1) (by rw[g9 ht,strLen_append];have:(Str.ofString "-").length=1:=rfl;ext),lx ht,sC];rfl
  ·rw[qat ht] at ef
   have:f.length=0:=by rw[ef];rfl
   rw[this,qk (k:=0) (qaO _)];obtain⟨n,rfl⟩:∃n:Nat,t=n:=⟨t.toNat,by ext⟩;simp
 have e5:lY (.str (slB b))=some (!decide (b=1)):=by
  unfold slB;by_cases y:b=1
  ·rw[qae y,decide_eq_true y];show (if Str.empty.length<=sizeLine then some ((Str.empty.length:Int) != 0) else none)=_;rw[qae (by decide)];rfl
  ·rw[qat y,decide_eq_false y];show (if slash.length<=sizeLine then some ((slash.length:Int) != 0) else none)=_;rw[qae (by decide)];rfl
 have f1:=iW (n:=t.natAbs) (s:=s) hs.1;have f2:=iW (n:=b.natAbs) (s:=s) hs.2;rw[show ((b.natAbs:Nat):Int)=b by have:=h.2.1;ext] at f2;have e6:aN.p (.str f) (.str (tS (t.natAbs:Int)))=some (.str (tS t)):=by
  by_cases ht:t<0
  ·rw[qae ht] at ef;rw[ef,g9 ht];refine bS ?_;have a':=cr (i:=(t.natAbs:Int)) (k:=60) (by decide) (by rw[qaP];exact hs.1)
   have:(Str.ofString "-").length=1:=rfl
   ext
  ·rw[qat ht] at ef;obtain⟨n,rfl⟩:∃n:Nat,t=n:=⟨t.toNat,by ext⟩;rw[ef,show (Str.ofString "")=Str.empty from rfl,qaP,bS (by have:Str.empty.length=0:=rfl;ext),gD]
 have e7:(if decide (t<0)=true then D.str (Str.ofString "-") else D.str (Str.ofString ""))=D.str f:=by
  rw[ef];by_cases ht:t<0
  ·rw[decide_eq_true ht,qae rfl,qae ht]
  ·rw[decide_eq_false ht,qat (by simp),qat ht]
 have e8:oEq.p (.str (txt t b)) (.str (txt t b))=some (.bl true):=by
  simp[oEq,ld (kQ t b) (kQ t b)]
 have i1:=rR hs.1;have i2:=rR hs.2;rw[lU (by rfl)];unfold cG;rw[show dSt 6 [D.str (txt t b)]=[some (.str (txt t b)),none,none,none,none,none] from rfl];have c1:(fZ (xB (xSm sStartswith (ab 0) (aa (xC (.str "-")) xNil))) (xC (.str "-")) (xC (.str "")) true:Xe []).p [some (.str (txt t b)),some (.tup [.str (tS t),.str (slB b),.str (tlB b)]),none,none,none,none] s=.ok (.str f) s:=by
  by_cases ht:t<0
  ·rw[qae ht] at ef;rw[decide_eq_true ht] at e2;dsimp![eB,cM,cB,aV,bi,e2,PR.bl,if_true,ef]
  ·rw[qat ht] at ef;rw[decide_eq_false ht] at e2;dsimp![eB,cM,cB,aV,bi,e2,PR.bl,qar,if_false,ef]
 have c2:(fZ (lN (af oIx (ab 1) (xC (.int 1)))) (af oIx (ab 1) (xC (.int 2))) (xC (.str "1")) true:Xe []).p [some (.str (txt t b)),some (.tup [.str (tS t),.str (slB b),.str (tlB b)]),some (.str f),some (.str (tS (t.natAbs:Int))),none,none] s=.ok (.str (tS b)) s:=by
  have g1:atI [D.str (tS t),.str (slB b),.str (tlB b)] 1=some (.str (slB b)):=rfl;have g2:atI [D.str (tS t),.str (slB b),.str (tlB b)] 2=some (.str (tlB b)):=rfl;by_cases y:b=1
  ·rw[decide_eq_true y] at e5;simp only[eB,kB,aJ,av,al,Pb,aV,aZ,bi,gL,g1,Pf,e5,qbd,qar,if_false];rw[y];rfl
  ·rw[decide_eq_false y] at e5;simp only[eB,kB,aJ,av,al,Pb,aV,aZ,bi,gL,g1,g2,Pf,e5,Bool.not_false,if_true];rw[show tlB b=tS b from qat y]
 have g0:atI [D.str (tS t),.str (slB b),.str (tlB b)] 0=some (.str (tS t)):=rfl;dsimp![aQ,bc,cB,aV,bi,aZ,e1,Pg,qan,qao,PU.az];rw[c1];simp![aQ,bc,xSlC_p,aJ,gL,g0,se,r6,bu,e3,e4,aV,aZ];rw[c2];simp![aQ,bc,cN,jK,hU,cM,aH,f1,f2,PR.bl,qbd,qar,if_false,bO,i4,bu,aJ,e6,i1,i2,aX,eB,um,qn,qs,e8,if_true,qaq,qaB,show (0+1+1:Nat)<=100000 by decide];rfl
def eq_self{x:Str}(hx:PyData.strOk x=true):oEq.p (.str x) (.str x)=some (.bl true):=by
 simp[oEq,ld hx hx]
def nJ{n j:Int}{s:Pen}(h0:0<=j)(h1:j<n)(h2:j<100):cS.p [.int n,.str (tS j)] s=.ok (.int j) s:=by
 have hj:=ou h0 h2;have f1:=iW (n:=j.natAbs) (s:=s) hj;rw[show ((j.natAbs:Nat):Int)=j by ext] at f1;have e8:=eq_self (x:=tS j) (bK _);rw[mZ (by rfl)];unfold cR;rw[show dSt 3 [D.int n,.str (tS j)]=[some (.int n),some (.str (tS j)),none] from rfl];simp![aQ,bc,cN,hU,cM,aH,f1,PR.bl,qbd,qar,if_false,bO,bu,aJ,rR hj,aX,eB,um,qG h0 h1,fY hj,e8,if_true];rfl
def pV{n:Int}{p:Prt}{s:Pen}(h:ir p)(h1:p.1<n):bM.p [.int n,.str (ak p)] s=.ok (partD p) s:=by
 have wl:=km h;have z:=szL;have e1:sPartition.p (ak p) [.str eqS]=some (.tup [.str (tS p.1),.str eqS,.str (txt p.2.1 p.2.2)]):=by
  show (if (eqS.length == 0)=false/\(ak p).length<=sizeLine then some (D.tup [.str (Txt.partition (ak p) eqS).1,.str (Txt.partition (ak p) eqS).2.1,.str (Txt.partition (ak p) eqS).2.2]) else none)=_;rw[qae ⟨rfl,by ext⟩,show Txt.partition (ak p) eqS=(tS p.1,eqS,txt p.2.1 p.2.2) from jw (c:=61) (no61 p.1)]
 have g0:atI [D.str (tS p.1),.str eqS,.str (txt p.2.1 p.2.2)] 0=some (.str (tS p.1)):=rfl;have g2:atI [D.str (tS p.1),.str eqS,.str (txt p.2.1 p.2.2)] 2=some (.str (txt p.2.1 p.2.2)):=rfl;rw[pd (by rfl)];unfold dm;rw[show dSt 3 [D.int n,.str (ak p)]=[some (.int n),some (.str (ak p)),none] from rfl];simp![aQ,bc,cB,aV,bi,aZ,e1,aX,i4,aH,aJ,gL,g0,g2,nJ h.1 h1 (by have:=h.2.1;ext),iP h.2.2,qaq,qaB,show (0+1+1:Nat)<=100000 by decide,if_true];rfl
def gf(k:Nat)(d:D):Prop:=∃x,py d=some x/\dep d<=k/\x.canLay0=true/\x.depth<=k
def ie{i:Int}{k:Nat}:gf k (.int i):=⟨.int i,rfl,by simp[dep],rfl,by simp[PyData.depth]⟩
def pe{k:Nat}{ds:List D}(h:∀d∈ds,gf k d):∃xs,pys ds=some xs/\deps ds<=k/\PyData.canLayAll0 xs=true/\PyData.depthAll xs<=k:=by
 induction ds with
 | nil=>exact⟨[],rfl,by simp[deps],rfl,by simp[PyData.depthAll]⟩
 | cons d ds ih =>
  obtain⟨xs,a1,a2,a3,a4⟩:=ih fun d hd=>h d (qab _ hd);obtain⟨x,b1,b2,b3,b4⟩:=h d (by simp);exact⟨x::xs,by simp[pys,a1,b1],by simp only[deps];ext,by simp[PyData.canLayAll0,a3,b3],by simp only[PyData.depthAll];ext⟩
def eI{k:Nat}{ds:List D}(h:∀d∈ds,gf k d):gf (k+1) (.tup ds):=by
 obtain⟨xs,a1,a2,a3,a4⟩:=pe h;exact⟨.tuple xs,by simp[py,a1],by simp only[dep];ext,by simpa [PyData.canLay0] using a3,by simp only[PyData.depth];ext⟩
def j8{k:Nat}{ds:List D}(h:∀d∈ds,gf k d):gf (k+1) (.lst ds):=by
 obtain⟨xs,a1,a2,a3,a4⟩:=pe h;exact⟨.list xs,by simp[py,a1],by simp only[dep];ext,by simpa [PyData.canLay0] using a3,by simp only[PyData.depth];ext⟩
def uH{k:Nat}{t b:Int}:gf (k+1) (nD t b):=eI fun d hd=>by
 simp only[qag,qaG,or_false] at hd;rcases hd with rfl|rfl <;> exact ie
def e9{d:D}{neg:Bool}(h:gf 60 d):eqD neg d d=some (.bl (!neg)):=by
 obtain⟨x,a1,a2,a3,a4⟩:=h;unfold eqD;rw[a1];dsimp only;rw[qae ⟨⟨a2,a2⟩,mw a3 (by ext),mw a3 (by ext)⟩,SeqAt.eqv_refl x a3];cases neg <;> rfl
def ne_zero{t b:Int}(h:t≠0):eqD true (nD t b) (nD 0 1)=some (.bl true):=by
 simp[eqD,py,pys,dep,deps,SeqAt.shaped,PyData.canLay0,PyData.canLayAll0,PyData.depth,PyData.depthAll,PyData.eqv,PyData.eqvAll,h]
def xCT_p{i j:Int}{ws:List Nat}{env:am}{s:Pen}:(xCT i j:Xe ws).p env s=.ok (nD i j) s:=rfl
def tU{n:Int}{p:Prt}{s:Pen}(h0:0<=p.1)(h1:p.1<n)(h2:Six p.2.1 p.2.2)(h3:p.2.1≠0):c9.p [.int n,partD p] s=.ok (.bl true) s:=by
 rw[rC (by rfl)];unfold eZ;rw[show dSt 2 [D.int n,partD p]=[some (.int n),some (partD p)] from rfl];have p1:b9.p [partD p] s=.ok (.bl true) s:=uo;have g0:atI [D.int p.1,nD p.2.1 p.2.2] 0=some (.int p.1):=rfl;have g1:atI [D.int p.1,nD p.2.1 p.2.2] 1=some (nD p.2.1 p.2.2):=rfl;dsimp![aX,hV,aH,av,p1,PR.bl,if_true,aJ,aV,aZ,gL,g0,g1,qG h0 h1,qi h2,xCT_p,oNe_p,ne_zero h3,Pg,PU.bP]
def tR{k:Nat}{p:Prt}:gf (k+2) (partD p):=eI fun d hd=>by
 simp only[qag,qaG,or_false] at hd;rcases hd with rfl|rfl
 ·exact ie
 ·exact uH
def isT{ds:List D}:(d7 ["tuple"]).p (.tup ds)=some (.bl true):=rfl
def pY{n:Int}{ps:List Prt}{s:Pen}(h:Row n ps)(hn:n<=12):dn.p [.int n,.tup (ps.map partD)] s=.ok (.bl true) s:=by
 have hl:ps.length<=12:=by have:=h.len;ext
 have c1:=nk (ws:=[]) (ws':=[]) (env:=[some (.int n),some (.tup (ps.map partD))]) (s:=s) (fm:=[0]) (i:=eQ (ab 1)) (t:=xTrue) (e:=ah c9 (aa (ab 1) (aa (ab 0) xNil))) (ds:=ps.map partD) (fun _=>true) (fun _=>.bl true) (by
   rw[pf,av,al,Pb];rfl) (by simp;ext) (fun x hx=>by
   obtain⟨p,hp,rfl⟩:=qau.mp hx;refine⟨rfl,fun _=>?_⟩;obtain⟨a,b,c,d⟩:=h.mem p hp;show (ah c9 (aa (ab 1) (aa (ab 0) xNil)):Xe []).p [some (partD p),some (.int n)] s=_
   simp only[aH,aj,av,al,ar,Pb,tU a b c d])
 have c2:=nk (ws:=[]) (ws':=[]) (env:=[some (.int n),some (.tup (ps.map partD))]) (s:=s) (fm:=[]) (i:=eQ (ab 1)) (t:=xTrue) (e:=af oIx (ab 0) (xC (.int 0))) (ds:=ps.map partD) (fun _=>true) (fun d=>.int (rkD d)) (by
   rw[pf,av,al,Pb];rfl) (by simp;ext) (fun x hx=>by
   obtain⟨p,hp,rfl⟩:=qau.mp hx
   exact⟨rfl,fun _=>rfl⟩)
 have ea:nK.p [.lst (List.map (fun _=>D.bl true) (List.filter (fun _=>true) (ps.map partD)))]=some (.bl true):=by
  show ((iZ _).map fun bs=>D.bl (bs.all id))=_;rw[jc _ fun d hd=>by obtain⟨_,_,rfl⟩:=qau.mp hd;rfl];simp
 have el:List.map (fun d=>D.int (rkD d)) (List.filter (fun _=>true) (ps.map partD))=(ps.map fun p:Prt=>p.1).map .int:=by
  rw[List.filter_eq_self.mpr fun _ _=>rfl,qaE,qaE];rfl
 have nd:(ps.map fun p:Prt=>p.1).Nodup:=(qaU.mpr h.ris).imp fun h=>Int.ne_of_lt h;have em:cLS.p [.lst ((ps.map fun p:Prt=>p.1).map .int)]=some (.int (ps.length:Int)):=by
  rw[cLS_i (by simp;ext),many_nd.mpr nd];simp
 have eq:dY.p [.tup (ps.map partD)]=some (.int (ps.length:Int)):=by
  show some (D.int ((ps.map partD).length:Int))=_;simp
 rw[nX (by rfl)];unfold dr;rw[show dSt 2 [D.int n,.tup (ps.map partD)]=[some (.int n),some (.tup (ps.map partD))] from rfl];rw[aQ,cN,hU,cM,bu,aj,c1];simp only[Pb,ar,ea,Pf,PR.bl,qbd,Pg,qar,if_false,bO,PU.az];rw[aX,aJ,bu,aj,c2,el];dsimp![em,bu,av,eq,sw,eqD_ii,qar,if_false,decide_true,Pg,PU.bP]
def vm{n:Int}{ps:List Prt}{s:Pen}(h:Row n ps)(hn:n<=12):fU.p [.int n,.tup (ps.map partD)] s=.ok (.bl true) s:=by
 have hl:ps.length<=12:=by have:=h.len;ext
 have ri:(ps.map fun p:Prt=>p.1).Pairwise (·<·):=qaU.mpr h.ris;have ek:(ps.map partD).map rkD=ps.map fun p:Prt=>p.1:=by rw[qaE];rfl
 have nd:((ps.map partD).map rkD).Nodup:=by rw[ek];exact ri.imp fun h=>Int.ne_of_lt h
 have es:aL rkD (ps.map partD)=ps.map partD:=(kG (List.Perm.refl _) nd (qaU.mpr (h.ris.imp fun h=>Int.le_of_lt h))).symm;have e1:oA.p [.tup (ps.map partD)]=some (.lst (aL rkD (ps.map partD))):=qae ⟨fun d hd=>by obtain⟨p,_,rfl⟩:=qau.mp hd;rfl,nd,by rw[ek];exact SortT.rise_ok ri (by simp;ext),by simp;ext⟩;rw[es] at e1;have e2:ss.p [.tup (ps.map partD)]=some (.lst (ps.map partD)):=by
  show (if (ps.map partD).length<=100000 then some (D.lst (ps.map partD)) else none)=_;rw[qae (by simp;ext)]
 have e3:eqD false (.lst (ps.map partD)) (.lst (ps.map partD))=some (.bl true):=e9 (j8 fun d hd=>by
  obtain⟨p,_,rfl⟩:=qau.mp hd;exact tR)
 rw[sX (by rfl)];unfold fX;rw[show dSt 2 [D.int n,.tup (ps.map partD)]=[some (.int n),some (.tup (ps.map partD))] from rfl];dsimp![aX,hV,gC,aH,av,isT,PR.bl,if_true,pY h hn,aJ,bu,e1,e2,sw,e3,Pg,PU.bP]
def ja{n:Int}{ps:List Prt}{s:Pen}(h:Row n ps)(hn:n<=12):bp.p [.int n,.lst ((ps.map ak).map .str)] s=.ok (.tup (ps.map partD)) s:=by
 have hl:ps.length<=12:=by have:=h.len;ext
 have ok:=h.ok hn;obtain⟨r,s2,q2,hr⟩:∃r s2,(bD 1 [0] (eQ (ab 1)) (ws':=[]) (xNm 0) xTrue (ah bM (aa (ab 1) (aa (ab 0) xNil))):Xe []).p [some (.int n),some (.lst ((ps.map ak).map .str)),none] s=.ok (.lst r) s2/\r=ps.map partD/\s2=s:=by
  have key:∀(qs:List Prt) (z:Option D),(∀p∈qs,p∈ps)->cj (xNm 0:Xg []).p (xTrue:Xt []).p (ah bM (aa (ab 1) (aa (ab 0) xNil)):Xe []).p ((qs.map ak).map .str) [z,some (.int n)] s=.ok (qs.map partD) s:=by
   intro qs
   induction qs with
   | nil=>intro z _;rfl
   | cons p qs ih =>
    intro z hq;have hp:=hq p (by simp);have e1:(xNm 0:Xg []).p (.str (ak p)) [z,some (.int n)]=some [some (.str (ak p)),some (.int n)]:=rfl;have e3:(ah bM (aa (ab 1) (aa (ab 0) xNil)):Xe []).p [some (.str (ak p)),some (.int n)] s=.ok (partD p) s:=by
     simp only[aH,aj,av,al,ar,Pb,pV (ok.2 p hp) (h.mem p hp).2.1]
    rw[qaJ,qaJ,cj,e1];dsimp only;rw[show (xTrue:Xt []).p [some (.str (ak p)),some (.int n)] s=.ok true s from rfl,Pb,qae rfl,e3,Pb,ih _ fun x hx=>hq x (qab _ hx),Pb];rfl
  refine⟨_,_,?_,rfl,rfl⟩;rw[jG,pf,av,al,Pb,show (D.lst ((ps.map ak).map .str)).items=some ((ps.map ak).map .str) from rfl,Pf,Pb,qae (by simp;ext)];rw[show cenv 1 [0] [some (.int n),some (.lst ((ps.map ak).map D.str)),none]=[none,some (.int n)] from rfl,key ps none fun _ h=>h]
 obtain⟨rfl,rfl⟩:=hr;have et:d9.p [.lst (ps.map partD)]=some (.tup (ps.map partD)):=rfl;rw[nc (by rfl)];unfold cY;rw[show dSt 3 [D.int n,.lst ((ps.map ak).map .str)]=[some (.int n),some (.lst ((ps.map ak).map .str)),none] from rfl];rw[aQ,bc,bu,aj,q2];simp![et,aX,eB,cM,aH,vm h hn,PR.bl,if_true,PU.bP]
def mR{ds:List D}{j:Nat}{d:D}(e:(cz ds)[j]?=some d):∃x,ds[j]?=some x/\d=.tup [.int (j:Int),x]:=by
 unfold cz at e;rw[qaD,qbp] at e
 cases e1:ds[j]? with
 | none=>rw[e1] at e;cases e
 | some x=>rw[e1] at e;simp at e;exact⟨x,rfl,e.symm⟩
abbrev No(c:Nat)(x:Str):Prop:=c∉x.cps.toList
def fT{c:Nat}{x y:Str}(h1:No c x)(h2:No c y):No c (x++y):=fun h=>by
 rw[cu] at h;exact (qaL.mp h).elim h1 h2
def qJ{c:Nat}{z:Str}(hz:No c z):∀ts:List Str,(∀x∈ts,No c x)->No c (Txt.join z ts):=by
 intro ts h;show No c (Builtin.Str.glued z ts);rw[StrLaws.glued_eq_join]
 induction ts with
 | nil=>exact fun h=>by cases h
 | cons x ts ih =>
  cases ts with
  | nil=>exact h x (by simp)
  | cons y ts=>exact fT (fT (h x (by simp)) hz) (ih fun w hw=>h w (qab _ hw))
def kU{c:Nat}(h:c=10\/c=32)(t:Int):No c (tS t):=fun hc=>by rcases lG t hc with h|h <;> ext
def jE{c d:Nat}(h:c≠d):No c (sg d):=fun hc=>h (by simpa using hc)
def sD{c:Nat}(h:c=10\/c=32)(t b:Int):No c (txt t b):=by
 unfold txt;split
 ·exact kU h t
 ·exact fT (fT (kU h t) (jE (d:=47) (by ext))) (kU h b)
def qQ{c:Nat}(h:c=10\/c=32)(p:Prt):No c (ak p):=fT (fT (kU h _) (jE (d:=61) (by ext))) (sD h _ _)
def no_head{c:Nat}(h:c=10\/c=32)(i:Int):No c (tS i++coS):=fT (kU h _) (jE (d:=58) (by ext))
def no_hw{c:Nat}(h:c=10\/c=32)(i:Int)(ps:List Prt):∀x∈(tS i++coS)::ps.map ak,No c x:=fun x hx=>by
 rcases qag.mp hx with rfl|hx
 ·exact no_head h i
 ·obtain⟨p,_,rfl⟩:=qau.mp hx;exact qQ h p
def no_line(i:Int)(ps:List Prt):No 10 (line i ps):=qJ (jE (d:=32) (by ext)) _ (no_hw (.inl rfl) i ps)
def no_rw{c:Nat}(h:c=10\/c=32)(r:Rw):∀x∈r.1.map ak++[baS,txt r.2.1 r.2.2],No c x:=fun x hx=>by
 rcases qaL.mp hx with hx|hx
 ·obtain⟨p,_,rfl⟩:=qau.mp hx;exact qQ h p
 ·simp only[qag,qaG,or_false] at hx;rcases hx with rfl|rfl
  ·exact jE (d:=124) (by ext)
  ·exact sD h _ _
def uN(r:Rw):No 10 (rline r):=qJ (jE (d:=32) (by ext)) _ (no_rw (.inl rfl) r)
def lQ{c:Nat}{ts:List Str}(h0:ts≠[])(hc:∀t∈ts,No c t)(hl:(Txt.join (sg c) ts).length<=1000000)(hn:ts.length<=100):sSplit.p (Txt.join (sg c) ts) [.str (sg c)]=some (.lst (ts.map .str)):=by
 have e:=rE h0 hc;have z:=szL;show (if ((sg c).length == 0)=false/\(Txt.join (sg c) ts).length<=sizeLine/\(Txt.split (Txt.join (sg c) ts) (sg c)).length<=sizeLine then some (D.lst ((Txt.split (Txt.join (sg c) ts) (sg c)).map .str)) else none)=_;rw[e,qae ⟨rfl,by ext,by ext⟩]
def iA{z x:Str}{ts:List Str}(h:1<=x.length):1<=(Txt.join z (x::ts)).length:=by
 show 1<=(Builtin.Str.glued z (x::ts)).length;rw[StrLaws.glued_eq_join]
 cases ts with
 | nil=>exact h
 | cons y ts=>rw[nr,strLen_append,strLen_append];ext
def tz(t:Int):1<=(tS t).length:=by
 by_cases ht:t<0
 ·rw[g9 ht,strLen_append];have:(Str.ofString "-").length=1:=rfl;ext
 ·obtain⟨n,rfl⟩:∃n:Nat,t=n:=⟨t.toNat,by ext⟩;have h1:(tS (n:Int)).length=(dg n).length:=by rw[<-c7];simp[Str.length]
  have h3:0<(dg n).length:=qbs.mpr (k6 n);ext
def kE{ls:List Str}{s:Pen}(hl:(Txt.join nlS ls).length<=1000000)(hc:ls.length<=100)(h10:∀x∈ls,No 10 x)(h1:∀x∈ls,1<=x.length):cw.p [.str (Txt.join nlS ls)] s=.ok (.lst (ls.map .str)) s:=by
 have z:=szL;rw[pT (by rfl)];unfold dS;rw[show dSt 1 [D.str (Txt.join nlS ls)]=[some (.str (Txt.join nlS ls))] from rfl];have e0:(d7 ["str"]).p (.str (Txt.join nlS ls))=some (.bl true):=rfl
 cases ls with
 | nil =>
  have e1:lY (.str (Txt.join nlS []))=some false:=by
   show (if Str.empty.length<=sizeLine then some ((Str.empty.length:Int) != 0) else none)=_;rw[qae (by decide)];rfl
  simp only[aQ,cN,hU,cM,gC,al,Pb,e0,Pf,PR.bl,qbd,Pg,qar,if_false,bO,PU.az,aX,eB,kB,e1,cI,ar,List.map_nil,qaB,qaO,if_true,PU.bP]
 | cons x ls =>
  have hp:=iA (z:=nlS) (ts:=ls) (h1 x (by simp));have e1:lY (.str (Txt.join nlS (x::ls)))=some true:=by
   show (if (Txt.join nlS (x::ls)).length<=sizeLine then some (((Txt.join nlS (x::ls)).length:Int) != 0) else none)=_;rw[qae (by ext)];congr 1;rw[bne_iff_ne];ext
  have e2:=lQ (c:=10) (ts:=x::ls) (by simp) h10 hl hc;dsimp![aQ,cN,hU,cM,gC,e0,PR.bl,qbd,Pg,qar,if_false,bO,PU.az,aX,eB,kB,e1,if_true,cB,aV,bi];rw[show sSplit.p (Txt.join nlS (x::ls)) [D.str (Str.ofString "\n")]=_ from e2];rfl
abbrev rsB:Xd [3]:=(aq (aD 6 (xSm sSplit (ab 5) (aa (xC (.str " ")) xNil)))
 (aq (aD 7 (ah bp (aa (ab 2) (aa (xSl (ab 6) (xPt (xC (.int 1))) xNo) xNil))))
 (aq (xIf (xOr (xB (af oGe (ab 4) (xC (.int 12)))) (xOr (xB (af oNe (af oIx (ab 6) (xC (.int 0))) (xUn (oFs ":") (ab 4)))) (xB (af (oIs false) (ab 7) (xC .non))))) j3 xSkip)
 (xMt aAppend 3 (aa (ab 7) xNil)))))
def at_zero{x:Str}{xs:List Str}:atI ((x::xs).map D.str) 0=some (.str x):=by
 simp[atI,ixN]
def cut1{x:D}{xs:List D}(h:xs.length<=1000):fS (x::xs) (some 1) none=xs:=by
 unfold fS HT.sIx;simp
def rs_turn{n:Nat}{ps:List Prt}{rs:List (List Prt)}{z1 z2 z6 z7:Option D}{i:Nat}{s:Pen}(h:Row n ps)(hn:n<=12)(hi:i<12)(hr:rs.length<=12) :
  rsB.p [z1,z2,some (.int (n:Int)),some (.lst (cQ rs)),some (.int (i:Int)),some (.str (line (i:Int) ps)),z6,z7] s=.nx [z1,z2,some (.int (n:Int)),some (.lst (cQ (rs++[ps]))),some (.int (i:Int)),some (.str (line (i:Int) ps)),some (.lst (((tS (i:Int)++coS)::ps.map ak).map .str)),some (.tup (ps.map partD))] s:=by
 have ok:=h.ok (by ext);have ll:=pC (i:=(i:Int)) (by ext) (by ext) ok;have lc:=kf (i:=(i:Int)) ok;have e1:sSplit.p (line (i:Int) ps) [.str spS]=some (.lst (((tS (i:Int)++coS)::ps.map ak).map .str)):=lQ (c:=32) (by simp) (no_hw (.inr rfl) _ _) (by unfold line at ll;exact qav ll (by decide)) (by ext);have e2:slD (.lst (((tS (i:Int)++coS)::ps.map ak).map .str)) (some 1) none=some (.lst ((ps.map ak).map .str)):=by
  rw[sk,qaJ,cut1 (by simp at lc ⊢;ext)]
 have e3:=ja (s:=s) h (by ext);have e4:atI (((tS (i:Int)++coS)::ps.map ak).map D.str) 0=some (.str (tS (i:Int)++coS)):=at_zero;have e5:=fs_p (i:=(i:Int)) (by ext) (by ext);have e6:oNe.p (.str (tS (i:Int)++coS)) (.str (tS (i:Int)++coS))=some (.bl false):=by
  simp[oNe,ld (eE (bK _) (bK _)) (eE (bK (toString (i:Int))) (bK ":"))]
 have e7:(oIs false).p (.tup (ps.map partD)) .non=some (.bl false):=rfl;have e8:oGe.p (.int (i:Int)) (.int 12)=some (.bl false):=by
  rw[pF,decide_eq_false (by ext)]
 unfold rsB;rw[aQ,bc,cB];simp only[av,al,Pb,aj,aV,bi,ar];rw[show sSplit.p (line (i:Int) ps) [D.str (Str.ofString " ")]=_ from e1];simp![aQ,bc,aH,xSl_p,se,aV,aZ,r6,e2,e3,cN,jK,cM,aJ,e8,PR.bl,qar,if_false,kJ,e4,gC];rw[show (oFs (Str.ofString ":")).p (.int (i:Int))=_ from e5];simp only[Pf,Pb,e6,PR.bl,qar,if_false,sP,e7,Pg,bO,PU.az,aV,av,al]
 rw[jL (s1:=s) (as:=[.tup (ps.map partD)]) (ds:=cQ rs) (ds':=cQ (rs++[ps])) (r:=.non) (by simp) rfl (by
  rw[gr (by simp;ext)];simp)]
 rfl
def fP{n:Nat}{rs:List (List Prt)}{s:Pen}(h:∀ps∈rs,Row n ps)(hn:n<=12)(hl:rs.length=n):aC.p [.str (Txt.join nlS (lines rs))] s=.ok (bI n rs) s:=by
 have sh:ku rs:=⟨by ext,fun ps hp=>(h ps hp).ok (by ext)⟩;have jl:=dH (z:=nlS) (mQ sh) (m:=12) (by rw[eY];ext)
 have q1:=kE (ls:=lines rs) (s:=s) (qav jl (by rw[kT];decide)) (by rw[eY];ext) (fun x hx=>by
  obtain⟨i,ps,rfl,_,_⟩:=gn hx;exact no_line _ _) (fun x hx=>by
  obtain⟨i,ps,rfl,_,_⟩:=gn hx
  exact iA (by rw[strLen_append];have:=tz (i:Int);ext))
 have lg:∀(j:Nat) (x:D),((lines rs).map D.str)[j]?=some x->∃ps,rs[j]?=some ps/\x=.str (line (j:Int) ps):=fun j x e=>by
  unfold lines at e;rw[qaE,qaD,qbp] at e
  cases e1:rs[j]? with
  | none=>rw[e1] at e;cases e
  | some ps=>rw[e1] at e;simp at e;exact⟨ps,rfl,e.symm⟩
 obtain⟨env',s4,q4,z4,z5,z6,z7,hE,hS⟩:=jp (g:=(xGp (xGc (xNm 4) (xGc (xNm 5) xGl)) 2:Xg [3]).p) (b:=rsB.p)
  (fun j env s'=>∃z4 z5 z6 z7,env=[some (.str (Txt.join nlS (lines rs))),some (.lst ((lines rs).map .str)),some (.int (n:Int)),some (.lst (cQ (rs.take j))),z4,z5,z6,z7]/\s'=s) (cz ((lines rs).map .str)) 0 [some (.str (Txt.join nlS (lines rs))),some (.lst ((lines rs).map .str)),some (.int (n:Int)),some (.lst []),none,none,none,none] s ⟨none,none,none,none,rfl,rfl⟩ (fun j env s' d hI hd=>by
   obtain⟨z4,z5,z6,z7,hE,hS⟩:=hI;subst hE hS;obtain⟨x,hx,rfl⟩:=mR hd;obtain⟨ps,hp,rfl⟩:=lg j x hx;have hj:j<rs.length:=(qaf.mp hp).1;refine⟨[some (.str (Txt.join nlS (lines rs))),some (.lst ((lines rs).map .str)),some (.int (n:Int)),some (.lst (cQ (rs.take (0+j)))),some (.int (j:Int)),some (.str (line (j:Int) ps)),z6,z7],_,s',rfl,rs_turn (h ps (qaK hp)) hn (by ext) (by simp;ext),some (.int (j:Int)),some (.str (line (j:Int) ps)),some (.lst (((tS (j:Int)++coS)::ps.map ak).map .str)),some (.tup (ps.map partD)),?_,rfl⟩
   rw[qbx,qbO,hp];rfl)
 have el:(cz ((lines rs).map D.str)).length=rs.length:=by simp[cz,eY]
 rw[el,qbx,qbG] at hE;subst hE hS;have et:d9.p [.lst (cQ rs)]=some (.tup (cQ rs)):=rfl;have en:dY.p [.lst ((lines rs).map .str)]=some (.int (n:Int)):=by
  show some (D.int (((lines rs).map D.str).length:Int))=_;rw[qaS,eY,hl]
 rw[ng (by rfl)];unfold c5;rw[show dSt 8 [D.str (Txt.join nlS (lines rs))]=[some (.str (Txt.join nlS (lines rs))),none,none,none,none,none,none,none] from rfl];simp![aQ,bc,js,lh,aH,q1,bu,en,cI,qaB,qaO,if_true];rw[pk,f7];dsimp![av,iE_l,Pg];refine (congrArg (fun z:PS=>(z.then _).fin) q4).trans ?_;dsimp![PU.az,aX,i4,av,bu,et,qaq,qaB,show (0+1+1:Nat)<=100000 by decide,if_true,Pg,PU.bP]
def uF{k:Nat}{x:Str}(h:PyData.strOk x=true):gf k (.str x):=⟨.str x,rfl,by simp[dep],by simpa [PyData.canLay0] using h,by simp[PyData.depth]⟩
def cut_m2{xs:List D}{a b:D}:fS (xs++[a,b]) none (some (-2))=xs:=by
 unfold fS HT.sIx;simp only[qaN,qaq,qaB,show ((-2:Int)<0)=True by simp,if_true,List.drop_zero,Nat.sub_zero];rw[show ((-2:Int)+((xs.length+(0+1+1):Nat):Int)).toNat=xs.length by ext];simp
def cut_mm{xs:List D}{a b:D}:fS (xs++[a,b]) (some (-2)) (some (-1))=[a]:=by
 unfold fS HT.sIx;simp only[qaN,qaq,qaB,show ((-2:Int)<0)=True by simp,show ((-1:Int)<0)=True by simp,if_true];rw[show ((-2:Int)+((xs.length+(0+1+1):Nat):Int)).toNat=xs.length by ext,show ((-1:Int)+((xs.length+(0+1+1):Nat):Int)).toNat - xs.length=1 by ext];simp
def at_last{xs:List D}{a b:D}:atI (xs++[a,b]) (-1)=some b:=by
 unfold atI ixN;rw[qat (by decide),qae (by simp;ext)];simp only[qba,qaN,qaq,qaB];rw[show ((-1:Int)+((xs.length+(0+1+1):Nat):Int)).toNat=xs.length+1 by ext];simp
abbrev rrB:Xd [2]:=(aq (aD 5 (xSm sSplit (ab 4) (aa (xC (.str " ")) xNil)))
 (aq (aD 6 (ah bp (aa (ab 0) (aa (xSl (ab 5) xNo (xPt (xUn fj (xC (.int 2))))) xNil))))
 (aq (aD 7 (ah bq (aa (af oIx (ab 5) (xUn fj (xC (.int 1)))) xNil)))
 (aq (xIf (xOr (xB (af oGe (ab 3) (xC (.int 20)))) (xOr (xB (af oNe (xSl (ab 5) (xPt (xUn fj (xC (.int 2)))) (xPt (xUn fj (xC (.int 1))))) (cg (aa (xC (.str "|")) xNil)))) (xOr (xB (af (oIs false) (ab 6) (xC .non))) (xB (af (oIs false) (ab 7) (xC .non)))))) j3 xSkip)
 (xMt aAppend 2 (aa (bV (aa (ab 6) (aa (ab 7) xNil))) xNil))))))
def rr_turn{n:Int}{r:Rw}{rws:List Rw}{z1 z5 z6 z7:Option D}{i:Nat}{s:Pen}(h:RwR n r)(hn:n<=12)(hi:i<20)(hr:rws.length<=20) :
  rrB.p [some (.int n),z1,some (.lst (rws.map aY)),some (.int (i:Int)),some (.str (rline r)),z5,z6,z7] s=.nx [some (.int n),z1,some (.lst ((rws++[r]).map aY)),some (.int (i:Int)),some (.str (rline r)),some (.lst ((r.1.map ak++[baS,txt r.2.1 r.2.2]).map .str)),some (.tup (r.1.map partD)),some (nD r.2.1 r.2.2)] s:=by
 have ok:kg r:=⟨h.1.ok hn,h.2⟩;have ll:=iV ok;have lc:=je ok;have e1:sSplit.p (rline r) [.str spS]=some (.lst ((r.1.map ak++[baS,txt r.2.1 r.2.2]).map .str)):=lQ (c:=32) (by simp) (no_rw (.inr rfl) _) (by unfold rline at ll;exact qav ll (by decide)) (by ext);have em:((r.1.map ak++[baS,txt r.2.1 r.2.2]).map D.str)=(r.1.map ak).map D.str++[.str baS,.str (txt r.2.1 r.2.2)]:=by simp
 rw[em] at e1;have e2:slD (.lst ((r.1.map ak).map D.str++[.str baS,.str (txt r.2.1 r.2.2)])) none (some (-2))=some (.lst ((r.1.map ak).map .str)):=by rw[sk,cut_m2]
 have e2':slD (.lst ((r.1.map ak).map D.str++[.str baS,.str (txt r.2.1 r.2.2)])) (some (-2)) (some (-1))=some (.lst [.str baS]):=by rw[sk,cut_mm]
 have e3:=ja (s:=s) h.1 hn;have e3':=iP (s:=s) h.2;have e4:atI ((r.1.map ak).map D.str++[.str baS,.str (txt r.2.1 r.2.2)]) (-1)=some (.str (txt r.2.1 r.2.2)):=at_last;have e6:oNe.p (.lst [.str baS]) (.lst [.str baS])=some (.bl false):=by
  rw[oNe_p]
  exact e9 (neg:=true) (d:=.lst [.str baS]) (j8 fun d hd=>by
   have:d=.str baS:=by simpa using hd
   subst this;exact uF (bK "|"))
 have e7:(oIs false).p (.tup (r.1.map partD)) .non=some (.bl false):=rfl;have e7':(oIs false).p (nD r.2.1 r.2.2) .non=some (.bl false):=rfl;have e8:oGe.p (.int (i:Int)) (.int 20)=some (.bl false):=by
  rw[pF,decide_eq_false (by ext)]
 have n2:fj.p (.int 2)=some (.int (-2)):=rfl;have n1:fj.p (.int 1)=some (.int (-1)):=rfl;unfold rrB;rw[aQ,bc,cB,em];simp only[av,al,Pb,aj,aV,bi,ar];rw[show sSplit.p (rline r) [D.str (Str.ofString " ")]=_ from e1];simp![aQ,bc,aH,xSl_p,se,gC,aV,aZ,n2,n1,r6,e2,e3,aJ,kJ,e4,e3',cN,jK,cM,e8,PR.bl,qar,if_false,e2',cI,bi,qaq,qaB,show (0+1:Nat)<=100000 by decide,if_true];rw[show oNe.p (.lst [.str baS]) (.lst [.str (Str.ofString "|")])=_ from e6];simp only[Pf,Pb,PR.bl,qar,if_false,sP,e7,e7',Pg,bO,PU.az,aV,av,al]
 rw[jL (s1:=s) (as:=[aY r]) (ds:=rws.map aY) (ds':=(rws++[r]).map aY) (r:=.non) (by simp) rfl (by
  rw[gr (by simp;ext)];simp)]
 rfl
def gO{n:Int}{rws:List Rw}{s:Pen}(h:∀r∈rws,RwR n r)(hn:n<=12)(hl:rws.length<=20):aG.p [.int n,.str (Txt.join nlS (rws.map rline))] s=.ok (.lst (rws.map aY)) s:=by
 have ok:∀r∈rws,kg r:=fun r hr=>⟨(h r hr).1.ok hn,(h r hr).2⟩;have jl:=dH (z:=nlS) (ts:=rws.map rline) (c:=1834) (m:=20) (fun x hx=>by obtain⟨r,hr,rfl⟩:=qau.mp hx;exact iV (ok r hr)) (by simp;exact hl)
 have q1:=kE (ls:=rws.map rline) (s:=s) (qav jl (by rw[kT];decide)) (by simp;ext) (fun x hx=>by
  obtain⟨r,_,rfl⟩:=qau.mp hx;exact uN _) (fun x hx=>by
  obtain⟨r,_,rfl⟩:=qau.mp hx;unfold rline
  cases r.1 with
  | nil=>exact iA (by decide)
  | cons p ps=>exact iA (by unfold ak;rw[strLen_append,strLen_append];have:=tz p.1;ext))
 obtain⟨env',s4,q4,z4,z5,z6,z7,z8,hE,hS⟩:=jp (g:=(xGp (xGc (xNm 3) (xGc (xNm 4) xGl)) 2:Xg [2]).p) (b:=rrB.p)
  (fun j env s'=>∃z4 z5 z6 z7 z8,env=[some (.int n),some (.str (Txt.join nlS (rws.map rline))),some (.lst ((rws.take j).map aY)),z4,z5,z6,z7,z8]/\s'=s) (cz ((rws.map rline).map .str)) 0 [some (.int n),some (.str (Txt.join nlS (rws.map rline))),some (.lst []),none,none,none,none,none] s ⟨none,none,none,none,none,rfl,rfl⟩ (fun j env s' d hI hd=>by
   obtain⟨z4,z5,z6,z7,z8,hE,hS⟩:=hI;subst hE hS;obtain⟨x,hx,rfl⟩:=mR hd;rw[qaE,qaD] at hx
   cases hp:rws[j]? with
   | none=>rw[hp] at hx;cases hx
   | some r =>
    rw[hp] at hx;cases hx;have hj:j<rws.length:=(qaf.mp hp).1;refine⟨[some (.int n),some (.str (Txt.join nlS (rws.map rline))),some (.lst ((rws.take (0+j)).map aY)),some (.int (j:Int)),some (.str (rline r)),z6,z7,z8],_,s',rfl,rr_turn (h r (qaK hp)) hn (by ext) (by simp;ext),some (.int (j:Int)),some (.str (rline r)),some (.lst ((r.1.map ak++[baS,txt r.2.1 r.2.2]).map .str)),some (.tup (r.1.map partD)),some (nD r.2.1 r.2.2),?_,rfl⟩
    rw[qbx,qbO,hp];rfl)
 have el:(cz ((rws.map rline).map D.str)).length=rws.length:=by simp[cz]
 rw[el,qbx,qbG] at hE;subst hE hS;rw[pD (by rfl)];unfold du;rw[show dSt 8 [D.int n,.str (Txt.join nlS (rws.map rline))]=[some (.int n),some (.str (Txt.join nlS (rws.map rline))),none,none,none,none,none,none] from rfl];simp only[aQ,js,lh,cI,ar,Pb,Pg,qan,qao,PU.az,qaB,qaO,if_true];rw[pk,f7];dsimp![aH,av,q1,iE_l,Pg];refine (congrArg (fun z:PS=>(z.then _).fin) q4).trans ?_;rw[PU.az,qe (d:=.lst (rws.map aY)) rfl,PU.bP]
def Shw(k L:Nat)(d:D):Prop:=∃x,py d=some x/\dep d<=k/\Sh L x
def Shw.mono{k L M:Nat}{d:D}(h:Shw k L d)(hm:L<=M):Shw k M d:=let ⟨x,a,b,c⟩:=h;⟨x,a,b,c.mono hm⟩
def jx{k:Nat}{i:Int}(h:i.natAbs<10 ^ 60):Shw k 2000 (.int i):=⟨.int i,rfl,by simp[dep],sh_int (lg h)⟩
def lR{k L:Nat}:∀{ds:List D},(∀d∈ds,Shw k L d)->∃xs,pys ds=some xs/\deps ds<=k/\xs.length=ds.length/\∀x∈xs,Sh L x
 | [],_=>⟨[],rfl,by simp[deps],rfl,fun x hx=>by cases hx⟩
 | d::ds,h=>by
  obtain⟨xs,a1,a2,a3,a4⟩:=lR fun d hd=>h d (qab _ hd);obtain⟨x,b1,b2,b3⟩:=h d (by simp);refine⟨x::xs,by simp[pys,a1,b1],by simp only[deps];ext,by simp[a3],fun y hy=>?_⟩;rcases qag.mp hy with rfl|hy
  ·exact b3
  ·exact a4 y hy
def fK{k L m:Nat}{ds:List D}(h:∀d∈ds,Shw k L d)(hm:ds.length<=m):Shw (k+1) ((L+2) * m+3) (.tup ds):=by
 obtain⟨xs,a1,a2,a3,a4⟩:=lR h;exact⟨.tuple xs,by simp[py,a1],by simp only[dep];ext,(vg a4).mono (by rw[a3];have:=Nat.mul_le_mul_left (L+2) hm;ext)⟩
def shw_lst{k L m:Nat}{ds:List D}(h:∀d∈ds,Shw k L d)(hm:ds.length<=m):Shw (k+1) ((L+2) * m+3) (.lst ds):=by
 obtain⟨xs,a1,a2,a3,a4⟩:=lR h;exact⟨.list xs,by simp[py,a1],by simp only[dep];ext,(sh_list a4).mono (by rw[a3];have:=Nat.mul_le_mul_left (L+2) hm;ext)⟩
def qq{k:Nat}{t b:Int}(h:Six t b):Shw (k+1) 5000 (nD t b):=(fK (L:=2000) (m:=2) (fun d hd=>by
 simp only[qag,qaG,or_false] at hd;rcases hd with rfl|rfl
 ·exact jx (d3 h).1
 ·exact jx (d3 h).2) (by simp)).mono (by decide)
def uv{k:Nat}{p:Prt}(h:ir p):Shw (k+2) 11000 (partD p):=(fK (L:=5000) (m:=2) (fun d hd=>by
 simp only[qag,qaG,or_false] at hd;rcases hd with rfl|rfl
 ·exact (jx (ou h.1 (by have:=h.2.1;ext))).mono (by decide)
 ·exact qq h.2.2) (by simp)).mono (by decide)
def mN{k:Nat}{ps:List Prt}(h:iS ps):Shw (k+3) 140000 (.tup (ps.map partD)):=(fK (L:=11000) (m:=12) (fun d hd=>by
 obtain⟨p,hp,rfl⟩:=qau.mp hd
 exact uv (h.2 p hp)) (by simp;exact h.1)).mono (by decide)
def tt{n:Nat}{rs:List (List Prt)}(h:ku rs)(hn:n<=12):Shw 10 4000000 (bI n rs):=(fK (k:=9) (L:=1700000) (m:=2) (fun d hd=>by
 simp only[qag,qaG,or_false] at hd;rcases hd with rfl|rfl
 ·exact (jx (by ext)).mono (by decide)
 ·exact (fK (k:=8) (L:=140000) (m:=12) (fun d hd=>by
   obtain⟨ps,hp,rfl⟩:=qau.mp hd
   exact mN (h.2 ps hp)) (by simp;exact h.1)).mono (by decide)) (by simp)).mono (by decide)
def uS{rws:List Rw}(h:o7 rws):Shw 10 6000000 (.lst (rws.map aY)):=(shw_lst (k:=9) (L:=290000) (m:=20) (fun d hd=>by
 obtain⟨r,hr,rfl⟩:=qau.mp hd
 exact (fK (k:=8) (L:=140000) (m:=2) (fun d hd=>by
  simp only[qag,qaG,or_false] at hd;rcases hd with rfl|rfl
  ·exact mN (h.2 r hr).1
  ·exact (qq (h.2 r hr).2).mono (by decide)) (by simp)).mono (by decide)) (by simp;exact h.1)).mono (by decide)
def rep_tup{ds:List D}(h:Shw 10 4000000 (.tup ds)):∃t,eW.p [.tup ds]=some (.str t):=by
 obtain⟨x,a,b,c⟩:=h;refine⟨x.shown,?_⟩;show (kn (.tup ds)).map D.str=_;unfold kn;dsimp only;rw[a];dsimp only;rw[qae ⟨by ext,c.able,qav c.len (by decide)⟩];rfl
def rep_lst{ds:List D}(h:Shw 10 6000000 (.lst ds)):∃t,eW.p [.lst ds]=some (.str t):=by
 obtain⟨x,a,b,c⟩:=h;refine⟨x.shown,?_⟩;show (kn (.lst ds)).map D.str=_;unfold kn;dsimp only;rw[a];dsimp only;rw[qae ⟨by ext,c.able,qav c.len (by decide)⟩];rfl
def Row.mono{n m:Int}{ps:List Prt}(h:Row n ps)(hm:n<=m):Row m ps:=⟨h.ris,by have:=h.len;ext,fun p hp=>by obtain⟨a,b,c⟩:=h.mem p hp;exact⟨a,by ext,c⟩⟩
def qL{x:Str}(hx:PyData.strOk x=true):oNe.p (.str x) (.str x)=some (.bl false):=by
 simp[oNe,ld hx hx]
def body_p{x0:Option D}{tn:Int}{s:Pen}:∃env' s',c6.p [x0,some (.int tn),some .pen,none,none,none,none,none,none] s=.nx env' s':=by
 obtain⟨f,hf⟩:∃f:Bool,f=decide (tn=1):=⟨_,rfl⟩;have e0:oEq.p (.int tn) (.int 1)=some (.bl f):=by rw[hf];rfl
 obtain⟨n,rs,s1,q1,hr,hn,hl⟩:=sheet_p (f:=f) (s:=s);have sh:ku rs:=⟨by ext,fun ps hp=>(hr ps hp).ok (by ext)⟩;have q2:=m8 (s:=s1) sh hl;have q3:=kR sh;have q4:=fP (s:=s1) hr hn hl;obtain⟨t1,r1⟩:=rep_tup (tt sh hn);have q5:=nI (n:=n) (s:=s1) sh;have n1:=qL (vc rs);obtain⟨d,s2,d0,d1,q6⟩:=bE (s:=s1) (size:=13) (by decide) (by decide);obtain⟨m,rfl⟩:=gW d0;obtain⟨rws,s3,q7,hw,hrw⟩:=rows_p (n:=m) (f:=f) (s:=s2) (by ext);have rk:o7 rws:=⟨hw,fun r h=>⟨(hrw r h).1.ok (by ext),(hrw r h).2⟩⟩;have q8:=oT (s:=s3) rk;have q9:=mz rk;have q10:=gO (s:=s3) hrw (by ext) hw;have q11:=gO (n:=12) (s:=s3) (fun r h=>⟨(hrw r h).1.mono (by ext),(hrw r h).2⟩) (by ext) hw;obtain⟨t2,r2⟩:=rep_lst (uS rk);have q12:=pW (s:=s3) rk;have n2:=qL (rows_ok rws);have il:(d7 ["list"]).p (.lst (rws.map aY))=some (.bl true):=rfl;have ap:aAppend.p (rws.map aY) [.non]=some (.non,rws.map aY++[.non]):=gr (by simp;ext);refine⟨[x0,some (.int tn),some .pen,some (.bl f),some (bI n rs),some (.str (Txt.join nlS (rws.map rline))),some (.int (m:Int)),some (.lst (rws.map aY)),some (.lst (rws.map aY++[.non]))],s3,?_⟩;unfold c6;simp![aQ,bc,aJ,aV,aZ,e0,aH,q1,cB,bi,q2];rw[show sJoin.p (Str.ofString "\n") [.lst ((lines rs).map .str)]=_ from q3];simp![aQ,bc,cN,jK,cM,aJ,bu,aH,q4,r1,i5,PR.bl,qar,if_false,q5,n1,bO,aV,aZ,q6,q7,cB,bi,q8];rw[show sJoin.p (Str.ofString "\n") [.lst ((rws.map rline).map .str)]=_ from q9];simp![aQ,bc,js,lh,if_true,cN,jK,hU,cM,gC,aJ,bu,aH,xLend_p,q10,il,PR.bl,qbd,qar,if_false,r2,i5,q12,show lend (.str (Txt.join nlS (rws.map rline)))=true from rfl,n2,bO];rw[jL (s1:=s3) (as:=[.non]) (ds:=rws.map aY) (ds':=rws.map aY++[.non]) (r:=.non) (by simp) rfl ap];simp![cN,jK,cM,aJ,bu,aH,q10,q11,aV,aZ,r2,i5,PR.bl,qar,if_false,bO]
def tail_p{env:am}{s:Pen}:fO.p env s=.rt (.bl true) s:=by
 have a1:aC.p [.str (Str.ofString "")] s=.ok (bI 0 []) s:=fP (n:=0) (rs:=[]) (fun ps h=>by cases h) (by decide) rfl;have a2:aG.p [.int 3,.str (Str.ofString "")] s=.ok (.lst []) s:=gO (n:=3) (rws:=[]) (fun r h=>by cases h) (by decide) (by decide);have a3:aC.p [.str (Str.ofString "0:")] s=.ok (bI 1 [[]]) s:=by
  have:=fP (n:=1) (rs:=[[]]) (s:=s) (fun ps h=>by
   have:ps=[]:=by simpa using h
   subst this;exact⟨.nil,by decide,fun p hp=>by cases hp⟩) (by decide) rfl
  exact this
 have t0:∀k,gf (k+1) (.tup []):=fun k=>eI fun d hd=>by cases hd
 have b1:eqD false (bI 0 []) (.tup [.int 0,.tup []])=some (.bl true):=e9 (d:=.tup [.int 0,.tup []]) (eI fun d hd=>by
  simp only[qag,qaG,or_false] at hd;rcases hd with rfl|rfl
  ·exact ie
  ·exact t0 _)
 have b3:eqD false (bI 1 [[]]) (.tup [.int 1,.tup [.tup []]])=some (.bl true):=e9 (d:=.tup [.int 1,.tup [.tup []]]) (eI fun d hd=>by
  simp only[qag,qaG,or_false] at hd;rcases hd with rfl|rfl
  ·exact ie
  ·exact eI fun d hd=>by
    have:d=.tup []:=by simpa using hd
    subst this;exact t0 _)
 have b2:oEqL.p (.lst []) (.lst [])=some (.bl true):=by
  have:eqD false (.lst []) (.lst [])=some (.bl true):=e9 (d:=.lst []) (j8 (k:=59) fun d hd=>by cases hd)
  rw[eqL_eq rfl];exact this
 unfold fO;simp only[aX,hV,aJ,aH,aj,aV,aZ,bi,ar,Pb,a1,a2,a3,i4,cI,qaq,qaB,qaO,show (0+1+1:Nat)<=100000 by decide,show (0+1:Nat)<=100000 by decide,if_true,sw,b1,b2,b3,Pf,PR.bl,Pg]
def hX{lo:Int}{c:Nat}:(bw lo c).length=c:=by simp[bw]
def rj{lo:Int}{c i:Nat}{x:PV}(h:(bw lo c)[i]?=some x):x=.int (lo+i)/\i<c:=by
 unfold bw at h;rw[qaD,qap] at h;obtain⟨k,hk,rfl⟩:=h
 have:=qaf.mp hk
 obtain⟨a,b⟩:=this;simp at a b;subst b;exact⟨rfl,a⟩
def rf{c i:Nat}{x:PV}(h:(bw 0 c)[i]?=some x):x=.int (i:Int)/\i<c:=by
 have:=rj h;simpa using this
def qB{ns:List Int}{k:Nat}(hk:k<ns.length):atI (ns.map PV.int) (k:Int)=some (.int ns[k]):=L2.fM (by simp[hk])
def nG{h:MH}:opPow (.int 10) (.int 18) h=.ok (.int (10 ^ 18)) h:=nC (by decide)
def u0{h:MH}:opPow (.int 10) (.int 15) h=.ok (.int (10 ^ 15)) h:=nC (by decide)
def uK{h:MH}{ns:List Int}{k:Nat}(hk:k<64):∃m c:Int,eK [.frl (ns.map .int),.int k] h=.ok (.loc h.length) (h++[.lst [.int m,.int c,.int 0]]):=by
 unfold eK;have k1:∀{i:Int} {h:MH},opMul (.int 7919) (.int i) h=.ok (.int (7919 * i)) h:=fN (by decide);have k2:∀{i:Int} {h:MH},opMul (.int 48271) (.int i) h=.ok (.int (48271 * i)) h:=fN (by decide);have k3:∀{i:Int} {h:MH},opMul (.int 40009) (.int i) h=.ok (.int (40009 * i)) h:=fN (by decide);have n3:∀{a b c:PV} {h:MH},newL [a,b,c] h=.ok (.loc h.length) (h++[.lst [a,b,c]]):=rV (by simp)
 have fin:∀cell:Int,∃m c:Int,(aI (mIf (mB (ai opGe (mCB fAbs (ac (ae 2) mNil)) (ai opPow (mC (.int 10)) (mC (.int 18))))) (bn (ft (ac (mC (.int 1)) (ac (mCB fAbs (ac (ae 2) mNil)) (ac (mC (.int 0)) mNil))))) mSkip)
   (bn (ft (ac (mC (.int 0)) (ac (ai opAdd (ai opMod (ae 2) (mC (.int 2147483587))) (ai opMul (mC (.int 40009)) (ae 1))) (ac (mC (.int 0)) mNil)))))) [some (.frl (ns.map .int)),some (.int k),some (.int cell)] h=.rt (.loc h.length) (h++[.lst [.int m,.int c,.int 0]]):=fun cell=>by
  by_cases z:(10:Int) ^ 18<=(if cell<0 then -cell else cell)
  ·exact⟨1,(if cell<0 then -cell else cell),by simp[nG,n3,z,-Int.reducePow]⟩
  ·exact⟨0,cell.fmod 2147483587+40009 * k,by simp[nG,n3,z,k3,eL,-Int.reducePow]⟩
 have fin':∀cell:Int,∃m c:Int,((aI (mIf (mB (ai opGe (mCB fAbs (ac (ae 2) mNil)) (ai opPow (mC (.int 10)) (mC (.int 18))))) (bn (ft (ac (mC (.int 1)) (ac (mCB fAbs (ac (ae 2) mNil)) (ac (mC (.int 0)) mNil))))) mSkip)
   (bn (ft (ac (mC (.int 0)) (ac (ai opAdd (ai opMod (ae 2) (mC (.int 2147483587))) (ai opMul (mC (.int 40009)) (ae 1))) (ac (mC (.int 0)) mNil)))))) [some (.frl (ns.map .int)),some (.int k),some (.int cell)] h).fin=.ok (.loc h.length) (h++[.lst [.int m,.int c,.int 0]]):=fun cell=>by
  obtain⟨m,c,q⟩:=fin cell;exact⟨m,c,by rw[q];rfl⟩
 have lift:∀cell:Int,(aI (aU 2 (ai opAdd (ai opMul (mC (.int 7919)) (ae 1)) (mC (.int 11))))
 (mIf (mB (ai opLt (ae 1) (mCB fMin (ac (mCB fLen (ac (ae 0) mNil)) (ac (mC (.int 63)) mNil))))) (aU 2 (ai bW (ae 0) (ae 1))) (mIf (mB (ai opGt (mCB fLen (ac (ae 0) mNil)) (mC (.int 0)))) (aU 2 (ai opAdd (ai opMod (ai bW (ae 0) (ai opMod (ae 1) (mCB fMin (ac (mCB fLen (ac (ae 0) mNil)) (ac (mC (.int 63)) mNil))))) (ai opPow (mC (.int 10)) (mC (.int 15)))) (ai opMul (mC (.int 48271)) (ae 1)))) mSkip))) [some (.frl (ns.map .int)),some (.int k),none] h=.nx [some (.frl (ns.map .int)),some (.int k),some (.int cell)] h ->
   ∃m c:Int,dE 3 2 m_l_pen [.frl (ns.map .int),.int k] h=.ok (.loc h.length) (h++[.lst [.int m,.int c,.int 0]]):=fun cell q=>by
  obtain⟨m,c,q2⟩:=fin' cell;refine⟨m,c,(jo (by rfl)).trans ?_⟩;rw[<-q2];unfold m_l_pen;simp only[jJ] at q ⊢;have e0:bH 3 [PV.frl (ns.map .int),PV.int k]=[some (.frl (ns.map .int)),some (.int k),none]:=rfl;rw[e0];generalize (aU 2 (ai opAdd (ai opMul (mC (.int 7919)) (ae 1)) (mC (.int 11)))) [some (.frl (ns.map .int)),some (.int k),none] h=o1 at q ⊢
  cases o1 with
  | nx σ1 h1 =>
   simp only[MM.az,jJ] at q ⊢;rw[q];rfl
  | _=>cases q
 have hlim:∃lim:Nat,(if (63:Int)<(ns.length:Int) then (63:Int) else (ns.length:Int))=(lim:Int)/\lim<=ns.length/\(0<ns.length->0<lim):=by
  by_cases z:(63:Int)<(ns.length:Int)
  ·exact⟨63,by rw[qae z];rfl,by ext,by ext⟩
  ·exact⟨ns.length,by rw[qat z],by ext,by ext⟩
 obtain⟨lim,el,hl1,hl2⟩:=hlim;by_cases h1:k<lim
 ·refine lift (ns[k]'(by ext)) ?_;simp[k1,el,h1,qB (show k<ns.length by ext)]
 ·by_cases h0:0<ns.length
  ·have hm0:(lim:Int)≠0:=by have:=hl2 h0;ext
   have hj:k % lim<ns.length:=qas (Nat.mod_lt _ (hl2 h0)) hl1;have ej:(k:Int).fmod (lim:Int)=((k % lim:Nat):Int):=by rw[qaW _ (by ext)];rfl
   refine lift ((ns[k % lim]'hj).fmod (10 ^ 15)+48271 * k) ?_;have p0:((10:Int) ^ 15)≠0:=by decide
   have a1:=qB hj;rw[Int.natCast_emod] at a1;simp[k1,el,h1,h0,eL hm0,ej,a1,u0,eL p0,k2,-Int.reducePow]
  ·have h0':ns=[]:=List.length_eq_zero_iff.mp (by ext);refine lift (7919 * k+11) ?_;have z:¬((k:Int)<(lim:Int)):=by ext
   simp[k1,el,z,h0]
def KS(σ:PSt)(o:SOut):Prop:=match o with
 | .nx σ' _=>σ'.length=σ.length/\σ'[0]?=σ[0]?
 | .bk σ' _=>σ'.length=σ.length/\σ'[0]?=σ[0]?
 | .ct σ' _=>σ'.length=σ.length/\σ'[0]?=σ[0]?
 | _=>True
def KS.of{σ σ1:PSt}{o:SOut}(h:σ1.length=σ.length/\σ1[0]?=σ[0]?)(k:KS σ1 o):KS σ o:=by
 cases o with
 | nx a b=>exact⟨k.1.trans h.1,k.2.trans h.2⟩
 | bk a b=>exact⟨k.1.trans h.1,k.2.trans h.2⟩
 | ct a b=>exact⟨k.1.trans h.1,k.2.trans h.2⟩
 | _=>trivial
def K0(m:Mst):Prop:=∀σ h,KS σ (m σ h)
def sW:K0 mSkip:=fun σ h=>⟨rfl,rfl⟩
def k_ex{α:Type}{m:Mx α}{k:α->Mst}(hk:∀v,K0 (k v)):K0 (mEx m k):=fun σ h=>by
 unfold mEx
 cases m σ h with
 | ok v h1=>exact hk v σ h1
 | _=>trivial
def k_ret{m:Mx PV}:K0 (bn m):=fun σ h=>by
 unfold bn
 cases m σ h with
 | ok v h1=>trivial
 | _=>trivial
def k_put{i:Nat}{v:PV}{σ:PSt}(h:i≠0):(σ.set i (some v)).length=σ.length/\(σ.set i (some v))[0]?=σ[0]?:=⟨by simp,qah h⟩
def k_set{i:Nat}{m:Mx PV}(h:i≠0):K0 (aU i m):=k_ex fun v σ h1=>k_put h
def k_seq{a b:Mst}(ha:K0 a)(hb:K0 b):K0 (aI a b):=fun σ h=>by
 have:=ha σ h
 unfold aI
 cases e:a σ h with
 | nx σ1 h1=>rw[e] at this;exact KS.of this (hb σ1 h1)
 | bk σ1 h1=>rw[e] at this;exact this
 | ct σ1 h1=>rw[e] at this;exact this
 | _=>trivial
def k_if{c:Mx Bool}{a b:Mst}(ha:K0 a)(hb:K0 b):K0 (mIf c a b):=k_ex fun x=>by
 cases x
 ·exact hb
 ·exact ha
def k_drop{m:Mx PV}:K0 (gu m):=k_ex fun _=>sW
section
variable {ws:List Nat}
def dq{a b:Xd ws}(ha:K0 a.m)(hb:K0 b.m):K0 (aq a b).m:=k_seq ha hb
def gX{i:Nat}{e:Xe ws}{hi:ws.contains i=false}{hz:e.fz=true}(h:i≠0):K0 (aD i e hi hz).m:=k_set h
def kx_setO{i:Nat}{e:Xe ws}{hi:ws.contains i=true}{hz:e.fr=true}(h:i≠0):K0 (gA i e hi hz).m:=k_set h
def sB{t:Xt ws}{e:Xe ws}:K0 (xIf t (aS e) xSkip).m:=k_if k_ret sW
def kx_mt{o:OpM}{i:Nat}{a:Xs ws}{hi:ws.contains i=true}{hz:a.fz=true}:K0 (xMt o i a hi hz).m:=k_drop
end
def k_body:K0 c6.m:=by
 unfold c6;exact dq (gX (by decide)) (dq (gX (by decide)) (dq (gX (by decide)) (dq sB (dq (gX (by decide)) (dq (gX (by decide)) (dq (gX (by decide)) (dq (kx_setO (by decide)) (dq sB (dq kx_mt sB)))))))))
def nine{σ:PSt}{x:Option PV}(h:σ.length=9)(h0:σ[0]?=some x):∃a1 a2 a3 a4 a5 a6 a7 a8,σ=[x,a1,a2,a3,a4,a5,a6,a7,a8]:=by
 match σ,h with
 | [b0,b1,b2,b3,b4,b5,b6,b7,b8],_ =>
  cases h0;exact⟨b1,b2,b3,b4,b5,b6,b7,b8,rfl⟩
def body_m:c6.m=(aI (aU 3 (ai opEq (ae 1) (mC (.int 1))))
 (aI (aU 4 (aB cv.m (ac (ae 2) (ac (ae 3) mNil))))
 (aI (aU 5 (mSm d4 (mC (.str "\n")) (ac (aB be.m (ac (ae 4) mNil)) mNil)))
 (aI (mIf (mOr (mB (ai opNeS (mCB fRepr (ac (aB aC.m (ac (ae 5) mNil)) mNil)) (mCB fRepr (ac (ae 4) mNil)))) (mB (ai opNe (aB bB.m (ac (aB aC.m (ac (ae 5) mNil)) mNil)) (ae 5)))) (bn (mC (.bl false))) mSkip)
 (aI (aU 6 (aB bx (ac (ae 2) (ac (mC (.int 13)) mNil))))
 (aI (aU 7 (aB cW.m (ac (ae 2) (ac (ae 6) (ac (ae 3) mNil)))))
 (aI (aU 5 (mSm d4 (mC (.str "\n")) (ac (aB bh.m (ac (ae 7) mNil)) mNil)))
 (aI (aU 8 (aB aG.m (ac (ae 6) (ac (ae 5) mNil))))
 (aI (mIf (mOr (lP (mB (mUn (iY ["list"]) (ae 8)))) (mOr (mB (ai opNeS (mCB fRepr (ac (ae 8) mNil)) (mCB fRepr (ac (ae 7) mNil)))) (mB (ai opNe (aB bL.m (ac (ae 8) mNil)) (ae 5))))) (bn (mC (.bl false))) mSkip)
 (aI (gu (mMt eM (ae 8) (ac (mC .non) mNil)))
 (mIf (mOr (mB (ai opNeS (mCB fRepr (ac (aB aG.m (ac (ae 6) (ac (ae 5) mNil))) mNil)) (mCB fRepr (ac (ae 7) mNil)))) (mB (ai opNeS (mCB fRepr (ac (aB aG.m (ac (mC (.int 12)) (ac (ae 5) mNil))) mNil)) (mCB fRepr (ac (ae 7) mNil))))) (bn (mC (.bl false))) mSkip))))))))))):=by
 have e:c6.m=(aI (aU 3 (ai opEq (ae 1) (mC (.int 1))))
 (aI (aU 4 (aB cv.m (ac (ae 2) (ac (ae 3) mNil))))
 (aI (aU 5 (mSm d4 (mC (.str "\n")) (ac (aB be.m (ac (ae 4) mNil)) mNil)))
 (aI (mIf (mOr (mB (ai opNeS (mCB fRepr (ac (aB aC.m (ac (ae 5) mNil)) mNil)) (mCB fRepr (ac (ae 4) mNil)))) (mB (ai opNe (aB bB.m (ac (aB aC.m (ac (ae 5) mNil)) mNil)) (ae 5)))) (bn (mC (.bl false))) mSkip)
 (aI (aU 6 (aB aK.m (ac (ae 2) (ac (mC (.int 13)) mNil))))
 (aI (aU 7 (aB cW.m (ac (ae 2) (ac (ae 6) (ac (ae 3) mNil)))))
 (aI (aU 5 (mSm d4 (mC (.str "\n")) (ac (aB bh.m (ac (ae 7) mNil)) mNil)))
 (aI (aU 8 (aB aG.m (ac (ae 6) (ac (ae 5) mNil))))
 (aI (mIf (mOr (lP (mB (mUn (iY ["list"]) (ae 8)))) (mOr (mB (ai opNeS (mCB fRepr (ac (ae 8) mNil)) (mCB fRepr (ac (ae 7) mNil)))) (mB (ai opNe (aB bL.m (ac (ae 8) mNil)) (ae 5))))) (bn (mC (.bl false))) mSkip)
 (aI (gu (mMt eM (ae 8) (ac (mC .non) mNil)))
 (mIf (mOr (mB (ai opNeS (mCB fRepr (ac (aB aG.m (ac (ae 6) (ac (ae 5) mNil))) mNil)) (mCB fRepr (ac (ae 7) mNil)))) (mB (ai opNeS (mCB fRepr (ac (aB aG.m (ac (mC (.int 12)) (ac (ae 5) mNil))) mNil)) (mCB fRepr (ac (ae 7) mNil))))) (bn (mC (.bl false))) mSkip))))))))))):=by
  unfold c6;rfl
 rw[e,rK]
def tail_eq:fO.m=(bn (iL (ai opEq (aB aC.m (ac (mC (.str "")) mNil)) (dR (ac (mC (.int 0)) (ac (dR mNil) mNil)))) (iL (ai opEqL (aB aG.m (ac (mC (.int 3)) (ac (mC (.str "")) mNil))) (ft mNil)) (ai opEq (aB aC.m (ac (mC (.str "0:")) mNil)) (dR (ac (mC (.int 1)) (ac (dR (ac (dR mNil) mNil)) mNil))))))):=by
 unfold fO;rfl
def uG:m_law=aI (nS (gq (ac (mC (.int 3)) mNil)) (gNm 1) (aI (aU 2 (aB eK (ac (ae 0) (ac (ae 1) mNil)))) c6.m)) fO.m:=by
 rw[body_m,tail_eq];rfl
def turn_m{h:MH}{a b tn:Int}{z0 a3 a4 a5 a6 a7 a8:Option PV}:∃σ' h',c6.m [z0,some (.int tn),some (.loc h.length),a3,a4,a5,a6,a7,a8] (h++[.lst [.int a,.int b,.int 0]])=.nx σ' h'/\σ'.length=9/\σ'[0]?=some z0/\∃q s,bA h' q s:=by
 have pn:bA (h++[.lst [.int a,.int b,.int 0]]) h.length (a,b,0):=app_0;obtain⟨env',s',q⟩:=body_p (x0:=none) (tn:=tn) (s:=(a,b,0));have em:∀(i:Nat) (d:D),([none,some (D.int tn),some D.pen,none,none,none,none,none,none]:am)[i]?=some (some d)->i=1/\d=.int tn\/i=2/\d=.pen:=fun i d e=>by
  match i,e with
  | 0,e=>cases e
  | 1,e=>cases e;exact .inl ⟨rfl,rfl⟩
  | 2,e=>cases e;exact .inr ⟨rfl,rfl⟩
  | 3,e=>cases e
  | 4,e=>cases e
  | 5,e=>cases e
  | 6,e=>cases e
  | 7,e=>cases e
  | 8,e=>cases e
  | n+9,e=>simp at e
 have no:∀i∈[8],∀d,([none,some (D.int tn),some D.pen,none,none,none,none,none,none]:am)[i]?≠some (some d):=fun i hi d e=>by
  have:i=8:=by simpa using hi
  subst this;cases e
 have c:PU.Cx h.length (h++[.lst [.int a,.int b,.int 0]]) (h++[MO.lst [.int a,.int b,.int 0]]).length [h.length] [h.length] [8] [z0,some (.int tn),some (.loc h.length),a3,a4,a5,a6,a7,a8] [none,some (.int tn),some .pen,none,none,none,none,none,none] (a,b,0):=by
  refine⟨fun o ho=>?_,fun _ h=>h,fun o ho=>?_,by simp,qaj _,pn,⟨rfl,fun i d e _=>?_,fun i d e hi=>absurd e (no i hi d)⟩⟩
  ·have:o=h.length:=by simpa using ho
   subst this;simp
  ·have:o=h.length:=by simpa using ho
   subst this;simp
  ·rcases em i d e with ⟨rfl,rfl⟩|⟨rfl,rfl⟩
   ·exact⟨_,rfl,rfl⟩
   ·exact⟨_,rfl,rfl⟩
 have k:=c6.ok c fun i j hi _ _ d _ _ e=>absurd e (no i hi d);rw[q] at k;obtain⟨σ',h',e,O',_,cx,_⟩:=k;have kk:=k_body [z0,some (.int tn),some (.loc h.length),a3,a4,a5,a6,a7,a8] (h++[.lst [.int a,.int b,.int 0]]);rw[e] at kk;exact⟨σ',h',e,kk.1,kk.2,_,_,cx.pen⟩
def tail_m{h:MH}{q:Nat}{s:Pen}{b0 b1 b2 b3 b4 b5 b6 b7 b8:Option PV}(pn:bA h q s):∃h',fO.m [b0,b1,b2,b3,b4,b5,b6,b7,b8] h=.rt (.bl true) h':=by
 have em:∀(i:Nat) (d:D),([none,none,none,none,none,none,none,none,none]:am)[i]?≠some (some d):=fun i d e=>by
  match i,e with
  | 0,e=>cases e
  | 1,e=>cases e
  | 2,e=>cases e
  | 3,e=>cases e
  | 4,e=>cases e
  | 5,e=>cases e
  | 6,e=>cases e
  | 7,e=>cases e
  | 8,e=>cases e
  | n+9,e=>simp at e
 have c:PU.Cx q h h.length [q] [q] [8] [b0,b1,b2,b3,b4,b5,b6,b7,b8] [none,none,none,none,none,none,none,none,none] s:=by
  refine⟨fun o ho=>?_,fun _ h=>h,fun o ho=>?_,by simp,qaj _,pn,⟨rfl,fun i d e _=>absurd e (em i d),fun i d e hi=>absurd e (em i d)⟩⟩
  ·rw[qbj.mp ho];exact aW pn
  ·rw[qbj.mp ho];exact aW pn
 have k:=fO.ok c fun i j hi _ _ d _ _ e=>absurd e (em i d);rw[tail_p] at k;obtain⟨v,h',e,_,_,_,rv,_⟩:=k;rw[show v=PV.bl true from rv] at e;exact⟨h',e⟩
def law_true(ns:List Int)(hn:ns.length<=63):∃h',f_law [.frl (ns.map .int)] []=.ok (.bl true) h':=by
 unfold f_law;rw[jo (by rfl),uG];have er:gq (ac (mC (.int 3)) mNil) [some (.frl (ns.map .int)),none,none,none,none,none,none,none,none] []=.ok ⟨bw 0 3,[]⟩ []:=itR1 (n:=3) rfl (by ext);obtain⟨σ',h',e,hσ,hσ0,hpen⟩:=qM (it:=⟨bw 0 3,[]⟩) (g:=gNm 1) (b:=aI (aU 2 (aB eK (ac (ae 0) (ac (ae 1) mNil)))) c6.m)
  (fun j σ h=>σ.length=9/\σ[0]?=some (some (.frl (ns.map .int)))/\(0<j->∃q s,bA h q s)) (bw 0 3) 0 [some (.frl (ns.map .int)),none,none,none,none,none,none,none,none] [] ⟨rfl,rfl,fun z=>by ext⟩ (fun _ _ _ _=>ok_none.mpr trivial) (fun m σ h x ⟨hl,h0,_⟩ hx=>by
   obtain⟨a1,a2,a3,a4,a5,a6,a7,a8,rfl⟩:=nine hl h0;obtain⟨rfl,hm⟩:=rf hx;obtain⟨a,b,qp⟩:=uK (h:=h) (ns:=ns) (k:=m) (by ext);obtain⟨σ2,h2,e2,k1,k2,k3⟩:=turn_m (h:=h) (a:=a) (b:=b) (tn:=(m:Int)) (z0:=some (.frl (ns.map .int))) (a3:=a3) (a4:=a4) (a5:=a5) (a6:=a6) (a7:=a7) (a8:=a8);refine⟨_,_,σ2,h2,rfl,?_,k1,k2,fun _=>k3⟩;rw[jJ];have e1:aU 2 (aB eK (ac (ae 0) (ac (ae 1) mNil))) [some (.frl (ns.map .int)),some (.int (m:Int)),a2,a3,a4,a5,a6,a7,a8] h=.nx [some (.frl (ns.map .int)),some (.int (m:Int)),some (.loc h.length),a3,a4,a5,a6,a7,a8] (h++[.lst [.int a,.int b,.int 0]]):=by
    simp -implicitDefEqProofs [qp]
   refine (congrArg (fun z:SOut=>z.then _) e1).trans ?_;rw[MM.az]
   exact e2)
 obtain⟨q,s,pn⟩:=hpen (by rw[hX];ext);obtain⟨b1,b2,b3,b4,b5,b6,b7,b8,rfl⟩:=nine hσ hσ0;obtain⟨h2,e2⟩:=tail_m (b0:=some (.frl (ns.map .int))) (b1:=b1) (b2:=b2) (b3:=b3) (b4:=b4) (b5:=b5) (b6:=b6) (b7:=b7) (b8:=b8) pn;refine⟨h2,?_⟩;have e0:bH 9 [PV.frl (ns.map .int)]=[some (.frl (ns.map .int)),none,none,none,none,none,none,none,none]:=rfl;rw[e0,jJ,mFor_ap,er,aF,e,MM.az,e2];rfl
end Law
namespace Law
open PySem PySem.Spec PyProof.Rows L2 MM
set_option maxHeartbeats 4000000
def top(i:Nat):Stmt:=PySem.Challenge.pw_fewfills_k46_sheets_and_rows_read.main.body.getD i (.Pass ⟨0,0,0,0⟩)
local macro_rules | `(tactic| contradiction)=>do let q <-[`w_var,`w_int,`w_bl,`w_str,`w_non,`w_nil,`w_cons,`w_ix,`w_call,`w_lend,`w_LS,`w_isi,`w_blt,`w_bin,`w_cmp,`w_neg,`w_notV,`w_chain,`w_one,`w_andV,`w_ifE,`w_tup,`w_lst,`w_sl,`w_no,`w_pt,`w_comp,`w_ts0,`w_ts1,`w_me,`w_glT,`w_glI,`w_tcmp,`w_tchain,`w_tnot,`w_tw,`w_and1,`w_and,`w_or1,`w_or,`w_tru,`w_val,`w_nm,`w_gl,`w_gc,`w_gp,`w_iE,`w_iR1,`w_itS,`w_s0,`eG,`cc,`w_ret,`w_retO,`w_if,`w_for,`w_wh,`w_set,`w_setO,`w_mt,`vv,`w_pass,`w_sm,`w_fs,`w_itC,`w_slC,`w_trS,`j_AddS,`j_InS,`b_intS,`s_Join,`s_Zfill,`s_Split,`qa,`pg,`w_glS,`w_bad,`j_Sub,`j_Fd,`j_Mod,`j_Pow,`j_Lt,`j_Le,`j_Gt,`j_Ge,`j_Eq,`j_Ne,`j_EqL,`j_NeS,`j_Is,`b_abs,`b_int,`b_str,`b_len,`b_list,`b_tuple,`b_repr,`b_all,`b_sortR,`B_int,`B_bool,`B_tuple,`B_list,`B_str].foldrM (fun n t=>`(tactic| first | apply $(Lean.mkIdent n) | $t:tactic)) (<-`(tactic| fail));`(tactic| (first | assumption | ((with_reducible apply w_par);assumption;(intro env h;cases env;cases h;rfl)) | with_reducible $q:tactic | exact rfl | decide +kernel | refine fun Y c=>⟨?_,?_,?_⟩ | (intro _;rfl) | exact fun _ _=>rfl | exact nomark _ | omega | exact⟨⟨rfl,rfl⟩,rfl,rfl,rfl⟩ | with_unfolding_all rfl) <;> contradiction)
abbrev fG:Stmt:=top 5
abbrev gK:Stmt:=top 6
abbrev cm:Stmt:=top 7
abbrev eV:Stmt:=top 8
abbrev fD:Stmt:=top 11
abbrev gp:Stmt:=top 13
abbrev eX:Stmt:=top 14
abbrev ib:Stmt:=top 15
abbrev eD:Stmt:=top 20
abbrev dA:Stmt:=top 21
abbrev dQ:Stmt:=top 22
abbrev d6:Stmt:=top 23
abbrev eR:Stmt:=top 24
abbrev dz:Stmt:=top 25
abbrev dW:Stmt:=top 26
abbrev dw:Stmt:=top 27
abbrev eS:Stmt:=top 28
abbrev dZ:Stmt:=top 29
abbrev fE:Stmt:=top 30
abbrev eA:Stmt:=top 31
abbrev eT:Stmt:=top 32
abbrev jH:Stmt:=top 34
abbrev qW:List Str:=["_law_script","_law_k","_law_cell"]
abbrev qF:List Str:=["min","len","abs"]
abbrev P_l_pen:List Str:=["_law_script","_law_k"]
def b_l_pen(hsc:Sc X jH)(g:Gd X qW qF k)(dc:DefCx X)(n0:Nn X "abs")(n6:Nn X "len")(n8:Nn X "min"):MSs X (au jH) m_l_pen :=
 (MS2.h (m1c (a_1 g 2 (e_1 (aP dk (aP gc aw (kV g 1)) aw)))
 (m1c (s_1 (gF (kTc oj_lt (kV g 1) (kCb g 0 (ui g) n8 sQ (ao (kCb g 1 lf n6 kL (ao (kV g 0) aE)) (ao aw aE)))) (MS2.h (m1n (a_1 g 2 (e_1 (kIx (kV g 0) (kV g 1)))))) (MS2.h (m1n (s_1 (gF (kTc oj_gt (kCb g 1 lf n6 kL (ao (kV g 0) aE)) aw) (MS2.h (m1n (a_1 g 2 (e_1 (aP dk (aP cZ (kIx (kV g 0) (aP cZ (kV g 1) (kCb g 0 (ui g) n8 sQ (ao (kCb g 1 lf n6 kL (ao (kV g 0) aE)) (ao aw aE))))) (aP o8 aw aw)) (aP gc aw (kV g 1))))))) eJ))))))
 (m1c (s_1 (gF (kTc oj_ge (kCb g 2 oz n0 pz (ao (kV g 2) aE)) (aP o8 aw aw)) (MS2.h (m1n (r_1 (l_1 (cK (e_1 aw) (cK (e_1 (kCb g 2 oz n0 pz (ao (kV g 2) aE))) (cK (e_1 aw) hJ))))))) eJ))
 (m1n (r_1 (l_1 (cK (e_1 aw) (cK (e_1 (aP dk (aP cZ (kV g 2) aw) (aP gc aw (kV g 1)))) (cK (e_1 aw) hJ))))))))))
abbrev ij:Stmt:=top 35
abbrev oi:List Str:=["_law_pen_here","_law_size","_law_number_here","_law_drawn"]
abbrev nY:List Str:=[]
abbrev vb:List Str:=["_law_pen_here","_law_size"]
def vH(hsc:Sc X ij)(g:Gd X oi nY k)(dc:DefCx X):MSs X (au ij) m_l_draw :=
 (MS2.h (m1c (s_1 (tI (aP dk (kIx (kV g 0) aw) aw) (uj (kV g 0) aw)))
 (m1c (s_1 (gF (kTc (iF g.room) (kIx (kV g 0) aw) aw) (MS2.h (m1c (a_1 g 3 (e_1 (aP cZ (kIx (kV g 0) aw) (kV g 1))))
 (m1c (s_1 (tI (aP (r9 g.room) (kIx (kV g 0) aw) (kV g 1)) (uj (kV g 0) aw)))
 (m1n (r_1 (e_1 (kV g 3))))))) eJ))
 (m1c (a_1 g 2 (e_1 (aP cZ (aP gc (aP dk (aP dk (kIx (kV g 0) aw) (aP gc aw (kIx (kV g 0) aw))) aw) aw) aw)))
 (m1c (a_1 g 2 (e_1 (aP cZ (aP gc (kV g 2) (aP dk (aP dk (aP cZ (kV g 2) aw) (kIx (kV g 0) aw)) aw)) aw)))
 (m1n (r_1 (e_1 (aP cZ (aP (r9 g.room) (aP cZ (aP gc (kV g 2) (aP dk (aP cZ (kV g 2) aw) aw)) aw) aw) (kV g 1))))))))))
abbrev fF:Stmt:=top 36
abbrev fH:Stmt:=top 37
abbrev jz:Stmt:=top 38
abbrev jA:Stmt:=top 39
abbrev gz:Stmt:=top 40
abbrev gI:Stmt:=top 41
abbrev ik:Stmt:=top 42
abbrev ig:Stmt:=top 43
abbrev gJ:Stmt:=top 44
abbrev cO:Stmt:=top 45
abbrev df:Stmt:=top 46
abbrev ky:Stmt:=top 47
abbrev N_law:List Str:=["_law_script","_law_turn","_law_pen_here","_law_far_here","_law_sheet_here","_law_text_here","_law_n","_law_rows_here","_law_found"]
abbrev G_law:List Str:=["range","_law_pen","_law_sheet","_law_sheet_lines","repr","read_sheet","show_sheet","_law_draw","_law_rows","_law_rows_lines","read_rows","isinstance","list","show_rows"]
abbrev P_law:List Str:=["_law_script"]
def b_law(hsc:Sc X ky)(g:Gd X N_law G_law k)(dc:DefCx X)(c19:Cal X "read_sheet" ["text"] aC.m k)(c20:Cal X "read_rows" ["n","text"] aG.m k)(c12:Cal X "show_rows" ["rows"] bL.m k)(c33:Cal X "_law_rows_lines" ["_law_rows_here"] bh.m k)(c29:Cal X "_law_rows" ["_law_pen_here","_law_n","_law_far_here"] cW.m k)(c22:Cal X "_law_draw" ["_law_pen_here","_law_size"] bx k)(c11:Cal X "show_sheet" ["sheet"] bB.m k)(c32:Cal X "_law_sheet_lines" ["_law_sheet_here"] be.m k)(c28:Cal X "_law_sheet" ["_law_pen_here","_law_far_here"] cv.m k)(c21:Cal X "_law_pen" ["_law_script","_law_k"] eK k)(n9:Nn X "range")(n10:Nn X "repr")(n5:Nn X "isinstance")(n7:Nn X "list"):MSs X (au ky) m_law :=
 (MS2.h (m1c (s_1 (ue g (kR1 g 0 n9 (ao aw aE)) (kNm g 1) (MS2.h (m1c (a_1 g 2 (e_1 (kCa g 1 c21 (ao (kV g 0) (ao (kV g 1) aE)))))
 (m1c (a_1 g 3 (e_1 (kCm (iF g.room) (kV g 1) aw)))
 (m1c (a_1 g 4 (e_1 (kCa g 2 c28 (ao (kV g 2) (ao (kV g 3) aE)))))
 (m1c (a_1 g 5 (e_1 (sy PySem.F.slot_str_join PySem.F.type_str_join lI hG (ao (kCa g 3 c32 (ao (kV g 4) aE)) aE))))
 (m1c (s_1 (gF (MW.mt (kS (kTc kF (kCb g 4 (dI g) n10 dJ (ao (kCa g 5 c19 (ao (kV g 5) aE)) aE)) (kCb g 4 (dI g) n10 dJ (ao (kV g 4) aE))) (k5 (kTc (rP g.room) (kCa g 6 c11 (ao (kCa g 5 c19 (ao (kV g 5) aE)) aE)) (kV g 5))))) (MS2.h (m1n (r_1 (e_1 ni)))) eJ))
 (m1c (a_1 g 6 (e_1 (kCa g 7 c22 (ao (kV g 2) (ao aw aE)))))
 (m1c (a_1 g 7 (e_1 (kCa g 8 c29 (ao (kV g 2) (ao (kV g 6) (ao (kV g 3) aE))))))
 (m1c (a_1 g 5 (e_1 (sy PySem.F.slot_str_join PySem.F.type_str_join lI hG (ao (kCa g 9 c33 (ao (kV g 7) aE)) aE))))
 (m1c (a_1 g 8 (e_1 (kCa g 10 c20 (ao (kV g 6) (ao (kV g 5) aE)))))
 (m1c (s_1 (gF (MW.mt (kS (tT (sK (sU g (i:=11) (j:=12) rfl n5 rfl n7 qI uy (kV g 8)))) (kS (kTc kF (kCb g 4 (dI g) n10 dJ (ao (kV g 8) aE)) (kCb g 4 (dI g) n10 dJ (ao (kV g 7) aE))) (k5 (kTc (rP g.room) (kCa g 13 c12 (ao (kV g 8) aE)) (kV g 5)))))) (MS2.h (m1n (r_1 (e_1 ni)))) eJ))
 (m1c (s_1 (qU (me_bm mP md mF (kV g 8) (ao tw aE))))
 (m1n (s_1 (gF (MW.mt (kS (kTc kF (kCb g 4 (dI g) n10 dJ (ao (kCa g 10 c20 (ao (kV g 6) (ao (kV g 5) aE))) aE)) (kCb g 4 (dI g) n10 dJ (ao (kV g 7) aE))) (k5 (kTc kF (kCb g 4 (dI g) n10 dJ (ao (kCa g 10 c20 (ao aw (ao (kV g 5) aE))) aE)) (kCb g 4 (dI g) n10 dJ (ao (kV g 7) aE)))))) (MS2.h (m1n (r_1 (e_1 ni)))) eJ)))))))))))))))))
 (m1n (r_1 (e_1 (oB (kCm (iF g.room) (kCa g 5 c19 (ao hG aE)) (ME1.h (t_1 (cK (e_1 aw) (cK (e_1 (nH aE)) hJ))))) (oB (kCm (oj_eqL g.room) (kCa g 10 c20 (ao aw (ao hG aE))) (ul aE)) (tZ (kCm (iF g.room) (kCa g 5 c19 (ao hG aE)) (ME1.h (t_1 (cK (e_1 aw) (cK (t_1 (cK (e_1 (nH aE)) hJ)) hJ)))))))))))))
def bi_law:g7 "law" ky P_law:=fun _ _ _ _ _ _=>ar1 fun _=>rfl
abbrev iu:List Str:=["thing"]
def sj{K:qaa}(c:Wc X P w K mg base iu iu 0 (ag fG))(d:DefCx X)(z5:Zn K "isinstance")(z2:Zn K "bool")(z4:Zn K "int"):MS2 X (au fG) d5.m:=by unfold d5;apply eG <;> contradiction
abbrev iU:List Str:=["thing"]
def tJ{K:qaa}(c:Wc X P w K mg base iU iU 0 (ag gK))(d:DefCx X)(z6:Zn K "len")(z5:Zn K "isinstance")(z14:Zn K "tuple"):MS2 X (au gK) fb.m:=by unfold fb;apply eG <;> contradiction
abbrev dh:List Str:=["a","b","rest"]
def jN{K:qaa}(c:Wc X P w K mg base dh dh 0 (ag cm))(d:DefCx X):MS2 X (au cm) bF.m:=by unfold bF;apply cc <;> contradiction
abbrev gM:List Str:=["thing"]
def qd{K:qaa}(c:Wc X P w K mg base gM gM 1 (ag eV))(d:DefCx X)(z0:Zn K "abs")(a2:FnAt P w K mg base "greatest_shared" Ps2 bG.m 1)(a0:FnAt P w K mg base "is_whole" Ps0 bY.m 1)(a1:FnAt P w K mg base "is_pair" Ps1 b9.m 1):MS2 X (au eV) dv.m:=by unfold dv;apply cc <;> contradiction
abbrev iz:List Str:=["n","thing"]
def rZ{K:qaa}(c:Wc X P w K mg base iz iz 1 (ag fD))(d:DefCx X)(a0:FnAt P w K mg base "is_whole" Ps0 bY.m 1):MS2 X (au fD) dX.m:=by unfold dX;apply eG <;> contradiction
abbrev ji:List Str:=["n","thing"]
def uf{K:qaa}(c:Wc X P w K mg base ji ji 2 (ag gp))(d:DefCx X)(v_NOUGHT:TupG K mg "NOUGHT" 0 1)(a3:FnAt P w K mg base "is_number" Ps3 ce.m 2)(a4:FnAt P w K mg base "is_place" Ps4 cy.m 2)(a1:FnAt P w K mg base "is_pair" Ps1 b9.m 1):MS2 X (au gp) eZ.m:=by unfold eZ;apply eG <;> contradiction
abbrev gP:List Str:=["n","things"]
def pQ{K:qaa}(c:Wc X P w K mg base gP gP 3 (ag eX))(d:DefCx X)(z6:Zn K "len")(z11:Zn K "set")(z1:Zn K "all")(a5:FnAt P w K mg base "is_part" Ps5 c9.m 3):MS2 X (au eX) dr.m:=by unfold dr;apply cc <;> contradiction
abbrev j7:List Str:=["n","thing"]
def u9{K:qaa}(c:Wc X P w K mg base j7 j7 4 (ag ib))(d:DefCx X)(z7:Zn K "list")(z12:Zn K "sorted")(z5:Zn K "isinstance")(z14:Zn K "tuple")(a6:FnAt P w K mg base "are_parts" Ps6 dn.m 4):MS2 X (au ib) fX.m:=by unfold fX;apply eG <;> contradiction
abbrev f8:List Str:=["whole","text"]
def pA{K:qaa}(c:Wc X P w K mg base f8 f8 0 (ag eD))(d:DefCx X)(z13:Zn K "str"):MS2 X (au eD) cU.m:=by unfold cU;apply cc <;> contradiction
abbrev fy:List Str:=["number","text"]
def mU{K:qaa}(c:Wc X P w K mg base fy fy 1 (ag dA))(d:DefCx X)(z0:Zn K "abs")(a8:FnAt P w K mg base "show_whole" Ps8 cp.m 1):MS2 X (au dA) cE.m:=by unfold cE;apply cc <;> contradiction
abbrev gi:List Str:=["parts"]
def nA{K:qaa}(c:Wc X P w K mg base gi gi 2 (ag dQ))(d:DefCx X)(z13:Zn K "str")(a9:FnAt P w K mg base "show_number" Ps9 bg.m 2):MS2 X (au dQ) cV.m:=by unfold cV;apply eG <;> contradiction
abbrev fV:List Str:=["sheet"]
def pq{K:qaa}(c:Wc X P w K mg base fV fV 3 (ag d6))(d:DefCx X)(z3:Zn K "enumerate")(a10:FnAt P w K mg base "show_parts" Ps10 bQ.m 3):MS2 X (au d6) de.m:=by unfold de;apply eG <;> contradiction
abbrev gU:List Str:=["rows"]
def qb{K:qaa}(c:Wc X P w K mg base gU gU 3 (ag eR))(d:DefCx X)(a10:FnAt P w K mg base "show_parts" Ps10 bQ.m 3)(a9:FnAt P w K mg base "show_number" Ps9 bg.m 2):MS2 X (au eR) dj.m:=by unfold dj;apply eG <;> contradiction
abbrev fx:List Str:=["text"]
def m6{K:qaa}(c:Wc X P w K mg base fx fx 0 (ag dz))(d:DefCx X)(z1:Zn K "all")(z6:Zn K "len")(y_FIGURES:∃t,PySem.W.nsIn K mainGlobals "FIGURES"=some (some (.str "0123456789" t)))(y_MOST_FIGURES:∃t,PySem.W.nsIn K mainGlobals "MOST_FIGURES"=some (some (.int 60 t))):MS2 X (au dz) cH.m:=by unfold cH;apply eG <;> contradiction
abbrev fQ:List Str:=["n","text","place"]
def oJ{K:qaa}(c:Wc X P w K mg base fQ fQ 2 (ag dW))(d:DefCx X)(z13:Zn K "str")(z4:Zn K "int")(a4:FnAt P w K mg base "is_place" Ps4 cy.m 2)(a13:FnAt P w K mg base "are_figures" Ps13 bt.m 1):MS2 X (au dW) cR.m:=by unfold cR;apply cc <;> contradiction
abbrev fu:List Str:=["text","cut","sign","top","bottom","number"]
def m5{K:qaa}(c:Wc X P w K mg base fu fu 2 (ag dw))(d:DefCx X)(z4:Zn K "int")(z6:Zn K "len")(a9:FnAt P w K mg base "show_number" Ps9 bg.m 2)(a3:FnAt P w K mg base "is_number" Ps3 ce.m 2)(a13:FnAt P w K mg base "are_figures" Ps13 bt.m 1):MS2 X (au dw) cG.m:=by unfold cG;apply cc <;> contradiction
abbrev gQ:List Str:=["n","word","cut"]
def pK{K:qaa}(c:Wc X P w K mg base gQ gQ 3 (ag eS))(d:DefCx X)(a15:FnAt P w K mg base "read_number" Ps15 bq.m 3)(a14:FnAt P w K mg base "read_place" Ps14 cS.m 3):MS2 X (au eS) dm.m:=by unfold dm;apply cc <;> contradiction
abbrev f6:List Str:=["n","words","row"]
def oM{K:qaa}(c:Wc X P w K mg base f6 f6 5 (ag dZ))(d:DefCx X)(z14:Zn K "tuple")(a7:FnAt P w K mg base "is_row" Ps7 fU.m 5)(a16:FnAt P w K mg base "read_part" Ps16 bM.m 4):MS2 X (au dZ) cY.m:=by unfold cY;apply cc <;> contradiction
abbrev ii:List Str:=["text"]
def rW{K:qaa}(c:Wc X P w K mg base ii ii 0 (ag fE))(d:DefCx X)(z5:Zn K "isinstance")(z13:Zn K "str"):MS2 X (au fE) dS.m:=by unfold dS;apply cc <;> contradiction
abbrev gb:List Str:=["text","lines","n","rows","i","line","words","row"]
def oD{K:qaa}(c:Wc X P w K mg base gb gb 6 (ag eA))(d:DefCx X)(z14:Zn K "tuple")(z3:Zn K "enumerate")(z6:Zn K "len")(y_MOST_PLACES:∃t,PySem.W.nsIn K mainGlobals "MOST_PLACES"=some (some (.int 12 t)))(a17:FnAt P w K mg base "read_parts" Ps17 bp.m 6)(a18:FnAt P w K mg base "lines_of" Ps18 cw.m 1):MS2 X (au eA) c5.m:=by unfold c5;apply cc <;> contradiction
abbrev gT:List Str:=["n","text","rows","k","line","words","parts","right"]
def pN{K:qaa}(c:Wc X P w K mg base gT gT 6 (ag eT))(d:DefCx X)(z3:Zn K "enumerate")(y_MOST_ROWS:∃t,PySem.W.nsIn K mainGlobals "MOST_ROWS"=some (some (.int 20 t)))(a18:FnAt P w K mg base "lines_of" Ps18 cw.m 1)(a15:FnAt P w K mg base "read_number" Ps15 bq.m 3)(a17:FnAt P w K mg base "read_parts" Ps17 bp.m 6):MS2 X (au eT) du.m:=by unfold du;apply cc <;> contradiction
abbrev iw:List Str:=["_law_top","_law_bottom","_law_one","_law_other"]
def sA{K:qaa}(c:Wc X P w K mg base iw iw 0 (ag fF))(d:DefCx X)(z0:Zn K "abs"):MS2 X (au fF) dN.m:=by unfold dN;apply cc <;> contradiction
abbrev im:List Str:=["_law_pen_here","_law_way","_law_top","_law_bottom"]
def rM{K:qaa}(c:Wc X P w K mg base im im 1 (ag fH))(d:DefCx X)(a23:FnAt P w K mg base "_law_lowest" Ps23 cb.m 1)(a22:FnAt P w K mg base "_law_draw" Ps22 bx 1):MS2 X (au fH) dM.m:=by unfold dM;apply cc <;> contradiction
abbrev lF:List Str:=["_law_pen_here","_law_way","_law_top","_law_bottom"]
def h_l_far{K:qaa}(c:Wc X P w K mg base lF lF 1 (ag jz))(d:DefCx X)(a23:FnAt P w K mg base "_law_lowest" Ps23 cb.m 1)(a22:FnAt P w K mg base "_law_draw" Ps22 bx 1):MS2 X (au jz) g6.m:=by unfold g6;apply cc <;> contradiction
abbrev lM:List Str:=["_law_pen_here","_law_far_here"]
def h_l_any{K:qaa}(c:Wc X P w K mg base lM lM 2 (ag jA))(d:DefCx X)(a24:FnAt P w K mg base "_law_number" Ps24 dP.m 2)(a25:FnAt P w K mg base "_law_far" Ps25 gZ.m 2):MS2 X (au jA) fJ.m:=by unfold fJ;apply cc <;> contradiction
abbrev jb:List Str:=["_law_pen_here","_law_n","_law_far_here","_law_some"]
def sS{K:qaa}(c:Wc X P w K mg base jb jb 3 (ag gz))(d:DefCx X)(z9:Zn K "range")(z14:Zn K "tuple")(a22:FnAt P w K mg base "_law_draw" Ps22 bx 1)(a26:FnAt P w K mg base "_law_any" Ps26 cL.m 3):MS2 X (au gz) fg.m:=by unfold fg;apply cc <;> contradiction
abbrev jd:List Str:=["_law_pen_here","_law_far_here","_law_n"]
def sV{K:qaa}(c:Wc X P w K mg base jd jd 4 (ag gI))(d:DefCx X)(z9:Zn K "range")(z14:Zn K "tuple")(z4:Zn K "int")(a27:FnAt P w K mg base "_law_parts" Ps27 bN.m 4)(a22:FnAt P w K mg base "_law_draw" Ps22 bx 1):MS2 X (au gI) fh.m:=by unfold fh;apply cc <;> contradiction
abbrev jZ:List Str:=["_law_pen_here","_law_n","_law_far_here","_law_many","_law_rows_here","_law_k","_law_right"]
def u8{K:qaa}(c:Wc X P w K mg base jZ jZ 4 (ag ik))(d:DefCx X)(z9:Zn K "range")(z4:Zn K "int")(a27:FnAt P w K mg base "_law_parts" Ps27 bN.m 4)(a22:FnAt P w K mg base "_law_draw" Ps22 bx 1)(a26:FnAt P w K mg base "_law_any" Ps26 cL.m 3):MS2 X (au ik) gh.m:=by unfold gh;apply cc <;> contradiction
abbrev kv:List Str:=["_law_number_here"]
def uO{K:qaa}(c:Wc X P w K mg base kv kv 0 (ag ig))(d:DefCx X)(z13:Zn K "str"):MS2 X (au ig) f9.m:=by unfold f9;apply cc <;> contradiction
abbrev jj:List Str:=["_law_parts_here"]
def tQ{K:qaa}(c:Wc X P w K mg base jj jj 1 (ag gJ))(d:DefCx X)(z13:Zn K "str")(a30:FnAt P w K mg base "_law_text" Ps30 dG.m 1):MS2 X (au gJ) fe.m:=by unfold fe;apply eG <;> contradiction
abbrev dU:List Str:=["_law_sheet_here"]
def ln{K:qaa}(c:Wc X P w K mg base dU dU 2 (ag cO))(d:DefCx X)(z9:Zn K "range")(z13:Zn K "str")(a31:FnAt P w K mg base "_law_words" Ps31 cX.m 2):MS2 X (au cO) bZ.m:=by unfold bZ;apply eG <;> contradiction
abbrev eN:List Str:=["_law_rows_here"]
def ly{K:qaa}(c:Wc X P w K mg base eN eN 2 (ag df))(d:DefCx X)(a31:FnAt P w K mg base "_law_words" Ps31 cX.m 2)(a30:FnAt P w K mg base "_law_text" Ps30 dG.m 1):MS2 X (au df) cq.m:=by unfold cq;apply eG <;> contradiction
def all_fn{K:qaa}(b:Ba P w K mg base)
  (D0:DefAt K "is_whole" fG)
  (D1:DefAt K "is_pair" gK)
  (D2:DefAt K "greatest_shared" cm)
  (D3:DefAt K "is_number" eV)
  (D4:DefAt K "is_place" fD)
  (D5:DefAt K "is_part" gp)
  (D6:DefAt K "are_parts" eX)
  (D7:DefAt K "is_row" ib)
  (D8:DefAt K "show_whole" eD)
  (D9:DefAt K "show_number" dA)
  (D10:DefAt K "show_parts" dQ)
  (D11:DefAt K "show_sheet" d6)
  (D12:DefAt K "show_rows" eR)
  (D13:DefAt K "are_figures" dz)
  (D14:DefAt K "read_place" dW)
  (D15:DefAt K "read_number" dw)
  (D16:DefAt K "read_part" eS)
  (D17:DefAt K "read_parts" dZ)
  (D18:DefAt K "lines_of" fE)
  (D19:DefAt K "read_sheet" eA)
  (D20:DefAt K "read_rows" eT)
  (D21:DefAt K "_law_pen" jH)
  (D22:DefAt K "_law_draw" ij)
  (D23:DefAt K "_law_lowest" fF)
  (D24:DefAt K "_law_number" fH)
  (D25:DefAt K "_law_far" jz)
  (D26:DefAt K "_law_any" jA)
  (D27:DefAt K "_law_parts" gz)
  (D28:DefAt K "_law_sheet" gI)
  (D29:DefAt K "_law_rows" ik)
  (D30:DefAt K "_law_text" ig)
  (D31:DefAt K "_law_words" gJ)
  (D32:DefAt K "_law_sheet_lines" cO)
  (D33:DefAt K "_law_rows_lines" df)
  (D34:DefAt K "law" ky)
  (z0:Zn K "abs")
  (z1:Zn K "all")
  (z2:Zn K "bool")
  (z3:Zn K "enumerate")
  (z4:Zn K "int")
  (z5:Zn K "isinstance")
  (z6:Zn K "len")
  (z7:Zn K "list")
  (z8:Zn K "min")
  (z9:Zn K "range")
  (z10:Zn K "repr")
  (z11:Zn K "set")
  (z12:Zn K "sorted")
  (z13:Zn K "str")
  (z14:Zn K "tuple")
  (y_FIGURES:∃t,PySem.W.nsIn K mainGlobals "FIGURES"=some (some (.str "0123456789" t)))
  (y_MOST_FIGURES:∃t,PySem.W.nsIn K mainGlobals "MOST_FIGURES"=some (some (.int 60 t)))
  (y_MOST_PLACES:∃t,PySem.W.nsIn K mainGlobals "MOST_PLACES"=some (some (.int 12 t)))
  (y_MOST_ROWS:∃t,PySem.W.nsIn K mainGlobals "MOST_ROWS"=some (some (.int 20 t)))
  (y_NOUGHT:kI K "NOUGHT" 0 1)
   :FnAt P w K mg base "law" P_law f_law 8:=by
 have v_FIGURES:∃t,mg "FIGURES"=some (.str "0123456789" t):=let ⟨t,e⟩:=y_FIGURES;⟨t,PySem.W.mg_of b.kin b.ns e⟩;have v_MOST_FIGURES:∃t,mg "MOST_FIGURES"=some (.int 60 t):=let ⟨t,e⟩:=y_MOST_FIGURES;⟨t,PySem.W.mg_of b.kin b.ns e⟩;have v_MOST_PLACES:∃t,mg "MOST_PLACES"=some (.int 12 t):=let ⟨t,e⟩:=y_MOST_PLACES;⟨t,PySem.W.mg_of b.kin b.ns e⟩;have v_MOST_ROWS:∃t,mg "MOST_ROWS"=some (.int 20 t):=let ⟨t,e⟩:=y_MOST_ROWS;⟨t,PySem.W.mg_of b.kin b.ns e⟩;have v_NOUGHT:=y_NOUGHT.mg b.kin b.ns;have a0:=fnW (F:=bY) iu b D0 fun X c d=>sj c d z5 z2 z4;have a1:=fnW (F:=b9) iU b D1 fun X c d=>tJ c d z6 z5 z14;have a2:=fnW (F:=bG) dh b D2 fun X c d=>jN c d;have a3:=fnW (F:=ce) gM b D3 fun X c d=>qd c d z0 a2 a0 a1;have a4:=fnW (F:=cy) iz b D4 fun X c d=>rZ c d  a0;have a5:=fnW (F:=c9) ji b D5 fun X c d=>uf c d v_NOUGHT a3 a4 a1;have a6:=fnW (F:=dn) gP b D6 fun X c d=>pQ c d z6 z11 z1 a5;have a7:=fnW (F:=fU) j7 b D7 fun X c d=>u9 c d z7 z12 z5 z14 a6;have a8:=fnW (F:=cp) f8 b D8 fun X c d=>pA c d z13;have a9:=fnW (F:=bg) fy b D9 fun X c d=>mU c d z0 a8;have a10:=fnW (F:=bQ) gi b D10 fun X c d=>nA c d z13 a9;have a11:=fnW (F:=bB) fV b D11 fun X c d=>pq c d z3 a10;have a12:=fnW (F:=bL) gU b D12 fun X c d=>qb c d  a10 a9;have a13:=fnW (F:=bt) fx b D13 fun X c d=>m6 c d z1 z6 y_FIGURES y_MOST_FIGURES;have a14:=fnW (F:=cS) fQ b D14 fun X c d=>oJ c d z13 z4 a4 a13;have a15:=fnW (F:=bq) fu b D15 fun X c d=>m5 c d z4 z6 a9 a3 a13;have a16:=fnW (F:=bM) gQ b D16 fun X c d=>pK c d  a15 a14;have a17:=fnW (F:=bp) f6 b D17 fun X c d=>oM c d z14 a7 a16;have a18:=fnW (F:=cw) ii b D18 fun X c d=>rW c d z5 z13;have a19:=fnW (F:=aC) gb b D19 fun X c d=>oD c d z14 z3 z6 y_MOST_PLACES a17 a18;have a20:=fnW (F:=aG) gT b D20 fun X c d=>pN c d z3 y_MOST_ROWS a18 a15 a17;have a21:=fnN (k:=0) (N:=qW) (G:=qF) (ps:=P_l_pen) b D21 fun X e h g d=>b_l_pen h g d (e.n z0) (e.n z6) (e.n z8);have a22:=fnN (k:=0) (N:=oi) (G:=nY) (ps:=vb) b D22 fun X e h g d=>vH h g d;have a23:=fnW (F:=cb) iw b D23 fun X c d=>sA c d z0;have a24:=fnW (F:=dP) im b D24 fun X c d=>rM c d  a23 a22;have a25:=fnW (F:=gZ) lF b D25 fun X c d=>h_l_far c d  a23 a22;have a26:=fnW (F:=cL) lM b D26 fun X c d=>h_l_any c d  a24 a25;have a27:=fnW (F:=bN) jb b D27 fun X c d=>sS c d z9 z14 a22 a26;have a28:=fnW (F:=cv) jd b D28 fun X c d=>sV c d z9 z14 z4 a27 a22;have a29:=fnW (F:=cW) jZ b D29 fun X c d=>u8 c d z9 z4 a27 a22 a26;have a30:=fnW (F:=dG) kv b D30 fun X c d=>uO c d z13;have a31:=fnW (F:=cX) jj b D31 fun X c d=>tQ c d z13 a30;have a32:=fnW (F:=be) dU b D32 fun X c d=>ln c d z9 z13 a31;have a33:=fnW (F:=bh) eN b D33 fun X c d=>ly c d  a31 a30;have a34:=fnN (k:=7) (N:=N_law) (G:=G_law) (ps:=P_law) b D34 fun X e h g d=>b_law h g d (a19.c e) (a20.c e) (a12.c e) (a33.c e) (a29.c e) (a22.c e) (a11.c e) (a32.c e) (a28.c e) (a21.c e) (e.n z9) (e.n z10) (e.n z5) (e.n z7);exact a34
end Law
namespace PySem.W.Fast
def tw6691287537407108848:=0
def tw12235928559961230610:=0
def tw13702903344341053059:=0
def tw14769037667709573470:=0
def tw14096636041575691671:=0
def tw1065934429377547198:=0
def tw18430883863872353038:=0
def tw6803869053252939815:=0
def tw12069398544874049531:=0
def tw8754455028296440733:=0
def tw946718758024994462:=0
def tw6339982519905112123:=0
def tw10811357340397333500:=0
def tw6838619375482150722:=0
def tw8488902836416247203:=0
def tw12839921439086363385:=0
def tw12966864365623891842:=0
def tw13528439325528807639:=0
def tw3246674081077633800:=0
def tw5642691715839456552:=0
def tw4550885358733263160:=0
def tw8888150256004459389:=0
def tw17599755899569012807:=0
def tw9772556504539156318:=0
def tw13453350311053526997:=0
def tw15039282992587700342:=0
def tw10084298298421752232:=0
def tw15751702063600458625:=0
def tw11170418195920147078:=0
def tw13001376309215358935:=0
def tw8368438043534876162:=0
def tw6988255266013709665:=0
def tw9804755704472748113:=0
def tw8323350852032108709:=0
def tw11282024919943195539:=0
def tw14385508367166361236:=0
def tw6131932062099180479:=0
def tw4942299790113789883:=0
def tw15183183117589990966:=0
def tw17486376275043063341:=0
def tw8869729098495680213:=0
def tw11924495866851251258:=0
def tw9661478861570550658:=0
def tw27716334817759286:=0
def tw2097258779415618267:=0
def tw4665772522613557259:=0
def tw2956736670846129404:=0
def tw9134532553284165355:=0
def tw10808336607035256062:=0
def tw17707642066921773736:=0
def tw17448313526571057002:=0
def tw16761891955464184589:=0
def tw4568283751316572313:=0
def tw4240342079875614909:=0
def tw2839263351966772052:=0
def tw9923315219212479983:=0
def tw5460450179863694383:=0
def tw13023573790962145482:=0
def tw7844945668220224479:=0
def tw7323707840834752414:=0
def tw3491409575056701607:=0
def tw200693046837066030:=0
def tw10634009300642984828:=0
def tw15483365925099608711:=0
def tw27653465801755390:=0
def tw14570331148659861638:=0
def tw9173778419343305018:=0
def tw1976012785295402326:=0
def tw16148656890658612146:=0
def tw14785365336814701575:=0
def tw8785306696613612288:=0
def tw4168242269786612730:=0
def tw11631795084429722528:=0
def tw15159798761007391819:=0
def tw5314860773103186138:=0
def tw2477339138259227026:=0
def tw16238401451754410294:=0
def tw6237270767974455657:=0
def tw9919854336556963803:=0
def tw12917820206268587397:=0
def tw11350205058132312774:=0
def tw17538173999805736241:=0
def tw5450511612587070093:=0
def tw17291162090618084542:=0
def tw3026969821447174033:=0
def tw17343301395573086783:=0
def tw8685572586399732273:=0
def tw4701841867905038126:=0
def tw15859040742621537222:=0
def tw8021580972821236007:=0
def tw3171597176832953854:=0
def tw1559737605480751960:=0
def tw2743275085431681763:=0
def tw10861995657266489505:=0
def tw8588793674357088420:=0
def tw8039927470956604731:=0
def tw16512747444485215047:=0
def tw864709152973234284:=0
def tw17900102763115856753:=0
def tw16667479441536668712:=0
def tw331162878415870182:=0
def tw8385788695483981815:=0
end PySem.W.Fast
open PySem PySem.W PyProof.Rows
local macro_rules | `(tactic| and_intros) => `(tactic| (dsimp only [L2.KOf]; first | k_is | (refine' MM.defAt_mk ?a ?l ?c ?k; (case a => k_is); (case l => k_is); (case c => k_is); (case k => k_is))))
set_option maxRecDepth 100000 in
set_option maxHeartbeats 0 in
theorem PySem.Challenge.cw_fewfills_k46_sheets_and_rows_read_holds : PySem.Challenge.rw_fewfills_k46_sheets_and_rows_read.Holds := by
  w_on; o_law; k_head; (case hw=>w_witness2)
  k_fill
  refine MM.walk_M (l:=PySem.Challenge.rw_fewfills_k46_sheets_and_rows_read) (k:=8) (x:="_law_script") (F:=Law.f_law) rfl rfl ⟨rfl,by decide,by decide,rfl⟩ (by decide +kernel) rfl (fun w h Y=>PySem.W.kIn_of Y) ?F Law.law_true
  case F=>
    intro w mg fa h KX G hmg
    have Dlaw:MM.DefAt (L2.KOf KX) "law" Law.ky:=by and_intros
    have D0:MM.DefAt (L2.KOf KX) "is_whole" Law.fG:=by and_intros
    have D1:MM.DefAt (L2.KOf KX) "is_pair" Law.gK:=by and_intros
    have D2:MM.DefAt (L2.KOf KX) "greatest_shared" Law.cm:=by and_intros
    have D3:MM.DefAt (L2.KOf KX) "is_number" Law.eV:=by and_intros
    have D4:MM.DefAt (L2.KOf KX) "is_place" Law.fD:=by and_intros
    have D5:MM.DefAt (L2.KOf KX) "is_part" Law.gp:=by and_intros
    have D6:MM.DefAt (L2.KOf KX) "are_parts" Law.eX:=by and_intros
    have D7:MM.DefAt (L2.KOf KX) "is_row" Law.ib:=by and_intros
    have D8:MM.DefAt (L2.KOf KX) "show_whole" Law.eD:=by and_intros
    have D9:MM.DefAt (L2.KOf KX) "show_number" Law.dA:=by and_intros
    have D10:MM.DefAt (L2.KOf KX) "show_parts" Law.dQ:=by and_intros
    have D11:MM.DefAt (L2.KOf KX) "show_sheet" Law.d6:=by and_intros
    have D12:MM.DefAt (L2.KOf KX) "show_rows" Law.eR:=by and_intros
    have D13:MM.DefAt (L2.KOf KX) "are_figures" Law.dz:=by and_intros
    have D14:MM.DefAt (L2.KOf KX) "read_place" Law.dW:=by and_intros
    have D15:MM.DefAt (L2.KOf KX) "read_number" Law.dw:=by and_intros
    have D16:MM.DefAt (L2.KOf KX) "read_part" Law.eS:=by and_intros
    have D17:MM.DefAt (L2.KOf KX) "read_parts" Law.dZ:=by and_intros
    have D18:MM.DefAt (L2.KOf KX) "lines_of" Law.fE:=by and_intros
    have D19:MM.DefAt (L2.KOf KX) "read_sheet" Law.eA:=by and_intros
    have D20:MM.DefAt (L2.KOf KX) "read_rows" Law.eT:=by and_intros
    have D21:MM.DefAt (L2.KOf KX) "_law_pen" Law.jH:=by and_intros
    have D22:MM.DefAt (L2.KOf KX) "_law_draw" Law.ij:=by and_intros
    have D23:MM.DefAt (L2.KOf KX) "_law_lowest" Law.fF:=by and_intros
    have D24:MM.DefAt (L2.KOf KX) "_law_number" Law.fH:=by and_intros
    have D25:MM.DefAt (L2.KOf KX) "_law_far" Law.jz:=by and_intros
    have D26:MM.DefAt (L2.KOf KX) "_law_any" Law.jA:=by and_intros
    have D27:MM.DefAt (L2.KOf KX) "_law_parts" Law.gz:=by and_intros
    have D28:MM.DefAt (L2.KOf KX) "_law_sheet" Law.gI:=by and_intros
    have D29:MM.DefAt (L2.KOf KX) "_law_rows" Law.ik:=by and_intros
    have D30:MM.DefAt (L2.KOf KX) "_law_text" Law.ig:=by and_intros
    have D31:MM.DefAt (L2.KOf KX) "_law_words" Law.gJ:=by and_intros
    have D32:MM.DefAt (L2.KOf KX) "_law_sheet_lines" Law.cO:=by and_intros
    have D33:MM.DefAt (L2.KOf KX) "_law_rows_lines" Law.df:=by and_intros
    have Z34:PySem.W.nsIn (L2.KOf KX) mainGlobals "abs" = some none:=by and_intros
    have Z35:PySem.W.nsIn (L2.KOf KX) mainGlobals "all" = some none:=by and_intros
    have Z36:PySem.W.nsIn (L2.KOf KX) mainGlobals "bool" = some none:=by and_intros
    have Z37:PySem.W.nsIn (L2.KOf KX) mainGlobals "enumerate" = some none:=by and_intros
    have Z38:PySem.W.nsIn (L2.KOf KX) mainGlobals "int" = some none:=by and_intros
    have Z39:PySem.W.nsIn (L2.KOf KX) mainGlobals "isinstance" = some none:=by and_intros
    have Z40:PySem.W.nsIn (L2.KOf KX) mainGlobals "len" = some none:=by and_intros
    have Z41:PySem.W.nsIn (L2.KOf KX) mainGlobals "list" = some none:=by and_intros
    have Z42:PySem.W.nsIn (L2.KOf KX) mainGlobals "min" = some none:=by and_intros
    have Z43:PySem.W.nsIn (L2.KOf KX) mainGlobals "range" = some none:=by and_intros
    have Z44:PySem.W.nsIn (L2.KOf KX) mainGlobals "repr" = some none:=by and_intros
    have Z45:PySem.W.nsIn (L2.KOf KX) mainGlobals "set" = some none:=by and_intros
    have Z46:PySem.W.nsIn (L2.KOf KX) mainGlobals "sorted" = some none:=by and_intros
    have Z47:PySem.W.nsIn (L2.KOf KX) mainGlobals "str" = some none:=by and_intros
    have Z48:PySem.W.nsIn (L2.KOf KX) mainGlobals "tuple" = some none:=by and_intros
    have YFIGURES:∃ t,PySem.W.nsIn (L2.KOf KX) mainGlobals "FIGURES" = some (some (.str "0123456789" t)):=by
      dsimp only [L2.KOf]
      refine' MM.str_mk ?h
      (case h=>k_is)
    have YMOST_FIGURES:∃ t,PySem.W.nsIn (L2.KOf KX) mainGlobals "MOST_FIGURES" = some (some (.int 60 t)):=by
      dsimp only [L2.KOf]
      refine' MM.int_mk ?h
      (case h=>k_is)
    have YMOST_PLACES:∃ t,PySem.W.nsIn (L2.KOf KX) mainGlobals "MOST_PLACES" = some (some (.int 12 t)):=by
      dsimp only [L2.KOf]
      refine' MM.int_mk ?h
      (case h=>k_is)
    have YMOST_ROWS:∃ t,PySem.W.nsIn (L2.KOf KX) mainGlobals "MOST_ROWS" = some (some (.int 20 t)):=by
      dsimp only [L2.KOf]
      refine' MM.int_mk ?h
      (case h=>k_is)
    have YNOUGHT:MM.kI (L2.KOf KX) "NOUGHT" 0 1:=by
      dsimp only [L2.KOf]
      refine' MM.tupK_mk ?h ?l
      (case h=>k_is)
      (case l=>k_is)
    exact MM.head_M Dlaw Law.bi_law hmg KX G fun base kb nb=>Law.all_fn ⟨kb,nb⟩ D0 D1 D2 D3 D4 D5 D6 D7 D8 D9 D10 D11 D12 D13 D14 D15 D16 D17 D18 D19 D20 D21 D22 D23 D24 D25 D26 D27 D28 D29 D30 D31 D32 D33 Dlaw Z34 Z35 Z36 Z37 Z38 Z39 Z40 Z41 Z42 Z43 Z44 Z45 Z46 Z47 Z48 YFIGURES YMOST_FIGURES YMOST_PLACES YMOST_ROWS YNOUGHT
