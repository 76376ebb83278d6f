import PyProof.Rows.All
import Wide.All
import OpenK.AllK
import Wide.FinOn
import Lean
import PyProof.EqAt
import PyProof.EqKinds
import PyProof.TupleCall
import PyProof.ReprRoads
import PyProof.FitsInt
import PyProof.FitsBits
import PyProof.Rows.IntMath
import PyProof.ConsumeWalk
import PyProof.WalkInts
import PyProof.ListRange
import PySem.SetTable
import PyProof.SetKind
import PyProof.TupleKey
import PyProof.DictKinds
import PyProof.IsRules
import PyProof.Rows.SetFrom
import PyProof.CollectIter
import PyProof.ForAny
import PyProof.Rows.SortRuns
import PyProof.Rows.SortKey
import KE.KSortTup
import PyProof.ZipIter
import PyProof.Draws
import PyProof.EnumMake
import PyProof.TupleIter
import PyProof.P3Eq
import PyProof.StrCalls2
import PyProof.StrCalls3
import PyProof.FString
import PyProof.AttrMissHeap
import PyProof.DictUpdate
import PyProof.DictRoads
import KE.KDictOf
import PyProof.Walks
import PyProof.SetRoads
import PyProof.Rows.SeqMore
import KE.KDictList
import PyProof.DictItems
import KE.KPairComp
import PySem.Challenge.RW_fewfills_k38_one_answer
set_option Elab.async false
set_option bootstrap.genMatcherCode false
set_option compiler.extract_closed false
set_option linter.all false
set_option maxRecDepth 100000
open PySem
abbrev qaa:=@List.mem_cons_of_mem
abbrev qab:=@wpAny_bind
abbrev qac:=@PySem.W.Frag
abbrev qad:=@Heap.get?_push_of_some
abbrev qae:=@List.getElem?_set_ne
abbrev qaf:=@List.getElem?_eq_some_iff
abbrev qag:=@List.set_cons_succ
abbrev qah:=@List.set_cons_zero
abbrev qai:=@Nat.le_refl
abbrev qaj:=@List.getElem?_eq_getElem
abbrev qak:=@List.getD_eq_getElem?_getD
abbrev qal:=@List.getElem?_append_left
abbrev qam:=@List.mem_cons
abbrev qan:=@if_pos
abbrev qao:=@List.map_cons
abbrev qap:=@List.length_cons
abbrev qaq:=@List.mem_append_right
abbrev qar:=@List.length_map
abbrev qas:=@Heap.lt_size
abbrev qat:=@Nat.lt_of_lt_of_le
abbrev qau:=@List.size_toArray
abbrev qav:=@List.mem_singleton
abbrev qaw:=@wpAny_pure
abbrev qax:=@List.getElem?_map
abbrev qay:=@if_neg
abbrev qaz:=@Heap.get?_push_size
abbrev qaA:=@List.getElem?_set_self
abbrev qaB:=@Option.map_eq_some_iff
abbrev qaC:=@Bool.false_eq_true
abbrev qaD:=@List.length_nil
abbrev qaE:=@List.getElem?_append_right
abbrev qaF:=@List.mem_map
abbrev qaG:=@Nat.mul_le_mul_right
abbrev qaH:=@Int.toNat_natCast
abbrev qaI:=@Nat.le_trans
abbrev qaJ:=@List.map_map
abbrev qaK:=@List.mem_range
abbrev qaL:=@List.mem_append
abbrev qaM:=@List.map_congr_left
abbrev qaN:=@List.getElem_mem
abbrev qaO:=@List.lookup_cons
abbrev qaP:=@List.nodup_cons
abbrev qaQ:=@List.replicate_succ
abbrev qaR:=@List.take_succ_eq_append_getElem
abbrev qaS:=@Nat.ne_of_lt
abbrev qaT:=@Bool.false_ne_true
abbrev qaU:=@Nat.ne_of_gt
abbrev qaV:=@List.mem_append_left
abbrev qaW:=@List.getElem?_replicate
abbrev qaX:=@Nat.pow_le_pow_right
abbrev qaY:=@List.length_append
abbrev qaZ:=@List.take_of_length_le
abbrev qba:=@Heap.size_push
abbrev qbb:=@Nat.lt_irrefl
abbrev qbc:=@List.flatten_cons
abbrev qbd:=@Nat.zero_add
abbrev qbe:=@List.mem_cons_self
abbrev qbf:=@List.length_take
abbrev qbg:=@List.mem_filter
abbrev qbh:=@Nat.le_of_lt
abbrev qbi:=@List.length_replicate
abbrev qbj:=@Nat.zero_le
abbrev qbk:=@List.mem_zipIdx_iff_getElem?
abbrev qbl:=@Int.fmod_eq_emod_of_nonneg
abbrev qbm:=@List.mem_iff_getElem?
abbrev qbn:=@Bool.beq_eq_decide_eq
abbrev qbo:=@Nat.lt_of_le_of_lt
abbrev qbp:=@Int.natAbs_mul
abbrev qbq:=@List.mem_of_getElem?
abbrev qbr:=@List.of_mem_zip
abbrev qbs:=@Option.map_some
abbrev qbt:=@List.length_zip
abbrev qbu:=@Array.length_toList
abbrev qbv:=@Bool.not_true
abbrev qbw:=@Bool.and_eq_true
abbrev qbx:=@List.not_mem_nil
abbrev qby:=@Int.emod_lt_of_pos
abbrev qbz:=@Int.natAbs_natCast
abbrev qbA:=@Nat.pos_of_ne_zero
abbrev qbB:=@List.getElem?_eq_none
abbrev qbC:=@Nat.div_le_self
abbrev qbD:=@List.append_nil
abbrev qbE:=@List.zip_cons_cons
abbrev qbF:=@Int.emod_nonneg
abbrev qbG:=@Int.natCast_mul
abbrev qbH:=@Nat.le_mul_of_pos_left
abbrev qbI:=@Nat.mul_le_mul
abbrev qbJ:=@Array.getElem?_toList
abbrev qbK:=@Nat.succ_mul
abbrev qbL:=@Nat.mul_comm
abbrev qbM:=@List.length_drop
abbrev qbN:=@List.nodup_range
abbrev qbO:=@List.range_eq_range'
abbrev qbP:=@List.mem_iff_getElem
abbrev qbQ:=@List.filterMap_cons
abbrev qbR:=@Nat.le_succ
abbrev qbS:=@List.find?_cons
abbrev qbT:=@Nat.mul_ne_zero
abbrev qbU:=@Nat.mul_le_mul_left
abbrev qbV:=@List.mem_filterMap
abbrev qbW:=@Nat.eq_zero_or_pos
abbrev qbX:=@Nat.pow_succ
abbrev qbY:=@List.getElem_range
abbrev qbZ:=@List.drop_eq_getElem_cons
abbrev qca:=@List.getElem?_zip_eq_some
abbrev qcb:=@Nat.gcd_pos_of_pos_right
abbrev qcc:=@Int.mul_fdiv_cancel_left
abbrev qcd:=@Int.mul_ediv_cancel_left
abbrev qce:=@List.length_range
abbrev qcf:=@List.any_cons
abbrev qcg:=@Option.bind_eq_some_iff
abbrev qch:=@Int.eq_ofNat_of_zero_le
abbrev qci:=@List.length_eq_zero_iff
abbrev qcj:=@Nat.pow_pos
abbrev qck:=@Nat.le_max_right
abbrev qcl:=@Int.natCast_ediv
abbrev qcm:=@List.ext_getElem
abbrev qcn:=@List.getElem_map
abbrev qco:=@List.mem_reverse
abbrev qcp:=@Heap.get?_update_other
abbrev qcq:=@List.drop_eq_nil_of_le
abbrev qcr:=@Heap.get?_update_self
abbrev qcs:=@List.length_singleton
abbrev qct:=@List.map_nil
abbrev qcu:=@Nat.lt_trans
abbrev qcv:=@List.forIn_cons
abbrev qcw:=@Nat.min_eq_left
abbrev qcx:=@Nat.le_max_left
abbrev qcy:=@List.take_append_drop
abbrev qcz:=@List.pairwise_reverse
abbrev qcA:=@List.forIn_nil
abbrev qcB:=@Nat.pow_add
abbrev qcC:=@Nat.dvd_trans
abbrev qcD:=@Nat.mul_assoc
abbrev qcE:=@Nat.succ_pos
abbrev qcF:=@Int.mul_comm
noncomputable section
local macro_rules | `(tactic| ext) => `(tactic| omega)
namespace L2
open PySem PySem.Spec PyProof.Rows
abbrev Key:=Sum Int Str
def mL:Key->Value->Bool
 | .inl k,v=>Value.isInt k v
 | .inr x,v=>Value.isStrOf x v
def keyH(w:World):Key->Int
 | .inl k=>hashInt k
 | .inr x=>hashStr w x
def bv:∀{k:Key} {v:Value},mL k v=true->(∃i t,k=Sum.inl i/\v=Value.int i t)\/(∃x t,k=Sum.inr x/\v=Value.str x t)
 | .inl i,v,h=>by
  obtain⟨t,e⟩:=Value.isInt_shape (k:=i) (v:=v) h;exact .inl ⟨i,t,rfl,e⟩
 | .inr x,v,h=>by
  obtain⟨t,e⟩:=Value.isStrOf_shape (x:=x) (v:=v) h;exact .inr ⟨x,t,rfl,e⟩
def vh(i:Int)(t:Tok):mL (.inl i) (.int i t)=true:=by simp[mL,Value.isInt]
def key_ll(a b:Int):decide ((Sum.inl a:Key)=Sum.inl b)=(a == b):=by
 by_cases e:a=b
 ·subst e;simp
 ·have h:¬(Sum.inl a:Key)=Sum.inl b:=fun q=>e (Sum.inl.inj q);rw[decide_eq_false h];exact (beq_eq_false_iff_ne.mpr e).symm
def key_rr(a b:Str):decide ((Sum.inr a:Key)=Sum.inr b)=decide (a=b):=by
 by_cases e:a=b
 ·subst e;simp
 ·have h:¬(Sum.inr a:Key)=Sum.inr b:=fun q=>e (Sum.inr.inj q);rw[decide_eq_false h,decide_eq_false e]
def key_lr(a:Int)(b:Str):decide ((Sum.inl a:Key)=Sum.inr b)=false:=decide_eq_false (fun q=>nomatch q)
def key_rl(a:Str)(b:Int):decide ((Sum.inr a:Key)=Sum.inl b)=false:=decide_eq_false (fun q=>nomatch q)
def cy(prog:Program)(w:World):PySem.KeyKind prog w Key where
 is:=mL
 hash:=keyH w
 inj:=fun v a b ha hb=>by
  rcases bv ha with ⟨i,t,rfl,rfl⟩|⟨x,t,rfl,rfl⟩
  ·rcases bv hb with ⟨j,u,rfl,e⟩|⟨y,u,rfl,e⟩
   ·injection e with e1 _;rw[e1]
   ·exact nomatch e
  ·rcases bv hb with ⟨j,u,rfl,e⟩|⟨y,u,rfl,e⟩
   ·exact nomatch e
   ·injection e with e1 _;rw[e1]
 byValue:=fun k v h=>by
  rcases bv h with ⟨i,t,rfl,rfl⟩|⟨x,t,rfl,rfl⟩ <;> rfl
 pyHash:=fun hv h=>by
  rcases bv hv with ⟨i,t,rfl,rfl⟩|⟨x,t,rfl,rfl⟩
  ·exact wpAny_pyHash_int h
  ·exact wpAny_pyHash_str h
 eqBool:=fun hu hv h=>by
  rcases bv hu with ⟨i,t,rfl,rfl⟩|⟨x,t,rfl,rfl⟩
  ·rcases bv hv with ⟨j,u,rfl,rfl⟩|⟨y,u,rfl,rfl⟩
   ·rw[key_ll] at h;exact wpAny_eqBool_int h
   ·rw[key_lr] at h;exact SeqAt.EqAt.int_str i t y u _ _ _ _ h
  ·rcases bv hv with ⟨j,u,rfl,rfl⟩|⟨y,u,rfl,rfl⟩
   ·rw[key_rl] at h;exact SeqAt.EqAt.str_int x t j u _ _ _ _ h
   ·rw[key_rr] at h;exact wpAny_eqBool_str h
 «strs»:=fun k x t v h=>by
  rcases bv h with ⟨i,u,rfl,e⟩|⟨y,u,rfl,e⟩
  ·exact nomatch e
  ·injection e with e1 _
   subst e1;cases v <;> rfl
def dW(prog:Program)(w:World)(i:Int)(t:Tok):(cy prog w).is (.inl i) (.int i t)=true:=vh i t
inductive V where
 | non | bl (b:Bool) | int (i:Int) | str (x:Str) | byt (b:Array UInt8) | flt (b:UInt64) | ref (a:Addr) | ty (n:String)
 deriving DecidableEq
def aP:V->Value->Prop
 | .non,u=>u=Value.none
 | .bl b,u=>u=Value.bool b
 | .int i,u=>∃t,u=Value.int i t
 | .str x,u=>∃t,u=Value.str x t
 | .byt b,u=>∃t,u=Value.bytes b t
 | .flt b,u=>∃t,u=Value.float b t
 | .ref a,u=>u=Value.ref a
 | .ty n,u=>u=Value.type n
abbrev aJ:List V->List Value->Prop:=Paired aP
def aJ.length{xs:List V}{us:List Value}(r:aJ xs us):xs.length=us.length:=Paired.length r
def aJ.get{xs:List V}{us:List Value}{i:Nat}{x:V}(r:aJ xs us)(e:xs[i]?=some x):∃u,us[i]?=some u/\aP x u:=by
 induction r generalizing i with
 | nil=>cases e
 | cons r t ih =>
  cases i with
  | zero=>cases e;exact⟨_,rfl,r⟩
  | succ i=>have z:=@ih i e;exact z
def aJ.set{x:V}{u:Value}(r:aP x u){xs:List V}{us:List Value}(i:Nat)(q:aJ xs us):aJ (xs.set i x) (us.set i u):=by
 induction q generalizing i with
 | nil=>exact .nil
 | cons a t ih =>
  cases i with
  | zero=>exact .cons r t
  | succ i=>exact .cons a (ih i)
def aJ.append{xs ys:List V}{us ws:List Value}(r:aJ xs us)(s:aJ ys ws):aJ (xs++ys) (us++ws):=by
 induction r with
 | nil=>exact s
 | cons r t ih=>exact .cons r ih
def aJ.take{xs:List V}{us:List Value}(n:Nat)(r:aJ xs us):aJ (xs.take n) (us.take n):=by
 induction r generalizing n with
 | nil=>cases n <;> exact .nil
 | cons a t ih =>
  cases n with
  | zero=>exact .nil
  | succ n=>exact .cons a (ih n)
def aJ.drop{xs:List V}{us:List Value}(n:Nat)(r:aJ xs us):aJ (xs.drop n) (us.drop n):=by
 induction r generalizing n with
 | nil=>cases n <;> exact .nil
 | cons a t ih =>
  cases n with
  | zero=>exact .cons a t
  | succ n=>exact ih n
def fT:Option V->Option Value->Prop
 | some v,some u=>aP v u
 | none,none=>True
 | _,_=>False
def KV{κ:Type}:List (κ × V)->List (κ × Value)->Prop:=Paired fun (p:κ × V) (q:κ × Value)=>p.1=q.1/\aP p.2 q.2
def kV:Key->V
 | .inl i=>.int i
 | .inr x=>.str x
inductive HO where
 | lst (xs:List V)
 | tup (xs:List V)
 | dK (kvs:List (Key × V)) | dT (kvs:List (List Key × V))
 | set (S:Int->Bool) (n:Nat)
 | ins (C dx:Addr) (fs:List (Str × V))
 | own (x:Addr)
 | xd (fs:List (Str × V))
 | met (f x:Addr)
 | rng (lo hi:Int)
 | frz (o:Obj) (u:HO)
 | tbl (ps:Array Value)
 | ext (φ:Heap->Prop)
abbrev Hp:=Addr->Option HO
def upd(H:Hp)(a:Addr)(o:HO):Hp:=fun b=>if b=a then some o else H b
def bY{H:Hp}{a:Addr}{o:HO}:upd H a o a=some o:=by unfold upd;rw[qan rfl]
def aW{H:Hp}{a b:Addr}{o:HO}(h:b≠a):upd H a o b=H b:=by unfold upd;rw[qay h]
def bF{H:Hp}{a b:Addr}{o:HO}(h:H a=some o)(h':H b=none):a≠b:=by
 intro e;subst e;rw[h] at h';cases h'
def gI(h:Heap)(a:Addr)(its:Array Value):Prop:=∃o,h.get? a=some o/\o.cls=.type "tuple"/\(∃n,o.data=.seq its n)/\o.dict=none
def gI.tup{h:Heap}{a:Addr}{its:Array Value}(t:gI h a its):IsTup h a its:=let ⟨o,e,c,d,_⟩:=t;⟨o,e,c,d⟩
def gI.lt{h:Heap}{a:Addr}{its:Array Value}(t:gI h a its):a<h.objs.size:=t.tup.lt
def gI.new(h:Heap)(its:Array Value):gI (h.push { cls:=.type "tuple",data:=.seq its}) h.objs.size its:=⟨_,qaz h rfl,rfl,⟨_,rfl⟩,rfl⟩
section
variable (P:Program) (w:World)
def ObjOk(H:Hp)(h:Heap)(a:Addr):HO->Prop
 | .lst xs=>xs.length<=sizeLine/\∃(its:List Value) (n:Nat),aJ xs its/\h.get? a=some { cls:=.type "list",data:=.seq its.toArray n}
 | .tup xs=>xs.length<=sizeLine/\∃its:List Value,aJ xs its/\gI h a its.toArray
 | .dK kvs=>kvs.length<=sizeLine/\(a == sysModules)=false/\∃vs,KV kvs vs/\h.DictOf (cy P w) a vs
 | .dT kvs=>kvs.length<=sizeLine/\(a == sysModules)=false/\∃xs:List (List Key × Addr × Value),
   Paired (fun (p:List Key × V) (q:List Key × Addr × Value)=>p.1=q.1/\H q.2.1=some (.tup (p.1.map kV))/\aP p.2 q.2.2) kvs xs /\
   ∃o es ep,h.get? a=some o/\o.ExactDict/\o.data=.dict es ep/\es.toList=xs.map (entryOfKey (tupleKind (cy P w)))/\(xs.map (·.1)).Nodup
 | .set S n=>h.SetOf (intKind P w) a S n
 | .ins C dx fs=>H dx=some (.own a)/\fs.length<=1000/\dx≠a/\h.get? a=some (PySem.W.instObj C dx) /\
   ∃mA,h.Ns1 dx mA/\(∀f,fT (fs.lookup f) (mA f))/\PySem.Within mA (fs.map (·.1))
 | .own _=>∃o,h.get? a=some o
 | .xd fs=>∃mA,h.Ns1 a mA/\∀f,fT (fs.lookup f) (mA f)
 | .rng lo hi=>∃t u v,h.get? a=some { cls:=.type "range",data:=.fields #[.int lo t,.int hi u,.int 1 v]}
 | .frz o u=>h.get? a=some o/\ObjOk H h a u
 | .tbl ps=>h.get? a=some { cls:=.none,data:=.fields ps}
 | .met f x=>h.get? a=some (PySem.W.methodObj (.ref f) (.ref x))
 | .ext φ=>φ h/\(∃o,h.get? a=some o)/\∀h1 h2:Heap,φ h1->(∀o,h1.get? a=some o->h2.get? a=some o)->φ h2
def HOk(H:Hp)(h:Heap):Prop:=∀a o,H a=some o->ObjOk P w H h a o
end
section
variable {P:Program} {w:World} {H H':Hp} {h h':Heap} {a:Addr} {o:HO}
def ObjOk.lt(x:ObjOk P w H h a o):a<h.objs.size:=by
 cases o with
 | lst xs=>obtain⟨_,_,_,_,e⟩:=x;exact qas e
 | tup xs=>obtain⟨_,_,_,p⟩:=x;exact p.lt
 | dK kvs=>obtain⟨_,_,_,_,o,_,_,e,_⟩:=x;exact qas e
 | dT kvs=>obtain⟨_,_,_,_,o,_,_,e,_⟩:=x;exact qas e
 | set S n=>obtain⟨o,_,_,_,e,_⟩:=x;exact qas e
 | ins C dx fs=>obtain⟨_,_,_,e,_⟩:=x;exact qas e
 | own y=>obtain⟨_,e⟩:=x;exact qas e
 | xd fs=>obtain⟨_,⟨_,_,_,e,_⟩,_⟩:=x;exact qas e
 | rng lo hi=>obtain⟨_,_,_,e⟩:=x;exact qas e
 | frz ob u=>obtain⟨e,_⟩:=x;exact qas e
 | tbl ps=>exact qas (show h.get? a=some _ from x)
 | met f y=>exact qas (show h.get? a=some _ from x)
 | ext φ=>obtain⟨_,⟨_,e⟩,_⟩:=x;exact qas e
def Paired.mapP{α β:Type}{F G:α->β->Prop}{l₁:List α}{l₂:List β}(r:Paired F l₁ l₂)(f:∀a b,F a b->G a b):Paired G l₁ l₂:=by
 induction r with
 | nil=>exact .nil
 | cons r t ih=>exact .cons (f _ _ r) ih
def ObjOk.stay(x:ObjOk P w H h a o)(k:∀b u,(b=a\/H b=some (.own a))->h.get? b=some u->h'.get? b=some u)
  (ho:∀b,H b=some (.own a)->H' b=some (.own a)) (ht:∀b xs,H b=some (.tup xs)->H' b=some (.tup xs)):ObjOk P w H' h' a o:=by
 induction o with
 | lst xs=>obtain⟨z,its,n,r,e⟩:=x;exact⟨z,its,n,r,k _ _ (.inl rfl) e⟩
 | tup xs=>obtain⟨z,its,r,ob,e,c⟩:=x;exact⟨z,its,r,ob,k _ _ (.inl rfl) e,c⟩
 | dK kvs=>obtain⟨z,y,vs,r,ob,es,ep,e,c⟩:=x;exact⟨z,y,vs,r,ob,es,ep,k _ _ (.inl rfl) e,c⟩
 | dT kvs =>
  obtain⟨z,y,xs,r,ob,es,ep,e,c⟩:=x;exact⟨z,y,xs,Paired.mapP r fun p q z=>⟨z.1,ht _ _ z.2.1,z.2.2⟩,ob,es,ep,k _ _ (.inl rfl) e,c⟩
 | set S n=>obtain⟨ob,es,ep,t,e,c⟩:=x;exact⟨ob,es,ep,t,k _ _ (.inl rfl) e,c⟩
 | ins C dx fs =>
  obtain⟨d,z,ne,e,mA,⟨od,es,ep,e2,c⟩,r⟩:=x;exact⟨ho _ d,z,ne,k _ _ (.inl rfl) e,mA,⟨od,es,ep,k _ _ (.inr d) e2,c⟩,r⟩
 | own y=>obtain⟨ob,e⟩:=x;exact⟨ob,k _ _ (.inl rfl) e⟩
 | xd fs=>obtain⟨mA,⟨od,es,ep,e,c⟩,r⟩:=x;exact⟨mA,⟨od,es,ep,k _ _ (.inl rfl) e,c⟩,r⟩
 | rng lo hi=>obtain⟨t,u,v,e⟩:=x;exact⟨t,u,v,k _ _ (.inl rfl) e⟩
 | frz ob u ih=>obtain⟨e,q⟩:=x;exact⟨k _ _ (.inl rfl) e,ih q⟩
 | tbl ps =>
  have e:h.get? a=some { cls:=.none,data:=.fields ps}:=x;show h'.get? a=some { cls:=.none,data:=.fields ps};exact k a _ (.inl rfl) e
 | met f y =>
  have e:h.get? a=some (PySem.W.methodObj (.ref f) (.ref y)):=x;show h'.get? a=some (PySem.W.methodObj (.ref f) (.ref y));exact k a _ (.inl rfl) e
 | ext φ=>obtain⟨p,⟨o,e⟩,st⟩:=x;exact⟨st _ _ p fun o q=>k _ _ (.inl rfl) q,⟨o,k _ _ (.inl rfl) e⟩,st⟩
def HOk.lt(x:HOk P w H h)(e:H a=some o):a<h.objs.size:=(x a o e).lt
def HOk.fresh(x:HOk P w H h)(e:h.objs.size<=a):H a=none:=by
 cases q:H a with
 | none=>rfl
 | some u=>exact absurd (qat (x.lt q) e) (qbb _)
def HOk.kept(x:HOk P w H h)(k:∀b u,h.get? b=some u->h'.get? b=some u):HOk P w H h':=fun a o e =>
 (x a o e).stay (fun b u _ q=>k b u q) (fun _ q=>q) fun _ _ q=>q
def HOk.laid(x:HOk P w H h)(k:∀b u,h.get? b=some u->h'.get? b=some u)(hp:h.objs.size<=a)(new:ObjOk P w (upd H a o) h' a o):HOk P w (upd H a o) h':=fun b u e=>by
 have hn:=x.fresh hp;by_cases hb:b=a
 ·subst hb;rw[bY] at e;cases e;exact new
 ·rw[aW hb] at e;exact (x b u e).stay (fun c v _ q=>k c v q) (fun c q=>by rw[aW (bF q hn)];exact q) fun c xs q=>by rw[aW (bF q hn)];exact q
end
def Rd(H:Hp)(a:Addr)(u:HO):Prop:=H a=some u\/∃o,H a=some (.frz o u)
def Rd.ok{P:Program}{w:World}{H:Hp}{h:Heap}{a:Addr}{u:HO}(r:Rd H a u)(x:HOk P w H h):ObjOk P w H h a u:=by
 rcases r with r|⟨o,r⟩
 ·exact x a u r
 ·obtain⟨_,q⟩:=x a _ r;exact q
def Mut:Option HO->Prop
 | some (.lst _)=>True
 | some (.dK _)=>True
 | some (.dT _)=>True
 | some (.set _ _)=>True
 | some (.ins _ _ _)=>True
 | some (.ext _)=>True
 | _=>False
section
variable {P:Program} {w:World} {H:Hp} {h h':Heap} {x e:Addr} {o':HO}
def HOk.write(ok:HOk P w H h)(mu:Mut (H x))(he:e=x\/H e=some (.own x))(k:∀b u,b≠e->h.get? b=some u->h'.get? b=some u)(heo:∃u,h'.get? e=some u)
  (new:ObjOk P w (upd H x o') h' x o'):HOk P w (upd H x o') h':=fun b u q=>by
 have nown:∀c y,H c=some (.own y)->c≠x:=fun c y r z=>by subst z;rw[r] at mu;exact mu
 have ntup:∀c xs,H c=some (.tup xs)->c≠x:=fun c xs r z=>by subst z;rw[r] at mu;exact mu
 by_cases hb:b=x
 ·subst hb;rw[bY] at q;cases q;exact new
 ·rw[aW hb] at q;by_cases hbe:b=e
  ·have q':H b=some (.own x):=by
    rcases he with z|z
    ·exact absurd (hbe.trans z) hb
    ·rw[hbe];exact z
   rw[q] at q';cases q';obtain⟨v,hv⟩:=heo;exact⟨v,by rw[hbe];exact hv⟩
  ·refine (ok b u q).stay (fun c v hc r=>k c v ?_ r) (fun c r=>by rw[aW (nown c b r)];exact r) fun c xs r=>by rw[aW (ntup c xs r)];exact r
   rcases hc with rfl|hc
   ·exact hbe
   ·rintro rfl;rcases he with z|z
    ·exact nown c b hc z
    ·rw[hc] at z;cases z;exact hb rfl
end
structure Un (fs ex:List Addr) (H H':Hp) (h h':Heap):Prop where
 keep:∀b o,h.get? b=some o->H b=none->b∉fs->b∉ex->h'.get? b=some o
 slot:∀b o,h.get? b=some o->H b=none->b∈fs->b∉ex->∃sl,h'.get? b=some { o with slots:=sl}
 free:∀b o,h.get? b=some o->H b=none->b∉ex->H' b=none
 there:∀b o,h.get? b=some o->b∉ex->∃o',h'.get? b=some o'
 tups:∀b xs,H b=some (.tup xs)->H' b=some (.tup xs)
 frzs:∀b o u,H b=some (.frz o u)->H' b=some (.frz o u)
 tbls:∀b ps,H b=some (.tbl ps)->∃more,H' b=some (.tbl (ps++more))
section
variable {fs fs' ex ex':List Addr} {H H1 H2:Hp} {h h1 h2 h':Heap} {a x e:Addr} {o:HO}
def Un.any(u:Un fs ex H H1 h h1){b:Addr}{ob:Obj}(q:h.get? b=some ob)(n:H b=none)(hx:b∉ex):∃sl,h1.get? b=some { ob with slots:=sl}:=by
 by_cases hb:b∈fs
 ·exact u.slot b ob q n hb hx
 ·exact⟨ob.slots,u.keep b ob q n hb hx⟩
def Un.kept(k:∀b u,h.get? b=some u->h'.get? b=some u):Un fs ex H H h h' :=
 ⟨fun b ob q _ _ _=>k b ob q,fun b ob q _ _ _=>⟨ob.slots,k b ob q⟩,fun _ _ _ n _=>n,fun b ob q _=>⟨ob,k b ob q⟩,fun _ _ q=>q,fun _ _ _ q=>q,fun _ ps q=>⟨#[],by rw[q];simp⟩⟩
def Un.refl:Un fs ex H H h h:=Un.kept fun _ _ q=>q
def Un.laid(k:∀b u,h.get? b=some u->h'.get? b=some u)(hp:h.objs.size<=a)(hn:H a=none):Un fs ex H (upd H a o) h h' where
 keep:=fun b u q _ _ _=>k b u q
 slot:=fun b u q _ _ _=>⟨u.slots,k b u q⟩
 free:=fun b u q n _=>by rw[aW (qaS (qat (qas q) hp))];exact n
 there:=fun b u q _=>⟨u,k b u q⟩
 tups:=fun b xs q=>by rw[aW (bF q hn)];exact q
 frzs:=fun b u xs q=>by rw[aW (bF q hn)];exact q
 tbls:=fun b ps q=>⟨#[],by rw[aW (bF q hn),q];simp⟩
def Un.write(mu:Mut (H x))(he:e=x\/H e=some (.own x))(k:∀b u,b≠e->h.get? b=some u->h'.get? b=some u)(heo:∃u,h'.get? e=some u):Un fs ex H (upd H x o) h h':=by
 have hx:∀b,H b=none->b≠x:=fun b n z=>by subst z;rw[n] at mu;exact mu
 have hb:∀b,H b=none->b≠e:=fun b n z=>by
  subst z;rcases he with r|r
  ·exact hx b n r
  ·rw[n] at r;cases r
 have hm:∀b u,H b=some u->¬Mut (some u)->b≠x:=fun b u q nm z=>by subst z;rw[q] at mu;exact nm mu
 refine⟨fun b u q n _ _=>k b u (hb b n) q,fun b u q n _ _=>⟨u.slots,k b u (hb b n) q⟩,fun b u q n _=>by rw[aW (hx b n)];exact n,fun b u q _=>?_,
  fun b xs q=>by rw[aW (hm b _ q fun z=>z)];exact q,fun b u xs q=>by rw[aW (hm b _ q fun z=>z)];exact q,fun b ps q=>⟨#[],by rw[aW (hm b _ q fun z=>z),q];simp⟩⟩
 by_cases hbe:b=e
 ·subst hbe;exact heo
 ·exact⟨u,k b u hbe q⟩
end
def trk(h:Heap)(H:Hp):List Addr:=(List.range h.objs.size).filter fun a=>(H a).isSome
def i5(h:Heap)(H:Hp):Heap:=PySem.W.hideAll h (trk h H)
def vK(h:Heap)(H:Hp):(i5 h H).objs.size=h.objs.size:=PySem.W.hideAll_size _ _
def ym{h:Heap}{H:Hp}{b:Addr}{o:Obj}(e:h.get? b=some o)(n:H b=none):(i5 h H).get? b=some o :=
 PySem.W.hideAll_get _ e fun hm=>by
  have q:(H b).isSome=true:=(qbg.mp hm).2;rw[n] at q;simp at q
def of_hidT{h:Heap}{H:Hp}{b:Addr}{o:Obj}(e:(i5 h H).get? b=some o):h.get? b=some o/\H b=none:=by
 have e':h.get? b=some o:=PySem.W.of_hideAll (trk h H) e;refine⟨e',?_⟩
 cases q:H b with
 | none=>rfl
 | some x =>
  have hm:b∈trk h H:=qbg.mpr ⟨qaK.mpr (qas e'),by simp[q]⟩;have z:(i5 h H).get? b=none:=PySem.W.hideAll_none (trk h H) hm;rw[z] at e;cases e
structure Mod (K:qac) (mg:Str->Option Value) (base:Heap):Prop where
 kin:K.In base
 glob:base.Ns mainGlobals mg
 blt:∃mb,base.Ns builtinsNs mb/\∀x:Str,x≠"__name__"->mb x=bootBuiltins x
 nolimit:base.NoLimit
 seer:base.NoSeer
structure Cx where
 prog:Program
 w:World
 K:qac
 mg:Str->Option Value
 base:Heap
 A:Around
 N:List Str
 s₀:Shared
 H₀:Hp
 env:Env
 outer:List Env
 stack:List Env
 ex:List Addr
 fn:Str->Bool
 calm:Bool
 pn:List (Addr × Obj)
 xe:Value->Shared->Prop
def frs(l:List Env):List Addr:=l.filterMap (·.frame)
abbrev Cx.fs(X:Cx):List Addr:=frs X.outer
def Vis(sc:Scope)(x:Str):Prop:=sc.names.lookup x=some .local\/sc.names.lookup x=some .cell\/sc.names.lookup x=some .free
def Loc(sc:Scope)(x:Str):Prop:=sc.names.lookup x=some .local\/sc.names.lookup x=some .cell
def Look(env:Env)(h:Heap)(m:Str->Option Value)(x:Str)(u:Value):Prop :=
 (env.kindOf x=some .local/\m x=some u)\/((env.kindOf x=some .cell\/env.kindOf x=some .free)/\∃c,env.cells.lookup x=some c/\h.IsCell c (some u))
structure Cx.Ok (X:Cx):Prop where
 mod:Mod X.K X.mg X.base
 kind:X.env.scope.kind=.function
 glob:X.env.globals=mainGlobals
 blt:X.env.builtins=builtinsNs
 above:X.s₀.heap.objs.size<=X.env.locals
 inj:∀x y c,X.env.cells.lookup x=some c->X.env.cells.lookup y=some c->x=y
 has:∀x,(X.env.kindOf x=some .cell\/X.env.kindOf x=some .free)->∃c,X.env.cells.lookup x=some c
 cab:∀x c,X.fn x=true->X.env.cells.lookup x=some c->X.s₀.heap.objs.size<=c
 hd:X.calm=true->X.A.handled=none
 frames:X.A.frames=some X.stack
 stk:X.stack=X.outer\/(X.stack=X.env::X.outer/\X.env.frame=some X.env.locals)
 exf:∀b∈X.ex,b≠X.env.locals/\∀x c,X.env.cells.lookup x=some c->c≠b
 bs:∀b o,X.base.get? b=some o->X.s₀.heap.get? b=some o/\X.H₀ b=none
 bsz:X.base.objs.size<=X.s₀.heap.objs.size
 noex:∀b o,X.base.get? b=some o->b∉X.ex
 exfs:∀b∈X.ex,b∉X.fs
 funs:X.s₀.heap.FunFrames X.base X.outer
 frf:∀b∈X.fs,X.H₀ b=none
 tree:X.prog.given.tree=none
 top:∃e l,X.stack=e::l/\e.scope.isGenerator=false/\e.scope.isCoroutine=false/\e.builtins=builtinsNs/\e.globals=mainGlobals
structure Inv (X:Cx) (F6:List (Addr × Obj)) (σ:List (Option V)) (H:Hp) (s:Shared):Prop where
 ok:X.Ok
 os:s.os=X.s₀.os
 bare:AllBare s.gens
 base:Un X.fs X.ex X.H₀ H X.s₀.heap s.heap
 loc:∃m,s.heap.Ns X.env.locals m/\∀(i:Nat) (x:Str) (v:V),X.N[i]?=some x->σ[i]?=some (some v)->Vis X.env.scope x->∃u,aP v u/\Look X.env s.heap m x u
 cell:∀x c,X.env.cells.lookup x=some c->∃v,s.heap.IsCell c v
 free:H X.env.locals=none
 freeC:∀x c,X.env.cells.lookup x=some c->H c=none
 pin:∀p∈X.pn++F6,s.heap.get? p.1=some p.2/\H p.1=none/\p.1≠X.env.locals/\p.1∉X.fs/\∀v,p.2.data≠.cell v
 hok:HOk X.prog X.w H s.heap
 len:σ.length=X.N.length
section
variable {X:Cx} {F6:List (Addr × Obj)} {σ:List (Option V)} {H H':Hp} {s:Shared} {h':Heap}
def Cx.Ok.nofr(ok:X.Ok){b:Addr}{o:Obj}(e:X.base.get? b=some o):b∉X.fs:=fun hb=>by
 have:=(ok.funs.mem hb).1
 rw[e] at this;cases this
def Inv.bs(I:Inv X F6 σ H s):∀b o,X.base.get? b=some o->s.heap.get? b=some o/\H b=none:=fun b o e =>
 ⟨I.base.keep b o (I.ok.bs b o e).1 (I.ok.bs b o e).2 (I.ok.nofr e) (I.ok.noex b o e),I.base.free b o (I.ok.bs b o e).1 (I.ok.bs b o e).2 (I.ok.noex b o e)⟩
def Inv.bk(I:Inv X F6 σ H s):∀b o,X.base.get? b=some o->s.heap.get? b=some o:=fun b o e=>(I.bs b o e).1
def Inv.mod(I:Inv X F6 σ H s):Mod X.K X.mg X.base:=I.ok.mod
def Inv.kIn(I:Inv X F6 σ H s):X.K.In s.heap:=I.ok.mod.kin.keeps I.bk
def Inv.nolimit(I:Inv X F6 σ H s):s.heap.NoLimit:=I.ok.mod.nolimit.keeps I.bk
def Inv.lt(I:Inv X F6 σ H s):X.env.locals<s.heap.objs.size:=let ⟨_,hn,_⟩:=I.loc;hn.lt
def Inv.sz(I:Inv X F6 σ H s):X.s₀.heap.objs.size<=s.heap.objs.size:=qaI I.ok.above (qbh I.lt)
def Inv.nofs(I:Inv X F6 σ H s){a:Addr}(h:s.heap.objs.size<=a):a∉X.fs:=fun hb=>by
 obtain⟨_,o,ho,_⟩:=I.ok.funs.mem hb;exact absurd (qat (qas ho) (qaI I.sz h)) (qbb _)
def Inv.cne(I:Inv X F6 σ H s):∀x c,X.env.cells.lookup x=some c->c≠X.env.locals:=fun x c e z=>by
 obtain⟨v,o,ho,hd⟩:=I.cell x c e;obtain⟨m,⟨o',es,ep,ho',hd',_⟩,_⟩:=I.loc;rw[z,ho'] at ho;cases ho;rw[hd'] at hd;cases hd
def Inv.funs(I:Inv X F6 σ H s):s.heap.FunFrames X.base X.outer:=by
 have all:∀(l:List Env),(∀b∈frs l,b∈X.fs)->X.s₀.heap.FunFrames X.base l->s.heap.FunFrames X.base l:=by
  intro l
  induction l with
  | nil=>intro _ _;trivial
  | cons env r ih =>
   intro hs hl;obtain⟨hk,⟨L,o,hf,hn,ho,hd⟩,hr⟩:=hl;have hL:L∈X.fs:=hs L (by unfold frs;rw[qbQ,hf];exact qbe);obtain⟨sl,e⟩:=I.base.slot L o ho (I.ok.frf L hL) hL fun z=>I.ok.exfs L z hL;exact⟨hk,⟨L,_,hf,hn,e,hd⟩,ih (fun b hb=>hs b (by unfold frs;rw[qbQ,hf];exact qaa _ hb)) hr⟩
 exact all X.outer (fun _ hb=>hb) I.ok.funs
def Inv.stack(I:Inv X F6 σ H s):s.heap.FunFrames X.base X.stack:=by
 rcases I.ok.stk with e|⟨e,hf⟩
 ·rw[e];exact I.funs
 ·rw[e];obtain⟨m,hn,_⟩:=I.loc;refine .cons (by rw[I.ok.kind];decide) hf hn ?_ I.funs;exact Heap.get?_none_of_le (qaI I.ok.bsz I.ok.above)
def Inv.stkSub(I:Inv X F6 σ H s):∀b∈frs X.stack,b∈X.env.locals::X.fs:=fun b hb=>by
 rcases I.ok.stk with e|⟨e,hf⟩
 ·rw[e] at hb;exact qaa _ hb
 ·rw[e] at hb;unfold frs at hb;rw[qbQ,hf] at hb;exact hb
def Inv.stkFree(I:Inv X F6 σ H s):∀b∈frs X.stack,H b=none:=fun b hb=>by
 rcases qam.mp (I.stkSub b hb) with e|hb
 ·rw[e];exact I.free
 ·obtain⟨_,o,ho,_⟩:=I.ok.funs.mem hb;exact I.base.free b o ho (I.ok.frf b hb) fun z=>I.ok.exfs b z hb
def Inv.step{g':Array GenState}{t':Nat}{d':Drawn}{ch:List Addr}(I:Inv X F6 σ H s)
  (hch:∀b∈ch,(b∈X.ex\/X.s₀.heap.objs.size<=b)/\b≠X.env.locals/\(∀x c,X.env.cells.lookup x=some c->c≠b)/\∀p∈X.pn++F6,p.1≠b)
  (keep:∀b o,b≠X.env.locals->b∉X.fs->b∉ch->s.heap.get? b=some o->H b=none->h'.get? b=some o)
  (slot:∀b o,b≠X.env.locals->b∈X.fs->b∉ch->s.heap.get? b=some o->H b=none->∃sl,h'.get? b=some { o with slots:=sl}) (free:∀b o,b∉ch->s.heap.get? b=some o->H b=none->H' b=none)
  (there:∀b o,b∉ch->s.heap.get? b=some o->∃o',h'.get? b=some o')
  (tups:∀b xs,H b=some (.tup xs)->H' b=some (.tup xs)) (frzs:∀b o u,H b=some (.frz o u)->H' b=some (.frz o u)) (tbls:∀b ps,H b=some (.tbl ps)->∃more,H' b=some (.tbl (ps++more)))
  (ns:∀m,s.heap.Ns X.env.locals m->h'.Ns X.env.locals m) (hok:HOk X.prog X.w H' h') (hg:AllBare g') :
  Inv X F6 σ H' { s with heap:=h',gens:=g',drawn:=d',toks:=t'}:=by
 have neL:∀b o,X.s₀.heap.get? b=some o->b≠X.env.locals:=fun b o e=>qaS (qat (qas e) I.ok.above);have neC:∀b o,X.s₀.heap.get? b=some o->b∉X.ex->b∉ch:=fun b o e hx hb=>by
  rcases (hch b hb).1 with z|z
  ·exact hx z
  ·exact absurd (qat (qas e) z) (qbb _)
 have cellK:∀x c,X.env.cells.lookup x=some c->∀v,s.heap.IsCell c v->h'.IsCell c v:=fun x c e v ⟨o,ho,hd⟩=>by
  have nch:c∉ch:=fun z=>(hch c z).2.2.1 x c e rfl;by_cases hc:c∈X.fs
  ·obtain⟨sl,q⟩:=slot c o (I.cne x c e) hc nch ho (I.freeC x c e);exact⟨_,q,hd⟩
  ·exact⟨o,keep c o (I.cne x c e) hc nch ho (I.freeC x c e),hd⟩
 refine⟨I.ok,I.os,hg,⟨fun b o e n hb hx=>?_,fun b o e n hb hx=>?_,fun b o e n hx=>?_,fun b o e hx=>?_,fun b xs e=>tups b xs (I.base.tups b xs e),fun b o xs e=>frzs b o xs (I.base.frzs b o xs e),fun b ps e=>?_⟩,?_,fun x c e=>?_,?_,fun x c e=>?_,fun p hp=>?_,hok,I.len⟩
 ·exact keep b o (neL b o e) hb (neC b o e hx) (I.base.keep b o e n hb hx) (I.base.free b o e n hx)
 ·obtain⟨sl,e1⟩:=I.base.slot b o e n hb hx;obtain⟨sl',e2⟩:=slot b _ (neL b o e) hb (neC b o e hx) e1 (I.base.free b o e n hx);exact⟨sl',e2⟩
 ·obtain⟨o',e1⟩:=I.base.there b o e hx;exact free b o' (neC b o e hx) e1 (I.base.free b o e n hx)
 ·obtain⟨o',e1⟩:=I.base.there b o e hx;exact there b o' (neC b o e hx) e1
 ·obtain⟨m1,e1⟩:=I.base.tbls b ps e;obtain⟨m2,e2⟩:=tbls b _ e1;exact⟨m1++m2,by rw[e2,Array.append_assoc]⟩
 ·obtain⟨m,hn,hl⟩:=I.loc;refine⟨m,ns m hn,fun i x v e1 e2 e3=>?_⟩;obtain⟨u,r,l⟩:=hl i x v e1 e2 e3;refine⟨u,r,?_⟩;rcases l with l|⟨k,c,e,z⟩
  ·exact .inl l
  ·exact .inr ⟨k,c,e,cellK x c e _ z⟩
 ·obtain⟨v,z⟩:=I.cell x c e;exact⟨v,cellK x c e v z⟩
 ·obtain⟨m,⟨o,_,_,ho,_⟩,_⟩:=I.loc;exact free _ o (fun z=>(hch _ z).2.1 rfl) ho I.free
 ·obtain⟨v,o,ho,hd⟩:=I.cell x c e;exact free c o (fun z=>(hch c z).2.2.1 x c e rfl) ho (I.freeC x c e)
 ·obtain⟨e,n,ne,nf,d⟩:=I.pin p hp;have nch:p.1∉ch:=fun z=>(hch p.1 z).2.2.2 p hp rfl;exact⟨keep p.1 p.2 ne nf nch e n,free p.1 p.2 nch e n,ne,nf,d⟩
def Inv.un{t':Nat}(I:Inv X F6 σ H s)(u:Un X.fs [] H H' s.heap h')(hok:HOk X.prog X.w H' h'):Inv X F6 σ H' { s with heap:=h',toks:=t'}:=by
 obtain⟨m,⟨o,es,ep,ho,r⟩,_⟩:=id I.loc;obtain⟨sl,hL⟩:=u.any ho I.free (by simp)
 exact I.step (g':=s.gens) (d':=s.drawn) (ch:=[]) (fun _ z=>nomatch z) (fun b o _ hb _ e n=>u.keep b o e n hb (by simp)) (fun b o _ hb _ e n=>u.slot b o e n hb (by simp)) (fun b o _ e n=>u.free b o e n (by simp)) (fun b o _ e=>u.there b o e (by simp)) u.tups u.frzs u.tbls (fun m' hm=>by
  obtain⟨o',es',ep',ho',r'⟩:=hm;rw[ho] at ho';cases ho'
  exact⟨_,es',ep',hL,r'⟩) hok I.bare
def Inv.call{g':Array GenState}{t':Nat}{d':Drawn}{ch:List Addr}(I:Inv X F6 σ H s)(u:Un (frs X.stack) ch H H' s.heap h')(hok:HOk X.prog X.w H' h')(hg:AllBare g')
  (hch:∀b∈ch,(b∈X.ex\/X.s₀.heap.objs.size<=b)/\b≠X.env.locals/\(∀x c,X.env.cells.lookup x=some c->c≠b)/\∀p∈X.pn++F6,p.1≠b) :
  Inv X F6 σ H' { s with heap:=h',gens:=g',drawn:=d',toks:=t'}:=by
 obtain⟨m,⟨o,es,ep,ho,r⟩,_⟩:=id I.loc;obtain⟨sl,hL⟩:=u.any ho I.free fun z=>(hch _ z).2.1 rfl
 exact I.step (ch:=ch) hch (fun b o hL hb hc e n=>u.keep b o e n (fun z=>(qam.mp (I.stkSub b z)).elim hL hb) hc) (fun b o _ _ hc e n=>u.any e n hc) (fun b o hc e n=>u.free b o e n hc) (fun b o hc e=>u.there b o e hc) u.tups u.frzs u.tbls (fun m' hm=>by
  obtain⟨o',es',ep',ho',r'⟩:=hm;rw[ho] at ho';cases ho'
  exact⟨_,es',ep',hL,r'⟩) hok hg
def Inv.turned{t':Nat}{it:Addr}(I:Inv X F6 σ H s)(k:∀b o,b≠it->s.heap.get? b=some o->h'.get? b=some o)(hn:H it=none)(hL:it≠X.env.locals)
  (h1:it∈X.ex\/X.s₀.heap.objs.size<=it) (h2:∀x c,X.env.cells.lookup x=some c->c≠it) (h3:∀p∈X.pn++F6,p.1≠it):Inv X F6 σ H { s with heap:=h',toks:=t'}:=by
 have nit:∀b u,H b=some u->b≠it:=fun b u e z=>by rw[z,hn] at e;cases e
 refine I.step (g':=s.gens) (d':=s.drawn) (ch:=[it]) (fun b hb=>?_) (fun b o _ _ hc e _=>k b o (fun z=>hc (by simp[z])) e) (fun b o _ _ hc e _=>⟨o.slots,k b o (fun z=>hc (by simp[z])) e⟩) (fun _ _ _ _ n=>n)
  (fun b o hc e=>⟨o,k b o (fun z=>hc (by simp[z])) e⟩) (fun _ _ e=>e) (fun _ _ _ e=>e) (fun b ps e=>⟨#[],by rw[e];simp⟩) (fun m hm=>?_) (fun b u e=>?_) I.bare
 ·have e:b=it:=by simpa using hb
  subst e;exact⟨h1,hL,h2,h3⟩
 ·obtain⟨o,es,ep,ho,r⟩:=hm;exact⟨o,es,ep,k _ o (Ne.symm hL) ho,r⟩
 ·refine (I.hok b u e).stay (fun c v hc q=>k c v ?_ q) (fun _ q=>q) fun _ _ q=>q;rcases hc with z|z
  ·rw[z];exact nit b u e
  ·exact nit c _ z
def Inv.tok(I:Inv X F6 σ H s)(t:Nat):Inv X F6 σ H { s with toks:=t}:=I.un (h':=s.heap) (t':=t) Un.refl I.hok
def Inv.kept{t':Nat}(I:Inv X F6 σ H s)(k:∀b u,s.heap.get? b=some u->h'.get? b=some u):Inv X F6 σ H { s with heap:=h',toks:=t'}:=I.un (Un.kept k) (I.hok.kept k)
def Inv.laid{a:Addr}{o:HO}{t':Nat}(I:Inv X F6 σ H s)(k:∀b u,s.heap.get? b=some u->h'.get? b=some u)(hp:s.heap.objs.size<=a)(new:ObjOk X.prog X.w (upd H a o) h' a o) :
  Inv X F6 σ (upd H a o) { s with heap:=h',toks:=t'}:=I.un (Un.laid k hp (I.hok.fresh hp)) (I.hok.laid k hp new)
def Inv.write{x e:Addr}{o:HO}{t':Nat}(I:Inv X F6 σ H s)(mu:Mut (H x))(he:e=x\/H e=some (.own x))(k:∀b u,b≠e->s.heap.get? b=some u->h'.get? b=some u)(heo:∃u,h'.get? e=some u)
  (new:ObjOk X.prog X.w (upd H x o) h' x o):Inv X F6 σ (upd H x o) { s with heap:=h',toks:=t'}:=I.un (Un.write mu he k heo) (I.hok.write mu he k heo new)
def Inv.pins_of{pins':List (Addr × Obj)}(I:Inv X F6 σ H s)(h:∀p∈pins',s.heap.get? p.1=some p.2/\H p.1=none/\p.1≠X.env.locals/\p.1∉X.fs/\∀v,p.2.data≠.cell v):Inv X pins' σ H s :=
 ⟨I.ok,I.os,I.bare,I.base,I.loc,I.cell,I.free,I.freeC,fun p hp=>(qaL.mp hp).elim (fun z=>I.pin p (qaV _ z)) (h p),I.hok,I.len⟩
def qE{N:List Str}(hN:N.Nodup){i j:Nat}{x:Str}(a:N[i]?=some x)(b:N[j]?=some x):i=j:=by
 obtain⟨h1,e1⟩:=qaf.mp a;obtain⟨h2,e2⟩:=qaf.mp b;exact (List.getElem_inj hN).mp (e1.trans e2.symm)
def wj{M:Model}{A:Around}{E:Value->Shared->Prop}{i:Nat}{x:Str}{v:V}{u:Value}{Q:Unit->Shared->Prop}(I:Inv X F6 σ H s)(hN:X.N.Nodup)(hi:X.N[i]?=some x)(hx:Loc X.env.scope x)(r:aP v u)
  (h:∀s',Inv X F6 (σ.set i (some v)) H s'->(∃a,Heap.SameBut a s.heap s'.heap/\(a=X.env.locals\/X.env.cells.lookup x=some a))->Q () s') (hf:X.fn x=true\/X.env.scope.names.lookup x=some .local:=by first | exact .inl rfl | exact .inr rfl | assumption):wpAny M A (storeName X.env x u) Q E s:=by
 obtain⟨m,hn,hl⟩:=id I.loc;have hcls:(X.env.scope.kind == .class || (X.env.scope.kind == .module && X.env.locals != X.env.globals))=false:=by rw[I.ok.kind];rfl
 have hiσ:i<σ.length:=by rw[I.len];exact (qaf.mp hi).1
 have cne:=I.cne;have tracked:∀{a:Addr} {h':Heap},(∃o,s.heap.get? a=some o/\H a=none)->Heap.SameBut a s.heap h'->HOk X.prog X.w H h':=fun {a h'} ha hs b ob e=>by
  obtain⟨_,_,hfree⟩:=ha;refine (I.hok b ob e).stay (fun c w' hc q=>(hs.2 c ?_).trans q) (fun _ q=>q) fun _ _ q=>q;rintro rfl;rcases hc with rfl|hc
  ·rw[hfree] at e;cases e
  ·rw[hfree] at hc;cases hc
 rcases hx with hk|hk
 ·refine wpAny_storeName_local hk hn (fun h' hn' hs=>?_) hcls;obtain⟨oL,_,_,hoL,_⟩:=id hn;refine h _ ⟨I.ok,I.os,I.bare,⟨fun b o e n hb hx=>?_,fun b o e n hb hx=>?_,I.base.free,fun b o e hx=>?_,I.base.tups,I.base.frzs,I.base.tbls⟩,⟨_,hn',fun j y v' e1 e2 e3=>?_⟩,fun y c e=>?_,I.free,I.freeC,fun p hp=>?_,tracked ⟨oL,hoL,I.free⟩ hs,by simpa using I.len⟩ ⟨_,hs,.inl rfl⟩
  ·exact (hs.2 b (qaS (qat (qas e) I.ok.above))).trans (I.base.keep b o e n hb hx)
  ·obtain⟨sl,e1⟩:=I.base.slot b o e n hb hx;exact⟨sl,(hs.2 b (qaS (qat (qas e) I.ok.above))).trans e1⟩
  ·obtain⟨o',e1⟩:=I.base.there b o e hx;exact⟨o',(hs.2 b (qaS (qat (qas e) I.ok.above))).trans e1⟩
  ·by_cases hj:j=i
   ·subst hj;rw[hi] at e1;cases e1;rw[qaA hiσ] at e2;cases e2;exact⟨u,r,.inl ⟨hk,by simp⟩⟩
   ·rw[qae (Ne.symm hj)] at e2;obtain⟨u',r',q⟩:=hl j y v' e1 e2 e3;refine⟨u',r',?_⟩;rcases q with ⟨k,e⟩|⟨k,c,e,z⟩
    ·refine .inl ⟨k,?_⟩
     have:y≠x:=fun e=>hj (qE hN e1 (e▸hi))
     simp[this,e]
    ·exact .inr ⟨k,c,e,z.sameBut hs (cne y c e)⟩
  ·obtain⟨w',z⟩:=I.cell y c e;exact⟨w',z.sameBut hs (cne y c e)⟩
  ·obtain⟨e,n,ne,nf,d⟩:=I.pin p hp;exact⟨(hs.2 p.1 ne).trans e,n,ne,nf,d⟩
 ·have hfn:X.fn x=true:=by
   rcases hf with z|z
   ·exact z
   ·rw[z] at hk;cases hk
  obtain⟨c,hc⟩:=I.ok.has x (.inl hk);obtain⟨w',z⟩:=I.cell x c hc;refine wpAny_storeName_cell I.ok.kind hk hc z (fun h' hc' hs=>?_);obtain⟨oc,hoc,hocd⟩:=id z;refine h { s with heap:=h'} ⟨I.ok,I.os,I.bare,⟨fun b o e n hb hx=>?_,fun b o e n hb hx=>?_,I.base.free,fun b o e hx=>?_,I.base.tups,I.base.frzs,I.base.tbls⟩,⟨m,hn.sameBut hs (Ne.symm (cne x c hc)),fun j y v' e1 e2 e3=>?_⟩,fun y c' e=>?_,I.free,I.freeC,fun p hp=>?_,tracked ⟨oc,hoc,I.freeC x c hc⟩ hs,by simpa using I.len⟩ ⟨c,hs,.inr hc⟩
  ·exact (hs.2 b (qaS (qat (qas e) (I.ok.cab x c hfn hc)))).trans (I.base.keep b o e n hb hx)
  ·obtain⟨sl,e1⟩:=I.base.slot b o e n hb hx;exact⟨sl,(hs.2 b (qaS (qat (qas e) (I.ok.cab x c hfn hc)))).trans e1⟩
  ·obtain⟨o',e1⟩:=I.base.there b o e hx;exact⟨o',(hs.2 b (qaS (qat (qas e) (I.ok.cab x c hfn hc)))).trans e1⟩
  ·by_cases hj:j=i
   ·subst hj;rw[hi] at e1;cases e1;rw[qaA hiσ] at e2;cases e2;exact⟨u,r,.inr ⟨.inl hk,c,hc,hc'⟩⟩
   ·rw[qae (Ne.symm hj)] at e2;obtain⟨u',r',q⟩:=hl j y v' e1 e2 e3;refine⟨u',r',?_⟩;rcases q with q|⟨k,c',e,z'⟩
    ·exact .inl q
    ·refine .inr ⟨k,c',e,z'.sameBut hs ?_⟩;rintro rfl;exact hj (qE hN e1 (I.ok.inj _ _ _ e hc▸hi))
  ·by_cases hcc:c'=c
   ·subst hcc;exact⟨_,hc'⟩
   ·obtain⟨w2,z2⟩:=I.cell y c' e;exact⟨w2,z2.sameBut hs hcc⟩
  ·obtain⟨e,n,ne,nf,d⟩:=I.pin p hp;refine⟨(hs.2 p.1 ?_).trans e,n,ne,nf,d⟩;intro q;rw[q,hoc] at e;have q':oc=p.2:=Option.some.inj e;exact d w' (by rw[<-q'];exact hocd)
def jc{M:Model}{A:Around}{E:Value->Shared->Prop}{i:Nat}{x:Str}{v:V}{u:Value}{Q:Unit->Shared->Prop}(I:Inv X F6 σ H s)(hN:X.N.Nodup)(hi:X.N[i]?=some x)(hx:Loc X.env.scope x)(r:aP v u)
  (h:∀s',Inv X F6 (σ.set i (some v)) H s'->Q () s') (hf:X.fn x=true\/X.env.scope.names.lookup x=some .local:=by first | exact .inl rfl | exact .inr rfl | assumption):wpAny M A (storeName X.env x u) Q E s :=
 wj I hN hi hx r (fun s' I' _=>h s' I') hf
def Inv.call'{s':Shared}{ch:List Addr}(I:Inv X F6 σ H s)(ho:s'.os=s.os)(u:Un (frs X.stack) ch H H' s.heap s'.heap)(hok:HOk X.prog X.w H' s'.heap)(hg:AllBare s'.gens)
  (hch:∀b∈ch,(b∈X.ex\/X.s₀.heap.objs.size<=b)/\b≠X.env.locals/\(∀x c,X.env.cells.lookup x=some c->c≠b)/\∀p∈X.pn++F6,p.1≠b):Inv X F6 σ H' s':=by
 obtain⟨h',g',d',t',o'⟩:=s';have e:o'=s.os:=ho;subst e;exact I.call (g':=g') (t':=t') (d':=d') u hok hg hch
end
abbrev XK:=Value->Option Addr->Hp->Prop
abbrev St:=List (Option V)
abbrev VK:=V->Hp->Prop
abbrev TE:=St->Hp->VK->Prop
abbrev TT:=St->Hp->(Bool->Hp->Prop)->Prop
abbrev TA:=St->Hp->(List V->Hp->Prop)->Prop
structure Ends where
 nx:St->Hp->Prop
 rt:VK
 bk:St->Hp->Prop:=fun _ _=>False
 ct:St->Hp->Prop:=fun _ _=>False
abbrev TS:=Ends->St->Hp->Prop
inductive EP (X:Cx) (F6:List (Addr × Obj)) (σ:St) (Q:VK) (u:Value) (s':Shared):Prop
 | mk (v:V) (H':Hp) (i:Inv X F6 σ H' s') (r:aP v u) (q:Q v H'):EP X F6 σ Q u s'
inductive TP (X:Cx) (F6:List (Addr × Obj)) (σ:St) (Q:Bool->Hp->Prop) (b:Bool) (s':Shared):Prop
 | mk (H':Hp) (i:Inv X F6 σ H' s') (q:Q b H'):TP X F6 σ Q b s'
inductive AP (X:Cx) (F6:List (Addr × Obj)) (σ:St) (Q:List V->Hp->Prop) (us:List Value) (s':Shared):Prop
 | mk (vs:List V) (H':Hp) (i:Inv X F6 σ H' s') (r:aJ vs us) (q:Q vs H'):AP X F6 σ Q us s'
inductive SN (X:Cx) (F6:List (Addr × Obj)) (Q:St->Hp->Prop) (s':Shared):Prop
 | mk (σ':St) (H':Hp) (i:Inv X F6 σ' H' s') (q:Q σ' H'):SN X F6 Q s'
inductive SR (X:Cx) (F6:List (Addr × Obj)) (Q:VK) (u:Value) (s':Shared):Prop
 | mk (v:V) (σ':St) (H':Hp) (i:Inv X F6 σ' H' s') (r:aP v u) (q:Q v H'):SR X F6 Q u s'
def SP(X:Cx)(F6:List (Addr × Obj))(D:Ends)(f:Flow)(s':Shared):Prop :=
 match f with
 | .next=>SN X F6 D.nx s'
 | .brk=>SN X F6 D.bk s'
 | .cont=>SN X F6 D.ct s'
 | .ret u=>SR X F6 D.rt u s'
def PE(X:Cx)(e:Expr)(t:TE):Prop :=
 ∀(F6:List (Addr × Obj)) (s:Shared) (σ:St) (H:Hp) (Q:VK),Inv X F6 σ H s->t σ H Q->wpAny (model X.prog X.w) X.A (eval e X.env) (EP X F6 σ Q) X.xe s
def PT(X:Cx)(e:Expr)(t:TT):Prop :=
 ∀(F6:List (Addr × Obj)) (s:Shared) (σ:St) (H:Hp) (Q:Bool->Hp->Prop),Inv X F6 σ H s->t σ H Q->wpAny (model X.prog X.w) X.A (isTrue e X.env (eval e X.env)) (TP X F6 σ Q) X.xe s
def PW(X:Cx)(e:Expr)(t:TT):Prop :=
 ∀(whole:Sem Value) (F6:List (Addr × Obj)) (s:Shared) (σ:St) (H:Hp) (Q:Bool->Hp->Prop),Inv X F6 σ H s->t σ H Q->wpAny (model X.prog X.w) X.A (isTrue e X.env whole) (TP X F6 σ Q) X.xe s
def PW.pt{X:Cx}{e:Expr}{t:TT}(h:PW X e t):PT X e t:=h _
def PA(X:Cx)(es:List Expr)(t:TA):Prop :=
 ∀(pos:Pos) (F6:List (Addr × Obj)) (s:Shared) (σ:St) (H:Hp) (Q:List V->Hp->Prop),Inv X F6 σ H s->t σ H Q->wpAny (model X.prog X.w) X.A (spliced (backTo pos (starEach es X.env))) (AP X F6 σ Q) X.xe s
def PS(X:Cx)(st:Stmt)(t:TS):Prop :=
 ∀(F6:List (Addr × Obj)) (s:Shared) (σ:St) (H:Hp) (D:Ends),Inv X F6 σ H s->t D σ H->wpAny (model X.prog X.w) X.A (exec st X.env) (SP X F6 D) X.xe s
def PSs(X:Cx)(st:List Stmt)(t:TS):Prop :=
 ∀(F6:List (Addr × Obj)) (s:Shared) (σ:St) (H:Hp) (D:Ends),Inv X F6 σ H s->t D σ H->wpAny (model X.prog X.w) X.A (execs st X.env) (SP X F6 D) X.xe s
def thn{α:Type}{t:Sem α}{Q Q':α->Shared->Prop}{M:Model}{A:Around}{E:Value->Shared->Prop}{s:Shared}(h:wpAny M A t Q E s)(hQ:∀a s,Q a s->Q' a s):wpAny M A t Q' E s:=wpAny_mono h hQ fun _ _ x=>x
section
variable {X:Cx}
def tVar(i:Nat):TE:=fun σ H Q=>∃v,σ[i]?=some (some v)/\Q v H
def tC(v:V):TE:=fun _ H Q=>Q v H
def pe_var{i:Nat}{x:Str}{pos:Pos}(hN:X.N[i]?=some x)(hv:Vis X.env.scope x)(hd:(x == ("__debug__":Str))=false:=by decide)(hcd:(x == ("__classdict__":Str))=false:=by decide):PE X (.Name x pos) (tVar i):=by
 intro F6 s σ H Q I h;obtain⟨v,e,h⟩:=h;obtain⟨m,hn,hl⟩:=I.loc;obtain⟨u,r,l⟩:=hl i x v hN e hv;have fin:EP X F6 σ Q u s:=⟨v,H,I,r,h⟩;rcases l with ⟨hk,hm⟩|⟨hk,c,hc,hcell⟩
 ·exact wpAny_Name (wpAny_loadName_local I.ok.kind hk hn hm fin) hd
 ·rcases hk with hk|hk
  ·exact wpAny_Name (wpAny_loadName_cell I.ok.kind hk hc hcell fin) hd
  ·exact wpAny_Name (wpAny_loadName_free I.ok.kind hk hc hcell fin hcd) hd
def pe_int{i j pos}:PE X (.Constant (.int i) j pos) (tC (.int i)):=fun _ _ _ H _ I h=>wpAny_Constant_int ⟨.int i,H,I.tok _,⟨_,rfl⟩,h⟩
def pe_bl{b j pos}:PE X (.Constant (.bool b) j pos) (tC (.bl b)):=fun _ _ _ H _ I h=>Constant_bool ⟨.bl b,H,I,rfl,h⟩
def pe_str{x j pos}:PE X (.Constant (.str x) j pos) (tC (.str x)):=fun _ _ _ H _ I h=>Calls.Constant_str ⟨.str x,H,I.tok _,⟨_,rfl⟩,h⟩
def Gl(X:Cx)(x:Str):Prop:=X.env.kindOf x=some .globalImplicit
def tU{E:Value->Shared->Prop}{F6:List (Addr × Obj)}{s:Shared}{σ:St}{H:Hp}{x:Str}{u:Value}{pos:Pos}{Q:Value->Shared->Prop}(I:Inv X F6 σ H s)(hg:Gl X x)(hm:X.mg x=some u)(h:Q u s)
  (hd:(x == ("__debug__":Str))=false:=by decide):wpAny (model X.prog X.w) X.A (eval (.Name x pos) X.env) Q E s :=
 Calls.Name_function_global I.ok.kind hg (Calls.loadGlobal_global (by rw[I.ok.glob];exact I.mod.glob.keeps I.bk) hm h) hd
def gQ{E:Value->Shared->Prop}{F6:List (Addr × Obj)}{s:Shared}{σ:St}{H:Hp}{x:Str}{u:Value}{pos:Pos}{Q:Value->Shared->Prop}(I:Inv X F6 σ H s)(hg:Gl X x)(hm:X.mg x=none)(hv:bootBuiltins x=some u)(h:Q u s)
  (hn:x≠"__name__":=by decide) (hd:(x == ("__debug__":Str))=false:=by decide):wpAny (model X.prog X.w) X.A (eval (.Name x pos) X.env) Q E s:=by
 obtain⟨mb,h1,h2⟩:=I.mod.blt;exact Calls.Name_function_global I.ok.kind hg (Calls.loadGlobal_builtin (by rw[I.ok.glob];exact I.mod.glob.keeps I.bk) hm (by rw[I.ok.blt];exact h1.keeps I.bk) ((h2 x hn).trans hv) h) hd
def pe_glob{x:Str}{v:V}{u:Value}{pos:Pos}(hg:Gl X x)(hm:X.mg x=some u)(r:aP v u)(hd:(x == ("__debug__":Str))=false:=by decide):PE X (.Name x pos) (tC v) :=
 fun _ _ _ H _ I h=>tU I hg hm ⟨v,H,I,r,h⟩ hd
def pe_bltn{x:Str}{v:V}{u:Value}{pos:Pos}(hg:Gl X x)(hm:X.mg x=none)(hv:bootBuiltins x=some u)(r:aP v u)(hn:x≠"__name__":=by decide)(hd:(x == ("__debug__":Str))=false:=by decide):PE X (.Name x pos) (tC v) :=
 fun _ _ _ H _ I h=>gQ I hg hm hv ⟨v,H,I,r,h⟩ hn hd
variable {a b:Expr} {ta tb:TE} {pos:Pos}
def tB(t:TE):TT:=fun σ H Q=>t σ H fun x H1=>∃c,x=.bl c/\Q c H1
def pt_val{e:Expr}{t:TE}(h:PE X e t)(he:∀whole,isTrue e X.env whole=(do let v <-whole;standAt e.pos;holding [v] (truthy v)):=by intro _;rfl):PT X e (tB t):=by
 intro F6 s σ H Q I hw;refine isTrue_plain (thn (h F6 s σ H _ I hw) fun v s1 ⟨x,H1,I1,r1,q1⟩=>?_) (he _);obtain⟨d,rfl,q⟩:=q1;cases r1;exact wpAny_truthy_bool ⟨H1,I1,q⟩
variable {tA tB':TT} {rest:List Expr}
def tOr(t u:TT):TT:=fun σ H Q=>t σ H fun c H1=>if c=true then Q true H1 else u σ H1 Q
def tNot(t:TT):TT:=fun σ H Q=>t σ H fun c H1=>Q (!c) H1
def pw_or1(ha:PT X a tA):PW X (.BoolOp .Or [a] pos) tA:=by
 intro wh F6 s σ H Q I h;refine isTrue_or (thn (ha F6 s σ H Q I h) fun c s1 e=>?_)
 cases c with
 | false=>exact isTrue_or_nil e
 | true=>exact e
def pw_or(ha:PT X a tA)(hb:PW X (.BoolOp .Or (b::rest) pos) tB'):PW X (.BoolOp .Or (a::b::rest) pos) (tOr tA tB'):=by
 intro wh F6 s σ H Q I h;refine isTrue_or (thn (ha F6 s σ H _ I h) fun c s1 ⟨H1,I1,q1⟩=>?_)
 cases c with
 | true=>exact⟨H1,I1,q1⟩
 | false=>exact hb wh F6 s1 σ H1 Q I1 q1
def pt_not(ha:PT X a tA):PT X (.UnaryOp .Not a pos) (tNot tA):=by
 intro F6 s σ H Q I h;exact isTrue_not (thn (ha F6 s σ H (fun c H1=>Q (!c) H1) I h) fun _ _ ⟨H1,I1,q⟩=>⟨H1,I1,q⟩)
def tAndV(ta tb:TE):TE:=fun σ H Q=>ta σ H fun x H1=>∃c,x=.bl c/\if c=true then tb σ H1 Q else Q (.bl false) H1
def tNotV(ta:TE):TE:=fun σ H Q=>ta σ H fun x H1=>∃c,x=.bl c/\Q (.bl (!c)) H1
def pe_one{op}{t:TE}(h:PE X a t):PE X (.BoolOp op [a] pos) t:=fun F6 s σ H Q I hw=>BoolOp_one (h F6 s σ H Q I hw)
def pe_and(ha:PE X a ta)(hb:PE X (.BoolOp .And (b::rest) pos) tb):PE X (.BoolOp .And (a::b::rest) pos) (tAndV ta tb):=by
 intro F6 s σ H Q I h;refine BoolOp_and (thn (ha F6 s σ H _ I h) fun v s1 ⟨x,H1,I1,r1,q1⟩=>?_);obtain⟨c,rfl,q1⟩:=q1;cases r1;refine wpAny_truthy_bool ?_
 cases c with
 | true=>exact hb F6 s1 σ H1 Q I1 q1
 | false=>exact⟨.bl false,H1,I1,rfl,q1⟩
def pe_not(ha:PE X a ta):PE X (.UnaryOp .Not a pos) (tNotV ta):=by
 intro F6 s σ H Q I h;refine UnaryOp_ (thn (ha F6 s σ H _ I h) fun v s1 ⟨x,H1,I1,r1,q1⟩=>?_);obtain⟨c,rfl,q1⟩:=q1;cases r1;exact not_of (wpAny_truthy_bool ⟨.bl (!c),H1,I1,rfl,q1⟩)
def tIf(t:TT)(ta tb:TE):TE:=fun σ H Q=>t σ H fun c H1=>if c=true then ta σ H1 Q else tb σ H1 Q
def wU{c:Expr}(hc:PT X c tA)(ha:PE X a ta)(hb:PE X b tb):PE X (.IfExp c a b pos) (tIf tA ta tb):=by
 intro F6 s σ H Q I h;refine wpAny_IfExp (thn (hc F6 s σ H _ I h) fun d s1 ⟨H1,I1,q1⟩=>?_)
 cases d with
 | true=>exact ha F6 s1 σ H1 Q I1 q1
 | false=>exact hb F6 s1 σ H1 Q I1 q1
end
def SqL(K:qac)(H:Hp)(a:Addr)(xs:List V):Prop :=
 Rd H a (.lst xs) \/
  ∃(o:Obj) (its:Array Value) (n:Nat),K.lookup a=some o/\o.cls=.type "list"/\o.dict=none/\o.data=.seq its n/\its.size<=sizeLine/\aJ xs its.toList
def SqT(K:qac)(H:Hp)(a:Addr)(xs:List V):Prop :=
 Rd H a (.tup xs) \/
  ∃(o:Obj) (its:Array Value) (n:Nat),K.lookup a=some o/\o.cls=.type "tuple"/\(o.data=.seq its n/\o.dict=none)/\its.size<=sizeLine/\aJ xs its.toList
def absV:Value->Option V
 | .none=>some .non
 | .bool b=>some (.bl b)
 | .int i _=>some (.int i)
 | .str x _=>some (.str x)
 | .bytes b _=>some (.byt b)
 | .float b _=>some (.flt b)
 | .ref a=>some (.ref a)
 | .type n=>some (.ty n)
 | _=>none
def aP.abs{x:V}{u:Value}(r:aP x u):absV u=some x:=by
 cases x with
 | non=>cases r;rfl
 | bl _=>cases r;rfl
 | int _=>obtain⟨t,rfl⟩:=r;rfl
 | str _=>obtain⟨t,rfl⟩:=r;rfl
 | byt _=>obtain⟨t,rfl⟩:=r;rfl
 | flt _=>obtain⟨t,rfl⟩:=r;rfl
 | ref _=>cases r;rfl
 | ty _=>cases r;rfl
def aP.inj{x y:V}{u:Value}(r:aP x u)(q:aP y u):x=y:=Option.some.inj (r.abs.symm.trans q.abs)
def aJ.inj{xs ys:List V}{us:List Value}(r:aJ xs us)(q:aJ ys us):xs=ys:=by
 induction r generalizing ys with
 | nil=>cases q;rfl
 | cons r t ih=>cases q with | cons r' t'=>rw[r.inj r',ih t']
section
variable {X:Cx} {F6:List (Addr × Obj)} {σ:St} {H:Hp} {s:Shared} {a:Addr} {xs ys:List V}
def SqL.of{K:qac}(h:H a=some (.lst xs)):SqL K H a xs:=.inl (.inl h)
def SqT.of{K:qac}(h:H a=some (.tup xs)):SqT K H a xs:=.inl (.inl h)
def Inv.list(I:Inv X F6 σ H s)(h:SqL X.K H a xs):∃its:List Value,aJ xs its/\PlainL s.heap a its.toArray/\xs.length<=sizeLine:=by
 rcases h with h|⟨o,its,n,hk,hc,hd,hs,hz,r⟩
 ·obtain⟨z,its,n,r,e⟩:=h.ok I.hok;exact⟨its,r,⟨_,n,e,rfl,rfl,rfl⟩,z⟩
 ·refine⟨its.toList,r,⟨o,n,I.kIn a o hk,hc,hd,by simpa using hs⟩,?_⟩;have e:=r.length;simp only[qbu] at e;ext
def Inv.tupleN(I:Inv X F6 σ H s)(h:SqT X.K H a xs):∃its:List Value,aJ xs its/\gI s.heap a its.toArray/\xs.length<=sizeLine:=by
 rcases h with h|⟨o,its,n,hk,hc,hs,hz,r⟩
 ·obtain⟨z,its,r,p⟩:=h.ok I.hok;exact⟨its,r,p,z⟩
 ·refine⟨its.toList,r,⟨o,I.kIn a o hk,hc,⟨n,by simpa using hs.1⟩,hs.2⟩,?_⟩;have e:=r.length;simp only[qbu] at e;ext
def Inv.tuple(I:Inv X F6 σ H s)(h:SqT X.K H a xs):∃its:List Value,aJ xs its/\IsTup s.heap a its.toArray/\xs.length<=sizeLine :=
 let ⟨its,r,p,z⟩:=I.tupleN h
 ⟨its,r,p.tup,z⟩
def Inv.list_inj(I:Inv X F6 σ H s)(h:SqL X.K H a xs)(h':SqL X.K H a ys):xs=ys:=by
 obtain⟨its,r,⟨o,n,e,_,_,d⟩,_⟩:=I.list h;obtain⟨its',r',⟨o',n',e',_,_,d'⟩,_⟩:=I.list h';rw[e] at e';cases e';rw[d] at d';injection d' with d1 _
 have:its=its':=by simpa using congrArg Array.toList d1
 subst this;exact r.inj r'
def Inv.tuple_inj(I:Inv X F6 σ H s)(h:SqT X.K H a xs)(h':SqT X.K H a ys):xs=ys:=by
 obtain⟨its,r,⟨o,e,_,n,d⟩,_⟩:=I.tuple h;obtain⟨its',r',⟨o',e',_,n',d'⟩,_⟩:=I.tuple h';rw[e] at e';cases e';rw[d] at d';injection d' with d1 _
 have:its=its':=by simpa using congrArg Array.toList d1
 subst this;exact r.inj r'
end
section
variable {X:Cx} {F6:List (Addr × Obj)} {σ:St} {H:Hp} {s:Shared} {E:Value→Shared→Prop}
end
section
variable {X:Cx} {st:Stmt} {rest:List Stmt} {t u:TS} {e:Expr} {te:TE} {pos:Pos}
def tNext:TS:=fun D σ H=>D.nx σ H
def tSeq(t u:TS):TS:=fun D σ H=>t { D with nx:=u D} σ H
def pss_nil:PSs X [] tNext:=fun _ _ σ H _ I h=>wpAny_execs_nil ⟨σ,H,I,h⟩
def xX(h1:PS X st t)(h2:PSs X rest u):PSs X (st::rest) (tSeq t u):=by
 intro F6 s σ H D I h;refine wpAny_execs_cons (thn (h1 F6 s σ H { D with nx:=u D} I h) fun f s1 q=>?_)
 cases f with
 | next =>
  obtain⟨σ',H',I',q⟩:=q;exact h2 F6 s1 σ' H' D I' q
 | ret v=>exact q
 | brk=>exact q
 | cont=>exact q
def pss_one(h1:PS X st t):PSs X [st] t:=by
 intro F6 s σ H D I h;refine wpAny_execs_cons (thn (h1 F6 s σ H D I h) fun f s1 q=>?_)
 cases f with
 | next=>exact wpAny_execs_nil q
 | ret v=>exact q
 | brk=>exact q
 | cont=>exact q
def Inv.quiet{F6:List (Addr × Obj)}{σ:St}{H:Hp}{s:Shared}(I:Inv X F6 σ H s):interactive X.env=false:=by simp[interactive,I.ok.kind]
def tDrop(te:TE):TS:=fun D σ H=>te σ H fun _ H1=>D.nx σ H1
def ps_expr(he:PE X e te)(hs:swapsWith e none pos.line X.env=pure false:=by rfl):PS X (.Expr e pos) (tDrop te):=by
 intro F6 s σ H D I h;exact wpAny_Expr_any (thn (he F6 s σ H _ I h) fun v s1 ⟨x,H1,I1,r1,q1⟩=>⟨σ,H1,I1,q1⟩) I.quiet hs
def tRet(te:TE):TS:=fun D σ H=>te σ H D.rt
def ps_ret(he:PE X e te):PS X (.Return (some e) pos) (tRet te):=by
 intro F6 s σ H D I h;exact wpAny_Return_some (thn (he F6 s σ H _ I h) fun v s1 ⟨x,H1,I1,r1,q1⟩=>⟨x,σ,H1,I1,r1,q1⟩)
def tIfS(c:TT)(t u:TS):TS:=fun D σ H=>c σ H fun b H1=>if b=true then t D σ H1 else u D σ H1
def ps_if{c:Expr}{a b:List Stmt}{tc:TT}(hc:PT X c tc)(ha:PSs X a t)(hb:PSs X b u):PS X (.If c a b pos) (tIfS tc t u):=by
 intro F6 s σ H D I h;refine wpAny_If (thn (hc F6 s σ H _ I h) fun d s1 ⟨H1,I1,q1⟩=>?_)
 cases d with
 | true=>exact ha F6 s1 σ H1 D I1 q1
 | false=>exact hb F6 s1 σ H1 D I1 q1
end
abbrev TG:=V->St->Hp->(St->Hp->Prop)->Prop
abbrev TGs:=List V->St->Hp->(St->Hp->Prop)->Prop
def PG(X:Cx)(target:Expr)(t:TG):Prop :=
 ∀(F6:List (Addr × Obj)) (s:Shared) (σ:St) (H:Hp) (v:V) (u:Value) (Q:St->Hp->Prop),Inv X F6 σ H s->aP v u->t v σ H Q ->
  wpAny (model X.prog X.w) X.A (assign target X.env u) (fun _ s'=>SN X F6 Q s') X.xe s
def PGs(X:Cx)(ts:List Expr)(t:TGs):Prop :=
 ∀(F6:List (Addr × Obj)) (s:Shared) (σ:St) (H:Hp) (vs:List V) (us:List Value) (Q:St->Hp->Prop),Inv X F6 σ H s->aJ vs us->t vs σ H Q ->
  wpAny (model X.prog X.w) X.A (assignInOrder ((assignEach ts X.env).map (·.2)) us) (fun _ s'=>SN X F6 Q s') X.xe s
abbrev TSet:=V->V->V->Hp->(Hp->Prop)->Prop
inductive SE (X:Cx) (F6:List (Addr × Obj)) (σ:St) (Q:Hp->Prop) (s':Shared):Prop
 | mk (H':Hp) (i:Inv X F6 σ H' s') (q:Q H'):SE X F6 σ Q s'
def PSet(X:Cx)(t:TSet):Prop :=
 ∀(F6:List (Addr × Obj)) (s:Shared) (σ:St) (H:Hp) (o i v:V) (ov iv u:Value) (Q:Hp->Prop),Inv X F6 σ H s->aP o ov->aP i iv->aP v u->t o i v H Q ->
  wpAny (model X.prog X.w) X.A (setItem ov iv u) (fun _ s'=>SE X F6 σ Q s') X.xe s
section
variable {X:Cx} {pos:Pos}
def gName(i:Nat):TG:=fun v σ H Q=>Q (σ.set i (some v)) H
def t7{i:Nat}{x:Str}(hN:X.N.Nodup)(hi:X.N[i]?=some x)(hx:Loc X.env.scope x)(hf:X.fn x=true\/X.env.scope.names.lookup x=some .local:=by first | exact .inl rfl | exact .inr rfl | assumption):PG X (.Name x pos) (gName i):=by
 intro F6 s σ H v u Q I r h;exact wpAny_assign_Name (jc I hN hi hx r (fun s' I'=>⟨_,H,I',h⟩) hf)
def gNil:TGs:=fun vs σ H Q=>vs=[]/\Q σ H
def gCons(t:TG)(u:TGs):TGs:=fun vs σ H Q=>∃v r,vs=v::r/\t v σ H fun σ' H'=>u r σ' H' Q
def pgs_nil:PGs X [] gNil:=by
 intro F6 s σ H vs us Q I r h;obtain⟨e,h⟩:=h;subst e;cases r;exact assignInOrder_nil ⟨σ,H,I,h⟩
def xI{e:Expr}{es:List Expr}{t:TG}{u:TGs}(h1:PG X e t)(h2:PGs X es u)
  (hs:(assignEach (e::es) X.env).map (·.2)=assign e X.env::(assignEach es X.env).map (·.2):=by rfl):PGs X (e::es) (gCons t u):=by
 intro F6 s σ H vs us Q I r h;obtain⟨v,vr,e1,h⟩:=h;subst e1
 cases r with
 | cons r rr =>
  rw[hs];refine assignInOrder_cons (thn (h1 F6 s σ H _ _ _ I r h) fun _ s1 ⟨σ1,H1,I1,q1⟩=>?_);exact h2 F6 s1 σ1 H1 _ _ Q I1 rr q1
def gTup(K:qac)(n:Nat)(t:TGs):TG:=fun v σ H Q=>∃a xs,v=.ref a/\SqT K H a xs/\xs.length=n/\t xs σ H Q
def pg_tup{es:List Expr}{k:Nat}{t:TGs}{n:Nat}(hc:X.calm=true)(h:PGs X es t)
  (hn:(assignEach es X.env).length=n:=by rfl) (hst:(assignEach es X.env).findIdx? (·.1)=none:=by rfl):PG X (.Tuple es k pos) (gTup X.K n t):=by
 intro F6 s σ H v u Q I r hw;obtain⟨a,xs,e1,hq,hl,hw⟩:=hw;subst e1;cases r;obtain⟨its,rv,ht,hz⟩:=I.tuple hq;refine assign_Tuple_tuple (I.ok.hd hc) ht (by simp[hn,<-hl,rv.length]) hst fun h' hx=>?_;have I1:Inv X F6 σ H { s with heap:=h'}:=I.kept (t':=s.toks) fun b o e=>hx b o (qaS (qas e)) e;exact h F6 _ σ H xs _ Q I1 (by simpa using rv) hw
def gSub(to ti:TE)(t:TSet):TG:=fun v σ H Q=>to σ H fun o H1=>ti σ H1 fun i H2=>t o i v H2 fun H3=>Q σ H3
def pg_sub{o i:Expr}{to ti:TE}{t:TSet}(ho:PE X o to)(hi:PE X i ti)(hs:PSet X t)
  (ha:∀v,assign (.Subscript o i pos) X.env v=(do
   let ov <-holding [v] (eval o X.env)
   let iv <-holding [v,ov] (eval i X.env)
   standAt pos
   holding [v,ov,iv] (setItem ov iv v)
   release [v,ov,iv] []):=by intro _;rfl):PG X (.Subscript o i pos) (gSub to ti t):=by
 intro F6 s σ H v u Q I r h;rw[ha];refine qab (wpAny_holding (thn (ho F6 s σ H _ I h) fun ov s1 ⟨x,H1,I1,r1,q1⟩=>?_));refine qab (wpAny_holding (thn (hi F6 s1 σ H1 _ I1 q1) fun iv s2 ⟨y,H2,I2,r2,q2⟩=>?_));refine qab (wpAny_standAt (qab (wpAny_holding (thn (hs F6 s2 σ H2 x y v ov iv u _ I2 r1 r2 r q2) fun _ s3 ⟨H3,I3,q3⟩=>?_))));exact wpAny_release ⟨σ,H3,I3,q3⟩
def tAsg(te:TE)(g:TG):TS:=fun D σ H=>te σ H fun x H1=>g x σ H1 D.nx
def ps_asg{tg e:Expr}{te:TE}{g:TG}(he:PE X e te)(hg:PG X tg g)(hs:swapsWithSole [tg] e pos.line X.env=pure false:=by rfl)(hw:swappedStores [tg] e X.env=pure none:=by rfl)
  (h1:(assignEach [tg] X.env).map (·.2)=[assign tg X.env]:=by rfl):PS X (.Assign [tg] e pos) (tAsg te g):=by
 intro F6 s σ H D I h;refine wpAny_Assign_stores (thn (he F6 s σ H _ I h) fun v s1 ⟨x,H1,I1,r1,q1⟩=>?_) hs hw;rw[h1];exact thn (hg F6 s1 σ H1 x v _ I1 r1 q1) fun _ s2 q=>q
def ps_set{i:Nat}{x:Str}{e:Expr}{te:TE}{pos':Pos}(hN:X.N.Nodup)(hi:X.N[i]?=some x)(hx:Loc X.env.scope x)(he:PE X e te)(hs:swapsWith e (some (.Name x pos')) pos.line X.env=pure false:=by rfl)(hf:X.fn x=true\/X.env.scope.names.lookup x=some .local:=by first | exact .inl rfl | exact .inr rfl | assumption) :
  PS X (.Assign [.Name x pos'] e pos) (tAsg te (gName i)):=by
 intro F6 s σ H D I h;refine wpAny_Assign_Name (thn (he F6 s σ H _ I h) fun v s1 ⟨y,H1,I1,r1,q1⟩=>?_) hs;exact jc I1 hN hi hx r1 (fun s2 I2=>⟨_,H1,I2,q1⟩) hf
def tPar(i j:Nat)(ta:TA):TS:=fun D σ H=>ta σ H fun vs H1=>∃v w,vs=[v,w]/\D.nx ((σ.set i (some v)).set j (some w)) H1
def ps_par{i j:Nat}{x y:Str}{a b:Expr}{ta:TA}{px py pt:Pos}{kt k2 pt2}(hc:X.calm=true)(hN:X.N.Nodup)(hi:X.N[i]?=some x)(hj:X.N[j]?=some y)(hij:i≠j)
  (hx:X.env.scope.names.lookup x=some .local) (hy:X.env.scope.names.lookup y=some .local) (ha:PA X [a,b] ta)
  (hw:swappedStores [.Tuple [.Name x px,.Name y py] kt pt] (.Tuple [a,b] k2 pt2) X.env=pure (some [x,y]))
  (hs:swapsWithSole [.Tuple [.Name x px,.Name y py] kt pt] (.Tuple [a,b] k2 pt2) pos.line X.env=pure false:=by rfl) :
  PS X (.Assign [.Tuple [.Name x px,.Name y py] kt pt] (.Tuple [a,b] k2 pt2) pos) (tPar i j ta):=by
 intro F6 s σ H D I h;rw[exec_Assign_arm];refine qab (wpAny_standAt ?_);rw[hs];refine qab (qaw ?_);rw[qay (by decide)];refine qab (Tuple_ (thn (ha _ F6 s σ H _ I h) fun us s1 ⟨vs,H1,I1,r1,q1⟩=>?_));obtain⟨v,w,e1,q1⟩:=q1;subst e1;obtain⟨u1,u2,rfl,rv,rw'⟩:∃u1 u2,us=[u1,u2]/\aP v u1/\aP w u2:=by
  cases r1 with
  | cons p q =>
   cases q with
   | cons p' q' =>
    cases q';exact⟨_,_,rfl,p,p'⟩
 refine wpAny_newObj_type ?_ (by show 2<=sizeLine;decide);have I2:Inv X F6 σ H1 { s1 with heap:=s1.heap.push { cls:=.type "tuple",data:=.seq [u1,u2].toArray}}:=I1.kept (t':=s1.toks) fun b o e=>qad _ e;rw[hw];refine qab (qaw ?_);show wpAny (model X.prog X.w) X.A (do rule "assign.swapped-stores";let items <-unpackItems (.ref s1.heap.objs.size) 2 none;assignInOrder [fun v=>bindName X.env y v,fun v=>bindName X.env x v] items.reverse;pure Flow.next) _ _ _;refine qab (wpAny_rule (qab (unpackItems_tuple (items:=#[u1,u2]) (I.ok.hd hc) (IsTup.new s1.heap _) fun h' hx'=>?_)));have I3:=I2.kept (h':=h') (t':=s1.toks) fun b o e=>hx' b o (qaS (qas e)) e;show wpAny _ _ (assignInOrder [fun v=>bindName X.env y v,fun v=>bindName X.env x v] [u2,u1] >>= fun _=>pure Flow.next) _ _ _;refine qab (assignInOrder_cons (wpAny_bindName (jc I3 hN hj (.inl hy) rw' (fun s2 I4=>?_) (.inr hy))));refine assignInOrder_cons (wpAny_bindName (jc I4 hN hi (.inl hx) rv (fun s3 I5=>assignInOrder_nil (qaw ?_)) (.inr hx)));rw[List.set_comm _ _ (Ne.symm hij)] at I5;exact⟨_,H1,I5,q1⟩
def tWhile(c:TT)(tb:TS):TS:=fun D σ H=>∃W:Nat->St->Hp->Prop,(∃m,W m σ H)/\∀m σ H,W m σ H ->
 c σ H fun b H1=>if b=true then ∃N:St->Hp->Prop,(∀σ' H',N σ' H'->∃m',m'<m/\W m' σ' H')/\tb { D with nx:=N,ct:=N,bk:=D.nx} σ H1 else D.nx σ H1
def yn{c:Expr}{body:List Stmt}{tc:TT}{tb:TS}(hp:PassesOwn (model X.prog X.w) X.A X.env X.xe)(hc:PT X c tc)(hb:PSs X body tb):PS X (.While c body [] pos) (tWhile tc tb):=by
 intro F6 s σ H D I h;obtain⟨W,⟨m0,w0⟩,turn⟩:=h;refine wpAny_While (codeAny_whileLoop (fun n s'=>∃σ' H',Inv X F6 σ' H' s'/\W n σ' H') ?_ m0 ⟨σ,H,I,w0⟩);rintro n s1 ⟨σ1,H1,I1,w1⟩;refine wpAny_passesOwn hp (thn (hc F6 s1 σ1 H1 _ I1 (turn n σ1 H1 w1)) fun b s2 ⟨H2,I2,q2⟩=>?_)
 cases b with
 | true =>
  obtain⟨N,hN,q2⟩:=q2;rw[qan rfl];refine wpAny_passesOwn hp (thn (hb F6 s2 σ1 H2 _ I2 q2) fun f s3 q3=>?_)
  cases f with
  | next =>
   obtain⟨σ3,H3,I3,n3⟩:=q3;obtain⟨m',hm,w3⟩:=hN σ3 H3 n3;exact⟨m',hm,σ3,H3,I3,w3⟩
  | cont =>
   obtain⟨σ3,H3,I3,n3⟩:=q3;obtain⟨m',hm,w3⟩:=hN σ3 H3 n3;exact⟨m',hm,σ3,H3,I3,w3⟩
  | brk=>exact q3
  | ret v=>exact q3
 | false =>
  rw[qay qaT];exact wpAny_execs_nil ⟨σ1,H2,I2,q2⟩
end
structure It where
 go:Nat->Hp->Prop
 yld:Nat->Hp->V->Hp->Prop
 stop:Nat->Hp->Prop
def gS(X:Cx)(F6:List (Addr × Obj))(H:Hp)(b:Addr):Prop :=
 H b=none/\b≠X.env.locals/\b∉X.fs/\(b∈X.ex\/X.s₀.heap.objs.size<=b)/\(∀x c,X.env.cells.lookup x=some c->c≠b)/\∀p∈X.pn++F6,p.1≠b
def Inv.fpOk{X:Cx}{F6:List (Addr × Obj)}{σ:St}{H H':Hp}{s:Shared}{b:Addr}(I:Inv X F6 σ H s)(hb:s.heap.objs.size<=b)(hn:H' b=none):gS X F6 H' b:=by
 refine⟨hn,qaU (qat I.lt hb),I.nofs hb,.inr (qaI I.sz hb),fun x c e z=>?_,fun p hp z=>?_⟩
 ·obtain⟨v,q⟩:=I.cell x c e;exact absurd (qat q.lt (by rw[z];exact hb)) (qbb _)
 ·exact absurd (qat (qas (I.pin p hp).1) (by rw[z];exact hb)) (qbb _)
inductive TIt (X:Cx) (F6:List (Addr × Obj)) (σ:St) (u:Value) (Y:V->Hp->Prop) (n:Heap->Prop) (fp:List Addr) (s2:Shared):Prop
 | mk (x:V) (H':Hp) (i:Inv X F6 σ H' s2) (r:aP x u) (y:Y x H') (t:n s2.heap) (f:∀b∈fp,H' b=none):TIt X F6 σ u Y n fp s2
structure Turn (P:Program) (w:World) (K:qac) (tg:Expr) (J:It) (fp:List Addr) (it:Addr) (tn:Nat->Heap->Prop):Prop where
 mem:it∈fp
 obj:∀i h,tn i h->∀b∈fp,∃o,h.get? b=some o/\∀v,o.data≠.cell v
 keep:∀i h h',tn i h->(∀b∈fp,∀o,h.get? b=some o->h'.get? b=some o)->tn i h'
 item:∀(X:Cx),X.prog=P->X.w=w->X.K=K->X.calm=true->∀(i:Nat) (F6:List (Addr × Obj)) (s:Shared) (σ:St) (H:Hp) (E:Value->Shared->Prop),Inv X F6 σ H s->(∀b∈fp,gS X F6 H b)->tn i s.heap->J.go i H ->
  wpAny (model P w) X.A (pyNext (.ref it)) (fun r s1=>∃u,r=some u /\
   wpAny (model P w) X.A (letOwnedTupleGo tg (.ref it) u) (fun _ s2=>TIt X F6 σ u (J.yld i H) (tn (i+1)) fp s2) E s1) E s
 done:∀(X:Cx),X.prog=P->X.w=w->X.K=K->X.calm=true->∀(i:Nat) (F6:List (Addr × Obj)) (s:Shared) (σ:St) (H:Hp) (E:Value->Shared->Prop),Inv X F6 σ H s->(∀b∈fp,gS X F6 H b)->tn i s.heap->J.stop i H ->
  wpAny (model P w) X.A (pyNext (.ref it)) (fun r s1=>r=none/\Inv X F6 σ H s1) E s
 self:∀(A:Around) (i:Nat) (s:Shared) (Q:Value->Shared->Prop) (E:Value->Shared->Prop),tn i s.heap->Q (.ref it) s->wpAny (model P w) A (pyIter (.ref it)) Q E s
abbrev TI:=St->Hp->(It->Hp->Prop)->Prop
inductive PIE (X:Cx) (F6:List (Addr × Obj)) (σ:St) (tg:Expr) (R:It->Hp->Prop) (itv:Value) (s2:Shared):Prop
 | mk (it:Addr) (fp:List Addr) (tn:Nat->Heap->Prop) (J:It) (H':Hp) (e:itv=.ref it) (i:Inv X F6 σ H' s2) (t:Turn X.prog X.w X.K tg J fp it tn) (n:tn 0 s2.heap) (f:∀b∈fp,gS X F6 H' b) (r:R J H'):PIE X F6 σ tg R itv s2
def PI(X:Cx)(tg iter:Expr)(wi:TI):Prop :=
 ∀(F6:List (Addr × Obj)) (s:Shared) (σ:St) (H:Hp) (R:It->Hp->Prop),Inv X F6 σ H s->wi σ H R ->
  wpAny (model X.prog X.w) X.A (eval iter X.env) (fun v s1=>wpAny (model X.prog X.w) X.A (pyIter v) (PIE X F6 σ tg R) X.xe s1) X.xe s
def uB{M:Model}{A:Around}{E:Value->Shared->Prop}{s:Shared}{tg:Expr}{it:Addr}{u:Value}{o:Obj}{n:String}{vs:Array Value}{Q:Unit->Shared->Prop}(ho:s.heap.get? it=some o)(hc:o.cls=.type n)(hd:o.data=.fields vs)
  (hn:["enumerate","zip","dict_itemiterator","dict_reverseitemiterator","odict_iterator","itertools.zip_longest","itertools.pairwise"].contains n=false) (hQ:Q () s):wpAny M A (letOwnedTupleGo tg (.ref it) u) Q E s:=by
 unfold letOwnedTupleGo;cases tg <;> first
  | exact qaw hQ
  | (cases u <;> first
    | exact qaw hQ
    | (refine qab (wpAny_load ho ?_)
       rw[hc,hd];show wpAny M A (if (["enumerate","zip","dict_itemiterator","dict_reverseitemiterator","odict_iterator","itertools.zip_longest","itertools.pairwise"].contains n && vs[0]? == some (rawInt _))=true then _ else _) Q E s;rw[qay (by intro h;rw[hn,Bool.false_and] at h;cases h)]
       exact qaw hQ))
def Itl(K:qac)(a:Addr):It :=
 ⟨fun i H=>∃xs x,SqL K H a xs/\xs[i]?=some x,fun i H x H'=>H'=H/\∀xs,SqL K H a xs->xs[i]?=some x,fun i H=>∃xs,SqL K H a xs/\xs.length<=i⟩
def Itt(K:qac)(a:Addr):It :=
 ⟨fun i H=>∃xs x,SqT K H a xs/\xs[i]?=some x,fun i H x H'=>H'=H/\∀xs,SqT K H a xs->xs[i]?=some x,fun i H=>∃xs,SqT K H a xs/\xs.length<=i⟩
def Itr(lo:Int)(n:Nat):It:=⟨fun i _=>i<n,fun i H x H'=>H'=H/\x=.int (lo+i),fun i _=>n<=i⟩
def wE{P:Program}{w:World}{K:qac}{tg:Expr}(a it:Addr):Turn P w K tg (Itl K a) [it] it (fun i h=>h.IsListIter it a i) where
 mem:=by simp
 obj:=fun i h st b hb=>by
  have e:b=it:=by simpa using hb
  subst e;obtain⟨o,e,c,d⟩:=st;exact⟨o,e,fun v z=>by rw[d] at z;cases z⟩
 keep:=fun i h h' st k=>st.at fun o e=>k it (by simp) o e
 item:=by
  intro X hP hw hK hc i F6 s σ H E I hf st hg;subst hP hw hK;obtain⟨xs,x,hq,hx⟩:=hg;obtain⟨its,rv,p,hz⟩:=I.list hq;obtain⟨u,hu,ru⟩:=rv.get hx;obtain⟨f0,f1,f2,f3,f4,f5⟩:=hf it (by simp);refine wpAny_pyNext_list_item st p.isList (x:=u) (by simpa using hu) fun h' st' sb=>?_;have I1:Inv X F6 σ H { s with heap:=h'}:=I.turned (t':=s.toks) (fun b o hb e=>(sb.2 b hb).trans e) f0 f1 f3 f4 f5;obtain⟨o,e,c,d⟩:=id st';exact⟨u,rfl,uB (s:={ s with heap:=h'}) e c d (by decide) ⟨x,H,I1,ru,⟨rfl,fun ys hy=>by rw[I.list_inj hy hq];exact hx⟩,st',fun b hb=>(hf b hb).1⟩⟩
 done:=by
  intro X hP hw hK hc i F6 s σ H E I hf st hg;subst hP hw hK;obtain⟨xs,hq,hx⟩:=hg;obtain⟨its,rv,p,hz⟩:=I.list hq;obtain⟨f0,f1,f2,f3,f4,f5⟩:=hf it (by simp);have hl:=rv.length;exact wpAny_pyNext_list_end (I.ok.hd hc) st p.isList (by simp;ext) fun h' eb=>⟨rfl,I.turned (t':=s.toks) (fun b o hb e=>eb b o hb e) f0 f1 f3 f4 f5⟩
 self:=fun _ _ _ _ _ st h=>wpAny_pyIter_listiter st h
def uH{P:Program}{w:World}{K:qac}{tg:Expr}(a it:Addr):Turn P w K tg (Itt K a) [it] it (fun i h=>h.IsTupleIter it a i) where
 mem:=by simp
 obj:=fun i h st b hb=>by
  have e:b=it:=by simpa using hb
  subst e;obtain⟨o,e,c,d⟩:=st;exact⟨o,e,fun v z=>by rw[d] at z;cases z⟩
 keep:=fun i h h' st k=>st.at fun o e=>k it (by simp) o e
 item:=by
  intro X hP hw hK hc i F6 s σ H E I hf st hg;subst hP hw hK;obtain⟨xs,x,hq,hx⟩:=hg;obtain⟨its,rv,p,hz⟩:=I.tuple hq;obtain⟨u,hu,ru⟩:=rv.get hx;obtain⟨f0,f1,f2,f3,f4,f5⟩:=hf it (by simp);refine wpAny_pyNext_tuple_item st (show s.heap.IsTuple a its.toArray from p) (x:=u) (by simpa using hu) fun h' st' sb=>?_;have I1:Inv X F6 σ H { s with heap:=h'}:=I.turned (t':=s.toks) (fun b o hb e=>(sb.2 b hb).trans e) f0 f1 f3 f4 f5;obtain⟨o,e,c,d⟩:=id st';exact⟨u,rfl,uB (s:={ s with heap:=h'}) e c d (by decide) ⟨x,H,I1,ru,⟨rfl,fun ys hy=>by rw[I.tuple_inj hy hq];exact hx⟩,st',fun b hb=>(hf b hb).1⟩⟩
 done:=by
  intro X hP hw hK hc i F6 s σ H E I hf st hg;subst hP hw hK;obtain⟨xs,hq,hx⟩:=hg;obtain⟨its,rv,p,hz⟩:=I.tuple hq;obtain⟨f0,f1,f2,f3,f4,f5⟩:=hf it (by simp);have hl:=rv.length;exact wpAny_pyNext_tuple_end (I.ok.hd hc) st (show s.heap.IsTuple a its.toArray from p) (by simp;ext) fun h' eb=>⟨rfl,I.turned (t':=s.toks) (fun b o hb e=>eb b o hb e) f0 f1 f3 f4 f5⟩
 self:=fun _ _ _ _ _ st h=>wpAny_pyIter_tupleiter st h
def uM{P:Program}{w:World}{K:qac}{tg:Expr}(it:Addr)(lo:Int)(n:Nat):Turn P w K tg (Itr lo n) [it] it (fun i h=>IsRangeIter h it (lo+(i:Nat) * 1) ((n:Int) - (i:Nat)) 1) where
 mem:=by simp
 obj:=fun i h st b hb=>by
  have e:b=it:=by simpa using hb
  subst e
  exact⟨_,st,fun v z=>by
   have z':Data.fields _=Data.cell v:=z
   cases z'⟩
 keep:=fun i h h' st k=>k it (by simp) _ st
 item:=by
  intro X hP hw hK hc i F6 s σ H E I hf st hg;subst hP hw hK;obtain⟨f0,f1,f2,f3,f4,f5⟩:=hf it (by simp);have W:=Walks.range (prog:=X.prog) (w:=X.w) (I.ok.hd hc) it lo 1 n;refine W.item i s _ _ hg st fun v h' tk hv st' kk=>?_;obtain⟨t,rfl⟩:=hv;have I1:Inv X F6 σ H { s with heap:=h',toks:=tk}:=I.turned (fun b o hb e=>kk b o (by simpa using hb) e) f0 f1 f3 f4 f5;refine⟨_,rfl,uB (s:={ s with heap:=h',toks:=tk}) (n:="range_iterator") st' rfl rfl (by decide) ⟨.int (lo+i),H,I1,⟨t,?_⟩,⟨rfl,rfl⟩,st',fun b hb=>(hf b hb).1⟩⟩;rw[Int.mul_one]
 done:=by
  intro X hP hw hK hc i F6 s σ H E I hf st hg;subst hP hw hK;obtain⟨f0,f1,f2,f3,f4,f5⟩:=hf it (by simp);exact wpAny_pyNext_range_end (I.ok.hd hc) st (by have:n<=i:=hg;ext) fun h' eb=>⟨rfl,I.turned (t':=s.toks) (fun b o hb e=>eb b o hb e) f0 f1 f3 f4 f5⟩
 self:=fun _ _ _ _ _ st h=>wpAny_pyIter_rangeiter st h
section
variable {X:Cx} {tg:Expr}
def iList(K:qac)(tl:TE):TI:=fun σ H R=>tl σ H fun x H1=>∃a,x=.ref a/\(∃xs,SqL K H1 a xs)/\R (Itl K a) H1
def iTup(K:qac)(tl:TE):TI:=fun σ H R=>tl σ H fun x H1=>∃a,x=.ref a/\(∃xs,SqT K H1 a xs)/\R (Itt K a) H1
def pi_list{l:Expr}{tl:TE}(hl:PE X l tl):PI X tg l (iList X.K tl):=by
 intro F6 s σ H R I h;refine thn (hl F6 s σ H _ I h) fun v s1 ⟨x,H1,I1,r1,q1⟩=>?_;obtain⟨a,e,⟨xs,hq⟩,q⟩:=q1;subst e;cases r1;obtain⟨its,rv,p,hz⟩:=I1.list hq;refine wpAny_pyIter_list p.isList ?_;refine⟨s1.heap.objs.size,[s1.heap.objs.size],_,_,H1,rfl,I1.kept (t':=s1.toks) fun b o e=>qad _ e,wE a _,⟨_,qaz _ rfl,rfl,rfl⟩,fun b hb=>?_,q⟩;have e:b=s1.heap.objs.size:=by simpa using hb
 subst e;exact I1.fpOk (qai _) (I1.hok.fresh (qai _))
def pi_tup{l:Expr}{tl:TE}(hl:PE X l tl):PI X tg l (iTup X.K tl):=by
 intro F6 s σ H R I h;refine thn (hl F6 s σ H _ I h) fun v s1 ⟨x,H1,I1,r1,q1⟩=>?_;obtain⟨a,e,⟨xs,hq⟩,q⟩:=q1;subst e;cases r1;obtain⟨its,rv,p,hz⟩:=I1.tuple hq;refine wpAny_pyIter_tuple (show s1.heap.IsTuple a its.toArray from p) ?_;refine⟨s1.heap.objs.size,[s1.heap.objs.size],_,_,H1,rfl,I1.kept (t':=s1.toks) fun b o e=>qad _ e,uH a _,⟨_,qaz _ rfl,rfl,rfl⟩,fun b hb=>?_,q⟩;have e:b=s1.heap.objs.size:=by simpa using hb
 subst e;exact I1.fpOk (qai _) (I1.hok.fresh (qai _))
def yg{F6:List (Addr × Obj)}{σ:St}{H:Hp}{s:Shared}{R:It->Hp->Prop}{E:Value->Shared->Prop}{lo hi:Int}{t u v:Tok}{tk:Nat}(I:Inv X F6 σ H s)(h1:-(2 ^ 62)<=lo)(h2:lo<2 ^ 62)(h3:-(2 ^ 62)<=hi)(h4:hi<2 ^ 62)
  (q:R (Itr lo (hi - lo).toNat) H):wpAny (model X.prog X.w) X.A (pyIter (.ref s.heap.objs.size)) (PIE X F6 σ tg R) E { s with heap:=s.heap.push { cls:=.type "range",data:=.fields #[.int lo t,.int hi u,.int 1 v]},toks:=tk}:=by
 refine wpAny_pyIter_range (IsRange.new ..) (small_one h1 h2 h3 h4) ?_;have I1:Inv X F6 σ H { s with heap:=s.heap.push { cls:=.type "range",data:=.fields #[.int lo t,.int hi u,.int 1 v]},toks:=tk}:=I.kept fun b o e=>qad _ e
 refine⟨(s.heap.push { cls:=.type "range",data:=.fields #[.int lo t,.int hi u,.int 1 v]}).objs.size,[(s.heap.push { cls:=.type "range",data:=.fields #[.int lo t,.int hi u,.int 1 v]}).objs.size],_,_,H,rfl,
  I1.kept (t':=tk) fun b o e=>qad _ e,uM _ lo (hi - lo).toNat,?_,fun b hb=>?_,q⟩
 ·have e1:lo+((0:Nat):Int) * 1=lo:=by simp
  have e2:(((hi - lo).toNat:Nat):Int) - ((0:Nat):Int)=Builtin.Range.rangeSize lo hi 1:=by rw[rangeSize_one];split <;> ext
  show IsRangeIter _ _ (lo+((0:Nat):Int) * 1) ((((hi - lo).toNat:Nat):Int) - ((0:Nat):Int)) 1;rw[e1,e2];exact qaz _ rfl
 ·have e:b=(s.heap.push { cls:=.type "range",data:=.fields #[.int lo t,.int hi u,.int 1 v]}).objs.size:=by simpa using hb
  subst e;exact I1.fpOk (qai _) (I1.hok.fresh (qai _))
def iRng1(ta:TA):TI:=fun σ H R=>ta σ H fun vs H1=>∃j:Int,vs=[.int j] /\ -(2 ^ 62)<=j/\j<2 ^ 62/\R (Itr 0 j.toNat) H1
def vD{a:Expr}{ta:TA}{p pos:Pos}(hg:Gl X "range")(hm:X.mg "range"=none)(ha:PA X [a] ta)(hs:starEach [a] X.env=[(false,eval a X.env)]:=by rfl):PI X tg (.Call (.Name "range" p) [a] [] pos) (iRng1 ta):=by
 intro F6 s σ H R I h;refine Call_ (gQ I hg hm boot_range (PyProof.Rows.callWith_type1 (thn (ha pos F6 s σ H _ I h) fun us s1 ⟨vs,H1,I1,r1,q1⟩=>?_) hs rfl));obtain⟨j,e,q1,q2,q⟩:=q1;subst e
 cases r1 with
 | cons r rr =>
  cases rr;obtain⟨t,rfl⟩:=r;exact call_range_1 (yg I1 (by ext) (by ext) q1 q2 (by simpa using q))
def tFor(wi:TI)(g:TG)(tb:TS):TS:=fun D σ H=>wi σ H fun J H1=>∃W:Nat->Nat->St->Hp->Prop,(∃m,W 0 m σ H1)/\∀i m σ H,W i m σ H ->
 (J.stop i H/\D.nx σ H)\/(J.go i H/\∃N:St->Hp->Prop,(∀σ' H',N σ' H'->∃m',m'<m/\W (i+1) m' σ' H')/\∀x H',J.yld i H x H'->g x σ H' fun σ2 H2=>tb { D with nx:=N,ct:=N,bk:=D.nx} σ2 H2)
def kj(fp:List Addr)(h:Heap):List (Addr × Obj):=fp.filterMap fun b=>(h.get? b).map fun o=>(b,o)
def gk{fp:List Addr}{h:Heap}{b:Addr}{o:Obj}(hb:b∈fp)(e:h.get? b=some o):(b,o)∈kj fp h:=qbV.mpr ⟨b,hb,by rw[e];rfl⟩
def wv{fp:List Addr}{h:Heap}{p:Addr × Obj}(hp:p∈kj fp h):p.1∈fp/\h.get? p.1=some p.2:=by
 obtain⟨b,hb,e⟩:=qbV.mp hp
 cases q:h.get? b with
 | none=>rw[q] at e;cases e
 | some o =>
  rw[q] at e;have e':(b,o)=p:=Option.some.inj e;subst e';exact⟨hb,q⟩
def Inv.pinned{F6:List (Addr × Obj)}{σ:St}{H:Hp}{s:Shared}{fp:List Addr}(I:Inv X F6 σ H s)(hf:∀b∈fp,gS X F6 H b)(ho:∀b∈fp,∃o,s.heap.get? b=some o/\∀v,o.data≠.cell v):Inv X (F6++kj fp s.heap) σ H s :=
 I.pins_of fun p hp=>(qaL.mp hp).elim (fun z=>I.pin p (qaq _ z)) fun z=>by
  obtain⟨hb,e⟩:=wv z;obtain⟨f0,f1,f2,_⟩:=hf p.1 hb;obtain⟨o,e',d⟩:=ho p.1 hb;rw[e] at e';cases e';exact⟨e,f0,f1,f2,d⟩
def Inv.unpinned{F6 pl:List (Addr × Obj)}{σ:St}{H:Hp}{s:Shared}(I:Inv X (F6++pl) σ H s):Inv X F6 σ H s:=I.pins_of fun p hp=>I.pin p (qaq _ (qaV _ hp))
def ps_for{iter:Expr}{body:List Stmt}{wi:TI}{g:TG}{tb:TS}{pos:Pos}(hp:PassesOwn (model X.prog X.w) X.A X.env X.xe)(hc:X.calm=true)(hi:PI X tg iter wi)(hg:PG X tg g)(hb:PSs X body tb)
  (hs:∀x,foldedSetIterable iter X.env x=pure x:=by intro _;rfl):PS X (.For tg iter body [] pos) (tFor wi g tb):=by
 intro F6 s σ H D I h;refine wpAny_For (thn (hi F6 s σ H _ I h) fun v s1 h1=>thn h1 fun itv s2 h2=>?_) hs;obtain⟨it,fp,tn,J,H2,e,I2,T,st2,f2,W,⟨m0,w0⟩,turn⟩:=h2;subst e;have stat:∀{H':Hp},(∀b∈fp,H' b=none)->∀b∈fp,gS X F6 H' b:=fun hn b hb=>⟨hn b hb,(f2 b hb).2⟩;refine codeAny_forLoop_any (fun n s'=>∃i σ' H',Inv X F6 σ' H' s'/\tn i s'.heap/\(∀b∈fp,H' b=none)/\W i n σ' H') ?_ m0 ⟨0,σ,H2,I2,st2,fun b hb=>(f2 b hb).1,w0⟩;rintro n s3 ⟨i,σ3,H3,I3,st3,fr3,w3⟩;rcases turn i n σ3 H3 w3 with ⟨stop,qn⟩|⟨go,N,hN,step⟩
 ·refine wpAny_passesOwn hp (thn (T.done X rfl rfl rfl hc i F6 s3 σ3 H3 X.xe I3 (stat fr3) st3 stop) fun r s4 ⟨hr,I4⟩=>?_);subst hr;exact wpAny_execs_nil ⟨σ3,H3,I4,qn⟩
 ·refine wpAny_passesOwn hp (thn (T.item X rfl rfl rfl hc i F6 s3 σ3 H3 X.xe I3 (stat fr3) st3 go) fun r s4 ⟨u,hr,h4⟩=>?_);subst hr;refine wpAny_passesOwn hp (thn h4 fun _ s5 ⟨x,H5,I5,r5,y5,st5,fr5⟩=>?_);have I5':=I5.pinned (stat fr5) (T.obj _ _ st5);refine wpAny_passesOwn hp (thn (hg _ s5 σ3 H5 x u _ I5' r5 (step x H5 y5)) fun _ s6 ⟨σ6,H6,I6,q6⟩=>?_);refine wpAny_passesOwn hp (thn (hb _ s6 σ6 H6 _ I6 q6) fun f s7 q7=>?_);have again:∀{σ7:St} {H7:Hp},Inv X (F6++kj fp s5.heap) σ7 H7 s7->N σ7 H7->∃m,m<n/\∃i σ' H',Inv X F6 σ' H' s7/\tn i s7.heap/\(∀b∈fp,H' b=none)/\W i m σ' H':=fun {σ7 H7} I7 n7=>by
   obtain⟨m',hm,w7⟩:=hN σ7 H7 n7;refine⟨m',hm,i+1,σ7,H7,I7.unpinned,T.keep _ _ _ st5 fun b hb o e=>(I7.pin (b,o) (qaq _ (qaq _ (gk hb e)))).1,fun b hb=>?_,w7⟩;obtain⟨o,e,d⟩:=T.obj _ _ st5 b hb;exact (I7.pin (b,o) (qaq _ (qaq _ (gk hb e)))).2.1
  cases f with
  | next=>obtain⟨σ7,H7,I7,n7⟩:=q7;exact again I7 n7
  | cont=>obtain⟨σ7,H7,I7,n7⟩:=q7;exact again I7 n7
  | brk=>obtain⟨σ7,H7,I7,q7⟩:=q7;exact⟨σ7,H7,I7.unpinned,q7⟩
  | ret v=>obtain⟨x7,σ7,H7,I7,r7,q7⟩:=q7;exact⟨x7,σ7,H7,I7.unpinned,r7,q7⟩
end
abbrev R2:=V->V->Hp->VK->Prop
def OpR(X:Cx)(f:Value->Value->Sem Value)(r:R2):Prop :=
 ∀(F6:List (Addr × Obj)) (s:Shared) (σ:St) (H:Hp) (x y:V) (v u:Value) (Q:VK),Inv X F6 σ H s->aP x v->aP y u->r x y H Q ->
  wpAny (model X.prog X.w) X.A (f v u) (EP X F6 σ Q) X.xe s
def UnR(X:Cx)(f:Value->Sem Value)(r:V->Hp->VK->Prop):Prop :=
 ∀(F6:List (Addr × Obj)) (s:Shared) (σ:St) (H:Hp) (x:V) (v:Value) (Q:VK),Inv X F6 σ H s->aP x v->r x H Q ->
  wpAny (model X.prog X.w) X.A (f v) (EP X F6 σ Q) X.xe s
def dG(X:Cx)(f:Value)(r:List V->Hp->VK->Prop):Prop :=
 ∀(F6:List (Addr × Obj)) (s:Shared) (σ:St) (H:Hp) (xs:List V) (us:List Value) (Q:VK),Inv X F6 σ H s->aJ xs us->r xs H Q ->
  wpAny (model X.prog X.w) X.A (call f us) (EP X F6 σ Q) X.xe s
def TruR(X:Cx)(r:V->Hp->(Bool->Hp->Prop)->Prop):Prop :=
 ∀(F6:List (Addr × Obj)) (s:Shared) (σ:St) (H:Hp) (x:V) (v:Value) (Q:Bool->Hp->Prop),Inv X F6 σ H s->aP x v->r x H Q ->
  wpAny (model X.prog X.w) X.A (truthy v) (TP X F6 σ Q) X.xe s
def tOp(r:R2)(ta tb:TE):TE:=fun σ H Q=>ta σ H fun x H1=>tb σ H1 fun y H2=>r x y H2 Q
def tUn(r:V->Hp->VK->Prop)(ta:TE):TE:=fun σ H Q=>ta σ H fun x H1=>r x H1 Q
def rI(C:Int->Int->Prop)(g:Int->Int->V):R2:=fun x y H Q=>∃i j,x=.int i/\y=.int j/\C i j/\Q (g i j) H
def rI0(g:Int->Int->V):R2:=fun x y H Q=>∃i j,x=.int i/\y=.int j/\Q (g i j) H
def rU(g:Int->V):V->Hp->VK->Prop:=fun x H Q=>∃i,x=.int i/\Q (g i) H
section
variable {X:Cx} {a b c:Expr} {ta tb tc:TE} {pos:Pos}
def binT(ha:PE X a ta)(hb:PE X b tb){F6:List (Addr × Obj)}{s:Shared}{σ:St}{H:Hp}{R:V->V->Hp->Prop}(I:Inv X F6 σ H s)
  (h:ta σ H fun x H1=>tb σ H1 fun y H2=>R x y H2) {Q:Value->Shared->Prop} {f:Value->Value->Sem Value}
  (hf:∀v u s2 x y H2,Inv X F6 σ H2 s2->aP x v->aP y u->R x y H2->wpAny (model X.prog X.w) X.A (f v u) Q X.xe s2) :
  wpAny (model X.prog X.w) X.A (eval a X.env) (fun v s₁=>wpAny (model X.prog X.w) X.A (eval b X.env) (fun u s₂=>wpAny (model X.prog X.w) X.A (f v u) Q X.xe s₂) X.xe s₁) X.xe s:=by
 refine thn (ha F6 s σ H _ I h) fun v s1 ⟨x,H1,I1,r1,q1⟩=>?_;refine thn (hb F6 s1 σ H1 _ I1 q1) fun u s2 ⟨y,H2,I2,r2,q2⟩=>?_;exact hf v u s2 x y H2 I2 r1 r2 q2
def pe_op{op:Operator}{r:R2}(ho:OpR X (binaryOp op) r)(ha:PE X a ta)(hb:PE X b tb):PE X (.BinOp a op b pos) (tOp r ta tb):=by
 intro F6 s σ H Q I h;exact wpAny_BinOp (binT ha hb I h fun v u s2 x y H2 I2 rx ry q=>ho F6 s2 σ H2 x y v u Q I2 rx ry q)
def pe_un{op:UnaryOp}{r:V->Hp->VK->Prop}(ho:UnR X (unaryOp op) r)(ha:PE X a ta):PE X (.UnaryOp op a pos) (tUn r ta):=by
 intro F6 s σ H Q I h;exact UnaryOp_ (thn (ha F6 s σ H _ I h) fun v s1 ⟨x,H1,I1,r1,q1⟩=>ho F6 s1 σ H1 x v Q I1 r1 q1)
def opI{f:Value->Value->Sem Value}{C:Int->Int->Prop}{g:Int->Int->Int}
  (rule:∀(i j:Int) (t u:Tok) (s:Shared) (Q:Value->Shared->Prop) (E:Value->Shared->Prop),C i j->Q (.int (g i j) s.toks) { s with toks:=s.toks+1}->wpAny (model X.prog X.w) X.A (f (.int i t) (.int j u)) Q E s) :
  OpR X f (rI C fun i j=>.int (g i j)):=by
 intro F6 s σ H x y v u Q I rx ry h;obtain⟨i,j,rfl,rfl,hc,q⟩:=h;obtain⟨t,rfl⟩:=rx;obtain⟨t',rfl⟩:=ry;exact rule i j t t' s _ _ hc ⟨.int (g i j),H,I.tok _,⟨_,rfl⟩,q⟩
def opI0{f:Value->Value->Sem Value}{g:Int->Int->Int}
  (rule:∀(i j:Int) (t u:Tok) (s:Shared) (Q:Value->Shared->Prop) (E:Value->Shared->Prop),Q (.int (g i j) s.toks) { s with toks:=s.toks+1}->wpAny (model X.prog X.w) X.A (f (.int i t) (.int j u)) Q E s) :
  OpR X f (rI0 fun i j=>.int (g i j)):=by
 intro F6 s σ H x y v u Q I rx ry h;obtain⟨i,j,rfl,rfl,q⟩:=h;obtain⟨t,rfl⟩:=rx;obtain⟨t',rfl⟩:=ry;exact rule i j t t' s _ _ ⟨.int (g i j),H,I.tok _,⟨_,rfl⟩,q⟩
def opB0{f:Value->Value->Sem Value}{g:Int->Int->Bool}
  (rule:∀(i j:Int) (t u:Tok) (s:Shared) (Q:Value->Shared->Prop) (E:Value->Shared->Prop),Q (.bool (g i j)) s->wpAny (model X.prog X.w) X.A (f (.int i t) (.int j u)) Q E s) :
  OpR X f (rI0 fun i j=>.bl (g i j)):=by
 intro F6 s σ H x y v u Q I rx ry h;obtain⟨i,j,rfl,rfl,q⟩:=h;obtain⟨t,rfl⟩:=rx;obtain⟨t',rfl⟩:=ry;exact rule i j t t' s _ _ ⟨.bl (g i j),H,I,rfl,q⟩
def fx(i j:Int):Prop:=0<=j/\j<=1000000/\i.natAbs<2 ^ 64
def op_add:OpR X (binaryOp .Add) (rI0 fun i j=>.int (i+j)):=opI0 fun _ _ _ _ _ _ _ q=>add_int q
def op_sub:OpR X (binaryOp .Sub) (rI0 fun i j=>.int (i - j)):=opI0 fun _ _ _ _ _ _ _ q=>sub_int q
def op_pow:OpR X (binaryOp .Pow) (rI fx fun i j=>.int (i ^ j.toNat)):=opI fun _ _ _ _ _ _ _ hc q=>pow_int_small hc.1 hc.2.1 hc.2.2 q
def unI{f:Value->Sem Value}{g:Int->Int}
  (rule:∀(i:Int) (t:Tok) (s:Shared) (Q:Value->Shared->Prop) (E:Value->Shared->Prop),Q (.int (g i) s.toks) { s with toks:=s.toks+1}->wpAny (model X.prog X.w) X.A (f (.int i t)) Q E s) :
  UnR X f (rU fun i=>.int (g i)):=by
 intro F6 s σ H x v Q I rx h;obtain⟨i,rfl,q⟩:=h;obtain⟨t,rfl⟩:=rx;exact rule i t s _ _ ⟨.int (g i),H,I.tok _,⟨_,rfl⟩,q⟩
def un_neg:UnR X (unaryOp .USub) (rU fun i=>.int (-i)):=unI fun _ _ _ _ _ q=>neg_int q
def op_lt:OpR X (compareOp .Lt) (rI0 fun i j=>.bl (decide (i<j))):=opB0 fun _ _ _ _ _ _ _ q=>lt_int q
def op_gt:OpR X (compareOp .Gt) (rI0 fun i j=>.bl (decide (j<i))):=opB0 fun _ _ _ _ _ _ _ q=>gt_int q
def op_ge:OpR X (compareOp .GtE) (rI0 fun i j=>.bl (decide (j<=i))):=opB0 fun _ _ _ _ _ _ _ q=>ge_int q
def nomark(b:Expr){op:CmpOp}(h:op≠.In:=by decide)(h2:op≠.NotIn:=by decide):behindInMarks op b=false:=by
 have e1:(op == CmpOp.In)=false:=by cases op <;> first | rfl | exact absurd rfl h
 have e2:(op == CmpOp.NotIn)=false:=by cases op <;> first | rfl | exact absurd rfl h2
 cases b <;> simp[behindInMarks,e1,e2]
def pe_cmpR{op:CmpOp}{r:R2}(ho:OpR X (compareOp op) r)(ha:PE X a ta)(hb:PE X b tb)(hm:behindInMarks op b=false):PE X (.Compare a [op] [b] pos) (tOp r ta tb):=by
 intro F6 s σ H Q I h;exact wpAny_Compare1 (binT ha hb I h fun v u s2 x y H2 I2 rx ry q=>ho F6 s2 σ H2 x y v u Q I2 rx ry q) hm
def tTest(t:TE):TT:=fun σ H Q=>t σ H fun x H'=>∃k,x=.bl k/\Q k H'
def pt_cmpR{op:CmpOp}{r:R2}(ho:OpR X (compareOp op) r)(ha:PE X a ta)(hb:PE X b tb)(hm:behindInMarks op b=false):PT X (.Compare a [op] [b] pos) (tTest (tOp r ta tb)):=by
 intro F6 s σ H Q I h
 refine wpAny_isTrue_Compare1 (thn (ha F6 s σ H _ I h) fun v s1 ⟨x,H1,I1,r1,q1⟩=>thn (hb F6 s1 σ H1 _ I1 q1) fun u s2 ⟨y,H2,I2,r2,q2⟩ =>
  thn (ho F6 s2 σ H2 x y v u _ I2 r1 r2 q2) fun c s3 ⟨z,H3,I3,r3,k,e,q3⟩=>?_) hm
 subst e;cases r3;exact wpAny_truthy_bool ⟨H3,I3,q3⟩
def TruV(K:qac)(x:V)(H:Hp)(k:Bool):Prop :=
 match x with
 | .non=>k=false
 | .bl b=>k=b
 | .int i=>k=(i != 0)
 | .str y=>y.length<=sizeLine/\k=((y.length:Int) != 0)
 | .byt y=>y.size<=sizeLine/\k=((y.size:Int) != 0)
 | .ref p=>(∃xs,SqL K H p xs/\k=!xs.isEmpty)\/(∃xs,SqT K H p xs/\k=!xs.isEmpty)\/∃kvs,H p=some (.dK kvs)/\k=!kvs.isEmpty
 | _=>False
def uU{κ:Type}{kvs:List (κ × V)}{vs:List (κ × Value)}(r:KV kvs vs):(!vs.isEmpty)=!kvs.isEmpty:=by
 cases r <;> rfl
def mU{xs:List V}{its:List Value}(r:aJ xs its):(!its.toArray.isEmpty)=!xs.isEmpty:=by
 cases r <;> simp
def iG:(sizeLine:Nat)<2 ^ 63:=by rw[sizeLine_eq];decide
def qQ:TruR X (fun x H Q=>∃k,TruV X.K x H k/\Q k H):=by
 intro F6 s σ H x v Q I rx h;obtain⟨k,e,q⟩:=h;have hl:=iG;have hs:sizeLine=16777216:=sizeLine_eq
 cases x with
 | non =>
  cases rx;have e':k=false:=e;subst e';exact truthy_none ⟨H,I,q⟩
 | bl b =>
  cases rx;have e':k=b:=e;subst e';exact wpAny_truthy_bool ⟨H,I,q⟩
 | int i =>
  obtain⟨t,rfl⟩:=rx;have e':k=(i != 0):=e;subst e';exact PySem.P.truthy_int ⟨H,I,q⟩
 | str y =>
  obtain⟨t,rfl⟩:=rx;obtain⟨hy,e'⟩:y.length<=sizeLine/\k=((y.length:Int) != 0):=e;subst e';exact PySem.P.truthy_str (by ext) ⟨H,I.tok _,q⟩
 | byt y =>
  obtain⟨t,rfl⟩:=rx;obtain⟨hy,e'⟩:y.size<=sizeLine/\k=((y.size:Int) != 0):=e;subst e';exact PySem.W.truthy_bytes (by ext) ⟨H,I.tok _,q⟩
 | ref p =>
  cases rx;have e':(∃xs,SqL X.K H p xs/\k=!xs.isEmpty)\/(∃xs,SqT X.K H p xs/\k=!xs.isEmpty)\/∃kvs,H p=some (.dK kvs)/\k=!kvs.isEmpty:=e;rcases e' with ⟨xs,hx,e'⟩|⟨xs,hx,e'⟩|⟨kvs,hx,e'⟩
  ·subst e';obtain⟨its,r,pl,hz⟩:=I.list hx;have hlen:=r.length;exact wpAny_truthy_list pl.isList (by simp only[qau];ext) ⟨H,I.tok _,by rw[mU r];exact q⟩
  ·subst e';obtain⟨its,r,pl,hz⟩:=I.tuple hx;have hlen:=r.length;exact truthy_tuple pl (by simp only[qau];ext) ⟨H,I.tok _,by rw[mU r];exact q⟩
  ·subst e';obtain⟨hz,hS,vs,r,m⟩:kvs.length<=sizeLine/\(p == sysModules)=false/\∃vs,KV kvs vs/\s.heap.DictOf (cy X.prog X.w) p vs:=I.hok p _ hx;have hlen:kvs.length=vs.length:=Paired.length r;exact wpAny_truthy_dict hS m (by ext) ⟨H,I.tok _,by rw[uU r];exact q⟩
 | _=>exact (show False from e).elim
def xT(ha:PE X a ta)(he:∀whole,isTrue a X.env whole=(do let v <-whole;standAt a.pos;holding [v] (truthy v))) :
  PT X a (fun σ H Q=>ta σ H fun x H'=>∃k,TruV X.K x H' k/\Q k H'):=by
 intro F6 s σ H Q I h;exact isTrue_plain (thn (ha F6 s σ H _ I h) fun v s1 ⟨x,H1,I1,r1,q1⟩=>qQ F6 s1 σ H1 x v Q I1 r1 q1) (he _)
def uA:OpR X (binaryOp .Add) (fun x y H Q=>∃i j,x=.str i/\y=.str j/\i.length+j.length<=sizeLine/\Q (.str (i++j)) H):=by
 intro F6 s σ H x y v u Q I rx ry h;obtain⟨i,j,rfl,rfl,hz,q⟩:=h;obtain⟨t,rfl⟩:=rx;obtain⟨t',rfl⟩:=ry;exact add_str (fun t' tk=>⟨.str (i++j),H,I.tok _,⟨_,rfl⟩,q⟩) hz
def iY{x:V}{us:List Value}(r:aJ [x] us):∃u,us=[u]/\aP x u:=by
 cases r with
 | cons r1 r2=>cases r2;exact⟨_,rfl,r1⟩
def vals2{x y:V}{us:List Value}(r:aJ [x,y] us):∃u w',us=[u,w']/\aP x u/\aP y w':=by
 cases r with
 | cons r1 r2 =>
  cases r2 with
  | cons r3 r4=>cases r4;exact⟨_,_,rfl,r1,r3⟩
def wX:dG X (.builtin "abs") (fun xs H Q=>∃i,xs=[.int i]/\Q (.int (if i<0 then -i else i)) H):=by
 intro F6 s σ H xs us Q I r h;obtain⟨i,rfl,q⟩:=h;obtain⟨u,rfl,t,rfl⟩:=iY r;exact call_abs_int fun u tk=>⟨.int (if i<0 then -i else i),H,I.tok _,⟨_,rfl⟩,q⟩
def vF(hc:X.calm=true):dG X (.builtin "min") (fun xs H Q=>∃i j,xs=[.int i,.int j]/\Q (.int (if j<i then j else i)) H):=by
 intro F6 s σ H xs us Q I r h;obtain⟨i,j,rfl,q⟩:=h;obtain⟨u,w',rfl,⟨t,rfl⟩,⟨t',rfl⟩⟩:=vals2 r;refine min_two_ints (I.ok.hd hc) fun h' tk k=>⟨_,H,I.kept k,?_,q⟩;by_cases hj:j<i
 ·rw[qan hj,qan hj];exact⟨_,rfl⟩
 ·rw[qay hj,qay hj];exact⟨_,rfl⟩
def pj:dG X (.type "int") (fun xs H Q=>(∃i,xs=[.int i]/\Q (.int i) H)\/∃k,xs=[.bl k]/\Q (.int (if k then 1 else 0)) H):=by
 intro F6 s σ H xs us Q I r h;rcases h with ⟨i,rfl,q⟩|⟨k,rfl,q⟩
 ·obtain⟨u,rfl,t,rfl⟩:=iY r;exact call_int_int ⟨.int i,H,I,⟨_,rfl⟩,q⟩
 ·obtain⟨u,rfl,r1⟩:=iY r;cases r1;exact call_int_bool ⟨.int (if k then 1 else 0),H,I.tok _,⟨_,rfl⟩,q⟩
def LenV(K:qac)(x:V)(H:Hp)(n:Nat):Prop :=
 match x with
 | .str y=>y.length<=sizeLine/\n=y.length
 | .byt y=>y.size<=sizeLine/\n=y.size
 | .ref p=>(∃xs,SqL K H p xs/\n=xs.length)\/∃xs,SqT K H p xs/\n=xs.length
 | _=>False
def i8:dG X (.builtin "len") (fun xs H Q=>∃x n,xs=[x]/\LenV X.K x H n/\Q (.int n) H):=by
 intro F6 s σ H xs us Q I r h;obtain⟨x,n,rfl,e,q⟩:=h;obtain⟨u,rfl,rx⟩:=iY r;have hl:=iG;have hs:sizeLine=16777216:=sizeLine_eq
 cases x with
 | str y =>
  obtain⟨t,rfl⟩:=rx;obtain⟨hy,e'⟩:y.length<=sizeLine/\n=y.length:=e;subst e';exact len_str (by ext) ⟨.int _,H,I.tok _,⟨_,rfl⟩,q⟩
 | byt y =>
  obtain⟨t,rfl⟩:=rx;obtain⟨hy,e'⟩:y.size<=sizeLine/\n=y.size:=e;subst e';exact PySem.W.len_bytes (by ext) ⟨.int _,H,I.tok _,⟨_,rfl⟩,q⟩
 | ref p =>
  cases rx;have e':(∃xs,SqL X.K H p xs/\n=xs.length)\/∃xs,SqT X.K H p xs/\n=xs.length:=e;rcases e' with ⟨xs,hx,e'⟩|⟨xs,hx,e'⟩
  ·subst e';obtain⟨its,r',pl,hz⟩:=I.list hx;have hlen:=r'.length;exact Calls.call_len_list pl.isList (by simp only[qau];ext) ⟨.int xs.length,H,I.tok _,⟨_,by simp only[qau];rw[hlen]⟩,q⟩
  ·subst e';obtain⟨its,r',pl,hz⟩:=I.tuple hx;have hlen:=r'.length;exact len_tuple pl (by simp only[qau];ext) ⟨.int xs.length,H,I.tok _,⟨_,by simp only[qau];rw[hlen]⟩,q⟩
 | _=>exact (show False from e).elim
end
section
variable {prog:Program} {w:World} {A:Around} {E:Value→Shared→Prop} {s:Shared} {K:qac} {x dx C f:Addr} {mA:Str→Option Value} {name:Str} {v:Value}
end
def fT.some_of{v:V}{o:Option Value}(r:fT (some v) o):∃u,o=some u/\aP v u:=by
 cases o with
 | none=>exact (show False from r).elim
 | some u=>exact⟨u,rfl,r⟩
def fT.none_of{o:Option Value}(r:fT none o):o=none:=by
 cases o with
 | none=>rfl
 | some u=>exact (show False from r).elim
section
variable {P:Program} {w:World} {H H':Hp} {h h':Heap} {a C dx:Addr} {fs fs':List (Str × V)}
end
section
variable {X:Cx} {F6:List (Addr × Obj)} {σ:St} {H:Hp} {s:Shared} {a C dx:Addr} {fs:List (Str × V)} {f:Str} {v:V} {A:Around} {E:Value→Shared→Prop}
end
section
variable {X:Cx} {o e value:Expr} {f:Str} {pos pos' tpos:Pos} {ta tv:TE}
end
section
variable {X:Cx} {F6:List (Addr × Obj)} {σ:St} {H:Hp} {s:Shared} {A:Around} {E:Value→Shared→Prop} {Q:Value→Shared→Prop} {c:Value} {b:Bool}
end
structure Room (k:Nat) (A:Around):Prop where
 hd:A.handled=none
 dp:A.depth+3 * k+105<recursionLimit
 un:A.units+16 * k+200<cLine
 gd:A.guards=some []
def Room.mono{j k:Nat}{A:Around}(r:Room k A)(h:j<=k):Room j A:=⟨r.hd,by have:=r.dp;ext,by have:=r.un;ext,r.gd⟩
def Room.deeper{k:Nat}{A:Around}(r:Room (k+1) A)(env:Env):Room k (A.deeper env) :=
 ⟨r.hd,by have:=r.dp;show A.depth+1+3 * k+105<_;ext,by have:=r.un;show A.units+3+16 * k+200<_;ext,r.gd⟩
def Room.depth{k:Nat}{A:Around}(r:Room k A):A.depth<recursionLimit:=by have:=r.dp;ext
def Room.units{k:Nat}{A:Around}(r:Room k A):A.units+64<cLine:=by have:=r.un;ext
def tNil:TA:=fun _ H Q=>Q [] H
def tCons(ta:TE)(tr:TA):TA:=fun σ H Q=>ta σ H fun x H1=>tr σ H1 fun xs H2=>Q (x::xs) H2
section
variable {X:Cx} {e:Expr} {es:List Expr} {te:TE} {t:TA} {pos:Pos}
def rD:PA X [] tNil:=fun _ _ _ _ H Q I h=>Calls.spliced_nil ⟨[],H,I,.nil,h⟩
def kP(ha:PE X e te)(hr:PA X es t)(hs:starEach (e::es) X.env=(false,eval e X.env)::starEach es X.env:=by rfl):PA X (e::es) (tCons te t):=by
 intro pos F6 s σ H Q I h;rw[hs];show wpAny _ _ (spliced ((false,eval e X.env)::backTo pos (starEach es X.env))) _ _ s;refine Calls.spliced_cons (thn (ha F6 s σ H _ I h) fun u s1 ⟨x,H1,I1,r1,q1⟩=>?_);exact thn (hr pos F6 s1 σ H1 _ I1 q1) fun us s2 ⟨xs,H2,I2,r2,q2⟩=>⟨x::xs,H2,I2,.cons r1 r2,q2⟩
def tTup(t:TA):TE:=fun σ H Q=>t σ H fun xs H1=>xs.length<=sizeLine/\∀p,H1 p=none->Q (.ref p) (upd H1 p (.tup xs))
def tLst(t:TA):TE:=fun σ H Q=>t σ H fun xs H1=>xs.length<=sizeLine/\∀p,H1 p=none->Q (.ref p) (upd H1 p (.lst xs))
def pe_tup{x1}(h:PA X es t):PE X (.Tuple es x1 pos) (tTup t):=by
 intro F6 s σ H Q I hq;refine wpAny_Tuple_spliced (thn (h pos F6 s σ H _ I hq) fun us s1 ⟨xs,H1,I1,r,z,q⟩=>⟨by rw[<-r.length];exact z,?_⟩);have hf:H1 s1.heap.objs.size=none:=I1.hok.fresh (qai _);refine⟨.ref s1.heap.objs.size,upd H1 s1.heap.objs.size (.tup xs),I1.laid (t':=s1.toks) (fun b u e=>qad _ e) (qai _) ?_,rfl,q _ hf⟩;exact⟨z,us,r,⟨_,qaz _ rfl,rfl,⟨_,rfl⟩,rfl⟩⟩
def pe_lst(h:PA X es t):PE X (.List es pos) (tLst t):=by
 intro F6 s σ H Q I hq;refine wpAny_List_spliced (thn (h pos F6 s σ H _ I hq) fun us s1 ⟨xs,H1,I1,r,z,q⟩=>⟨by rw[<-r.length];exact z,?_⟩);have hf:H1 s1.heap.objs.size=none:=I1.hok.fresh (qai _);refine⟨.ref s1.heap.objs.size,upd H1 s1.heap.objs.size (.lst xs),I1.laid (t':=s1.toks) (fun b u e=>qad _ e) (qai _) ?_,rfl,q _ hf⟩;exact⟨z,us,0,r,qaz _ rfl⟩
end
abbrev Sp:=List V->Hp->VK->XK->Prop
abbrev CXT:=List Env->Hp->Shared->XK->Value->Shared->Prop
structure Env0 (P:Program) (w:World) (K:qac) (mg:Str->Option Value) (base:Heap) (A:Around) (outer:List Env) (s:Shared) (H:Hp):Prop where
 frames:A.frames=some outer
 mod:Mod K mg base
 bs:∀b o,base.get? b=some o->s.heap.get? b=some o/\H b=none
 bsz:base.objs.size<=s.heap.objs.size
 funs:s.heap.FunFrames base outer
 frf:∀b∈frs outer,H b=none
 hok:HOk P w H s.heap
 bare:AllBare s.gens
 tree:P.given.tree=none
inductive CE (outer:List Env) (P:Program) (w:World) (H:Hp) (s:Shared) (Q:VK) (u:Value) (s':Shared):Prop
 | mk (v:V) (H':Hp) (o:s'.os=s.os) (b:AllBare s'.gens) (n:Un (frs outer) [] H H' s.heap s'.heap) (k:HOk P w H' s'.heap) (r:aP v u) (q:Q v H'):CE outer P w H s Q u s'
def CR(CX:CXT)(outer:List Env)(P:Program)(w:World)(H:Hp)(s:Shared)(Q:VK)(E:XK)(r:Result)(s':Shared):Prop :=
 match r with
 | .ok (.ret u)=>CE outer P w H s Q u s'
 | .ok _=>False
 | .error e=>CX outer H s E e s'
structure FnOk (P:Program) (w:World) (K:qac) (mg:Str->Option Value) (base:Heap) (CX:CXT) (k:Nat) (f:Addr) (fd:FuncData) (ps:List Str) (sp:Sp):Prop where
 len:∀vs H Q E,sp vs H Q E->vs.length=ps.length
 run:∀(A:Around) (outer:List Env) (s:Shared) (H:Hp) (args:Args) (us:List Value) (vs:List V) (Q:VK) (E:XK),Room k A->Env0 P w K mg base A outer s H->BindsTo s fd args (ps.zip us)->aJ vs us->sp vs H Q E ->
  codeAny (model P w) A (.call (.ref f) args) (CR CX outer P w H s Q E) s
def FnOk.mono{P:Program}{w:World}{K:qac}{mg:Str->Option Value}{base:Heap}{CX:CXT}{j k:Nat}{f:Addr}{fd:FuncData}{ps:List Str}{sp:Sp}(F:FnOk P w K mg base CX j f fd ps sp)(h:j<=k) :
  FnOk P w K mg base CX k f fd ps sp:=⟨F.len,fun A outer s H args us vs Q E hr=>F.run A outer s H args us vs Q E (hr.mono h)⟩
def FnOk.imp{P:Program}{w:World}{K:qac}{mg:Str->Option Value}{base:Heap}{CX:CXT}{k:Nat}{f:Addr}{fd:FuncData}{ps:List Str}{sp sp':Sp}(F:FnOk P w K mg base CX k f fd ps sp)
  (h:∀vs H Q E,sp' vs H Q E->sp vs H Q E):FnOk P w K mg base CX k f fd ps sp' :=
 ⟨fun vs H Q E q=>F.len vs H Q E (h _ _ _ _ q),fun A outer s H args us vs Q E hr he hb hv hs=>F.run A outer s H args us vs Q E hr he hb hv (h _ _ _ _ hs)⟩
section
variable {X:Cx} {F6:List (Addr × Obj)} {σ:St} {H:Hp} {s s':Shared}
def Inv.env0(I:Inv X F6 σ H s):Env0 X.prog X.w X.K X.mg X.base X.A X.stack s H :=
 ⟨I.ok.frames,I.ok.mod,I.bs,qaI I.ok.bsz I.sz,I.stack,I.stkFree,I.hok,I.bare,I.ok.tree⟩
def Inv.after{Q:VK}{u:Value}(I:Inv X F6 σ H s)(h:CE X.stack X.prog X.w H s Q u s'):EP X F6 σ Q u s':=by
 obtain⟨v,H',os,bare,un,hok,r,q⟩:=h;obtain⟨hh,g,d,t,os'⟩:=s';obtain rfl:os'=s.os:=os;exact⟨v,H',I.call (h':=hh) (g':=g) (d':=d) (t':=t) (ch:=[]) un hok bare (fun b z=>absurd z (by simp)),r,q⟩
end
def nA(K:qac)(fd:FuncData)(ps:List Str)(ds:List Value):Prop :=
 ∀(s:Shared) (us:List Value),K.In s.heap->(us++ds).length=ps.length->BindsTo s fd ⟨us,[]⟩ (ps.zip (us++ds))
def nA.all{K:qac}{fd:FuncData}{ps:List Str}(h:∀us:List Value,us.length=ps.length->bindArgs fd ⟨us,[]⟩=pure (ps.zip us)):nA K fd ps []:=fun s us _ hl=>by
 rw[qbD] at hl ⊢;exact .of_eq (h us hl)
section
variable {X:Cx} {CX:CXT} {k:Nat} {f C:Addr} {fd:FuncData} {ps:List Str} {sp:Sp} {dvs:List V} {ds:List Value} {E:XK} {x m:Str} {p pos apos:Pos} {e o:Expr} {es:List Expr} {ta:TE} {t:TA}
end
section
variable {X:Cx} {CX:CXT} {k:Nat} {f C:Addr} {fd:FuncData} {ps ks:List Str} {sp:Sp} {E:XK} {x m:Str} {p pos apos kpos:Pos} {e o:Expr} {es:List Expr} {kws:List Keyword} {te ta:TE} {t tk:TA} {nm:Option Str} {g:List Value→List Value→List Value} {gV:List V→List V→List V}
end
structure FnScope (N P:List Str) (sc:Scope):Prop where
 kind:sc.kind=.function
 co:sc.isCoroutine=false
 gen:sc.isGenerator=false
 nd:N.Nodup
 pre:N.take P.length=P
 par:∀x∈P,sc.names.lookup x=some .local\/sc.names.lookup x=some .cell
 nofree:∀y∈sc.names,y.2≠.free
def oW{kindOf:Str->Option NameKind}{x:Str}:∀{binds:List (Str × Value)} {m:Str->Option Value},(∀v,(x,v)∉binds)->bindL kindOf binds m x=m x
 | [],_,_=>rfl
 | (n,v)::r,m,h=>by
  unfold bindL;rw[oW fun w hw=>h w (qaa _ hw)];split
  ·have:x≠n:=by rintro rfl;exact h v qbe
   simp[this]
  ·rfl
def oG{kindOf:Str->Option NameKind}{x:Str}:∀{binds:List (Str × Value)} {m:Str->Option Value},(∀v,(x,v)∉binds)->bindC kindOf binds m x=m x
 | [],_,_=>rfl
 | (n,v)::r,m,h=>by
  unfold bindC;rw[oG fun w hw=>h w (qaa _ hw)];split
  ·rfl
  ·have:x≠n:=by rintro rfl;exact h v qbe
   simp[this]
def o6{kindOf:Str->Option NameKind}{x:Str}{v:Value}:∀{P:List Str} {vs:List Value} {i:Nat} {m:Str->Option Value},P.Nodup->P[i]?=some x->vs[i]?=some v->kindOf x=some .local ->
  bindL kindOf (P.zip vs) m x=some v
 | [],_,_,_,_,h,_,_=>by simp at h
 | _::_,[],_,_,_,_,h,_=>by simp at h
 | p::P,w::vs,0,m,nd,h1,h2,hk=>by
  simp at h1 h2;subst h1;subst h2;show bindL kindOf ((p,w)::P.zip vs) m p=_;unfold bindL;rw[oW fun v hv=>(qaP.mp nd).1 (qbr hv).1,qan hk];simp
 | p::P,w::vs,i+1,m,nd,h1,h2,hk=>by
  show bindL kindOf ((p,w)::P.zip vs) m x=_;unfold bindL;exact o6 (i:=i) (qaP.mp nd).2 (by simpa using h1) (by simpa using h2) hk
def oM{kindOf:Str->Option NameKind}{x:Str}{v:Value}:∀{P:List Str} {vs:List Value} {i:Nat} {m:Str->Option Value},P.Nodup->P[i]?=some x->vs[i]?=some v->kindOf x≠some .local ->
  bindC kindOf (P.zip vs) m x=some v
 | [],_,_,_,_,h,_,_=>by simp at h
 | _::_,[],_,_,_,_,h,_=>by simp at h
 | p::P,w::vs,0,m,nd,h1,h2,hk=>by
  simp at h1 h2;subst h1;subst h2;show bindC kindOf ((p,w)::P.zip vs) m p=_;unfold bindC;rw[oG fun v hv=>(qaP.mp nd).1 (qbr hv).1,qay hk];simp
 | p::P,w::vs,i+1,m,nd,h1,h2,hk=>by
  show bindC kindOf ((p,w)::P.zip vs) m x=_;unfold bindC;exact oM (i:=i) (qaP.mp nd).2 (by simpa using h1) (by simpa using h2) hk
def start(N:List Str)(vs:List V):St:=vs.map some++List.replicate (N.length - vs.length) none
def qL(CX:CXT)(P:Program)(w:World)(K:qac)(mg:Str->Option Value)(base:Heap)(N:List Str)(qual:Str)(scope:Scope)(f:Addr)(cd:Value)(A:Around)(outer:List Env)(s:Shared)(H:Hp)(E:XK):Cx where
 prog:=P
 w:=w
 K:=K
 mg:=mg
 base:=base
 A:=A.deeper (envOfC qual scope s.heap.objs.size f cd)
 N:=N
 s₀:=s
 H₀:=H
 env:=envOfC qual scope s.heap.objs.size f cd
 outer:=outer
 stack:=envOfC qual scope s.heap.objs.size f cd::outer
 ex:=[]
 calm:=true
 fn:=fun _=>true
 pn:=[]
 xe:=fun e s'=>wpAny (model P w) (A.deeper (envOfC qual scope s.heap.objs.size f cd)) (leaving (envOfC qual scope s.heap.objs.size f cd) e) (fun _ s''=>CX outer H s E e s'') (fun e' s''=>CX outer H s E e' s'') s'
def rP{sc:Scope}{n:Nat}{x:Str}(h:sc.names.lookup x=some .cell):∃c,(cellsFrom n sc.names []).lookup x=some c:=by
 have q:=PySem.W.cellsFrom_some sc.names n [] (.inl h);exact Option.isSome_iff_exists.mp q
def wz{CX:CXT}{P:Program}{w:World}{K:qac}{mg:Str->Option Value}{base:Heap}{N ps:List Str}{qual:Str}{scope:Scope}{f:Addr}{cd:Value}{A:Around}{outer:List Env}{s s1:Shared}{H:Hp}{E:XK}{us:List Value}{vs:List V}
  (S:FnScope N ps scope) (hd:A.handled=none) (e0:Env0 P w K mg base A outer s H) (hl:vs.length=ps.length) (r:aJ vs us)
  (x:InCallC s s.heap.objs.size (bindL (envOfC qual scope s.heap.objs.size f cd).kindOf (ps.zip us) fun _=>none) (cellsFrom (s.heap.objs.size+1) scope.names []) (bindC (envOfC qual scope s.heap.objs.size f cd).kindOf (ps.zip us) fun _=>none) s1) :
  Inv (qL CX P w K mg base N qual scope f cd A outer s H E) [] (start N vs) H s1:=by
 have hpl:ps.length<=N.length:=by have:=congrArg List.length S.pre;rw[qbf] at this;ext
 obtain⟨h1,tk,rfl,hk⟩:=x.done;have noA:∀b:Addr,b∉(qL CX P w K mg base N qual scope f cd A outer s H E).ex:=fun b z=>absurd (show b∈([]:List Addr) from z) (by simp)
 refine⟨⟨e0.mod,S.kind,rfl,rfl,qai _,fun y z c h1 h2=>?_,fun y hy=>?_,fun y c _ h=>?_,fun _=>hd,Around.frames_deeper e0.frames,.inr ⟨rfl,rfl⟩,fun b z=>absurd z (noA b),e0.bs,e0.bsz,fun b _ _=>noA b,fun b z=>absurd z (noA b),e0.funs,e0.frf,e0.tree,⟨_,_,rfl,S.gen,S.co,rfl,rfl⟩⟩,
  rfl,e0.bare,Un.kept hk,⟨_,x.toInCall.ns,fun i y v h1 h2 h3=>?_⟩,fun y c h=>⟨_,x.cell y c h⟩,e0.hok.fresh (qai _),fun y c h=>?_,fun p hp=>absurd (show p∈([]:List (Addr × Obj)) from hp) (by simp),e0.hok.kept hk,?_⟩
 ·exact name_of_addr x.apart (PySem.mem_of_lookup h1) (PySem.mem_of_lookup h2)
 ·have hy:scope.names.lookup y=some .cell\/scope.names.lookup y=some .free:=hy;rcases hy with hy|hy
  ·exact rP hy
  ·exact absurd rfl (S.nofree _ (PySem.mem_of_lookup hy))
 ·exact qbh (x.above y c (PySem.mem_of_lookup h))
 ·have hi:i<vs.length:=by
   unfold start at h2;by_cases hi:i<vs.length
   ·exact hi
   ·rw[qaE (by simpa using hi)] at h2;rw[qaW] at h2
    split at h2 <;> cases h2
  have ha:vs[i]?=some v:=by
   unfold start at h2;rw[qal (by simpa using hi),qax] at h2
   cases e:vs[i]? with
   | none=>rw[e] at h2;cases h2
   | some a=>rw[e] at h2;cases h2;rfl
  obtain⟨u,hu,rv⟩:=r.get ha;have hp:ps[i]?=some y:=by
   rw[<-S.pre,List.getElem?_take_of_lt (by ext)];exact h1
  have ndP:ps.Nodup:=by rw[<-S.pre];exact S.nd.sublist (List.take_sublist _ _)
  refine⟨u,rv,?_⟩;rcases S.par y (qbq hp) with k|k
  ·exact .inl ⟨k,o6 ndP hp hu k⟩
  ·obtain⟨c,e⟩:=rP (n:=s.heap.objs.size+1) k;refine .inr ⟨.inl k,c,e,?_⟩;have q:=x.cell y c e;rw[oM ndP hp hu (by show scope.names.lookup y≠_;rw[k];decide)] at q;exact q
 ·exact e0.hok.fresh (qbh (x.above y c (PySem.mem_of_lookup h)))
 ·unfold start;show _=N.length;rw[qaY,qar,qbi];ext
def fn_of{CX:CXT}{P:Program}{w:World}{K:qac}{mg:Str->Option Value}{base:Heap}{k:Nat}{f:Addr}{name qual:Str}{params:Arguments}{body:List Stmt}{scope:Scope}{dV kV doc pm cdv ct oc:Value}{an od:Option Addr}
  {osl:Array (Option Value)} {N ps:List Str} {sp:Sp} (lk:K.lookup f=some ⟨oc,od,.func (PySem.W.fnOf name qual params body scope dV kV doc pm an cdv ct),osl⟩) (hcd:PySem.W.codeIn K cdv qual=true) (S:FnScope N ps scope)
  (len:∀vs H Q E,sp vs H Q E->vs.length=ps.length)
  (hbody:∀(A:Around) (outer:List Env) (s:Shared) (H:Hp) (vs:List V) (Q:VK) (E:XK),Room k (A.deeper (envOfC qual scope s.heap.objs.size f cdv))->sp vs H Q E ->
   ∃t,PSs (qL CX P w K mg base N qual scope f cdv A outer s H E) body t/\t { nx:=fun _ H'=>Q .non H',rt:=Q} (start N vs) H) :
  FnOk P w K mg base CX (k+1) f (PySem.W.fnOf name qual params body scope dV kV doc pm an cdv ct) ps sp:=by
 refine⟨len,fun A outer s H args us vs Q E hr e0 hb r hsp=>?_⟩;have hl:=len _ _ _ _ hsp;have KX:K.In s.heap:=e0.mod.kin.keeps fun b o e=>(e0.bs b o e).1;have lim:s.heap.NoLimit:=e0.mod.nolimit.keeps fun b o e=>(e0.bs b o e).1;have hkind:∀y∈ps.zip us,scope.names.lookup y.1=some .local\/(scope.names.lookup y.1=some .cell/\((cellsFrom (s.heap.objs.size+1) scope.names []).lookup y.1).isSome=true):=fun ⟨n,v⟩ hy=>by
  rcases S.par n (qbr hy).1 with q|q
  ·exact .inl q
  ·exact .inr ⟨q,PySem.W.cellsFrom_some _ _ _ (.inl q)⟩
 refine codeAny_call_function hr.depth (KX _ _ lk) rfl S.co S.gen rfl (PySem.W.codeRec_of KX hcd) (hb _ _ _ _ ?_);refine wpAny_newFunctionEnv_cells S.kind hkind fun env he s1 x=>?_;subst he;refine⟨lim.keeps x.toInCall.keep,codeAny_func ?_⟩;obtain⟨t,ht,hq⟩:=hbody A outer s H vs Q E (hr.deeper _) hsp;have I:Inv (qL CX P w K mg base N qual scope f cdv A outer s H E) [] (start N vs) H s1:=wz S hr.hd e0 hl r x;refine wpAny_mono (ht [] s1 (start N vs) H _ I hq) (fun fl s' hs=>?_) fun e s' hs=>hs;have fin:∀{σ':St} {H':Hp} {v:V} {u:Value},Inv (qL CX P w K mg base N qual scope f cdv A outer s H E) [] σ' H' s'->aP v u->Q v H'->CE outer P w H s Q u s' :=
  fun {σ' H' v u} J rv q=>⟨v,H',J.os,J.bare,J.base,J.hok,rv,q⟩
 cases fl with
 | ret u =>
  obtain⟨v,σ',H',J,rv,q⟩:=hs;exact fin J rv q
 | next =>
  obtain⟨σ',H',J,q⟩:=hs;exact fin (v:=V.non) (u:=Value.none) J rfl q
 | brk =>
  obtain⟨_,_,_,q⟩:=hs;exact False.elim q
 | cont =>
  obtain⟨_,_,_,q⟩:=hs;exact False.elim q
section
variable {X:Cx} {x:Str} {p pos:Pos} {e:Expr} {es:List Expr} {t:TA} {id T:String} {r:List V→Hp→VK→Prop}
def tCB(r:List V->Hp->VK->Prop)(t:TA):TE:=fun σ H Q=>t σ H fun vs H1=>r vs H1 Q
def rE(hc:dG X (.builtin id) r)(hg:Gl X x)(hm:X.mg x=none)(hv:bootBuiltins x=some (.builtin id))(ha:PA X (e::es) t)(hn:x≠"__name__":=by decide)(hdb:(x == ("__debug__":Str))=false:=by decide)
  (he:starEach (e::es) X.env=(false,eval e X.env)::starEach es X.env:=by rfl) (hpl:(backTo pos (starEach es X.env)).any (·.1)=false:=by rfl):PE X (.Call (.Name x p) (e::es) [] pos) (tCB r t):=by
 intro F6 s σ H Q I h;refine wpAny_Call_Name_kw (gQ I hg hm hv ?_ hn hdb);exact PyProof.Rows.callWith_builtin1 (thn (ha pos F6 s σ H _ I h) fun us s1 ⟨vs,H1,I1,r1,q1⟩=>hc F6 s1 σ H1 vs us Q I1 r1 q1) he hpl
def oT(hc:dG X (.type T) r)(hg:Gl X x)(hm:X.mg x=none)(hv:bootBuiltins x=some (.type T))(ha:PA X (e::es) t)(hn:x≠"__name__":=by decide)(hdb:(x == ("__debug__":Str))=false:=by decide)
  (he:starEach (e::es) X.env=(false,eval e X.env)::starEach es X.env:=by rfl) (hpl:(backTo pos (starEach es X.env)).any (·.1)=false:=by rfl):PE X (.Call (.Name x p) (e::es) [] pos) (tCB r t):=by
 intro F6 s σ H Q I h;refine wpAny_Call_Name_kw (gQ I hg hm hv ?_ hn hdb);exact PyProof.Rows.callWith_type1 (thn (ha pos F6 s σ H _ I h) fun us s1 ⟨vs,H1,I1,r1,q1⟩=>hc F6 s1 σ H1 vs us Q I1 r1 q1) he hpl
end
end L2
namespace HT
open PySem PyProof.Rows
section
open PySem.SeqAt
open PySem.AutoSeq1 (wpAny_loadPart')
open PySem.MeetsSeq PySem.MeetsSeq2 PySem.MeetsSeq3
end
section
variable {prog:Program} {w:World} {A:Around} {E:Value→Shared→Prop} {s:Shared}
def cat_tup{t b:Addr}{vs ws:List Value}{Q:Value->Shared->Prop}(ht:IsTup s.heap t vs.toArray)(hb:IsTup s.heap b ws.toArray)(hv:vs≠[])
  (h1:ws=[]->Q (.ref t) s) (h2:ws≠[]->Q (.ref s.heap.objs.size) { s with heap:=s.heap.push { cls:=.type "tuple",data:=.seq (vs++ws).toArray}})
  (hsz:vs.length+ws.length<=sizeLine):wpAny (model prog w) A (binaryOp .Add (.ref t) (.ref b)) Q E s:=by
 obtain⟨⟨cls,dd,data,sl⟩,ho,hc,n,hd⟩:=id ht;obtain⟨⟨cls2,dd2,data2,sl2⟩,ho2,hc2,n2,hd2⟩:=id hb;simp only at hc hd hc2 hd2;subst hc hd hc2 hd2;have e:vs.toArray++ws.toArray=(vs++ws).toArray:=by simp
 by_cases hw:ws=[]
 ·exact concat_meets ⟨_,ho,rfl⟩ ⟨_,ho2,rfl⟩ noFill_tuple_add seq_tuple_add PySem.F.slot_tuple_add PySem.F.entry_tuple_add (PySem.F.args_tuple_add_2 _ _)
   (tuple_addW1 t b vs.toArray ws.toArray n n2 dd dd2 sl sl2 (by simpa using hv) (by simp[hw])) ⟨ho,ho2,h1 hw⟩
 ·refine concat_meets ⟨_,ho,rfl⟩ ⟨_,ho2,rfl⟩ noFill_tuple_add seq_tuple_add PySem.F.slot_tuple_add PySem.F.entry_tuple_add (PySem.F.args_tuple_add_2 _ _)
   (tuple_addW2 t b vs.toArray ws.toArray n n2 dd dd2 sl sl2 (by simpa using hv) (by simpa using hw) (by rw[qau,qau];exact hsz)) ⟨ho,ho2,?_⟩
  rw[e];exact h2 hw
def sIx(n d:Nat):Option Int->Nat
 | none=>d
 | some v=>if v<0 then (v+(n:Int)).toNat else min v.toNat n
def rS(n d:Nat):sIx n d none=d:=rfl
def tV(n d k:Nat):sIx n d (some (k:Int))=min k n:=by
 show (if (k:Int)<0 then ((k:Int)+(n:Int)).toNat else min (k:Int).toNat n)=min k n;rw[qay (by ext),qaH]
def sIx_le(n d:Nat)(hd:d<=n)(o:Option Int):sIx n d o<=n:=by
 cases o with
 | none=>exact hd
 | some v =>
  show (if v<0 then (v+(n:Int)).toNat else min v.toNat n)<=n;by_cases hv:v<0
  ·rw[qan hv];ext
  ·rw[qay hv];exact Nat.min_le_right _ _
def tI(v:Int)(n d:Nat):(if v<0 then max (v+(n:Int)) 0 else min v (n:Int))=((sIx n d (some v):Nat):Int):=by
 show (if v<0 then max (v+(n:Int)) 0 else min v (n:Int))=(((if v<0 then (v+(n:Int)).toNat else min v.toNat n):Nat):Int);by_cases hv:v<0
 ·simp only[qan hv];ext
 ·simp only[qay hv];ext
def uP(lo hi:Option Int)(n:Nat):Builtin.Slice.sliceAdjust lo hi 1 (n:Int)=(((sIx n 0 lo:Nat):Int),((sIx n n hi:Nat):Int)):=by
 have h1:¬((1:Int)<0):=by ext
 unfold Builtin.Slice.sliceAdjust;simp only[h1,if_false];refine Prod.ext ?_ ?_
 ·cases lo with
  | none=>rfl
  | some v=>exact tI v n 0
 ·cases hi with
  | none=>rfl
  | some v=>exact tI v n n
def uI(i j:Nat):Builtin.Slice.slicePlaces (i:Int) (j:Int) 1=j - i:=by
 unfold Builtin.Slice.slicePlaces;have h1:(1:Int)>0:=by ext
 simp only[h1,if_true,Int.ediv_one]
 split <;> ext
def nB{v:Value}{o:Option Int}{Q:Option Int->Shared->Prop}(p:IsPart v o)(h:Q o s):wpAny (model prog w) A (Builtin.Slice.slicePartIndex v) Q E s:=by
 cases p with
 | none=>exact slicePart_none h
 | int i t=>exact slicePart_int h
def lF{sl:Addr}{vl vu:Value}{lo hi:Option Int}{n:Nat}{Q:Int × Int × Nat->Shared->Prop}(hs:s.heap.IsSliceOf sl vl vu .none)(pl:IsPart vl lo)(pu:IsPart vu hi)
  (h:Q (((sIx n 0 lo:Nat):Int),1,sIx n n hi - sIx n 0 lo) s):wpAny (model prog w) A (Builtin.Slice.sliceApplied (.ref sl) (pure (n:Int))) Q E s:=by
 obtain⟨os,hos,hcs,hds⟩:=id hs;unfold Builtin.Slice.sliceApplied Builtin.Slice.sliceFields;refine qab (qab (wpAny_field hos hds (x:=vl) rfl (qab (wpAny_field hos hds (x:=vu) rfl (qab (wpAny_field hos hds (x:=.none) rfl (qaw ?_)))))));refine qab (slicePart_none ?_);show wpAny _ _ (if ((1:Int) == 0)=true then _ else _) _ _ s;rw[qay (by decide)];refine qab (nB pl (qab (nB pu (qab (qaw ?_)))));show wpAny _ _ (match Builtin.Slice.sliceAdjust lo hi 1 (n:Int) with | (lo,hi)=>pure (lo,(1:Int),Builtin.Slice.slicePlaces lo hi 1)) _ _ s;rw[uP lo hi n];show wpAny _ _ (pure (((sIx n 0 lo:Nat):Int),(1:Int),Builtin.Slice.slicePlaces ((sIx n 0 lo:Nat):Int) ((sIx n n hi:Nat):Int) 1)) _ _ s;rw[uI];exact qaw h
def yp(xs:Array Value)(i k:Nat):((List.range k).filterMap fun (m:Nat)=>xs[((i:Int)+(m:Int) * 1).toNat]?).toArray=((xs.toList.drop i).take k).toArray:=by
 have e:(fun (m:Nat)=>xs[((i:Int)+(m:Int) * 1).toNat]?)=fun m=>xs[i+m]?:=by
  funext m
  have:((i:Int)+(m:Int) * 1).toNat=i+m:=by ext
  rw[this]
 rw[e]
 have:=pick_run xs i k
 rw[List.filterMap_map] at this;have e2:((fun x=>xs[x]?)∘fun x=>i+x)=fun m=>xs[i+m]?:=rfl;rw[e2] at this;rw[this]
def kT{t sl:Addr}{items:Array Value}{vl vu:Value}{lo hi:Option Int}{Q:Value->Shared->Prop}(ht:IsTup s.heap t items)(hs:s.heap.IsSliceOf sl vl vu .none)(pl:IsPart vl lo)(pu:IsPart vu hi)
  (hw:¬(sIx items.size 0 lo=0/\sIx items.size items.size hi=items.size))
  (h:Q (.ref s.heap.objs.size) { s with heap:=s.heap.push { cls:=.type "tuple",data:=.seq ((items.toList.drop (sIx items.size 0 lo)).take (sIx items.size items.size hi - sIx items.size 0 lo)).toArray}})
  (hsz:items.size<=sizeLine):wpAny (model prog w) A (getItem (.ref t) (.ref sl)) Q E s:=by
 have htake:sizeOk (.seq ((items.toList.drop (sIx items.size 0 lo)).take (sIx items.size items.size hi - sIx items.size 0 lo)).toArray):=by
  show ((items.toList.drop (sIx items.size 0 lo)).take (sIx items.size items.size hi - sIx items.size 0 lo)).toArray.size<=sizeLine;rw[qau,qbf,qbM,qbu];ext
 have hj:sIx items.size items.size hi<=items.size:=sIx_le _ _ (qai _) hi;obtain⟨os,hos,hcs,hds⟩:=id hs;have hTs:s.TypeIs (.ref sl) "slice":=⟨os,hos,hcs⟩;unfold getItem
 try with_reducible refine wpAny_holding ?_
 first | refine qab (qaw ?_) | skip
 refine qab (wpAny_sequenceKey ht.typeIs (by decide) ?_)
 refine qab (wpAny_callSpecial?_slot (name:=Str.ofString "__getitem__") ht.typeIs PyProof.Rows.slot_tuple_getitem
  (wpAny_call_entry PyProof.Rows.slot_tuple_getitem ht.typeIs entry_tuple_getitem ?_ (args_tuple_getitem _ _)))
 show wpAny _ _ (Builtin.Tuple.tupleItemsOf (.ref t) >>= _) _ _ s;refine qab (tupleItemsOf_ ht ?_);refine qab (wpAny_typeOf hTs ?_);rw[qan (by decide)];refine qab (lF hs pl pu ?_);have hno:¬((((sIx items.size 0 lo:Nat):Int) == 0 && (1:Int) == 1 && (sIx items.size items.size hi - sIx items.size 0 lo) == items.size)=true):=by
  intro q;rw[qbw,qbw] at q;have q1:((sIx items.size 0 lo:Nat):Int)=0:=eq_of_beq q.1.1;have q2:sIx items.size items.size hi - sIx items.size 0 lo=items.size:=eq_of_beq q.2;exact hw ⟨by ext,by ext⟩
 show wpAny _ _ (if (((sIx items.size 0 lo:Nat):Int) == 0 && (1:Int) == 1 && (sIx items.size items.size hi - sIx items.size 0 lo) == items.size)=true then _ else _) _ _ s;rw[qay hno,yp]
 first
  | exact qab (m:=Builtin.Tuple.tupleExact _) (wpAny_newObj_type (qaw ⟨_,rfl,qaw h⟩) htake)
  | exact qab (m:=Builtin.Tuple.tupleExact _) (wpAny_newObj_type (qab (qaw (qaw ⟨_,rfl,qaw h⟩))) htake)
  | exact qab (qab (m:=Builtin.Tuple.tupleExact _) (wpAny_newObj_type (qaw (qaw ⟨_,rfl,qaw h⟩)) htake))
  | exact qab (qab (m:=Builtin.Tuple.tupleExact _) (wpAny_newObj_type (qaw ⟨_,rfl,qaw h⟩) htake))
end
end HT
namespace L2
open PySem PySem.Spec PyProof.Rows
abbrev TO:=St->Hp->(Option Int->Hp->Prop)->Prop
def PO(X:Cx)(e:Option Expr)(t:TO):Prop :=
 ∀(F6:List (Addr × Obj)) (s:Shared) (σ:St) (H:Hp) (Q:Option Int->Hp->Prop),Inv X F6 σ H s->t σ H Q ->
  wpAny (model X.prog X.w) X.A (evalPart e X.env) (fun u s'=>∃o H',Inv X F6 σ H' s'/\IsPart u o/\Q o H') X.xe s
def tNoPart:TO:=fun _ H Q=>Q none H
def tPart(t:TE):TO:=fun σ H Q=>t σ H fun x H1=>∃i,x=.int i/\Q (some i) H1
section
variable {X:Cx} {e:Expr} {te:TE} {lo hi:Option Expr} {tl th:TO} {pos p2:Pos}
def po_none:PO X none tNoPart:=by
 intro F6 s σ H Q I h;rw[evalPart_none];exact qaw ⟨none,H,I,.none,h⟩
def po_some(h:PE X e te):PO X (some e) (tPart te):=by
 intro F6 s σ H Q I hw;rw[evalPart_some];refine thn (h F6 s σ H _ I hw) fun u s1 ⟨x,H1,I1,r1,q1⟩=>?_;obtain⟨i,rfl,q⟩:=q1;obtain⟨t,rfl⟩:=r1;exact⟨some i,H1,I1,.int i t,q⟩
def SlR(X:Cx)(r:V->Option Int->Option Int->Hp->VK->Prop):Prop :=
 ∀(F6:List (Addr × Obj)) (s:Shared) (σ:St) (H:Hp) (x:V) (v vl vu:Value) (lo hi:Option Int) (sl:Addr) (Q:VK),Inv X F6 σ H s->aP x v->s.heap.IsSliceOf sl vl vu .none->IsPart vl lo->IsPart vu hi->r x lo hi H Q ->
  ∃T id,typeLookup (.type T) "__getitem__"=pure (some (.builtin id))/\s.TypeIs v T/\wpAny (model X.prog X.w) X.A (getItem v (.ref sl)) (EP X F6 σ Q) X.xe s
def tSl(r:V->Option Int->Option Int->Hp->VK->Prop)(te:TE)(tl th:TO):TE:=fun σ H Q=>te σ H fun x H1=>tl σ H1 fun l H2=>th σ H2 fun u H3=>r x l u H3 Q
def yj{r:V->Option Int->Option Int->Hp->VK->Prop}(hr:SlR X r)(he:PE X e te)(hl:PO X lo tl)(hu:PO X hi th):PE X (.Subscript e (.Slice lo hi none p2) pos) (tSl r te tl th):=by
 intro F6 s σ H Q I h;refine Subscript_ (thn (he F6 s σ H _ I h) fun v s1 ⟨x,H1,I1,r1,q1⟩=>?_);refine wpAny_Slice (thn (hl F6 s1 σ H1 _ I1 q1) fun vl s2 ⟨l,H2,I2,pl,q2⟩=>thn (hu F6 s2 σ H2 _ I2 q2) fun vu s3 ⟨u,H3,I3,pu,q3⟩=>?_);rw[evalPart_none];refine qaw ?_;have I4:Inv X F6 σ H3 { s3 with heap:=s3.heap.push { cls:=.type "slice",data:=.fields #[vl,vu,.none]}}:=I3.kept (t':=s3.toks) fun b ob q=>qad _ q;obtain⟨T,id,hT,ht,hg⟩:=hr F6 { s3 with heap:=s3.heap.push { cls:=.type "slice",data:=.fields #[vl,vu,.none]}} σ H3 x v vl vu l u s3.heap.objs.size Q I4 r1 (Heap.IsSliceOf.new ..) pl pu q3;show wpAny (model X.prog X.w) X.A (subscriptTail e (.Slice lo hi none p2) v (.ref s3.heap.objs.size)) (EP X F6 σ Q) X.xe { s3 with heap:=s3.heap.push { cls:=.type "slice",data:=.fields #[vl,vu,.none]}};exact tail_any (ops:=[.ref s3.heap.objs.size,v]) ht hT hg (by with_unfolding_all rfl)
def gP(xs:List V)(lo hi:Option Int):List V:=(xs.drop (HT.sIx xs.length 0 lo)).take (HT.sIx xs.length xs.length hi - HT.sIx xs.length 0 lo)
def lu(xs:List V)(lo hi:Option Int):(gP xs lo hi).length<=xs.length:=by
 unfold gP;rw[qbf,qbM];ext
def rSlT(K:qac):V->Option Int->Option Int->Hp->VK->Prop:=fun x lo hi H Q=>∃a xs,x=.ref a/\SqT K H a xs /\
 ¬(HT.sIx xs.length 0 lo=0/\HT.sIx xs.length xs.length hi=xs.length)/\∀p,H p=none->Q (.ref p) (upd H p (.tup (gP xs lo hi)))
def sl_tup:SlR X (rSlT X.K):=by
 intro F6 s σ H x v vl vu lo hi sl Q I rx hs pl pu h;obtain⟨a,xs,rfl,hx,hw,q⟩:=h;cases rx;obtain⟨its,r,ht,hz⟩:=I.tuple hx;have hlen:its.toArray.size=xs.length:=by rw[qau];exact r.length.symm
 refine⟨"tuple",_,PyProof.Rows.slot_tuple_getitem.lookup,ht.typeIs,?_⟩;refine HT.kT ht hs pl pu (by rw[hlen];exact hw) ?_ (by rw[hlen];exact hz);rw[hlen];refine⟨.ref s.heap.objs.size,_,I.laid (t':=s.toks) (o:=.tup (gP xs lo hi)) (fun b ob q=>qad _ q) (qai _) ?_,rfl,q _ (I.hok.fresh (qai _))⟩;exact⟨qaI (lu xs lo hi) hz,_,(r.drop (HT.sIx xs.length 0 lo)).take (HT.sIx xs.length xs.length hi - HT.sIx xs.length 0 lo),gI.new _ _⟩
def rCatT(K:qac):R2:=fun x y H Q=>∃a b xs ys,x=.ref a/\y=.ref b/\SqT K H a xs/\SqT K H b ys/\xs≠[]/\xs.length+ys.length<=sizeLine /\
 (ys=[]->Q (.ref a) H)/\(ys≠[]->∀p,H p=none->Q (.ref p) (upd H p (.tup (xs++ys))))
def aJ.nil_iff{xs:List V}{us:List Value}(r:aJ xs us):us=[]↔xs=[]:=by
 cases r with
 | nil=>simp
 | cons _ _=>simp
def op_catT:OpR X (binaryOp .Add) (rCatT X.K):=by
 intro F6 s σ H x y v u Q I rx ry h;obtain⟨a,b,xs,ys,rfl,rfl,ha,hb,hx,hz,q1,q2⟩:=h;cases rx;cases ry;obtain⟨its,r1,p1,_⟩:=I.tuple ha;obtain⟨its2,r2,p2,_⟩:=I.tuple hb;refine HT.cat_tup p1 p2 (fun z=>hx (r1.nil_iff.mp z)) (fun z=>⟨.ref a,H,I,rfl,q1 (r2.nil_iff.mp z)⟩) (fun z=>?_) (by rw[<-r1.length,<-r2.length];exact hz);refine⟨.ref s.heap.objs.size,_,I.laid (t':=s.toks) (o:=.tup (xs++ys)) (fun b ob q=>qad _ q) (qai _) ?_,rfl,q2 (fun w=>z (r2.nil_iff.mpr w)) _ (I.hok.fresh (qai _))⟩;exact⟨by rw[qaY];exact hz,_,r1.append r2,gI.new _ _⟩
end
def ixN(n:Nat)(i:Int):Option Nat:=if 0<=i then (if i<n then some i.toNat else none) else if -(n:Int)<=i then some (i+n).toNat else none
def atI{α:Type}(xs:List α)(i:Int):Option α:=(ixN xs.length i).bind fun j=>xs[j]?
def sR{n:Nat}{i:Int}{j:Nat}(h:ixN n i=some j):seqIndex? i n=some j/\j<n /\ -(n:Int)<=i/\i<n:=by
 unfold ixN at h;by_cases h0:0<=i
 ·rw[qan h0] at h;by_cases h1:i<n
  ·rw[qan h1] at h;have e:i.toNat=j:=Option.some.inj h;exact⟨by rw[seqIndex_of h0 h1,e],by ext,by ext,h1⟩
  ·rw[qay h1] at h;cases h
 ·rw[qay h0] at h;by_cases h1:-(n:Int)<=i
  ·rw[qan h1] at h;have e:(i+n).toNat=j:=Option.some.inj h;exact⟨by rw[seqIndex_neg (by ext) h1,e],by ext,h1,by ext⟩
  ·rw[qay h1] at h;cases h
def oC{α:Type}{xs:List α}{i:Int}{v:α}(h:atI xs i=some v):∃j,seqIndex? i xs.length=some j/\xs[j]?=some v/\j<xs.length /\ -(xs.length:Int)<=i/\i<xs.length:=by
 unfold atI at h
 cases e:ixN xs.length i with
 | none=>rw[e] at h;cases h
 | some j =>
  rw[e] at h;obtain⟨h1,h2,h3,h4⟩:=sR e;exact⟨j,h1,h,h2,h3,h4⟩
def cZ{α:Type}{xs:List α}{j:Nat}{v:α}(h:xs[j]?=some v):atI xs (j:Int)=some v:=by
 have hj:j<xs.length:=(qaf.mp h).1;have e:ixN xs.length (j:Int)=some j:=by
  unfold ixN;rw[qan (by ext),qan (by ext)];simp
 unfold atI;rw[e];exact h
def kM(b:Expr):Prop:=∀o i,subscripted b false o i=operate [o,i] (getItem o i)
def IxR(X:Cx)(r:R2):Prop :=
 ∀(value slice:Expr) (F6:List (Addr × Obj)) (s:Shared) (σ:St) (H:Hp) (x y:V) (v u:Value) (Q:VK),Inv X F6 σ H s->aP x v->aP y u->r x y H Q ->
  subscripted slice false v u=operate [v,u] (getItem v u)->wpAny (model X.prog X.w) X.A (subscriptTail value slice v u) (EP X F6 σ Q) X.xe s
def MtR(X:Cx)(id:String)(r:V->List V->Hp->VK->Prop):Prop :=
 ∀(F6:List (Addr × Obj)) (s:Shared) (σ:St) (H:Hp) (x:V) (xs:List V) (v:Value) (us:List Value) (Q:VK),Inv X F6 σ H s->aP x v->aJ xs us->r x xs H Q ->
  wpAny (model X.prog X.w) X.A (call (.builtin id) (v::us)) (EP X F6 σ Q) X.xe s
section
variable {X:Cx} {a b:Expr} {ta tb:TE} {pos:Pos}
def IxR.or{r r':R2}(h:IxR X r)(h':IxR X r'):IxR X (fun x y H Q=>r x y H Q\/r' x y H Q):=by
 intro value slice F6 s σ H x y v u Q I rx ry q hs;rcases q with q|q
 ·exact h value slice F6 s σ H x y v u Q I rx ry q hs
 ·exact h' value slice F6 s σ H x y v u Q I rx ry q hs
def pe_ix{r:R2}(hr:IxR X r)(ha:PE X a ta)(hb:PE X b tb)(hs:kM b):PE X (.Subscript a b pos) (tOp r ta tb):=by
 intro F6 s σ H Q I h;exact Subscript_ (binT ha hb I h fun v u s2 x y H2 I2 rx ry q=>hr a b F6 s2 σ H2 x y v u Q I2 rx ry q (hs _ _))
def rIxL(K:qac):R2:=fun x y H Q=>∃p xs i v,x=.ref p/\y=.int i/\SqL K H p xs/\atI xs i=some v/\Q v H
def rIxT(K:qac):R2:=fun x y H Q=>∃p xs i v,x=.ref p/\y=.int i/\SqT K H p xs/\atI xs i=some v/\Q v H
def rIxS:R2:=fun x y H Q=>∃z i c,x=.str z/\y=.int i/\z.length<=sizeLine/\atI z.cps.toList i=some c/\Q (.str ⟨#[c]⟩) H
def ix_list:IxR X (rIxL X.K):=by
 intro value slice F6 s σ H x y v u Q I rx ry h hs;obtain⟨p,xs,i,z,rfl,rfl,hq,he,q⟩:=h;cases rx;obtain⟨t,rfl⟩:=ry;obtain⟨its,r,pl,hz⟩:=I.list hq;obtain⟨j,h1,h2,h3,h4,h5⟩:=oC he;obtain⟨w,ew,rw'⟩:=r.get h2;have hl:=r.length;have hn:=iG;have fin:EP X F6 σ Q w s:=⟨z,H,I,rw',q⟩;by_cases h0:0<=i
 ·have hj:i.toNat=j:=by
   rw[seqIndex_of h0 h5] at h1;exact Option.some.inj h1
  exact item_listR pl.isList h0 (by ext) (by rw[hj];simpa using ew) fin hs
 ·have hj:(i+(its.toArray.size:Int)).toNat=j:=by
   rw[seqIndex_neg (by ext) h4] at h1;rw[qau,<-hl];exact Option.some.inj h1
  exact subscriptTail_builtinR (x:=w) pl.isList.typeIs slot_list_getitem.lookup
   (wpAny_getItem_list_neg (Q:=fun r s'=>r=w/\EP X F6 σ Q r s') pl.isList (by ext) (by rw[qau] <;> ext) (by ext) (by rw[hj];simpa using ew) ⟨rfl,fin⟩) hs
def ix_tup:IxR X (rIxT X.K):=by
 intro value slice F6 s σ H x y v u Q I rx ry h hs;obtain⟨p,xs,i,z,rfl,rfl,hq,he,q⟩:=h;cases rx;obtain⟨t,rfl⟩:=ry;obtain⟨its,r,pl,hz⟩:=I.tuple hq;obtain⟨j,h1,h2,h3,h4,h5⟩:=oC he;obtain⟨w,ew,rw'⟩:=r.get h2;have hl:=r.length;have hn:=iG;have fin:EP X F6 σ Q w s:=⟨z,H,I,rw',q⟩;exact subscriptTail_builtinR (x:=w) pl.typeIs slot_tuple_getitem.lookup
  (getItem_tuple (j:=j) (Q:=fun r s'=>r=w/\EP X F6 σ Q r s') pl (by ext) (by ext) (by rw[qau,<-hl];exact h1) (by simpa using ew) ⟨rfl,fin⟩) hs
def ix_str:IxR X rIxS:=by
 intro value slice F6 s σ H x y v u Q I rx ry h hs;obtain⟨z,i,c,rfl,rfl,hz,he,q⟩:=h;obtain⟨t,rfl⟩:=rx;obtain⟨t',rfl⟩:=ry;obtain⟨j,h1,h2,h3,h4,h5⟩:=oC he;have hl:z.cps.toList.length=z.length:=by simp[Str.length]
 rw[hl] at h1 h4 h5;have hn:=iG
 exact tail_any (typeIs_str s z t) slot_str_getitem.lookup (getItem_str (c:=c) (by
  have e1:decide (i < -(2 ^ 63:Int))=false:=decide_eq_false (by ext);have e2:decide (i>=2 ^ 63)=false:=decide_eq_false (by ext)
  rw[e1,e2,Bool.or_false]) (by rw[h1];simpa using h2) ⟨.str ⟨#[c]⟩,H,I.tok _,⟨_,rfl⟩,q⟩) hs
def rIx(K:qac):R2:=fun x y H Q=>rIxL K x y H Q\/rIxT K x y H Q\/rIxS x y H Q
def ix_seq:IxR X (rIx X.K):=ix_list.or (ix_tup.or ix_str)
def u6(its:List Value)(n j:Nat)(u:Value):Obj.mapSeq (·.setIfInBounds j u) { cls:=.type "list",data:=.seq its.toArray n}={ cls:=.type "list",data:=.seq (its.set j u).toArray n}:=by
 simp[Obj.mapSeq]
def Inv.lst{F6:List (Addr × Obj)}{σ:St}{H:Hp}{s:Shared}{p:Addr}{xs:List V}(I:Inv X F6 σ H s)(h:H p=some (.lst xs)) :
  ∃(its:List Value) (n:Nat),aJ xs its/\s.heap.get? p=some { cls:=.type "list",data:=.seq its.toArray n}/\xs.length<=sizeLine:=by
 obtain⟨z,its,n,r,e⟩:=I.hok p _ h;exact⟨its,n,r,e,z⟩
def Inv.lstUpd{F6:List (Addr × Obj)}{σ:St}{H:Hp}{s:Shared}{p:Addr}{xs ys:List V}{its its':List Value}{n n':Nat}{f:Obj->Obj}(I:Inv X F6 σ H s)(h:H p=some (.lst xs))
  (ho:s.heap.get? p=some { cls:=.type "list",data:=.seq its.toArray n}) (hf:f { cls:=.type "list",data:=.seq its.toArray n}={ cls:=.type "list",data:=.seq its'.toArray n'}) (r:aJ ys its') (hz:ys.length<=sizeLine) (t:Nat) :
  Inv X F6 σ (upd H p (.lst ys)) { s with heap:=s.heap.update p f,toks:=t}:=by
 have e:(s.heap.update p f).get? p=some { cls:=.type "list",data:=.seq its'.toArray n'}:=by
  rw[qcr f ho (by rw[hf] <;> rfl),hf]
 refine I.write (x:=p) (e:=p) (by rw[h];trivial) (.inl rfl) (fun b u hb q=>(qcp _ _ (Ne.symm hb)).trans q) ⟨_,e⟩ ?_;exact⟨hz,its',n',r,e⟩
def rSetL:V->V->V->Hp->(Hp->Prop)->Prop:=fun o i v H Q=>∃p xs k j,o=.ref p/\i=.int k/\H p=some (.lst xs)/\ixN xs.length k=some j/\Q (upd H p (.lst (xs.set j v)))
def xN:PSet X rSetL:=by
 intro F6 s σ H o i v ov iv u Q I ro ri rv h;obtain⟨p,xs,k,j,rfl,rfl,hp,hj,q⟩:=h;cases ro;obtain⟨t,rfl⟩:=ri;obtain⟨its,n,r,ho,hz⟩:=I.lst hp;obtain⟨h1,h2,h3,h4⟩:=sR hj;have hl:=r.length;have hn:=iG;have I':Inv X F6 σ (upd H p (.lst (xs.set j v))) { s with heap:=s.heap.update p (Obj.mapSeq (·.setIfInBounds j u))} :=
  I.lstUpd hp ho (u6 its n j u) (r.set rv j) (by rw[List.length_set];exact hz) s.toks
 by_cases h0:0<=k
 ·have hk:k.toNat=j:=by
   rw[seqIndex_of h0 h4] at h1;exact Option.some.inj h1
  exact PySem.W.ki_setAt ho h0 (by ext) (by rw[qau,<-hl];exact h4) (by rw[hk];exact⟨_,I',q⟩)
 ·have hk:(k+(its.toArray.size:Int)).toNat=j:=by
   rw[seqIndex_neg (by ext) h3] at h1;rw[qau,<-hl];exact Option.some.inj h1
  exact PySem.W.ki_setBack ho (by ext) (by rw[qau,<-hl];exact h3) (by ext) (by rw[hk];exact⟨_,I',q⟩)
def rm(lo hi:Option Int)(n:Nat):(sliceBounds lo hi none n).1=((HT.sIx n 0 lo:Nat):Int)/\(sliceBounds lo hi none n).2.1=((HT.sIx n n hi:Nat):Int)/\(sliceBounds lo hi none n).2.2=1:=by
 refine⟨?_,?_,rfl⟩
 ·cases lo with
  | none=>simp[sliceBounds,HT.sIx]
  | some i =>
   simp only[sliceBounds,HT.sIx,Option.getD_none,show (1:Int)>0 by decide,if_true];by_cases h:i<0
   ·simp only[h,if_true] <;> ext
   ·simp only[h,if_false] <;> ext
 ·cases hi with
  | none=>simp[sliceBounds,HT.sIx]
  | some i =>
   simp only[sliceBounds,HT.sIx,Option.getD_none,show (1:Int)>0 by decide,if_true];by_cases h:i<0
   ·simp only[h,if_true] <;> ext
   ·simp only[h,if_false] <;> ext
def pJ(its:List Value)(lo hi:Option Int):slicePick its.toArray lo hi none=((its.drop (HT.sIx its.length 0 lo)).take (HT.sIx its.length its.length hi - HT.sIx its.length 0 lo)).toArray:=by
 obtain⟨h1,h2,h3⟩:=rm lo hi its.toArray.size;unfold slicePick;rw[h1,h2,h3];simp only[sliceRange_one,pick_run,qau] <;> rfl
def rSlL(K:qac):V->Option Int->Option Int->Hp->VK->Prop:=fun x lo hi H Q=>∃a xs,x=.ref a/\SqL K H a xs/\∀p,H p=none->Q (.ref p) (upd H p (.lst (gP xs lo hi)))
def tF:SlR X (rSlL X.K):=by
 intro F6 s σ H x v vl vu lo hi sl Q I rx hs pl pu h;obtain⟨a,xs,rfl,hx,q⟩:=h;cases rx;obtain⟨its,r,ht,hz⟩:=I.list hx;have hlen:=r.length;refine⟨"list",_,slot_list_getitem.lookup,ht.isList.typeIs,?_⟩;refine wpAny_getItem_list_slice ht.isList hs pl pu .none (by simp) ?_ (by rw[qau] <;> ext);rw[pJ,<-hlen];refine⟨.ref s.heap.objs.size,_,I.laid (t':=s.toks) (o:=.lst (gP xs lo hi)) (fun b ob q=>qad _ q) (qai _) ?_,rfl,q _ (I.hok.fresh (qai _))⟩;exact⟨qaI (lu xs lo hi) hz,_,0,(r.drop (HT.sIx xs.length 0 lo)).take (HT.sIx xs.length xs.length hi - HT.sIx xs.length 0 lo),qaz _ rfl⟩
def qy:dG X (.type "list") (fun xs H Q=>∃p ys,xs=[.ref p]/\(SqL X.K H p ys\/SqT X.K H p ys)/\∀l,H l=none->Q (.ref l) (upd H l (.lst ys))):=by
 intro F6 s σ H xs us Q I r h;obtain⟨p,ys,rfl,hq,q⟩:=h;obtain⟨u,rfl,rx⟩:=iY r;cases rx;have fin:∀(its:List Value),aJ ys its->ys.length<=sizeLine->∀(h':Heap) (c':Nat),(∀b o',s.heap.get? b=some o'->h'.get? b=some o') ->
   h'.get? s.heap.objs.size=some { cls:=.type "list",dict:=none,data:=.seq its.toArray c',slots:=#[]}->EP X F6 σ Q (.ref s.heap.objs.size) { s with heap:=h'}:=fun its r' hz h' c' kp e =>
  ⟨.ref s.heap.objs.size,_,I.laid (t':=s.toks) kp (qai _) (show ObjOk X.prog X.w _ h' _ (.lst ys) from⟨hz,its,c',r',e⟩),rfl,q _ (I.hok.fresh (qai _))⟩
 rcases hq with hq|hq
 ·obtain⟨its,r',pl,hz⟩:=I.list hq;have hlen:=r'.length;obtain⟨o,ho,hc,n,hd⟩:=pl.isList;exact call_list_seq p (.inl rfl) ho hc hd (fun h' c' kp e=>fin its r' hz h' c' kp e) (by simp only[qau] <;> ext)
 ·obtain⟨its,r',pl,hz⟩:=I.tuple hq;have hlen:=r'.length;obtain⟨o,ho,hc,n,hd⟩:=pl;exact call_list_seq p (.inr rfl) ho hc hd (fun h' c' kp e=>fin its r' hz h' c' kp e) (by simp only[qau] <;> ext)
def jG:dG X (.type "tuple") (fun xs H Q=>∃p ys,xs=[.ref p]/\((SqL X.K H p ys/\∀l,H l=none->Q (.ref l) (upd H l (.tup ys)))\/(SqT X.K H p ys/\Q (.ref p) H))):=by
 intro F6 s σ H xs us Q I r h;obtain⟨p,ys,rfl,h⟩:=h;obtain⟨u,rfl,rx⟩:=iY r;cases rx;rcases h with ⟨hq,q⟩|⟨hq,q⟩
 ·obtain⟨its,r',pl,hz⟩:=I.list hq;have hlen:=r'.length;refine call_tuple_list pl.isList (fun h' kp=>?_) (by simp only[qau] <;> ext);have I1:Inv X F6 σ H { s with heap:=h'}:=I.kept (t':=s.toks) kp;have I2:Inv X F6 σ (upd H h'.objs.size (.tup ys)) { s with heap:=h'.push { cls:=.type "tuple",data:=.seq its.toArray}} :=
   I1.laid (t':=s.toks) (fun b o e=>qad _ e) (qai _) (show ObjOk X.prog X.w _ _ _ (.tup ys) from⟨hz,its,r',gI.new _ _⟩)
  exact⟨.ref h'.objs.size,_,I2,rfl,q _ (I1.hok.fresh (qai _))⟩
 ·obtain⟨its,r',pl,hz⟩:=I.tuple hq;exact call_tuple_same pl ⟨.ref p,H,I,rfl,q⟩
def tyV(K:qac)(T:String)(x:V)(H:Hp):Prop:=match x with
 | .str _=>T="str"
 | .int _=>T="int"
 | .ref p=>(T="list"/\∃xs,SqL K H p xs)\/(T="tuple"/\∃o,K.lookup p=some o/\o.cls=.type "tuple"/\o.dict=none) \/
   (T="dict"/\((∃kvs,H p=some (.dK kvs))\/∃kvs,H p=some (.dT kvs)))\/(T="set"/\∃S n,H p=some (.set S n))
 | _=>False
def tyV_is{F6:List (Addr × Obj)}{σ:St}{H:Hp}{s:Shared}{T:String}{x:V}{v:Value}(I:Inv X F6 σ H s)(r:aP x v)(ty:tyV X.K T x H) :
  s.TypeIs v T/\∀a,v=.ref a->∃ob,s.heap.get? a=some ob/\ob.dict=none:=by
 cases x with
 | str z =>
  obtain⟨t,rfl⟩:=r;cases (show T="str" from ty);exact⟨typeIs_str s z t,fun _ e=>nomatch e⟩
 | int i =>
  obtain⟨t,rfl⟩:=r;cases (show T="int" from ty);exact⟨typeIs_int s i t,fun _ e=>nomatch e⟩
 | ref p =>
  cases r;rcases ty with ⟨rfl,xs,hq⟩|⟨rfl,o,hk,hc,hd⟩|⟨rfl,hk⟩|⟨rfl,S,n,hk⟩
  ·obtain⟨its,_,pl,_⟩:=I.list hq;refine⟨pl.isList.typeIs,fun a e=>?_⟩;cases e;obtain⟨o,n,e,c,hd,_⟩:=pl;exact⟨o,e,hd⟩
  ·refine⟨⟨o,I.kIn p o hk,hc⟩,fun a e=>?_⟩;cases e;exact⟨o,I.kIn _ o hk,hd⟩
  ·have z:∃o,s.heap.get? p=some o/\o.ExactDict:=by
    rcases hk with ⟨kvs,hk⟩|⟨kvs,hk⟩
    ·obtain⟨_,_,_,_,o,_,_,e,ex,_⟩:=I.hok p _ hk;exact⟨o,e,ex⟩
    ·obtain⟨_,_,_,_,o,_,_,e,ex,_⟩:=I.hok p _ hk;exact⟨o,e,ex⟩
   obtain⟨o,e,ex⟩:=z;refine⟨⟨o,e,ex.1⟩,fun a e2=>?_⟩;cases e2;exact⟨o,e,ex.2.1⟩
  ·obtain⟨o,_,_,_,e,ex,_⟩:=I.hok p _ hk;refine⟨⟨o,e,ex.1⟩,fun a e2=>?_⟩;cases e2;exact⟨o,e,ex.2.1⟩
 | _=>exact False.elim ty
def tBM(K:qac)(T:String)(r:V->List V->Hp->VK->Prop)(to:TE)(t:TA):TE:=fun σ H Q=>to σ H fun x H1=>tyV K T x H1/\t σ H1 fun xs H2=>r x xs H2 Q
variable {o e:Expr} {es:List Expr} {to:TE} {t:TA} {name:Str} {apos cpos:Pos} {T id:String} {r:V→List V→Hp→VK→Prop}
def pe_bm(pa:PlainAttrs T)(slot:Slot T name id)(hty:typeOf (.builtin id)=pure (.type "method_descriptor"))(hm:MtR X id r)(ho:PE X o to)(ha:PA X (e::es) t)
  (hbase:attributeBase o name X.env (eval o X.env)=eval o X.env:=by rfl)
  (hfew:((backTo cpos (starEach (e::es) X.env)).all (fun x=>!x.1) && (backToKw cpos (keywordEach [] X.env)).all (fun x=>x.1.isSome)
   && decide ((e::es).length+([]:List Keyword).length+(if ([]:List Keyword).isEmpty then 0 else 1)<30))=true:=by rfl)
  (hline:(apos.endLine == cpos.line)=true:=by rfl) (hs:starEach (e::es) X.env=(false,eval e X.env)::starEach es X.env:=by rfl) (hplain:(backTo cpos (starEach es X.env)).any (·.1)=false:=by rfl) :
  PE X (.Call (.Attribute o name apos) (e::es) [] cpos) (tBM X.K T r to t):=by
 intro F6 s σ H Q I h;refine wpAny_Call_method_late hbase hfew hline rfl (thn (ho F6 s σ H _ I h) fun v s1 ⟨x,H1,I1,r1,ty,q1⟩=>?_);obtain⟨h1,h2⟩:=tyV_is I1 r1 ty;refine⟨T,id,pa,slot,hty,h1,h2,?_⟩;have hA:=ha cpos F6 s1 σ H1 _ I1 q1;rw[hs] at hA ⊢;refine Calls.callWith_builtin (by show (false || (backTo cpos (starEach es X.env)).any (·.1))=false;rw[hplain] <;> rfl) (Calls.evalArgs_plain ?_);exact thn hA fun us s2 ⟨vs,H2,I2,r2,q2⟩=>hm F6 s2 σ H2 x vs v us Q I2 r1 r2 q2
end
def MtM(X:Cx)(id:String)(r:V->List V->Hp->VK->Prop):Prop :=
 ∀(F6:List (Addr × Obj)) (s:Shared) (σ:St) (H:Hp) (x:V) (xs:List V) (v:Value) (us:List Value) (Q:VK),Inv X F6 σ H s->aP x v->aJ xs us->r x xs H Q ->
  wpAny (model X.prog X.w) X.A (call (.builtin id) (v::us)) (EP X F6 σ Q) X.xe s
def aJ.zero{us:List Value}(h:aJ [] us):us=[]:=by cases h;rfl
def aJ.one{x:V}{us:List Value}(h:aJ [x] us):∃u,us=[u]/\aP x u:=by
 cases h with|cons r t=>exact⟨_,by rw[aJ.zero t],r⟩
def aJ.eraseIdx{xs:List V}{us:List Value}(i:Nat)(r:aJ xs us):aJ (xs.eraseIdx i) (us.eraseIdx i):=by
 induction r generalizing i with
 | nil=>exact .nil
 | cons a t ih =>
  cases i with
  | zero=>exact t
  | succ i=>exact .cons a (ih i)
def aJ.rep{xs:List V}{us:List Value}(h:aJ xs us):∀k:Nat,aJ (List.replicate k xs).flatten (List.replicate k us).flatten
 | 0=>.nil
 | k+1=>by
  rw[qaQ,qaQ,qbc,qbc];exact aJ.append h (aJ.rep h k)
def o3{α:Type}:∀(l:List α) (i:Nat),(l.eraseIdx i).length<=l.length
 | [],_=>qai _
 | _::_,0=>qbR _
 | _::r,i+1=>Nat.succ_le_succ (o3 r i)
def oK(its:List Value):∀(k:Nat) (acc:List Value),
  List.foldl (fun x1 x2=>x1++x2) acc.toArray (List.replicate k its.toArray)=(acc++(List.replicate k its).flatten).toArray
 | 0,acc=>by simp
 | k+1,acc=>by
  have e:acc.toArray++its.toArray=(acc++its).toArray:=by simp
  have e2:(acc++its)++(List.replicate k its).flatten=acc++(List.replicate (k+1) its).flatten:=by
   rw[qaQ,qbc,List.append_assoc]
  rw[<-e2,<-oK its k (acc++its),<-e,qaQ,List.foldl_cons]
section
variable {X:Cx} {F6:List (Addr × Obj)} {σ:St} {H:Hp} {s:Shared} {l b:Addr} {xs ys zs:List V}
def Inv.lset{its its':List Value}{n:Nat}{f:Array Value->Array Value}{t':Nat}(I:Inv X F6 σ H s)(hH:H l=some (.lst xs))
  (e:s.heap.get? l=some { cls:=.type "list",data:=.seq its.toArray n}) (hf:f its.toArray=its'.toArray) (hv:aJ ys its') (hz:ys.length<=sizeLine) :
  Inv X F6 σ (upd H l (.lst ys)) { s with heap:=s.heap.update l (Obj.mapSeq f),toks:=t'}:=by
 have q:=PySem.IsL.update e f;rw[hf] at q;refine I.write (x:=l) (e:=l) (by rw[hH];exact trivial) (.inl rfl) (fun b' u hb hu=>(qcp s.heap (Obj.mapSeq f) (Ne.symm hb)).trans hu) ⟨_,q⟩ ?_;exact⟨hz,its',_,hv,q⟩
def Inv.lnew{its:List Value}{t':Nat}(I:Inv X F6 σ H s)(hv:aJ ys its)(hz:ys.length<=sizeLine) :
  Inv X F6 σ (upd H s.heap.objs.size (.lst ys)) { s with heap:=s.heap.push { cls:=.type "list",data:=.seq its.toArray},toks:=t'} :=
 I.laid (fun _ _ q=>qad _ q) (qai _) ⟨hz,its,0,hv,qaz _ rfl⟩
def Inv.fresh(I:Inv X F6 σ H s):H s.heap.objs.size=none:=I.hok.fresh (qai _)
def Inv.lstM(I:Inv X F6 σ H s)(hH:H l=some (.lst xs)):xs.length<=sizeLine/\∃(its:List Value) (n:Nat),aJ xs its/\xs.length=its.length/\s.heap.get? l=some { cls:=.type "list",data:=.seq its.toArray n}:=by
 obtain⟨z,its,n,r,e⟩:=I.hok l _ hH;exact⟨z,its,n,r,r.length,e⟩
def xz{n:Nat}(h:n<=sizeLine):Builtin.List.listTooLong n=false:=by
 unfold Builtin.List.listTooLong;exact decide_eq_false (by ext)
end
section
variable {X:Cx}
def rAppend:V->List V->Hp->VK->Prop:=fun x vs H Q=>∃l xs y,x=.ref l/\vs=[y]/\H l=some (.lst xs)/\xs.length<sizeLine/\Q .non (upd H l (.lst (xs++[y])))
def oU:MtM X "list.append" rAppend:=by
 intro F6 s σ H x vs v us Q I rx rv h;obtain⟨l,xs,y,rfl,rfl,hH,hz,q⟩:=h;cases rx;obtain⟨u,rfl,ru⟩:=rv.one;obtain⟨z,its,n,r,hl,e⟩:=I.lstM hH;refine call_meets F.slot_list_append ⟨_,e,rfl⟩ F.entry_list_append (F.args_list_append_2 _ _) (PySem.list_append l its.toArray n u (by rw[qau];ext)) ⟨e,?_⟩;refine⟨.non,_,I.lset (its':=its++[u]) hH e (by simp) (r.append (.cons ru .nil)) ?_,rfl,q⟩;rw[qaY,qcs];ext
def rPopAt:V->List V->Hp->VK->Prop:=fun x vs H Q=>∃l xs i k y,x=.ref l/\vs=[.int i]/\H l=some (.lst xs) /\ -(2 ^ 63)<=i/\i<2 ^ 63/\seqIndex? i xs.length=some k/\xs[k]?=some y/\Q y (upd H l (.lst (xs.eraseIdx k)))
def wR:MtM X "list.pop" rPopAt:=by
 intro F6 s σ H x vs v us Q I rx rv h;obtain⟨l,xs,i,k,y,rfl,rfl,hH,h1,h2,hk,hy,q⟩:=h;cases rx;obtain⟨u,rfl,ru⟩:=rv.one;obtain⟨t,rfl⟩:=ru;obtain⟨z,its,n,r,hl,e⟩:=I.lstM hH;obtain⟨w,hw,rw'⟩:=r.get hy;refine call_meets F.slot_list_pop ⟨_,e,rfl⟩ F.entry_list_pop (F.args_list_pop_2 _ _)
  (MeetsSeq.list_pop_at l its.toArray n i t k w (fitsIndex_both h1 h2) (by rw[qau,<-hl];exact hk) (by rw[<-qbJ];exact hw) (by rw[qau];ext)) ⟨e,?_⟩
 refine⟨y,_,I.lset (its':=its.eraseIdx k) hH e ?_ (r.eraseIdx k) ?_,rw',q⟩
 ·show its.toArray.eraseIdxIfInBounds k=(its.eraseIdx k).toArray;rw[List.eraseIdxIfInBounds_toArray]
 ·have:=o3 xs k
  ext
def rCat:R2:=fun x y H Q=>∃l b xs zs,x=.ref l/\y=.ref b/\H l=some (.lst xs)/\H b=some (.lst zs)/\xs.length+zs.length<=sizeLine/\∀p,H p=none->Q (.ref p) (upd H p (.lst (xs++zs)))
def op_cat:OpR X (binaryOp .Add) rCat:=by
 intro F6 s σ H x y v u Q I rx ry h;obtain⟨l,b,xs,zs,rfl,rfl,hH,hB,hz,q⟩:=h;cases rx;cases ry;obtain⟨z,its,n,r,hl,e⟩:=I.lstM hH;obtain⟨z2,its2,n2,r2,hl2,e2⟩:=I.lstM hB;refine PySem.P.add_list e e2 ?_ (by rw[qau,qau];ext);have ea:its.toArray++its2.toArray=(its++its2).toArray:=by simp
 rw[ea];exact⟨.ref _,_,I.lnew (t':=s.toks) (r.append r2) (by rw[qaY];ext),rfl,q _ I.fresh⟩
def rRep:R2:=fun x y H Q=>∃l k xs,x=.ref l/\y=.int k/\H l=some (.lst xs) /\ -(2 ^ 63)<=k/\k<2 ^ 63/\xs.length * k.toNat<=sizeLine /\
 ∀p,H p=none->Q (.ref p) (upd H p (.lst (List.replicate k.toNat xs).flatten))
def ue{α:Type}(xs:List α)(k:Nat):(List.replicate k xs).flatten.length=k * xs.length:=by
 induction k with
 | zero=>simp
 | succ k ih=>rw[qaQ,qbc,qaY,ih,qbK,Nat.add_comm]
def op_rep:OpR X (binaryOp .Mult) rRep:=by
 intro F6 s σ H x y v u Q I rx ry h;obtain⟨l,k,xs,rfl,rfl,hH,h1,h2,hz,q⟩:=h;cases rx;obtain⟨t,rfl⟩:=ry;obtain⟨z,its,n,r,hl,e⟩:=I.lstM hH;have hlen:its.toArray.size * k.toNat<=sizeLine:=by rw[qau,<-hl];exact hz
 have hcap:¬its.toArray.size * k.toNat>(2 ^ 63 - 1) / 8:=by
  have:(sizeLine:Nat)<=(2 ^ 63 - 1) / 8:=by decide
  ext
 have hfit:¬(!Builtin.List.listFitsIndex k)=true:=by
  rw[fitsIndex_both h1 h2];exact qaT
 have hlong:¬Builtin.List.listTooLong (its.toArray.size * k.toNat)=true:=by
  rw[xz hlen];exact qaT
 have hnew:List.foldl (fun x1 x2=>x1++x2) #[] (List.replicate (if its.toArray.isEmpty=true then 0 else k.toNat) its.toArray)=(List.replicate k.toNat its).flatten.toArray:=by
  have f0:∀m:Nat,List.foldl (fun x1 x2=>x1++x2) #[] (List.replicate m its.toArray)=(List.replicate m its).flatten.toArray:=fun m=>by
   have:=oK its m []
   rw[List.nil_append] at this;exact this
  rw[f0]
  cases its with
  | nil=>simp
  | cons a r'=>rw[qay (by simp)]
 refine wpAny_binaryOp_repeat_ref (T:="list") (U:="int") (by decide) ⟨_,e,rfl⟩ (fun s'=>typeIs_int s' k t) noFill_list_mul F.fills_int_mul F.slot_int_rmul repeat_list F.slot_int_index.lookup
  (call_meets F.slot_int_rmul (typeIs_int s k t) F.entry_int_rmul (F.args_int_rmul_2 _ _) (int___rmul___int_list k t l its.toArray n)
   ⟨e,rfl,⟨_,e,rfl⟩,call_meets F.slot_list_mul ⟨_,e,rfl⟩ F.entry_list_mul (F.args_list_mul_2 _ _) (AutoListH.list___mul___list_int_3 l its.toArray n k t hfit hcap hlong) ⟨e,?_⟩⟩)
 rw[hnew];exact⟨.ref _,_,I.lnew (t':=s.toks) (r.rep k.toNat) (by rw[ue,qbL];exact hz),rfl,q _ I.fresh⟩
end
section
variable {prog:Program} {w:World} {A:Around} {E:Value→Shared→Prop} {s:Shared}
end
section
variable {X:Cx}
end
end L2
namespace Att
open PySem PySem.W PySem.Calls PyProof.Rows
def nJ{P:Params}{h:Heap}:∀(ns:List Int) (vs:List Value),WellAll P h vs (ns.map WData.int)->IntsAre vs ns:=by
 intro ns
 induction ns with
 | nil =>
  intro vs w;rw[qct] at w;cases w;exact .nil
 | cons n ns ih =>
  intro vs w;rw[qao] at w
  cases w with
  | cons a b =>
   cases a;exact .cons _ _ (ih _ b)
def we{l:OpenLaw}{n:Nat}(hn:l.most=some n){P:Params}{h:Heap}{args:List WData}{vals:List Value}
  (hpre:l.row.toRowW.claim.pre args=true) (hwl:WellAll P h vals args) :
  ∃a vs ns,vals=[Value.ref a]/\args=[WData.list (ns.map WData.int)]/\h.get? a=some { cls:=.type "list",data:=.seq vs.toArray}/\IntsAre vs ns/\ns.length<=n:=by
 have hsh:WShape.hasAll [] args [.list .int]=true:=(pre_splitW hpre).1;have hc:l.pre.holds [] { args:=args}=true:=(pre_splitW hpre).2;obtain⟨d,r,rfl,h1,h2⟩:=hasAllW_cons hsh;obtain rfl:=hasAllW_nil h2;obtain⟨xs,rfl,h3⟩:=hasW_list h1;obtain⟨ns,rfl⟩:=items_int h3;have hlen:ns.length<=n:=by
  unfold OpenLaw.pre at hc;have h4:(WTm.not (.lt (.lit (.int (n:Int))) (.len (.arg 0)))).holds [] { args:=[.list (ns.map .int)]}=true:=by
   have h4:=(holds_andW hc).1;rw[hn] at h4;exact h4
  have h5:=condW_of h4 (w_not (w_lt w_lit (w_len_list (w_arg rfl))));rw[qar] at h5;refine Nat.le_of_not_lt fun q=>?_;have q':(n:Int)<((ns.length:Nat):Int):=by ext
  first
   | (rw[decide_eq_true q'] at h5;exact absurd h5 (by decide))
   | (simp at h5;ext)
 cases hwl with
 | cons w1 w2 =>
  cases w2
  cases w1 with
  | list ho hall=>exact⟨_,_,ns,rfl,rfl,ho,nJ ns _ hall,hlen⟩
def vG(l:OpenLaw)(args:List WData):l.row.toRowW.claim.post args (.bool true) args=true :=
 postW_of (r:=l.row.toRowW) (X:=(true == true))
  (show WShape.has [] (.bool true) .bool=true by first | rfl | decide | simp[WShape.has,WShape.arms,WShape.armsAll])
  (show (WTm.eq .res (.lit (.bool true))).value [] { args:=args,res:=some (.bool true),after:=args}=some (.bool (true == true)) from w_eq_bool (w_res rfl) w_lit) rfl
def sF{l:OpenLaw}{n:Nat}{q:Program}{loose:List Str}{XP:(Str->Option Value)->Heap->Prop}{YP:World->Heap->Prop}{d:DefRec}
  (hn:l.most=some n) (hdf:d.params.defaults=[])
  (call:∀(w:World) (s₀ s₁:Shared) (mg mb:Str->Option Value) (fa:Addr) (o:Obj) (pm cd doc:Value) (a:Addr) (vs:List Value) (ns:List Int),
   Ground q loose [] XP w s₀ mg mb s₁.heap->YP w s₁.heap ->
   s₁.heap.get? fa=some o->o.data=.func (docDef d.name d.params d.body d.scope pm cd doc)->s₁.heap.CodeRec cd d.name->mg d.name=some (.ref fa) ->
   s₁.heap.get? a=some { cls:=.type "list",data:=.seq vs.toArray}->IntsAre vs ns->ns.length<=n->s₁.gens=#[] ->
   codeAny (model l.prog w) callerA (.call (.ref fa) ⟨[.ref a],[]⟩) (fun r s'=>r=.ok (.ret (.bool true))/\OldK s₁.heap s'.heap/\s'.os=s₁.os/\AllBare s'.gens) s₁) :
  WalkO q loose XP YP l.row.toRowW d [] (fun f vs=>PySem.call f vs):=by
 intro w s₀ s₁ mg mb G Y fa o pm cd doc dV kV ho hd hcd hD hmg hg args vals as hpre hlay hrd hwl hlo;obtain rfl:dV=.none:=Dflts.none hD hdf;obtain rfl:kV=.none:=Dflts.noKw hD;obtain⟨a,vs,ns,rfl,rfl,hobj,hints,hlen⟩:=we hn hpre hwl;refine enter_call (codeAny_mono (call w s₀ s₁ mg mb fa o pm cd doc a vs ns G Y ho (fd_plain hd) hcd hmg hobj hints hlen hg) fun r s' hq=>?_);obtain⟨rfl,h2,h3,h4⟩:=hq;exact⟨.inl ⟨.bool true,.bool true,[],rfl,fun _=>rfl,.bool true,vG l _,fun _=>⟨List.Pairwise.nil,fun _ hm=>(nomatch hm)⟩⟩,h2,h3,h4⟩
section
variable {prog:Program} {w:World} {A:Around} {E:Value→Shared→Prop} {s:Shared} {K:Frag}
end
end Att
namespace L2
open PySem PySem.Spec PyProof.Rows
def pe:∀{vs:List Value} {ns:List Int},IntsAre vs ns->aJ (ns.map V.int) vs
 | _,_,.nil=>.nil
 | _,_,.cons n t h=>.cons ⟨t,rfl⟩ (pe h)
def Only(H:Hp):Prop:=∀b,H b=none\/∃o xs,H b=some (.frz o (.lst xs))
def wT{P:Program}{w:World}{K:qac}{mg mb:Str->Option Value}{CX:CXT}{k:Nat}{fa a:Addr}{fd:FuncData}{x:Str}{sp:Sp}{s₁:Shared}{vs:List Value}{ns:List Int}
  (KX:K.In s₁.heap) (hns:s₁.heap.Ns mainGlobals mg) (hb:s₁.heap.Ns builtinsNs mb) (hbb:∀x:Str,x≠"__name__"->mb x=bootBuiltins x) (hlim:s₁.heap.NoLimit) (hse:s₁.heap.NoSeer) (htr:P.given.tree=none) (hg:s₁.gens=#[])
  (ha:s₁.heap.get? a=some { cls:=.type "list",data:=.seq vs.toArray}) (hi:IntsAre vs ns) (hl:ns.length<=sizeLine) (hr:Room k callerA)
  (F:∀base:Heap,K.In base->base.Ns mainGlobals mg->FnOk P w K mg base CX k fa fd [x] sp) (hbind:∀(s:Shared) (u:Value),BindsTo s fd ⟨[u],[]⟩ [(x,u)])
  (hsp:∀H:Hp,Only H->SqL K H a (ns.map V.int)->sp [.ref a] H (fun v _=>v=.bl true) fun _ _ _=>False)
  (hCX:∀H e s',CX [] H s₁ (fun _ _ _=>False) e s'->False) :
  codeAny (model P w) callerA (.call (.ref fa) ⟨[.ref a],[]⟩) (fun r s'=>r=.ok (.ret (.bool true))/\OldK s₁.heap s'.heap/\s'.os=s₁.os/\AllBare s'.gens) s₁:=by
 have rv:=pe hi;have lenV:=hi.length;have core:∀H:Hp,Only H->SqL K H a (ns.map V.int)->HOk P w H s₁.heap->(∀b,H b≠none->b=a)->(H a≠none->K.lookup a=none) ->
   codeAny (model P w) callerA (.call (.ref fa) ⟨[.ref a],[]⟩) (fun r s'=>r=.ok (.ret (.bool true))/\OldK s₁.heap s'.heap/\s'.os=s₁.os/\AllBare s'.gens) s₁:=by
  intro H hO hS hok hA hK;have base_of:∀{b:Addr} {o:Obj},s₁.heap.get? b=some o->H b=none->(i5 s₁.heap H).get? b=some o:=fun e n=>ym e n;have noA:∀{b:Addr} {o:Obj} {es:Array DictEntry} {ep:Nat},s₁.heap.get? b=some o->o.data=.dict es ep->H b=none:=fun {b o es ep} e d=>by
   cases q:H b with
   | none=>rfl
   | some u =>
    have e':b=a:=hA b (by rw[q];simp);subst e';rw[ha] at e;cases e;have d':Data.seq vs.toArray _=Data.dict es ep:=d;cases d'
  have nsK:∀{b:Addr} {m:Str->Option Value},s₁.heap.Ns b m->(i5 s₁.heap H).Ns b m:=fun {b m} ⟨o,es,ep,e,d,r⟩=>⟨o,es,ep,base_of e (noA e d),d,r⟩
  have hKb:K.In (i5 s₁.heap H):=fun b o e=>base_of (KX b o e) (by
   cases q:H b with
   | none=>rfl
   | some u =>
    have e':b=a:=hA b (by rw[q];simp);subst e'
    rw[hK (by rw[q];simp)] at e;cases e)
  have hM:Mod K mg (i5 s₁.heap H):=⟨hKb,nsK hns,⟨mb,nsK hb,hbb⟩,let ⟨mc,h1,h2⟩:=hlim;⟨mc,nsK h1,h2⟩,let ⟨mc,h1,h2⟩:=hse.statics;⟨mc,nsK h1,h2⟩,let ⟨mc,h1,h2⟩:=hse.mods;⟨mc,nsK h1,h2⟩,let ⟨mc,h1,h2⟩:=hse.imp;⟨mc,nsK h1,h2⟩,let ⟨mc,bm,ob,h1,h2,h3,h4,h5⟩:=hse.main;⟨mc,bm,ob,nsK h1,h2,base_of h3 (by
   cases q:H bm with
   | none=>rfl
   | some u =>
    have e':bm=a:=hA bm (by rw[q];simp);subst e';rw[ha] at h3;cases h3
    exact absurd (show Value.type "list"=Value.type "module" from h4) (by decide)),h4,h5⟩⟩
  have e0:Env0 P w K mg (i5 s₁.heap H) callerA [] s₁ H:=⟨rfl,hM,fun b o e=>of_hidT e,Nat.le_of_eq (vK _ _),trivial,fun b hb=>absurd (show b∈([]:List Addr) from hb) (by simp),hok,.of_eq hg,htr⟩;refine codeAny_mono ((F _ hKb (nsK hns)).run callerA [] s₁ H ⟨[.ref a],[]⟩ [.ref a] [.ref a] _ _ hr e0 (hbind s₁ (.ref a)) (.cons rfl .nil) (hsp H hO hS)) fun r s' h=>?_
  cases r with
  | error e=>exact (hCX H e s' h).elim
  | ok fl =>
   cases fl with
   | next=>exact False.elim h
   | brk=>exact False.elim h
   | cont=>exact False.elim h
   | ret u =>
    obtain⟨v,H',os,bare,un,hok',r',q⟩:=h;have q':v=.bl true:=q;subst q';obtain rfl:u=Value.bool true:=r';refine⟨rfl,OldK.of_keep fun b o e=>?_,os,bare⟩
    cases q:H b with
    | none=>exact un.keep b o e q (by intro z;exact absurd (show b∈([]:List Addr) from z) (by simp)) (by simp)
    | some u =>
     rcases hO b with z|⟨ob,xs,z⟩
     ·rw[q] at z;cases z
     ·have z2:=un.frzs b ob _ z;obtain⟨e1,_⟩:=hok b _ z;obtain⟨e2,_⟩:=hok' b _ z2;rw[e] at e1;cases e1;exact e2
 cases hk:K.lookup a with
 | some o =>
  have e:=KX a o hk;rw[ha] at e;cases e;refine core (fun _=>none) (fun _=>.inl rfl) (.inr ⟨_,vs.toArray,_,hk,rfl,rfl,rfl,by rw[qau,lenV];exact hl,by simpa using rv⟩) (fun b u z=>by have z':(none:Option HO)=some u:=z;cases z') (fun b z=>absurd rfl z) fun z=>absurd rfl z
 | none =>
  refine core (fun b=>if b=a then some (.frz { cls:=.type "list",data:=.seq vs.toArray} (.lst (ns.map V.int))) else none) (fun b=>?_) (.inl (.inr ⟨{ cls:=.type "list",data:=.seq vs.toArray},qan rfl⟩)) (fun b u z=>?_) (fun b z=>?_) fun _=>hk
  ·by_cases hb:b=a
   ·exact .inr ⟨_,_,qan hb⟩
   ·exact .inl (qay hb)
  ·by_cases hb:b=a
   ·have z':=(qan hb).symm.trans z;cases z';subst hb;exact⟨ha,by rw[qar];exact hl,vs,_,rv,ha⟩
   ·have z':=(qay hb).symm.trans z;cases z'
  ·by_cases hb:b=a
   ·exact hb
   ·exact absurd (qay hb) z
abbrev KOf{K:qac}{h:Heap}(_:K.In h):qac:=K
def walk_of{l:PySem.W.OpenLaw}{n k:Nat}{q:Program}{loose:List Str}{XP:(Str->Option Value)->Heap->Prop}{YP:World->Heap->Prop}{d:DefRec}{K:Params->qac}{CX:World->CXT}{sp:World->Sp}{x:Str}
  (hn:l.most=some n) (hn2:n<=sizeLine) (hdf:d.params.defaults=[]) (hr:Room k callerA) (hi:PyProof.Rows.importsNone q=true) (htr:l.prog.given.tree=none)
  (hY:∀(w:World) (h:Heap),YP w h->(K w.params).In h)
  (F:∀(w:World) (mg:Str->Option Value) (fa:Addr) (h:Heap),(K w.params).In h->h.Ns mainGlobals mg->mg d.name=some (.ref fa) ->
   ∃fd:FuncData,(∀(s:Shared) (u:Value),BindsTo s fd ⟨[u],[]⟩ [(x,u)]) /\
    ∀base:Heap,(K w.params).In base->base.Ns mainGlobals mg->FnOk l.prog w (K w.params) mg base (CX w) k fa fd [x] (sp w))
  (hsp:∀(w:World) (H:Hp) (a:Addr) (ns:List Int),ns.length<=n->Only H->SqL (K w.params) H a (ns.map V.int)->sp w [.ref a] H (fun v _=>v=.bl true) fun _ _ _=>False)
  (hCX:∀(w:World) (H:Hp) (s:Shared) (e:Value) (s':Shared),CX w [] H s (fun _ _ _=>False) e s'->False) :
  PySem.W.WalkO q loose XP YP l.row.toRowW d [] (fun f vs=>PySem.call f vs):=by
 refine Att.sF hn hdf fun w s₀ s₁ mg mb fa o pm cd doc a vs ns G Y ho hd hcd hmg hobj hints hlen hg=>?_;have KX:=hY w _ Y;obtain⟨fd,hb,hF⟩:=F w mg fa _ KX G.T.g hmg;exact wT KX G.T.g G.T.b G.T.builtins G.T.nolimit (G.T.seer hi) htr hg hobj hints (qaI hlen hn2) hr hF hb (fun H hO hS=>hsp w H a ns hlen hO hS) fun H e s'=>hCX w H s₁ e s'
def gr(s:Stmt):Arguments:=match s with
 | .FunctionDef _ a _ _ _ _ _ _ _ _=>a
 | _=>{ posonlyargs:=[],args:=[],vararg:=none,kwonlyargs:=[],kw_defaults:=[],kwarg:=none,defaults:=[]}
def aK(s:Stmt):List Stmt:=match s with
 | .FunctionDef _ _ b _ _ _ _ _ _ _=>b
 | _=>[]
def aN(s:Stmt):Scope:=match s with
 | .FunctionDef _ _ _ _ _ _ sc _ _ _=>sc
 | _=>{ kind:=.function,names:=[],isGenerator:=false,isCoroutine:=false}
structure Fun (K:qac) (x qual:Str) (st:Stmt) (f:Addr) (fd:FuncData):Prop where
 ex:∃(oc:Value) (od:Option Addr) (kV doc pm:Value) (an:Option Addr) (cdv ct:Value) (osl:Array (Option Value)),
  fd=PySem.W.fnOf x qual (gr st) (aK st) (aN st) .none kV doc pm an cdv ct/\K.lookup f=some ⟨oc,od,.func fd,osl⟩/\PySem.W.codeIn K cdv qual=true
 kp:PySem.W.keepIn K (.ref f)=true
section
variable {P:Program} {w:World} {K:qac} {mg:Str→Option Value} {base:Heap}
def Fun.binds{x qual:Str}{st:Stmt}{f:Addr}{fd:FuncData}{ps:List Str}(F:Fun K x qual st f fd)
  (h:∀(kV doc pm:Value) (an:Option Addr) (cdv ct:Value) (us:List Value),us.length=ps.length->bindArgs (PySem.W.fnOf x qual (gr st) (aK st) (aN st) .none kV doc pm an cdv ct) ⟨us,[]⟩=pure (ps.zip us)):nA K fd ps []:=by
 obtain⟨oc,od,kV,doc,pm,an,cdv,ct,osl,rfl,lk,hcd⟩:=F.ex;exact .all (h kV doc pm an cdv ct)
def fun_mk{x qual:Str}{st:Stmt}{f:Addr}{oc:Value}{od an:Option Addr}{osl:Array (Option Value)}{kV doc pm cdv ct:Value}(l:K.lookup f=some ⟨oc,od,.func (PySem.W.fnOf x qual (gr st) (aK st) (aN st) .none kV doc pm an cdv ct),osl⟩)
  (c:PySem.W.codeIn K cdv qual=true) (k:PySem.W.keepIn K (.ref f)=true):Fun K x qual st f (PySem.W.fnOf x qual (gr st) (aK st) (aN st) .none kV doc pm an cdv ct):=⟨⟨oc,od,kV,doc,pm,an,cdv,ct,osl,rfl,l,c⟩,k⟩
end
section
variable {X:Cx}
end
end L2
namespace MM
open PySem PySem.Spec PyProof.Rows L2
inductive PV where
 | non | bl (b:Bool) | int (i:Int) | str (x:Str) | tup (xs:List PV) | frl (xs:List PV) | loc (n:Nat)
structure MExc where
 cls:Str
 fs:List (Str × PV):=[]
inductive MO where
 | lst (xs:List PV)
 | dic (fz:Bool) (ks:List Int) (xs:List PV)
 | exc (x:MExc)
def MO.fzd:MO->Bool
 | .dic fz _ _=>fz
 | _=>false
abbrev MH:=List MO
abbrev PSt:=List (Option PV)
inductive Out (α:Type) where
 | ok (a:α) (h:MH)
 | exc (x:MExc) (h:MH)
 | bad
def Out.bind{α β:Type}(o:Out α)(f:α->MH->Out β):Out β:=match o with
 | .ok a h=>f a h
 | .exc x h=>.exc x h
 | .bad=>.bad
@[simp] theorem Out.bind_ok(a:α)(h:MH)(f:α->MH->Out β):(Out.ok a h).bind f=f a h:=rfl
@[simp] theorem Out.bind_exc(x:MExc)(h:MH)(f:α->MH->Out β):(Out.exc x h).bind f=.exc x h:=rfl
@[simp] theorem Out.bind_bad(f:α->MH->Out β):(Out.bad:Out α).bind f=.bad:=rfl
inductive SOut where
 | nx (σ:PSt) (h:MH)
 | rt (v:PV) (h:MH)
 | bk (σ:PSt) (h:MH)
 | ct (σ:PSt) (h:MH)
 | exc (x:MExc) (σ:PSt) (h:MH)
 | rse (x:MExc) (σ:PSt) (h:MH)
 | bad
def Out.ne{α:Type}(o:Out α):Out α:=match o with
 | .exc _ _=>.bad
 | o=>o
@[simp] theorem Out.ne_ok(a:α)(h:MH):(Out.ok a h).ne=.ok a h:=rfl
@[simp] theorem Out.ne_bad:(Out.bad:Out α).ne=.bad:=rfl
@[simp] theorem Out.ne_ne(o:Out α):o.ne.ne=o.ne:=by cases o <;> rfl
def SqF(K:qac)(H:Hp)(a:Addr)(ys:List V):Prop :=
 (∃o,H a=some (.frz o (.lst ys))) \/
  ∃(o:Obj) (its:Array Value) (n:Nat),K.lookup a=some o/\o.cls=.type "list"/\o.dict=none/\o.data=.seq its n/\its.size<=sizeLine/\aJ ys its.toList
def SqF.sq{K:qac}{H:Hp}{a:Addr}{ys:List V}(h:SqF K H a ys):SqL K H a ys:=by
 rcases h with h|h
 ·exact .inl (.inr h)
 ·exact .inr h
mutual
inductive RP (K:qac) (ρ:List Addr) (H:Hp):PV->V->Prop where
 | non:RP K ρ H .non .non
 | bl (b:Bool):RP K ρ H (.bl b) (.bl b)
 | int (i:Int):RP K ρ H (.int i) (.int i)
 | str (x:Str):RP K ρ H (.str x) (.str x)
 | tup {xs:List PV} {a:Addr} {ys:List V} (s:SqT K H a ys) (r:RPs K ρ H xs ys):RP K ρ H (.tup xs) (.ref a)
 | frl {xs:List PV} {a:Addr} {ys:List V} (s:SqF K H a ys) (r:RPs K ρ H xs ys):RP K ρ H (.frl xs) (.ref a)
 | loc {n:Nat} {a:Addr} (e:ρ[n]?=some a):RP K ρ H (.loc n) (.ref a)
inductive RPs (K:qac) (ρ:List Addr) (H:Hp):List PV->List V->Prop where
 | nil:RPs K ρ H [] []
 | cons {x:PV} {y:V} {xs:List PV} {ys:List V} (r:RP K ρ H x y) (t:RPs K ρ H xs ys):RPs K ρ H (x::xs) (y::ys)
end
structure Le (ρ:List Addr) (H:Hp) (ρ':List Addr) (H':Hp):Prop where
 pre:∃m,ρ'=ρ++m
 tup:∀a xs,H a=some (.tup xs)->H' a=some (.tup xs)
 frz:∀a o u,H a=some (.frz o u)->H' a=some (.frz o u)
def Le.refl(ρ:List Addr)(H:Hp):Le ρ H ρ H:=⟨⟨[],by simp⟩,fun _ _ h=>h,fun _ _ _ h=>h⟩
def Le.trans(a:Le ρ H ρ1 H1)(b:Le ρ1 H1 ρ2 H2):Le ρ H ρ2 H2:=by
 obtain⟨m,e⟩:=a.pre;obtain⟨m',e'⟩:=b.pre;exact⟨⟨m++m',by rw[e',e,List.append_assoc]⟩,fun c xs h=>b.tup c xs (a.tup c xs h),fun c o u h=>b.frz c o u (a.frz c o u h)⟩
def Le.get{ρ ρ':List Addr}{H H':Hp}(l:Le ρ H ρ' H'){n:Nat}{a:Addr}(e:ρ[n]?=some a):ρ'[n]?=some a:=by
 obtain⟨m,e'⟩:=l.pre;rw[e',qal (qaf.mp e).1];exact e
def Le.sqt{K:qac}{ρ ρ':List Addr}{H H':Hp}(l:Le ρ H ρ' H'){a:Addr}{xs:List V}(h:SqT K H a xs):SqT K H' a xs:=by
 rcases h with (h|⟨o,h⟩)|h
 ·exact .inl (.inl (l.tup _ _ h))
 ·exact .inl (.inr ⟨o,l.frz _ _ _ h⟩)
 ·exact .inr h
def Le.sqf{K:qac}{ρ ρ':List Addr}{H H':Hp}(l:Le ρ H ρ' H'){a:Addr}{xs:List V}(h:SqF K H a xs):SqF K H' a xs:=by
 rcases h with ⟨o,h⟩|h
 ·exact .inl ⟨o,l.frz _ _ _ h⟩
 ·exact .inr h
section
variable {K:qac} {ρ ρ':List Addr} {H H':Hp}
def RP.le(l:Le ρ H ρ' H'){x:PV}{y:V}(r:RP K ρ H x y):RP K ρ' H' x y :=
 RP.rec (motive_1:=fun x y _=>RP K ρ' H' x y) (motive_2:=fun x y _=>RPs K ρ' H' x y) .non .bl .int .str (fun s _ i=>.tup (l.sqt s) i) (fun s _ i=>.frl (l.sqf s) i) (fun e=>.loc (l.get e)) .nil (fun _ _ a b=>.cons a b) r
def RPs.le(l:Le ρ H ρ' H')(r:RPs K ρ H xs ys):RPs K ρ' H' xs ys:=by
 induction xs generalizing ys with
 | nil=>cases r;exact .nil
 | cons x xs ih=>cases r with | cons a t=>exact .cons (a.le l) (ih t)
def RPs.length(r:RPs K ρ H xs ys):xs.length=ys.length:=by
 induction xs generalizing ys with
 | nil=>cases r;rfl
 | cons x xs ih=>cases r with | cons a t=>exact congrArg (·+1) (ih t)
def RPs.get{xs:List PV}{ys:List V}{i:Nat}{x:PV}(r:RPs K ρ H xs ys)(e:xs[i]?=some x):∃y,ys[i]?=some y/\RP K ρ H x y:=by
 induction xs generalizing ys i with
 | nil=>cases e
 | cons x xs ih =>
  cases r with
  | cons a t =>
   cases i with
   | zero=>cases e;exact⟨_,rfl,a⟩
   | succ i=>have z:=@ih _ i t e;exact z
def RPs.set(r:RP K ρ H x u)(i:Nat)(q:RPs K ρ H xs us):RPs K ρ H (xs.set i x) (us.set i u):=by
 induction xs generalizing us i with
 | nil=>cases q;exact .nil
 | cons x xs ih =>
  cases q with
  | cons a t =>
   cases i with
   | zero=>exact .cons r t
   | succ i=>exact .cons a (ih i t)
def RPs.append(r:RPs K ρ H xs us)(s:RPs K ρ H ys ws):RPs K ρ H (xs++ys) (us++ws):=by
 induction xs generalizing us with
 | nil=>cases r;exact s
 | cons x xs ih=>cases r with | cons a t=>exact .cons a (ih t)
def RPs.take(n:Nat)(r:RPs K ρ H xs us):RPs K ρ H (xs.take n) (us.take n):=by
 induction n generalizing xs us with
 | zero=>exact .nil
 | succ n ih =>
  cases xs with
  | nil=>cases r;exact .nil
  | cons x xs=>cases r with | cons a t=>exact .cons a (ih t)
def RPs.drop(n:Nat)(r:RPs K ρ H xs us):RPs K ρ H (xs.drop n) (us.drop n):=by
 induction n generalizing xs us with
 | zero=>exact r
 | succ n ih =>
  cases xs with
  | nil=>cases r;exact .nil
  | cons x xs=>cases r with | cons a t=>exact ih t
def RPs.ints:∀(ns:List Int),RPs K ρ H (ns.map PV.int) (ns.map V.int)
 | []=>.nil
 | n::r=>.cons (.int n) (RPs.ints r)
end
def ExcAt(a C:Addr)(h:Heap):Prop:=∃o vs,h.get? a=some o/\o.cls=.ref C/\o.data=.fields vs
abbrev MGl:=Str->Option Value
def kz(ks:List Int)(ys:List V):List (Key × V):=(ks.map Sum.inl).zip ys
def dO(fz:Bool)(oh:Option HO)(u:HO):Prop:=match fz with
 | false=>oh=some u
 | true=>∃o,oh=some (.frz o u)
def RO(K:qac)(mg:MGl)(ρ:List Addr)(H:Hp)(a:Addr):MO->Option HO->Prop
 | .lst xs,oh=>∃ys,oh=some (.lst ys)/\RPs K ρ H xs ys
 | .dic fz ks xs,oh=>∃ys:List V,ys.length=ks.length/\RPs K ρ H xs ys/\dO fz oh (.dK (kz ks ys))
 | .exc x,oh=>x.fs=[]/\∃C,mg x.cls=some (.ref C)/\oh=some (.ext (ExcAt a C))
def ic{fz:Bool}{P:Program}{w:World}{H:Hp}{h:Heap}{a:Addr}{kvs:List (Key × V)}(ok:HOk P w H h)(e:dO fz (H a) (.dK kvs)):kvs.length<=sizeLine/\(a == sysModules)=false/\∃vs,KV kvs vs/\h.DictOf (cy P w) a vs:=by
 cases fz with
 | false=>exact (show ObjOk P w H h a (.dK kvs) from ok a _ e)
 | true =>
  obtain⟨o,e⟩:=e;exact (show ObjOk P w H h a (.frz o (.dK kvs)) from ok a _ e).2
structure RH (K:qac) (mg:MGl) (ρ:List Addr) (H:Hp) (h:MH):Prop where
 len:ρ.length=h.length
 nd:ρ.Nodup
 at':∀(n:Nat) (a:Addr) (o:MO),ρ[n]?=some a->h[n]?=some o->RO K mg ρ H a o (H a)
def RO.le{K:qac}{mg:MGl}{ρ ρ':List Addr}{H H':Hp}{a:Addr}(l:Le ρ H ρ' H'){o:MO}{oh:Option HO}(r:RO K mg ρ H a o oh):RO K mg ρ' H' a o oh:=by
 cases o with
 | lst xs=>obtain⟨ys,e,r⟩:=r;exact⟨ys,e,r.le l⟩
 | dic fz ks xs=>obtain⟨ys,e,r,q⟩:=r;exact⟨ys,e,r.le l,q⟩
 | exc x=>exact r
def RO.some{K:qac}{mg:MGl}{ρ:List Addr}{H:Hp}{a:Addr}{o:MO}{oh:Option HO}(r:RO K mg ρ H a o oh):oh≠none:=by
 cases o with
 | lst xs=>obtain⟨ys,e,_⟩:=r;rw[e];simp
 | dic fz ks xs =>
  obtain⟨ys,_,_,q⟩:=r
  cases fz with
  | false=>rw[show oh=_ from q];simp
  | true=>obtain⟨o,q⟩:=q;rw[q];simp
 | exc x=>obtain⟨_,C,_,e⟩:=r;rw[e];simp
def RO.plain{K:qac}{mg:MGl}{ρ:List Addr}{H:Hp}{a:Addr}{o:MO}{oh:Option HO}(r:RO K mg ρ H a o oh)(hf:o.fzd=false):(∀xs,oh≠Option.some (.tup xs))/\∀p u,oh≠Option.some (.frz p u):=by
 cases o with
 | lst xs=>obtain⟨ys,e,_⟩:=r;rw[e];exact⟨(fun _ z=>nomatch z),(fun _ _ z=>nomatch z)⟩
 | dic fz ks xs =>
  obtain⟨ys,_,_,q⟩:=r
  cases fz with
  | false=>rw[show oh=_ from q];exact⟨(fun _ z=>nomatch z),(fun _ _ z=>nomatch z)⟩
  | true=>cases hf
 | exc x=>obtain⟨_,C,_,e⟩:=r;rw[e];exact⟨(fun _ z=>nomatch z),(fun _ _ z=>nomatch z)⟩
section
variable {K:qac} {mg:MGl} {ρ:List Addr} {H:Hp} {h:MH}
def RH.obj(r:RH K mg ρ H h){n:Nat}{a:Addr}(e:ρ[n]?=some a):∃o,h[n]?=some o/\RO K mg ρ H a o (H a):=by
 have hn:n<h.length:=by rw[<-r.len];exact (qaf.mp e).1
 exact⟨h[n],by simp[hn],r.at' n a _ e (by simp[hn])⟩
def RH.new(r:RH K mg ρ H h){p:Addr}(hp:H p=none){o:MO}{ho:HO}(hn:RO K mg ρ H p o (some ho)):RH K mg (ρ++[p]) (upd H p ho) (h++[o])/\Le ρ H (ρ++[p]) (upd H p ho):=by
 have hne:∀n a,ρ[n]?=some a->a≠p:=fun n a e z=>by
  obtain⟨o',_,q⟩:=r.obj e;rw[z,hp] at q;exact q.some rfl
 have l:Le ρ H (ρ++[p]) (upd H p ho):=⟨⟨[p],rfl⟩,fun a xs e=>by rw[aW (bF e hp)];exact e,fun a ob u e=>by rw[aW (bF e hp)];exact e⟩;refine⟨⟨by simp[r.len],?_,fun n a o' e1 e2=>?_⟩,l⟩
 ·rw[List.nodup_append];refine⟨r.nd,by simp,fun a ha b hb=>?_⟩;obtain⟨n,e⟩:=qbm.mp ha;have hb':b=p:=by simpa using hb
  rw[hb'];exact hne n a e
 ·by_cases hlt:n<ρ.length
  ·rw[qal hlt] at e1;rw[qal (by rw[<-r.len];exact hlt)] at e2;rw[aW (hne n a e1)];exact (r.at' n a o' e1 e2).le l
  ·rw[qaE (by lia)] at e1;rw[qaE (by rw[<-r.len];lia)] at e2;have hn0:n - ρ.length=0:=by
    rcases qbW (n - ρ.length) with z|z
    ·exact z
    ·rw[qbB (by simp;lia)] at e1;cases e1
   rw[hn0] at e1;have hn1:n - h.length=0:=by have:=r.len;lia
   rw[hn1] at e2;simp at e1 e2;subst e1;subst e2;rw[bY];exact hn.le l
def RH.put(r:RH K mg ρ H h){n:Nat}{a:Addr}(e:ρ[n]?=some a){o:MO}{ho:HO}(hn:RO K mg ρ H a o (some ho))(hd:∃o0,h[n]?=some o0/\o0.fzd=false:=by exact⟨_,by assumption,rfl⟩):RH K mg ρ (upd H a ho) (h.set n o)/\Le ρ H ρ (upd H a ho):=by
 obtain⟨o0,eo,q⟩:=r.obj e;obtain⟨o1,eo1,hf⟩:=hd;rw[eo1] at eo;cases eo;obtain⟨q1,q2⟩:=q.plain hf
 have l:Le ρ H ρ (upd H a ho):=⟨⟨[],by simp⟩,fun b xs z=>by
   have:b≠a:=by rintro rfl;exact q1 _ z
   rw[aW this];exact z,fun b ob u z=>by
   have:b≠a:=by rintro rfl;exact q2 _ _ z
   rw[aW this];exact z⟩
 refine⟨⟨by simp[r.len],r.nd,fun m b o' e1 e2=>?_⟩,l⟩;by_cases hm:m=n
 ·subst hm;rw[e] at e1;cases e1;rw[bY]
  have:m<h.length:=by rw[<-r.len];exact (qaf.mp e).1
  rw[qaA this] at e2;cases e2;exact hn.le l
 ·rw[qae (fun z=>hm z.symm)] at e2;have hb:b≠a:=by
   rintro rfl;have h1:=qaf.mp e;have h2:=qaf.mp e1;obtain⟨l1,g1⟩:=h1;obtain⟨l2,g2⟩:=h2;exact hm ((List.getElem_inj r.nd).mp (g2.trans g1.symm))
  rw[aW hb];exact (r.at' m b o' e1 e2).le l
def RH.tup(r:RH K mg ρ H h){p:Addr}(hp:H p=none)(ys:List V):RH K mg ρ (upd H p (.tup ys)) h/\Le ρ H ρ (upd H p (.tup ys)):=by
 have hne:∀n a,ρ[n]?=some a->a≠p:=fun n a e z=>by
  obtain⟨o',_,q⟩:=r.obj e;rw[z,hp] at q;exact q.some rfl
 have l:Le ρ H ρ (upd H p (.tup ys)):=⟨⟨[],by simp⟩,fun a xs e=>by rw[aW (bF e hp)];exact e,fun a ob u e=>by rw[aW (bF e hp)];exact e⟩;exact⟨⟨r.len,r.nd,fun n a o e1 e2=>by rw[aW (hne n a e1)];exact (r.at' n a o e1 e2).le l⟩,l⟩
end
def RS(K:qac)(ρ:List Addr)(H:Hp)(σp:PSt)(σ:L2.St):Prop :=
 σ.length=σp.length/\∀(i:Nat) (v:PV),σp[i]?=some (some v)->∃v',σ[i]?=some (some v')/\RP K ρ H v v'
def RS.le{K:qac}{ρ ρ':List Addr}{H H':Hp}{σp:PSt}{σ:L2.St}(l:Le ρ H ρ' H')(r:RS K ρ H σp σ):RS K ρ' H' σp σ :=
 ⟨r.1,fun i v e=>by obtain⟨v',e',q⟩:=r.2 i v e;exact⟨v',e',q.le l⟩⟩
def RS.set{K:qac}{ρ:List Addr}{H:Hp}{σp:PSt}{σ:L2.St}(r:RS K ρ H σp σ)(i:Nat){v:PV}{v':V}(q:RP K ρ H v v'):RS K ρ H (σp.set i (some v)) (σ.set i (some v')):=by
 refine⟨by simp[r.1],fun j u e=>?_⟩;by_cases hj:j=i
 ·subst hj;by_cases hl:j<σp.length
  ·rw[qaA hl] at e;cases e;exact⟨v',qaA (by rw[r.1];exact hl),q⟩
  ·rw[qbB (by simp;lia)] at e;cases e
 ·rw[qae (fun z=>hj z.symm)] at e;obtain⟨u',e',q'⟩:=r.2 j u e;exact⟨u',by rw[qae (fun z=>hj z.symm)];exact e',q'⟩
def Cov(B:Heap)(fs:List Addr)(h:Heap):Prop:=∀b o,h.get? b=some o->b∉fs->∃ob,B.get? b=some ob
def Fly(l:List Env)(H:Hp)(lim:Heap)(C ea:Addr)(h:Heap):Prop :=
 ∃B t,Heap.FlyingW B l ea (.ref C) (.ref t) h/\(∀b o,H b=some o->∃ob,B.get? b=some ob)/\Cov B (frs l) lim/\H ea=none
structure Bears (X:Cx) (h:Heap):Prop where
 old:∀b o,X.s₀.heap.get? b=some o->b∉X.ex->∃o',h.get? b=some o'
 cell:∀x c,X.env.cells.lookup x=some c->∃o,h.get? c=some o
 pin:∀p∈X.pn,∃o,h.get? p.1=some o
def Inv.bears{X:Cx}{F6:List (Addr × Obj)}{σ:L2.St}{H:Hp}{s:Shared}(I:Inv X F6 σ H s):Bears X s.heap :=
 ⟨fun b o e n=>I.base.there b o e n,fun x c e=>let ⟨_,o,eo,_⟩:=I.cell x c e;⟨o,eo⟩,fun p hp=>⟨_,(I.pin p (qaV _ hp)).1⟩⟩
def XP(X:Cx)(σp:PSt)(ρ:List Addr)(H:Hp)(x:MExc)(h:MH):Prop:=∀(ea C:Addr) (ρ':List Addr) (H':Hp) (σ':L2.St) (s':Shared) (lim:Heap),x.fs=[]->X.mg x.cls=some (.ref C)->Le ρ H ρ' H'->RH X.K X.mg ρ' H' h->RS X.K ρ' H' σp σ' ->
 Inv X [] σ' H' s'->Bears X lim->Fly X.stack H' lim C ea s'.heap->X.xe (.ref ea) s'
def XM(X:Cx)(σp:PSt)(ρ:List Addr)(H:Hp)(x:MExc)(h:MH):Prop:=∀(ea C:Addr) (ρ':List Addr) (H':Hp) (σ':L2.St) (s':Shared) (h0:Heap) (args:List Value),x.fs=[]->X.mg x.cls=some (.ref C)->Le ρ H ρ' H'->RH X.K X.mg ρ' H' h->RS X.K ρ' H' σp σ' ->
 Inv X [] σ' H' { s' with heap:=h0}->Heap.MadeExcOf h0 s'.heap ea (.ref C) args->X.xe (.ref ea) s'
def XP.le(l:Le ρ H ρ' H')(q:XP X σp ρ H x h):XP X σp ρ' H' x h :=
 fun ea C ρ2 H2 σ2 s2 lim e1 e2 l2=>q ea C ρ2 H2 σ2 s2 lim e1 e2 (l.trans l2)
def XM.le(l:Le ρ H ρ' H')(q:XM X σp ρ H x h):XM X σp ρ' H' x h :=
 fun ea C ρ2 H2 σ2 s2 lim args e1 e2 l2=>q ea C ρ2 H2 σ2 s2 lim args e1 e2 (l.trans l2)
abbrev Rl(α β:Type):=List Addr->Hp->α->β->Prop
def Ful{α β:Type}(X:Cx)(R:Rl α β)(σp:PSt)(ρ:List Addr)(H:Hp)(o:Out α)(Q:β->Hp->Prop):Prop:=match o with
 | .ok v h'=>∀ρ' H' v',Le ρ H ρ' H'->RH X.K X.mg ρ' H' h'->R ρ' H' v v'->Q v' H'
 | .exc x h'=>XP X σp ρ H x h'
 | .bad=>False
def ir{α β:Type}(X:Cx)(R:Rl α β)(ρ:List Addr)(H:Hp)(o:Out α)(Q:β->Hp->Prop):Prop:=match o with
 | .ok v h'=>∀ρ' H' v',Le ρ H ρ' H'->RH X.K X.mg ρ' H' h'->R ρ' H' v v'->Q v' H'
 | _=>False
def Ful.zero(f:Ful X R σp ρ H o.ne Q):ir X R ρ H o Q:=by
 cases o with
 | ok v h=>exact f
 | exc x h=>exact f
 | bad=>exact f
def Ful.le(l:Le ρ H ρ1 H1)(f:Ful X R σp ρ H o Q):Ful X R σp ρ1 H1 o Q:=by
 cases o with
 | ok v h=>exact fun ρ' H' v' l'=>f ρ' H' v' (l.trans l')
 | exc x h=>exact XP.le (X:=X) (σp:=σp) (x:=x) (h:=h) l f
 | bad=>exact f
def Ful.bind{α β γ δ:Type}{X:Cx}{R:Rl α β}{S:Rl γ δ}{σp:PSt}{ρ:List Addr}{H:Hp}{o:Out α}{f:α->MH->Out γ}{Q:δ->Hp->Prop}{Q':β->Hp->Prop}(q:Ful X S σp ρ H (o.bind f) Q)
  (k:∀ρ1 H1 v v' h1,o=.ok v h1->Le ρ H ρ1 H1->RH X.K X.mg ρ1 H1 h1->R ρ1 H1 v v'->Ful X S σp ρ1 H1 (f v h1) Q->Q' v' H1):Ful X R σp ρ H o Q':=by
 cases o with
 | ok v h=>exact fun ρ' H' v' l r w=>k ρ' H' v v' h rfl l r w (Ful.le l q)
 | exc x h=>exact q
 | bad=>exact q
abbrev RV'(X:Cx):Rl PV V:=fun ρ H=>RP X.K ρ H
abbrev RVs'(X:Cx):Rl (List PV) (List V):=fun ρ H=>RPs X.K ρ H
abbrev REq{α:Type}:Rl α α:=fun _ _ x y=>x=y
abbrev Mx(α:Type):=PSt->MH->Out α
inductive tM {α β:Type} (X:Cx) (R:Rl α β) (m:Mx α) (σ:L2.St) (H:Hp) (Q:β->Hp->Prop):Prop
 | mk (ρ:List Addr) (σp:PSt) (h:MH) (rs:RS X.K ρ H σp σ) (rh:RH X.K X.mg ρ H h) (q:Ful X R σp ρ H (m σp h) Q):tM X R m σ H Q
def ME(X:Cx)(e:Expr)(m:Mx PV):Prop:=PE X e (tM X (RV' X) m)
def MT(X:Cx)(e:Expr)(m:Mx Bool):Prop:=PT X e (tM X REq m)
def MW(X:Cx)(e:Expr)(m:Mx Bool):Prop:=PW X e (tM X REq m)
def MA(X:Cx)(es:List Expr)(m:Mx (List PV)):Prop:=PA X es (tM X (RVs' X) m)
def PE.imp(h:PE X e t)(i:∀σ H Q,t' σ H Q->t σ H Q):PE X e t':=fun F6 s σ H Q I q=>h F6 s σ H Q I (i σ H Q q)
def PT.imp(h:PT X e t)(i:∀σ H Q,t' σ H Q->t σ H Q):PT X e t':=fun F6 s σ H Q I q=>h F6 s σ H Q I (i σ H Q q)
def PW.imp(h:PW X e t)(i:∀σ H Q,t' σ H Q->t σ H Q):PW X e t':=fun whole F6 s σ H Q I q=>h whole F6 s σ H Q I (i σ H Q q)
def PA.imp(h:PA X e t)(i:∀σ H Q,t' σ H Q->t σ H Q):PA X e t':=fun pos F6 s σ H Q I q=>h pos F6 s σ H Q I (i σ H Q q)
def PS.imp(h:PS X e t)(i:∀D σ H,t' D σ H->t D σ H):PS X e t':=fun F6 s σ H D I q=>h F6 s σ H D I (i D σ H q)
def PSs.imp(h:PSs X e t)(i:∀D σ H,t' D σ H->t D σ H):PSs X e t':=fun F6 s σ H D I q=>h F6 s σ H D I (i D σ H q)
def bi(X:Cx)(ρ:List Addr)(H:Hp)(o:SOut)(D:Ends):Prop:=match o with
 | .nx σp h'=>∀ρ' H' σ',Le ρ H ρ' H'->RH X.K X.mg ρ' H' h'->RS X.K ρ' H' σp σ'->D.nx σ' H'
 | .bk σp h'=>∀ρ' H' σ',Le ρ H ρ' H'->RH X.K X.mg ρ' H' h'->RS X.K ρ' H' σp σ'->D.bk σ' H'
 | .ct σp h'=>∀ρ' H' σ',Le ρ H ρ' H'->RH X.K X.mg ρ' H' h'->RS X.K ρ' H' σp σ'->D.ct σ' H'
 | .rt v h'=>∀ρ' H' v',Le ρ H ρ' H'->RH X.K X.mg ρ' H' h'->RP X.K ρ' H' v v'->D.rt v' H'
 | .exc x σp h'=>XP X σp ρ H x h'
 | .rse x σp h'=>XM X σp ρ H x h'
 | .bad=>False
def bi.le(l:Le ρ H ρ1 H1)(f:bi X ρ H o D):bi X ρ1 H1 o D:=by
 cases o with
 | nx σp h=>exact fun ρ' H' v' l'=>f ρ' H' v' (l.trans l')
 | bk σp h=>exact fun ρ' H' v' l'=>f ρ' H' v' (l.trans l')
 | ct σp h=>exact fun ρ' H' v' l'=>f ρ' H' v' (l.trans l')
 | rt v h=>exact fun ρ' H' v' l'=>f ρ' H' v' (l.trans l')
 | exc x σp h=>exact XP.le (X:=X) (σp:=σp) (x:=x) (h:=h) l f
 | rse x σp h=>exact XM.le (X:=X) (σp:=σp) (x:=x) (h:=h) l f
 | bad=>exact f
abbrev Mst:=PSt->MH->SOut
inductive tMS (X:Cx) (m:Mst) (D:Ends) (σ:L2.St) (H:Hp):Prop
 | mk (ρ:List Addr) (σp:PSt) (h:MH) (rs:RS X.K ρ H σp σ) (rh:RH X.K X.mg ρ H h) (q:bi X ρ H (m σp h) D):tMS X m D σ H
def MS(X:Cx)(st:Stmt)(m:Mst):Prop:=PS X st (tMS X m)
def MSs(X:Cx)(st:List Stmt)(m:Mst):Prop:=PSs X st (tMS X m)
section
variable {X:Cx} {N W G:List Str} {k:Nat}
structure Good (X:Cx) (N W G:List Str) (k:Nat):Prop where
 hN:X.N=N
 nd:N.Nodup
 loc:∀x∈N,Loc X.env.scope x
 fn:∀x∈W,X.fn x=true\/X.env.scope.names.lookup x=some .local
 gl:∀x∈G,Gl X x
 dbg:∀x∈N++G,(x == ("__debug__":Str))=false/\(x == ("__classdict__":Str))=false/\x≠"__name__"
 calm:X.calm=true
 room:Room k X.A
 po:PassesOwn (model X.prog X.w) X.A X.env X.xe
def Good.x(g:Good X N W G k){i:Nat}{x:Str}(hi:N[i]?=some x):X.N[i]?=some x:=by rw[g.hN];exact hi
def aX{l:List Str}{i:Nat}{x:Str}(hi:l[i]?=some x):x∈l:=qbq hi
def rJ(X:Cx)(g:PV->PV->MH->Out PV):R2:=fun x' y' H Q=>∃ρ h x y,RH X.K X.mg ρ H h/\RP X.K ρ H x x'/\RP X.K ρ H y y'/\ir X (RV' X) ρ H (g x y h) Q
abbrev OpJ(X:Cx)(f:Value->Value->Sem Value)(g:PV->PV->MH->Out PV):Prop:=OpR X f (rJ X g)
def uJ(X:Cx)(g:PV->MH->Out PV):V->Hp->VK->Prop:=fun x' H Q=>∃ρ h x,RH X.K X.mg ρ H h/\RP X.K ρ H x x'/\ir X (RV' X) ρ H (g x h) Q
abbrev UnJ(X:Cx)(f:Value->Sem Value)(g:PV->MH->Out PV):Prop:=UnR X f (uJ X g)
def cJ(X:Cx)(g:List PV->MH->Out PV):List V->Hp->VK->Prop:=fun xs' H Q=>∃ρ h xs,RH X.K X.mg ρ H h/\RPs X.K ρ H xs xs'/\ir X (RV' X) ρ H (g xs h) Q
abbrev dC(X:Cx)(f:Value)(g:List PV->MH->Out PV):Prop:=dG X f (cJ X g)
def ae(i:Nat):Mx PV:=fun σ h=>match σ[i]? with
 | some (some v)=>.ok v h
 | _=>.bad
def mC(v:PV):Mx PV:=fun _ h=>.ok v h
def me_var(g:Good X N W G k)(i:Nat){x:Str}{pos:Pos}(hi:N[i]?=some x):ME X (.Name x pos) (ae i):=by
 have d:=g.dbg x (qaV _ (aX hi));have hv:Vis X.env.scope x:=by
  rcases g.loc x (aX hi) with q|q
  ·exact .inl q
  ·exact .inr (.inl q)
 refine PE.imp (pe_var (g.x hi) hv d.1 d.2.1) fun σ H Q ⟨ρ,σp,h,rs,rh,f⟩=>?_;unfold ae at f
 cases e:σp[i]? with
 | none=>rw[e] at f;exact f.elim
 | some o =>
  rw[e] at f
  cases o with
  | none=>exact f.elim
  | some v =>
   obtain⟨v',e',r⟩:=rs.2 i v e;exact⟨v',e',f ρ H v' (Le.refl _ _) rh r⟩
def ag:ME X (.Constant (.int i) j pos) (mC (.int i)):=PE.imp pe_int fun _ H _ ⟨ρ,_,_,_,rh,f⟩=>f ρ H _ (Le.refl _ _) rh (.int i)
def gZ:ME X (.Constant (.str i) j pos) (mC (.str i)):=PE.imp pe_str fun _ H _ ⟨ρ,_,_,_,rh,f⟩=>f ρ H _ (Le.refl _ _) rh (.str i)
def eW:ME X (.Constant (.bool i) j pos) (mC (.bl i)):=PE.imp pe_bl fun _ H _ ⟨ρ,_,_,_,rh,f⟩=>f ρ H _ (Le.refl _ _) rh (.bl i)
def ah(f:PV->PV->MH->Out PV)(ma mb:Mx PV):Mx PV:=fun σ h=>(ma σ h).bind fun x h1=>(mb σ h1).bind fun y h2=>(f x y h2).ne
def mUn(f:PV->MH->Out PV)(ma:Mx PV):Mx PV:=fun σ h=>(ma σ h).bind fun x h1=>(f x h1).ne
def qF{f:PV->PV->MH->Out PV}{ma mb:Mx PV}{σ:L2.St}{H:Hp}{Q:VK}(q:tM X (RV' X) (ah f ma mb) σ H Q):tOp (rJ X f) (tM X (RV' X) ma) (tM X (RV' X) mb) σ H Q:=by
 obtain⟨ρ,σp,h,rs,rh,q⟩:=q;refine⟨ρ,σp,h,rs,rh,Ful.bind q fun ρ1 H1 x x' h1 _ l1 rh1 rx q1=>?_⟩;refine⟨ρ1,σp,h1,rs.le l1,rh1,Ful.bind q1 fun ρ2 H2 y y' h2 _ l2 rh2 ry q2=>?_⟩;exact⟨ρ2,h2,x,y,rh2,rx.le l2,ry,q2.zero⟩
def aw(ho:OpJ X (binaryOp op) f)(ha:ME X a ma)(hb:ME X b mb):ME X (.BinOp a op b pos) (ah f ma mb) :=
 PE.imp (pe_op ho ha hb) fun _ _ _ q=>qF q
def me_un(ho:UnJ X (unaryOp op) f)(ha:ME X a ma):ME X (.UnaryOp op a pos) (mUn f ma) :=
 PE.imp (pe_un ho ha) fun _ _ _ ⟨ρ,σp,h,rs,rh,q⟩=>⟨ρ,σp,h,rs,rh,Ful.bind q fun ρ1 H1 x x' h1 _ l1 rh1 rx q1=>⟨ρ1,h1,x,rh1,rx,q1.zero⟩⟩
def me_cmp(ho:OpJ X (compareOp op) f)(ha:ME X a ma)(hb:ME X b mb)(hm:behindInMarks op b=false):ME X (.Compare a [op] [b] pos) (ah f ma mb) :=
 PE.imp (pe_cmpR ho ha hb hm) fun _ _ _ q=>qF q
def mB(m:Mx PV):Mx Bool:=fun σ h=>(m σ h).bind fun v h1=>match v with
 | .bl b=>.ok b h1
 | _=>.bad
def tM_B(q:tM X REq (mB m) σ H Q):tM X (RV' X) m σ H fun x H1=>∃c,x=.bl c/\Q c H1:=by
 obtain⟨ρ,σp,h,rs,rh,q⟩:=q;refine⟨ρ,σp,h,rs,rh,Ful.bind q fun ρ1 H1 x x' h1 _ l1 rh1 rx q1=>?_⟩
 cases rx with
 | bl b=>exact⟨b,rfl,q1 ρ1 H1 b (Le.refl _ _) rh1 rfl⟩
 | _=>exact q1.elim
def mt_cmp(ho:OpJ X (compareOp op) f)(ha:ME X a ma)(hb:ME X b mb)(hm:behindInMarks op b=false):MT X (.Compare a [op] [b] pos) (mB (ah f ma mb)) :=
 PT.imp (pt_cmpR ho ha hb hm) fun σ H Q q=>by
  obtain⟨ρ,σp,h,rs,rh,q⟩:=tM_B q;exact qF (Q:=fun x H'=>∃k,x=.bl k/\Q k H') ⟨ρ,σp,h,rs,rh,q⟩
def dA(h:ME X e m)(he:∀whole,isTrue e X.env whole=(do let v <-whole;standAt e.pos;holding [v] (truthy v)):=by intro _;rfl):MT X e (mB m) :=
 PT.imp (pt_val h he) fun _ _ _ q=>tM_B q
def dN(m:Mx Bool):Mx Bool:=fun σ h=>(m σ h).bind fun b h1=>.ok (!b) h1
def dU(h:MT X e m):MT X (.UnaryOp .Not e pos) (dN m) :=
 PT.imp (pt_not h) fun _ _ _ ⟨ρ,σp,h,rs,rh,q⟩=>⟨ρ,σp,h,rs,rh,Ful.bind q fun ρ1 H1 x x' h1 _ l1 rh1 rx q1=>by
  cases rx;exact q1 ρ1 H1 _ (Le.refl _ _) rh1 rfl⟩
def mOr(a b:Mx Bool):Mx Bool:=fun σ h=>(a σ h).bind fun x h1=>if x=true then .ok true h1 else b σ h1
section
variable {a b:Expr} {rest:List Expr} {ma mb:Mx Bool} {pos:Pos}
def gT(ha:MT X a ma):MW X (.BoolOp .Or [a] pos) ma:=pw_or1 ha
def gf(ha:MT X a ma)(hb:MW X (.BoolOp .Or (b::rest) pos) mb):MW X (.BoolOp .Or (a::b::rest) pos) (mOr ma mb) :=
 PW.imp (pw_or ha hb) fun σ H Q ⟨ρ,σp,h,rs,rh,q⟩=>⟨ρ,σp,h,rs,rh,Ful.bind q fun ρ1 H1 x x' h1 _ l1 rh1 rx q1=>by
  cases rx
  cases x with
  | true=>rw[qan rfl] at q1 ⊢;exact q1 ρ1 H1 _ (Le.refl _ _) rh1 rfl
  | false=>rw[qay qaT] at q1 ⊢;exact⟨ρ1,σp,h1,rs.le l1,rh1,q1⟩⟩
def MW.mt(h:MW X e m):MT X e m:=PW.pt h
end
def ji(a b:Mx PV):Mx PV:=fun σ h=>(a σ h).bind fun x h1=>match x with
 | .bl c=>if c=true then b σ h1 else .ok (.bl false) h1
 | _=>.bad
def pP(a:Mx PV):Mx PV:=fun σ h=>(a σ h).bind fun x h1=>match x with
 | .bl c=>.ok (.bl (!c)) h1
 | _=>.bad
section
variable {a b:Expr} {rest:List Expr} {ma mb:Mx PV} {pos:Pos}
def qj(ha:ME X a ma):ME X (.BoolOp op [a] pos) ma:=pe_one ha
def m4(ha:ME X a ma)(hb:ME X (.BoolOp .And (b::rest) pos) mb):ME X (.BoolOp .And (a::b::rest) pos) (ji ma mb) :=
 PE.imp (pe_and ha hb) fun σ H Q ⟨ρ,σp,h,rs,rh,q⟩=>⟨ρ,σp,h,rs,rh,Ful.bind q fun ρ1 H1 x x' h1 _ l1 rh1 rx q1=>by
  cases rx with
  | bl c =>
   refine⟨c,rfl,?_⟩;dsimp only at q1
   cases c with
   | true=>rw[qan rfl] at q1 ⊢;exact⟨ρ1,σp,h1,rs.le l1,rh1,q1⟩
   | false=>rw[qay qaT] at q1 ⊢;exact q1 ρ1 H1 _ (Le.refl _ _) rh1 (.bl false)
  | _=>exact q1.elim⟩
def me_not(ha:ME X a ma):ME X (.UnaryOp .Not a pos) (pP ma) :=
 PE.imp (pe_not ha) fun σ H Q ⟨ρ,σp,h,rs,rh,q⟩=>⟨ρ,σp,h,rs,rh,Ful.bind q fun ρ1 H1 x x' h1 _ l1 rh1 rx q1=>by
  cases rx with
  | bl c=>exact⟨c,rfl,q1 ρ1 H1 _ (Le.refl _ _) rh1 (.bl _)⟩
  | _=>exact q1.elim⟩
def mIfE(c:Mx Bool)(a b:Mx PV):Mx PV:=fun σ h=>(c σ h).bind fun x h1=>if x=true then a σ h1 else b σ h1
def me_ifE(hc:MT X c mc)(ha:ME X a ma)(hb:ME X b mb):ME X (.IfExp c a b pos) (mIfE mc ma mb) :=
 PE.imp (wU hc ha hb) fun σ H Q ⟨ρ,σp,h,rs,rh,q⟩=>⟨ρ,σp,h,rs,rh,Ful.bind q fun ρ1 H1 x x' h1 _ l1 rh1 rx q1=>by
  cases rx
  cases x with
  | true=>rw[qan rfl] at q1 ⊢;exact⟨ρ1,σp,h1,rs.le l1,rh1,q1⟩
  | false=>rw[qay qaT] at q1 ⊢;exact⟨ρ1,σp,h1,rs.le l1,rh1,q1⟩⟩
end
def mNil:Mx (List PV):=fun _ h=>.ok [] h
def ac(a:Mx PV)(r:Mx (List PV)):Mx (List PV):=fun σ h=>(a σ h).bind fun x h1=>(r σ h1).bind fun xs h2=>.ok (x::xs) h2
def aj:MA X [] mNil:=PA.imp rD fun σ H Q ⟨ρ,σp,h,rs,rh,q⟩=>q ρ H _ (Le.refl _ _) rh .nil
def af(ha:ME X e m)(hr:MA X es ms)(hs:starEach (e::es) X.env=(false,eval e X.env)::starEach es X.env:=by rfl):MA X (e::es) (ac m ms) :=
 PA.imp (kP ha hr hs) fun σ H Q ⟨ρ,σp,h,rs,rh,q⟩=>⟨ρ,σp,h,rs,rh,Ful.bind q fun ρ1 H1 x x' h1 _ l1 rh1 rx q1 =>
  ⟨ρ1,σp,h1,rs.le l1,rh1,Ful.bind q1 fun ρ2 H2 y y' h2 _ l2 rh2 ry q2=>q2 ρ2 H2 _ (Le.refl _ _) rh2 (.cons (rx.le l2) ry)⟩⟩
def newL(xs:List PV)(h:MH):Out PV:=if xs.length<=sizeLine then .ok (.loc h.length) (h++[.lst xs]) else .bad
def newT(xs:List PV)(h:MH):Out PV:=if xs.length<=sizeLine then .ok (.tup xs) h else .bad
def ky{ρ:List Addr}{H:Hp}{h:MH}{xs:List PV}{ys:List V}{Q:VK}(rh:RH X.K X.mg ρ H h)(rs:RPs X.K ρ H xs ys)(f:ir X (RV' X) ρ H (newL xs h) Q):ys.length<=sizeLine/\∀p,H p=none->Q (.ref p) (upd H p (.lst ys)):=by
 unfold newL at f
 split at f
 ·rename_i hl
  refine⟨by rw[<-rs.length];exact hl,fun p hp=>?_⟩;obtain⟨r1,l1⟩:=rh.new hp (o:=.lst xs) (ho:=.lst ys) ⟨ys,rfl,rs⟩;refine f _ _ _ l1 r1 (.loc ?_);rw[<-rh.len];simp
 ·exact f.elim
def sX{ρ:List Addr}{H:Hp}{h:MH}{xs:List PV}{ys:List V}{Q:VK}(rh:RH X.K X.mg ρ H h)(rs:RPs X.K ρ H xs ys)(f:ir X (RV' X) ρ H (newT xs h) Q):ys.length<=sizeLine/\∀p,H p=none->Q (.ref p) (upd H p (.tup ys)):=by
 unfold newT at f
 split at f
 ·rename_i hl
  refine⟨by rw[<-rs.length];exact hl,fun p hp=>?_⟩;obtain⟨r1,l1⟩:=rh.tup hp ys;exact f _ _ _ l1 r1 (.tup (.inl (.inl bY)) (rs.le l1))
 ·exact f.elim
def newL_f{σp:PSt}{ρ:List Addr}{H:Hp}{h:MH}{xs:List PV}{Q:VK}(f:Ful X (RV' X) σp ρ H (newL xs h) Q):ir X (RV' X) ρ H (newL xs h) Q:=by
 unfold newL at f ⊢
 split at f
 ·rw[qan (by assumption)];exact f
 ·exact f.elim
def newT_f{σp:PSt}{ρ:List Addr}{H:Hp}{h:MH}{xs:List PV}{Q:VK}(f:Ful X (RV' X) σp ρ H (newT xs h) Q):ir X (RV' X) ρ H (newT xs h) Q:=by
 unfold newT at f ⊢
 split at f
 ·rw[qan (by assumption)];exact f
 ·exact f.elim
def bq(m:Mx (List PV)):Mx PV:=fun σ h=>(m σ h).bind newL
def aY(m:Mx (List PV)):Mx PV:=fun σ h=>(m σ h).bind newT
def dS(h:MA X es ms):ME X (.List es pos) (bq ms) :=
 PE.imp (pe_lst h) fun σ H Q ⟨ρ,σp,h,rs,rh,q⟩=>⟨ρ,σp,h,rs,rh,Ful.bind q fun ρ1 H1 x x' h1 _ l1 rh1 rx q1=>ky rh1 rx (newL_f q1)⟩
def me_tup(h:MA X es ms):ME X (.Tuple es j pos) (aY ms) :=
 PE.imp (pe_tup h) fun σ H Q ⟨ρ,σp,h,rs,rh,q⟩=>⟨ρ,σp,h,rs,rh,Ful.bind q fun ρ1 H1 x x' h1 _ l1 rh1 rx q1=>sX rh1 rx (newT_f q1)⟩
def SOut.then(o:SOut)(k:Mst):SOut:=match o with
 | .nx σ h=>k σ h
 | o=>o
def av(a b:Mst):Mst:=fun σ h=>(a σ h).then b
def mSkip:Mst:=fun σ h=>.nx σ h
def aZ:MSs X [] mSkip:=PSs.imp pss_nil fun D σ H ⟨ρ,σp,h,rs,rh,q⟩=>q ρ H σ (Le.refl _ _) rh rs
def mss_one{st:Stmt}{m:Mst}(h:MS X st m):MSs X [st] m:=pss_one h
def bi.then{ρ:List Addr}{H:Hp}{o:SOut}{k:Mst}{D:Ends}(q:bi X ρ H (o.then k) D):bi X ρ H o { D with nx:=fun σ H=>tMS X k D σ H}:=by
 cases o with
 | nx σp h=>exact fun ρ' H' σ' l r s=>⟨ρ',σp,h,s,r,bi.le l q⟩
 | _=>exact q
def xu{st:Stmt}{rest:List Stmt}{m u:Mst}(h1:MS X st m)(h2:MSs X rest u):MSs X (st::rest) (av m u) :=
 PSs.imp (xX h1 h2) fun D σ H ⟨ρ,σp,h,rs,rh,q⟩=>⟨ρ,σp,h,rs,rh,bi.then q⟩
def aL(m:Mx PV):Mst:=fun σ h=>match m σ h with
 | .ok v h'=>.rt v h'
 | .exc x h'=>.exc x σ h'
 | .bad=>.bad
def ms_ret(he:ME X e m):MS X (.Return (some e) pos) (aL m) :=
 PS.imp (ps_ret he) fun D σ H ⟨ρ,σp,h,rs,rh,q⟩=>⟨ρ,σp,h,rs,rh,by
  unfold aL at q
  cases e:m σp h with
  | ok v h'=>rw[e] at q;exact q
  | exc x h'=>rw[e] at q;exact q
  | bad=>rw[e] at q;exact q⟩
def mEx{α:Type}(m:Mx α)(k:α->Mst):Mst:=fun σ h=>match m σ h with
 | .ok v h'=>k v σ h'
 | .exc x h'=>.exc x σ h'
 | .bad=>.bad
def bi.ex{α β:Type}{R:Rl α β}{m:Mx α}{k:α->Mst}{ρ:List Addr}{H:Hp}{σp:PSt}{h:MH}{D:Ends}{Q:β->Hp->Prop}(q:bi X ρ H (mEx m k σp h) D)
  (w:∀ρ1 H1 v v' h1,Le ρ H ρ1 H1->RH X.K X.mg ρ1 H1 h1->R ρ1 H1 v v'->bi X ρ1 H1 (k v σp h1) D->Q v' H1):Ful X R σp ρ H (m σp h) Q:=by
 unfold mEx at q
 cases e:m σp h with
 | ok v h'=>rw[e] at q;exact fun ρ1 H1 v' l r z=>w ρ1 H1 v v' h' l r z (bi.le l q)
 | exc x h'=>rw[e] at q;exact q
 | bad=>rw[e] at q;exact q
def dE(m:Mx PV):Mst:=mEx m fun _=>mSkip
def gv{e:Expr}{m:Mx PV}{pos:Pos}(he:ME X e m)(hs:swapsWith e none pos.line X.env=pure false:=by rfl):MS X (.Expr e pos) (dE m) :=
 PS.imp (ps_expr he hs) fun D σ H ⟨ρ,σp,h,rs,rh,q⟩=>⟨ρ,σp,h,rs,rh,bi.ex q fun ρ1 H1 v v' h1 l r z w=>w ρ1 H1 σ (Le.refl _ _) r (rs.le l)⟩
def mIf(c:Mx Bool)(a b:Mst):Mst:=mEx c fun x=>if x=true then a else b
def bA{c:Expr}{a b:List Stmt}{mc:Mx Bool}{ma mb:Mst}{pos:Pos}(hc:MT X c mc)(ha:MSs X a ma)(hb:MSs X b mb):MS X (.If c a b pos) (mIf mc ma mb) :=
 PS.imp (ps_if hc ha hb) fun D σ H ⟨ρ,σp,h,rs,rh,q⟩=>⟨ρ,σp,h,rs,rh,bi.ex q fun ρ1 H1 v v' h1 l r z w=>by
  cases z
  cases v with
  | true=>rw[qan rfl];exact⟨ρ1,σp,h1,rs.le l,r,w⟩
  | false=>rw[qay qaT];exact⟨ρ1,σp,h1,rs.le l,r,w⟩⟩
def aG(i:Nat)(m:Mx PV):Mst:=mEx m fun v σ h=>.nx (σ.set i (some v)) h
def ms_set(g:Good X N W G k)(i:Nat){x:Str}{e:Expr}{m:Mx PV}{pos pos':Pos}(hi:N[i]?=some x)(hw:W[i]?=some x)(he:ME X e m)(hs:swapsWith e (some (.Name x pos')) pos.line X.env=pure false:=by rfl) :
  MS X (.Assign [.Name x pos'] e pos) (aG i m):=by
 refine PS.imp (ps_set (X:=X) (i:=i) (by rw[g.hN];exact g.nd) (g.x hi) (g.loc x (aX hi)) he hs (g.fn x (aX hw))) fun D σ H ⟨ρ,σp,h,rs,rh,q⟩=>?_;exact⟨ρ,σp,h,rs,rh,bi.ex q fun ρ1 H1 v v' h1 l r z w=>w ρ1 H1 _ (Le.refl _ _) r ((rs.le l).set i z)⟩
end
end MM
namespace MM
open PySem PySem.Spec PyProof.Rows L2
local instance (priority:=1) cdec (p:Prop):Decidable p:=Classical.propDecidable p
section
variable {X:Cx} {N W G:List Str} {k:Nat}
abbrev Mg:=PV->Mst
def lU(X:Cx)(ρ:List Addr)(H:Hp)(o:SOut)(Q:L2.St->Hp->Prop):Prop:=match o with
 | .nx σp h'=>∀ρ' H' σ',Le ρ H ρ' H'->RH X.K X.mg ρ' H' h'->RS X.K ρ' H' σp σ'->Q σ' H'
 | .exc x σp h'=>XP X σp ρ H x h'
 | _=>False
def lU.le(l:Le ρ H ρ1 H1)(f:lU X ρ H o Q):lU X ρ1 H1 o Q:=by
 cases o with
 | nx σp h=>exact fun ρ' H' v' l'=>f ρ' H' v' (l.trans l')
 | exc x σp h=>exact XP.le (X:=X) (σp:=σp) (x:=x) (h:=h) l f
 | _=>exact f
inductive tG (X:Cx) (g:Mg) (v':V) (σ:L2.St) (H:Hp) (Q:L2.St->Hp->Prop):Prop
 | mk (ρ:List Addr) (σp:PSt) (h:MH) (v:PV) (rs:RS X.K ρ H σp σ) (rh:RH X.K X.mg ρ H h) (rv:RP X.K ρ H v v') (q:lU X ρ H (g v σp h) Q):tG X g v' σ H Q
def MG(X:Cx)(tg:Expr)(g:Mg):Prop:=PG X tg (tG X g)
def PG.imp(h:PG X e t)(i:∀v σ H Q,t' v σ H Q->t v σ H Q):PG X e t':=fun F6 s σ H v u Q I r q=>h F6 s σ H v u Q I r (i v σ H Q q)
def gNm(i:Nat):Mg:=fun v σ h=>.nx (σ.set i (some v)) h
def mg_name(g:Good X N W G k)(i:Nat)(hi:N[i]?=some x)(hw:W[i]?=some x):MG X (.Name x pos) (gNm i) :=
 PG.imp (t7 (by rw[g.hN];exact g.nd) (g.x hi) (g.loc x (aX hi)) (g.fn x (aX hw))) fun v' σ H Q ⟨ρ,σp,h,v,rs,rh,rv,q⟩=>q ρ H _ (Le.refl _ _) rh (rs.set i rv)
abbrev Mgs:=List PV->Mst
inductive tGs (X:Cx) (g:Mgs) (v':List V) (σ:L2.St) (H:Hp) (Q:L2.St->Hp->Prop):Prop
 | mk (ρ:List Addr) (σp:PSt) (h:MH) (v:List PV) (rs:RS X.K ρ H σp σ) (rh:RH X.K X.mg ρ H h) (rv:RPs X.K ρ H v v') (q:lU X ρ H (g v σp h) Q):tGs X g v' σ H Q
def MGs(X:Cx)(tg:List Expr)(g:Mgs):Prop:=PGs X tg (tGs X g)
def PGs.imp(h:PGs X e t)(i:∀v σ H Q,t' v σ H Q->t v σ H Q):PGs X e t':=fun F6 s σ H v u Q I r q=>h F6 s σ H v u Q I r (i v σ H Q q)
def gNl:Mgs:=fun vs σ h=>match vs with
 | []=>.nx σ h
 | _=>.bad
def gCn(a:Mg)(r:Mgs):Mgs:=fun vs σ h=>match vs with
 | v::vr=>(a v σ h).then (r vr)
 | []=>.bad
def fv:MGs X [] gNl:=PGs.imp pgs_nil fun v' σ H Q ⟨ρ,σp,h,v,rs,rh,rv,q⟩=>by
 cases rv with
 | nil=>exact⟨rfl,q ρ H σ (Le.refl _ _) rh rs⟩
 | cons _ _=>exact q.elim
def bD(h1:MG X e a)(h2:MGs X es r)
  (hs:(assignEach (e::es) X.env).map (·.2)=assign e X.env::(assignEach es X.env).map (·.2):=by rfl):MGs X (e::es) (gCn a r) :=
 PGs.imp (xI h1 h2 hs) fun v' σ H Q ⟨ρ,σp,h,v,rs,rh,rv,q⟩=>by
  cases rv with
  | nil=>exact q.elim
  | @cons x y xs ys rx rr =>
   refine⟨_,_,rfl,ρ,σp,h,x,rs,rh,rx,?_⟩;dsimp only[gCn] at q
   cases e:a x σp h with
   | nx σ1 h1=>rw[e] at q;exact fun ρ' H' σ' l r1 s1=>⟨ρ',σ1,h1,xs,s1,r1,rr.le l,lU.le l q⟩
   | exc x1 σ1 h1=>rw[e] at q;exact q
   | _=>rw[e] at q;exact q
def gTp(r:Mgs)(n:Nat):Mg:=fun v σ h=>match v with
 | .tup xs=>if xs.length=n then r xs σ h else .bad
 | _=>.bad
def gC(g:Good X N W G k){es:List Expr}{j:Nat}{r:Mgs}{n:Nat}{pos:Pos}(h:MGs X es r)(hn:(assignEach es X.env).length=n:=by rfl)(hst:(assignEach es X.env).findIdx? (·.1)=none:=by rfl) :
  MG X (.Tuple es j pos) (gTp r n) :=
 PG.imp (pg_tup g.calm h hn hst) fun v' σ H Q ⟨ρ,σp,h,v,rs,rh,rv,q⟩=>by
  cases rv with
  | tup s rr =>
   dsimp only[gTp] at q
   split at q
   ·rename_i hl
    exact⟨_,_,rfl,s,by rw[<-rr.length];exact hl,ρ,σp,h,_,rs,rh,rr,q⟩
   ·exact q.elim
  | _=>exact q.elim
def gE(m:Mx PV)(g:Mg):Mst:=mEx m fun v σ h=>match g v σ h with
 | .nx σ2 h2=>.nx σ2 h2
 | .exc x σ2 h2=>.exc x σ2 h2
 | _=>.bad
def gD{tg e:Expr}{m:Mx PV}{g:Mg}{pos:Pos}(he:ME X e m)(hg:MG X tg g)(hs:swapsWithSole [tg] e pos.line X.env=pure false:=by rfl)(hw:swappedStores [tg] e X.env=pure none:=by rfl)
  (h1:(assignEach [tg] X.env).map (·.2)=[assign tg X.env]:=by rfl):MS X (.Assign [tg] e pos) (gE m g) :=
 PS.imp (ps_asg he hg hs hw h1) fun D σ H ⟨ρ,σp,h,rs,rh,q⟩=>⟨ρ,σp,h,rs,rh,bi.ex q fun ρ1 H1 v v' h1 l r z w=>⟨ρ1,σp,h1,v,rs.le l,r,z,by
  cases e:g v σp h1 with
  | nx σ2 h2=>rw[e] at w;exact w
  | exc x σ2 h2=>rw[e] at w;exact w
  | _=>rw[e] at w;exact w⟩⟩
def ss(i j:Nat)(m:Mx (List PV)):Mst:=mEx m fun vs σ h=>match vs with
 | [v,w]=>.nx ((σ.set i (some v)).set j (some w)) h
 | _=>.bad
def vX(g:Good X N W G k)(i j:Nat)(hi:N[i]?=some x)(hj:N[j]?=some y)(hij:i≠j)(ha:MA X [a,b] m)
  (hx:X.env.scope.names.lookup x=some .local) (hy:X.env.scope.names.lookup y=some .local)
  (hw:swappedStores [.Tuple [.Name x px,.Name y py] kt pt] (.Tuple [a,b] k2 pt2) X.env=pure (some [x,y]))
  (hs:swapsWithSole [.Tuple [.Name x px,.Name y py] kt pt] (.Tuple [a,b] k2 pt2) pos.line X.env=pure false:=by rfl) :
  MS X (.Assign [.Tuple [.Name x px,.Name y py] kt pt] (.Tuple [a,b] k2 pt2) pos) (ss i j m) :=
 PS.imp (ps_par g.calm (by rw[g.hN];exact g.nd) (g.x hi) (g.x hj) hij hx hy ha hw hs) fun D σ H ⟨ρ,σp,h,rs,rh,q⟩=>⟨ρ,σp,h,rs,rh,bi.ex q fun ρ1 H1 v v' h1 l r z w=>by
  cases z with
  | nil=>exact w.elim
  | cons z1 z =>
   cases z with
   | nil=>exact w.elim
   | cons z2 z =>
    cases z with
    | nil=>exact⟨_,_,rfl,w ρ1 H1 _ (Le.refl _ _) r (((rs.le l).set i z1).set j z2)⟩
    | cons _ _=>exact w.elim⟩
def lJ(o i v:PV)(h:MH):Option MH:=match o,i with
 | .loc n,.int j=>(match h[n]? with
  | some (.lst xs)=>(ixN xs.length j).map fun p=>h.set n (.lst (xs.set p v))
  | _=>none)
 | _,_=>none
def gSb(mo mi:Mx PV):Mg:=fun v=>mEx mo fun o=>mEx mi fun i σ h=>match lJ o i v h with
 | some h2=>.nx σ h2
 | none=>.bad
def gR(ho:ME X o mo)(hi:ME X i mi)
  (ha:∀v,assign (.Subscript o i pos) X.env v=(do
   let ov <-holding [v] (eval o X.env)
   let iv <-holding [v,ov] (eval i X.env)
   standAt pos
   holding [v,ov,iv] (setItem ov iv v)
   release [v,ov,iv] []):=by intro _;rfl):MG X (.Subscript o i pos) (gSb mo mi) :=
 PG.imp (pg_sub ho hi xN ha) fun v' σ H Q ⟨ρ,σp,h,v,rs,rh,rv,q⟩=>by
  refine⟨ρ,σp,h,rs,rh,?_⟩;unfold gSb mEx at q
  cases e:mo σp h with
  | exc x h1=>rw[e] at q;exact q
  | bad=>rw[e] at q;exact q
  | ok ov h1 =>
   rw[e] at q;intro ρ1 H1 o' l1 rh1 ro;refine⟨ρ1,σp,h1,rs.le l1,rh1,?_⟩;dsimp only at q
   cases e2:mi σp h1 with
   | exc x h2=>rw[e2] at q;exact XP.le (X:=X) (σp:=σp) (x:=x) (h:=h2) l1 q
   | bad=>rw[e2] at q;exact q
   | ok iv h2 =>
    rw[e2] at q;intro ρ2 H2 i' l2 rh2 ri;dsimp only at q;have ro2:=ro.le l2;have rv2:=(rv.le l1).le l2;unfold lJ at q
    cases ro2 with
    | @loc n a en =>
     cases ri with
     | int j =>
      dsimp only at q;obtain⟨ob,eo,rob⟩:=rh2.obj en;rw[eo] at q
      cases ob with
      | dic fz ks xs=>exact q.elim
      | exc x=>exact q.elim
      | lst xs =>
       obtain⟨ys,ey,ry⟩:=rob;dsimp only at q
       cases ep:ixN xs.length j with
       | none=>rw[ep] at q;exact q.elim
       | some p =>
        rw[ep] at q;refine⟨a,ys,j,p,rfl,rfl,ey,by rw[<-ry.length];exact ep,?_⟩;obtain⟨r3,l3⟩:=rh2.put en (o:=.lst (xs.set p v)) (ho:=.lst (ys.set p v')) ⟨_,rfl,RPs.set rv2 p ry⟩;exact q ρ2 _ σ (l1.trans (l2.trans l3)) r3 (rs.le (l1.trans (l2.trans l3)))
     | _=>exact q.elim
    | _=>exact q.elim
structure MIt where
 xs:List PV
 gd:List (Nat × List PV):=[]
def MIt.ok(it:MIt)(h:MH):Prop:=∀p∈it.gd,h[p.1]?=some (.lst p.2)
def lR(X:Cx):Rl MIt It:=fun ρ0 H0 it J=>∀ρ H h (i:Nat),Le ρ0 H0 ρ H->RH X.K X.mg ρ H h->it.ok h ->
 (i<it.xs.length->J.go i H/\∀x' H',J.yld i H x' H'->∃ρ' x,Le ρ H ρ' H'/\RH X.K X.mg ρ' H' h/\it.xs[i]?=some x/\RP X.K ρ' H' x x')/\(it.xs.length<=i->J.stop i H)
def MI(X:Cx)(tg iter:Expr)(m:Mx MIt):Prop:=PI X tg iter (tM X (lR X) m)
def PI.imp(h:PI X tg e t)(i:∀σ H Q,t' σ H Q->t σ H Q):PI X tg e t':=fun F6 s σ H Q I q=>h F6 s σ H Q I (i σ H Q q)
def mGo(it:MIt)(g:Mg)(b:Mst):List PV->Mst
 | []=>fun σ h=>if it.ok h then .nx σ h else .bad
 | x::r=>fun σ h=>if it.ok h then (match g x σ h with
   | .nx σ1 h1=>(match b σ1 h1 with
    | .nx σ2 h2=>mGo it g b r σ2 h2
    | .ct σ2 h2=>mGo it g b r σ2 h2
    | .bk σ2 h2=>.nx σ2 h2
    | .rt v h2=>.rt v h2
    | .exc e σ2 h2=>.exc e σ2 h2
    | .rse e σ2 h2=>.rse e σ2 h2
    | .bad=>.bad)
   | .exc e σ1 h1=>.exc e σ1 h1
   | _=>.bad) else .bad
def cR(mi:Mx MIt)(g:Mg)(b:Mst):Mst:=mEx mi fun it=>mGo it g b it.xs
def cr(gd:Good X N W G k)(hi:MI X tg iter mi)(hg:MG X tg g)(hb:MSs X body mb)
  (hs:∀x,foldedSetIterable iter X.env x=pure x:=by intro _;rfl):MS X (.For tg iter body [] pos) (cR mi g mb):=by
 refine PS.imp (ps_for gd.po gd.calm hi hg hb hs) fun D σ H ⟨ρ,σp,h,rs,rh,q⟩=>⟨ρ,σp,h,rs,rh,bi.ex q fun ρ1 H1 it J h1 l1 rh1 jr w=>?_⟩;refine⟨fun i m σ H=>m=it.xs.length - i/\i<=it.xs.length/\∃ρ σp h,Le ρ1 H1 ρ H/\RS X.K ρ H σp σ/\RH X.K X.mg ρ H h/\bi X ρ H (mGo it g mb (it.xs.drop i) σp h) D,⟨_,rfl,qbj _,ρ1,σp,h1,Le.refl _ _,rs.le l1,rh1,w⟩,?_⟩;rintro i m σ2 H2 ⟨rfl,hi,ρ2,σp2,h2,l2,rs2,rh2,w2⟩;by_cases hlt:i<it.xs.length
 ·have ed:it.xs.drop i=it.xs[i]::it.xs.drop (i+1):=qbZ hlt;rw[ed] at w2;unfold mGo at w2
  split at w2
  ·rename_i hok
   obtain⟨j1,j2⟩:=jr ρ2 H2 h2 i l2 rh2 hok;obtain⟨go,yl⟩:=j1 hlt;refine .inr ⟨go,fun σ3 H3=>∃ρ3 σp3 h3,Le ρ1 H1 ρ3 H3/\RS X.K ρ3 H3 σp3 σ3/\RH X.K X.mg ρ3 H3 h3/\bi X ρ3 H3 (mGo it g mb (it.xs.drop (i+1)) σp3 h3) D,fun σ3 H3 z=>⟨_,by ext,rfl,hlt,z⟩,fun x' H' y=>?_⟩;obtain⟨ρ',x,l',rh',ex,rx⟩:=yl x' H' y;have ex':x=it.xs[i]:=by rw[qaj hlt] at ex;exact (Option.some.inj ex).symm
   subst ex';refine⟨ρ',σp2,h2,_,rs2.le l',rh',rx,?_⟩;have w2':=bi.le l' w2
   cases eg:g it.xs[i] σp2 h2 with
   | nx σ4 h4 =>
    rw[eg] at w2';intro ρ5 H5 σ5 l5 r5 s5;refine⟨ρ5,σ4,h4,s5,r5,?_⟩;have w3:=bi.le l5 w2';have l6:Le ρ1 H1 ρ5 H5:=l2.trans (l'.trans l5);dsimp only at w3
    cases em:mb σ4 h4 with
    | nx σ6 h6=>rw[em] at w3;exact fun ρ7 H7 σ7 l7 r7 s7=>⟨ρ7,σ6,h6,l6.trans l7,s7,r7,bi.le l7 w3⟩
    | ct σ6 h6=>rw[em] at w3;exact fun ρ7 H7 σ7 l7 r7 s7=>⟨ρ7,σ6,h6,l6.trans l7,s7,r7,bi.le l7 w3⟩
    | bk σ6 h6=>rw[em] at w3;exact w3
    | rt v h6=>rw[em] at w3;exact w3
    | exc e σ6 h6=>rw[em] at w3;exact w3
    | rse e σ6 h6=>rw[em] at w3;exact w3
    | bad=>rw[em] at w3;exact w3
   | exc e σ4 h4=>rw[eg] at w2';exact w2'
   | _=>rw[eg] at w2';exact w2'.elim
  ·exact w2.elim
 ·have e:i=it.xs.length:=by ext
  rw[e,List.drop_length] at w2;unfold mGo at w2
  split at w2
  ·rename_i hok
   obtain⟨j1,j2⟩:=jr ρ2 H2 h2 i l2 rh2 hok;exact .inl ⟨j2 (by ext),w2 ρ2 H2 σ2 (Le.refl _ _) rh2 rs2⟩
  ·exact w2.elim
def itSeq(v:PV)(h:MH):Out MIt:=match v with
 | .loc n=>(match h[n]? with
  | some (.lst xs)=>.ok ⟨xs,[(n,xs)]⟩ h
  | _=>.bad)
 | .frl xs=>.ok ⟨xs,[]⟩ h
 | _=>.bad
def mItL(m:Mx PV):Mx MIt:=fun σ h=>(m σ h).bind itSeq
def sT(hS:∀ρ' H' h,Le ρ H ρ' H'->RH X.K X.mg ρ' H' h->(⟨xs,gd⟩:MIt).ok h->∃ys,SqL X.K H' a ys/\RPs X.K ρ' H' xs ys):lR X ρ H ⟨xs,gd⟩ (Itl X.K a):=by
 intro ρ' H' h i l rh ok;obtain⟨ys,hs,rs⟩:=hS ρ' H' h l rh ok;refine⟨fun hi=>?_,fun hi=>⟨ys,hs,by rw[<-rs.length];exact hi⟩⟩;have hx:xs[i]?=some (xs[i]'hi):=qaj hi;obtain⟨y,ey,ry⟩:=rs.get hx;refine⟨⟨ys,y,hs,ey⟩,fun x' H2 ⟨e,z⟩=>?_⟩;subst e
 have:ys[i]?=some x':=z ys hs
 rw[ey] at this;cases this;exact⟨ρ',_,Le.refl _ _,rh,hx,ry⟩
def mi_list(hl:ME X l m):MI X tg l (mItL m) :=
 PI.imp (pi_list hl) fun σ H Q ⟨ρ,σp,h,rs,rh,q⟩=>⟨ρ,σp,h,rs,rh,Ful.bind q fun ρ1 H1 x x' h1 _ l1 rh1 rx q1=>by
  cases rx with
  | @loc n a e =>
   obtain⟨ob,eo,rob⟩:=rh1.obj e;dsimp only[itSeq] at q1;rw[eo] at q1
   cases ob with
   | dic fz ks xs=>exact q1.elim
   | exc x=>exact q1.elim
   | lst xs =>
    obtain⟨ys,ey,ry⟩:=rob;refine⟨a,rfl,⟨ys,SqL.of ey⟩,q1 ρ1 H1 _ (Le.refl _ _) rh1 (sT fun ρ' H' h' l rh' ok=>?_)⟩;obtain⟨ys',ey',ry'⟩:=rh'.at' n a _ (l.get e) (ok (n,xs) (by simp));exact⟨ys',SqL.of ey',ry'⟩
  | frl s r =>
   exact⟨_,rfl,⟨_,s.sq⟩,q1 ρ1 H1 _ (Le.refl _ _) rh1 (sT fun ρ' H' h' l rh' ok=>⟨_,(l.sqf s).sq,r.le l⟩)⟩
  | _=>exact q1.elim⟩
def mItT(m:Mx PV):Mx MIt:=fun σ h=>(m σ h).bind fun v h1=>match v with
 | .tup xs=>.ok ⟨xs,[]⟩ h1
 | _=>.bad
def mi_tup(hl:ME X l m):MI X tg l (mItT m) :=
 PI.imp (pi_tup hl) fun σ H Q ⟨ρ,σp,h,rs,rh,q⟩=>⟨ρ,σp,h,rs,rh,Ful.bind q fun ρ1 H1 x x' h1 _ l1 rh1 rx q1=>by
  cases rx with
  | @tup xs a ys s r =>
   refine⟨_,rfl,⟨_,s⟩,q1 ρ1 H1 _ (Le.refl _ _) rh1 ?_⟩;intro ρ' H' h' i l rh' ok;have s':=l.sqt s;have r':=r.le l;refine⟨fun hi=>?_,fun hi=>⟨ys,s',by rw[<-r.length];exact hi⟩⟩;have hx:xs[i]?=some (xs[i]'hi):=qaj hi;obtain⟨y,ey,ry⟩:=r'.get hx;refine⟨⟨ys,y,s',ey⟩,fun x' H2 ⟨e,z⟩=>?_⟩;subst e
   have:ys[i]?=some x':=z ys s'
   rw[ey] at this;cases this;exact⟨ρ',_,Le.refl _ _,rh',hx,ry⟩
  | _=>exact q1.elim⟩
def br(lo:Int)(n:Nat):List PV:=(List.range n).map fun (i:Nat)=>PV.int (lo+(i:Int))
def je(lo:Int)(n:Nat):(br lo n).length=n:=by simp[br]
def Itr_rel(lo:Int)(n:Nat):lR X ρ H ⟨br lo n,[]⟩ (Itr lo n):=by
 intro ρ' H' h i l rh ok;have hl:(br lo n).length=n:=je lo n;refine⟨fun hi=>⟨by rw[hl] at hi;exact hi,fun x' H2 ⟨e1,e2⟩=>?_⟩,fun hi=>by rw[hl] at hi;exact hi⟩;subst e1;subst e2;rw[hl] at hi;exact⟨ρ',.int (lo+i),Le.refl _ _,rh,by simp[br,hi],.int _⟩
def bH(m:Mx (List PV)):Mx MIt:=fun σ h=>(m σ h).bind fun vs h1=>match vs with
 | [.int j]=>if -(2 ^ 62)<=j/\j<2 ^ 62 then .ok ⟨br 0 j.toNat,[]⟩ h1 else .bad
 | _=>.bad
def vn(hg:Gl X "range")(hm:X.mg "range"=none)(ha:MA X [a] m)(hs:starEach [a] X.env=[(false,eval a X.env)]:=by rfl):MI X tg (.Call (.Name "range" p) [a] [] pos) (bH m):=by
 refine PI.imp (vD hg hm ha hs) fun σ H Q ⟨ρ,σp,h,rs,rh,q⟩=>⟨ρ,σp,h,rs,rh,Ful.bind q fun ρ1 H1 x x' h1 _ l1 rh1 rx q1=>?_⟩
 cases rx with
 | nil=>exact q1.elim
 | cons r1 t1 =>
  cases t1 with
  | nil =>
   cases r1 with
   | int j =>
    dsimp only at q1
    split at q1
    ·rename_i hj
     exact⟨j,rfl,hj.1,hj.2,q1 ρ1 H1 _ (Le.refl _ _) rh1 (Itr_rel 0 j.toNat)⟩
    ·exact q1.elim
   | _=>exact q1.elim
  | cons r2 t2=>cases r1 <;> exact q1.elim
def bP(c:Mx Bool)(b:Mst):Nat->Mst
 | 0=>fun _ _=>.bad
 | n+1=>mEx c fun x=>if x=true then (fun σ h=>match b σ h with
   | .nx σ2 h2=>bP c b n σ2 h2
   | .ct σ2 h2=>bP c b n σ2 h2
   | .bk σ2 h2=>.nx σ2 h2
   | .rt v h2=>.rt v h2
   | .exc e σ2 h2=>.exc e σ2 h2
   | .rse e σ2 h2=>.rse e σ2 h2
   | .bad=>.bad) else mSkip
def mWh(c:Mx Bool)(b:Mst):Mst:=fun σ h=>if z:∃n,bP c b n σ h≠.bad then bP c b (Classical.choose z) σ h else .bad
def jN:∀{n:Nat} {σ:PSt} {h:MH},bP c b n σ h≠.bad->bP c b (n+1) σ h=bP c b n σ h
 | 0,_,_,q=>absurd rfl q
 | n+1,σ,h,q=>by
  rw[bP] at q
  conv=>lhs;rw[bP]
  conv=>rhs;rw[bP]
  unfold mEx at q ⊢
  cases e:c σ h with
  | exc x h1=>rfl
  | bad=>rfl
  | ok x h1 =>
   rw[e] at q;dsimp only at q ⊢
   cases x with
   | false=>rfl
   | true =>
    simp only[if_true] at q ⊢
    cases em:b σ h1 with
    | nx σ2 h2=>rw[em] at q;exact jN q
    | ct σ2 h2=>rw[em] at q;exact jN q
    | _=>rfl
def uq(q:bP c b n σ h≠.bad)(l:n<=m):bP c b m σ h=bP c b n σ h:=by
 induction l with
 | refl=>rfl
 | step l ih=>rw[jN (by rw[ih];exact q),ih]
def nG(q:bP c b n σ h≠.bad):mWh c b σ h=bP c b n σ h:=by
 have z:∃n,bP c b n σ h≠.bad:=⟨n,q⟩;unfold mWh;rw[dif_pos z];have q2:=Classical.choose_spec z;rcases Nat.le_total n (Classical.choose z) with l|l
 ·exact uq q l
 ·exact (uq q2 l).symm
def qu(gd:Good X N W G k)(hc:MT X c mc)(hb:MSs X body mb):MS X (.While c body [] pos) (mWh mc mb):=by
 refine PS.imp (yn gd.po hc hb) fun D σ H ⟨ρ,σp,h,rs,rh,q⟩=>?_;refine⟨fun m σ H=>∃ρ σp h,RS X.K ρ H σp σ/\RH X.K X.mg ρ H h/\bi X ρ H (bP mc mb m σp h) D,?_,?_⟩
 ·unfold mWh at q
  split at q
  ·exact⟨_,ρ,σp,h,rs,rh,q⟩
  ·exact q.elim
 ·rintro m σ1 H1 ⟨ρ1,σp1,h1,rs1,rh1,q1⟩
  cases m with
  | zero=>exact q1.elim
  | succ m =>
   rw[bP] at q1;refine⟨ρ1,σp1,h1,rs1,rh1,bi.ex q1 fun ρ2 H2 v v' h2 l2 r2 z w=>?_⟩;cases z
   cases v with
   | false=>rw[qay qaT] at w ⊢;exact w ρ2 H2 σ1 (Le.refl _ _) r2 (rs1.le l2)
   | true =>
    rw[qan rfl] at w ⊢;refine⟨fun σ H=>∃ρ σp h,RS X.K ρ H σp σ/\RH X.K X.mg ρ H h/\bi X ρ H (bP mc mb m σp h) D,fun σ' H' z=>⟨m,Nat.lt_succ_self _,z⟩,ρ2,σp1,h2,rs1.le l2,r2,?_⟩
    cases em:mb σp1 h2 with
    | nx σ6 h6=>rw[em] at w;exact fun ρ7 H7 σ7 l7 r7 s7=>⟨ρ7,σ6,h6,s7,r7,bi.le l7 w⟩
    | ct σ6 h6=>rw[em] at w;exact fun ρ7 H7 σ7 l7 r7 s7=>⟨ρ7,σ6,h6,s7,r7,bi.le l7 w⟩
    | bk σ6 h6=>rw[em] at w;exact w
    | rt v h6=>rw[em] at w;exact w
    | exc e σ6 h6=>rw[em] at w;exact w
    | rse e σ6 h6=>rw[em] at w;exact w
    | bad=>rw[em] at w;exact w
def cf(f:PV->Option PyData):List PV->Option (List PyData)
 | []=>some []
 | x::r=>match f x,cf f r with
  | some d,some ds=>some (d::ds)
  | _,_=>none
def rd:Nat->MH->PV->Option PyData
 | 0,_,v=>(match v with
  | .non=>some .none
  | .bl b=>some (.bool b)
  | .int i=>some (.int i)
  | .str x=>some (.str x)
  | _=>none)
 | n+1,h,v=>(match v with
  | .non=>some .none
  | .bl b=>some (.bool b)
  | .int i=>some (.int i)
  | .str x=>some (.str x)
  | .tup xs=>(cf (rd n h) xs).map PyData.tuple
  | .frl xs=>(cf (rd n h) xs).map PyData.list
  | .loc m=>(match h[m]? with
   | some (.lst xs)=>(cf (rd n h) xs).map PyData.list
   | _=>none))
def fG{hp:Heap}{f:PV->Option PyData}{K:qac}{ρ:List Addr}{H:Hp}(hf:∀v v' u d,RP K ρ H v v'->aP v' u->f v=some d->∃as,Reads hp u d as) :
  ∀{xs:List PV} {ys:List V} {us:List Value} {ds:List PyData},RPs K ρ H xs ys->aJ ys us->cf f xs=some ds->∃as,ReadsAll hp us ds as:=by
 intro xs
 induction xs with
 | nil =>
  intro ys us ds r v e;cases r;cases v;cases e;exact⟨_,.nil⟩
 | cons x xs ih =>
  intro ys us ds r v e;cases r with|cons r t=>cases v with|cons v w =>
  simp only[cf] at e
  split at e
  ·rename_i d ds' e1 e2
   cases e;obtain⟨a1,q1⟩:=hf _ _ _ _ r v e1;obtain⟨a2,q2⟩:=ih t w e2;exact⟨_,.cons q1 q2⟩
  ·cases e
def fh{F6:List (Addr × Obj)}{σ:L2.St}{H:Hp}{s:Shared}{ρ:List Addr}{h:MH}(I:Inv X F6 σ H s)(rh:RH X.K X.mg ρ H h) :
  ∀(n:Nat) (v:PV) (v':V) (u:Value) (d:PyData),RP X.K ρ H v v'->aP v' u->rd n h v=some d->∃as,Reads s.heap u d as:=by
 intro n
 induction n with
 | zero =>
  intro v v' u d rp r e
  cases rp with
  | non=>cases e;cases r;exact⟨_,.none⟩
  | bl b=>cases e;cases r;exact⟨_,.bool b⟩
  | int i=>cases e;obtain⟨t,rfl⟩:=r;exact⟨_,.int i t⟩
  | str i=>cases e;obtain⟨t,rfl⟩:=r;exact⟨_,.str i t⟩
  | _=>cases e
 | succ n ih =>
  intro v v' u d rp r e
  cases rp with
  | non=>cases e;cases r;exact⟨_,.none⟩
  | bl b=>cases e;cases r;exact⟨_,.bool b⟩
  | int i=>cases e;obtain⟨t,rfl⟩:=r;exact⟨_,.int i t⟩
  | str i=>cases e;obtain⟨t,rfl⟩:=r;exact⟨_,.str i t⟩
  | @tup xs a ys s rr =>
   cases r;simp only[rd] at e
   cases q:cf (rd n h) xs with
   | none=>rw[q] at e;cases e
   | some ds =>
    rw[q] at e;cases e;obtain⟨its,rv,⟨o,e1,e2,m,e3⟩,_⟩:=I.tuple s;obtain⟨as,ra⟩:=fG (ih) rr rv q;exact⟨_,.tuple e1 e2 e3 (by simpa using ra)⟩
  | @frl xs a ys s rr =>
   cases r;simp only[rd] at e
   cases q:cf (rd n h) xs with
   | none=>rw[q] at e;cases e
   | some ds =>
    rw[q] at e;cases e;obtain⟨its,rv,⟨o,m,e1,e2,_,e3⟩,_⟩:=I.list s.sq;obtain⟨as,ra⟩:=fG (ih) rr rv q;exact⟨_,.list e1 e2 e3 (by simpa using ra)⟩
  | loc en =>
   cases r;simp only[rd] at e;obtain⟨ob,eo,rob⟩:=rh.obj en;rw[eo] at e
   cases ob with
   | dic fz ks xs=>cases e
   | exc x=>cases e
   | lst xs =>
    obtain⟨ys,ey,ry⟩:=rob;dsimp only at e
    cases q:cf (rd n h) xs with
    | none=>rw[q] at e;cases e
    | some ds =>
     rw[q] at e;cases e;obtain⟨its,rv,⟨o,m',e1,e2,_,e3⟩,_⟩:=I.list (SqL.of (K:=X.K) ey);obtain⟨as,ra⟩:=fG (ih) ry rv q;exact⟨_,.list e1 e2 e3 (by simpa using ra)⟩
def opEq(x y:PV)(h:MH):Out PV:=match rd 60 h x,rd 60 h y with
 | some a,some b=>if SeqAt.shaped a=true/\SeqAt.shaped b=true then .ok (.bl (PyData.eqv a b)) h else .bad
 | _,_=>.bad
def opNe(x y:PV)(h:MH):Out PV:=match rd 60 h x,rd 60 h y with
 | some a,some b=>if SeqAt.shaped a=true/\SeqAt.shaped b=true then .ok (.bl (!PyData.eqv a b)) h else .bad
 | _,_=>.bad
def eR(hr:Room k X.A):OpJ X (compareOp .Eq) opEq:=by
 intro F6 s σ H x' y' u v Q I rx' ry' ⟨ρ,h,x,y,rh,rx,ry,q⟩;unfold opEq at q
 split at q
 ·rename_i a b ea eb
  split at q
  ·rename_i hs
   obtain⟨_,ra⟩:=fh I rh 60 x x' u a rx rx' ea;obtain⟨_,rb⟩:=fh I rh 60 y y' v b ry ry' eb;exact eq_dataH ra rb hs.1 hs.2 hr.units ⟨.bl _,H,I,rfl,q ρ H _ (Le.refl _ _) rh (.bl _)⟩
  ·exact q.elim
 ·exact q.elim
def d4(hr:Room k X.A):OpJ X (compareOp .NotEq) opNe:=by
 intro F6 s σ H x' y' u v Q I rx' ry' ⟨ρ,h,x,y,rh,rx,ry,q⟩;unfold opNe at q
 split at q
 ·rename_i a b ea eb
  split at q
  ·rename_i hs
   obtain⟨_,ra⟩:=fh I rh 60 x x' u a rx rx' ea;obtain⟨_,rb⟩:=fh I rh 60 y y' v b ry ry' eb;exact ne_dataH ra rb hs.1 hs.2 hr.units ⟨.bl _,H,I,rfl,q ρ H _ (Le.refl _ _) rh (.bl _)⟩
  ·exact q.elim
 ·exact q.elim
def oD(f:Int->Int->PV):PV->PV->MH->Out PV:=fun x y h=>match x,y with
 | .int i,.int j=>.ok (f i j) h
 | _,_=>.bad
def pV(ho:OpR X F (rI0 f))(hfg:∀ρ H i j,RP X.K ρ H (g i j) (f i j)):OpJ X F (oD g):=by
 intro F6 s σ H x' y' u v Q I rx' ry' ⟨ρ,h,x,y,rh,rx,ry,q⟩;unfold oD at q
 split at q
 ·cases rx;cases ry;exact ho F6 s σ H _ _ u v Q I rx' ry' ⟨_,_,rfl,rfl,q ρ H _ (Le.refl _ _) rh (hfg ρ H _ _)⟩
 ·exact q.elim
def opLt:=oD fun i j=>.bl (decide (i<j))
def opGt:=oD fun i j=>.bl (decide (j<i))
def opGe:=oD fun i j=>.bl (decide (j<=i))
def uG:OpJ X (compareOp .Lt) opLt:=pV op_lt fun _ _ _ _=>.bl _
def pQ:OpJ X (compareOp .Gt) opGt:=pV op_gt fun _ _ _ _=>.bl _
def oj_ge:OpJ X (compareOp .GtE) opGe:=pV op_ge fun _ _ _ _=>.bl _
def opMul(x y:PV)(h:MH):Out PV:=match x,y with
 | .int i,.int j=>if IntMulOk i j then .ok (.int (i * j)) h else .bad
 | .loc n,.int j=>(match h[n]? with
  | some (.lst xs)=>if -(2 ^ 63)<=j/\j<2 ^ 63 then newL (List.flatten (List.replicate j.toNat xs)) h else .bad
  | _=>.bad)
 | _,_=>.bad
def opFd(x y:PV)(h:MH):Out PV:=match x,y with
 | .int i,.int j=>if j≠0 then .ok (.int (i.fdiv j)) h else .bad
 | _,_=>.bad
def opMod(x y:PV)(h:MH):Out PV:=match x,y with
 | .int i,.int j=>if j≠0 then .ok (.int (i.fmod j)) h else .bad
 | _,_=>.bad
def opPow(x y:PV)(h:MH):Out PV:=match x,y with
 | .int i,.int j=>if fx i j then .ok (.int (i ^ j.toNat)) h else .bad
 | _,_=>.bad
def opAdd(x y:PV)(h:MH):Out PV:=match x,y with
 | .int i,.int j=>.ok (.int (i+j)) h
 | .str a,.str b=>if a.length+b.length<=sizeLine then .ok (.str (a++b)) h else .bad
 | .loc n,.loc m=>(match h[n]?,h[m]? with
  | some (.lst xs),some (.lst ys)=>newL (xs++ys) h
  | _,_=>.bad)
 | .tup xs,.tup ys=>if xs≠[] then newT (xs++ys) h else .bad
 | _,_=>.bad
def opSub:=oD fun i j=>.int (i - j)
def opNeg(x:PV)(h:MH):Out PV:=match x with
 | .int i=>.ok (.int (-i)) h
 | _=>.bad
def eN:OpJ X (binaryOp .Sub) opSub:=pV op_sub fun _ _ _ _=>.int _
def vo:UnJ X (unaryOp .USub) opNeg:=by
 intro F6 s σ H x' u Q I rx' ⟨ρ,h,x,rh,rx,q⟩
 cases rx with
 | int i=>exact un_neg F6 s σ H _ u Q I rx' ⟨i,rfl,q ρ H _ (Le.refl _ _) rh (.int _)⟩
 | _=>exact q.elim
def pyl{F6:List (Addr × Obj)}{σ:L2.St}{H:Hp}{s:Shared}(hr:Room k X.A)(I:Inv X F6 σ H s):PylongRoom (model X.prog X.w) X.A s:=by
 obtain⟨e,l,h1,h2,h3,h4,h5⟩:=I.ok.top;exact PylongRoom.of I.nolimit (by have:=hr.dp;show X.A.depth+100<_;ext) (SeerAt.of (I.ok.mod.seer.keeps I.bk) I.ok.tree (I.ok.frames.trans (congrArg some h1)) h2 h3 h4 h5)
def fX(hr:Room k X.A):OpJ X (binaryOp .FloorDiv) opFd:=by
 intro F6 s σ H x' y' u v Q I rx' ry' ⟨ρ,h,x,y,rh,rx,ry,q⟩;unfold opFd at q
 split at q
 ·rename_i i j
  cases rx;cases ry;obtain⟨t,rfl⟩:=rx';obtain⟨t',rfl⟩:=ry';by_cases z:j≠0
  ·rw[qan z] at q;exact floordiv_int z ⟨.int _,H,I.tok _,⟨_,rfl⟩,q ρ H _ (Le.refl _ _) rh (.int _)⟩ (.inr (pyl hr I))
  ·rw[qay z] at q;exact q.elim
 ·exact q.elim
def cL:OpJ X (binaryOp .Mod) opMod:=by
 intro F6 s σ H x' y' u v Q I rx' ry' ⟨ρ,h,x,y,rh,rx,ry,q⟩;unfold opMod at q
 split at q
 ·rename_i i j
  cases rx;cases ry
  split at q
  ·rename_i hc
   obtain⟨t,rfl⟩:=rx';obtain⟨t',rfl⟩:=ry';exact mod_int' hc ⟨.int _,H,I.tok _,⟨_,rfl⟩,q ρ H _ (Le.refl _ _) rh (.int _)⟩
  ·exact q.elim
 ·exact q.elim
def kh:OpJ X (binaryOp .Pow) opPow:=by
 intro F6 s σ H x' y' u v Q I rx' ry' ⟨ρ,h,x,y,rh,rx,ry,q⟩;unfold opPow at q
 split at q
 ·rename_i i j
  cases rx;cases ry
  split at q
  ·rename_i hc
   exact op_pow F6 s σ H _ _ u v Q I rx' ry' ⟨i,j,rfl,rfl,hc,q ρ H _ (Le.refl _ _) rh (.int _)⟩
  ·exact q.elim
 ·exact q.elim
def bo:OpJ X (binaryOp .Add) opAdd:=by
 intro F6 s σ H x' y' u v Q I rx' ry' ⟨ρ,h,x,y,rh,rx,ry,q⟩
 cases rx with
 | int i =>
  cases ry with
  | int j=>exact op_add F6 s σ H _ _ u v Q I rx' ry' ⟨i,j,rfl,rfl,q ρ H _ (Le.refl _ _) rh (.int _)⟩
  | _=>exact q.elim
 | str a =>
  cases ry with
  | str b =>
   dsimp only[opAdd] at q
   split at q
   ·rename_i hl
    exact uA F6 s σ H _ _ u v Q I rx' ry' ⟨a,b,rfl,rfl,hl,q ρ H _ (Le.refl _ _) rh (.str _)⟩
   ·exact q.elim
  | _=>exact q.elim
 | @loc n a e =>
  cases ry with
  | @loc m b e2 =>
   dsimp only[opAdd] at q;obtain⟨o1,h1,r1⟩:=rh.obj e;obtain⟨o2,h2,r2⟩:=rh.obj e2;rw[h1,h2] at q
   cases o1 with
   | dic fz ks xs=>exact q.elim
   | exc x=>exact q.elim
   | lst xs =>
    cases o2 with
    | dic fz ks xs=>exact q.elim
    | exc x=>exact q.elim
    | lst ys =>
     obtain⟨xs',ex,rx1⟩:=r1;obtain⟨ys',ey,ry1⟩:=r2;obtain⟨z1,z2⟩:=ky rh (rx1.append ry1) q;exact op_cat F6 s σ H _ _ u v Q I rx' ry' ⟨a,b,xs',ys',rfl,rfl,ex,ey,by rw[<-qaY];exact z1,z2⟩
  | _=>exact q.elim
 | tup s1 r1 =>
  cases ry with
  | tup s2 r2 =>
   dsimp only[opAdd] at q
   split at q
   ·rename_i hne
    obtain⟨z1,z2⟩:=sX rh (r1.append r2) q;refine op_catT F6 s σ H _ _ u v Q I rx' ry' ⟨_,_,_,_,rfl,rfl,s1,s2,?_,by rw[<-qaY];exact z1,fun z=>?_,fun _=>z2⟩
    ·rintro rfl;cases r1;exact hne rfl
    ·subst z;cases r2;unfold newT at q
     split at q
     ·exact q ρ H _ (Le.refl _ _) rh (by rw[qbD];exact .tup s1 r1)
     ·exact q.elim
   ·exact q.elim
  | _=>exact q.elim
 | _=>cases ry <;> exact q.elim
def RPs.rep{K:qac}{ρ:List Addr}{H:Hp}{xs:List PV}{ys:List V}(r:RPs K ρ H xs ys):∀n:Nat,RPs K ρ H (List.replicate n xs).flatten (List.replicate n ys).flatten
 | 0=>.nil
 | n+1=>by rw[qaQ,qaQ,qbc,qbc];exact r.append (RPs.rep r n)
def bt:OpJ X (binaryOp .Mult) opMul:=by
 intro F6 s σ H x' y' u v Q I rx' ry' ⟨ρ,h,x,y,rh,rx,ry,q⟩
 cases rx with
 | int i =>
  cases ry with
  | int j =>
   dsimp only[opMul] at q
   split at q
   ·rename_i hc
    obtain⟨t,rfl⟩:=rx';obtain⟨t',rfl⟩:=ry';exact PyProof.Rows.mul_int ⟨.int _,H,I.tok _,⟨_,rfl⟩,q ρ H _ (Le.refl _ _) rh (.int _)⟩ hc
   ·exact q.elim
  | _=>exact q.elim
 | @loc n a e =>
  cases ry with
  | int j =>
   dsimp only[opMul] at q;obtain⟨o1,h1,r1⟩:=rh.obj e;rw[h1] at q
   cases o1 with
   | dic fz ks xs=>exact q.elim
   | exc x=>exact q.elim
   | lst xs =>
    dsimp only at q
    split at q
    ·rename_i hj
     obtain⟨xs',ex,rx1⟩:=r1;obtain⟨z1,z2⟩:=ky rh (rx1.rep j.toNat) q;refine op_rep F6 s σ H _ _ u v Q I rx' ry' ⟨a,j,xs',rfl,rfl,ex,hj.1,hj.2,?_,z2⟩;rw[ue] at z1;rw[qbL];exact z1
    ·exact q.elim
  | _=>exact q.elim
 | _=>cases ry <;> exact q.elim
def aC(x y:PV)(h:MH):Out PV:=match y with
 | .int i=>(match x with
  | .loc n=>(match h[n]? with
   | some (.lst xs)=>(match atI xs i with
    | some v=>.ok v h
    | none=>.bad)
   | _=>.bad)
  | .tup xs=>(match atI xs i with
   | some v=>.ok v h
   | none=>.bad)
  | .frl xs=>(match atI xs i with
   | some v=>.ok v h
   | none=>.bad)
  | .str z=>(match atI z.cps.toList i with
   | some c=>if z.length<=sizeLine then .ok (.str ⟨#[c]⟩) h else .bad
   | none=>.bad)
  | _=>.bad)
 | _=>.bad
def om{K:qac}{ρ:List Addr}{H:Hp}{xs:List PV}{ys:List V}{i:Int}{v:PV}(r:RPs K ρ H xs ys)(e:atI xs i=some v):∃v',atI ys i=some v'/\RP K ρ H v v':=by
 unfold atI at e ⊢;rw[<-r.length]
 cases q:ixN xs.length i with
 | none=>rw[q] at e;cases e
 | some j =>
  rw[q] at e;exact r.get e
def me_ix{a b:Expr}{ma mb:Mx PV}{pos:Pos}(ha:ME X a ma)(hb:ME X b mb)(hs:kM b):ME X (.Subscript a b pos) (ah aC ma mb):=by
 refine PE.imp (pe_ix ix_seq ha hb hs) fun σ H Q q=>?_;obtain⟨ρ,σp,h,rs,rh,q⟩:=q;refine⟨ρ,σp,h,rs,rh,Ful.bind q fun ρ1 H1 x x' h1 _ l1 rh1 rx q1=>⟨ρ1,σp,h1,rs.le l1,rh1,Ful.bind q1 fun ρ2 H2 y y' h2 _ l2 rh2 ry q2=>?_⟩⟩;have rx2:=rx.le l2
 cases ry with
 | int i =>
  cases rx2 with
  | @loc n a e =>
   obtain⟨ob,eo,rob⟩:=rh2.obj e;dsimp only[aC] at q2;rw[eo] at q2
   cases ob with
   | dic fz ks xs=>exact q2.elim
   | exc x=>exact q2.elim
   | lst xs =>
    obtain⟨ys,ey,rr⟩:=rob;dsimp only at q2
    cases ea:atI xs i with
    | none=>rw[ea] at q2;exact q2.elim
    | some v =>
     rw[ea] at q2;obtain⟨v',e',rv⟩:=om rr ea;exact .inl ⟨a,ys,i,v',rfl,rfl,SqL.of ey,e',q2 ρ2 H2 _ (Le.refl _ _) rh2 rv⟩
  | @tup xs a ys s1 rr =>
   dsimp only[aC] at q2
   cases ea:atI xs i with
   | none=>rw[ea] at q2;exact q2.elim
   | some v =>
    rw[ea] at q2;obtain⟨v',e',rv⟩:=om rr ea;exact .inr (.inl ⟨_,_,i,v',rfl,rfl,s1,e',q2 ρ2 H2 _ (Le.refl _ _) rh2 rv⟩)
  | @frl xs a ys s1 rr =>
   dsimp only[aC] at q2
   cases ea:atI xs i with
   | none=>rw[ea] at q2;exact q2.elim
   | some v =>
    rw[ea] at q2;obtain⟨v',e',rv⟩:=om rr ea;exact .inl ⟨_,_,i,v',rfl,rfl,s1.sq,e',q2 ρ2 H2 _ (Le.refl _ _) rh2 rv⟩
  | str z =>
   dsimp only[aC] at q2
   cases ea:atI z.cps.toList i with
   | none=>rw[ea] at q2;exact q2.elim
   | some c =>
    rw[ea] at q2;dsimp only at q2
    split at q2
    ·rename_i hz
     exact .inr (.inr ⟨z,i,c,rfl,rfl,hz,ea,q2 ρ2 H2 _ (Le.refl _ _) rh2 (.str _)⟩)
    ·exact q2.elim
  | _=>exact q2.elim
 | _=>exact q2.elim
def mCB(f:List PV->MH->Out PV)(m:Mx (List PV)):Mx PV:=fun σ h=>(m σ h).bind fun xs h1=>(f xs h1).ne
section
variable {x:Str} {id T:String} {e:Expr} {es:List Expr} {f:List PV→MH→Out PV} {m:Mx (List PV)} {p pos:Pos}
def tM_cb{σ:L2.St}{H:Hp}{Q:VK}(q:tM X (RV' X) (mCB f m) σ H Q):tCB (cJ X f) (tM X (RVs' X) m) σ H Q:=by
 obtain⟨ρ,σp,h,rs,rh,q⟩:=q;exact⟨ρ,σp,h,rs,rh,Ful.bind q fun ρ1 H1 x x' h1 _ l1 rh1 rx q1=>⟨ρ1,h1,x,rh1,rx,q1.zero⟩⟩
def xh(g:Good X N W G k)(j:Nat)(hj:G[j]?=some x)(hc:dC X (.builtin id) f)(hm:X.mg x=none)(hv:bootBuiltins x=some (.builtin id))(ha:MA X (e::es) m)
  (he:starEach (e::es) X.env=(false,eval e X.env)::starEach es X.env:=by rfl) (hpl:(backTo pos (starEach es X.env)).any (·.1)=false:=by rfl):ME X (.Call (.Name x p) (e::es) [] pos) (mCB f m) :=
 have d:=g.dbg x (qaq _ (aX hj))
 PE.imp (rE hc (g.gl x (aX hj)) hm hv ha d.2.2 d.1 he hpl) fun _ _ _ q=>tM_cb q
def wG(g:Good X N W G k)(j:Nat)(hj:G[j]?=some x)(hc:dC X (.type T) f)(hm:X.mg x=none)(hv:bootBuiltins x=some (.type T))(ha:MA X (e::es) m)
  (he:starEach (e::es) X.env=(false,eval e X.env)::starEach es X.env:=by rfl) (hpl:(backTo pos (starEach es X.env)).any (·.1)=false:=by rfl):ME X (.Call (.Name x p) (e::es) [] pos) (mCB f m) :=
 have d:=g.dbg x (qaq _ (aX hj))
 PE.imp (oT hc (g.gl x (aX hj)) hm hv ha d.2.2 d.1 he hpl) fun _ _ _ q=>tM_cb q
end
def fAbs(xs:List PV)(h:MH):Out PV:=match xs with
 | [.int i]=>.ok (.int (if i<0 then -i else i)) h
 | _=>.bad
def fMin(xs:List PV)(h:MH):Out PV:=match xs with
 | [.int i,.int j]=>.ok (.int (if j<i then j else i)) h
 | _=>.bad
def fInt(xs:List PV)(h:MH):Out PV:=match xs with
 | [.int i]=>.ok (.int i) h
 | [.bl b]=>.ok (.int (if b then 1 else 0)) h
 | _=>.bad
def fLen(xs:List PV)(h:MH):Out PV:=match xs with
 | [.loc n]=>(match h[n]? with
  | some (.lst ys)=>.ok (.int ys.length) h
  | _=>.bad)
 | [.tup ys]=>.ok (.int ys.length) h
 | [.frl ys]=>.ok (.int ys.length) h
 | [.str z]=>if z.length<=sizeLine then .ok (.int z.length) h else .bad
 | _=>.bad
def iQ:dC X (.builtin "abs") fAbs:=by
 intro F6 s σ H xs us Q I r ⟨ρ,h,ps,rh,rp,q⟩
 cases rp with
 | nil=>exact q.elim
 | cons r1 t1 =>
  cases t1 with
  | cons _ _=>cases r1 <;> exact q.elim
  | nil =>
   cases r1 with
   | int i=>exact wX F6 s σ H _ us Q I r ⟨i,rfl,q ρ H _ (Le.refl _ _) rh (.int _)⟩
   | _=>exact q.elim
def wW{f:List PV->MH->Out PV}{F:Int->Int->Int}{r:List V->Hp->VK->Prop}{V0:Value}(hf:∀i j h,f [.int i,.int j] h=.ok (.int (F i j)) h)(hb:∀xs h,(∀i j,xs≠[.int i,.int j])->f xs h=.bad)
  (hc:dG X V0 (fun xs H Q=>∃i j,xs=[.int i,.int j]/\Q (.int (F i j)) H)):dC X V0 f:=by
 intro F6 s σ H xs us Q I r ⟨ρ,h,ps,rh,rp,q⟩;by_cases z:∃i j,ps=[.int i,.int j]
 ·obtain⟨i,j,rfl⟩:=z
  cases rp with
  | cons r1 t1=>cases t1 with
   | cons r2 t2 =>
    cases t2;cases r1;cases r2;rw[hf] at q;exact hc F6 s σ H _ us Q I r ⟨i,j,rfl,q ρ H _ (Le.refl _ _) rh (.int _)⟩
 ·rw[hb ps h fun i j e=>z ⟨i,j,e⟩] at q;exact q.elim
def vw(g:Good X N W G k):dC X (.builtin "min") fMin:=wW (r:=fun _ _ _=>True) (F:=fun i j=>if j<i then j else i) (fun _ _ _=>rfl) (fun xs h z=>by unfold fMin;split <;> first | rfl | exact absurd rfl (z _ _)) (vF g.calm)
def qX:dC X (.type "int") fInt:=by
 intro F6 s σ H xs us Q I r ⟨ρ,h,ps,rh,rp,q⟩
 cases rp with
 | nil=>exact q.elim
 | cons r1 t1 =>
  cases t1 with
  | cons _ _=>cases r1 <;> exact q.elim
  | nil =>
   cases r1 with
   | int i=>exact pj F6 s σ H _ us Q I r (.inl ⟨i,rfl,q ρ H _ (Le.refl _ _) rh (.int _)⟩)
   | bl b=>exact pj F6 s σ H _ us Q I r (.inr ⟨b,rfl,q ρ H _ (Le.refl _ _) rh (.int _)⟩)
   | _=>exact q.elim
def cN:dC X (.builtin "len") fLen:=by
 intro F6 s σ H xs us Q I r ⟨ρ,h,ps,rh,rp,q⟩
 cases rp with
 | nil=>exact q.elim
 | cons r1 t1 =>
  cases t1 with
  | cons _ _=>cases r1 <;> exact q.elim
  | nil =>
   cases r1 with
   | @loc n a e =>
    obtain⟨ob,eo,rob⟩:=rh.obj e;dsimp only[fLen] at q;rw[eo] at q
    cases ob with
    | dic fz ks xs=>exact q.elim
    | exc x=>exact q.elim
    | lst xs =>
     obtain⟨ys,ey,rr⟩:=rob;exact i8 F6 s σ H _ us Q I r ⟨_,_,rfl,.inl ⟨ys,SqL.of ey,rfl⟩,by rw[<-rr.length];exact q ρ H _ (Le.refl _ _) rh (.int _)⟩
   | tup s1 rr=>exact i8 F6 s σ H _ us Q I r ⟨_,_,rfl,.inr ⟨_,s1,rfl⟩,by rw[<-rr.length];exact q ρ H _ (Le.refl _ _) rh (.int _)⟩
   | frl s1 rr=>exact i8 F6 s σ H _ us Q I r ⟨_,_,rfl,.inl ⟨_,s1.sq,rfl⟩,by rw[<-rr.length];exact q ρ H _ (Le.refl _ _) rh (.int _)⟩
   | str z =>
    dsimp only[fLen] at q
    split at q
    ·rename_i hz
     exact i8 F6 s σ H _ us Q I r ⟨_,_,rfl,⟨hz,rfl⟩,q ρ H _ (Le.refl _ _) rh (.int _)⟩
    ·exact q.elim
   | _=>exact q.elim
def tyP(h:MH):PV->Option String
 | .non=>some "NoneType"
 | .bl _=>some "bool"
 | .int _=>some "int"
 | .str _=>some "str"
 | .tup _=>some "tuple"
 | .frl _=>some "list"
 | .loc n=>match h[n]? with
  | some (.lst _)=>some "list"
  | some (.dic _ _ _)=>some "dict"
  | _=>none
def fk(t:String)(T:String):Bool:=t == T || (t == "bool" && T == "int")
def eS(Ts:List String)(x:PV)(h:MH):Out PV:=match tyP h x with
 | some t=>.ok (.bl (Ts.any (fk t))) h
 | none=>.bad
def okT(T:String):Prop:=∀K:qac,∀t∈["NoneType","bool","int","str","tuple","list","dict"],PySem.W.kitOne K (.type t) (.type T)=some (fk t T)
def mF(h1:∀K,PySem.W.kitOne K (.type "NoneType") (.type T)=some (fk "NoneType" T))(h2:∀K,PySem.W.kitOne K (.type "bool") (.type T)=some (fk "bool" T))(h3:∀K,PySem.W.kitOne K (.type "int") (.type T)=some (fk "int" T))
  (h4:∀K,PySem.W.kitOne K (.type "str") (.type T)=some (fk "str" T)) (h5:∀K,PySem.W.kitOne K (.type "tuple") (.type T)=some (fk "tuple" T)) (h6:∀K,PySem.W.kitOne K (.type "list") (.type T)=some (fk "list" T))
  (h7:∀K,PySem.W.kitOne K (.type "dict") (.type T)=some (fk "dict" T)):okT T:=by
 intro K t ht;simp only[qam,qbx,or_false] at ht;rcases ht with rfl|rfl|rfl|rfl|rfl|rfl|rfl
 ·exact h1 K
 ·exact h2 K
 ·exact h3 K
 ·exact h4 K
 ·exact h5 K
 ·exact h6 K
 ·exact h7 K
def tT:okT "int":=mF (fun _=>rfl) (fun _=>rfl) (fun _=>rfl) (fun _=>rfl) (fun _=>rfl) (fun _=>rfl) (fun _=>rfl)
def qq:okT "bool":=mF (fun _=>rfl) (fun _=>rfl) (fun _=>rfl) (fun _=>rfl) (fun _=>rfl) (fun _=>rfl) (fun _=>rfl)
def rM:okT "list":=mF (fun _=>rfl) (fun _=>rfl) (fun _=>rfl) (fun _=>rfl) (fun _=>rfl) (fun _=>rfl) (fun _=>rfl)
def o8:okT "tuple":=mF (fun _=>rfl) (fun _=>rfl) (fun _=>rfl) (fun _=>rfl) (fun _=>rfl) (fun _=>rfl) (fun _=>rfl)
def kitx_of{F6:List (Addr × Obj)}{σ:L2.St}{H:Hp}{s:Shared}{ρ:List Addr}{h:MH}{x:PV}{x':V}{u:Value}{t:String}(I:Inv X F6 σ H s)(rh:RH X.K X.mg ρ H h)(rx:RP X.K ρ H x x')(ru:aP x' u)(e:tyP h x=some t) :
  t∈["NoneType","bool","int","str","tuple","list","dict"]/\u≠.builtin "__main__.__loader__#opaque"/\∃Hq,PySem.W.KitX X.K u (.type t) Hq/\Hq s.heap:=by
 cases rx with
 | non=>cases e;cases ru;exact⟨by simp,(fun z=>nomatch z),_,PySem.W.kitx_none,trivial⟩
 | bl b=>cases e;cases ru;exact⟨by simp,(fun z=>nomatch z),_,PySem.W.kitx_bool,trivial⟩
 | int i=>cases e;obtain⟨t,rfl⟩:=ru;exact⟨by simp,(fun z=>nomatch z),_,PySem.W.kitx_int,trivial⟩
 | str i=>cases e;obtain⟨t,rfl⟩:=ru;exact⟨by simp,(fun z=>nomatch z),_,PySem.W.kitx_str,trivial⟩
 | tup s1 r1 =>
  cases e;cases ru;obtain⟨its,rv,⟨o,e1,e2,_⟩,_⟩:=I.tuple s1;exact⟨by simp,(fun z=>nomatch z),_,PySem.W.kitx_tuple,⟨o,e1,e2⟩⟩
 | frl s1 r1 =>
  cases e;cases ru;obtain⟨its,rv,⟨o,m,e1,e2,_,e3⟩,_⟩:=I.list s1.sq;exact⟨by simp,(fun z=>nomatch z),_,PySem.W.kitx_list,⟨o,e1,e2⟩⟩
 | @loc n a en =>
  obtain⟨ob,eo,rob⟩:=rh.obj en;dsimp only[tyP] at e;rw[eo] at e;cases ru
  cases ob with
  | lst xs =>
   cases e;obtain⟨ys,ey,_⟩:=rob;obtain⟨its,rv,⟨o,m,e1,e2,_,e3⟩,_⟩:=I.list (SqL.of (K:=X.K) ey);exact⟨by simp,(fun z=>nomatch z),_,PySem.W.kitx_list,⟨o,e1,e2⟩⟩
  | dic fz ks xs =>
   cases e;obtain⟨zs,_,_,ey⟩:=rob;obtain⟨_,_,vs,_,p⟩:=ic I.hok ey;obtain⟨o,es,ep,h1,h2,_⟩:=p;exact⟨by simp,(fun z=>nomatch z),_,PySem.W.kitx_dict,⟨o,h1,h2.1⟩⟩
  | exc x=>cases e
def fL(g:Good X N W G k){a:Expr}{m:Mx PV}{T:String}{c:Str}{i j:Nat}{p q pos:Pos}(hi:G[i]?=some "isinstance")(hm:X.mg "isinstance"=none)(hj:G[j]?=some c)(hc:X.mg c=none)(hv:bootBuiltins c=some (.type T))(hT:okT T)(ha:ME X a m)
  (he:starEach [a,.Name c q] X.env=(false,eval a X.env)::starEach [.Name c q] X.env:=by rfl) (he2:starEach [.Name c q] X.env=[(false,eval (.Name c q) X.env)]:=by rfl) (hpl:(backTo pos (starEach [.Name c q] X.env)).any (·.1)=false:=by rfl) :
  ME X (.Call (.Name "isinstance" p) [a,.Name c q] [] pos) (mUn (eS [T]) m):=by
 have d1:=g.dbg _ (qaq _ (aX hi));have d:=g.dbg c (qaq _ (aX hj));have hcall:dG X (.builtin "isinstance") (fun xs H Q=>∃x',xs=[x',.ty T]/\uJ X (eS [T]) x' H Q):=by
  intro F6 s σ H xs us Q I r ⟨x',e,ρ,h,x,rh,rx,q⟩;subst e
  cases r with
  | cons r1 t1=>cases t1 with
   | cons r2 t2 =>
    cases t2;obtain rfl:=(show _=Value.type T from r2);unfold eS at q
    cases et:tyP h x with
    | none=>rw[et] at q;exact q.elim
    | some t =>
     rw[et] at q;obtain⟨ht,hne,Hq,Z,hz⟩:=kitx_of I rh rx r1 et
     exact PySem.W.kia_one Z I.kIn hz (hT X.K t ht) hne fun tk=>⟨.bl _,H,I.tok _,rfl,by
      have q':=q ρ H _ (Le.refl _ _) rh (.bl _)
      simpa using q'⟩
 refine PE.imp (rE hcall (g.gl _ (aX hi)) hm PyProof.Rows.Boot.«isinstance» (kP ha (kP (pe_bltn (v:=.ty T) (u:=.type T) (g.gl c (aX hj)) hc hv rfl d.2.2 d.1) rD he2) he) d1.2.2 d1.1 he hpl) fun σ H Q ⟨ρ,σp,h,rs,rh,q⟩=>?_;exact⟨ρ,σp,h,rs,rh,Ful.bind q fun ρ1 H1 x x' h1 _ l1 rh1 rx q1=>⟨x',rfl,ρ1,h1,x,rh1,rx,q1.zero⟩⟩
def spM(K:qac)(mg:MGl)(F:List PV->MH->Out PV):Sp:=fun vs H Q E=>∃ρ ps h,RPs K ρ H ps vs/\RH K mg ρ H h/\match F ps h with
 | .ok v h'=>∀ρ' H' v',Le ρ H ρ' H'->RH K mg ρ' H' h'->RP K ρ' H' v v'->Q v' H'
 | .exc x h'=>∀C ρ' H',x.fs=[]->mg x.cls=some (.ref C)->Le ρ H ρ' H'->RH K mg ρ' H' h'->E (.ref C) none H'
 | .bad=>False
def CXm(P:Program)(w:World):CXT:=fun outer H s E e s'=>∃ea C H',e=.ref ea/\s'.os=s.os/\AllBare s'.gens/\Un (frs outer) [] H H' s.heap s'.heap/\HOk P w H' s'.heap/\Fly outer H' s.heap C ea s'.heap/\E (.ref C) none H'
structure Cal (X:Cx) (x:Str) (ps:List Str) (F:List PV->MH->Out PV) (k:Nat):Prop where
 ex:∃f fd,X.mg x=some (.ref f)/\PySem.W.keepIn X.K (.ref f)=true/\nA X.K fd ps []/\FnOk X.prog X.w X.K X.mg X.base (CXm X.prog X.w) k f fd ps (spM X.K X.mg F)
def Cal.to(c:Cal X x ps F i)(e1:Y.prog=X.prog)(e2:Y.w=X.w)(e3:Y.K=X.K)(e4:Y.mg=X.mg)(e5:Y.base=X.base):Cal Y x ps F i:=by
 obtain⟨f,fd,a,b,d,e⟩:=c.ex;refine⟨f,fd,by rw[e4];exact a,by rw[e3];exact b,by rw[e3];exact d,?_⟩;rw[e1,e2,e3,e4,e5];exact e
def ay(F:List PV->MH->Out PV)(m:Mx (List PV)):Mx PV:=fun σ h=>(m σ h).bind F
def me_call(g:Good X N W G k){x:Str}{j:Nat}(hj:G[j]?=some x){ps:List Str}{F:List PV->MH->Out PV}(C:Cal X x ps F k){e:Expr}{es:List Expr}{m:Mx (List PV)}{p pos:Pos}(ha:MA X (e::es) m)
  (he:starEach (e::es) X.env=(false,eval e X.env)::starEach es X.env:=by rfl) (hpl:(backTo pos (starEach es X.env)).any (·.1)=false:=by rfl):ME X (.Call (.Name x p) (e::es) [] pos) (ay F m):=by
 obtain⟨f,fd,hm,hk,hb,F'⟩:=C.ex;have d:=g.dbg x (qaq _ (aX hj));intro F6 s σ H Q I ⟨ρ,σp,h,rs,rh,q⟩;refine wpAny_Call_Name_kw (tU I (g.gl x (aX hj)) hm ?_ d.1)
 refine PySem.W.callWith_K (h₀:=X.base) I.ok.mod.kin hk (thn (ha pos F6 s σ H (fun vs H1=>∃ρ1 xs h1,Le ρ H ρ1 H1/\RH X.K X.mg ρ1 H1 h1/\RPs X.K ρ1 H1 xs vs/\Ful X (RV' X) σp ρ1 H1 (F xs h1) Q) I
  ⟨ρ,σp,h,rs,rh,Ful.bind q fun ρ1 H1 xs vs h1 _ l1 rh1 rx q1=>⟨ρ1,xs,h1,l1,rh1,rx,q1⟩⟩) fun us s1 ⟨vs,H1,I1,r,ρ1,xs,h1,l1,rh1,rx,q1⟩=>⟨I1.kIn,?_⟩) he hpl
 have run:∀E:XK,spM X.K X.mg F vs H1 Q E->(∀ea C H' s',s'.os=s1.os->AllBare s'.gens->Un (frs X.stack) [] H1 H' s1.heap s'.heap->HOk X.prog X.w H' s'.heap->Fly X.stack H' s1.heap C ea s'.heap->E (.ref C) none H'->X.xe (.ref ea) s') ->
   wpAny (model X.prog X.w) X.A (call (.ref f) us) (EP X F6 σ Q) X.xe s1:=fun E hsp hE=>by
  have hl:(us++[]).length=ps.length:=by rw[qbD,<-r.length];exact F'.len _ _ _ _ hsp
  have hb1:=hb s1 us I1.kIn hl;rw[qbD] at hb1;refine wpAny_call (codeAny_mono (F'.run X.A X.stack s1 H1 ⟨us,[]⟩ us vs Q E g.room I1.env0 hb1 r hsp) fun r s' hq=>?_)
  cases r with
  | error e =>
   obtain⟨ea,C,H',rfl,a1,a2,a3,a4,a5,a6⟩:=hq;exact hE ea C H' s' a1 a2 a3 a4 a5 a6
  | ok fl =>
   cases fl with
   | ret u=>exact I1.after hq
   | next=>exact False.elim hq
   | brk=>exact False.elim hq
   | cont=>exact False.elim hq
 cases eF:F xs h1 with
 | bad=>rw[eF] at q1;exact q1.elim
 | ok v h' =>
  rw[eF] at q1;exact run (fun _ _ _=>False) ⟨ρ1,xs,h1,rx,rh1,by rw[eF];exact q1⟩ fun _ _ _ _ _ _ _ _ _ z=>z.elim
 | exc x' h' =>
  rw[eF] at q1;refine run (fun c _ H'=>∃C ρ',c=.ref C/\x'.fs=[]/\X.mg x'.cls=some (.ref C)/\Le ρ1 H1 ρ' H'/\RH X.K X.mg ρ' H' h') ⟨ρ1,xs,h1,rx,rh1,by rw[eF];exact fun C ρ' H' a b c d=>⟨C,ρ',rfl,a,b,c,d⟩⟩ fun ea C H' s' a1 a2 a3 a4 a5 a6=>?_;obtain⟨C',ρ',eC,b1,b2,b3,b4⟩:=a6;cases eC;have IX:=I1.call' (s':=s') (ch:=[]) a1 a3 a4 a2 (fun b z=>absurd z (by simp));have IX0:Inv X [] σ H' s':=Inv.unpinned (F6:=[]) (pl:=F6) IX;exact q1 ea C ρ' H' σ s' s1.heap b1 b2 b3 b4 (rs.le (l1.trans b3)) IX0 (Inv.bears I1) a5
def b9(n:Nat)(ps:List PV):PSt:=ps.map some++List.replicate (n - ps.length) none
def ba(n np:Nat)(m:Mst):List PV->MH->Out PV:=fun ps h=>if ps.length=np then (match m (b9 n ps) h with
 | .nx _ h'=>.ok .non h'
 | .rt v h'=>.ok v h'
 | .exc x _ h'=>.exc x h'
 | .rse x _ h'=>.exc x h'
 | _=>.bad) else .bad
def wY{K:qac}{ρ:List Addr}{H:Hp}{N:List Str}{ps:List PV}{vs:List V}(r:RPs K ρ H ps vs):RS K ρ H (b9 N.length ps) (L2.start N vs):=by
 have hl:=r.length;refine⟨by simp[b9,L2.start,hl],fun i v e=>?_⟩;unfold b9 at e;by_cases hi:i<ps.length
 ·rw[qal (by simpa using hi),qax] at e
  cases q:ps[i]? with
  | none=>rw[q] at e;cases e
  | some x =>
   rw[q] at e;cases e;obtain⟨v',e',rv⟩:=r.get q;refine⟨v',?_,rv⟩;unfold L2.start;rw[qal (by simp;lia),qax,e'];rfl
 ·rw[qaE (by simpa using hi),qaW] at e
  split at e <;> cases e
def xP{B h:Heap}(k:B.StaysIn h){b:Addr}{o ob:Obj}(e1:B.get? b=some ob)(e2:h.get? b=some o):ob=o:=by
 have:=k b ob e1
 rw[e2] at this;exact (Option.some.inj this).symm
def ul{X:Cx}{σ':L2.St}{H':Hp}{s':Shared}{h' B:Heap}(I:Inv X [] σ' H' s')(hex:X.ex=[])(hB:B.StaysIn s'.heap)(hB':B.StaysIn h')(sm:s'.heap.UpToSlots h')
  (cov:∀b o,X.s₀.heap.get? b=some o->b∉X.fs->∃ob,B.get? b=some ob) (cvH:∀b o,H' b=some o->∃ob,B.get? b=some ob):Un X.fs [] X.H₀ H' X.s₀.heap h'/\HOk X.prog X.w H' h':=by
 have nex:∀b:Addr,b∉X.ex:=fun b=>by rw[hex];simp
 have kp:∀b o ob,B.get? b=some ob->s'.heap.get? b=some o->h'.get? b=some o:=fun b o ob e1 e2=>by
  have:=xP hB e1 e2
  subst this;exact hB' b ob e1
 refine⟨⟨fun b o e n hf _=>?_,fun b o e n hf _=>?_,fun b o e n _=>I.base.free b o e n (nex b),fun b o e _=>?_,I.base.tups,I.base.frzs,I.base.tbls⟩,fun a o e=>?_⟩
 ·obtain⟨ob,eb⟩:=cov b o e hf;exact kp b o ob eb (I.base.keep b o e n hf (nex b))
 ·obtain⟨sl,e1⟩:=I.base.slot b o e n hf (nex b);obtain⟨_,oF,eF,dF⟩:=I.ok.funs.mem hf;rw[e] at eF;cases eF;obtain⟨sl',e2⟩:=sm b _ e1 (fun vs z=>dF vs z);exact⟨sl',e2⟩
 ·by_cases hf:b∈X.fs
  ·obtain⟨_,oF,eF,dF⟩:=I.ok.funs.mem hf;rw[e] at eF;cases eF;obtain⟨sl,e1⟩:=I.base.slot b o e (I.ok.frf b hf) hf (nex b);obtain⟨sl',e2⟩:=sm b _ e1 (fun vs z=>dF vs z);exact⟨_,e2⟩
  ·obtain⟨ob,eb⟩:=cov b o e hf;exact⟨ob,hB' b ob eb⟩
 ·refine (I.hok a o e).stay (fun b u hb z=>?_) (fun _ z=>z) fun _ _ z=>z;rcases hb with rfl|hb
  ·obtain⟨ob,eb⟩:=cvH _ _ e;exact kp _ u ob eb z
  ·obtain⟨ob,eb⟩:=cvH _ _ hb;exact kp _ u ob eb z
def _root_.L2.ObjOk.has(x:ObjOk P w H h a o):∃u,h.get? a=some u:=by
 cases o with
 | lst xs=>obtain⟨_,_,_,_,e⟩:=x;exact⟨_,e⟩
 | tup xs=>obtain⟨_,_,_,o,e,_⟩:=x;exact⟨o,e⟩
 | dK kvs=>obtain⟨_,_,_,_,o,_,_,e,_⟩:=x;exact⟨o,e⟩
 | dT kvs=>obtain⟨_,_,_,_,o,_,_,e,_⟩:=x;exact⟨o,e⟩
 | set S n=>obtain⟨o,_,_,_,e,_⟩:=x;exact⟨o,e⟩
 | ins C dx fs=>obtain⟨_,_,_,e,_⟩:=x;exact⟨_,e⟩
 | own y=>obtain⟨o,e⟩:=x;exact⟨o,e⟩
 | xd fs=>obtain⟨_,⟨o,_,_,e,_⟩,_⟩:=x;exact⟨o,e⟩
 | rng lo hi=>obtain⟨_,_,_,e⟩:=x;exact⟨_,e⟩
 | frz ob u=>obtain⟨e,_⟩:=x;exact⟨_,e⟩
 | tbl ps=>exact⟨_,(show h.get? a=some _ from x)⟩
 | met f y=>exact⟨_,(show h.get? a=some _ from x)⟩
 | ext φ=>obtain⟨_,⟨o,e⟩,_⟩:=x;exact⟨o,e⟩
structure DefCx (X:Cx):Prop where
 stk:X.stack=X.env::X.outer
 fr:X.env.frame=some X.env.locals
 ex:X.ex=[]
def fn_M{P:Program}{w:World}{K:qac}{mg:Str->Option Value}{base:Heap}{x qual:Str}{st:Stmt}{f:Addr}{fd:FuncData}{ps:List Str}{m:Mst}(Fu:Fun K x qual st f fd)(S:FnScope N ps (aN st))
  (hl:∀y∈N,Loc (aN st) y) (hgl:∀y∈G,(aN st).names.lookup y=some .globalImplicit)
  (dbg:∀x∈N++G,(x == ("__debug__":Str))=false/\(x == ("__classdict__":Str))=false/\x≠"__name__")
  (hb:∀X:Cx,X.prog=P->X.w=w->X.K=K->X.mg=mg->X.base=base->X.env.scope=aN st->Good X N N G k->DefCx X->MSs X (aK st) m) :
  FnOk P w K mg base (CXm P w) (k+1) f fd ps (spM K mg (ba N.length ps.length m)):=by
 have len:∀vs H Q E,spM K mg (ba N.length ps.length m) vs H Q E->vs.length=ps.length:=by
  rintro vs H Q E ⟨ρ,zs,h,r,rh,q⟩;rw[<-r.length];unfold ba at q;by_cases hp:zs.length=ps.length
  ·exact hp
  ·rw[qay hp] at q;exact q.elim
 obtain⟨oc,od,kV,doc,pm,an,cdv,ct,osl,rfl,lk,hcd⟩:=Fu.ex;refine fn_of lk hcd S len fun A outer s H vs Q E hr hsp=>?_;obtain⟨ρ,zs,h,r,rh,q⟩:=hsp;refine⟨_,hb _ rfl rfl rfl rfl rfl rfl ⟨rfl,S.nd,hl,fun _ _=>.inl rfl,hgl,dbg,rfl,hr,PassesOwn.leaving⟩ ⟨rfl,rfl,rfl⟩,ρ,b9 N.length zs,h,wY r,rh,?_⟩;unfold ba at q;by_cases hp:zs.length=ps.length
 ·rw[qan hp] at q
  cases e:m (b9 N.length zs) h with
  | nx σ' h'=>rw[e] at q;exact fun ρ' H' σ' l r' s'=>q ρ' H' .non l r' .non
  | rt v h'=>rw[e] at q;exact q
  | bk σ h'=>rw[e] at q;exact q.elim
  | ct σ h'=>rw[e] at q;exact q.elim
  | bad=>rw[e] at q;exact q.elim
  | exc x σ h' =>
   rw[e] at q;intro ea C ρ' H' σ' s' lim hfs hmg l rh' rs' I' brs fly;obtain⟨B,t,hfl,hBH,hcov,hea⟩:=fly;refine wpAny_leaves_onW (base:=B) (env:=envOfC qual (aN st) s.heap.objs.size f cdv) (outer:=outer) I'.ok.frames rfl hfl fun h'' hfl' sm=>?_;have hb1:∀b o,s.heap.get? b=some o->b∉frs outer->∃ob,B.get? b=some ob:=fun b o eb hf=>by
    obtain⟨o',e'⟩:=brs.old b o eb (by show b∉([]:List Addr);simp);refine hcov b o' e' fun hm=>?_;rcases qam.mp (I'.stkSub b hm) with z|z
    ·exact absurd (qas eb) (by rw[z];exact qbb _)
    ·exact hf z
   obtain⟨un,hk'⟩:=ul (B:=B) I' rfl hfl.1 hfl'.1 sm hb1 hBH;exact⟨ea,C,H',rfl,I'.os,I'.bare,un,hk',⟨B,t,hfl',hBH,hb1,hea⟩,q C ρ' H' hfs hmg l rh'⟩
  | rse x σ h' =>
   rw[e] at q;intro ea C ρ' H' σ' s' h0 args hfs hmg l rh' rs' I' made;have hst:=I'.stack;have hin:∀env∈(envOfC qual (aN st) s.heap.objs.size f cdv::outer),∀b,env.frame=some b->b∈frs (envOfC qual (aN st) s.heap.objs.size f cdv::outer):=fun env he b hb=>qbV.mpr ⟨env,he,hb⟩;refine wpAny_leaves_madeW (base:=PySem.W.hideAll h0 (frs (envOfC qual (aN st) s.heap.objs.size f cdv::outer))) (h:=h0) (env:=envOfC qual (aN st) s.heap.objs.size f cdv) (outer:=outer) I'.ok.frames rfl (fun b o z=>PySem.W.of_hideAll _ z)
    (PySem.W.funFrames_hide (base:=base) hst hin) made fun h'' t hfl' _ _ sm=>?_
   have sub:∀b,b∈frs (envOfC qual (aN st) s.heap.objs.size f cdv::outer)->b=s.heap.objs.size\/b∈frs outer:=fun b hm=>qam.mp (I'.stkSub b hm);have hb1:∀b o,s.heap.get? b=some o->b∉frs outer->∃ob,(PySem.W.hideAll h0 (frs (envOfC qual (aN st) s.heap.objs.size f cdv::outer))).get? b=some ob:=fun b o eb hf=>by
    obtain⟨o',e'⟩:=I'.base.there b o eb (by show b∉([]:List Addr);simp);refine⟨o',PySem.W.hideAll_get _ e' fun hm=>?_⟩;rcases sub b hm with z|z
    ·exact absurd (qas eb) (by rw[z];exact qbb _)
    ·exact hf z
   have hBH:∀b o,H' b=some o->∃ob,(PySem.W.hideAll h0 (frs (envOfC qual (aN st) s.heap.objs.size f cdv::outer))).get? b=some ob:=fun b o eb=>by
    have hlt:=I'.hok.lt eb;obtain⟨u,eu⟩:∃u,h0.get? b=some u:=(I'.hok b o eb).has;refine⟨u,PySem.W.hideAll_get _ eu fun hm=>?_⟩
    have:=I'.stkFree b hm
    rw[eb] at this;cases this
   have sm0:h0.UpToSlots h'':=(Heap.UpToSlots.of_keeps made.keeps).trans sm;obtain⟨un,hk'⟩:=ul (B:=PySem.W.hideAll h0 (frs (envOfC qual (aN st) s.heap.objs.size f cdv::outer))) I' rfl (fun b o z=>PySem.W.of_hideAll _ z) hfl'.1 sm0 hb1 hBH;have hea:H' ea=none:=by
    cases z:H' ea with
    | none=>rfl
    | some o =>
     obtain⟨u,eu⟩:=(I'.hok ea o z).has;rw[made.new] at eu;cases eu
   exact⟨ea,C,H',rfl,I'.os,I'.bare,un,hk',⟨_,t,hfl',hBH,hb1,hea⟩,q C ρ' H' hfs hmg l rh'⟩
 ·rw[qay hp] at q;exact q.elim
def itAny(v:PV)(h:MH):Out MIt:=match v with
 | .loc n=>(match h[n]? with
  | some (.lst xs)=>.ok ⟨xs,[(n,xs)]⟩ h
  | _=>.bad)
 | .frl xs=>.ok ⟨xs,[]⟩ h
 | .tup xs=>.ok ⟨xs,[]⟩ h
 | _=>.bad
def cp(m:Mx PV):Mx MIt:=fun σ h=>(m σ h).bind itAny
def bJ(hl:ME X l m):MI X tg l (cp m):=by
 intro F6 s σ H R I ⟨ρ,σp,h,rs,rh,q⟩;by_cases z:∃xs h1,m σp h=.ok (.tup xs) h1
 ·obtain⟨xs,h1,e⟩:=z;refine mi_tup (tg:=tg) hl F6 s σ H R I ⟨ρ,σp,h,rs,rh,?_⟩;unfold cp at q;unfold mItT;rw[e] at q ⊢;exact q
 ·refine mi_list (tg:=tg) hl F6 s σ H R I ⟨ρ,σp,h,rs,rh,?_⟩;unfold cp at q;unfold mItL
  cases e:m σp h with
  | ok v h1 =>
   rw[e] at q
   cases v with
   | tup xs=>exact absurd ⟨xs,h1,e⟩ z
   | _=>exact q
  | exc x h1=>rw[e] at q;exact q
  | bad=>rw[e] at q;exact q
def Inv.bigM{F6:List (Addr × Obj)}{σ:L2.St}{H:Hp}{s:Shared}(I:Inv X F6 σ H s):sysModules<s.heap.objs.size:=by
 have h:mainGlobals<s.heap.objs.size:=(I.mod.glob.keeps I.bk).lt;exact qcu (by decide) h
def mDic:Mx PV:=fun _ h=>.ok (.loc h.length) (h++[.dic false [] []])
def me_dic0:ME X (.Dict [] [] pos) mDic:=fun F6 s σ H Q I ⟨ρ,σp,h,rs,rh,q⟩=>by
 have hf:H s.heap.objs.size=none:=I.hok.fresh (qai _);obtain⟨r1,l1⟩:=rh.new hf (o:=.dic false [] []) (ho:=.dK []) ⟨[],rfl,.nil,rfl⟩;refine wpAny_Dict_empty ⟨.ref s.heap.objs.size,_,I.laid (a:=s.heap.objs.size) (o:=.dK []) (t':=s.toks) (fun _ _ q=>qad _ q) (qai _) ?_,rfl,q _ _ _ l1 r1 (.loc (by rw[<-rh.len];simp))⟩;exact⟨qbj _,beq_eq_false_iff_ne.mpr (Ne.symm (qaS (Inv.bigM I))),[],.nil,Heap.DictOf.new s.heap⟩
structure FnAt (P:Program) (w:World) (K:qac) (mg:Str->Option Value) (base:Heap) (x:Str) (ps:List Str) (F:List PV->MH->Out PV) (k:Nat):Prop where
 ex:∃f fd,mg x=some (.ref f)/\PySem.W.keepIn K (.ref f)=true/\nA K fd ps []/\FnOk P w K mg base (CXm P w) k f fd ps (spM K mg F)/\∃oc od osl,K.lookup f=some ⟨oc,od,.func fd,osl⟩
def FnAt.mono{P:Program}{w:World}{K:qac}{mg:Str->Option Value}{base:Heap}{x:Str}{ps:List Str}{F:List PV->MH->Out PV}{i j:Nat}(c:FnAt P w K mg base x ps F i)(h:i<=j):FnAt P w K mg base x ps F j :=
 let ⟨f,fd,a,b,d,e,z⟩:=c.ex;⟨f,fd,a,b,d,e.mono h,z⟩
def FnAt.cal{P:Program}{w:World}{K:qac}{mg:Str->Option Value}{base:Heap}{x:Str}{ps:List Str}{F:List PV->MH->Out PV}{i:Nat}(c:FnAt P w K mg base x ps F i){X:Cx}(e1:X.prog=P)(e2:X.w=w)(e3:X.K=K)(e4:X.mg=mg)(e5:X.base=base):Cal X x ps F i:=by
 subst e1;subst e2;subst e3;subst e4;subst e5;obtain⟨f,fd,a,b,d,e,_⟩:=c.ex;exact⟨f,fd,a,b,d,e⟩
structure DefAt (K:qac) (x:Str) (st:Stmt):Prop where
 ex:∃f fd,PySem.W.nsIn K mainGlobals x=some (some (.ref f))/\Fun K x x st f fd
def defAt_mk{K:qac}{x:Str}{st:Stmt}{f:Addr}{oc:Value}{od an:Option Addr}{sl:Array (Option Value)}{kV dc pm cd ct:Value}
  (a:PySem.W.nsIn K mainGlobals x=some (some (.ref f))) (l:K.lookup f=some ⟨oc,od,.func (PySem.W.fnOf x x (gr st) (aK st) (aN st) .none kV dc pm an cd ct),sl⟩) (c:PySem.W.codeIn K cd x=true) (kp:PySem.W.keepIn K (.ref f)=true):DefAt K x st :=
 ⟨f,_,a,fun_mk l c kp⟩
def kG(x:Str)(st:Stmt)(ps:List Str):Prop:=∀(kV doc pm:Value) (an:Option Addr) (cdv ct:Value) (us:List Value),us.length=ps.length->bindArgs (PySem.W.fnOf x x (gr st) (aK st) (aN st) .none kV doc pm an cdv ct) ⟨us,[]⟩=pure (ps.zip us)
def fnAt_M{P:Program}{w:World}{K:qac}{mg:Str->Option Value}{base:Heap}{x:Str}{st:Stmt}{ps:List Str}{m:Mst}(kin:K.In base)(ns:base.Ns mainGlobals mg)(D:DefAt K x st)(S:FnScope N ps (aN st))(B:kG x st ps)
  (hl:∀y∈N,(aN st).names.lookup y=some .local\/(aN st).names.lookup y=some .cell) (hgl:∀y∈G,(aN st).names.lookup y=some .globalImplicit)
  (dbg:∀x∈N++G,(x == ("__debug__":Str))=false/\(x == ("__classdict__":Str))=false/\x≠"__name__")
  (hb:∀X:Cx,X.prog=P->X.w=w->X.K=K->X.mg=mg->X.base=base->X.env.scope=aN st->Good X N N G k->DefCx X->MSs X (aK st) m) :
  FnAt P w K mg base x ps (ba N.length ps.length m) (k+1):=by
 obtain⟨f,fd,a,Fu⟩:=D.ex;have Fx:=Fu.ex;obtain⟨oc,od,kV,doc,pm,an,cdv,ct,osl,e1,e2,_⟩:=Fx;exact⟨f,fd,PySem.W.mg_of kin ns a,Fu.kp,Fu.binds B,fn_M Fu S hl hgl dbg hb,oc,od,osl,e2⟩
def head_M{P:Program}{w:World}{K:qac}{mg:Str->Option Value}{h:Heap}{x y:Str}{st:Stmt}{F:List PV->MH->Out PV}{fa:Addr}(D:DefAt K x st)(B:kG x st [y])(hmg:mg x=some (.ref fa))(kin:K.In h)(ns:h.Ns mainGlobals mg)
  (H:∀base:Heap,K.In base->base.Ns mainGlobals mg->FnAt P w K mg base x [y] F k) :
  ∃fd:FuncData,(∀(s:Shared) (u:Value),BindsTo s fd ⟨[u],[]⟩ [(y,u)])/\∀base:Heap,K.In base->base.Ns mainGlobals mg->FnOk P w K mg base (CXm P w) k fa fd [y] (spM K mg F):=by
 obtain⟨f,fd,a,Fu⟩:=D.ex;have e:=hmg.symm.trans (PySem.W.mg_of kin ns a);cases e;obtain⟨oc,od,kV,doc,pm,an,cdv,ct,osl,e1,e2,e3⟩:=Fu.ex;refine⟨fd,fun s u=>.of_eq ?_,fun base kb nb=>?_⟩
 ·rw[e1];exact B kV doc pm an cdv ct [u] rfl
 ·obtain⟨f',fd',g1,g2,g3,g4,oc',od',osl',g5⟩:=(H base kb nb).ex;rw[hmg] at g1;cases g1;rw[e2] at g5;cases g5;exact g4
def spLaw(K:qac):Sp:=fun vs H Q _=>∃(a:Addr) (ns:List Int),vs=[.ref a]/\SqF K H a (ns.map V.int)/\ns.length<=63/\∀H',Q (.bl true) H'
def walk_M{l:PySem.W.OpenLaw}{q:Program}{loose:List Str}{XP:(Str->Option Value)->Heap->Prop}{YP:World->Heap->Prop}{d:DefRec}{K:Params->qac}{x:Str}{F:List PV->MH->Out PV}(hn:l.most=some 63)(hdf:d.params.defaults=[])(hr:Room k callerA)(hi:PyProof.Rows.importsNone q=true)(htr:l.prog.given.tree=none)
  (hY:∀(w:World) (h:Heap),YP w h->(K w.params).In h)
  (HF:∀(w:World) (mg:Str->Option Value) (fa:Addr) (h:Heap),(K w.params).In h->h.Ns mainGlobals mg->mg d.name=some (.ref fa) ->
   ∃fd:FuncData,(∀(s:Shared) (u:Value),BindsTo s fd ⟨[u],[]⟩ [(x,u)])/\∀base:Heap,(K w.params).In base->base.Ns mainGlobals mg->FnOk l.prog w (K w.params) mg base (CXm l.prog w) k fa fd [x] (spM (K w.params) mg F))
  (ht:∀ns:List Int,ns.length<=63->∃h',F [.frl (ns.map .int)] []=.ok (.bl true) h') :
  PySem.W.WalkO q loose XP YP l.row.toRowW d [] (fun f vs=>PySem.call f vs):=by
 refine L2.walk_of (n:=63) (k:=k) (x:=x) (CX:=fun w=>CXm l.prog w) (sp:=fun w=>spLaw (K w.params)) hn (by decide) hdf hr hi htr hY (fun w mg fa h hK hns hmg=>?_) (fun w H a ns hl hO hS=>?_) fun w H s e s' z=>?_
 ·obtain⟨fd,hb,hF⟩:=HF w mg fa h hK hns hmg;refine⟨fd,hb,fun base kb nb=>(hF base kb nb).imp fun vs H Q E z=>?_⟩;obtain⟨a,ns,rfl,sf,hl,hq⟩:=z;obtain⟨h',e⟩:=ht ns hl;refine⟨[],[.frl (ns.map .int)],[],.cons (.frl sf (RPs.ints ns)) .nil,⟨rfl,List.nodup_nil,fun n a o z _=>by simp at z⟩,?_⟩;rw[e];intro ρ' H' v' _ _ r;cases r;exact hq H'
 ·have sf:SqF (K w.params) H a (ns.map V.int):=by
   rcases hS with (z|z)|z
   ·rcases hO a with y|⟨o,xs,y⟩
    ·rw[y] at z;cases z
    ·rw[y] at z;cases z
   ·exact .inl z
   ·exact .inr z
  exact⟨a,ns,rfl,sf,hl,fun _=>rfl⟩
 ·obtain⟨_,_,_,_,_,_,_,_,_,z⟩:=z;exact z
end
section
variable {α:Type} {σ:PSt} {h:MH}
@[simp] theorem mC_ap:mC v σ h=.ok v h:=rfl
@[simp] theorem mVar_0{v:PV}{r:PSt}:ae 0 (some v::r) h=.ok v h:=rfl
@[simp] theorem mVar_s{i:Nat}{o:Option PV}{r:PSt}:ae (i+1) (o::r) h=ae i r h:=by simp[ae]
@[simp] theorem mBin_ap:ah f a b σ h=(a σ h).bind fun x h1=>(b σ h1).bind fun y h2=>(f x y h2).ne:=rfl
@[simp] theorem mUn_ap:mUn f a σ h=(a σ h).bind fun x h1=>(f x h1).ne:=rfl
@[simp] theorem mCB_ap:mCB f a σ h=(a σ h).bind fun x h1=>(f x h1).ne:=rfl
@[simp] theorem mCall_ap:ay f a σ h=(a σ h).bind f:=rfl
@[simp] theorem tX:mNil σ h=.ok [] h:=rfl
@[simp] theorem qb:ac a r σ h=(a σ h).bind fun x h1=>(r σ h1).bind fun xs h2=>.ok (x::xs) h2:=rfl
@[simp] theorem mLst_ap:bq a σ h=(a σ h).bind newL:=rfl
@[simp] theorem mTup_ap:aY a σ h=(a σ h).bind newT:=rfl
@[simp] theorem mDic_ap:mDic σ h=.ok (.loc h.length) (h++[.dic false [] []]):=rfl
@[simp] theorem mB_ap:mB a σ h=(a σ h).bind fun v h1=>match v with | .bl b=>.ok b h1 | _=>.bad:=rfl
@[simp] theorem mNot_ap:dN a σ h=(a σ h).bind fun b h1=>.ok (!b) h1:=rfl
@[simp] theorem mOr_ap:mOr a b σ h=(a σ h).bind fun x h1=>if x=true then .ok true h1 else b σ h1:=rfl
@[simp] theorem mAndV_ap:ji a b σ h=(a σ h).bind fun x h1=>match x with | .bl c=>if c=true then b σ h1 else .ok (.bl false) h1 | _=>.bad:=rfl
@[simp] theorem mNotV_ap:pP a σ h=(a σ h).bind fun x h1=>match x with | .bl c=>.ok (.bl (!c)) h1 | _=>.bad:=rfl
@[simp] theorem mIfE_ap:mIfE c a b σ h=(c σ h).bind fun x h1=>if x=true then a σ h1 else b σ h1:=rfl
@[simp] theorem qa:mSkip σ h=.nx σ h:=rfl
@[simp] theorem bT:av a b σ h=(a σ h).then b:=rfl
@[simp] theorem ax:(SOut.nx σ h).then k=k σ h:=rfl
@[simp] theorem oA:(SOut.rt v h).then k=.rt v h:=rfl
@[simp] theorem then_bk:(SOut.bk σ h).then k=.bk σ h:=rfl
@[simp] theorem then_ct:(SOut.ct σ h).then k=.ct σ h:=rfl
@[simp] theorem yC:(SOut.rse x σ h).then k=.rse x σ h:=rfl
@[simp] theorem xU:(SOut.exc x σ h).then k=.exc x σ h:=rfl
@[simp] theorem xm:SOut.bad.then k=.bad:=rfl
def Out.rt(o:Out PV)(σ:PSt):SOut:=match o with
 | .ok v h'=>.rt v h'
 | .exc x h'=>.exc x σ h'
 | .bad=>.bad
@[simp] theorem rt_ok:(Out.ok v h).rt σ=.rt v h:=rfl
@[simp] theorem rt_exc:(Out.exc x h:Out PV).rt σ=.exc x σ h:=rfl
@[simp] theorem rt_bad:(Out.bad:Out PV).rt σ=.bad:=rfl
@[simp] theorem mRet_ap:aL m σ h=(m σ h).rt σ:=rfl
def Out.go{α:Type}(o:Out α)(σ:PSt)(k:α->Mst):SOut:=match o with
 | .ok v h'=>k v σ h'
 | .exc x h'=>.exc x σ h'
 | .bad=>.bad
@[simp] theorem az:(Out.ok v h).go σ k=k v σ h:=rfl
@[simp] theorem go_exc:(Out.exc x h:Out α).go σ k=.exc x σ h:=rfl
@[simp] theorem go_bad:(Out.bad:Out α).go σ k=.bad:=rfl
@[simp] theorem mEx_ap:mEx m k σ h=(m σ h).go σ k:=rfl
@[simp] theorem pX:dE m σ h=(m σ h).go σ fun _=>mSkip:=rfl
@[simp] theorem mIf_ap:mIf c a b σ h=(c σ h).go σ fun x=>if x=true then a else b:=rfl
@[simp] theorem mSet_ap:aG i m σ h=(m σ h).go σ fun v σ h=>.nx (σ.set i (some v)) h:=rfl
@[simp] theorem mPar_ap:ss i j m σ h=(m σ h).go σ fun vs σ h=>match vs with | [v,w]=>.nx ((σ.set i (some v)).set j (some w)) h | _=>.bad:=rfl
@[simp] theorem mAsg_ap:gE m g σ h=(m σ h).go σ fun v σ h=>match g v σ h with | .nx σ2 h2=>.nx σ2 h2 | .exc x σ2 h2=>.exc x σ2 h2 | _=>.bad:=rfl
@[simp] theorem gNm_ap:gNm i v σ h=.nx (σ.set i (some v)) h:=rfl
@[simp] theorem gNl_ap:gNl [] σ h=.nx σ h:=rfl
@[simp] theorem gCn_ap:gCn a r (v::vs) σ h=(a v σ h).then (r vs):=rfl
@[simp] theorem gTp_ap:gTp r n (.tup xs) σ h=if xs.length=n then r xs σ h else .bad:=rfl
@[simp] theorem mFor_ap:cR mi g b σ h=(mi σ h).go σ fun it=>mGo it g b it.xs:=rfl
@[simp] theorem mItS_ap:cp m σ h=(m σ h).bind itAny:=rfl
@[simp] theorem yr:bH m σ h=(m σ h).bind fun vs h1=>match vs with
 | [.int j]=>if -(2 ^ 62)<=j/\j<2 ^ 62 then .ok ⟨br 0 j.toNat,[]⟩ h1 else .bad
 | _=>.bad:=rfl
@[simp] theorem gSb_ap:gSb mo mi v σ h=(mo σ h).go σ fun o=>mEx mi fun i σ h=>match lJ o i v h with
 | some h2=>.nx σ h2
 | none=>.bad:=rfl
def SOut.fin(o:SOut):Out PV:=match o with
 | .nx _ h'=>.ok .non h'
 | .rt v h'=>.ok v h'
 | .exc x _ h'=>.exc x h'
 | .rse x _ h'=>.exc x h'
 | _=>.bad
@[simp] theorem fin_exc:(SOut.exc x σ h).fin=.exc x h:=rfl
@[simp] theorem fin_rse:(SOut.rse x σ h).fin=.exc x h:=rfl
@[simp] theorem bK:(SOut.rt v h).fin=.ok v h:=rfl
@[simp] theorem fin_nx:(SOut.nx σ h).fin=.ok .non h:=rfl
theorem kK(e:ps.length=np):ba n np m ps h=(m (b9 n ps) h).fin:=by unfold ba;rw[qan e];rfl
end
section
variable {h:MH} {i j:Int}
@[simp] theorem opAdd_ii:opAdd (.int i) (.int j) h=.ok (.int (i+j)) h:=rfl
@[simp] theorem opSub_ii:opSub (.int i) (.int j) h=.ok (.int (i - j)) h:=rfl
@[simp] theorem opNeg_i:opNeg (.int i) h=.ok (.int (-i)) h:=rfl
@[simp] theorem opLt_ii:opLt (.int i) (.int j) h=.ok (.bl (decide (i<j))) h:=rfl
@[simp] theorem opGt_ii:opGt (.int i) (.int j) h=.ok (.bl (decide (j<i))) h:=rfl
@[simp] theorem opGe_ii:opGe (.int i) (.int j) h=.ok (.bl (decide (j<=i))) h:=rfl
@[simp] theorem opEq_ii:opEq (.int i) (.int j) h=.ok (.bl (decide (i=j))) h:=by simp[opEq,rd,SeqAt.shaped,PyData.canLay0,PyData.depth,PyData.eqv,qbn]
@[simp] theorem opNe_ii:opNe (.int i) (.int j) h=.ok (.bl (!decide (i=j))) h:=by simp[opNe,rd,SeqAt.shaped,PyData.canLay0,PyData.depth,PyData.eqv,qbn]
@[simp] theorem opEq_bb:opEq (.bl a) (.bl b) h=.ok (.bl (a == b)) h:=by simp[opEq,rd,SeqAt.shaped,PyData.canLay0,PyData.depth,PyData.eqv]
@[simp] theorem opNe_bb:opNe (.bl a) (.bl b) h=.ok (.bl (!(a == b))) h:=by simp[opNe,rd,SeqAt.shaped,PyData.canLay0,PyData.depth,PyData.eqv]
theorem fw(hj:j≠0):opMod (.int i) (.int j) h=.ok (.int (i.fmod j)) h:=by simp[opMod,hj]
def tL(hj:j≠0):opFd (.int i) (.int j) h=.ok (.int (i.fdiv j)) h:=by simp[opFd,hj]
def gs(hl:-(2 ^ 64)<i/\i<2 ^ 64):opMul (.int i) (.int j) h=.ok (.int (i * j)) h:=by simp[opMul,IntMulOk.of_left (intBits_le_64 hl.1 hl.2)]
def opMul_r(hl:-(2 ^ 64)<j/\j<2 ^ 64):opMul (.int i) (.int j) h=.ok (.int (i * j)) h:=by simp[opMul,IntMulOk.of_right (intBits_le_64 hl.1 hl.2)]
def rY(hj:0<=j/\j<=1000000/\i.natAbs<2 ^ 64):opPow (.int i) (.int j) h=.ok (.int (i ^ j.toNat)) h:=by simp[opPow,fx,hj]
@[simp] theorem fAbs_i:fAbs [.int i] h=.ok (.int (if i<0 then -i else i)) h:=rfl
@[simp] theorem fMin_ii:fMin [.int i,.int j] h=.ok (.int (if j<i then j else i)) h:=rfl
@[simp] theorem fInt_i:fInt [.int i] h=.ok (.int i) h:=rfl
@[simp] theorem fInt_b:fInt [.bl b] h=.ok (.int (if b then 1 else 0)) h:=rfl
@[simp] theorem fLen_frl:fLen [.frl xs] h=.ok (.int xs.length) h:=rfl
@[simp] theorem fLen_tup:fLen [.tup xs] h=.ok (.int xs.length) h:=rfl
theorem fZ(hl:xs.length<=1000):newT xs h=.ok (.tup xs) h:=by
 unfold newT;rw[qan (qaI hl (by decide))]
def i7(hl:xs.length<=1000):newL xs h=.ok (.loc h.length) (h++[.lst xs]):=by
 unfold newL;rw[qan (qaI hl (by decide))]
@[simp] theorem newT_0:newT [] h=.ok (.tup []) h:=fZ (by decide)
@[simp] theorem newT_1:newT [a] h=.ok (.tup [a]) h:=fZ (by simp)
@[simp] theorem newT_2:newT [a,b] h=.ok (.tup [a,b]) h:=fZ (by simp)
@[simp] theorem newT_3:newT [a,b,c] h=.ok (.tup [a,b,c]) h:=fZ (by simp)
theorem gw(hl:m<n):ixN n (m:Int)=some m:=by unfold ixN;rw[qan (by lia),qan (by lia)];simp
@[simp] theorem atI_0:atI (a::r) 0=some a:=cZ (j:=0) rfl
@[simp] theorem atI_1:atI (a::b::r) 1=some b:=cZ (j:=1) rfl
@[simp] theorem atI_2:atI (a::b::c::r) 2=some c:=cZ (j:=2) rfl
@[simp] theorem atI_3:atI (a::b::c::d::r) 3=some d:=cZ (j:=3) rfl
def Out.ofO(o:Option PV)(h:MH):Out PV:=match o with
 | some v=>.ok v h
 | none=>.bad
@[simp] theorem ofO_some:Out.ofO (some v) h=.ok v h:=rfl
@[simp] theorem opIx_tup:aC (.tup xs) (.int i) h=Out.ofO (atI xs i) h:=rfl
@[simp] theorem opIx_frl:aC (.frl xs) (.int i) h=Out.ofO (atI xs i) h:=rfl
theorem i3(e:h[n]?=some (.lst xs)):aC (.loc n) (.int i) h=Out.ofO (atI xs i) h:=by
 simp only[aC,e];rfl
def lH(e:h[n]?=some (.lst xs)):lJ (.loc n) (.int i) v h=(ixN xs.length i).map fun p=>h.set n (.lst (xs.set p v)):=by simp only[lJ,e]
@[simp] theorem itAny_tup:itAny (.tup xs) h=.ok ⟨xs,[]⟩ h:=rfl
@[simp] theorem itAny_frl:itAny (.frl xs) h=.ok ⟨xs,[]⟩ h:=rfl
@[simp] theorem ok_none:(⟨xs,[]⟩:MIt).ok h↔True:=⟨fun _=>trivial,fun _ p hp=>nomatch hp⟩
@[simp] theorem ok_some:(⟨xs,[(n,zs)]⟩:MIt).ok h↔h[n]?=some (.lst zs):=by
 constructor
 ·intro q;exact q (n,zs) (by simp)
 ·intro q p hp;have e:p=(n,zs):=qav.mp hp;subst e;exact q
end
def SOut.turn(o:SOut)(k:Mst):SOut:=match o with
 | .nx σ2 h2=>k σ2 h2
 | .ct σ2 h2=>k σ2 h2
 | .bk σ2 h2=>.nx σ2 h2
 | .rt v h2=>.rt v h2
 | .exc e σ2 h2=>.exc e σ2 h2
 | .rse e σ2 h2=>.rse e σ2 h2
 | .bad=>.bad
@[simp] theorem xp:(SOut.rse x σ h).turn k=.rse x σ h:=rfl
@[simp] theorem xb:(SOut.exc x σ h).turn k=.exc x σ h:=rfl
@[simp] theorem kH:(SOut.nx σ h).turn k=k σ h:=rfl
@[simp] theorem turn_ct:(SOut.ct σ h).turn k=k σ h:=rfl
@[simp] theorem turn_bk:(SOut.bk σ h).turn k=.nx σ h:=rfl
@[simp] theorem turn_rt:(SOut.rt v h).turn k=.rt v h:=rfl
theorem mGo_nil(e:it.ok h):mGo it g b [] σ h=.nx σ h:=by
 rw[mGo];dsimp only;rw[qan e]
def ye(e:it.ok h)(eg:g x σ h=.nx σ1 h1):mGo it g b (x::r) σ h=(b σ1 h1).turn (mGo it g b r):=by
 rw[mGo];dsimp only;rw[qan e,eg];rfl
def sk(I:Nat->Shared->Prop)
  (turn:∀n s,I n s->wpAny (model prog w) A (pyNext it) (fun r s₁=>match r with
   | none=>R (.ok .next) s₁
   | some v=>wpAny (model prog w) A (letOwnedTupleGo target it v) (fun _ s₂'=>wpAny (model prog w) A (assign target env v) (fun _ s₂ =>
     wpAny (model prog w) A (forIn ifs true fun c r=>if r=true then do let ok <-isTrue c env (eval c env);pure (ForInStep.yield ok) else pure (ForInStep.yield r)) (fun ok s₃ =>
      if ok=true then wpAny (model prog w) A (eval elt env) (fun x s₄ =>
       wpAny (model prog w) A (call (.builtin "list.append") [acc,x]) (fun _ s₅=>∃m,m<n/\I m s₅) (fun _ _=>False) s₄) (fun _ _=>False) s₃
      else ∃m,m<n/\I m s₃) (fun _ _=>False) s₂) (fun _ _=>False) s₂') (fun _ _=>False) s₁) (fun _ _=>False) s)
  (n:Nat) (h:I n s) :
  codeAny (model prog w) A (.compLoop (.ListComp elt [⟨target,iter,ifs,0⟩] scope pos) 0 it acc env) R s:=by
 refine codeAny_loop rfl I (fun n s hI=>?_) n h;show wpAny _ A ((compTurn (.ListComp elt [⟨target,iter,ifs,0⟩] scope pos) 0 it acc env).onRaise (fun x=>do noteFrame x env;theTreesLotGoes x)) _ _ s;refine wpAny_noted ?_;rw[compTurn_list];have no:∀(e:Value) (s':Shared),False->notedBy (model prog w) A env (fun e s'=>R (.error e) s') e s':=fun _ _ z=>z.elim;refine qab (wpAny_standAt (qab (wpAny_mono (turn n s hI) (fun r s₁ h₁=>?_) fun _ _ h'=>h'.elim)))
 cases r with
 | none=>exact qaw h₁
 | some v =>
  refine qab (wpAny_mono h₁ (fun _ s₂' h₂'=>?_) fun _ _ h'=>h'.elim);refine qab (wpAny_mono h₂' (fun _ s₂ h₂=>qab (wpAny_mono h₂ (fun ok s₃ h₃=>?_) fun _ _ h'=>h'.elim)) fun _ _ h'=>h'.elim)
  cases ok with
  | false=>exact qaw ⟨rfl,h₃⟩
  | true =>
   exact qab (qab (wpAny_mono h₃ (fun x s₄ h₄=>qab (wpAny_mono h₄ (fun _ s₅ h₅=>qaw (qaw ⟨rfl,h₅⟩)) fun _ _ h'=>h'.elim)) fun _ _ h'=>h'.elim))
def iT(env:Env):List (Str × NameKind)->List (Str × Addr)->List (Str × Addr)
 | [],cs=>cs
 | (n,k)::r,cs=>iT env r (if (k == NameKind.free)=true then (n,(env.cells.lookup n).getD 0)::cs else cs)
def pH(h:∀y∈scope.names,y.2=.free->∃c,env.cells.lookup y.1=some c):closureFor scope env=pure (iT env scope.names []):=by
 have key:∀(l:List (Str × NameKind)) (cs:List (Str × Addr)),(∀y∈l,y.2=.free->∃c,env.cells.lookup y.1=some c) ->
   (forIn l cs fun (x:Str × NameKind) (r:List (Str × Addr))=>if (x.2 == NameKind.free)=true then (do let a <-cellOf env x.1;pure (ForInStep.yield ((x.1,a)::r)):Sem _) else pure (ForInStep.yield r))=(pure (iT env l cs):Sem _):=by
  intro l
  induction l with
  | nil=>intro cs _;rfl
  | cons y l ih =>
   intro cs hh;obtain⟨n,k⟩:=y;rw[qcv];have hl:=fun z hz=>hh z (qaa _ hz);by_cases hk:(k == NameKind.free)=true
   ·obtain⟨c,hc⟩:=hh (n,k) qbe (by simpa using hk);dsimp only at hc ⊢;rw[qan hk];have hco:cellOf env n=pure c:=by unfold cellOf;rw[hc]
    rw[hco];refine (ih ((n,c)::cs) hl).trans ?_;simp only[iT,hk,if_true,hc,Option.getD_some]
   ·dsimp only;rw[qay hk];refine (ih cs hl).trans ?_;simp[iT,hk]
 unfold closureFor;exact (congrArg (fun z=>z >>= fun r=>pure r) (key scope.names [] h)).trans rfl
def lg:∀(l:List (Str × NameKind)) (cs:List (Str × Addr)),(∀a,cs.lookup x=some a->a=(env.cells.lookup x).getD 0)->(∀a,(iT env l cs).lookup x=some a->a=(env.cells.lookup x).getD 0)/\((∃k,(x,k)∈l/\k=.free)\/(∃a,cs.lookup x=some a)->∃a,(iT env l cs).lookup x=some a):=by
 intro l
 induction l with
 | nil =>
  intro cs h;refine⟨h,fun z=>?_⟩;rcases z with ⟨k,z,_⟩|z
  ·cases z
  ·exact z
 | cons y r ih =>
  intro cs h;obtain⟨n,k⟩:=y;have h':∀a,(if (k == NameKind.free)=true then (n,(env.cells.lookup n).getD 0)::cs else cs).lookup x=some a->a=(env.cells.lookup x).getD 0:=fun a ha=>by
   split at ha
   ·rw[qaO] at ha
    split at ha
    ·rename_i e
     have:x=n:=by simpa using e
     subst this;exact (Option.some.inj ha).symm
    ·exact h a ha
   ·exact h a ha
  obtain⟨i1,i2⟩:=ih _ h';refine⟨i1,fun z=>i2 ?_⟩;rcases z with ⟨k',z,hk⟩|⟨a,z⟩
  ·rcases qam.mp z with e|e
   ·cases e;right;subst hk;exact⟨(env.cells.lookup x).getD 0,by simp⟩
   ·exact .inl ⟨k',e,hk⟩
  ·right;split
   ·rw[qaO];split
    ·exact⟨_,rfl⟩
    ·exact⟨a,z⟩
   ·exact⟨a,z⟩
def cu{env:Env}(hk:env.scope.kind=.function):∀{names:List (Str × NameKind)} {x:Str} {k:NameKind},names.lookup x=some k ->
  (names.map fun (n,k)=>if (k == NameKind.free && env.scope.kind == .function && env.kindOf n == some .cell) then (n,NameKind.cell) else (n,k)).lookup x=some (if k=.free/\env.kindOf x=some .cell then .cell else k):=by
 intro names
 induction names with
 | nil=>intro x k h;simp at h
 | cons y r ih0 =>
  intro x k h;obtain⟨n,k'⟩:=y;have ih:=@ih0 x k;show List.lookup x ((if (k' == NameKind.free && env.scope.kind == .function && env.kindOf n == some .cell)=true then (n,NameKind.cell) else (n,k'))::_)=_
  cases hx:x == n with
  | true =>
   have e:x=n:=by simpa using hx
   subst e;simp only[qaO,hx] at h;cases h;by_cases z:k=.free/\env.kindOf x=some .cell
   ·rw[qan (by simp[z.1,z.2,hk]),qan z];simp[qaO]
   ·rw[qay (by simp[hk];intro q1 q2;exact z ⟨q1,q2⟩),qay z];simp[qaO]
  | false =>
   simp only[qaO,hx] at h;by_cases hc:(k' == NameKind.free && env.scope.kind == .function && env.kindOf n == some .cell)=true
   ·rw[qan hc];simp only[qaO,hx];exact ih h
   ·rw[qay hc];simp only[qaO,hx];exact ih h
def dw(X:Cx)(scope:Scope)(cl:List (Str × Addr))(s₃:Shared)(H₃:Hp)(fp:List Addr)(N':List Str):Cx :=
 { X with N:=N',s₀:=s₃,H₀:=H₃,env:=compEnvC scope cl s₃.heap.objs.size X.env,outer:=X.stack,ex:=fp,fn:=fun x=>decide (scope.names.lookup x=some .cell),pn:=[],xe:=fun _ _=>False}
structure CompOk (X:Cx) (N:List Str) (scope:Scope) (vars frees:List Str) (fm:List Nat):Prop where
 kind:scope.kind=.function
 cell:∀y∈scope.names,y.2=.cell->scope.names.lookup y.1=some .cell
 names:∀y∈scope.names,y.2=.local->scope.names.lookup y.1=some .local
 hv:∀x∈vars,scope.names.lookup x=some .local\/scope.names.lookup x=some .cell
 hf:∀x∈frees,scope.names.lookup x=some .free
 all:∀y∈scope.names,y.2=.free->y.1∈frees
 fm:fm.map (fun i=>N[i]?)=frees.map some
 cl:∀x∈frees,X.env.kindOf x=some .cell
def cSt(nv:Nat)(fm:List Nat)(σ:PSt):PSt:=List.replicate nv none++fm.map fun i=>(σ[i]?).getD none
def cGo(it:MIt)(n:Nat)(gt:Mg)(mt:Mx Bool)(me:Mx PV):List PV->PSt->MH->Out Unit
 | [],_,h=>if it.ok h then .ok () h else .bad
 | x::r,σ,h=>if it.ok h then (match gt x σ h with
  | .nx σ1 h1=>(mt σ1 h1).ne.bind fun b h2=>if b=true then (me σ1 h2).ne.bind fun v h3=>(match h3[n]? with
    | some (.lst ys)=>if ys.length<sizeLine then cGo it n gt mt me r σ1 (h3.set n (.lst (ys++[v]))) else .bad
    | _=>.bad) else cGo it n gt mt me r σ1 h2
  | _=>.bad) else .bad
def bh(nv:Nat)(fm:List Nat)(mi:Mx MIt)(gt:Mg)(mt:Mx Bool)(me:Mx PV):Mx PV:=fun σ h =>
 (mi σ h).bind fun it h1=>(cGo it h1.length gt mt me it.xs (cSt nv fm σ) (h1++[.lst []])).bind fun _ h3=>.ok (.loc h1.length) h3
def MTs(X:Cx)(ifs:List Expr)(m:Mx Bool):Prop :=
 ∀(F6:List (Addr × Obj)) (s:Shared) (σ:L2.St) (H:Hp) (Q:Bool->Hp->Prop),Inv X F6 σ H s->tM X REq m σ H Q ->
  wpAny (model X.prog X.w) X.A (forIn ifs true fun c r=>if r=true then do let ok <-isTrue c X.env (eval c X.env);pure (ForInStep.yield ok) else pure (ForInStep.yield r)) (TP X F6 σ Q) X.xe s
def mTrue:Mx Bool:=fun _ h=>.ok true h
def bx:MTs X [] mTrue:=fun F6 s σ H Q I ⟨ρ,σp,h,rs,rh,q⟩=>wpAny_tests_nil ⟨H,I,q ρ H true (Le.refl _ _) rh rfl⟩
def kL(h:MT X c m):MTs X [c] m:=fun F6 s σ H Q I q=>wpAny_tests_one (h F6 s σ H Q I q)
inductive CS (X:Cx) (ρ:List Addr) (H:Hp) (σp:PSt) (gt:Mg) (mt:Mx Bool) (me:Mx PV) (σ0:PSt) (Q:VK) (J:It) (H1:Hp):Prop
 | mk (ρ1:List Addr) (it:MIt) (h1:MH) (l:Le ρ H ρ1 H1) (rh:RH X.K X.mg ρ1 H1 h1) (j:lR X ρ1 H1 it J) (q:Ful X (RV' X) σp ρ1 H1 ((cGo it h1.length gt mt me it.xs σ0 (h1++[.lst []])).bind fun _ h3=>.ok (.loc h1.length) h3) Q):CS X ρ H σp gt mt me σ0 Q J H1
inductive CI (X Y:Cx) (it:MIt) (tn:Nat->Heap->Prop) (fp ρ0:List Addr) (H0:Hp) (σp:PSt) (n1:Nat) (gt:Mg) (mt:Mx Bool) (me:Mx PV) (Q:VK) (n:Nat) (s6:Shared):Prop
 | mk (i:Nat) (σ6:L2.St) (H6:Hp) (ρ6:List Addr) (σp6:PSt) (h6:MH) (e:n=it.xs.length - i) (l:i<=it.xs.length) (v:Inv Y [] σ6 H6 s6) (t:tn i s6.heap) (f:∀b∈fp,H6 b=none) (le:Le ρ0 H0 ρ6 H6) (rs:RS X.K ρ6 H6 σp6 σ6) (rh:RH X.K X.mg ρ6 H6 h6)
   (q:Ful X (RV' X) σp ρ6 H6 ((cGo it n1 gt mt me (it.xs.drop i) σp6 h6).bind fun _ h3=>.ok (.loc n1) h3) Q):CI X Y it tn fp ρ0 H0 σp n1 gt mt me Q n s6
def pC
  (hQ:Q (newEnv scope s.heap.objs.size globals (cellsFrom (s.heap.objs.size+1) scope.names closure) qual none .none (some env) builtinsNs) { s with heap:=pushCells (s.heap.push { cls:=.type "dict",data:=.dict #[]}) scope.names}) :
  wpAny M A (newFunctionEnv scope globals closure [] qual none .none (some env)) Q E s:=by
 simp only[newFunctionEnv,Option.isSome_some,if_true];refine qab (wpAny_alloc ?_);refine qab (wpAny_layCells _ (fun name kind cells=>by cases hkc:kind == NameKind.cell <;> simp[hkc]) _ _ _ _ ?_);rw[show ({ s with heap:=s.heap.push { cls:=.type "dict",data:=.dict #[]}}:Shared).heap.objs.size=s.heap.objs.size+1 from qba ..];rw[qcA];exact qab (qaw (qaw hQ))
def cW:∀(names:List (Str × NameKind)) (n:Nat) (acc:List (Str × Addr)),cellsFrom n names acc=cellsFrom n names []++acc
 | [],n,acc=>rfl
 | (x,k)::r,n,acc=>by
  unfold cellsFrom;split
  ·rw[cW r (n+1) ((x,n)::acc),cW r (n+1) [(x,n)]];simp
  ·exact cW r n acc
def fc:∀(names:List (Str × NameKind)) (n:Nat) (x:Str),(∃c,(x,c)∈cellsFrom n names [])↔(x,NameKind.cell)∈names
 | [],n,x=>by simp[cellsFrom]
 | (y,k)::r,n,x=>by
  unfold cellsFrom;split
  ·rename_i hk
   have hk':k=NameKind.cell:=by simpa using hk
   subst hk';rw[cW];constructor
   ·rintro⟨c,hc⟩;rcases qaL.mp hc with hc|hc
    ·exact qaa _ ((fc r (n+1) x).mp ⟨c,hc⟩)
    ·have:x=y:=by simp at hc;exact hc.1
     rw[this];exact qbe
   ·intro h;rcases qam.mp h with e|h
    ·have:x=y:=by simpa using e
     subst this;exact⟨n,qaq _ (by simp)⟩
    ·obtain⟨c,hc⟩:=(fc r (n+1) x).mpr h;exact⟨c,qaV _ hc⟩
  ·rename_i hk
   rw[fc r n x];constructor
   ·exact qaa _
   ·intro h;rcases qam.mp h with e|h
    ·exfalso
     have:NameKind.cell=k:=by simpa using (Prod.mk.inj e).2
     rw[<-this] at hk;exact hk rfl
    ·exact h
def iS{α:Type}:∀(a b:List (Str × α)) (x:Str),(a++b).lookup x=(a.lookup x).or (b.lookup x)
 | [],b,x=>rfl
 | (y,v)::a,b,x=>by
  rw[List.cons_append,qaO,qaO]
  cases x == y with
  | true=>rfl
  | false=>exact iS a b x
def qf{α:Type}:∀(a:List (Str × α)) (x:Str),a.lookup x=none->∀c,(x,c)∉a
 | [],x,_,c,h=>nomatch h
 | (y,v)::a,x,e,c,h=>by
  rw[qaO] at e
  cases z:x == y with
  | true=>rw[z] at e;cases e
  | false =>
   rw[z] at e;rcases qam.mp h with q|q
   ·have:x=y:=(Prod.mk.inj q).1
    rw[this] at z;simp at z
   ·exact qf a x e c q
section
variable {X:Cx} {N W G:List Str} {k:Nat}
def oY(g:Good X N W G k){tg iter elt:Expr}{ifs:List Expr}{scope:Scope}{pos:Pos}{vars frees G':List Str}{fm:List Nat}{mi:Mx MIt}{gt:Mg}{mt:Mx Bool}{me:Mx PV}(C:CompOk X N scope vars frees fm)
  (nd:(vars++frees).Nodup) (hgl:∀x∈G',scope.names.lookup x=some .globalImplicit) (dbg:∀x∈(vars++frees)++G',(x == ("__debug__":Str))=false/\(x == ("__classdict__":Str))=false/\x≠"__name__")
  (hi:MI X tg iter mi)
  (hY:∀Y:Cx,Y.prog=X.prog->Y.w=X.w->Y.K=X.K->Y.mg=X.mg->Y.base=X.base->Y.env.scope=relabel scope X.env->Good Y (vars++frees) vars G' k->MG Y tg gt/\MTs Y ifs mt/\ME Y elt me)
  (hs:∀x,foldedSetIterable iter X.env x=pure x) {use:Option (Value->Sem Unit)} {Qv:Value->Shared->Prop} {pp:Pos} {F6:List (Addr × Obj)} {s:Shared} {σ:L2.St} {H:Hp} {Q:VK} (I:Inv X F6 σ H s) (tm:tM X (RV' X) (bh vars.length fm mi gt mt me) σ H Q)
  (fin:∀(acc C:Addr) (H6:Hp) (s7:Shared) (m7:Str->Option Value),Inv X F6 σ H6 s7->H6 C=none->s7.heap.Ns C m7->C≠X.env.locals->X.s₀.heap.objs.size<=C->C∉X.fs->(∀x c,X.env.cells.lookup x=some c->c≠C)->(∀p∈X.pn++F6,p.1≠C)->Q (.ref acc) H6 ->
   compPost (model X.prog X.w) X.A X.xe use Qv (.ref acc) C (.ok .next) s7) :
  wpAny (model X.prog X.w) X.A (comprehension (.ListComp elt [⟨tg,iter,ifs,0⟩] scope pos) scope X.env pp (newList []) false (eval iter X.env) use) Qv X.xe s:=by
 obtain⟨ρ,σp,h,rs,rh,q⟩:=tm;have hfree:∀y∈scope.names,y.2=.free->∃c,X.env.cells.lookup y.1=some c:=fun y hy e=>I.ok.has y.1 (.inl (C.cl _ (C.all y hy e)));refine wpAny_comprehension_free (use:=use) rfl hs (pH hfree) C.kind C.names ?_;generalize hcl:iT X.env scope.names []=cl;have clk:∀x a,cl.lookup x=some a->X.env.cells.lookup x=some a\/((X.env.cells.lookup x)=none/\a=0):=fun x a e=>by
  rw[<-hcl] at e
  have:=(lg (env:=X.env) (x:=x) scope.names [] (fun a z=>by simp at z)).1 a e
  cases z:X.env.cells.lookup x with
  | none=>right;rw[z] at this;exact⟨rfl,this⟩
  | some c=>left;rw[z] at this;rw[this];rfl
 have clf:∀x∈frees,∃c,cl.lookup x=some c/\X.env.cells.lookup x=some c:=fun x hx=>by
  obtain⟨c,hc⟩:=I.ok.has x (.inl (C.cl x hx));have hm:(∃kk,(x,kk)∈scope.names/\kk=.free):=⟨.free,PySem.mem_of_lookup (C.hf x hx),rfl⟩;obtain⟨a,ha⟩:=(lg (env:=X.env) (x:=x) scope.names [] (fun a z=>by simp at z)).2 (.inl hm);rw[hcl] at ha;rcases clk x a ha with z|⟨z,_⟩
  ·rw[hc] at z;cases z;exact⟨c,ha,hc⟩
  ·rw[hc] at z;cases z
 have clin:∀x a,cl.lookup x=some a->X.env.cells.lookup x=some a/\x∈frees:=fun x a e=>by
   have only:∀(l:List (Str × NameKind)) (cs:List (Str × Addr)) (x:Str) (a:Addr),(iT X.env l cs).lookup x=some a->(x,NameKind.free)∈l\/cs.lookup x=some a:=by
    intro l
    induction l with
    | nil=>intro cs x a e;exact .inr e
    | cons y l ih =>
     intro cs x a e;obtain⟨n,kk⟩:=y;rcases ih _ x a e with z|z
     ·exact .inl (qaa _ z)
     ·split at z
      ·rename_i hk
       have hk':kk=NameKind.free:=by simpa using hk
       rw[qaO] at z
       split at z
       ·rename_i e'
        have:x=n:=by simpa using e'
        subst this;subst hk';exact .inl qbe
       ·exact .inr z
      ·exact .inr z
   have e':=e;rw[<-hcl] at e';rcases only _ _ x a e' with z'|z'
   ·refine⟨?_,C.all _ z' rfl⟩;rcases clk x a e with z|⟨z,_⟩
    ·exact z
    ·obtain⟨c,hc⟩:=hfree _ z' rfl;rw[z] at hc;cases hc
   ·simp at z'
 have start:=hi F6 s σ H (CS X ρ H σp gt mt me (cSt vars.length fm σp) Q) I
  ⟨ρ,σp,h,rs,rh,Ful.bind q fun ρ1 H1 it J h1 _ l1 rh1 jr q1=>⟨ρ1,it,h1,l1,rh1,jr,q1⟩⟩
 refine wpAny_mono start (fun x s₁ h₁=>wpAny_mono h₁ (fun itv s₂ h₂=>?_) fun _ _ e=>e) fun _ _ e=>e;obtain⟨ita,fp,tn,J,H2,rfl,I2,T,st2,f2,ρ1,it,h1,l1,rh1,jr,q1⟩:=h₂;refine wpAny_newObj_type ?_;have hf2:H2 s₂.heap.objs.size=none:=I2.hok.fresh (qai _);have I3:=I2.lnew (ys:=[]) (its:=[]) (t':=s₂.toks) .nil (qbj _);obtain⟨rh3,l3⟩:=rh1.new hf2 (o:=.lst []) (ho:=.lst []) ⟨[],rfl,.nil⟩;generalize hs3:({ s₂ with heap:=s₂.heap.push { cls:=.type "list",data:=.seq ([]:List Value).toArray},toks:=s₂.toks}:Shared)=s₃ at I3;generalize hH3:upd H2 s₂.heap.objs.size (.lst [])=H₃ at I3 rh3 l3;have hacc:H₃ s₂.heap.objs.size=some (.lst []):=by rw[<-hH3];exact bY
 have es3:s₃.heap=s₂.heap.push { cls:=.type "list",data:=.seq ([]:List Value).toArray}:=by rw[<-hs3]
 have st3:tn 0 s₃.heap:=T.keep _ _ _ st2 fun b _ o e=>by rw[es3];exact qad _ e
 have fp3:∀b∈fp,gS X F6 H₃ b:=fun b hb=>by
  obtain⟨a0,a1⟩:=f2 b hb;refine⟨?_,a1⟩;obtain⟨o,eo,_⟩:=T.obj _ _ st2 b hb;rw[<-hH3,aW (qaS (qas eo))];exact a0
 have goal3:wpAny (model X.prog X.w) X.A (newFunctionEnv scope X.env.globals cl [] X.env.qual none .none (some X.env)) (fun cenv s₄ =>
    codeAny (model X.prog X.w) X.A (.compStart (.ListComp elt [⟨tg,iter,ifs,0⟩] scope pos) 0 (.ref ita) (.ref s₂.heap.objs.size) { cenv with scope:=relabel scope X.env}) (compPost (model X.prog X.w) X.A X.xe use Qv (.ref s₂.heap.objs.size) cenv.locals) s₄) X.xe s₃:=by
  refine pC ?_;have keep4:∀b o,s₃.heap.get? b=some o->(pushCells (s₃.heap.push { cls:=.type "dict",data:=.dict #[]}) scope.names).get? b=some o:=fun b o e=>pushCells_keeps _ _ b o (qad _ e);have hns:=(Heap.Ns.new s₃.heap (.type "dict")).keeps (pushCells_keeps scope.names _);have okc:=cellsFrom_ok scope.names (s₃.heap.push { cls:=.type "dict",data:=.dict #[]}) (s₃.heap.objs.size+1) [] ⟨fun _ _ hm=>(nomatch hm),List.Pairwise.nil⟩ (by rw[qba];exact qai _);rw[qba] at okc;rw[cW];have hin:=fc scope.names (s₃.heap.objs.size+1);generalize cellsFrom (s₃.heap.objs.size+1) scope.names []=cn at okc hin ⊢;generalize pushCells (s₃.heap.push { cls:=.type "dict",data:=.dict #[]}) scope.names=h' at keep4 hns okc ⊢;dsimp only[newEnv];have csl:∀x c,(cn++cl).lookup x=some c->((x,c)∈cn/\scope.names.lookup x=some .cell/\s₃.heap.objs.size<c/\h'.IsCell c none)\/(X.env.cells.lookup x=some c/\scope.names.lookup x=some .free):=fun x c e=>by
   rw[iS] at e
   cases z:cn.lookup x with
   | some c' =>
    rw[z] at e
    have:c'=c:=by simpa using e
    subst this;have m:=PySem.mem_of_lookup z;obtain⟨q1,q2⟩:=okc.empty x c' m;exact .inl ⟨m,C.cell _ ((hin x).mp ⟨c',m⟩) rfl,q2,q1⟩
   | none =>
    rw[z] at e;obtain⟨q1,q2⟩:=clin x c (by simpa using e);exact .inr ⟨q1,C.hf x q2⟩
  have csf:∀x c,x∈frees->cl.lookup x=some c->(cn++cl).lookup x=some c:=fun x c hx e=>by
   rw[iS]
   cases z:cn.lookup x with
   | none=>simpa using e
   | some c' =>
    have:=C.cell _ ((hin x).mp ⟨c',PySem.mem_of_lookup z⟩) rfl
    rw[C.hf x hx] at this;cases this
  have old:∀x c,X.env.cells.lookup x=some c->c<s₃.heap.objs.size:=fun x c e=>by
   obtain⟨v,qc⟩:=I3.cell x c e;exact qc.lt
  have ok:(dw X scope (cn++cl) s₃ H₃ fp (vars++frees)).Ok:=by
   refine⟨I3.ok.mod,C.kind,I3.ok.glob,I3.ok.blt,qai _,fun x y c h1 h2=>?_,fun x hx=>?_,fun x c hx e=>?_,I3.ok.hd,I3.ok.frames,.inl rfl,
    fun b hb=>⟨?_,fun x c e z=>?_⟩,I3.bs,qaI I3.ok.bsz I3.sz,fun b o e hb=>?_,fun b hb z=>?_,I3.stack,I3.stkFree,I3.ok.tree,I3.ok.top⟩
   ·rcases csl x c h1 with ⟨a1,_,a2,_⟩|⟨a1,_⟩ <;> rcases csl y c h2 with ⟨b1,_,b2,_⟩|⟨b1,_⟩
    ·exact PySem.name_of_addr okc.apart a1 b1
    ·exact absurd (qcu a2 (old y c b1)) (qbb _)
    ·exact absurd (qcu b2 (old x c a1)) (qbb _)
    ·exact I3.ok.inj x y c a1 b1
   ·
    have hx':(relabel scope X.env).names.lookup x=some .cell\/(relabel scope X.env).names.lookup x=some .free:=hx
    cases e:scope.names.lookup x with
    | none =>
     exfalso;have nn:∀(l:List (Str × NameKind)),l.lookup x=none->(l.map fun (n,k)=>if (k == NameKind.free && X.env.scope.kind == .function && X.env.kindOf n == some .cell) then (n,NameKind.cell) else (n,k)).lookup x=none:=by
      intro l
      induction l with
      | nil=>intro _;rfl
      | cons y l ih =>
       intro hl;obtain⟨n,kk⟩:=y;rw[qaO] at hl
       split at hl
       ·cases hl
       ·rename_i hx2
        rw[qao];dsimp only
        split <;> (rw[qaO];simp only[hx2];exact ih hl)
     have e2:=nn scope.names e;rcases hx' with z|z
     ·rw[show (relabel scope X.env).names.lookup x=none from e2] at z;cases z
     ·rw[show (relabel scope X.env).names.lookup x=none from e2] at z;cases z
    | some kk =>
     have e2:=cu (env:=X.env) I3.ok.kind e;have hk:kk=.free\/kk=.cell:=by
      rcases hx' with z|z
      ·rw[show (relabel scope X.env).names.lookup x=_ from e2] at z;have z':=Option.some.inj z;by_cases zz:kk=.free/\X.env.kindOf x=some .cell
       ·exact .inl zz.1
       ·rw[qay zz] at z';exact .inr z'
      ·rw[show (relabel scope X.env).names.lookup x=_ from e2] at z;have z':=Option.some.inj z;by_cases zz:kk=.free/\X.env.kindOf x=some .cell
       ·exact .inl zz.1
       ·rw[qay zz] at z';exact .inl z'
     rcases hk with hk|hk
     ·subst hk;have hf:=C.all _ (PySem.mem_of_lookup e) rfl;obtain⟨c,h1,_⟩:=clf x hf;exact⟨c,csf x c hf h1⟩
     ·subst hk;obtain⟨c,hc⟩:=(hin x).mpr (PySem.mem_of_lookup e);show ∃c,(cn++cl).lookup x=some c;rw[iS]
      cases z:cn.lookup x with
      | some c'=>exact⟨c',rfl⟩
      | none=>exact absurd hc (qf cn x z c)
   ·have hx':=of_decide_eq_true hx;rcases csl x c e with ⟨_,_,q,_⟩|⟨_,q⟩
    ·exact qbh q
    ·rw[q] at hx';cases hx'
   ·obtain⟨o,eo,_⟩:=T.obj _ _ st3 b hb;exact qaS (qas eo)
   ·rcases csl x c e with ⟨_,_,q,_⟩|⟨q,_⟩
    ·obtain⟨o,eo,_⟩:=T.obj _ _ st3 b hb;exact absurd (qcu q (z▸qas eo)) (qbb _)
    ·exact (fp3 b hb).2.2.2.2.1 x c q z
   ·obtain⟨_,_,_,h4,_⟩:=fp3 b hb;rcases h4 with h4|h4
    ·exact I3.ok.noex b o e h4
    ·exact absurd (qat (qas e) (qaI I3.ok.bsz h4)) (qbb _)
   ·obtain⟨_,h2,h3,_⟩:=fp3 b hb;rcases qam.mp (I3.stkSub b z) with e|e
    ·exact h2 e
    ·exact h3 e
  obtain⟨mX,nsX,lX⟩:=I3.loc;have l13:Le ρ H (ρ1++[s₂.heap.objs.size]) H₃:=l1.trans l3
  let σY:L2.St:=List.replicate vars.length none++fm.map fun i=>(σ[i]?).getD none
  have fml:fm.length=frees.length:=by have:=congrArg List.length C.fm;simpa using this
  have invY:Inv (dw X scope (cn++cl) s₃ H₃ fp (vars++frees)) [] σY H₃ { s₃ with heap:=h',toks:=s₃.toks}:=by
   refine⟨ok,rfl,I3.bare,Un.kept keep4,⟨_,hns,fun i x v hN hv hvis=>?_⟩,fun x c e=>?_,?_,fun x c e=>?_,fun p hp=>absurd (show p∈([]:List (Addr × Obj)) from hp) (by simp),I3.hok.kept keep4,?_⟩
   ·have hN':(vars++frees)[i]?=some x:=hN;have hiv:vars.length<=i:=by
     by_cases z:vars.length<=i
     ·exact z
     ·exfalso;have hv':σY[i]?=some (some v):=hv;rw[qal (by simp;ext),qaW] at hv'
      split at hv' <;> cases hv'
    have hv':σY[i]?=some (some v):=hv;rw[qaE (by simpa using hiv),qbi,qax] at hv';rw[qaE hiv] at hN'
    cases ej:fm[i - vars.length]? with
    | none=>rw[ej] at hv';cases hv'
    | some j =>
     rw[ej] at hv';have ef:=congrArg (fun l=>l[i - vars.length]?) C.fm;simp only[qax,ej,hN',qbs] at ef;have ef':N[j]?=some x:=by simpa using ef
     have ev:σ[j]?=some (some v):=by
      have:(σ[j]?).getD none=some v:=by simpa using hv'
      cases z:σ[j]? with
      | none=>rw[z] at this;cases this
      | some o=>rw[z] at this;simp at this;rw[this]
     have hx:x∈frees:=qbq hN';have vis:Vis X.env.scope x:=.inr (.inl (C.cl x hx));obtain⟨u,ru,look⟩:=lX j x v (by rw[g.hN];exact ef') ev vis;refine⟨u,ru,.inr ⟨?_,?_⟩⟩
     ·left;show (relabel scope X.env).names.lookup x=some .cell
      have:=cu (env:=X.env) I3.ok.kind (C.hf x hx)
      rw[qan ⟨rfl,C.cl x hx⟩] at this;exact this
     ·rcases look with ⟨hk,_⟩|⟨_,c,hc,hcell⟩
      ·rw[C.cl x hx] at hk;cases hk
      ·obtain⟨c',h1,h2⟩:=clf x hx;rw[hc] at h2;cases h2;obtain⟨o,eo,ed⟩:=hcell;exact⟨c,csf x c hx h1,o,keep4 _ _ eo,ed⟩
   ·rcases csl x c e with ⟨_,_,_,q⟩|⟨q,_⟩
    ·exact⟨none,q⟩
    ·obtain⟨v,o,eo,ed⟩:=I3.cell x c q;exact⟨v,o,keep4 _ _ eo,ed⟩
   ·exact I3.hok.fresh (qai _)
   ·rcases csl x c e with ⟨_,_,q,_⟩|⟨q,_⟩
    ·exact I3.hok.fresh (qbh q)
    ·exact I3.freeC x c q
   ·show σY.length=(vars++frees).length;simp[σY,fml]
  have gY:Good (dw X scope (cn++cl) s₃ H₃ fp (vars++frees)) (vars++frees) vars G' k:=by
   refine⟨rfl,nd,fun x hx=>?_,fun x hx=>?_,fun x hx=>?_,dbg,g.calm,g.room,PassesOwn.never⟩
   ·rcases qaL.mp hx with z|z
    ·rcases C.hv x z with z|z
     ·left
      have:=cu (env:=X.env) I3.ok.kind z
      rw[qay (fun q=>nomatch q.1)] at this;exact this
     ·right
      have:=cu (env:=X.env) I3.ok.kind z
      rw[qay (fun q=>nomatch q.1)] at this;exact this
    ·right
     have:=cu (env:=X.env) I3.ok.kind (C.hf x z)
     rw[qan ⟨rfl,C.cl x z⟩] at this;exact this
   ·rcases C.hv x hx with z|z
    ·right
     have:=cu (env:=X.env) I3.ok.kind z
     rw[qay (fun q=>nomatch q.1)] at this;exact this
    ·exact .inl (decide_eq_true z)
   ·have:=cu (env:=X.env) I3.ok.kind (hgl x hx)
    rw[qay (fun q=>nomatch q.1)] at this;exact this
  obtain⟨hg,ht,he⟩:=hY (dw X scope (cn++cl) s₃ H₃ fp (vars++frees)) rfl rfl rfl rfl rfl rfl gY;have rsY:RS X.K (ρ1++[s₂.heap.objs.size]) H₃ (cSt vars.length fm σp) σY:=by
   refine⟨by simp[σY,cSt],fun i v e=>?_⟩;unfold cSt at e;by_cases z:vars.length<=i
   ·rw[qaE (by simpa using z),qbi,qax] at e
    cases ej:fm[i - vars.length]? with
    | none=>rw[ej] at e;cases e
    | some j =>
     rw[ej] at e;have ev:σp[j]?=some (some v):=by
      have:(σp[j]?).getD none=some v:=by simpa using e
      cases z:σp[j]? with
      | none=>rw[z] at this;cases this
      | some o=>rw[z] at this;simp at this;rw[this]
     obtain⟨v',e',rv⟩:=rs.2 j v ev;refine⟨v',?_,rv.le l13⟩;show σY[i]?=_;rw[qaE (by simpa using z),qbi,qax,ej];simp[e']
   ·rw[qal (by simp;ext),qaW] at e
    split at e <;> cases e
  have q3:Ful X (RV' X) σp (ρ1++[s₂.heap.objs.size]) H₃ ((cGo it h1.length gt mt me it.xs (cSt vars.length fm σp) (h1++[.lst []])).bind fun _ h3=>.ok (.loc h1.length) h3) Q:=Ful.le l3 q1;have hrho:(ρ1++[s₂.heap.objs.size])[h1.length]?=some s₂.heap.objs.size:=by rw[<-rh1.len];simp
  have loop:∀s₅:Shared,s₅={ s₃ with heap:=h',toks:=s₃.toks}->codeAny (model X.prog X.w) X.A (.compLoop (.ListComp elt [⟨tg,iter,ifs,0⟩] scope pos) 0 (.ref ita) (.ref s₂.heap.objs.size) (compEnvC scope (cn++cl) s₃.heap.objs.size X.env))
    (compPost (model X.prog X.w) X.A X.xe use Qv (.ref s₂.heap.objs.size) s₃.heap.objs.size) s₅:=by
   rintro s₅ rfl;refine sk (CI X (dw X scope (cn++cl) s₃ H₃ fp (vars++frees)) it tn fp (ρ1++[s₂.heap.objs.size]) H₃ σp h1.length gt mt me Q) ?_ it.xs.length
    ⟨0,σY,H₃,_,_,_,rfl,qbj _,invY,T.keep _ _ _ st3 (fun b _ o e=>keep4 b o e),fun b hb=>(fp3 b hb).1,Le.refl _ _,rsY,rh3,by simpa using q3⟩
   rintro n s6 ⟨i,σ6,H6,ρ6,σp6,h6,rfl,hi6,I6,st6,fr6,l6,rs6,rh6,q6⟩;have stat:∀{H':Hp},(∀b∈fp,H' b=none)->∀b∈fp,gS (dw X scope (cn++cl) s₃ H₃ fp (vars++frees)) [] H' b:=fun {H'} hn b hb =>
    ⟨hn b hb,(ok.exf b hb).1,ok.exfs b hb,.inl hb,(ok.exf b hb).2,fun p hp=>absurd (show p∈([]:List (Addr × Obj)) from hp) (by simp)⟩
   by_cases hlt:i<it.xs.length
   ·have ed:it.xs.drop i=it.xs[i]::it.xs.drop (i+1):=qbZ hlt;rw[ed] at q6;simp only[cGo] at q6;by_cases hok:it.ok h6
    ·rw[qan hok] at q6;obtain⟨j1,_⟩:=jr ρ6 H6 h6 i (l3.trans l6) rh6 hok;obtain⟨go,yl⟩:=j1 hlt;refine thn (T.item (dw X scope (cn++cl) s₃ H₃ fp (vars++frees)) rfl rfl rfl g.calm i [] s6 σ6 H6 (fun _ _=>False) I6 (stat fr6) st6 go) fun r s7 ⟨u,hr,h7⟩=>?_;subst hr;refine thn h7 fun _ s8 ⟨x8,H8,I8,r8,y8,st8,fr8⟩=>?_;obtain⟨ρ8,x,l8,rh8,ex,rx⟩:=yl x8 H8 y8;have ex':x=it.xs[i]:=by rw[qaj hlt] at ex;exact (Option.some.inj ex).symm
     subst ex';have I8p:=I8.pinned (stat fr8) (T.obj _ _ st8);have q8:=Ful.le l8 q6;have back:∀{σ9:L2.St} {H9:Hp} {s9:Shared},Inv (dw X scope (cn++cl) s₃ H₃ fp (vars++frees)) ([]++kj fp s8.heap) σ9 H9 s9->Inv (dw X scope (cn++cl) s₃ H₃ fp (vars++frees)) [] σ9 H9 s9/\tn (i+1) s9.heap/\∀b∈fp,H9 b=none:=fun {σ9 H9 s9} I9=>by
      refine⟨I9.unpinned,T.keep _ _ _ st8 fun b hb o e=>(I9.pin (b,o) (qaq _ (qaq _ (gk hb e)))).1,fun b hb=>?_⟩;obtain⟨o,e,d⟩:=T.obj _ _ st8 b hb;exact (I9.pin (b,o) (qaq _ (qaq _ (gk hb e)))).2.1
     cases eg:gt it.xs[i] σp6 h6 with
     | nx σp9 h9 =>
      rw[eg] at q8;dsimp only at q8
      refine thn (hg _ s8 σ6 H8 x8 u (fun σ' H'=>∃ρ',Le ρ8 H8 ρ' H'/\RH X.K X.mg ρ' H' h9/\RS X.K ρ' H' σp9 σ') I8p r8 ⟨ρ8,σp6,h6,_,rs6.le l8,rh8,rx,by
       show lU _ _ _ (gt it.xs[i] σp6 h6) _
       rw[eg];exact fun ρ' H' σ' l r s=>⟨ρ',l,r,s⟩⟩) fun _ s9 ⟨σ9,H9,I9,ρ9,l9,rh9,rs9⟩=>?_
      have q9:=Ful.le l9 q8
      cases em:mt σp9 h9 with
      | ok b h10 =>
       rw[em,Out.ne_ok] at q9;rw[Out.bind_ok] at q9
       refine thn (ht _ s9 σ9 H9 (fun b' H'=>b'=b/\∃ρ',Le ρ9 H9 ρ' H'/\RH X.K X.mg ρ' H' h10) I9 ⟨ρ9,σp9,h9,rs9,rh9,by
        show Ful _ _ _ _ _ (mt σp9 h9) _
        rw[em];exact fun ρ' H' v' l r e=>⟨e.symm,ρ',l,r⟩⟩) fun b' s10 ⟨H10,I10,eb,ρ10,l10,rh10⟩=>?_
       subst eb;have q10:=Ful.le l10 q9
       cases b' with
       | false =>
        rw[qay qaT] at q10 ⊢;obtain⟨I10',st10,fr10⟩:=back I10;exact⟨_,by ext,i+1,σ9,H10,ρ10,σp9,h10,rfl,hlt,I10',st10,fr10,l6.trans (l8.trans (l9.trans l10)),rs9.le l10,rh10,q10⟩
       | true =>
        rw[qan rfl] at q10 ⊢
        cases ee:me σp9 h10 with
        | ok v h11 =>
         rw[ee,Out.ne_ok] at q10;rw[Out.bind_ok] at q10
         refine thn (he _ s10 σ9 H10 (fun v' H'=>∃ρ',Le ρ10 H10 ρ' H'/\RH X.K X.mg ρ' H' h11/\RP X.K ρ' H' v v') I10 ⟨ρ10,σp9,h10,rs9.le l10,rh10,by
          show Ful _ _ _ _ _ (me σp9 h10) _
          rw[ee];exact fun ρ' H' v' l r e=>⟨ρ',l,r,e⟩⟩) fun u11 s11 ⟨v',H11,I11,ru11,ρ11,l11,rh11,rv11⟩=>?_
         have q11:=Ful.le l11 q10;have lall:Le (ρ1++[s₂.heap.objs.size]) H₃ ρ11 H11:=l6.trans (l8.trans (l9.trans (l10.trans l11)));obtain⟨oa,eoa,roa⟩:=rh11.obj (lall.get hrho);rw[eoa] at q11
         cases oa with
         | dic fz ks xs=>exact q11.elim
         | exc x=>exact q11.elim
         | lst ys =>
          dsimp only at q11;by_cases hl11:ys.length<sizeLine
          ·rw[qan hl11] at q11;obtain⟨ys',ey',ry⟩:=roa;obtain⟨rh12,l12⟩:=rh11.put (lall.get hrho) (o:=.lst (ys++[v])) (ho:=.lst (ys'++[v'])) ⟨_,rfl,ry.append (.cons rv11 .nil)⟩;have ap:=oU (X:=dw X scope (cn++cl) s₃ H₃ fp (vars++frees)) _ s11 σ9 H11 (.ref s₂.heap.objs.size) [v'] (.ref s₂.heap.objs.size) [u11] (fun _ H'=>H'=upd H11 s₂.heap.objs.size (.lst (ys'++[v']))) I11 rfl (.cons ru11 .nil) ⟨s₂.heap.objs.size,ys',v',rfl,rfl,ey',by rw[<-ry.length];exact hl11,rfl⟩;refine thn ap fun _ s12 ⟨_,H12,I12,_,eH⟩=>?_;subst eH;obtain⟨I12',st12,fr12⟩:=back I12;exact⟨_,by ext,i+1,σ9,_,ρ11,σp9,_,rfl,hlt,I12',st12,fr12,lall.trans l12,(rs9.le l10).le (l11.trans l12),rh12,Ful.le l12 q11⟩
          ·rw[qay hl11] at q11;exact q11.elim
        | exc x h11=>rw[ee] at q10;exact q10.elim
        | bad=>rw[ee] at q10;exact q10.elim
      | exc x h10=>rw[em] at q9;exact q9.elim
      | bad=>rw[em] at q9;exact q9.elim
     | _=>rw[eg] at q8;exact q8.elim
    ·rw[qay hok] at q6;exact q6.elim
   ·have e:i=it.xs.length:=by ext
    rw[e,List.drop_length] at q6;simp only[cGo] at q6;by_cases hok:it.ok h6
    ·rw[qan hok] at q6;obtain⟨_,j2⟩:=jr ρ6 H6 h6 i (l3.trans l6) rh6 hok;refine thn (T.done (dw X scope (cn++cl) s₃ H₃ fp (vars++frees)) rfl rfl rfl g.calm i [] s6 σ6 H6 (fun _ _=>False) I6 (stat fr6) st6 (j2 (by ext))) fun r s7 ⟨hr,I7⟩=>?_;subst hr;obtain⟨m7,ns7,_⟩:=I7.loc;have IX:=I3.call' (s':=s7) (ch:=fp) I7.os I7.base I7.hok I7.bare fun b hb=>by
      obtain⟨_,a2,_,a4,a5,a6⟩:=fp3 b hb;exact⟨a4,a2,a5,a6⟩
     exact fin _ _ H6 s7 m7 IX I7.free ns7 (qaU I3.lt) I3.sz (I3.nofs (qai _)) (fun x c e z=>by
      obtain⟨v,qc⟩:=I3.cell x c e
      exact absurd qc.lt (by rw[z];exact qbb _)) (fun p hp z=>absurd (qas (I3.pin p hp).1) (by rw[z];exact qbb _)) (q6 ρ6 H6 _ (Le.refl _ _) rh6 (.loc (l6.get hrho)))
    ·rw[qay hok] at q6;exact q6.elim
  exact codeAny_compStart_list (loop _ rfl) (T.self X.A 0 _ _ _ (T.keep _ _ _ st3 (fun b _ o e=>keep4 b o e)) (loop _ rfl))
 exact goal3
def me_comp(g:Good X N W G k){tg iter elt:Expr}{ifs:List Expr}{scope:Scope}{pos:Pos}{vars frees G':List Str}{fm:List Nat}{mi:Mx MIt}{gt:Mg}{mt:Mx Bool}{me:Mx PV}(C:CompOk X N scope vars frees fm)
  (nd:(vars++frees).Nodup) (hgl:∀x∈G',scope.names.lookup x=some .globalImplicit) (dbg:∀x∈(vars++frees)++G',(x == ("__debug__":Str))=false/\(x == ("__classdict__":Str))=false/\x≠"__name__")
  (hi:MI X tg iter mi)
  (hY:∀Y:Cx,Y.prog=X.prog->Y.w=X.w->Y.K=X.K->Y.mg=X.mg->Y.base=X.base->Y.env.scope=relabel scope X.env->Good Y (vars++frees) vars G' k->MG Y tg gt/\MTs Y ifs mt/\ME Y elt me)
  (hs:∀x,foldedSetIterable iter X.env x=pure x:=by intro _;rfl):ME X (.ListComp elt [⟨tg,iter,ifs,0⟩] scope pos) (bh vars.length fm mi gt mt me):=by
 intro F6 s σ H Q I tm;rw[eval_ListComp];refine oY g C nd hgl dbg hi hY hs I tm fun acc D H6 s7 m7 IX hC ns hL hz hfs hcl hp q=>?_;refine⟨m7,ns,fun h'' hsb=>⟨.ref acc,H6,?_,rfl,q⟩⟩;exact IX.turned (it:=D) (t':=s7.toks) (fun b o hb e=>hsb.extBut b o hb e) hC hL (.inr hz) hcl hp
def ms_setC(g:Good X N W G k)(i:Nat){y:Str}{py spos:Pos}{tg iter elt:Expr}{ifs:List Expr}{scope:Scope}{pos:Pos}{vars frees G':List Str}{fm:List Nat}{mi:Mx MIt}{gt:Mg}{mt:Mx Bool}{me:Mx PV}(hyi:N[i]?=some y)(hw:W[i]?=some y)
  (hsw:swapsWith (.ListComp elt [⟨tg,iter,ifs,0⟩] scope pos) (some (.Name y py)) spos.line X.env=pure true) (C:CompOk X N scope vars frees fm)
  (nd:(vars++frees).Nodup) (hgl:∀x∈G',scope.names.lookup x=some .globalImplicit) (dbg:∀x∈(vars++frees)++G',(x == ("__debug__":Str))=false/\(x == ("__classdict__":Str))=false/\x≠"__name__")
  (hi:MI X tg iter mi)
  (hY:∀Y:Cx,Y.prog=X.prog->Y.w=X.w->Y.K=X.K->Y.mg=X.mg->Y.base=X.base->Y.env.scope=relabel scope X.env->Good Y (vars++frees) vars G' k->MG Y tg gt/\MTs Y ifs mt/\ME Y elt me)
  (hs:∀x,foldedSetIterable iter X.env x=pure x:=by intro _;rfl):MS X (.Assign [.Name y py] (.ListComp elt [⟨tg,iter,ifs,0⟩] scope pos) spos) (aG i (bh vars.length fm mi gt mt me)):=by
 intro F6 s σ H D I tm;obtain⟨ρ,σp,h,rs,rh,q⟩:=tm;rw[exec_Assign_Name_used _ _ _ _ hsw];refine qab (wpAny_standAt (qab ?_));show wpAny _ X.A (do let _ <-comprehension (.ListComp elt [⟨tg,iter,ifs,0⟩] scope pos) scope X.env _ (newList []) false (eval iter X.env) (some (assign (.Name y py) X.env))) _ _ s
 refine qab (wpAny_mono (oY (pos:=pos) g C nd hgl dbg hi hY hs (use:=some (assign (.Name y py) X.env)) (Qv:=fun _ s'=>SP X F6 D .next s') (pp:=firstIterPos [⟨tg,iter,ifs,0⟩] pos) (Q:=fun v H'=>D.nx (σ.set i (some v)) H') I
  ⟨ρ,σp,h,rs,rh,bi.ex q fun ρ1 H1 v v' h1 l r z w=>w ρ1 H1 _ (Le.refl _ _) r ((rs.le l).set i z)⟩ fun acc D' H6 s7 m7 IX hC ns hL hz hfs hcl hp q6=>?_) (fun _ s' hq=>qaw (qaw hq)) fun _ _ e=>e)
 ·obtain⟨o,es,ep,ho,hd,hr⟩:=id ns;have IP:Inv X (F6++[(D',o)]) σ H6 s7:=IX.pins_of fun p hp'=>(qaL.mp hp').elim (fun z=>IX.pin p (qaq _ z)) fun z=>by
   have e:p=(D',o):=by simpa using z
   subst e;exact⟨ho,hC,hL,hfs,fun v z=>by rw[hd] at z;cases z⟩
  have st:=t7 (X:=X) (pos:=py) (by rw[g.hN];exact g.nd) (g.x hyi) (g.loc y (aX hyi)) (g.fn y (aX hw)) (F6++[(D',o)]) s7 σ H6 (.ref acc) (.ref acc) (fun σ' H'=>σ'=σ.set i (some (.ref acc))/\H'=H6) IP rfl ⟨rfl,rfl⟩;refine thn st fun _ s8 ⟨σ8,H8,I8,e1,e2⟩=>?_;subst e1;subst e2;have pn:=I8.pin (D',o) (qaq _ (qaq _ (by simp)));refine⟨m7,⟨o,es,ep,pn.1,hd,hr⟩,fun h'' hsb=>⟨_,_,?_,q6⟩⟩;exact (I8.unpinned).turned (it:=D') (t':=s8.toks) (fun b o hb e=>hsb.extBut b o hb e) hC hL (.inr hz) hcl hp
end
section
variable {X:Cx} {N W G:List Str} {k:Nat} {σ:L2.St} {H:Hp} {s:Shared}
end
section
variable {prog:Program} {w:World} {A:Around} {E:Value→Shared→Prop} {h:Heap} {g:Array GenState} {d:Drawn} {t:Nat} {os:OsState} {a C:Addr} {o:Obj} {K:qac}
end
section
variable {X:Cx} {N W G:List Str} {k:Nat}
end
def lm(hf:∀v d,f v=some d->d.depth<=n/\d.hasDict=false):∀{xs:List PV} {ds:List PyData},cf f xs=some ds->PyData.depthAll ds<=n/\PyData.hasDictAll ds=false
 | [],ds,e=>by cases e;simp[PyData.depthAll,PyData.hasDictAll]
 | x::r,ds,e=>by
  simp only[cf] at e
  split at e
  ·rename_i d ds' e1 e2
   cases e;obtain⟨a1,a2⟩:=hf _ _ e1;obtain⟨b1,b2⟩:=lm hf e2;simp only[PyData.depthAll,PyData.hasDictAll,a2,b2];exact⟨by lia,rfl⟩
  ·cases e
def rK:∀(n:Nat) (v:PV) (d:PyData),rd n h v=some d->d.depth<=n/\d.hasDict=false
 | 0,v,d,e=>by
  cases v <;> simp only[rd] at e <;> cases e <;> simp[PyData.depth,PyData.hasDict]
 | n+1,v,d,e=>by
  have key:∀xs,(∀ds,cf (rd n h) xs=some ds->PyData.depthAll ds<=n/\PyData.hasDictAll ds=false):=fun xs ds=>lm (rK n)
  cases v with
  | non=>simp only[rd] at e;cases e;simp[PyData.depth,PyData.hasDict]
  | bl b=>simp only[rd] at e;cases e;simp[PyData.depth,PyData.hasDict]
  | int b=>simp only[rd] at e;cases e;simp[PyData.depth,PyData.hasDict]
  | str b=>simp only[rd] at e;cases e;simp[PyData.depth,PyData.hasDict]
  | tup xs =>
   simp only[rd,qaB] at e;obtain⟨ds,e1,rfl⟩:=e;obtain⟨a,b⟩:=key xs ds e1;exact⟨by simp only[PyData.depth];lia,by simp only[PyData.hasDict,b]⟩
  | frl xs =>
   simp only[rd,qaB] at e;obtain⟨ds,e1,rfl⟩:=e;obtain⟨a,b⟩:=key xs ds e1;exact⟨by simp only[PyData.depth];lia,by simp only[PyData.hasDict,b]⟩
  | loc m =>
   simp only[rd] at e
   split at e
   ·rename_i xs _
    simp only[qaB] at e;obtain⟨ds,e1,rfl⟩:=e;obtain⟨a,b⟩:=key xs ds e1;exact⟨by simp only[PyData.depth];lia,by simp only[PyData.hasDict,b]⟩
   ·cases e
section
variable {X:Cx} {N W G:List Str} {k:Nat}
end
def wV{p:Str->Prop}{a:Str}{l:List Str}(h:p a)(t:∀x∈l,p x):∀x∈a::l,p x:=fun x hx=>by
 rcases qam.mp hx with rfl|z
 ·exact h
 ·exact t x z
section
variable {X:Cx} {N W G:List Str} {k:Nat}
def Cal.at(e1:Y.prog=X.prog)(e2:Y.w=X.w)(e3:Y.K=X.K)(e4:Y.mg=X.mg)(e5:Y.base=X.base)(c:Cal X x ps F i):Cal Y x ps F i:=c.to e1 e2 e3 e4 e5
end
end MM
namespace MM
open PySem PySem.Spec PyProof.Rows L2
def compOk(hsc:X.env.scope=sc)(h1:scope.kind=.function)(h2:∀y∈scope.names,y.2=.cell->scope.names.lookup y.1=some .cell)(h3:∀y∈scope.names,y.2=.local->scope.names.lookup y.1=some .local)(h4:∀x∈vars,scope.names.lookup x=some .local\/scope.names.lookup x=some .cell)
  (h5:∀x∈frees,scope.names.lookup x=some .free) (h6:∀y∈scope.names,y.2=.free->y.1∈frees) (h7:fm.map (fun i=>N[i]?)=frees.map some) (h8:∀x∈frees,sc.names.lookup x=some .cell):CompOk X N scope vars frees fm :=
 ⟨h1,h2,h3,h4,h5,h6,h7,fun x hx=>by rw[<-hsc] at h8;exact h8 x hx⟩
end MM
namespace MM
open PySem PySem.Spec PyProof.Rows L2
local instance (priority:=1) cdec16 (p:Prop):Decidable p:=Classical.propDecidable p
section
variable {σ:PSt} {h:MH}
@[simp] theorem mComp_ap{nv:Nat}{fm:List Nat}{mi:Mx MIt}{gt:Mg}{mt:Mx Bool}{me:Mx PV}:bh nv fm mi gt mt me σ h =
 (mi σ h).bind fun it h1=>(cGo it h1.length gt mt me it.xs (cSt nv fm σ) (h1++[.lst []])).bind fun _ h3=>.ok (.loc h1.length) h3:=rfl
def app_0{o:MO}{g:MH}:(h++o::g)[h.length]?=some o:=by simp
end
end MM
namespace MM
open PySem PySem.Spec PyProof.Rows L2
end MM
namespace MM
open PySem PySem.Spec PyProof.Rows L2
local instance (priority:=1) cdec18 (p:Prop):Decidable p:=Classical.propDecidable p
def mMt(f:Nat->List PV->MH->Out PV)(m:Mx PV)(ma:Mx (List PV)):Mx PV:=fun σ h=>(m σ h).bind fun o h1=>match o with
 | .loc n=>(match h1[n]? with
  | some (.lst _)=>(ma σ h1).bind fun vs h2=>(f n vs h2).ne
  | _=>.bad)
 | _=>.bad
def ck(n:Nat)(vs:List PV)(h:MH):Out PV:=match vs,h[n]? with
 | [v],some (.lst xs)=>if xs.length<sizeLine then .ok .non (h.set n (.lst (xs++[v]))) else .bad
 | _,_=>.bad
section
variable {X:Cx} {N W G:List Str} {k:Nat}
def mtJ(X:Cx)(f:Nat->List PV->MH->Out PV):V->List V->Hp->VK->Prop:=fun x vs H Q=>∃ρ h n a ps,x=.ref a/\ρ[n]?=some a/\RH X.K X.mg ρ H h/\RPs X.K ρ H ps vs/\ir X (RV' X) ρ H (f n ps h) Q
def fM:MtR X "list.append" (mtJ X ck):=by
 intro F6 s σ H x vs v us Q I rx rv ⟨ρ,h,n,a,ps,e,en,rh,rp,q⟩;subst e;obtain⟨o,eo,ro⟩:=rh.obj en;unfold ck at q
 cases rp with
 | nil=>rw[eo] at q;exact q.elim
 | cons r1 t1 =>
  cases t1 with
  | cons _ _=>rw[eo] at q;exact q.elim
  | nil =>
   rw[eo] at q
   cases o with
   | lst xs =>
    dsimp only at q;by_cases hl:xs.length<sizeLine
    ·rw[qan hl] at q;obtain⟨ys,ey,ry⟩:=ro;obtain⟨rh',l'⟩:=rh.put en (o:=.lst (xs++[_])) (ho:=.lst (ys++[_])) ⟨_,rfl,ry.append (.cons r1 .nil)⟩;exact oU F6 s σ H _ _ v us Q I rx rv ⟨a,ys,_,rfl,rfl,ey,by rw[<-ry.length];exact hl,q ρ _ .non l' rh' .non⟩
    ·rw[qay hl] at q;exact q.elim
   | _=>exact q.elim
variable {o e:Expr} {es:List Expr} {name:Str} {apos cpos:Pos} {id:String} {f:Nat→List PV→MH→Out PV} {m:Mx PV} {ma:Mx (List PV)}
def tM_mt{ta:TA}(hna:∀σ H Q,tM X (RVs' X) ma σ H Q->ta σ H Q){σ:L2.St}{H:Hp}{Q:VK}(tm:tM X (RV' X) (mMt f m ma) σ H Q):tM X (RV' X) m σ H (fun x H1=>tyV X.K "list" x H1/\ta σ H1 fun xs H2=>mtJ X f x xs H2 Q):=by
 obtain⟨ρ,σp,h,rs,rh,q⟩:=tm;refine⟨ρ,σp,h,rs,rh,?_⟩;unfold mMt at q;refine Ful.bind q fun ρ1 H1 x x' h1 _ l1 rh1 rx q1=>?_
 cases rx with
 | @loc n a en =>
  obtain⟨ob,eo,ro⟩:=rh1.obj en;dsimp only at q1;rw[eo] at q1
  cases ob with
  | lst xs =>
   obtain⟨ys,ey,ry⟩:=ro;refine⟨.inl ⟨rfl,ys,SqL.of ey⟩,hna σ H1 _ ⟨ρ1,σp,h1,rs.le l1,rh1,?_⟩⟩;exact Ful.bind q1 fun ρ2 H2 vs vs' h2 _ l2 rh2 rvs q2=>⟨ρ2,h2,n,a,vs,rfl,l2.get en,rh2,rvs,q2.zero⟩
  | _=>exact q1.elim
 | _=>exact q1.elim
def iR(slot:Slot "list" name id)(hty:typeOf (.builtin id)=pure (.type "method_descriptor"))(hm:MtR X id (mtJ X f))(ho:ME X o m)(ha:MA X (e::es) ma)
  (hbase:attributeBase o name X.env (eval o X.env)=eval o X.env:=by rfl)
  (hfew:((backTo cpos (starEach (e::es) X.env)).all (fun x=>!x.1) && (backToKw cpos (keywordEach [] X.env)).all (fun x=>x.1.isSome)
   && decide ((e::es).length+([]:List Keyword).length+(if ([]:List Keyword).isEmpty then 0 else 1)<30))=true:=by rfl)
  (hline:(apos.endLine == cpos.line)=true:=by rfl) (hs:starEach (e::es) X.env=(false,eval e X.env)::starEach es X.env:=by rfl) (hplain:(backTo cpos (starEach es X.env)).any (·.1)=false:=by rfl) :
  ME X (.Call (.Attribute o name apos) (e::es) [] cpos) (mMt f m ma) :=
 PE.imp (pe_bm PySem.F.plainAttrs_list slot hty hm ho ha hbase hfew hline hs hplain) fun σ H Q q=>tM_mt (fun _ _ _ z=>z) q
@[simp] theorem mMt_ap:mMt f m ma σ h=(m σ h).bind fun o h1=>match o with
 | .loc n=>(match h1[n]? with
  | some (.lst _)=>(ma σ h1).bind fun vs h2=>(f n vs h2).ne
  | _=>.bad)
 | _=>.bad:=rfl
end
end MM
namespace MM
open PySem PySem.Spec PyProof.Rows L2
structure Sh (L:Nat) (d:PyData):Prop where
 able:d.showable=true
 ok:PyData.strOk d.shown=true
 len:d.shown.length<=L
end MM
namespace MM
open PySem PySem.Spec PyProof.Rows L2
local instance (priority:=1) cdec20 (p:Prop):Decidable p:=Classical.propDecidable p
def cI(h:MH):PV->Option (List PV)
 | .tup xs=>some xs
 | .frl xs=>some xs
 | .loc n=>(match h[n]? with
  | some (.lst xs)=>some xs
  | _=>none)
 | _=>none
section
variable {X:Cx} {N W G:List Str} {k:Nat}
def nW(rh:RH X.K X.mg ρ H h)(rx:RP X.K ρ H x x')(e:cI h x=some xs):∃a ys,x'=.ref a/\(SqL X.K H a ys\/SqT X.K H a ys)/\RPs X.K ρ H xs ys:=by
 cases rx with
 | tup s r=>cases e;exact⟨_,_,rfl,.inr s,r⟩
 | frl s r=>cases e;exact⟨_,_,rfl,.inl s.sq,r⟩
 | @loc n a en =>
  obtain⟨o,eo,ro⟩:=rh.obj en;simp only[cI,eo] at e
  cases o with
  | lst ys =>
   cases e;obtain⟨zs,ez,rz⟩:=ro;exact⟨a,zs,rfl,.inl (SqL.of ez),rz⟩
  | _=>cases e
 | _=>cases e
variable {a b c:Expr} {ma mb mc:Mx PV} {f g':PV→PV→MH→Out PV} {op op':CmpOp} {pos:Pos}
def nX(neg:Bool)(x y:PV)(h:MH):Out PV:=match cI h y with
 | some ys=>(match rd 60 h x,cf (rd 60 h) ys with
  | some d,some ds=>if d.canLay0=true/\PyData.canLayAll0 ds=true then .ok (.bl (if neg then !ds.any (fun e=>PyData.eqv e d) else ds.any (fun e=>PyData.eqv e d))) h else .bad
  | _,_=>.bad)
 | none=>.bad
def m9:∀{ds:List PyData},PyData.canLayAll0 ds=true->∀d∈ds,d.canLay0=true
 | [],_,d,hd=>nomatch hd
 | e::ds,h,d,hd=>by
  simp only[PyData.canLayAll0,qbw] at h;rcases qam.mp hd with rfl|hd
  ·exact h.1
  ·exact m9 h.2 d hd
def oJ(hf:∀u d as,Reads hp u d as->fq u=PyData.eqv d dx):∀{us:List Value} {ds:List PyData} {as:List Addr},ReadsAll hp us ds as->us.any fq=ds.any fun e=>PyData.eqv e dx
 | _,_,_,.nil=>rfl
 | _,_,_,.cons r t=>by rw[qcf,qcf,hf _ _ _ r,oJ hf t]
def o9:∀{us:List Value} {ds:List PyData} {as:List Addr},ReadsAll hp us ds as->∀u∈us,∃d as',d∈ds/\Reads hp u d as'
 | _,_,_,.nil,u,h=>nomatch h
 | _,_,_,.cons r t,u,h=>by
  rcases qam.mp h with rfl|h
  ·exact⟨_,_,qbe,r⟩
  ·obtain⟨d,as',hd,hr⟩:=o9 t u h;exact⟨d,as',qaa _ hd,hr⟩
def fq(hp:Heap)(dx:PyData)(u:Value):Bool:=if z:∃d as,Reads hp u d as then PyData.eqv z.choose dx else false
def fq_is(r:Reads hp u d as):fq hp dx u=PyData.eqv d dx:=by
 have z:∃d as,Reads hp u d as:=⟨d,as,r⟩;unfold fq;rw[dif_pos z];obtain⟨as',h'⟩:=z.choose_spec;rw[<-(Reads.unique r _ _ h').1]
def oj_in(hr:Room k X.A)(neg:Bool):OpJ X (compareOp (if neg then .NotIn else .In)) (nX neg):=by
 intro F6 s σ H x' y' u v Q I rx' ry' ⟨ρ,h,x,y,rh,rx,ry,q⟩;unfold nX at q
 cases es:cI h y with
 | none=>rw[es] at q;exact q.elim
 | some ys =>
  rw[es] at q;dsimp only at q;obtain⟨a,zs,rfl,hsq,rzs⟩:=nW rh ry es
  cases ex:rd 60 h x with
  | none=>rw[ex] at q;exact q.elim
  | some dx =>
   rw[ex] at q
   cases ed:cf (rd 60 h) ys with
   | none=>rw[ed] at q;exact q.elim
   | some ds =>
    rw[ed] at q;dsimp only at q;by_cases hl:dx.canLay0=true/\PyData.canLayAll0 ds=true
    ·rw[qan hl] at q;cases ry';obtain⟨_,rX⟩:=fh I rh 60 x x' u dx rx rx' ex;have hdp:=(rK 60 x dx ex).1;have eqs:∀(its:List Value),aJ zs its->(∀w∈its,SeqAt.EqAt X.A.in1 s w u (fq s.heap dx w))/\its.any (fq s.heap dx)=ds.any fun e=>PyData.eqv e dx:=fun its rv=>by
      obtain⟨as,RA⟩:=fG (fun v v' u d r1 r2 e=>fh I rh 60 v v' u d r1 r2 e) rzs rv ed;refine⟨fun w hw=>?_,oJ (fun u d as r=>fq_is r) RA⟩;obtain⟨d,as',hd,hrd⟩:=o9 RA w hw;rw[fq_is hrd];refine SeqAt.eqAt_reads d dx X.A.in1 s w u _ _ hrd rX (m9 hl.2 d hd) hl.1 ?_
      have:=hr.un
      show X.A.units+1+_<_;lia
     cases neg with
     | false =>
      rcases hsq with hq|hq
      ·obtain⟨its,rv,pl,hz⟩:=I.list hq;obtain⟨h1,h2⟩:=eqs its rv;refine SeqAt.in_listAt (fq s.heap dx) pl.isList (fun w hw=>h1 w (by simpa using hw)) ⟨.bl _,H,I,rfl,?_⟩;rw[show its.toArray.any (fq s.heap dx)=its.any (fq s.heap dx) by simp,h2];exact q ρ H _ (Le.refl _ _) rh (.bl _)
      ·obtain⟨its,rv,pl,hz⟩:=I.tuple hq;obtain⟨h1,h2⟩:=eqs its rv;refine SeqAt.in_tupleAt (fq s.heap dx) pl (fun w hw=>h1 w (by simpa using hw)) ⟨.bl _,H,I,rfl,?_⟩;rw[show its.toArray.any (fq s.heap dx)=its.any (fq s.heap dx) by simp,h2];exact q ρ H _ (Le.refl _ _) rh (.bl _)
     | true =>
      rcases hsq with hq|hq
      ·obtain⟨its,rv,pl,hz⟩:=I.list hq;obtain⟨h1,h2⟩:=eqs its rv;refine SeqAt.notIn_listAt (fq s.heap dx) pl.isList (fun w hw=>h1 w (by simpa using hw)) ⟨.bl _,H,I,rfl,?_⟩;rw[show its.toArray.any (fq s.heap dx)=its.any (fq s.heap dx) by simp,h2];exact q ρ H _ (Le.refl _ _) rh (.bl _)
      ·obtain⟨its,rv,pl,hz⟩:=I.tuple hq;obtain⟨h1,h2⟩:=eqs its rv;refine SeqAt.notIn_tupleAt (fq s.heap dx) pl (fun w hw=>h1 w (by simpa using hw)) ⟨.bl _,H,I,rfl,?_⟩;rw[show its.toArray.any (fq s.heap dx)=its.any (fq s.heap dx) by simp,h2];exact q ρ H _ (Le.refl _ _) rh (.bl _)
    ·rw[qay hl] at q;exact q.elim
def fList(xs:List PV)(h:MH):Out PV:=match xs with
 | [x]=>(match cI h x with
  | some ys=>newL ys h
  | none=>.bad)
 | _=>.bad
def fTuple(xs:List PV)(h:MH):Out PV:=match xs with
 | [x]=>(match cI h x with
  | some ys=>.ok (.tup ys) h
  | none=>.bad)
 | _=>.bad
def tR:dC X (.type "list") fList:=by
 intro F6 s σ H xs us Q I r ⟨ρ,h,ps,rh,rp,q⟩
 cases rp with
 | nil=>exact q.elim
 | cons r1 t1 =>
  cases t1 with
  | cons _ _=>exact q.elim
  | nil =>
   rename_i x y
   unfold fList at q
   cases es:cI h x with
   | none=>simp only[es] at q;exact q.elim
   | some ys =>
    simp only[es] at q;obtain⟨a,zs,rfl,hsq,rzs⟩:=nW rh r1 es;obtain⟨_,q'⟩:=ky rh rzs q;exact qy F6 s σ H _ us Q I r ⟨a,zs,rfl,hsq,q'⟩
def yh:dC X (.type "tuple") fTuple:=by
 intro F6 s σ H xs us Q I r ⟨ρ,h,ps,rh,rp,q⟩
 cases rp with
 | nil=>exact q.elim
 | cons r1 t1 =>
  cases t1 with
  | cons _ _=>exact q.elim
  | nil =>
   rename_i x y
   unfold fTuple at q
   cases es:cI h x with
   | none=>simp only[es] at q;exact q.elim
   | some ys =>
    simp only[es] at q;obtain⟨a,zs,rfl,hsq,rzs⟩:=nW rh r1 es;rcases hsq with hq|hq
    ·refine jG F6 s σ H _ us Q I r ⟨a,zs,rfl,.inl ⟨hq,fun l hl=>?_⟩⟩;obtain⟨r',l'⟩:=rh.tup hl zs;exact q ρ _ _ l' r' (.tup (SqT.of bY) (rzs.le l'))
    ·exact jG F6 s σ H _ us Q I r ⟨a,zs,rfl,.inr ⟨hq,q ρ H _ (Le.refl _ _) rh (.tup hq rzs)⟩⟩
def ft(xs:List PV)(lo hi:Option Int):List PV:=(xs.drop (HT.sIx xs.length 0 lo)).take (HT.sIx xs.length xs.length hi - HT.sIx xs.length 0 lo)
def fSl(x:PV)(lo hi:Option Int)(h:MH):Out PV:=match x with
 | .tup xs=>if HT.sIx xs.length 0 lo=0/\HT.sIx xs.length xs.length hi=xs.length then .bad else .ok (.tup (ft xs lo hi)) h
 | .frl xs=>.ok (.loc h.length) (h++[.lst (ft xs lo hi)])
 | .loc n=>(match h[n]? with
  | some (.lst xs)=>.ok (.loc h.length) (h++[.lst (ft xs lo hi)])
  | _=>.bad)
 | _=>.bad
def slJ(X:Cx)(f:PV->Option Int->Option Int->MH->Out PV):V->Option Int->Option Int->Hp->VK->Prop:=fun x' lo hi H Q=>∃ρ h x,RH X.K X.mg ρ H h/\RP X.K ρ H x x'/\ir X (RV' X) ρ H (f x lo hi h) Q
def oo{K:qac}{ρ:List Addr}{H:Hp}{xs:List PV}{ys:List V}(r:RPs K ρ H xs ys)(lo hi:Option Int):RPs K ρ H (ft xs lo hi) (gP ys lo hi):=by
 unfold ft gP;rw[r.length];exact (r.drop _).take _
def sj_sl:SlR X (slJ X fSl):=by
 intro F6 s σ H x' v vl vu lo hi sl Q I rx hs pl pu ⟨ρ,h,x,rh,rxx,q⟩
 cases rxx with
 | tup s1 r1 =>
  unfold fSl at q;dsimp only at q
  rename_i xs a ys
  by_cases z:HT.sIx xs.length 0 lo=0/\HT.sIx xs.length xs.length hi=xs.length
  ·rw[qan z] at q;exact q.elim
  ·rw[qay z] at q;refine sl_tup F6 s σ H _ v vl vu lo hi sl Q I rx hs pl pu ⟨a,ys,rfl,s1,by rw[<-r1.length];exact z,fun p hp=>?_⟩;obtain⟨r',l'⟩:=rh.tup hp (gP ys lo hi);exact q ρ _ _ l' r' (.tup (SqT.of bY) ((oo r1 lo hi).le l'))
 | frl s1 r1 =>
  rename_i xs a ys
  refine tF F6 s σ H _ v vl vu lo hi sl Q I rx hs pl pu ⟨a,ys,rfl,s1.sq,fun p hp=>?_⟩;obtain⟨r',l'⟩:=rh.new hp (o:=.lst (ft xs lo hi)) (ho:=.lst (gP ys lo hi)) ⟨_,rfl,oo r1 lo hi⟩;exact q _ _ _ l' r' (.loc (by rw[<-rh.len];simp))
 | @loc n a en =>
  obtain⟨o,eo,ro⟩:=rh.obj en;unfold fSl at q;dsimp only at q;rw[eo] at q
  cases o with
  | lst xs =>
   obtain⟨ys,ey,ry⟩:=ro;refine tF F6 s σ H _ v vl vu lo hi sl Q I rx hs pl pu ⟨a,ys,rfl,SqL.of ey,fun p hp=>?_⟩;obtain⟨r',l'⟩:=rh.new hp (o:=.lst (ft xs lo hi)) (ho:=.lst (gP ys lo hi)) ⟨_,rfl,oo ry lo hi⟩;exact q _ _ _ l' r' (.loc (by rw[<-rh.len];simp))
  | _=>exact q.elim
 | _=>exact q.elim
def MO'(X:Cx)(e:Option Expr)(m:Mx (Option Int)):Prop:=PO X e (tM X REq m)
def mNo:Mx (Option Int):=fun _ h=>.ok none h
def mPt(m:Mx PV):Mx (Option Int):=fun σ h=>(m σ h).bind fun v h1=>match v with
 | .int i=>.ok (some i) h1
 | _=>.bad
def fu:MO' X none mNo:=fun F6 s σ H Q I ⟨ρ,σp,h,rs,rh,q⟩=>po_none F6 s σ H Q I (q ρ H none (Le.refl _ _) rh rfl)
def fg(h:ME X e m):MO' X (some e) (mPt m):=fun F6 s σ H Q I ⟨ρ,σp,hh,rs,rh,q⟩=>po_some h F6 s σ H Q I ⟨ρ,σp,hh,rs,rh,Ful.bind q fun ρ1 H1 v v' h1 _ l1 rh1 rv q1=>by
 cases rv with
 | int i=>exact⟨i,rfl,q1 ρ1 H1 (some i) (Le.refl _ _) rh1 rfl⟩
 | _=>exact q1.elim⟩
def mSl(m:Mx PV)(ml mh:Mx (Option Int)):Mx PV:=fun σ h=>(m σ h).bind fun x h1=>(ml σ h1).bind fun lo h2=>(mh σ h2).bind fun hi h3=>(fSl x lo hi h3).ne
def jB{e:Expr}{lo hi:Option Expr}{m:Mx PV}{ml mh:Mx (Option Int)}{p2:Pos}(he:ME X e m)(hl:MO' X lo ml)(hu:MO' X hi mh):ME X (.Subscript e (.Slice lo hi none p2) pos) (mSl m ml mh) :=
 PE.imp (yj sj_sl he hl hu) fun σ H Q ⟨ρ,σp,h,rs,rh,q⟩=>⟨ρ,σp,h,rs,rh,Ful.bind q fun ρ1 H1 x x' h1 _ l1 rh1 rx q1=>⟨ρ1,σp,h1,rs.le l1,rh1,Ful.bind q1 fun ρ2 H2 lo lo' h2 _ l2 rh2 el q2=>by
  subst el
  exact⟨ρ2,σp,h2,rs.le (l1.trans l2),rh2,Ful.bind q2 fun ρ3 H3 hi hi' h3 _ l3 rh3 eh q3=>by
   subst eh
   exact⟨ρ3,h3,x,rh3,(rx.le l2).le l3,q3.zero⟩⟩⟩⟩
end
section
variable {X:Cx} {N W G:List Str} {k:Nat}
end
def RH.loose{K:qac}{mg:MGl}{ρ:List Addr}{H:Hp}{h:MH}(r:RH K mg ρ H h){p:Addr}(hp:H p=none)(ho:HO):RH K mg ρ (upd H p ho) h/\Le ρ H ρ (upd H p ho):=by
 have hne:∀n a,ρ[n]?=some a->a≠p:=fun n a e z=>by
  obtain⟨o',_,q⟩:=r.obj e;rw[z,hp] at q;exact q.some rfl
 have l:Le ρ H ρ (upd H p ho):=⟨⟨[],by simp⟩,fun a xs e=>by rw[aW (bF e hp)];exact e,fun a ob u e=>by rw[aW (bF e hp)];exact e⟩;exact⟨⟨r.len,r.nd,fun n a o e1 e2=>by rw[aW (hne n a e1)];exact (r.at' n a o e1 e2).le l⟩,l⟩
section
variable {X:Cx} {N W G:List Str} {k:Nat}
def j3(xs:List PV)(i:Int)(v:PV):List PV :=
 let k:=if i<0 then (i+(xs.length:Int)).toNat else min i.toNat xs.length
 xs.take k++v::xs.drop k
def iP(n:Nat)(vs:List PV)(h:MH):Out PV:=match vs with
 | [.int i,v]=>(match h[n]? with
  | some (.lst xs)=>if (-(2 ^ 63)<=i/\i<2 ^ 63)/\xs.length<sizeLine then .ok .non (h.set n (.lst (j3 xs i v))) else .bad
  | _=>.bad)
 | _=>.bad
def wK:MtR X "list.insert" (mtJ X iP):=by
 intro F6 s σ H x vs v us Q I rx rv ⟨ρ,h,n,a,ps,e,en,rh,rp,q⟩;subst e;obtain⟨o,eo,ro⟩:=rh.obj en;unfold iP at q
 split at q
 ·rename_i i vv
  cases rp with
  | cons r1 t1 =>
   cases t1 with
   | cons r2 t2 =>
    cases t2;cases r1;rw[eo] at q
    cases o with
    | lst xs =>
     dsimp only at q;by_cases hl:(-(2 ^ 63)<=i/\i<2 ^ 63)/\xs.length<sizeLine
     ·rw[qan hl] at q;obtain⟨ys,ey,ry⟩:=ro;cases rx
      cases rv with
      | cons rv1 tv1=>cases tv1 with
       | cons rv2 tv2 =>
        cases tv2
        rename_i v' u1 u2
        obtain⟨t,rfl⟩:=rv1;obtain⟨z,its,nn,r,hlen,e⟩:=I.lstM ey
        let kk:=if i<0 then (i+(its.length:Int)).toNat else min i.toNat its.length
        have rel:RPs X.K ρ H (j3 xs i vv) (ys.take kk++v'::ys.drop kk):=by
         have:(if i<0 then (i+(xs.length:Int)).toNat else min i.toNat xs.length)=kk:=by
          show _=(if i<0 then (i+(its.length:Int)).toNat else min i.toNat its.length);rw[ry.length,hlen]
         unfold j3;rw[this];exact (ry.take kk).append (.cons r2 (ry.drop kk))
        obtain⟨rh',l'⟩:=rh.put en (o:=.lst (j3 xs i vv)) (ho:=.lst (ys.take kk++v'::ys.drop kk)) ⟨_,rfl,rel⟩;refine call_meets PySem.F.slot_list_insert ⟨_,e,rfl⟩ PySem.F.entry_list_insert (PySem.F.args_list_insert_3 _ _ _) (AutoListH.list_insert_list_int_val_1 a its.toArray nn i t u2 (by rw[fitsIndex_both hl.1.1 hl.1.2];simp) (by rw[qau];ext)) ⟨e,?_⟩;have vals:aJ (ys.take kk++v'::ys.drop kk) (its.take kk++u2::its.drop kk):=(r.take kk).append (.cons rv2 (r.drop kk));have hlz:(ys.take kk++v'::ys.drop kk).length<=sizeLine:=by
         rw[<-rel.length];have e1:(j3 xs i vv).length=xs.length+1:=by
          unfold j3;simp only[qaY,qap,qbf,qbM];ext
         ext
        refine⟨.non,_,I.lset (its':=its.take kk++u2::its.drop kk) ey e ?_ vals hlz,rfl,q ρ _ .non l' rh' .non⟩;apply Array.ext';simp only[Array.toList_append,Array.toList_push,Array.toList_extract,qau];simp[kk,List.extract];refine qaZ ?_;rw[qbM];exact qai _
     ·rw[qay hl] at q;exact q.elim
    | _=>exact q.elim
 ·exact q.elim
def tRng1(ta:TA):TE:=fun σ H Q=>ta σ H fun vs H1=>∃j:Int,vs=[.int j] /\ -(2 ^ 62)<=j/\j<2 ^ 62/\∀p,H1 p=none->Q (.ref p) (upd H1 p (.rng 0 j))
def wP(hg:Gl X "range")(hm:X.mg "range"=none)(ha:PA X [a] ta)(hs:starEach [a] X.env=[(false,eval a X.env)]:=by rfl):PE X (.Call (.Name "range" p) [a] [] pos) (tRng1 ta):=by
 intro F6 s σ H R I h;refine Call_ (gQ I hg hm boot_range (PyProof.Rows.callWith_type1 (thn (ha pos F6 s σ H _ I h) fun us s1 ⟨vs,H1,I1,r1,q1⟩=>?_) hs rfl));obtain⟨j,e,q1,q2,q⟩:=q1;subst e
 cases r1 with
 | cons r rr =>
  cases rr;obtain⟨t,rfl⟩:=r;refine call_range_1 ⟨.ref s1.heap.objs.size,_,I1.laid (o:=.rng 0 j) (fun b o e=>qad _ e) (qai _) ?_,rfl,q _ (I1.hok.fresh (qai _))⟩;exact⟨_,_,_,qaz _ rfl⟩
def mK:∀(n:Nat) (lo:Int) (us:List Value),us.length=n->(∀(i:Nat) (v:Value),us[i]?=some v->∃t,v=.int (lo+i) t)->aJ ((List.range n).map fun i=>V.int (lo+(i:Nat))) us
 | 0,lo,us,hl,_=>by cases us with | nil=>exact .nil | cons _ _=>simp at hl
 | n+1,lo,us,hl,h=>by
  cases us with
  | nil=>simp at hl
  | cons u us =>
   rw[List.range_succ_eq_map,qao,qaJ];obtain⟨t,e⟩:=h 0 u rfl;refine .cons ⟨t,e⟩ ?_;have ih:=mK n (lo+1) us (by simpa using hl) fun i v hv=>by
    obtain⟨t,e⟩:=h (i+1) v (by simpa using hv);exact⟨t,by rw[e];congr 1;push_cast;ext⟩
   have e2:((fun i=>V.int (lo+((i:Nat):Int)))∘Nat.succ)=fun i=>V.int (lo+1+((i:Nat):Int)):=by
    funext i;simp only[Function.comp];congr 1;push_cast;ext
   rw[e2];exact ih
def pB(hh:X.calm=true):dG X (.type "list") (fun xs H Q=>∃r j,xs=[.ref r]/\H r=some (.rng 0 j) /\ -(2 ^ 62)<=j/\j<2 ^ 62/\j.toNat<=sizeLine/\∀l,H l=none->Q (.ref l) (upd H l (.lst ((List.range j.toNat).map fun i=>V.int (0+(i:Nat)))))):=by
 intro F6 s σ H xs us Q I r ⟨ra,j,e,hr,h1,h2,h3,q⟩;subst e
 cases r with
 | cons r1 t1 =>
  cases t1;cases r1;obtain⟨t,u,v,ho⟩:=(show ObjOk X.prog X.w H s.heap ra (.rng 0 j) from I.hok ra _ hr);refine call_list_range (n:=j.toNat) (I.ok.hd hh) ho (small_one (by ext) (by ext) h1 h2) (by rw[rangeSize_one];split <;> ext) h3 fun h' tk acc' c' kp e it=>?_;have va:aJ ((List.range j.toNat).map fun i=>V.int (0+(i:Nat))) acc'.toList:=mK _ 0 _ (by rw[qbu];exact it.1) fun i v hv=>by
   obtain⟨t,e⟩:=it.2 i v (by rw[<-qbJ];exact hv);exact⟨t,by rw[e];congr 1;ext⟩
  refine⟨.ref s.heap.objs.size,_,I.laid (o:=.lst _) kp (qai _) (show ObjOk X.prog X.w _ h' _ (.lst _) from⟨by simpa using h3,acc'.toList,c',va,by simpa using e⟩),rfl,q _ (I.hok.fresh (qai _))⟩
def mLR(m:Mx (List PV)):Mx PV:=fun σ h=>(m σ h).bind fun vs h1=>match vs with
 | [.int j]=>if -(2 ^ 62)<=j/\j<2 ^ 62/\j.toNat<=sizeLine then .ok (.loc h1.length) (h1++[.lst (br 0 j.toNat)]) else .bad
 | _=>.bad
def oO{K:qac}{ρ:List Addr}{H:Hp}{lo:Int}:∀(l:List Nat),RPs K ρ H (l.map fun (i:Nat)=>PV.int (lo+(i:Int))) (l.map fun (i:Nat)=>V.int (lo+(i:Int)))
 | []=>.nil
 | i::l=>.cons (.int _) (oO l)
def yE(g:Good X N W G k){a:Expr}{m:Mx (List PV)}{i j:Nat}{p p' pos pos':Pos}(hi:G[i]?=some "list")(hm:X.mg "list"=none)(hj:G[j]?=some "range")(hm':X.mg "range"=none)(ha:MA X [a] m)
  (hs:starEach [a] X.env=[(false,eval a X.env)]:=by rfl) (he:starEach [.Call (.Name "range" p') [a] [] pos'] X.env=[(false,eval (.Call (.Name "range" p') [a] [] pos') X.env)]:=by rfl):ME X (.Call (.Name "list" p) [.Call (.Name "range" p') [a] [] pos'] [] pos) (mLR m):=by
 have d:=g.dbg _ (qaq _ (aX hi));refine PE.imp (oT (pB g.calm) (g.gl _ (aX hi)) hm PyProof.Rows.Boot.«list» (kP (wP (g.gl _ (aX hj)) hm' ha hs) rD he) d.2.2 d.1 he rfl) fun σ H Q ⟨ρ,σp,h,rs,rh,q⟩=>?_;refine⟨ρ,σp,h,rs,rh,Ful.bind q fun ρ1 H1 x x' h1 _ l1 rh1 rx q1=>?_⟩
 cases rx with
 | nil=>exact q1.elim
 | cons r1 t1 =>
  cases t1 with
  | cons _ _=>cases r1 <;> exact q1.elim
  | nil =>
   cases r1 with
   | int jj =>
    dsimp only at q1;by_cases z:-(2 ^ 62)<=jj/\jj<2 ^ 62/\jj.toNat<=sizeLine
    ·rw[qan z] at q1;refine⟨jj,rfl,z.1,z.2.1,fun r hr=>?_⟩;obtain⟨rh2,l2⟩:=rh1.loose hr (.rng 0 jj);refine⟨r,jj,rfl,bY,z.1,z.2.1,z.2.2,fun l hl=>?_⟩;obtain⟨rh3,l3⟩:=rh2.new hl (o:=.lst (br 0 jj.toNat)) (ho:=.lst _) ⟨_,rfl,oO _⟩;exact q1 _ _ _ (l2.trans l3) rh3 (.loc (by rw[<-rh1.len];simp))
    ·rw[qay z] at q1;exact q1.elim
   | _=>exact q1.elim
end
end MM
namespace SetT
open PySem PySem.SetTable
def base(M:Nat)(h:Int):Nat->Nat × Nat
 | 0=>(bits h % (M+1),bits h)
 | b+1=>leap M (base M h b).1 (base M h b).2
section
variable {prog:Program} {w:World} {A:Around} {E:Value→Shared→Prop} {s:Shared}
end
end SetT
namespace SetT
open PySem PySem.SetTable PyProof.Rows
section
variable {prog:Program} {w:World} {A:Around} {E:Value→Shared→Prop} {s:Shared}
end
section
variable {prog:Program} {w:World} {A:Around} {E:Value→Shared→Prop} {s:Shared} {S it:Addr} {o:Obj} {es:Array (Int × Value)} {ep:Nat} {t:SetTable} {ks:List (List Int)}
end
section
variable {prog:Program} {w:World} {A:Around} {E:Value→Shared→Prop} {s:Shared} {S:Addr} {o:Obj} {es:Array (Int × Value)} {ep:Nat} {t:SetTable}
end
end SetT
namespace SortT
open PySem PyProof.Rows
structure Cmp (prog:Program) (w:World) (A:Around) (E:Value->Shared->Prop) (s:Shared) (kd:SortKind) (O:KeyOrd) where
 key:Keyed->O.α
 dflt:O.α
 good:Keyed->Prop
 ask:∀(x y:Keyed) (st:SortSt) (Q:Option Bool->SortSt->Prop),good x->good y->kindOf st=kd->Q (some (O.blt (key x) (key y))) st->wpS (model prog w) A E s (lt' x y) Q st
section
variable {prog:Program} {w:World} {A:Around} {E:Value→Shared→Prop} {s:Shared} {kd:SortKind} {O:KeyOrd} (C:Cmp prog w A E s kd O) {C} {a₀:Array Keyed} {st:SortSt}
end
section
variable {prog:Program} {w:World} {A:Around} {E:Value→Shared→Prop} {s:Shared} {kd:SortKind} {O:KeyOrd} {C:Cmp prog w A E s kd O} {a₀:Array Keyed} {st:SortSt}
section
variable {left:Bool} {key:Keyed} {arr:Array Keyed} {base n:Nat}
end
end
section
variable {prog:Program} {w:World} {A:Around} {E:Value→Shared→Prop} {s:Shared} {kd:SortKind} {O:KeyOrd} (C:Cmp prog w A E s kd O) {C} {a b ou:Array Keyed} {i j:Nat}
end
section
variable {prog:Program} {w:World} {A:Around} {E:Value→Shared→Prop} {s:Shared} {kd:SortKind} {O:KeyOrd} {C:Cmp prog w A E s kd O} {st:SortSt} {a b:Array Keyed}
end
section
variable {prog:Program} {w:World} {A:Around} {E:Value→Shared→Prop} {s:Shared} {kd:SortKind} {O:KeyOrd} {C:Cmp prog w A E s kd O} {a b ou:Array Keyed} {m n:Nat} {st:SortSt}
end
section
variable {prog:Program} {w:World} {A:Around} {E:Value→Shared→Prop} {s:Shared} {kd:SortKind} {O:KeyOrd} {C:Cmp prog w A E s kd O} {st:SortSt} {a b:Array Keyed}
end
section
variable {prog:Program} {w:World} {A:Around} {E:Value→Shared→Prop} {s:Shared} {kd:SortKind} {O:KeyOrd} {C:Cmp prog w A E s kd O} {a₀:Array Keyed} {st:SortSt}
end
end SortT
namespace SortT
open PySem PyProof.Rows SetT PySem.W
section
variable {prog:Program} {w:World} {A:Around} {E:Value→Shared→Prop} {s:Shared}
end
end SortT
namespace MM
open PySem PySem.Spec PyProof.Rows L2 SetT SortT
section
variable {X:Cx} {F6:List (Addr × Obj)} {σ:L2.St} {H:Hp} {s:Shared}
end
section
variable {X:Cx} {N W G:List Str} {k:Nat}
end
end MM
namespace SeqT
open PySem
abbrev itN(tp:Bool):String:=if tp then "tuple_iterator" else "list_iterator"
abbrev sqN(tp:Bool):String:=if tp then "tuple" else "list"
def SqI(tp:Bool)(h:Heap)(it a:Addr)(i:Nat):Prop:=∃o,h.get? it=some o/\o.cls=.type (itN tp)/\o.data=.fields #[.ref a,.int i 0]
def SqO(tp:Bool)(h:Heap)(a:Addr)(xs:Array Value):Prop:=∃o,h.get? a=some o/\o.cls=.type (sqN tp)/\∃n,o.data=.seq xs n
def SqI.at'(x:SqI tp h it a i)(k:∀o,h.get? it=some o->h'.get? it=some o):SqI tp h' it a i:=let ⟨o,e,r⟩:=x;⟨o,k o e,r⟩
def SqO.at'(x:SqO tp h a xs)(k:∀o,h.get? a=some o->h'.get? a=some o):SqO tp h' a xs:=let ⟨o,e,r⟩:=x;⟨o,k o e,r⟩
def SqI.lt(x:SqI tp h it a i):it<h.objs.size:=let ⟨_,e,_⟩:=x;qas e
section
variable {prog:Program} {w:World} {A:Around} {E:Value→Shared→Prop} {s:Shared}
def g6(hi:SqI tp s.heap it a i)(ho:SqO tp s.heap a xs)(hx:xs[i]?=some x)
  (hQ:∀h',SqI tp h' it a (i+1)->Heap.SameBut it s.heap h'->Q x { s with heap:=h'}):wpAny (model prog w) A (Builtin.SmallTypes.nextOf (.ref it)) Q E s:=by
 cases tp with
 | false=>exact wpAny_nextOf_list_item (show s.heap.IsListIter it a i from hi) (show s.heap.IsList a xs from ho) hx hQ
 | true =>
  obtain⟨o,e,hc,hd⟩:=id hi;obtain⟨ol,hol,_,nl,hdl⟩:=ho;have hT:s.TypeIs (.ref it) "tuple_iterator":=⟨o,e,hc⟩;unfold Builtin.SmallTypes.nextOf;refine qab (wpAny_callSpecial?_slot (name:=Str.ofString "__next__") hT F.slot_tuple_iterator_next (wpAny_call_entry F.slot_tuple_iterator_next hT F.entry_tuple_iterator_next ?_ (F.args_tuple_iterator_next_1 _)));show wpAny _ _ (field (.ref it) 0 >>= _) _ _ s;refine qab (wpAny_field e hd (x:=.ref a) rfl ?_);show wpAny _ _ (if (Value.ref a == Value.none)=true then _ else _) _ _ s;rw[qay (show ¬((Value.ref a == Value.none)=true) from qaT)];show wpAny _ _ (field (.ref it) 1 >>= _) _ _ s;refine qab (wpAny_field e hd (x:=.int i 0) rfl ?_);show wpAny _ _ (seqItems? (.ref a) >>= _) _ _ s;refine qab (wpAny_seqItems hol hdl ?_);simp only[qaH,hx];refine qab (wpAny_setField e hd (by simp) (qaw ⟨x,rfl,qaw (hQ _ ?_ (Heap.SameBut.update ..))⟩));exact⟨_,qcr _ e (Obj.isFreed_of_fields (Obj.data_mapFields hd _)),(Obj.cls_mapFields ..).trans hc,by rw[Obj.data_mapFields hd];simp[rawInt]⟩
def jw(hh:A.handled=none)(hi:SqI tp s.heap it a i)(ho:SqO tp s.heap a xs)(hx:xs[i]?=none)
  (hE:∀h' e,Heap.ExtBut it s.heap h'->(∃o,h'.get? e=some o/\o.cls=.type "StopIteration")->E (.ref e) { s with heap:=h'}):wpAny (model prog w) A (Builtin.SmallTypes.nextOf (.ref it)) Q E s:=by
 cases tp with
 | false=>exact wpAny_nextOf_list_end hh (show s.heap.IsListIter it a i from hi) (show s.heap.IsList a xs from ho) hx hE
 | true =>
  obtain⟨o,e,hc,hd⟩:=id hi;obtain⟨ol,hol,_,nl,hdl⟩:=ho;have hT:s.TypeIs (.ref it) "tuple_iterator":=⟨o,e,hc⟩;unfold Builtin.SmallTypes.nextOf;refine qab (wpAny_callSpecial?_slot (name:=Str.ofString "__next__") hT F.slot_tuple_iterator_next (wpAny_call_entry F.slot_tuple_iterator_next hT F.entry_tuple_iterator_next ?_ (F.args_tuple_iterator_next_1 _)));show wpAny _ _ (field (.ref it) 0 >>= _) _ _ s;refine qab (wpAny_field e hd (x:=.ref a) rfl ?_);show wpAny _ _ (if (Value.ref a == Value.none)=true then _ else _) _ _ s;rw[qay (show ¬((Value.ref a == Value.none)=true) from qaT)];show wpAny _ _ (field (.ref it) 1 >>= _) _ _ s;refine qab (wpAny_field e hd (x:=.int i 0) rfl ?_);show wpAny _ _ (seqItems? (.ref a) >>= _) _ _ s;refine qab (wpAny_seqItems hol hdl ?_);simp only[qaH,hx];refine qab (wpAny_rule (qab (wpAny_setField e hd (by simp) ?_)));show wpAny _ _ (newExc (.type "StopIteration") [] >>= _) _ _ _;refine qab ?_;simp only[newExc,newTuple];refine qab (wpAny_newObj_type ?_ (by size_fits));refine qab (m:=firstArgMember _ _) (wpAny_of_eq (a:=Value.none) (by first | rfl | (simp only[firstArgMember];rfl)) ?_);refine wpAny_newObj_type ?_ (by size_fits);simp only[raiseNew];refine qab (wpAny_handled ?_);rw[show A.in1.handled=none from hh];refine qab (qaw (wpAny_throw ?_));exact hE _ _ (((Heap.SameBut.update ..).extBut.push _).push _) ⟨_,qaz _ rfl,rfl⟩
def iA(ho:SqO tp s.heap a xs)
  (hQ:Q (.ref s.heap.objs.size) { s with heap:=s.heap.push { cls:=.type (itN tp),data:=.fields #[.ref a,.int 0 0]}}):wpAny (model prog w) A (pyIter (.ref a)) Q E s:=by
 cases tp with
 | false=>exact wpAny_pyIter_list (show s.heap.IsList a xs from ho) hQ
 | true=>exact wpAny_pyIter_tuple (show s.heap.IsTuple a xs from ho) hQ
end
def draws(hh:A.handled=none)(tp:Bool)(it a:Addr)(hne:a≠it)(xs:Array Value) :
  Draws prog w A it [it,a] xs.size (fun i v=>xs[i]?=some v) (fun i h=>SqI tp h it a i/\SqO tp h a xs) where
 live:=fun _ _ st=>let ⟨o,ho,_⟩:=st.1;⟨o,ho⟩
 frame:=fun _ _ _ st hk=>⟨st.1.at' fun o e=>hk it (by simp) o e,st.2.at' fun o e=>hk a (by simp) o e⟩
 item:=fun i s Q E hi st hQ=>by
  refine g6 st.1 st.2 (x:=xs[i]) (by simp[hi]) fun h' hit' hs'=>?_;exact hQ _ h' s.toks (by simp[hi]) ⟨hit',st.2.at' fun o e=>(hs'.2 a hne).trans e⟩ hs'
 done:=fun s Q E st hE=>jw hh st.1 st.2 (by simp) hE
def w9(tp:Bool)(a:Addr)(xs:Array Value)(n:Nat)(dct:Option Addr)(sl:Array (Option Value)) :
  Meets (Builtin.«enumerate.__new__» ⟨[.type "enumerate",.ref a],[]⟩) (fun _ R s=>s.heap.get? a=some { cls:=.type (sqN tp),dict:=dct,data:=.seq xs n,slots:=sl} /\
   R (.ok (.ret (.ref (s.heap.push { cls:=.type (itN tp),data:=.fields #[.ref a,.int 0 0]}).objs.size)))
    { s with heap:=(s.heap.push { cls:=.type (itN tp),data:=.fields #[.ref a,.int 0 0]}).push { cls:=.type "enumerate",data:=.fields #[.none,.bool false,.ref s.heap.objs.size,rawInt 0,.none,.none]}}) :=
 .of_wp fun prog w A R s h=>by
  obtain⟨hp,g,d,tk,os⟩:=s;obtain⟨hl,h⟩:=h;have hsub:=sub_enumerate;have hL:SqO tp (Shared.heap ⟨hp,g,d,tk,os⟩) a xs:=⟨_,hl,rfl,n,rfl⟩
  wp_walk using AutoSeq1.wpAny_loadPart' hl
  refine wpAny_stack_any fun st=>qaw ?_;split
  ·rename_i c _ _ _ _ _
   cases (c == Value.type "enumerate")
   ·wp_walk using AutoSeq1.wpAny_loadPart' hl,iA hL
    exact⟨_,rfl,h⟩
   ·wp_walk using AutoSeq1.wpAny_loadPart' hl,iA hL
    exact⟨_,rfl,h⟩
  ·wp_walk using AutoSeq1.wpAny_loadPart' hl,iA hL
   exact⟨_,rfl,h⟩
section
variable {prog:Program} {w:World} {A:Around} {E:Value→Shared→Prop} {s:Shared}
def vT(hL:SqO tp s.heap a xs)
  (h:∀h',IsEnum h' (s.heap.objs.size+1) s.heap.objs.size 0 .none->SqI tp h' s.heap.objs.size a 0->h'.objs.size=s.heap.objs.size+2 ->
   (∀b o,s.heap.get? b=some o->h'.get? b=some o)->Q (.ref (s.heap.objs.size+1)) { s with heap:=h'}) :
  wpAny (model prog w) A (call (.type "enumerate") [.ref a]) Q E s:=by
 obtain⟨⟨c,dct,dt,sl⟩,hl,hc,n,hd⟩:=hL;replace hc:c=.type (sqN tp):=hc;replace hd:dt=.seq xs n:=hd;subst hc hd;refine callType_new F.called_enumerate (by decide) (F.typeCall_enumerate_1 _) (F.newCall_enumerate_1 _) (fun obj=>F.args_object_init_2 obj _) F.entry_enumerate_new (w9 tp a xs n dct sl) ⟨hl,?_⟩;have hz:(s.heap.push { cls:=.type (itN tp),data:=.fields #[.ref a,.int 0 0]}).objs.size=s.heap.objs.size+1:=qba ..;show _/\_;rw[hz]
 have he:IsEnum ((s.heap.push { cls:=.type (itN tp),data:=.fields #[.ref a,.int 0 0]}).push
   { cls:=.type "enumerate",data:=.fields #[.none,.bool false,.ref s.heap.objs.size,rawInt 0,.none,.none]}) (s.heap.objs.size+1) s.heap.objs.size 0 .none:=by
  have:=qaz (s.heap.push { cls:=.type (itN tp),data:=.fields #[.ref a,.int 0 0]})
   (o:={ cls:=.type "enumerate",data:=.fields #[.none,.bool false,.ref s.heap.objs.size,rawInt 0,.none,.none]}) rfl
  rw[hz] at this;exact this
 exact⟨⟨_,he,rfl⟩,h _ he ⟨_,qad _ (qaz _ rfl),rfl,rfl⟩ (by rw[qba,hz]) fun b o x=>qad _ (qad _ x)⟩
end
section
variable {prog:Program} {w:World} {A:Around} {E:Value→Shared→Prop} {s:Shared} {z TI TO i1 i2 l1 l2:Addr} {t1 t2:Bool} {k1 k2:Nat} {xs ys:Array Value}
def wH{x y a b:Value}{Q:Value->Shared->Prop}(D:ZipApart z TI TO i1 i2 l1 l2)
  (hz:IsZip s.heap z TI TO .none) (hTI:IsPair s.heap TI (.ref i1) (.ref i2)) (hTO:IsPair s.heap TO a b)
  (h1:SqI t1 s.heap i1 l1 k1) (h2:SqI t2 s.heap i2 l2 k2) (hl1:SqO t1 s.heap l1 xs) (hl2:SqO t2 s.heap l2 ys) (hx:xs[k1]?=some x) (hy:ys[k2]?=some y)
  (hQ:∀h',IsZip h' z TI TO (rawInt s.heap.objs.size)->IsPair h' TO x y->SqI t1 h' i1 l1 (k1+1)->SqI t2 h' i2 l2 (k2+1)->IsPair h' s.heap.objs.size x y->h'.objs.size=s.heap.objs.size+1 ->
   (∀c o,c≠z->c≠TO->c≠i1->c≠i2->s.heap.get? c=some o->h'.get? c=some o)->Q (.ref s.heap.objs.size) { s with heap:=h'}) :
  wpAny (model prog w) A (Builtin.«zip.__next__» ⟨[.ref z],[]⟩) (fun fin s'=>∃v,fin=.done (.ret v)/\Q v s') E s:=by
 show wpAny _ _ (field (.ref z) 2 >>= _) _ _ _;refine qab (wpAny_field hz rfl (x:=.bool false) rfl ?_);show wpAny _ _ (field (.ref z) 3 >>= _) _ _ _;refine qab (wpAny_field hz rfl (x:=.ref TI) rfl ?_);refine qab (wpAny_seqItems hTI rfl ?_);show wpAny _ _ (Builtin.SmallTypes.ownedTupleIsFree (.ref z) >>= _) _ _ _;refine qab ?_;unfold Builtin.SmallTypes.ownedTupleIsFree;refine qab (wpAny_field hz rfl (x:=.none) rfl (qaw ?_));simp only[if_true];refine qab (wpAny_rule ?_);refine qab (wpAny_field hz rfl (x:=.ref TO) rfl ?_);refine qab (wpAny_setField_rec hz (by simp) fun ha hza sa=>?_);replace hza:IsZip ha z TI TO .ellipsis:=hza;replace sa:Heap.SameBut z s.heap ha:=sa;refine qab ?_;simp only[List.zipIdx_cons,List.zipIdx_nil,qcv,qcA];refine qab (qab (wpAny_onRaise ?_));show wpAny _ _ (Builtin.SmallTypes.nextOf (.ref i1) >>= _) _ _ _;refine qab (g6 (s:={ s with heap:=ha}) (h1.at' fun o e=>(sa.2 _ D.i1z).trans e) (hl1.at' fun o e=>(sa.2 _ D.l1z).trans e) hx fun hb h1b sb=>qaw ?_);replace sb:Heap.SameBut i1 ha hb:=sb;have TOb:IsPair hb TO a b:=(sb.2 _ D.TOi1).trans ((sa.2 _ D.TOz).trans hTO);refine qab (wpAny_seqItems TOb rfl ?_);refine qab (wpAny_updateSeq_pair TOb fun hc TOc sc=>?_);replace TOc:IsPair hc TO x b:=TOc;replace sc:Heap.SameBut TO hb hc:=sc;refine qab (wpAny_letGo (qaw ?_));refine qab (qab (wpAny_onRaise ?_));show wpAny _ _ (Builtin.SmallTypes.nextOf (.ref i2) >>= _) _ _ _
 refine qab (g6 (s:={ s with heap:=hc}) (h2.at' fun o e=>(sc.2 _ D.TOi2.symm).trans ((sb.2 _ D.i12.symm).trans ((sa.2 _ D.i2z).trans e)))
  (hl2.at' fun o e=>(sc.2 _ D.l2TO).trans ((sb.2 _ D.l2i1).trans ((sa.2 _ D.l2z).trans e))) hy fun hd h2d sd=>qaw ?_)
 replace sd:Heap.SameBut i2 hc hd:=sd;have TOd:IsPair hd TO x b:=(sd.2 _ D.TOi2).trans TOc;refine qab (wpAny_seqItems TOd rfl ?_);refine qab (wpAny_updateSeq_pair TOd fun he TOe se=>?_);replace TOe:IsPair he TO x y:=TOe;replace se:Heap.SameBut TO hd he:=se;refine qab (wpAny_letGo (qaw (qaw ?_)));refine qab (wpAny_seqItems TOe rfl ?_);refine qab (wpAny_newTuple ?_);have hsz:he.objs.size=s.heap.objs.size:=by rw[se.1,sd.1,sc.1,sb.1,sa.1]
 have hze:IsZip he z TI TO .ellipsis:=(se.2 _ D.TOz.symm).trans ((sd.2 _ D.i2z.symm).trans ((sc.2 _ D.TOz.symm).trans ((sb.2 _ D.i1z.symm).trans hza)));have hke:∀c o,c≠z->c≠TO->c≠i1->c≠i2->s.heap.get? c=some o->he.get? c=some o:=fun c o c1 c2 c3 c4 e =>
  (se.2 _ c2).trans ((sd.2 _ c4).trans ((sc.2 _ c2).trans ((sb.2 _ c3).trans ((sa.2 _ c1).trans e))))
 have h1e:SqI t1 he i1 l1 (k1+1):=h1b.at' fun o e=>(se.2 _ D.TOi1.symm).trans ((sd.2 _ D.i12).trans ((sc.2 _ D.TOi1.symm).trans e));have h2e:SqI t2 he i2 l2 (k2+1):=h2d.at' fun o e=>(se.2 _ D.TOi2.symm).trans e;have hzlt:z<he.objs.size:=qas hze;show wpAny _ _ (Builtin.SmallTypes.ownedTupleHandOut (.ref z) (.ref he.objs.size) >>= _) _ _ _;refine qab ?_;unfold Builtin.SmallTypes.ownedTupleHandOut;have hzf:IsZip (he.push { cls:=.type "tuple",data:=.seq #[x,y]}) z TI TO .ellipsis:=qad _ hze;refine qab (wpAny_setField_rec hzf (by simp) fun hg hzg sg=>?_);replace hzg:IsZip hg z TI TO (rawInt he.objs.size):=hzg;refine wpAny_setField_rec hzg (by simp) fun hh hzh sh=>?_;replace hzh:IsZip hh z TI TO (rawInt he.objs.size):=hzh;have up:∀c o,c≠z->he.get? c=some o->hh.get? c=some o:=fun c o c1 e=>(sh.2 _ c1).trans ((sg.2 _ c1).trans (qad _ e));have hTh:IsPair hh he.objs.size x y:=(sh.2 _ (qaU hzlt)).trans ((sg.2 _ (qaU hzlt)).trans (qaz _ rfl));have hzs:hh.objs.size=he.objs.size+1:=by rw[sh.1,sg.1,qba]
 rw[hsz] at hzh hTh hzs;refine qaw ⟨_,rfl,?_⟩;show Q (.ref he.objs.size) _;rw[hsz];exact hQ hh hzh (up _ _ D.TOz TOe) (h1e.at' fun o e=>up _ o D.i1z e) (h2e.at' fun o e=>up _ o D.i2z e) hTh hzs fun c o c1 c2 c3 c4 e=>up c o c1 (hke c o c1 c2 c3 c4 e)
def xE(hh:A.handled=none)(D:ZipApart z TI TO i1 i2 l1 l2)
  (hz:IsZip s.heap z TI TO .none) (hTI:IsPair s.heap TI (.ref i1) (.ref i2)) (hTO:IsPair s.heap TO a b)
  (h1:SqI t1 s.heap i1 l1 k1) (h2:SqI t2 s.heap i2 l2 k2) (hl1:SqO t1 s.heap l1 xs) (hl2:SqO t2 s.heap l2 ys) (hend:xs[k1]?=none\/ys[k2]?=none)
  (hE:∀h' e,(∀c o,c≠z->c≠TO->c≠i1->c≠i2->s.heap.get? c=some o->h'.get? c=some o)->(∃o,h'.get? e=some o/\o.cls=.type "StopIteration")->E (.ref e) { s with heap:=h'}) :
  wpAny (model prog w) A (Builtin.«zip.__next__» ⟨[.ref z],[]⟩) Q E s:=by
 show wpAny _ _ (field (.ref z) 2 >>= _) _ _ _;refine qab (wpAny_field hz rfl (x:=.bool false) rfl ?_);show wpAny _ _ (field (.ref z) 3 >>= _) _ _ _;refine qab (wpAny_field hz rfl (x:=.ref TI) rfl ?_);refine qab (wpAny_seqItems hTI rfl ?_);show wpAny _ _ (Builtin.SmallTypes.ownedTupleIsFree (.ref z) >>= _) _ _ _;refine qab ?_;unfold Builtin.SmallTypes.ownedTupleIsFree;refine qab (wpAny_field hz rfl (x:=.none) rfl (qaw ?_));simp only[if_true];refine qab (wpAny_rule ?_);refine qab (wpAny_field hz rfl (x:=.ref TO) rfl ?_);refine qab (wpAny_setField_rec hz (by simp) fun ha hza sa=>?_);replace hza:IsZip ha z TI TO .ellipsis:=hza;replace sa:Heap.SameBut z s.heap ha:=sa;refine qab ?_;simp only[List.zipIdx_cons,List.zipIdx_nil,qcv,qcA];refine qab (qab (wpAny_onRaise ?_));show wpAny _ _ (Builtin.SmallTypes.nextOf (.ref i1) >>= _) _ _ _
 cases hx:xs[k1]? with
 | none =>
  refine qab (jw (s:={ s with heap:=ha}) hh (h1.at' fun o e=>(sa.2 _ D.i1z).trans e) (hl1.at' fun o e=>(sa.2 _ D.l1z).trans e) hx fun hb e sb he=>?_);obtain⟨oe,hoe,hce⟩:=he;have hzb:IsZip hb z TI TO .ellipsis:=sb _ _ D.i1z.symm hza;have hez:e≠z:=fun q=>by subst q;rw[hzb] at hoe;cases hoe;simp at hce
  exact wpAny_setField_rec hzb (by simp) fun hc _ sc=>hE hc e (fun c o c1 _ c3 _ q=>(sc.2 _ c1).trans (sb _ _ c3 ((sa.2 _ c1).trans q))) ⟨oe,(sc.2 _ hez).trans hoe,hce⟩
 | some x =>
  have hy:ys[k2]?=none:=by
   rcases hend with q|q
   ·rw[hx] at q;cases q
   ·exact q
  refine qab (g6 (s:={ s with heap:=ha}) (h1.at' fun o e=>(sa.2 _ D.i1z).trans e) (hl1.at' fun o e=>(sa.2 _ D.l1z).trans e) hx fun hb h1b sb=>qaw ?_);replace sb:Heap.SameBut i1 ha hb:=sb;have TOb:IsPair hb TO a b:=(sb.2 _ D.TOi1).trans ((sa.2 _ D.TOz).trans hTO);refine qab (wpAny_seqItems TOb rfl ?_);refine qab (wpAny_updateSeq_pair TOb fun hc TOc sc=>?_);replace sc:Heap.SameBut TO hb hc:=sc;refine qab (wpAny_letGo (qaw ?_));refine qab (qab (wpAny_onRaise ?_));show wpAny _ _ (Builtin.SmallTypes.nextOf (.ref i2) >>= _) _ _ _
  refine qab (jw (s:={ s with heap:=hc}) hh (h2.at' fun o e=>(sc.2 _ D.TOi2.symm).trans ((sb.2 _ D.i12.symm).trans ((sa.2 _ D.i2z).trans e)))
   (hl2.at' fun o e=>(sc.2 _ D.l2TO).trans ((sb.2 _ D.l2i1).trans ((sa.2 _ D.l2z).trans e))) hy fun hd e sd he=>?_)
  obtain⟨oe,hoe,hce⟩:=he;have hzd:IsZip hd z TI TO .ellipsis:=sd _ _ D.i2z.symm ((sc.2 _ D.TOz.symm).trans ((sb.2 _ D.i1z.symm).trans hza));have hez:e≠z:=fun q=>by subst q;rw[hzd] at hoe;cases hoe;simp at hce
  exact wpAny_setField_rec hzd (by simp) fun hf _ sf=>hE hf e (fun c o c1 c2 c3 c4 q=>(sf.2 _ c1).trans (sd _ _ c4 ((sc.2 _ c2).trans ((sb.2 _ c3).trans ((sa.2 _ c1).trans q))))) ⟨oe,(sf.2 _ hez).trans hoe,hce⟩
def yx(D:ZipApart z TI TO i1 i2 l1 l2)
  (hz:IsZip s.heap z TI TO .none) (hTI:IsPair s.heap TI (.ref i1) (.ref i2)) (hTO:IsPair s.heap TO a b)
  (h1:SqI t1 s.heap i1 l1 k1) (h2:SqI t2 s.heap i2 l2 k2) (hl1:SqO t1 s.heap l1 xs) (hl2:SqO t2 s.heap l2 ys) (hx:xs[k1]?=some x) (hy:ys[k2]?=some y)
  (hQ:∀h',IsZip h' z TI TO (rawInt s.heap.objs.size)->IsPair h' TO x y->SqI t1 h' i1 l1 (k1+1)->SqI t2 h' i2 l2 (k2+1)->IsPair h' s.heap.objs.size x y->h'.objs.size=s.heap.objs.size+1 ->
   (∀c o,c≠z->c≠TO->c≠i1->c≠i2->s.heap.get? c=some o->h'.get? c=some o)->Q (some (.ref s.heap.objs.size)) { s with heap:=h'}) :
  wpAny (model prog w) A (pyNext (.ref z)) Q E s:=by
 have hT:s.TypeIs (.ref z) "zip":=⟨_,hz,rfl⟩;unfold pyNext
 exact qab (wpAny_attempt (wpAny_callSpecial?_slot (name:=Str.ofString "__next__") hT F.slot_zip_next
  (wpAny_call_entry F.slot_zip_next hT F.entry_zip_next (wH D hz hTI hTO h1 h2 hl1 hl2 hx hy fun h' q1 q2 q3 q4 q5 q6 q7=>qaw (hQ h' q1 q2 q3 q4 q5 q6 q7)) (F.args_zip_next_1 _))))
def zip_end(hh:A.handled=none)(D:ZipApart z TI TO i1 i2 l1 l2)
  (hz:IsZip s.heap z TI TO .none) (hTI:IsPair s.heap TI (.ref i1) (.ref i2)) (hTO:IsPair s.heap TO a b)
  (h1:SqI t1 s.heap i1 l1 k1) (h2:SqI t2 s.heap i2 l2 k2) (hl1:SqO t1 s.heap l1 xs) (hl2:SqO t2 s.heap l2 ys) (hend:xs[k1]?=none\/ys[k2]?=none)
  (hQ:∀h',(∀c o,c≠z->c≠TO->c≠i1->c≠i2->s.heap.get? c=some o->h'.get? c=some o)->Q none { s with heap:=h'}):wpAny (model prog w) A (pyNext (.ref z)) Q E s:=by
 have hT:s.TypeIs (.ref z) "zip":=⟨_,hz,rfl⟩;unfold pyNext
 refine qab (wpAny_attempt (wpAny_callSpecial?_slot (name:=Str.ofString "__next__") hT F.slot_zip_next
  (wpAny_call_entry F.slot_zip_next hT F.entry_zip_next (xE hh D hz hTI hTO h1 h2 hl1 hl2 hend fun h' e hk he=>?_) (F.args_zip_next_1 _))))
 obtain⟨o,ho,hc⟩:=he;refine qab (wpAny_isInstance (T:="StopIteration") (b:=true) ⟨o,ho,hc⟩ isSubtype_stop ?_);exact qaw (hQ _ hk)
end
abbrev zA(t1:Bool)(h:Heap)(l1:Addr):Heap:=h.push { cls:=.type (itN t1),data:=.fields #[.ref l1,.int 0 0]}
abbrev zB(t1 t2:Bool)(h:Heap)(l1 l2:Addr):Heap:=(zA t1 h l1).push { cls:=.type (itN t2),data:=.fields #[.ref l2,.int 0 0]}
abbrev zC(t1 t2:Bool)(h:Heap)(l1 l2:Addr):Heap:=(zB t1 t2 h l1 l2).push { cls:=.type "tuple",data:=.seq #[.ref h.objs.size,.ref (zA t1 h l1).objs.size]}
abbrev zD(t1 t2:Bool)(h:Heap)(l1 l2:Addr):Heap:=(zC t1 t2 h l1 l2).push { cls:=.type "tuple",data:=.seq #[.none,.none]}
abbrev zE(t1 t2:Bool)(h:Heap)(l1 l2:Addr):Heap:=(zD t1 t2 h l1 l2).push { cls:=.type "zip",data:=.fields #[.none,.bool false,.bool false,.ref (zB t1 t2 h l1 l2).objs.size,.ref (zC t1 t2 h l1 l2).objs.size]}
def zip_new(t1 t2:Bool)(l1 l2:Addr)(xs ys:Array Value) :
  Meets (Builtin.«zip.__new__» ⟨[.type "zip",.ref l1,.ref l2],[]⟩) (fun _ R s=>SqO t1 s.heap l1 xs/\SqO t2 s.heap l2 ys/\R (.ok (.ret (.ref (zD t1 t2 s.heap l1 l2).objs.size))) { s with heap:=zE t1 t2 s.heap l1 l2}) :=
 .of_wp fun prog w A R s h=>by
  obtain⟨hp,g,d,tk,os⟩:=s;obtain⟨hl1,hl2,h⟩:=h;have hsub:=sub_zip;have hL1:SqO t1 (Shared.heap ⟨hp,g,d,tk,os⟩) l1 xs:=hl1;have hL2:SqO t2 (Shared.heap ⟨hp.push { cls:=.type (itN t1),data:=.fields #[.ref l1,.int 0 0]},g,d,tk,os⟩) l2 ys:=hl2.at' fun o e=>qad _ e
  wp_walk using iA hL1,iA hL2
  exact⟨_,rfl,h⟩
section
variable {prog:Program} {w:World} {A:Around} {E:Value→Shared→Prop} {s:Shared}
def xR(hl1:SqO t1 s.heap l1 xs)(hl2:SqO t2 s.heap l2 ys)
  (h:∀h',IsZip h' (s.heap.objs.size+4) (s.heap.objs.size+2) (s.heap.objs.size+3) .none->IsPair h' (s.heap.objs.size+2) (.ref s.heap.objs.size) (.ref (s.heap.objs.size+1)) ->
   IsPair h' (s.heap.objs.size+3) .none .none->SqI t1 h' s.heap.objs.size l1 0->SqI t2 h' (s.heap.objs.size+1) l2 0->h'.objs.size=s.heap.objs.size+5 ->
   (∀c o,s.heap.get? c=some o->h'.get? c=some o)->Q (.ref (s.heap.objs.size+4)) { s with heap:=h'}) :
  wpAny (model prog w) A (call (.type "zip") [.ref l1,.ref l2]) Q E s:=by
 refine callType_new F.called_zip (by decide) (F.typeCall_zip_2 _ _) (F.newCall_zip_2 _ _) (fun obj=>F.args_object_init_3 obj _ _) F.entry_zip_new (zip_new t1 t2 l1 l2 xs ys) ⟨hl1,hl2,?_⟩;have z1:(zA t1 s.heap l1).objs.size=s.heap.objs.size+1:=qba ..;have z2:(zB t1 t2 s.heap l1 l2).objs.size=s.heap.objs.size+2:=by rw[qba,z1]
 have z3:(zC t1 t2 s.heap l1 l2).objs.size=s.heap.objs.size+3:=by rw[qba,z2]
 have z4:(zD t1 t2 s.heap l1 l2).objs.size=s.heap.objs.size+4:=by rw[qba,z3]
 have z5:(zE t1 t2 s.heap l1 l2).objs.size=s.heap.objs.size+5:=by rw[qba,z4]
 have g5:(zE t1 t2 s.heap l1 l2).get? (zD t1 t2 s.heap l1 l2).objs.size=some _:=qaz _ rfl;have g4:(zE t1 t2 s.heap l1 l2).get? (zC t1 t2 s.heap l1 l2).objs.size=some _:=qad _ (qaz _ rfl);have g3:(zE t1 t2 s.heap l1 l2).get? (zB t1 t2 s.heap l1 l2).objs.size=some _:=qad _ (qad _ (qaz _ rfl));have g2:(zE t1 t2 s.heap l1 l2).get? (zA t1 s.heap l1).objs.size=some _:=qad _ (qad _ (qad _ (qaz _ rfl)));have g1:(zE t1 t2 s.heap l1 l2).get? s.heap.objs.size=some _:=qad _ (qad _ (qad _ (qad _ (qaz _ rfl))));show _/\_;rw[z2,z3,z4] at g5;rw[z1,z2] at g3;rw[z3] at g4;rw[z1] at g2;rw[z4]
 exact⟨⟨_,g5,rfl⟩,h _ g5 g3 g4 ⟨_,g1,rfl,rfl⟩ ⟨_,g2,rfl,rfl⟩ z5 fun c o x =>
  qad _ (qad _ (qad _ (qad _ (qad _ x))))⟩
end
end SeqT
namespace MM
open PySem PySem.Spec PyProof.Rows L2 SeqT
def SqB(tp:Bool)(K:qac)(H:Hp)(a:Addr)(ys:List V):Prop:=match tp with
 | true=>SqT K H a ys
 | false=>SqL K H a ys
section
variable {X:Cx} {F6:List (Addr × Obj)} {σ:L2.St} {H:Hp} {s:Shared}
def eO(I:Inv X F6 σ H s)(h:SqB tp X.K H a ys):∃its:List Value,aJ ys its/\SqO tp s.heap a its.toArray/\ys.length<=sizeLine:=by
 cases tp with
 | true =>
  obtain⟨its,rv,pl,hz⟩:=I.tuple h;exact⟨its,rv,pl,hz⟩
 | false =>
  obtain⟨its,rv,pl,hz⟩:=I.list h;exact⟨its,rv,pl.isList,hz⟩
def oi(I:Inv X F6 σ H s)(h:SqB tp X.K H a xs)(h':SqB tp X.K H a ys):xs=ys:=by
 cases tp with
 | true=>exact I.tuple_inj h h'
 | false=>exact I.list_inj h h'
def gm(I:Inv X F6 σ H s){h':Heap}{t':Nat}{ch:List Addr}(hf:∀b∈ch,gS X F6 H b)(k:∀b o,b∉ch->s.heap.get? b=some o->h'.get? b=some o) :
  Inv X F6 σ H { s with heap:=h',toks:=t'}:=by
 have nit:∀b u,H b=some u->b∉ch:=fun b u e z=>by rw[(hf b z).1] at e;cases e
 refine I.step (g':=s.gens) (d':=s.drawn) (ch:=ch) (fun b hb=>?_) (fun b o _ _ hc e _=>k b o hc e) (fun b o _ _ hc e _=>⟨o.slots,k b o hc e⟩) (fun _ _ _ _ n=>n)
  (fun b o hc e=>⟨o,k b o hc e⟩) (fun _ _ e=>e) (fun _ _ _ e=>e) (fun b ps e=>⟨#[],by rw[e];simp⟩) (fun m hm=>?_) (fun b u e=>?_) I.bare
 ·obtain⟨f0,f1,f2,f3,f4,f5⟩:=hf b hb;exact⟨f3,f1,f4,f5⟩
 ·obtain⟨o,es,ep,ho,r⟩:=hm;exact⟨o,es,ep,k _ o (fun z=>(hf _ z).2.1 rfl) ho,r⟩
 ·refine (I.hok b u e).stay (fun c v hc q=>k c v ?_ q) (fun _ q=>q) fun _ _ q=>q;rcases hc with z|z
  ·rw[z];exact nit b u e
  ·exact nit c _ z
def nQ(I:Inv X F6 σ H s){h':Heap}{t':Nat}{ch:List Addr}{ys:List V}{its:List Value}(hf:∀b∈ch,gS X F6 H b)(rv:aJ ys its)(hz:ys.length<=sizeLine)(hch:s.heap.objs.size∉ch)
  (ht:h'.get? s.heap.objs.size=some { cls:=.type "tuple",data:=.seq its.toArray}) (k:∀b o,b∉ch->s.heap.get? b=some o->h'.get? b=some o) :
  Inv X F6 σ (upd H s.heap.objs.size (.tup ys)) { s with heap:=h',toks:=t'}/\(∀b∈ch,(upd H s.heap.objs.size (.tup ys)) b=none)/\H s.heap.objs.size=none:=by
 have hfr:=I.hok.fresh (qai s.heap.objs.size);have hne:∀b∈ch,b≠s.heap.objs.size:=fun b hb z=>hch (by rw[<-z];exact hb);have I1:Inv X F6 σ (upd H s.heap.objs.size (.tup ys)) { s with heap:=s.heap.push { cls:=.type "tuple",data:=.seq its.toArray},toks:=s.toks} :=
  I.laid (o:=.tup ys) (fun b u q=>qad _ q) (qai _) ⟨hz,its,rv,_,qaz _ rfl,rfl,⟨_,rfl⟩,rfl⟩
 have hup:∀b∈ch,(upd H s.heap.objs.size (.tup ys)) b=none:=fun b hb=>by rw[aW (hne b hb)];exact (hf b hb).1
 refine⟨?_,hup,hfr⟩;refine gm (t':=t') I1 (ch:=ch) (fun b hb=>⟨hup b hb,(hf b hb).2⟩) fun b o hb e=>?_;by_cases z:b=s.heap.objs.size
 ·subst z;have e':(s.heap.push { cls:=.type "tuple",data:=.seq its.toArray}).get? s.heap.objs.size=some { cls:=.type "tuple",data:=.seq its.toArray}:=qaz _ rfl;rw[show ({ s with heap:=s.heap.push { cls:=.type "tuple",data:=.seq its.toArray},toks:=s.toks}:Shared).heap=s.heap.push { cls:=.type "tuple",data:=.seq its.toArray} from rfl,e'] at e;cases e;exact ht
 ·have e':(s.heap.push { cls:=.type "tuple",data:=.seq its.toArray}).get? b=some o:=e;rw[Heap.get?_push_ne _ _ _ z] at e';exact k b o hb e'
end
def Ite(K:qac)(tp:Bool)(a:Addr):It :=
 ⟨fun i H=>∃ys y,SqB tp K H a ys/\ys[i]?=some y,fun i H x H'=>∃p y,H p=none/\x=.ref p/\H'=upd H p (.tup [.int i,y])/\∀ys,SqB tp K H a ys->ys[i]?=some y,fun i H=>∃ys,SqB tp K H a ys/\ys.length<=i⟩
def vZ{P:Program}{w:World}{K:qac}{elts:List Expr}{x1:Nat}{pos:Pos}(tp:Bool)(a e it:Addr)(hei:e≠it)(hae:a≠e)(hai:a≠it) :
  Turn P w K (.Tuple elts x1 pos) (Ite K tp a) [e,it] e (fun i h=>(∃old,IsEnum h e it i old)/\SqI tp h it a i) where
 mem:=by simp
 obj:=fun i h st b hb=>by
  obtain⟨⟨old,he⟩,hi⟩:=st
  have:b=e\/b=it:=by simpa using hb
  rcases this with rfl|rfl
  ·exact⟨_,he,fun v z=>nomatch z⟩
  ·obtain⟨o,ho,hc,hd⟩:=hi;exact⟨o,ho,fun v z=>by rw[hd] at z;cases z⟩
 keep:=fun i h h' st k=>let ⟨⟨old,he⟩,hi⟩:=st;⟨⟨old,k e (by simp) _ he⟩,hi.at' fun o q=>k it (by simp) o q⟩
 item:=by
  intro X hP hw hK hc i F6 s σ H E I hf st hg;subst hP hw hK;obtain⟨⟨old,he⟩,hi⟩:=st;obtain⟨ys,y,hq,hy⟩:=hg;obtain⟨its,rv,so,hz⟩:=eO I hq;obtain⟨u,hu,ru⟩:=rv.get hy;have hlt:i<its.toArray.size:=by
   have:=(qaf.mp hu).1
   simpa using this
  have hin:(X.A.in1).handled=none:=by have:=I.ok.hd hc;simpa using this
  refine wpAny_pyNext_enum_itemD (draws hin tp it a hai its.toArray) he ⟨hi,so⟩ hlt hei (by simp[hei,Ne.symm hae]) fun x h1 tk hx ho1 st1 ht1 hz1 hk1=>⟨_,rfl,?_⟩;have hxu:x=u:=by
   have:its.toArray[i]?=some u:=by simpa using hu
   rw[this] at hx;exact (Option.some.inj hx).symm
  subst hxu;refine wpAny_letOwnedTupleGo_enum (s:={ s with heap:=h1,toks:=tk+1}) ho1 fun h2 he2 sb2=>?_;replace sb2:Heap.SameBut e h1 h2:=sb2;have hlte:e<s.heap.objs.size:=qas he;have hlti:it<s.heap.objs.size:=hi.lt;obtain⟨I2,hup,hfr⟩:=nQ (t':=tk+1) (h':=h2) I (ch:=[e,it]) (ys:=[.int i,y]) (its:=[.int i tk,x]) hf (.cons ⟨tk,rfl⟩ (.cons ru .nil)) (by rw[sizeLine_eq];show 2<=_;decide)
   (by simp only[qam,qbx,or_false,not_or];exact⟨qaU hlte,qaU hlti⟩)
   ((sb2.2 _ (qaU hlte)).trans ht1)
   (fun b o hb q=>by
    have h1':b≠e:=fun z=>hb (by simp[z]);have h2':b≠it:=fun z=>hb (by simp[z])
    exact (sb2.2 b h1').trans (hk1 b o h1' h2' q))
  refine⟨.ref s.heap.objs.size,_,I2,rfl,⟨_,y,hfr,rfl,rfl,fun zs hzs=>by rw[oi I hzs hq];exact hy⟩,⟨⟨x,by simpa using he2⟩,?_⟩,hup⟩;exact st1.1.at' fun o q=>(sb2.2 it (Ne.symm hei)).trans q
 done:=by
  intro X hP hw hK hc i F6 s σ H E I hf st hg;subst hP hw hK;obtain⟨⟨old,he⟩,hi⟩:=st;obtain⟨ys,hq,hy⟩:=hg;obtain⟨its,rv,so,hz⟩:=eO I hq;have hin:(X.A.in1).handled=none:=by have:=I.ok.hd hc;simpa using this
  have hlen:=rv.length;have hT:s.TypeIs (.ref e) "enumerate":=⟨_,he,rfl⟩;unfold pyNext;refine qab (wpAny_attempt (wpAny_callSpecial?_slot (name:=Str.ofString "__next__") hT PySem.F.slot_enumerate_next (wpAny_call_entry PySem.F.slot_enumerate_next hT PySem.F.entry_enumerate_next ?_ (PySem.F.args_enumerate_next_1 _))));show wpAny _ _ (field (.ref e) 2 >>= _) _ _ _;refine qab (wpAny_field he rfl (x:=.ref it) rfl ?_);refine qab (jw hin hi so (by simp;ext) fun h1 x he' hx'=>?_);obtain⟨o,ho,hcx⟩:=hx';refine qab (wpAny_isInstance (T:="StopIteration") (b:=true) ⟨o,ho,hcx⟩ isSubtype_stop ?_);refine qaw ⟨rfl,gm (t':=s.toks) I hf fun b o hb q=>he' b o (fun z=>hb (by simp[z])) q⟩
 self:=fun A i s Q E st h=>let ⟨⟨old,he⟩,_⟩:=st;wpAny_pyIter_enum he h
def Itz(K:qac)(t1 t2:Bool)(a b:Addr):It :=
 ⟨fun i H=>∃xs ys x y,SqB t1 K H a xs/\SqB t2 K H b ys/\xs[i]?=some x/\ys[i]?=some y,
   fun i H v H'=>∃p x y,H p=none/\v=.ref p/\H'=upd H p (.tup [x,y])/\(∀xs,SqB t1 K H a xs->xs[i]?=some x)/\∀ys,SqB t2 K H b ys->ys[i]?=some y,
   fun i H=>∃xs ys,SqB t1 K H a xs/\SqB t2 K H b ys/\(xs.length<=i\/ys.length<=i)⟩
def w8{P:Program}{w:World}{K:qac}{elts:List Expr}{x1:Nat}{pos:Pos}(t1 t2:Bool)(a b z TI TO i1 i2:Addr)(D:ZipApart z TI TO i1 i2 a b) :
  Turn P w K (.Tuple elts x1 pos) (Itz K t1 t2 a b) [z,TI,TO,i1,i2] z (fun i h=>IsZip h z TI TO .none/\IsPair h TI (.ref i1) (.ref i2)/\(∃u v,IsPair h TO u v)/\SqI t1 h i1 a i/\SqI t2 h i2 b i) where
 mem:=by simp
 obj:=fun i h st c hc=>by
  obtain⟨hz,hTI,⟨u,v,hTO⟩,⟨o1,e1,_,d1⟩,⟨o2,e2,_,d2⟩⟩:=st
  have:c=z\/c=TI\/c=TO\/c=i1\/c=i2:=by simpa using hc
  rcases this with rfl|rfl|rfl|rfl|rfl
  ·exact⟨_,hz,fun v z=>nomatch z⟩
  ·exact⟨_,hTI,fun v z=>nomatch z⟩
  ·exact⟨_,hTO,fun v z=>nomatch z⟩
  ·exact⟨o1,e1,fun v z=>by rw[d1] at z;cases z⟩
  ·exact⟨o2,e2,fun v z=>by rw[d2] at z;cases z⟩
 keep:=fun i h h' st k=>let ⟨hz,hTI,⟨u,v,hTO⟩,h1,h2⟩:=st
  ⟨k z (by simp) _ hz,k TI (by simp) _ hTI,⟨u,v,k TO (by simp) _ hTO⟩,h1.at' fun o q=>k i1 (by simp) o q,h2.at' fun o q=>k i2 (by simp) o q⟩
 item:=by
  intro X hP hw hK hc i F6 s σ H E I hf st hg;subst hP hw hK;obtain⟨hz,hTI,⟨u,v,hTO⟩,h1,h2⟩:=st;obtain⟨xs,ys,x,y,hq1,hq2,hx,hy⟩:=hg;obtain⟨its1,rv1,so1,hz1⟩:=eO I hq1;obtain⟨its2,rv2,so2,hz2⟩:=eO I hq2;obtain⟨u1,hu1,ru1⟩:=rv1.get hx;obtain⟨u2,hu2,ru2⟩:=rv2.get hy;refine yx D hz hTI hTO h1 h2 so1 so2 (x:=u1) (y:=u2) (by simpa using hu1) (by simpa using hu2) fun ha hza hTOa h1a h2a hTa hsa hka=>⟨_,rfl,?_⟩;refine wpAny_letOwnedTupleGo_zip (s:={ s with heap:=ha}) hza fun hb hzb sb=>?_;replace sb:Heap.SameBut z ha hb:=sb;have l1:z<s.heap.objs.size:=qas hz;have l2:TI<s.heap.objs.size:=qas hTI;have l3:TO<s.heap.objs.size:=qas hTO;have l4:i1<s.heap.objs.size:=h1.lt;have l5:i2<s.heap.objs.size:=h2.lt;have up:∀c o,c≠z->ha.get? c=some o->hb.get? c=some o:=fun c o hc q=>(sb.2 c hc).trans q;obtain⟨I2,hup,hfr⟩:=nQ (t':=s.toks) (h':=hb) I (ch:=[z,TI,TO,i1,i2]) (ys:=[x,y]) (its:=[u1,u2]) hf (.cons ru1 (.cons ru2 .nil)) (by rw[sizeLine_eq];show 2<=_;decide)
   (by simp only[qam,qbx,or_false,not_or];exact⟨qaU l1,qaU l2,qaU l3,qaU l4,qaU l5⟩)
   (up _ _ (qaU l1) hTa)
   (fun c o hc q=>up c o (fun e=>hc (by simp[e])) (hka c o (fun e=>hc (by simp[e])) (fun e=>hc (by simp[e])) (fun e=>hc (by simp[e])) (fun e=>hc (by simp[e])) q))
  refine⟨.ref s.heap.objs.size,_,I2,rfl,⟨_,x,y,hfr,rfl,rfl,fun zs hzs=>by rw[oi I hzs hq1];exact hx,fun zs hzs=>by rw[oi I hzs hq2];exact hy⟩,⟨hzb,?_,⟨_,_,up _ _ D.TOz hTOa⟩,h1a.at' fun o q=>up _ o D.i1z q,h2a.at' fun o q=>up _ o D.i2z q⟩,hup⟩;exact up _ _ D.TIz (hka _ _ D.TIz D.TITO D.TIi1 D.TIi2 hTI)
 done:=by
  intro X hP hw hK hc i F6 s σ H E I hf st hg;subst hP hw hK;obtain⟨hz,hTI,⟨u,v,hTO⟩,h1,h2⟩:=st;obtain⟨xs,ys,hq1,hq2,hend⟩:=hg;obtain⟨its1,rv1,so1,hz1⟩:=eO I hq1;obtain⟨its2,rv2,so2,hz2⟩:=eO I hq2;have e1:=rv1.length;have e2:=rv2.length;have hT:s.TypeIs (.ref z) "zip":=⟨_,hz,rfl⟩;have hin:(X.A.in1).handled=none:=by have:=I.ok.hd hc;simpa using this
  refine zip_end (I.ok.hd hc) D hz hTI hTO h1 h2 so1 so2 ?_ fun h' hk=>⟨rfl,gm (t':=s.toks) I hf fun c o hc q=>hk c o (fun e=>hc (by simp[e])) (fun e=>hc (by simp[e])) (fun e=>hc (by simp[e])) (fun e=>hc (by simp[e])) q⟩;rcases hend with q|q
  ·exact .inl (by simp;ext)
  ·exact .inr (by simp;ext)
 self:=fun A i s Q E st h=>wpAny_pyIter_zip st.1 h
def bU(v:PV)(h:MH):Option (Bool × List PV × List (Nat × List PV)):=match v with
 | .loc n=>(match h[n]? with
  | some (.lst xs)=>some (false,xs,[(n,xs)])
  | _=>none)
 | .frl xs=>some (false,xs,[])
 | .tup xs=>some (true,xs,[])
 | _=>none
def rR{X:Cx}{ρ:List Addr}{H:Hp}{h:MH}{x:PV}{y:V}{tp:Bool}{xs:List PV}{gd:List (Nat × List PV)}(rh:RH X.K X.mg ρ H h)(r:RP X.K ρ H x y)(e:bU x h=some (tp,xs,gd)) :
  ∃a,y=.ref a/\(∃ys,SqB tp X.K H a ys)/\∀ρ' H' h',Le ρ H ρ' H'->RH X.K X.mg ρ' H' h'->(∀p∈gd,h'[p.1]?=some (.lst p.2))->∃ys,SqB tp X.K H' a ys/\RPs X.K ρ' H' xs ys:=by
 cases r with
 | frl s r=>cases e;exact⟨_,rfl,⟨_,s.sq⟩,fun ρ' H' h' l _ _=>⟨_,(l.sqf s).sq,r.le l⟩⟩
 | tup s r=>cases e;exact⟨_,rfl,⟨_,s⟩,fun ρ' H' h' l _ _=>⟨_,l.sqt s,r.le l⟩⟩
 | @loc n a en =>
  obtain⟨o,eo,ro⟩:=rh.obj en;unfold bU at e;dsimp only at e;rw[eo] at e
  cases o with
  | lst zs =>
   cases e;obtain⟨ys,ey,ry⟩:=ro;refine⟨a,rfl,⟨ys,SqL.of ey⟩,fun ρ' H' h' l rh' ok=>?_⟩;obtain⟨ys',ey',ry'⟩:=rh'.at' n a _ (l.get en) (ok (n,xs) (by simp));exact⟨ys',SqL.of ey',ry'⟩
  | _=>cases e
 | _=>cases e
def ig(xs:List PV):List PV:=xs.zipIdx.map fun p=>.tup [.int (p.2:Int),p.1]
def fe(xs ys:List PV):List PV:=(xs.zip ys).map fun p=>.tup [p.1,p.2]
def vR{xs:List PV}{i:Nat}{x:PV}(h:xs[i]?=some x):(ig xs)[i]?=some (.tup [.int (i:Int),x]):=by
 unfold ig;rw[qax,List.getElem?_zipIdx,h];simp
def oR(xs:List PV):(ig xs).length=xs.length:=by simp[ig]
def lP(xs ys:List PV):(fe xs ys).length=min xs.length ys.length:=by simp[fe]
def p9{xs ys:List PV}{i:Nat}{x y:PV}(h1:xs[i]?=some x)(h2:ys[i]?=some y):(fe xs ys)[i]?=some (.tup [x,y]):=by
 unfold fe;rw[qax]
 have:(xs.zip ys)[i]?=some (x,y):=by rw[qca];exact⟨h1,h2⟩
 rw[this];rfl
def mItE(m:Mx (List PV)):Mx MIt:=fun σ h=>(m σ h).bind fun vs h1=>match vs with
 | [x]=>(match bU x h1 with
  | some (_,xs,gd)=>.ok ⟨ig xs,gd⟩ h1
  | none=>.bad)
 | _=>.bad
def mItZ(m:Mx (List PV)):Mx MIt:=fun σ h=>(m σ h).bind fun vs h1=>match vs with
 | [x,y]=>(match bU x h1,bU y h1 with
  | some (_,xs,g1),some (_,ys,g2)=>.ok ⟨fe xs ys,g1++g2⟩ h1
  | _,_=>.bad)
 | _=>.bad
section
variable {X:Cx} {N W G:List Str} {k:Nat}
def mi_enum(g:Good X N W G k){elts:List Expr}{x1:Nat}{tp:Pos}{a:Expr}{m:Mx (List PV)}{p pos:Pos}{j:Nat}(hj:G[j]?=some "enumerate")(hm:X.mg "enumerate"=none)(ha:MA X [a] m)
  (hs:starEach [a] X.env=[(false,eval a X.env)]:=by rfl):MI X (.Tuple elts x1 tp) (.Call (.Name "enumerate" p) [a] [] pos) (mItE m):=by
 have d:=g.dbg _ (qaq _ (aX hj));intro F6 s σ H R I ⟨ρ,σp,h,rs,rh,q⟩;refine wpAny_Call_Name_kw (gQ I (g.gl _ (aX hj)) hm PyProof.Rows.Boot.«enumerate» ?_ d.2.2 d.1)
 refine PyProof.Rows.callWith_type1 (thn (ha pos F6 s σ H (fun vs H1=>∃ρ1 h1 xs,Le ρ H ρ1 H1/\RH X.K X.mg ρ1 H1 h1/\RPs X.K ρ1 H1 xs vs/\Ful X (lR X) σp ρ1 H1 ((match xs with
   | [x]=>(match bU x h1 with | some (_,xs,gd)=>.ok ⟨ig xs,gd⟩ h1 | none=>.bad)
   | _=>.bad:Out MIt)) R) I ⟨ρ,σp,h,rs,rh,Ful.bind q fun ρ1 H1 v v' h1 _ l1 rh1 rv q1=>⟨ρ1,h1,v,l1,rh1,rv,q1⟩⟩) fun us s1 ⟨vs,H1,I1,r1,ρ1,h1,xs,l1,rh1,rv,q1⟩=>?_) hs rfl
 cases rv with
 | nil=>exact q1.elim
 | @cons y y' ys ys' ry t1 =>
  cases t1 with
  | cons _ _=>exact q1.elim
  | nil =>
   dsimp only at q1
   cases hsq:bU y h1 with
   | none=>rw[hsq] at q1;exact q1.elim
   | some z =>
    obtain⟨b,zs,gd⟩:=z;rw[hsq] at q1;obtain⟨ad,rfl,⟨ws,hws⟩,rel⟩:=rR rh1 ry hsq;obtain⟨u,rfl,rx⟩:=iY r1;cases rx;obtain⟨its,rvv,so,hz⟩:=eO I1 hws;refine vT so fun h' he hi hsz hk=>?_;have hT:Shared.TypeIs { s1 with heap:=h'} (.ref (s1.heap.objs.size+1)) "enumerate":=⟨_,he,rfl⟩;refine wpAny_pyIter_enum he ?_;have I2:Inv X F6 σ H1 { s1 with heap:=h',toks:=s1.toks}:=I1.kept hk;obtain⟨oa,hoa,hca,_⟩:=id so;have hlt:ad<s1.heap.objs.size:=qas hoa;have hfr0:=I1.hok.fresh (qai s1.heap.objs.size);have hfr1:=I1.hok.fresh (qbR s1.heap.objs.size);refine⟨s1.heap.objs.size+1,_,_,_,H1,rfl,I2,vZ b ad _ s1.heap.objs.size (qaU (Nat.lt_succ_self _)) (qaS (Nat.lt_succ_of_lt hlt)) (qaS hlt),⟨⟨_,he⟩,hi⟩,fun c hc=>?_,?_⟩
    ·have:c=s1.heap.objs.size+1\/c=s1.heap.objs.size:=by simpa using hc
     rcases this with rfl|rfl
     ·have F:=Inv.fpOk I1 (H':=H1) (b:=s1.heap.objs.size+1) (qbR _) hfr1;exact F
     ·exact Inv.fpOk I1 (H':=H1) (qai _) hfr0
    ·refine q1 ρ1 H1 _ (Le.refl _ _) rh1 ?_;intro ρ' H' h2 i l rh' ok;obtain⟨ws',hws',rws⟩:=rel ρ' H' h2 l rh' ok;refine⟨fun hi'=>?_,fun hi'=>⟨ws',hws',by rw[<-rws.length];rw[oR] at hi';exact hi'⟩⟩;rw[oR] at hi';have hx:zs[i]?=some (zs[i]'hi'):=qaj hi';obtain⟨w',ew,rw'⟩:=rws.get hx;refine⟨⟨ws',w',hws',ew⟩,fun x' H3 ⟨pp,y2,hp,e1,e2,hall⟩=>?_⟩;subst e1;subst e2;have ey:y2=w':=by
      have:=hall ws' hws'
      rw[ew] at this;exact (Option.some.inj this).symm
     subst ey;obtain⟨rh3,l3⟩:=rh'.tup hp [.int i,y2];exact⟨ρ',_,l3,rh3,vR hx,.tup (SqT.of bY) (.cons (.int _) (.cons (rw'.le l3) .nil))⟩
def vU(g:Good X N W G k){elts:List Expr}{x1:Nat}{tp:Pos}{a b:Expr}{m:Mx (List PV)}{p pos:Pos}{j:Nat}(hj:G[j]?=some "zip")(hm:X.mg "zip"=none)(ha:MA X [a,b] m)
  (hs:starEach [a,b] X.env=(false,eval a X.env)::starEach [b] X.env:=by rfl) (hpl:(backTo pos (starEach [b] X.env)).any (·.1)=false:=by rfl):MI X (.Tuple elts x1 tp) (.Call (.Name "zip" p) [a,b] [] pos) (mItZ m):=by
 have d:=g.dbg _ (qaq _ (aX hj));intro F6 s σ H R I ⟨ρ,σp,h,rs,rh,q⟩;refine wpAny_Call_Name_kw (gQ I (g.gl _ (aX hj)) hm PyProof.Rows.Boot.«zip» ?_ d.2.2 d.1)
 refine PyProof.Rows.callWith_type1 (thn (ha pos F6 s σ H (fun vs H1=>∃ρ1 h1 xs,Le ρ H ρ1 H1/\RH X.K X.mg ρ1 H1 h1/\RPs X.K ρ1 H1 xs vs/\Ful X (lR X) σp ρ1 H1 ((match xs with
   | [x,y]=>(match bU x h1,bU y h1 with | some (_,xs,g1),some (_,ys,g2)=>.ok ⟨fe xs ys,g1++g2⟩ h1 | _,_=>.bad)
   | _=>.bad:Out MIt)) R) I ⟨ρ,σp,h,rs,rh,Ful.bind q fun ρ1 H1 v v' h1 _ l1 rh1 rv q1=>⟨ρ1,h1,v,l1,rh1,rv,q1⟩⟩) fun us s1 ⟨vs,H1,I1,r1,ρ1,h1,xs,l1,rh1,rv,q1⟩=>?_) hs hpl
 cases rv with
 | nil=>exact q1.elim
 | @cons y y' ys ys' ry t1 =>
  cases t1 with
  | nil=>exact q1.elim
  | @cons v v' vs2 vs2' rv t2 =>
   cases t2 with
   | cons _ _=>exact q1.elim
   | nil =>
    dsimp only at q1
    cases hsq:bU y h1 with
    | none=>rw[hsq] at q1;exact q1.elim
    | some z =>
     obtain⟨b1,zs1,gd1⟩:=z
     cases hsq2:bU v h1 with
     | none=>rw[hsq,hsq2] at q1;exact q1.elim
     | some z2 =>
      obtain⟨b2,zs2,gd2⟩:=z2;rw[hsq,hsq2] at q1;obtain⟨ad1,rfl,⟨ws1,hws1⟩,rel1⟩:=rR rh1 ry hsq;obtain⟨ad2,rfl,⟨ws2,hws2⟩,rel2⟩:=rR rh1 rv hsq2
      cases r1 with
      | @cons _ u1 _ us1 ru1 tu1 =>
       cases tu1 with
       | @cons _ u2 _ us2 ru2 tu2 =>
        cases tu2;cases ru1;cases ru2;obtain⟨its1,rvv1,so1,hz1⟩:=eO I1 hws1;obtain⟨its2,rvv2,so2,hz2⟩:=eO I1 hws2;refine xR so1 so2 fun h' hz hTI hTO hi1 hi2 hsz hk=>?_;refine wpAny_pyIter_zip hz ?_;have I2:Inv X F6 σ H1 { s1 with heap:=h',toks:=s1.toks}:=I1.kept hk;obtain⟨oa1,hoa1,_,_⟩:=id so1;obtain⟨oa2,hoa2,_,_⟩:=id so2;have lt1:ad1<s1.heap.objs.size:=qas hoa1;have lt2:ad2<s1.heap.objs.size:=qas hoa2;have sN:∀(n:Nat),s1.heap.objs.size<=s1.heap.objs.size+n:=fun n=>Nat.le_add_right _ _;have ap:∀(c:Addr) (n:Nat),c<s1.heap.objs.size->c≠s1.heap.objs.size+n:=fun c n hc=>qaS (qat hc (sN n));have ne':∀(m n:Nat),m≠n->s1.heap.objs.size+m≠s1.heap.objs.size+n:=fun m n hmn e=>hmn (Nat.add_left_cancel e);have D:ZipApart (s1.heap.objs.size+4) (s1.heap.objs.size+2) (s1.heap.objs.size+3) s1.heap.objs.size (s1.heap.objs.size+1) ad1 ad2 :=
         ⟨ne' 2 4 (by decide),ne' 3 4 (by decide),ne' 0 4 (by decide),ne' 1 4 (by decide),ne' 2 3 (by decide),ne' 2 0 (by decide),ne' 2 1 (by decide),ne' 3 0 (by decide),ne' 3 1 (by decide),ne' 0 1 (by decide),
          ap ad1 4 lt1,ap ad1 3 lt1,ap ad1 0 lt1,ap ad1 1 lt1,ap ad2 4 lt2,ap ad2 3 lt2,ap ad2 0 lt2,ap ad2 1 lt2⟩
        refine⟨s1.heap.objs.size+4,_,_,_,H1,rfl,I2,w8 b1 b2 ad1 ad2 _ _ _ _ _ D,⟨hz,hTI,⟨_,_,hTO⟩,hi1,hi2⟩,fun c hc=>?_,?_⟩
        ·have F:∀n:Nat,gS X F6 H1 (s1.heap.objs.size+n):=fun n=>Inv.fpOk I1 (H':=H1) (sN n) (I1.hok.fresh (sN n))
         have:c=s1.heap.objs.size+4\/c=s1.heap.objs.size+2\/c=s1.heap.objs.size+3\/c=s1.heap.objs.size\/c=s1.heap.objs.size+1:=by simpa using hc
         rcases this with rfl|rfl|rfl|rfl|rfl
         ·exact F 4
         ·exact F 2
         ·exact F 3
         ·exact F 0
         ·exact F 1
        ·refine q1 ρ1 H1 _ (Le.refl _ _) rh1 ?_;intro ρ' H' h2 i l rh' ok;obtain⟨ws1',hws1',rws1⟩:=rel1 ρ' H' h2 l rh' (fun p hp=>ok p (qaV _ hp));obtain⟨ws2',hws2',rws2⟩:=rel2 ρ' H' h2 l rh' (fun p hp=>ok p (qaq _ hp));refine⟨fun hi'=>?_,fun hi'=>⟨ws1',ws2',hws1',hws2',?_⟩⟩
         ·rw[lP] at hi';have hx1:zs1[i]?=some (zs1[i]'(by ext)):=qaj (by ext);have hx2:zs2[i]?=some (zs2[i]'(by ext)):=qaj (by ext);obtain⟨w1,ew1,rw1⟩:=rws1.get hx1;obtain⟨w2,ew2,rw2⟩:=rws2.get hx2;refine⟨⟨ws1',ws2',w1,w2,hws1',hws2',ew1,ew2⟩,fun x' H3 ⟨pp,y1,y2,hp,e1,e2,hall1,hall2⟩=>?_⟩;subst e1;subst e2;have ey1:y1=w1:=by
           have:=hall1 ws1' hws1'
           rw[ew1] at this;exact (Option.some.inj this).symm
          have ey2:y2=w2:=by
           have:=hall2 ws2' hws2'
           rw[ew2] at this;exact (Option.some.inj this).symm
          subst ey1;subst ey2;obtain⟨rh3,l3⟩:=rh'.tup hp [y1,y2];exact⟨ρ',_,l3,rh3,p9 hx1 hx2,.tup (SqT.of bY) (.cons (rw1.le l3) (.cons (rw2.le l3) .nil))⟩
         ·rw[lP] at hi';have a1:=rws1.length;have a2:=rws2.length;ext
end
end MM
namespace MM
open PySem PySem.Spec PyProof.Rows L2 SetT SortT
section
variable {X:Cx} {N W G:List Str} {k:Nat}
end
end MM
namespace MM
open PySem PySem.Spec PyProof.Rows L2
local instance (priority:=1) cdec26 (p:Prop):Decidable p:=Classical.propDecidable p
def sP(I:Nat->PSt->MH->Prop):∀(xs:List PV) (j:Nat) (σ:PSt) (h:MH),I j σ h->(∀j σ h,I j σ h->it.ok h) ->
  (∀m σ h x,I (j+m) σ h->xs[m]?=some x->∃σ1 h1 σ' h',g x σ h=.nx σ1 h1/\b σ1 h1=.nx σ' h'/\I (j+m+1) σ' h') ->
  ∃σ' h',mGo it g b xs σ h=.nx σ' h'/\I (j+xs.length) σ' h'
 | [],j,σ,h,hI,hok,_=>⟨σ,h,mGo_nil (hok _ _ _ hI),hI⟩
 | x::r,j,σ,h,hI,hok,st=>by
  obtain⟨σ1,h1,σ2,h2,e1,e2,I1⟩:=st 0 σ h x hI rfl;obtain⟨σ3,h3,e3,I3⟩:=sP I r (j+1) σ2 h2 I1 hok fun m σ' h' y q z=>by
   have:=st (m+1) σ' h' y (by rw[show j+(m+1)=j+1+m by lia];exact q) (by simpa using z)
   rw[show j+(m+1)+1=j+1+m+1 by lia] at this;exact this
  refine⟨σ3,h3,?_,by rw[qap,show j+(r.length+1)=j+1+r.length by lia];exact I3⟩;rw[ye (hok _ _ _ hI) e1,e2];exact e3
end MM
namespace MM
open PySem PySem.Spec PyProof.Rows L2 SetT SortT
section
variable {h:MH} {i:Int} {xs:List PV} {n:Nat}
def vA(e:h[n]?=some (.lst xs)):cI h (.loc n)=some xs:=by simp[cI,e]
def vE(e:h[n]?=some (.lst xs))(hl:xs.length<=1000):fList [.loc n] h=.ok (.loc h.length) (h++[.lst xs]):=by simp[fList,vA e,i7 hl]
def mN(e:h[n]?=some (.lst xs))(hl:xs.length<1000):ck n [v] h=.ok .non (h.set n (.lst (xs++[v]))):=by
 have z:1000<=sizeLine:=by decide
 simp only[ck,e];rw[qan (by lia)]
def ua(em:m σ h=.ok (.loc n) h1)(e:h1[n]?=some (.lst xs)):mMt f m ma σ h=(ma σ h1).bind fun vs h2=>(f n vs h2).ne:=by
 rw[mMt_ap,em];simp[e]
end
def itR1'(em:m σ h=.ok [.int j] h1)(z:-(2 ^ 62)<=j/\j<2 ^ 62):bH m σ h=.ok ⟨br 0 j.toNat,[]⟩ h1:=by
 rw[yr,em];simp only[Out.bind_ok];rw[qan z]
def itR1(em:m σ h=.ok [.int (n:Int)] h1)(hn:n<=100000):bH m σ h=.ok ⟨br 0 n,[]⟩ h1:=by
 have z1:-(2 ^ 62)<=(n:Int):=Int.le_trans (by decide) (Int.natCast_nonneg n);have z2:(n:Int)<2 ^ 62:=Int.lt_of_le_of_lt (Int.ofNat_le.mpr hn) (by decide)
 have:=itR1' em ⟨z1,z2⟩
 rwa [qaH] at this
def p8:∀(k:List Int),PyData.canLayAll0 (k.map .int)=true/\PyData.depthAll (k.map .int)<=1
 | []=>⟨rfl,by simp[PyData.depthAll]⟩
 | i::k=>by
  obtain⟨a,b⟩:=p8 k;constructor
  ·simp[PyData.canLayAll0,PyData.canLay0,a]
  ·simp only[qao,PyData.depthAll,PyData.depth];lia
end MM
namespace MM
open PySem PySem.Spec PyProof.Rows L2
local instance (priority:=1) cdec28 (p:Prop):Decidable p:=Classical.propDecidable p
def lM(h:MH):PV->Option Bool
 | .non=>some false
 | .bl b=>some b
 | .int i=>some (i != 0)
 | .str _=>none
 | .tup xs=>some (!xs.isEmpty)
 | .frl xs=>some (!xs.isEmpty)
 | .loc n=>match h[n]? with
  | some (.lst xs)=>some (!xs.isEmpty)
  | _=>none
def mTr(m:Mx PV):Mx Bool:=fun σ h=>(m σ h).bind fun v h1=>match lM h1 v with
 | some b=>.ok b h1
 | none=>.bad
section
variable {X:Cx} {N W G:List Str} {k:Nat}
def jI{K:qac}{ρ:List Addr}{H:Hp}{xs:List PV}{ys:List V}(r:RPs K ρ H xs ys):(!xs.isEmpty)=!ys.isEmpty:=by
 cases r <;> rfl
def wD{e:Expr}{m:Mx PV}(h:ME X e m)(he:∀whole,isTrue e X.env whole=(do let v <-whole;standAt e.pos;holding [v] (truthy v)):=by intro _;rfl):MT X e (mTr m):=by
 refine PT.imp (xT h he) fun σ H Q ⟨ρ,σp,h,rs,rh,q⟩=>⟨ρ,σp,h,rs,rh,Ful.bind q fun ρ1 H1 x x' h1 _ l1 rh1 rx q1=>?_⟩
 cases rx with
 | non=>exact⟨false,rfl,q1 ρ1 H1 _ (Le.refl _ _) rh1 rfl⟩
 | bl b=>exact⟨b,rfl,q1 ρ1 H1 _ (Le.refl _ _) rh1 rfl⟩
 | int i=>exact⟨_,rfl,q1 ρ1 H1 _ (Le.refl _ _) rh1 rfl⟩
 | str i=>exact q1.elim
 | @tup xs a ys s r=>exact⟨_,.inr (.inl ⟨ys,s,rfl⟩),by rw[<-jI r];exact q1 ρ1 H1 _ (Le.refl _ _) rh1 rfl⟩
 | @frl xs a ys s r=>exact⟨_,.inl ⟨ys,s.sq,rfl⟩,by rw[<-jI r];exact q1 ρ1 H1 _ (Le.refl _ _) rh1 rfl⟩
 | @loc n a e =>
  obtain⟨o,eo,ro⟩:=rh1.obj e
  cases o with
  | lst xs =>
   obtain⟨ys,ey,ry⟩:=ro;simp only[lM,eo] at q1;exact⟨_,.inl ⟨ys,.inl (.inl ey),rfl⟩,by rw[<-jI ry];exact q1 ρ1 H1 _ (Le.refl _ _) rh1 rfl⟩
  | dic fz ks xs=>simp only[lM,eo] at q1;exact q1.elim
  | exc z=>simp only[lM,eo] at q1;exact q1.elim
end
end MM
namespace MM
open PySem PySem.Spec PyProof.Rows L2 PySem.W
local instance (priority:=1) cdec29 (p:Prop):Decidable p:=Classical.propDecidable p
section
variable {X:Cx}
end
end MM
namespace MM
open PySem PySem.Spec PyProof.Rows L2
section
variable {X:Cx} {o e:Expr} {es:List Expr} {name:Str} {apos cpos:Pos} {id:String} {f:Str→List PV→MH→Out PV} {m:Mx PV} {ma:Mx (List PV)}
end
end MM
namespace DcT
open PySem PyProof.Rows
section
variable {prog:Program} {w:World} {A:Around} {E:Value→Shared→Prop} {s:Shared}
def ut:typeLookup (.type "tuple") "keys"=pure none:=by rw[typeLookup_type,builtinLookup_eq_fast];kernel_rfl
def wM(hx:s.heap.get? a=some o)(hc:o.cls=.type "tuple")(hdat:o.data=.seq xs k)(hd:o.dict=none)(hA:A.handled=none)
  (h:∀h' tk e,Heap.NewExcOf s.heap h' e "AttributeError"->Q none { s with heap:=h',toks:=tk}):wpAny (model prog w) A (getAttr? (.ref a) "keys") Q E s:=by
 obtain⟨c,dct,dat,sl⟩:=o;simp only at hc hdat hd;subst hc hdat hd;obtain⟨hp,g,d,tk,os⟩:=s;have hT:∀tk',(⟨hp,g,d,tk',os⟩:Shared).TypeIs (.ref a) "tuple":=fun _=>⟨_,hx,rfl⟩;have f1:=sub_AttributeError;have f3:=F.slot_tuple_getattribute.lookup;have f4:=F.slot_tuple_getattribute.bind (.ref a);have f5:=am_tuple_getattr_none;unfold getAttr? getAttrBy? getAttrBy
 repeat (any_goals (first | assumption | exact hT _ | ((with_reducible show wpAny _ _ (call (Value.builtin "tuple.__getattribute__") _ _) _ _ _);refine call_meets F.slot_tuple_getattribute (hT _) am_entry_tuple_getattribute (F.args_tuple_getattribute_2 _ _) (meets_getattribute_miss_tuple a xs k sl "keys" _ ut (by decide +kernel) (by decide)) ⟨hx,hA,fun h' tk' e hx'=>?_⟩)|wp_step))
 obtain⟨t',u',he⟩:=hx'.there;show wpAny _ _ (getattributeRaised _ _ _ _ _ _ _) _ _ _;unfold getattributeRaised
 repeat (any_goals (first | assumption | wp_step))
 exact h _ _ _ hx'.of
def lv:entryFor table "dict.update.loop"=some Builtin.«dict.update.loop»:=entryFor_of_tree (by kernel_rfl)
def fA:plainId "dict.update.loop"=true:=by decide +kernel
def Ext(H0 h:Heap):Prop:=∀b o,H0.get? b=some o->h.get? b=some o
def ie{h h':Heap}{d:Addr}{kvs:List (Int × Value)}(T:h.DictOf (intKind prog w) d kvs)(hd:∀o,h.get? d=some o->h'.get? d=some o):h'.DictOf (intKind prog w) d kvs:=by
 obtain⟨o,es,ep,ho,r⟩:=T;exact⟨o,es,ep,hd o ho,r⟩
def uY{kvs:List (Int × Value)}{k:Int}{v:Value}(h:k∉kvs.map (·.1)):stored kvs k v=kvs++[(k,v)]:=by
 unfold stored;rw[qay];intro z;rw[List.any_eq_true] at z;obtain⟨x,hx,e⟩:=z;exact h (qaF.mpr ⟨x,hx,by simpa using e⟩)
def dloop{R:Result->Shared->Prop}{I:Addr}{fp wr:List Addr}{G:Array GenState->Array GenState->Prop}{n:Nat}{P:Nat->Value->Prop}{St:Nat->Shared->Prop}
  (W:WalksS prog w A.in1 I fp wr G n P St) (d:Addr) (hdf:d∉fp) {H0:Heap} (h0d:H0.get? d=none) (h0w:∀b∈wr,H0.get? b=none) (kvs:List (Int × Value)) (hn:kvs.length=n) (hsz:n<=sizeLine) (nd:(kvs.map (·.1)).Nodup)
  (hval:∀i v kv,P i v->kvs[i]?=some kv->∃a t,v=.ref a/\H0.IsTuple a #[.int kv.1 t,kv.2]) :
  ∀(c i:Nat) (s:Shared) (j:Int) (tj:Tok),n - i=c->i<=n->St i s->Ext H0 s.heap->s.heap.DictOf (intKind prog w) d (kvs.take i) ->
   (∀s',Moved (d::wr) G s s'->Ext H0 s'.heap->s'.heap.DictOf (intKind prog w) d kvs->R (.ok (.ret .none)) s') ->
   codeAny (model prog w) A (.builtin "dict.update.loop" ⟨[.ref d,.ref I,.int j tj,.none],[]⟩) R s:=by
 have hdw:d∉wr:=fun h=>hdf (W.sub _ h);have hsub:∀b∈wr,b∈d::wr:=fun b hb=>qaa _ hb;have extM:∀{s s':Shared},Moved wr G s s'->Ext H0 s.heap->Ext H0 s'.heap:=fun {s s'} hm x b o e =>
  hm.heap b o (fun hb=>by rw[h0w b hb] at e;cases e) (x b o e)
 intro c
 induction c with
 | zero =>
  intro i s j tj hc hi hst hx hT hRR;have e:i=n:=by ext
  subst e;refine codeAny_builtin lv ?_;rw[Around.under_plainId fA _];show wpAny _ A.in1 (pyNext (.ref I) >>= _) _ _ s;refine qab (W.done s _ _ hst fun s' hm=>?_);show wpAny _ A.in1 (Builtin.Dict.addKeywords d [] >>= fun _=>ret Value.none) _ _ s';rw[<-hn,List.take_length] at hT;refine qab ?_;show wpAny _ A.in1 (pure ()) _ _ s';exact qaw (qaw (hRR s' (hm.mono hsub) (extM hm hx) (ie hT fun o e=>hm.heap d o hdw e)))
 | succ c ih =>
  intro i s j tj hc hi hst hx hT hRR;have hlt:i<n:=by ext
  refine codeAny_builtin lv ?_;rw[Around.under_plainId fA _];show wpAny _ A.in1 (pyNext (.ref I) >>= _) _ _ s;refine qab (W.item i s _ _ hlt hst fun v s' hP hst' hm=>?_);obtain⟨kv,hk⟩:∃k,kvs[i]?=some k:=⟨_,qaj (by ext)⟩;obtain⟨a,t,rfl,ha⟩:=hval i v kv hP hk;have hx':=extM hm hx;have hT':=ie hT (fun o e=>hm.heap d o hdw e);obtain⟨oa,hoa,hca,na,hda⟩:=ha;have hoa':=hx' a oa hoa;have tya:s'.TypeIs (.ref a) "tuple":=⟨oa,hoa',hca⟩;dsimp only;refine qab (wpAny_holding (qab ?_));have hpair:∀(Q:List Value->Shared->Prop) (E:Value->Shared->Prop),Q [.int kv.1 t,kv.2] s'->wpAny (model prog w) A.in1 (Builtin.Dict.pairItems (.ref a)) Q E s':=fun Q E q=>by
   unfold Builtin.Dict.pairItems;refine qab (wpAny_typeOf tya ?_);obtain⟨hp',g',d',tk',os'⟩:=s';obtain⟨oc,od,oda,osl⟩:=oa;simp only at hca hda;subst hca hda;rw[qan (by decide)]
   repeat (any_goals (first | assumption | wp_step))
  refine wpAny_tryCatch (hpair _ _ ?_);dsimp only;have hlen:(kvs.take i).length<=sizeLine:=by rw[qbf];ext
  have hnew:kv.1∉(kvs.take i).map (·.1):=fun z=>by
   obtain⟨x,hx1,ex⟩:=qaF.mp z;obtain⟨q,hq⟩:=qbm.mp hx1;rw[List.getElem?_take] at hq
   split at hq
   ·rename_i hqi
    have e1:(kvs.map (·.1))[q]?=some kv.1:=by rw[qax,hq];simp[ex]
    have e2:(kvs.map (·.1))[i]?=some kv.1:=by rw[qax,hk];rfl
    have l1:q<(kvs.map (·.1)).length:=(qaf.mp e1).1
    have:=(List.getElem?_inj l1 nd).mp (e1.trans e2.symm)
    ext
   ·cases hq
  have htk:kvs.take (i+1)=kvs.take i++[kv]:=by rw[List.take_succ,hk];rfl
  refine wpAny_holding (wpAny_dictSet_pairs (knd:=intKind prog w) (k:=kv.1) (intKind_is prog w kv.1 t) hT' (fun h' hD sb=>?_) hlen);rw[uY hnew,show kvs.take i++[(kv.1,kv.2)]=kvs.take (i+1) from htk.symm] at hD;have hx2:Ext H0 h':=fun q o e=>by
   have hq:q≠d:=by rintro rfl;rw[h0d] at e;cases e
   exact (sb.2 q hq).trans (hx' q o e)
  refine qaw ⟨plainId_quiet fA _,ih (i+1) _ _ _ (by ext) hlt (W.frame _ s' _ _ hst' (qbR _) fun b hb o e=>(sb.2 b (fun q:b=d=>hdf (by rw[<-q];exact hb))).trans e) hx2 hD fun s'' hm'' hx3 hT4=>?_⟩;refine hRR s'' (Moved.trans W.gtrans ((hm.mono hsub).then_heap (qbR _) fun b o hb e=>?_) hm'') hx3 hT4;exact (sb.2 b (fun q:b=d=>hb (by rw[q];exact qbe))).trans e
set_option maxHeartbeats 3200000 in
theorem mT{a:Addr}{items:Array Value}{kvs:List (Int × Value)}{Q:Value->Shared->Prop}(hh:A.handled=none)(ha:∃o k,s.heap.get? a=some o/\o.cls=.type "tuple"/\o.data=.seq items k/\o.dict=none)
  (hn:kvs.length=items.size) (hsz:items.size<=sizeLine) (nd:(kvs.map (·.1)).Nodup)
  (hval:∀(i:Nat) v kv,items[i]?=some v->kvs[i]?=some kv->∃b t,v=.ref b/\s.heap.IsTuple b #[.int kv.1 t,kv.2])
  (h:∀(h':Heap) (tk:Nat),h'.DictOf (intKind prog w) s.heap.objs.size kvs->Ext s.heap h'->Q (.ref s.heap.objs.size) { s with heap:=h',toks:=tk}) :
  wpAny (model prog w) A (call (.type "dict") [.ref a]) Q E s:=by
 refine callType_codes (Q₁:=fun obj s₁=>obj=.ref s.heap.objs.size/\s₁={ s with heap:=s.heap.push { cls:=.type "dict",data:=.dict #[]}}) F.kt_called_dict (F.kt_typeCall_dict_1 _) F.entry_dict_init (kt_code_dict_new _ ⟨rfl,rfl⟩) ?_;rintro obj s₁ ⟨rfl,rfl⟩;have hnew:(s.heap.push { cls:=.type "dict",data:=.dict #[]}).DictOf (intKind prog w) s.heap.objs.size []:=Heap.DictOf.new s.heap;refine⟨hnew.typeIs,F.args_dict_init_2 _ _,?_⟩;unfold Builtin.«dict.__init__»;refine qab ?_;unfold Builtin.Dict.selfAndRest;refine qab (wpAny_notOrdered_dict hnew.typeIs ?_);show wpAny _ _ (pure (s.heap.objs.size,[Value.ref a])) _ _ _;refine qaw ?_;show wpAny _ _ (Builtin.Dict.updateFrom "dict.__init__" s.heap.objs.size (.ref a) [] .none) _ _ _;unfold Builtin.Dict.updateFrom;obtain⟨oa,ka,hoa,hca,hda,hdi⟩:=ha;have hoa1:(s.heap.push { cls:=.type "dict",data:=.dict #[]}).get? a=some oa:=qad _ hoa;have hh2:A.in1.in1.handled=none:=by simp[hh]
 refine qab (wpAny_typeOf (T:="tuple") ⟨oa,hoa1,hca⟩ ?_);rw[qan (by decide)];refine qab (wM hoa1 hca hda hdi hh2 fun h1 tk1 e hx=>?_);rw[qan (by rfl)];have x1:Ext s.heap h1:=fun b o eb=>hx.keeps b o (qad _ eb);have hD1:h1.DictOf (intKind prog w) s.heap.objs.size []:=ie hnew fun o eo=>hx.keeps _ o eo;have ht1:h1.IsTuple a items:=⟨oa,x1 a oa hoa,hca,ka,hda⟩;refine qab (wpAny_rule (qab (wpAny_pyIter_tuple (s:={ s with heap:=h1,toks:=tk1}) ht1 ?_)));have hd1:s.heap.objs.size<h1.objs.size:=by
  obtain⟨o,_,_,ho,_⟩:=hD1;exact qas ho
 have ha1:a<h1.objs.size:=qas (x1 a oa hoa);have has:a<s.heap.objs.size:=qas hoa;have hnone:∀b,s.heap.objs.size<=b->s.heap.get? b=none:=fun b hb=>by
  cases e:s.heap.get? b with
  | none=>rfl
  | some o=>exact absurd (qas e) (Nat.not_lt.mpr hb)
 refine qaw ⟨plainId_quiet fA _,?_⟩
 refine dloop (A:=A.in1) (H0:=s.heap) ((Walks.tuple (A:=A.in1.in1) hh2 h1.objs.size a (qaS ha1) items).toS) s.heap.objs.size (by simp only[qam,qbx,or_false,not_or];exact⟨qaS hd1,qaU has⟩) (hnone _ (qai _)) (fun b hb=>by
   have:b=h1.objs.size:=by simpa using hb
   rw[this];exact hnone _ (qbh hd1)) kvs hn hsz nd hval items.size 0 _ 0 0 (by ext) (qbj _) ⟨⟨_,qaz _ rfl,rfl,rfl⟩,ht1.push _⟩ (fun b o e=>qad _ (x1 b o e)) (ie hD1 fun o e=>qad _ e) ?_
 intro s' hm hx' hT';obtain⟨h',g',d',tk',os'⟩:=s';have eg:g'=s.gens:=hm.gens;have ed:d'=s.drawn:=hm.drawn;have eo:os'=s.os:=hm.os;subst eg;subst ed;subst eo;exact⟨rfl,h h' tk' hT' hx'⟩
end
end DcT
namespace MM
open PySem PySem.Spec PyProof.Rows L2 DcT
local instance (priority:=1) cdec31 (p:Prop):Decidable p:=Classical.propDecidable p
section
variable {X:Cx} {N W G:List Str} {k:Nat}
local instance inhPV:Inhabited PV:=⟨.non⟩
def gK:List PV->Option (List (Int × PV))
 | []=>some []
 | .tup [.int k,v]::r=>(gK r).map ((k,v)::·)
 | _=>none
def dgP(x:PV):Option (List (Int × PV)):=match x with
 | .tup ps=>(match gK ps with
  | some kvs=>if (kvs.map (·.1)).Nodup then some kvs else none
  | none=>none)
 | _=>none
def uE{K:qac}{ρ:List Addr}{H:Hp}:∀{xs:List PV} {ys:List V} {us:List Value} {kvs:List (Int × PV)},RPs K ρ H xs ys->aJ ys us->gK xs=some kvs ->
  xs.length=kvs.length/\∀(i:Nat) u kv,us[i]?=some u->kvs[i]?=some kv->∃b w,u=.ref b/\SqT K H b [.int kv.1,w]/\RP K ρ H kv.2 w:=by
 intro xs
 induction xs with
 | nil =>
  intro ys us kvs r v e;cases r;cases v;cases e;exact⟨rfl,fun i u kv h=>by simp at h⟩
 | cons x xs ih =>
  intro ys us kvs r v e
  cases r with
  | cons r1 r2 =>
   cases v with
   | cons v1 v2 =>
    unfold gK at e
    split at e
    ·rename_i h;cases h
    ·rename_i k0 v0 r0 h
     injection h with h1 h2
     subst h1 h2;rw[qaB] at e;obtain⟨kvs',e1,rfl⟩:=e;obtain⟨hl,hv⟩:=ih r2 v2 e1;refine⟨by simp[hl],fun i u kv h1 h2=>?_⟩
     cases i with
     | zero =>
      simp at h1 h2;subst h1 h2
      cases r1 with
      | tup sq rp =>
       cases rp with
       | cons q1 q2=>cases q2 with
        | cons q3 q4 =>
         cases q4;cases q1;exact⟨_,_,v1,sq,q3⟩
     | succ i =>
      simp at h1 h2;exact hv i u kv h1 h2
    ·cases e
def iV(K:qac)(x:Str)(i j:Int):Prop:=∃(a:Addr) (t t':Tok) (n:Nat) (sl:Array (Option Value)),PySem.W.nsIn K mainGlobals x=some (some (.ref a))/\K.lookup a=some ⟨.type "tuple",none,.seq #[.int i t,.int j t'] n,sl⟩
def jU(K:qac)(mg:MGl)(x:Str)(i j:Int):Prop:=∃(a:Addr) (t t':Tok) (n:Nat) (sl:Array (Option Value)),mg x=some (.ref a)/\K.lookup a=some ⟨.type "tuple",none,.seq #[.int i t,.int j t'] n,sl⟩
def t9{K:qac}{x:Str}{i j:Int}{a:Addr}{t t':Tok}{n:Nat}{sl:Array (Option Value)}(h:PySem.W.nsIn K mainGlobals x=some (some (.ref a)))(l:K.lookup a=some ⟨.type "tuple",none,.seq #[.int i t,.int j t'] n,sl⟩):iV K x i j:=⟨a,t,t',n,sl,h,l⟩
def iV.mg{K:qac}{mg:MGl}{base:Heap}{x:Str}{i j:Int}(z:iV K x i j)(kin:K.In base)(ns:base.Ns mainGlobals mg):jU K mg x i j:=by
 obtain⟨a,t,t',n,sl,h,l⟩:=z;exact⟨a,t,t',n,sl,PySem.W.mg_of kin ns h,l⟩
def nI(g:Good X N W G k){x:Str}{q:Nat}{i j:Int}{pos:Pos}(hj:G[q]?=some x)(hm:jU X.K X.mg x i j):ME X (.Name x pos) (mC (.tup [.int i,.int j])):=by
 obtain⟨a,t,t',n,sl,hm,hl⟩:=hm;have d:=g.dbg x (qaq _ (aX hj));exact PE.imp (pe_glob (v:=.ref a) (g.gl x (aX hj)) hm rfl d.1) fun σ H Q ⟨ρ,σp,h,rs,rh,q⟩=>q ρ H _ (Le.refl _ _) rh (.tup (ys:=[.int i,.int j]) (.inr ⟨_,_,n,hl,rfl,⟨rfl,rfl⟩,by show 2<=sizeLine;decide,.cons ⟨t,rfl⟩ (.cons ⟨t',rfl⟩ .nil)⟩) (.cons (.int _) (.cons (.int _) .nil)))
end
end MM
namespace L2
open PySem PySem.Spec PyProof.Rows
section
variable {X:Cx} {e st:Expr} {te:TE} {hi:Option Expr} {th ts:TO} {pos p2:Pos}
end
end L2
namespace MM
open PySem PySem.Spec PyProof.Rows L2
local instance (priority:=1) cdec32 (p:Prop):Decidable p:=Classical.propDecidable p
section
variable {X:Cx} {pos p2:Pos}
end
section
variable {X:Cx} {k:Nat}
end
end MM
namespace MM
open PySem PySem.Spec PyProof.Rows L2 SetT SortT
local instance (priority:=1) cdec34 (p:Prop):Decidable p:=Classical.propDecidable p
section
variable {X:Cx} {N W G:List Str} {k:Nat}
end
end MM
namespace L2
open PySem PySem.Spec PyProof.Rows
section
variable {X:Cx} {a:Expr} {ta:TE} {pos:Pos}
end
end L2
namespace MM
open PySem PySem.Spec PyProof.Rows L2
section
variable {X:Cx} {pos:Pos}
end
section
variable {X:Cx}
end
end MM
namespace MM
open PySem PySem.Spec PyProof.Rows L2 DcT
def valV(kvs:List (Key × V))(k:Key):Option V:=(kvs.find? fun kv=>decide (kv.1=k)).map (·.2)
def KV.val{kvs:List (Key × V)}{vs:List (Key × Value)}(r:KV kvs vs)(k:Key):fT (valV kvs k) (valueAt vs k):=by
 unfold KV at r
 induction r with
 | nil=>exact True.intro
 | @cons p q ps qs h t ih =>
  obtain⟨h1,h2⟩:=h;unfold valV valueAt at *;rw[qbS,qbS,<-h1];by_cases e:p.1=k
  ·simp only[e,decide_true];exact h2
  ·simp only[e,decide_false];exact ih
def j0{kvs:List (Key × V)}{vs:List (Key × Value)}(r:KV kvs vs):kvs.length=vs.length:=by
 unfold KV at r
 induction r with
 | nil=>rfl
 | cons h t ih=>simp[ih]
def kv_get{kvs:List (Key × V)}{vs:List (Key × Value)}{i:Nat}{p:Key × Value}(r:KV kvs vs)(e:vs[i]?=some p):∃v,kvs[i]?=some (p.1,v)/\aP v p.2:=by
 unfold KV at r
 induction r generalizing i with
 | nil=>simp at e
 | @cons a b ps qs h t ih =>
  cases i with
  | zero=>simp at e;subst e;exact⟨a.2,by simp[<-h.1],h.2⟩
  | succ i=>simp at e;simpa using ih e
def dix(ks:List Int)(xs:List α)(i:Int):Option α:=match ks,xs with
 | k::ks,x::xs=>if k=i then some x else dix ks xs i
 | _,_=>none
def dput(ks:List Int)(xs:List α)(i:Int)(v:α):List Int × List α:=match ks,xs with
 | k::ks,x::xs=>if k=i then (k::ks,v::xs) else (k::(dput ks xs i v).1,x::(dput ks xs i v).2)
 | _,_=>([i],[v])
def yk{ks:List Int}{xs:List α}{i:Int}{v:α}(h:xs.length=ks.length):(dput ks xs i v).2.length=(dput ks xs i v).1.length/\(dput ks xs i v).1.length<=ks.length+1:=by
 induction ks generalizing xs with
 | nil=>simp[dput]
 | cons k ks ih =>
  cases xs with
  | nil=>simp at h
  | cons x xs =>
   simp at h;unfold dput;split
   ·simp[h]
   ·have:=ih h
    simp only[qap];lia
def rL{ks:List Int}{ys:List V}{i:Int}(h:ys.length=ks.length):valV (kz ks ys) (.inl i)=dix ks ys i:=by
 induction ks generalizing ys with
 | nil=>cases ys <;> rfl
 | cons k ks ih =>
  cases ys with
  | nil=>simp at h
  | cons y ys =>
   have:=ih (ys:=ys) (by simpa using h)
   unfold kz valV at *;rw[qao,qbE,qbS,dix];by_cases e:k=i
   ·simp[e]
   ·simp only[show ¬(Sum.inl k:Key)=.inl i from fun z=>e (by cases z;rfl),decide_false,qay e];exact this
def eZ{vs:List (Key × Value)}{i:Key}:vs.any (fun kv=>decide (kv.1=i))=true↔i∈vs.map Prod.fst:=by
 rw[List.any_eq_true,qaF];exact⟨fun ⟨x,h,e⟩=>⟨x,h,by simpa using e⟩,fun ⟨x,h,e⟩=>⟨x,h,by simpa using e⟩⟩
def kv_put{ks:List Int}{ys:List V}{vs:List (Key × Value)}{i:Int}{y:V}{u:Value}(h:ys.length=ks.length)(nd:(vs.map (·.1)).Nodup)(r:KV (kz ks ys) vs)(ry:aP y u) :
  KV (kz (dput ks ys i y).1 (dput ks ys i y).2) (stored vs (.inl i) u):=by
 induction ks generalizing ys vs with
 | nil =>
  have:vs=[]:=by
   unfold KV at r;cases ys <;> cases r <;> rfl
  subst this;exact .cons ⟨rfl,ry⟩ .nil
 | cons k ks ih =>
  cases ys with
  | nil=>simp at h
  | cons z ys =>
   have h':ys.length=ks.length:=by simpa using h
   unfold KV at r
   cases r with
   | @cons _ q _ qs hq t =>
    obtain⟨q1,q2⟩:=q;obtain⟨e1,e2⟩:=hq;cases e1;rw[qao,qaP] at nd;have ih:=ih h' nd.2 t;unfold stored at *;unfold dput;by_cases e:k=i
    ·subst e;rw[qan rfl,qan (eZ.mpr (by simp))];refine .cons ⟨by simp,by simp[ry]⟩ ?_
     have:(qs.map fun kv=>if kv.1=(Sum.inl k:Key) then (kv.1,u) else kv)=qs:=by
      conv=>rhs;rw[<-List.map_id qs]
      refine qaM fun x hx=>?_;rw[qay]
      ·rfl
      ·intro z;exact nd.1 (qaF.mpr ⟨x,hx,z⟩)
     show KV _ (qs.map fun kv=>if kv.1=(Sum.inl k:Key) then (kv.1,u) else kv);rw[this];exact t
    ·have e':¬(Sum.inl k:Key)=.inl i:=fun z=>e (by cases z;rfl);rw[qay e];by_cases m:(Sum.inl i:Key)∈qs.map Prod.fst
     ·rw[qan (eZ.mpr m)] at ih;rw[qan (eZ.mpr (qaa _ m))];exact .cons ⟨by simp[e'],by simp[e',e2]⟩ ih
     ·rw[qay (fun z=>m (eZ.mp z))] at ih;rw[qay (fun z=>(qam.mp (eZ.mp z)).elim (fun z=>e' z.symm) m)];exact .cons ⟨rfl,e2⟩ ih
section
variable {K:qac} {ρ:List Addr} {H:Hp}
def nP{ks:List Int}{xs:List PV}{ys:List V}(r:RPs K ρ H xs ys)(i:Int):match dix ks xs i with
  | some x=>∃y,dix ks ys i=some y/\RP K ρ H x y
  | none=>dix ks ys i=none:=by
 induction ks generalizing xs ys with
 | nil=>cases xs <;> cases ys <;> rfl
 | cons k ks ih =>
  cases r with
  | nil=>rfl
  | cons a t =>
   unfold dix;by_cases e:k=i
   ·simp only[qan e];exact⟨_,rfl,a⟩
   ·simp only[qay e];exact ih t
def xW{ks:List Int}{xs:List PV}{ys:List V}{v:PV}{y:V}(r:RPs K ρ H xs ys)(q:RP K ρ H v y)(i:Int):(dput ks xs i v).1=(dput ks ys i y).1/\RPs K ρ H (dput ks xs i v).2 (dput ks ys i y).2:=by
 induction ks generalizing xs ys with
 | nil=>exact⟨by simp[dput],by simpa [dput] using .cons q .nil⟩
 | cons k ks ih =>
  cases r with
  | nil=>exact⟨rfl,.cons q .nil⟩
  | cons a t =>
   unfold dput;by_cases e:k=i
   ·simp only[qan e];exact⟨trivial,.cons q t⟩
   ·simp only[qay e];obtain⟨i1,i2⟩:=ih t;exact⟨by rw[i1],.cons a i2⟩
end
def bG(h:MH)(y:PV):Option (Bool × List Int × List PV):=match y with
 | .loc n=>(match h[n]? with
  | some (.dic fz ks xs)=>some (fz,ks,xs)
  | _=>none)
 | _=>none
def ff{X:Cx}{ρ:List Addr}{H:Hp}{h:MH}{x:PV}{y:V}{fz:Bool}{ks:List Int}{xs:List PV}(rh:RH X.K X.mg ρ H h)(r:RP X.K ρ H x y)(e:bG h x=some (fz,ks,xs)) :
  ∃n a ys,x=.loc n/\ρ[n]?=some a/\y=.ref a/\h[n]?=some (.dic fz ks xs)/\ys.length=ks.length/\RPs X.K ρ H xs ys/\dO fz (H a) (.dK (kz ks ys)):=by
 cases r with
 | @loc n a en =>
  obtain⟨o,eo,ro⟩:=rh.obj en;unfold bG at e;dsimp only at e;rw[eo] at e
  cases o with
  | dic f k z =>
   cases e;obtain⟨ys,e1,e2,e3⟩:=ro;exact⟨n,a,ys,rfl,en,rfl,eo,e1,e2,e3⟩
  | _=>cases e
 | _=>cases e
def kF(neg:Bool)(x y:PV)(h:MH):Out PV:=match x,bG h y with
 | .int i,some (_,ks,xs)=>.ok (.bl (if neg then !(dix ks xs i).isSome else (dix ks xs i).isSome)) h
 | _,_=>.bad
def gc(x y:PV)(h:MH):Out PV:=match y,bG h x with
 | .int i,some (_,ks,xs)=>Out.ofO (dix ks xs i) h
 | _,_=>.bad
section
variable {X:Cx} {N W G:List Str} {k:Nat}
def yw{K:qac}{ρ:List Addr}{H:Hp}{ks:List Int}{xs:List PV}{ys:List V}{vs:List (Key × Value)}{i:Int}(hl:ys.length=ks.length)(r:RPs K ρ H xs ys)(rel:KV (kz ks ys) vs):(dix ks xs i).isSome=(valueAt vs (.inl i)).isSome:=by
 have a:=KV.val rel (.inl i);rw[rL hl] at a;have b:=nP (ks:=ks) r i
 cases e:dix ks xs i with
 | none =>
  rw[e] at b;dsimp only at b;rw[b] at a;rw[fT.none_of a];rfl
 | some x =>
  rw[e] at b;obtain⟨y,e1,_⟩:=b;rw[e1] at a;obtain⟨u,e2,_⟩:=fT.some_of a;rw[e2];rfl
def vS(neg:Bool):OpJ X (compareOp (if neg then .NotIn else .In)) (kF neg):=by
 intro F6 s σ H x' y' u v Q I rx' ry' ⟨ρ,h,x,y,rh,rx,ry,q⟩;unfold kF at q
 split at q
 ·rename_i i fz ks xs ed
  obtain⟨n,a,ys,rfl,en,rfl,eo,hl,rps,d⟩:=ff rh ry ed;cases rx;obtain⟨t,rfl⟩:=rx';cases ry';obtain⟨z,hd,vs,rel,dd⟩:=ic I.hok d;have e:=yw (i:=i) hl rps rel
  cases neg with
  | false =>
   refine wpAny_in_of (dW _ _ i t) hd dd.mapOf ⟨.bl _,H,I.tok _,rfl,?_⟩;rw[<-e];exact q ρ H _ (Le.refl _ _) rh (.bl _)
  | true =>
   refine wpAny_notIn_of (dW _ _ i t) hd dd.mapOf ⟨.bl _,H,I.tok _,rfl,?_⟩;rw[<-e];exact q ρ H _ (Le.refl _ _) rh (.bl _)
 ·exact q.elim
def qR{ea b:Expr}{ma mb:Mx PV}{pos:Pos}(ha:ME X ea ma)(hb:ME X b mb)(hs:∀ov iv,subscripted b false ov iv=operate [ov,iv] (getItem ov iv):=by exact fun _ _=>rfl):ME X (.Subscript ea b pos) (ah gc ma mb):=by
 intro F6 s σ H Q I ⟨ρ,σp,h,rs,rh,q⟩;refine Subscript_ (thn (ha F6 s σ H (fun x' H1=>∃ρ1 h1 x,Le ρ H ρ1 H1/\RH X.K X.mg ρ1 H1 h1/\RP X.K ρ1 H1 x x'/\Ful X (RV' X) σp ρ1 H1 ((mb σp h1).bind fun y h2=>(gc x y h2).ne) Q) I ⟨ρ,σp,h,rs,rh,Ful.bind q fun ρ1 H1 x x' h1 _ l1 rh1 rx q1=>⟨ρ1,h1,x,l1,rh1,rx,q1⟩⟩) fun u s1 ⟨x',H1,I1,r1,ρ1,h1,x,l1,rh1,rx,q1⟩=>thn (hb F6 s1 σ H1 (fun y' H2=>∃ρ2 h2 y,Le ρ1 H1 ρ2 H2/\RH X.K X.mg ρ2 H2 h2/\RP X.K ρ2 H2 y y'/\Ful X (RV' X) σp ρ2 H2 (gc x y h2).ne Q) I1 ⟨ρ1,σp,h1,rs.le l1,rh1,Ful.bind q1 fun ρ2 H2 y y' h2 _ l2 rh2 ry q2=>⟨ρ2,h2,y,l2,rh2,ry,q2⟩⟩) fun iv s2 ⟨y',H2,I2,r2,ρ2,h2,y,l2,rh2,ry,q2⟩=>?_);unfold gc at q2
 split at q2
 ·rename_i i fz ks xs ed
  obtain⟨n,a,ys,rfl,en,rfl,eo,hl,rps,d⟩:=ff rh2 (rx.le l2) ed;cases ry;obtain⟨t,rfl⟩:=r2;cases r1;obtain⟨z,hd,vs,rel,dd⟩:=ic I2.hok d
  cases ex:dix ks xs i with
  | none=>rw[ex] at q2;exact q2.elim
  | some x =>
   rw[ex] at q2;have b:=nP (ks:=ks) rps i;rw[ex] at b;obtain⟨y,e1,ry⟩:=b;have ra:=KV.val rel (.inl i);rw[rL hl,e1] at ra;obtain⟨w',hw,rw'⟩:=fT.some_of ra;have hT:=dd.typeIs (s:=s2);unfold subscriptTail;refine qab ?_;rw[getitemInPython_of_ne hT.not_modules];refine qab (wpAny_specialOf hT PySem.F.slot_dict_getitem.lookup ?_);have fin:wpAny (model X.prog X.w) X.A (subscripted b false (.ref a) (.int i t)) (fun r s₃=>wpAny (model X.prog X.w) X.A (letTemporaryGo ea (.ref a) r >>= fun _=>pure r) (EP X F6 σ Q) X.xe s₃) X.xe s2:=by
    rw[hs (.ref a) (.int i t)];exact wpAny_operating (wpAny_getItem_of (dW _ _ i t) dd.mapOf hw (qab (wpAny_letTemporaryGo (qaw ⟨y,H2,I2.tok _,rw',q2 ρ2 H2 _ (Le.refl _ _) rh2 ry⟩))))
   first
    | exact qaw (qab fin)
    | exact qab (qaw (qab fin))
    | exact qab fin
 ·exact q2.elim
def mDG(m:Mx PV)(ma:Mx (List PV)):Mx PV:=fun σ h=>(m σ h).bind fun x h1=>match x,bG h1 x with
 | .loc n,some _=>(ma σ h1).bind fun vs h2=>match vs,bG h2 (.loc n) with
  | [.int i,d],some (_,ks,xs)=>.ok ((dix ks xs i).getD d) h2
  | _,_=>.bad
 | _,_=>.bad
def tw{F6:List (Addr × Obj)}{σ:L2.St}{H:Hp}{s:Shared}{fz:Bool}{a:Addr}{kvs:List (Key × V)}(I:Inv X F6 σ H s)(d:dO fz (H a) (.dK kvs)) :
  s.TypeIs (.ref a) "dict"/\(∀b,Value.ref a=.ref b->∃ob,s.heap.get? b=some ob/\ob.dict=none)/\(a == sysModules)=false:=by
 obtain⟨_,hd,vs,_,dd⟩:=ic I.hok d;refine⟨dd.typeIs,fun b q=>?_,hd⟩;cases q;obtain⟨ob,_,_,h1,h2,_⟩:=dd;exact⟨ob,h1,h2.2.1⟩
def me_dG{o a b:Expr}{m:Mx PV}{ma:Mx (List PV)}{apos cpos:Pos}(he:ME X o m)(ha:MA X [a,b] ma)
  (hbase:attributeBase o "get" X.env (eval o X.env)=eval o X.env:=by rfl)
  (hfew:((backTo cpos (starEach [a,b] X.env)).all (fun x=>!x.1) && (backToKw cpos (keywordEach [] X.env)).all (fun x=>x.1.isSome)
   && decide ([a,b].length+([]:List Keyword).length+(if ([]:List Keyword).isEmpty then 0 else 1)<30))=true:=by rfl)
  (hline:(apos.endLine == cpos.line)=true:=by rfl) (hs:starEach [a,b] X.env=(false,eval a X.env)::starEach [b] X.env:=by rfl) (hplain:(backTo cpos (starEach [b] X.env)).any (·.1)=false:=by rfl) :
  ME X (.Call (.Attribute o "get" apos) [a,b] [] cpos) (mDG m ma):=by
 intro F6 s σ H Q I ⟨ρ,σp,h,rs,rh,q⟩
 refine wpAny_Call_method_late hbase hfew hline rfl (thn (he F6 s σ H (fun x' H1=>∃ρ1 h1 x,Le ρ H ρ1 H1/\RH X.K X.mg ρ1 H1 h1/\RP X.K ρ1 H1 x x'/\Ful X (RV' X) σp ρ1 H1 (match x,bG h1 x with
 | .loc n,some _=>(ma σp h1).bind fun vs h2=>match vs,bG h2 (.loc n) with
  | [.int i,d],some (_,ks,xs)=>.ok ((dix ks xs i).getD d) h2
  | _,_=>.bad
 | _,_=>.bad) Q) I ⟨ρ,σp,h,rs,rh,Ful.bind q fun ρ1 H1 x x' h1 _ l1 rh1 rx q1=>⟨ρ1,h1,x,l1,rh1,rx,q1⟩⟩) fun v s1 ⟨x',H1,I1,r1,ρ1,h1,x,l1,rh1,rx,q1⟩=>?_)
 split at q1
 ·rename_i n w ew
  obtain⟨fz,ks,xs⟩:=w;obtain⟨_,ad,ys,e0,en,rfl,eo,hl,rps,d⟩:=ff rh1 rx ew;cases e0;cases r1;obtain⟨t1,t2,_⟩:=tw I1 d;refine⟨"dict","dict.get",PySem.F.plainAttrs_dict,PySem.F.slot_dict_get,PySem.F.type_dict_get,t1,t2,?_⟩
  have hA:=ha cpos F6 s1 σ H1 (fun vs' H2=>∃ρ2 h2 vs,Le ρ1 H1 ρ2 H2/\RH X.K X.mg ρ2 H2 h2/\RPs X.K ρ2 H2 vs vs'/\Ful X (RV' X) σp ρ2 H2 (match vs,bG h2 (.loc n) with
   | [.int i,d],some (_,ks,xs)=>.ok ((dix ks xs i).getD d) h2
   | _,_=>.bad) Q) I1 ⟨ρ1,σp,h1,rs.le l1,rh1,Ful.bind q1 fun ρ2 H2 vs vs' h2 _ l2 rh2 rvs q2=>⟨ρ2,h2,vs,l2,rh2,rvs,q2⟩⟩
  rw[hs] at hA ⊢;refine Calls.callWith_builtin (by show (false || (backTo cpos (starEach [b] X.env)).any (·.1))=false;rw[hplain] <;> rfl) (Calls.evalArgs_plain ?_);refine thn hA fun us s2 ⟨vs',H2,I2,r2,ρ2,h2,vs,l2,rh2,rvs,q2⟩=>?_
  split at q2
  ·rename_i i dd fz2 ks2 xs2 ew2
   obtain⟨_,ad2,ys2,e0,en2,e1,eo2,hl2,rps2,d2⟩:=ff rh2 (.loc (l2.get en)) ew2;cases e0;cases e1
   cases rvs with
   | cons a1 a2=>cases a2 with
    | cons a3 a4 =>
     cases a4;cases a1
     cases r2 with
     | cons b1 b2=>cases b2 with
      | @cons _ u3 _ _ b3 b4 =>
       cases b4;obtain⟨t,rfl⟩:=b1;obtain⟨z,hd,vs,rel,de⟩:=ic I2.hok d2;have ra:=KV.val rel (.inl i);rw[rL hl2] at ra;have rb:=nP (ks:=ks2) rps2 i;have fin:∃v',aP v' ((valueAt vs (.inl i)).getD u3)/\RP X.K ρ2 H2 ((dix ks2 xs2 i).getD dd) v':=by
        cases ex:dix ks2 xs2 i with
        | none =>
         rw[ex] at rb;dsimp only at rb;rw[rb] at ra;rw[fT.none_of ra];exact⟨_,b3,a3⟩
        | some x =>
         rw[ex] at rb;obtain⟨y,e1,ry⟩:=rb;rw[e1] at ra;obtain⟨w',hw,rw'⟩:=fT.some_of ra;rw[hw];exact⟨y,rw',ry⟩
       obtain⟨v',rv',rp'⟩:=fin;exact call_meetsIn PySem.F.slot_dict_get de.typeIs PySem.F.entry_dict_get (PySem.F.args_dict_get_3 _ _ _) (meets_dict_get_default (cy X.prog X.w) ad (dW _ _ i t) hd _) ⟨_,de.mapOf,v',H2,I2.tok _,rv',q2 ρ2 H2 _ (Le.refl _ _) rh2 rp'⟩
  ·exact q2.elim
 ·exact q1.elim
def kE(mo mi mv:Mx PV):Mst:=mEx mv fun v=>mEx mo fun o=>mEx mi fun i σ h=>match o,i,bG h o with
 | .loc n,.int j,some (false,ks,xs)=>if ks.length<sizeLine then .nx σ (h.set n (.dic false (dput ks xs j v).1 (dput ks xs j v).2)) else .bad
 | _,_,_=>.bad
def tK{o i value:Expr}{mo mi mv:Mx PV}{pos pos':Pos}(ho:ME X o mo)(hi:ME X i mi)(hv:ME X value mv)(hs:swapsWith value (some (.Subscript o i pos')) pos.line X.env=pure false:=by rfl) :
  MS X (.Assign [.Subscript o i pos'] value pos) (kE mo mi mv):=by
 intro F6 s σ H D I ⟨ρ,σp,h,rs,rh,q⟩;unfold kE at q
 have kk:tM X (RV' X) mv σ H (fun v' H1=>tM X (RV' X) mo σ H1 fun o' H2=>tM X (RV' X) mi σ H2 fun i' H3=>∃ρ3 h3 v o i,RH X.K X.mg ρ3 H3 h3/\RS X.K ρ3 H3 σp σ/\RP X.K ρ3 H3 v v'/\RP X.K ρ3 H3 o o'/\RP X.K ρ3 H3 i i'/\bi X ρ3 H3 (match o,i,bG h3 o with
  | .loc n,.int j,some (false,ks,xs)=>if ks.length<sizeLine then .nx σp (h3.set n (.dic false (dput ks xs j v).1 (dput ks xs j v).2)) else .bad
  | _,_,_=>.bad) D):=by
  refine⟨ρ,σp,h,rs,rh,?_⟩;unfold mEx at q
  cases e:mv σp h with
  | exc x h1=>rw[e] at q;exact q
  | bad=>rw[e] at q;exact q
  | ok v h1 =>
   rw[e] at q;intro ρ1 H1 v' l1 rh1 rv;dsimp only at q;refine⟨ρ1,σp,h1,rs.le l1,rh1,?_⟩
   cases e2:mo σp h1 with
   | exc x h2=>rw[e2] at q;exact XP.le (X:=X) (σp:=σp) (x:=x) (h:=h2) l1 q
   | bad=>rw[e2] at q;exact q
   | ok ov h2 =>
    rw[e2] at q;intro ρ2 H2 o' l2 rh2 ro;dsimp only at q;refine⟨ρ2,σp,h2,(rs.le l1).le l2,rh2,?_⟩
    cases e3:mi σp h2 with
    | exc x h3=>rw[e3] at q;exact XP.le (X:=X) (σp:=σp) (x:=x) (h:=h3) l2 (XP.le (X:=X) (σp:=σp) (x:=x) (h:=h3) l1 q)
    | bad=>rw[e3] at q;exact q
    | ok iv h3 =>
     rw[e3] at q;intro ρ3 H3 i' l3 rh3 ri;exact⟨ρ3,h3,v,ov,iv,rh3,((rs.le l1).le l2).le l3,(rv.le l2).le l3,ro.le l3,ri,bi.le l3 (bi.le l2 (bi.le l1 q))⟩
 refine wpAny_Assign_Subscript (thn (hv F6 s σ H _ I kk) fun r s1 ⟨v',H1,I1,rv,q1⟩=>thn (ho F6 s1 σ H1 _ I1 q1) fun u s2 ⟨o',H2,I2,ru,q2⟩=>thn (hi F6 s2 σ H2 _ I2 q2) fun iv s3 ⟨i',H3,I3,ri,ρ3,h3,v,ov,i,rh3,rs3,pv,po,pi,q3⟩=>?_) hs
 split at q3
 ·rename_i n j ks xs ed
  obtain⟨_,a,ys,e0,en,rfl,eo,hl,rps,d⟩:=ff rh3 po ed;cases e0;cases pi;obtain⟨t,rfl⟩:=ri;cases ru;by_cases hz:ks.length<sizeLine
  ·rw[qan hz] at q3;have d':H3 a=some (.dK (kz ks ys)):=d;obtain⟨z,hd,vs,rel,dd⟩:=ic I3.hok d;obtain⟨p1,p2⟩:=xW (ks:=ks) rps pv j;obtain⟨l1,l2⟩:=yk (i:=j) (v:=v') hl;have nd:(vs.map (·.1)).Nodup:=by obtain⟨_,_,_,_,_,_,_,_,nd⟩:=dd;exact nd
   have hzl:(kz (dput ks ys j v').1 (dput ks ys j v').2).length<=sizeLine:=by
    unfold kz;rw[qbt,qar];lia
   refine wpAny_setItem_pairs (hsz:=by rw[<-j0 rel];exact z) (dW _ _ j t) dd fun h' dd' hsb=>?_;have he:∃q,h'.get? a=some q:=let ⟨q,_,_,hq,_⟩:=dd';⟨q,hq⟩;have I4:Inv X F6 σ (upd H3 a (.dK (kz (dput ks ys j v').1 (dput ks ys j v').2))) { s3 with heap:=h',toks:=s3.toks+1} :=
    I3.write (x:=a) (e:=a) (by rw[d'];exact True.intro) (.inl rfl) (fun b q hb z=>(hsb.2 b hb).trans z) he ⟨hzl,hd,_,kv_put hl nd rel rv,dd'⟩
   obtain⟨rh4,l4⟩:=rh3.put en (o:=.dic false (dput ks xs j v).1 (dput ks xs j v).2) (ho:=.dK (kz (dput ks ys j v').1 (dput ks ys j v').2)) ⟨(dput ks ys j v').2,by rw[p1];exact l1,p2,by rw[p1];rfl⟩;exact⟨σ,_,I4,q3 ρ3 _ σ l4 rh4 (rs3.le l4)⟩
  ·rw[qay hz] at q3;exact q3.elim
 ·exact q3.elim
def fListD(vs:List PV)(h:MH):Out PV:=match vs with
 | [x]=>(match bG h x with
  | some (_,ks,_)=>newL (ks.map .int) h
  | none=>.bad)
 | _=>.bad
def vj:∀{ks:List Int} {ys:List V} {vs:List (Key × Value)} {us:List Value},ys.length=ks.length->KV (kz ks ys) vs->us.length=vs.length->(∀(i:Nat) v,us[i]?=some v->∃k x,vs[i]?=some (k,x)/\mL k v=true)->aJ (ks.map V.int) us:=by
 intro ks
 induction ks with
 | nil =>
  intro ys vs us hl r hu h;unfold KV at r
  have:vs=[]:=by cases ys <;> cases r <;> rfl
  subst this
  cases us with
  | nil=>exact .nil
  | cons _ _=>simp at hu
 | cons k ks ih =>
  intro ys vs us hl r hu h
  cases ys with
  | nil=>simp at hl
  | cons y ys =>
   unfold KV at r
   cases r with
   | @cons _ q _ qs hq tt =>
    cases us with
    | nil=>simp at hu
    | cons u us =>
     obtain⟨k',x,e1,e2⟩:=h 0 u rfl;cases e1;have ek:Sum.inl k=k':=hq.1;subst ek;rcases bv e2 with ⟨i,t,e3,rfl⟩|⟨_,_,e3,_⟩
     ·cases e3;exact .cons ⟨t,rfl⟩ (ih (by simpa using hl) tt (by simpa using hu) fun i v hv=>by simpa using h (i+1) v (by simpa using hv))
     ·cases e3
def yz(g:Good X N W G k):dC X (.type "list") fListD:=by
 intro F6 s σ H xs us Q I r ⟨ρ,h,ps,rh,rp,q⟩;unfold fListD at q
 split at q
 ·rename_i x
  cases rp with
  | cons r1 t1 =>
   cases t1
   cases r with
   | cons u1 w1 =>
    cases w1
    cases ed:bG h x with
    | none=>rw[ed] at q;exact q.elim
    | some w =>
     obtain⟨fz,ks,xs⟩:=w;rw[ed] at q;obtain⟨n,a,ys,rfl,en,rfl,eo,hl,rps,d⟩:=ff rh r1 ed;cases u1;obtain⟨z,hd,vs,rel,dd⟩:=ic I.hok d;obtain⟨ep,da⟩:=dd.dictAt;dsimp only at q;unfold newL at q;by_cases hz:(ks.map PV.int).length<=sizeLine
     ·rw[qan hz] at q;refine PySem.W.kdl_call (PySem.W.kdl_dict hd) (I.ok.hd g.calm) da (by rw[<-j0 rel];exact z) fun h' tk acc' c' kp e it=>?_;have va:aJ (ks.map V.int) acc'.toList:=vj hl rel (by rw[qbu];exact it.1) fun i v hv=>it.2 i v (by rw[<-qbJ];exact hv);obtain⟨rh3,l3⟩:=rh.new (I.hok.fresh (qai s.heap.objs.size)) (o:=.lst (ks.map .int)) (ho:=.lst (ks.map V.int)) ⟨_,rfl,RPs.ints _⟩;refine⟨.ref s.heap.objs.size,_,I.laid (o:=.lst (ks.map V.int)) kp (qai _) (show ObjOk X.prog X.w _ h' _ (.lst _) from⟨by simpa using hz,acc'.toList,c',va,by simpa using e⟩),rfl,q _ _ _ l3 rh3 (.loc (by rw[<-rh.len];simp))⟩
     ·rw[qay hz] at q;exact q.elim
 ·exact q.elim
def mFz(i:Nat)(m:Mst):Mst:=fun σ h=>match σ[i]? with
 | some (some (.loc n))=>(match h[n]? with
  | some (.dic false ks xs)=>m σ (h.set n (.dic true ks xs))
  | _=>.bad)
 | _=>.bad
def ms_fz{st:List Stmt}{m:Mst}(i:Nat)(hm:MSs X st m):MSs X st (mFz i m):=by
 intro F6 s σ H D I ⟨ρ,σp,h,rs,rh,q⟩;unfold mFz at q
 split at q
 ·rename_i n e
  split at q
  ·rename_i ks xs eo
   obtain⟨v',ev,rv⟩:=rs.2 i _ e
   cases rv with
   | @loc _ a en =>
    obtain⟨ys,hl,rps,d⟩:=rh.at' n a _ en eo;have d':H a=some (.dK (kz ks ys)):=d;obtain⟨z,hd,vs,rel,dd⟩:=ic I.hok d;obtain⟨ob,es,ep,h1,hr⟩:=dd;have I2:Inv X F6 σ (upd H a (.frz ob (.dK (kz ks ys)))) { s with heap:=s.heap,toks:=s.toks} :=
     I.write (x:=a) (e:=a) (by rw[d'];exact True.intro) (.inl rfl) (fun b q hb z=>z) ⟨ob,h1⟩ ⟨h1,z,hd,vs,rel,ob,es,ep,h1,hr⟩
    obtain⟨rh4,l4⟩:=rh.put en (o:=.dic true ks xs) (ho:=.frz ob (.dK (kz ks ys))) ⟨ys,hl,rps,ob,rfl⟩;exact hm F6 s σ _ D I2 ⟨ρ,σp,_,rs.le l4,rh4,bi.le l4 q⟩
  ·exact q.elim
 ·exact q.elim
def ni(n:Nat)(vs:List PV)(h:MH):Out PV:=match vs,h[n]? with
 | [.int i],some (.lst xs)=>if 0<=i/\i<2 ^ 62 then (match xs[i.toNat]? with
  | some y=>.ok y (h.set n (.lst (xs.eraseIdx i.toNat)))
  | none=>.bad) else .bad
 | _,_=>.bad
def RPs.erase{K:qac}{ρ:List Addr}{H:Hp}{xs:List PV}{ys:List V}(r:RPs K ρ H xs ys)(i:Nat):RPs K ρ H (xs.eraseIdx i) (ys.eraseIdx i):=by
 induction xs generalizing ys i with
 | nil=>cases r;exact .nil
 | cons x xs ih =>
  cases r with
  | cons a t =>
   cases i with
   | zero=>exact t
   | succ i=>exact .cons a (ih t i)
def mj_popA:MtR X "list.pop" (mtJ X ni):=by
 intro F6 s σ H x vs v us Q I rx rv ⟨ρ,h,n,a,ps,e,en,rh,rp,q⟩;subst e;obtain⟨o,eo,ro⟩:=rh.obj en;unfold ni at q;rw[eo] at q
 split at q
 ·rename_i i xs e
  injection e with e
  subst e
  cases rp with
  | cons r1 t1 =>
   cases t1;cases r1;obtain⟨ys,ey,ry⟩:=ro;by_cases hi:0<=i/\i<2 ^ 62
   ·rw[qan hi] at q
    cases ex:xs[i.toNat]? with
    | none=>rw[ex] at q;exact q.elim
    | some y =>
     rw[ex] at q;obtain⟨y',ey',ry'⟩:=ry.get ex;obtain⟨rh',l'⟩:=rh.put en (o:=.lst (xs.eraseIdx i.toNat)) (ho:=.lst (ys.eraseIdx i.toNat)) ⟨_,rfl,ry.erase _⟩;have hlt:=(qaf.mp ey').1;exact wR F6 s σ H _ _ v us Q I rx rv ⟨a,ys,i,i.toNat,y',rfl,rfl,ey,by lia,by lia,by simp[seqIndex?];lia,ey',q ρ _ y' l' rh' (ry'.le l')⟩
   ·rw[qay hi] at q;exact q.elim
 ·exact q.elim
end
end MM
namespace MM
open PySem PySem.Spec PyProof.Rows L2 DcT
local instance (priority:=1) cdec52 (p:Prop):Decidable p:=Classical.propDecidable p
section
variable {X:Cx} {N W G:List Str} {k:Nat}
local instance inhPV2:Inhabited PV:=⟨.non⟩
def wI{P:Program}{w:World}{es:List DictEntry}{kvs:List (Int × Value)}(p:Pairs (intKind P w) es kvs):Pairs (cy P w) es (kvs.map fun kv=>((Sum.inl kv.1:Key),kv.2)):=by
 induction p with
 | nil=>exact .nil
 | cons a b _ ih=>exact .cons a b ih
def mix_of{P:Program}{w:World}{h:Heap}{a:Addr}{kvs:List (Int × Value)}(d:h.DictOf (intKind P w) a kvs):h.DictOf (cy P w) a (kvs.map fun kv=>((Sum.inl kv.1:Key),kv.2)):=by
 obtain⟨o,es,ep,h1,h2,h3,hk,hp,nd⟩:=d;refine⟨o,es,ep,h1,h2,h3,fun e he=>?_,wI hp,?_⟩
 ·obtain⟨i,e1,e2⟩:=hk e he;exact⟨.inl i,e1,e2⟩
 ·rw[qaJ];rw[show ((fun x:Key × Value=>x.1)∘fun kv:Int × Value=>((Sum.inl kv.1:Key),kv.2))=(Sum.inl∘fun kv:Int × Value=>kv.1) from rfl,<-qaJ];exact (List.pairwise_map.mpr (List.Pairwise.imp (fun h z=>h (by cases z;rfl)) nd))
def kz_rel{K:qac}{ρ:List Addr}{H:Hp}:∀{kvs:List (Int × PV)} {vals:List (Int × Value)},kvs.length=vals.length->(∀(i:Nat) a b,kvs[i]?=some a->vals[i]?=some b->a.1=b.1/\∃v,aP v b.2/\RP K ρ H a.2 v) ->
  ∃ys:List V,ys.length=(kvs.map (·.1)).length/\RPs K ρ H (kvs.map (·.2)) ys/\KV (kz (kvs.map (·.1)) ys) (vals.map fun kv=>((Sum.inl kv.1:Key),kv.2)):=by
 intro kvs
 induction kvs with
 | nil =>
  intro vals hl _
  cases vals with
  | nil=>exact⟨[],rfl,.nil,.nil⟩
  | cons _ _=>simp at hl
 | cons a kvs ih =>
  intro vals hl h
  cases vals with
  | nil=>simp at hl
  | cons b vals =>
   obtain⟨ys,e1,e2,e3⟩:=ih (by simpa using hl) fun i a b h1 h2=>h (i+1) a b (by simpa using h1) (by simpa using h2);obtain⟨e,v,rv,rp⟩:=h 0 a b rfl rfl;exact⟨v::ys,by simp at e1 ⊢;exact e1,.cons rp e2,.cons ⟨congrArg Sum.inl e,rv⟩ e3⟩
def fDict(vs:List PV)(h:MH):Out PV:=match vs with
 | [x]=>(match dgP x with
  | some kvs=>.ok (.loc h.length) (h++[.dic false (kvs.map (·.1)) (kvs.map (·.2))])
  | none=>.bad)
 | _=>.bad
def uv(g:Good X N W G k):dG X (.type "dict") (fun xs H Q=>∃ρ h ps kvs v,xs=[v]/\RH X.K X.mg ρ H h/\RP X.K ρ H (.tup ps) v/\gK ps=some kvs/\(kvs.map (·.1)).Nodup /\
   ∀l ys,H l=none->ys.length=(kvs.map (·.1)).length->RPs X.K ρ H (kvs.map (·.2)) ys->Q (.ref l) (upd H l (.dK (kz (kvs.map (·.1)) ys)))):=by
 intro F6 s σ H xs us Q I r ⟨ρ,h,ps,kvs,v,e,rh,rp,ep,nd,q⟩;subst e;obtain⟨u,rfl,ru⟩:=r.one
 cases rp with
 | tup sq rps =>
  cases ru;obtain⟨its,rv,ht,hz⟩:=I.tupleN sq;obtain⟨hl,hv⟩:=uE rps rv ep;have hli:=rv.length;have hlr:=rps.length;have hall:∀i,i<its.length->∃b t w1,its[i]?=some (.ref b)/\s.heap.IsTuple b #[.int (kvs[i]!).1 t,w1]/\∃w,aP w w1/\RP X.K ρ H (kvs[i]!).2 w:=by
   intro i hi;have hk:i<kvs.length:=by ext
   obtain⟨b,w,e1,e2,e3⟩:=hv i its[i] kvs[i] (by simp[hi]) (by simp[hk]);obtain⟨it2,rv2,ht2,_⟩:=I.tuple e2
   cases rv2 with
   | cons a1 a2=>cases a2 with
    | cons a3 a4 =>
     cases a4;obtain⟨t,rfl⟩:=a1;refine⟨b,t,_,by rw[qaj hi,e1],?_,w,a3,?_⟩
     ·rw[getElem!_pos kvs i hk];exact ht2
     ·rw[getElem!_pos kvs i hk];exact e3
  have hch:∃vals:List (Int × Value),vals.length=its.length/\∀i,i<its.length->∃b t w1,vals[i]?=some ((kvs[i]!).1,w1)/\its[i]?=some (.ref b)/\s.heap.IsTuple b #[.int (kvs[i]!).1 t,w1]/\∃w,aP w w1/\RP X.K ρ H (kvs[i]!).2 w:=by
   have:∀n,n<=its.length->∃vals:List (Int × Value),vals.length=n/\∀i,i<n->∃b t w1,vals[i]?=some ((kvs[i]!).1,w1)/\its[i]?=some (.ref b)/\s.heap.IsTuple b #[.int (kvs[i]!).1 t,w1]/\∃w,aP w w1/\RP X.K ρ H (kvs[i]!).2 w:=by
    intro n
    induction n with
    | zero=>exact fun _=>⟨[],rfl,fun i hi=>absurd hi (Nat.not_lt_zero _)⟩
    | succ n ih =>
     intro hn;obtain⟨vs,e1,e2⟩:=ih (by ext);obtain⟨b,t,w1,f1,f2,f3⟩:=hall n (by ext);refine⟨vs++[((kvs[n]!).1,w1)],by simp[e1],fun i hi=>?_⟩;by_cases z:i<n
     ·obtain⟨b,t,w1,g1,g2⟩:=e2 i z;exact⟨b,t,w1,by rw[qal (by ext)];exact g1,g2⟩
     ·have:i=n:=by ext
      subst this;exact⟨b,t,w1,by rw[qaE (by ext),e1];simp,f1,f2,f3⟩
   exact this _ (qai _)
  obtain⟨vals,hvl,hva⟩:=hch;have hkeys:vals.map (·.1)=kvs.map (·.1):=by
   apply List.ext_getElem?;intro i;by_cases z:i<its.length
   ·obtain⟨_,_,_,g1,_⟩:=hva i z;have hk:i<kvs.length:=by ext
    rw[qax,qax,g1,qaj hk,getElem!_pos kvs i hk];rfl
   ·rw[qbB (by simp;ext),qbB (by simp;ext)]
  obtain⟨oa,hoa,hca,⟨na,hda⟩,hdi⟩:=ht;refine mT (a:=_) (items:=its.toArray) (kvs:=vals) (I.ok.hd g.calm) ⟨oa,na,hoa,hca,hda,hdi⟩ (by simp[hvl]) (by simp;ext) (hkeys▸nd) (fun i v kv h1 h2=>?_) fun h' tk hD hx=>?_
  ·have z:i<its.length:=by
    have:=(qaf.mp h2).1
    ext
   obtain⟨b,t,w1,g1,g2,g3,_⟩:=hva i z;rw[g1] at h2;cases h2
   have:v=.ref b:=by
    have e:its.toArray[i]?=its[i]?:=by simp
    rw[e,g2] at h1;exact (Option.some.inj h1).symm
   exact⟨b,t,this,g3⟩
  ·have hn:H s.heap.objs.size=none:=I.hok.fresh (qai _);have hbm:=Inv.bigM I;obtain⟨ys,y1,y2,y3⟩:=kz_rel (K:=X.K) (ρ:=ρ) (H:=H) (kvs:=kvs) (vals:=vals) (by ext) fun i a b h1 h2=>by
    have z:i<its.length:=by
     have:=(qaf.mp h2).1
     ext
    obtain⟨b',t,w1,g1,g2,g3,w,g4,g5⟩:=hva i z;rw[g1] at h2;cases h2;have hk:i<kvs.length:=by ext
    rw[qaj hk] at h1;cases h1;rw[getElem!_pos kvs i hk] at g5 ⊢;exact⟨rfl,w,g4,g5⟩
   have hzl:(kz (kvs.map (·.1)) ys).length<=sizeLine:=by
    unfold kz;rw[qbt,qar,qar];ext
   exact⟨.ref s.heap.objs.size,_,I.laid (o:=.dK (kz (kvs.map (·.1)) ys)) hx (qai _) ⟨hzl,beq_eq_false_iff_ne.mpr (qaU hbm),_,y3,mix_of hD⟩,rfl,q _ ys hn y1 y2⟩
 | _=>cases ep
def cj_dict(g:Good X N W G k):dC X (.type "dict") fDict:=by
 intro F6 s σ H xs us Q I r ⟨ρ,h,ps,rh,rp,q⟩;unfold fDict at q
 split at q
 ·rename_i x
  cases rp with
  | cons r1 t1 =>
   cases t1
   cases ed:dgP x with
   | none=>rw[ed] at q;exact q.elim
   | some kvs =>
    rw[ed] at q;unfold dgP at ed
    split at ed
    ·rename_i ps
     split at ed
     ·rename_i kvs' ep
      split at ed
      ·rename_i nd
       cases ed;refine uv g F6 s σ H _ us Q I r ⟨ρ,h,ps,kvs,_,rfl,rh,r1,ep,nd,fun l ys hl h1 h2=>?_⟩;have ro:RO X.K X.mg ρ H l (.dic false (kvs.map Prod.fst) (kvs.map Prod.snd)) (some (.dK (kz (kvs.map Prod.fst) ys))):=⟨ys,h1,h2,rfl⟩;obtain⟨rh2,l2⟩:=rh.new hl ro;exact q _ _ _ l2 rh2 (.loc (by rw[<-rh.len];simp))
      ·cases ed
     ·cases ed
    ·cases ed
 ·exact q.elim
def Iti(a:Addr)(o:Obj)(ks:List Int)(ys:List V):It :=
 ⟨fun i H=>H a=some (.frz o (.dK (kz ks ys)))/\i<ks.length,fun i H x H'=>∃p k y,H p=none/\x=.ref p/\H'=upd H p (.tup [.int k,y])/\ks[i]?=some k/\ys[i]?=some y,fun i H=>H a=some (.frz o (.dK (kz ks ys)))/\ks.length<=i⟩
def fz_at{F6:List (Addr × Obj)}{σ:L2.St}{H:Hp}{s:Shared}{a:Addr}{o:Obj}{kvs:List (Key × V)}{ep:Nat}{es:Array DictEntry}(I:Inv X F6 σ H s)(he:o.data=.dict es ep)(e:H a=some (.frz o (.dK kvs))) :
  s.heap.get? a=some o/\∃vs,KV kvs vs/\s.heap.DictAt (cy X.prog X.w) a vs ep:=by
 obtain⟨h1,_,_,vs,rel,ob,es',ep',h2,h3,h4,h5⟩:=(show ObjOk X.prog X.w H s.heap a (.frz o (.dK kvs)) from I.hok a _ e);rw[h1] at h2;cases h2;rw[he] at h4;cases h4;exact⟨h1,vs,rel,o,es,h1,h3,he,h5⟩
def rO{ks:List Int}{ys:List V}(hl:ys.length=ks.length):(kz ks ys).length=ks.length:=by unfold kz;rw[qbt,qar];lia
def uO{P:Program}{w:World}{K:qac}{elts:List Expr}{x1:Nat}{pos:Pos}(a it:Addr)(o:Obj){es:Array DictEntry}{ep:Nat}{ks:List Int}{ys:List V}(hl:ys.length=ks.length)(hep:o.data=.dict es ep)(hai:a≠it) :
  Turn P w K (.Tuple elts x1 pos) (Iti a o ks ys) [it] it (fun i h=>∃ok ov,IsItemIter h it a i ks.length ep ok ov) where
 mem:=by simp
 obj:=fun i h st b hb=>by
  obtain⟨ok,ov,he⟩:=st
  have:b=it:=by simpa using hb
  subst this;exact⟨_,he,fun v z=>nomatch z⟩
 keep:=fun i h h' st k=>let ⟨ok,ov,he⟩:=st;⟨ok,ov,k it (by simp) _ he⟩
 item:=by
  intro X hP hw hK hc i F6 s σ H E I hf st hg;subst hP hw hK;obtain⟨ok,ov,he⟩:=st;obtain⟨hH,hi⟩:=hg;obtain⟨ho,vs,rel,da⟩:=fz_at I hep hH;have hvl:vs.length=ks.length:=by rw[<-j0 rel,rO hl]
  obtain⟨⟨k,x⟩,hx⟩:∃p,vs[i]?=some p:=⟨vs[i],by simp[hvl,hi]⟩;obtain⟨v,hv,rv⟩:=kv_get rel hx;have hk:ks[i]?=some ks[i]:=by simp[hi]
  have hy:ys[i]?=some (ys[i]'(by lia)):=by simp
  have hkz:(kz ks ys)[i]?=some (.inl ks[i],ys[i]'(by lia)):=by
   unfold kz;rw[qca];exact⟨by simp[hi],hy⟩
  rw[hkz] at hv;cases hv;rw[<-hvl] at he;refine wpAny_pyNext_items_item he da hx fun key h1 hkey ho1 hT hsz hk1=>⟨_,rfl,?_⟩;rcases bv (k:=Sum.inl ks[i]) (v:=key) hkey with ⟨j,t,e3,rfl⟩|⟨_,_,e3,_⟩
  ·cases e3;refine wpAny_letOwnedTupleGo_items (s:={ s with heap:=h1}) ho1 fun h2 he2 sb2=>?_;replace sb2:Heap.SameBut it h1 h2:=sb2;have hlt:it<s.heap.objs.size:=qas he;obtain⟨I2,hup,hfr⟩:=nQ (t':=s.toks) (h':=h2) I (ch:=[it]) (ys:=[.int ks[i],ys[i]'(by lia)]) (its:=[.int ks[i] t,x]) hf (.cons ⟨t,rfl⟩ (.cons rv .nil)) (by rw[sizeLine_eq];show 2<=_;decide)
    (by simp only[qam,qbx,or_false];exact qaU hlt)
    ((sb2.2 _ (qaU hlt)).trans hT)
    (fun b o hb q=>by
     have h1':b≠it:=fun z=>hb (by simp[z])
     exact (sb2.2 b h1').trans (hk1 b o h1' q))
   rw[hvl] at he2;exact⟨.ref s.heap.objs.size,_,I2,rfl,⟨_,_,_,hfr,rfl,rfl,hk,hy⟩,⟨_,_,he2⟩,hup⟩
  ·cases e3
 done:=by
  intro X hP hw hK hc i F6 s σ H E I hf st hg;subst hP hw hK;obtain⟨ok,ov,he⟩:=st;obtain⟨hH,hi⟩:=hg;obtain⟨ho,vs,rel,da⟩:=fz_at I hep hH;have hvl:vs.length=ks.length:=by rw[<-j0 rel,rO hl]
  rw[<-hvl] at he;exact wpAny_pyNext_items_end (I.ok.hd hc) he da (by simp;lia) fun h' hx=>⟨rfl,gm (t':=s.toks) I hf fun b o hb q=>hx b o (fun z=>hb (by simp[z])) q⟩
 self:=fun A i s Q E st h=>let ⟨ok,ov,he⟩:=st;PySem.W.kcp_self he h
def mItD(m:Mx PV):Mx MIt:=fun σ h=>(m σ h).bind fun x h1=>match bG h1 x with
 | some (true,ks,xs)=>.ok ⟨fe (ks.map .int) xs,[]⟩ h1
 | _=>.bad
def xQ{elts:List Expr}{x1:Nat}{tp:Pos}{o:Expr}{m:Mx PV}{apos cpos:Pos}(he:ME X o m)
  (hbase:attributeBase o "items" X.env (eval o X.env)=eval o X.env:=by rfl) (hline:(apos.endLine == cpos.line)=true:=by rfl) :
  MI X (.Tuple elts x1 tp) (.Call (.Attribute o "items" apos) [] [] cpos) (mItD m):=by
 intro F6 s σ H R I ⟨ρ,σp,h,rs,rh,q⟩
 refine wpAny_Call_method0_late hbase hline (thn (he F6 s σ H (fun x' H1=>∃ρ1 h1 x,Le ρ H ρ1 H1/\RH X.K X.mg ρ1 H1 h1/\RP X.K ρ1 H1 x x'/\Ful X (lR X) σp ρ1 H1 (match bG h1 x with
 | some (true,ks,xs)=>.ok ⟨fe (ks.map .int) xs,[]⟩ h1
 | _=>.bad) R) I ⟨ρ,σp,h,rs,rh,Ful.bind q fun ρ1 H1 x x' h1 _ l1 rh1 rx q1=>⟨ρ1,h1,x,l1,rh1,rx,q1⟩⟩) fun v s1 ⟨x',H1,I1,r1,ρ1,h1,x,l1,rh1,rx,q1⟩=>?_)
 split at q1
 ·rename_i ks xs ed
  obtain⟨n,a,ys,rfl,en,rfl,eo,hl,rps,d⟩:=ff rh1 rx ed;cases r1;obtain⟨t1,t2,hsys⟩:=tw I1 d;obtain⟨ob,d⟩:=d;obtain⟨h2,_,_,vs,rel,ob',es,ep,h3,h4,h5,h6⟩:=(show ObjOk X.prog X.w H1 s1.heap a (.frz ob (.dK (kz ks ys))) from I1.hok a _ d);rw[h2] at h3;cases h3;have dd:s1.heap.DictOf (cy X.prog X.w) a vs:=⟨ob,es,ep,h2,h4,h5,h6⟩;have hvl:vs.length=ks.length:=by rw[<-j0 rel,rO hl]
  refine⟨"dict","dict.items",PySem.F.plainAttrs_dict,PySem.F.slot_dict_items,PySem.F.type_dict_items,t1,t2,Calls.callWith_builtin rfl (PySem.evalArgs_none ?_)⟩;refine call_meetsIn PySem.F.slot_dict_items dd.typeIs PySem.F.entry_dict_items (PySem.F.args_dict_items_1 _) (meets_dict_items (cy X.prog X.w) a hsys) ⟨⟨vs,dd⟩,?_⟩;have da:(s1.heap.push { cls:=.type "dict_items",data:=.fields #[.ref a]}).DictAt (cy X.prog X.w) a vs ep:=⟨ob,es,qad _ h2,h4,h5,h6⟩;have I2:Inv X F6 σ H1 { s1 with heap:=s1.heap.push { cls:=.type "dict_items",data:=.fields #[.ref a]},toks:=s1.toks}:=I1.kept fun b o e=>qad _ e;refine wpAny_pyIter_items ⟨_,qaz _ rfl,rfl,rfl⟩ da ?_;have hsz:(s1.heap.push { cls:=.type "dict_items",data:=.fields #[.ref a]}).objs.size=s1.heap.objs.size+1:=qba ..;have I3:Inv X F6 σ H1 { s1 with heap:=(s1.heap.push { cls:=.type "dict_items",data:=.fields #[.ref a]}).push { cls:=.type "dict_itemiterator",data:=.fields #[.none,.bool false,.ref a,.int 0 0,.int vs.length 0,.int ep 0,.none,.none]},toks:=s1.toks}:=I2.kept fun b o e=>qad _ e;have hlt:a<(s1.heap.push { cls:=.type "dict_items",data:=.fields #[.ref a]}).objs.size:=by rw[hsz];exact Nat.lt_succ_of_lt (qas h2)
  refine⟨_,_,_,_,H1,rfl,I3,uO a _ ob hl h5 (qaS hlt),⟨_,_,by rw[<-hvl];exact qaz _ rfl⟩,fun c hc=>?_,?_⟩
  ·have:c=(s1.heap.push { cls:=.type "dict_items",data:=.fields #[.ref a]}).objs.size:=by simpa using hc
   subst this;exact Inv.fpOk I2 (qai _) (I2.hok.fresh (qai _))
  ·refine q1 ρ1 H1 _ (Le.refl _ _) rh1 ?_;intro ρ' H' h2 i l rh' ok;have hfz:=l.frz _ _ _ d;have rps':=rps.le l;have hzl:(fe (ks.map PV.int) xs).length=ks.length:=by rw[lP,qar,rps.length];lia
   refine⟨fun hi'=>?_,fun hi'=>⟨hfz,by rw[hzl] at hi';exact hi'⟩⟩;rw[hzl] at hi';refine⟨⟨hfz,hi'⟩,fun x' H3 ⟨pp,kk,y2,hp,e1,e2,e3,e4⟩=>?_⟩;subst e1;subst e2;have hxl:i<xs.length:=by rw[rps.length];lia
   have hx:xs[i]?=some (xs[i]'hxl):=qaj hxl;obtain⟨w',ew,rw'⟩:=rps'.get hx;rw[e4] at ew;cases ew;obtain⟨rh3,l3⟩:=rh'.tup hp [.int kk,y2];exact⟨ρ',_,l3,rh3,p9 (by rw[qax,e3];rfl) hx,.tup (SqT.of bY) (.cons (.int _) (.cons (rw'.le l3) .nil))⟩
 ·exact q1.elim
end
end MM
namespace PU
open PySem MM
def ys{α:Type}{a b:α}(h:a=b):a=b:=h
inductive D where
 | non | bl (b:Bool) | int (i:Int) | str (x:Str) | tup (xs:List D) | lst (xs:List D) | dic (fz:Bool) (ks:List Int) (ds:List D) | exc (c:Str) | pen
abbrev Pen:=Int × Int × Int
abbrev aA:=List (Option D)
def bE(h:MH)(p:Nat)(s:Pen):Prop:=h[p]?=some (.lst [.int s.1,.int s.2.1,.int s.2.2])
inductive RcT (P:List PV->Prop) (v:PV):Prop
 | mk (xs:List PV) (e:v=.tup xs) (r:P xs):RcT P v
inductive RcL (h:MH) (O:List Nat) (P:List PV->Prop) (v:PV):Prop
 | mk (n:Nat) (xs:List PV) (e:v=.loc n) (no:n∉O) (g:h[n]?=some (.lst xs)) (r:P xs):RcL h O P v
inductive RcD (h:MH) (O:List Nat) (fz:Bool) (ks:List Int) (P:List PV->Prop) (v:PV):Prop
 | mk (n:Nat) (xs:List PV) (e:v=.loc n) (no:n∉O) (g:h[n]?=some (.dic fz ks xs)) (r:P xs):RcD h O fz ks P v
inductive RcO (h:MH) (O:List Nat) (o:MO) (v:PV):Prop
 | mk (n:Nat) (e:v=.loc n) (no:n∉O) (g:h[n]?=some o):RcO h O o v
inductive RcC (P:PV->Prop) (Q:List PV->Prop) (vs:List PV):Prop
 | mk (x:PV) (r:List PV) (e:vs=x::r) (a:P x) (b:Q r):RcC P Q vs
mutual
def Rp(p:Nat)(h:MH)(O:List Nat):D->PV->Prop
 | .non,v=>v=.non
 | .bl b,v=>v=.bl b
 | .int i,v=>v=.int i
 | .str x,v=>v=.str x
 | .tup ds,v=>RcT (Rps p h O ds) v
 | .lst ds,v=>RcL h O (Rps p h O ds) v
 | .dic fz ks ds,v=>RcD h O fz ks (Rps p h O ds) v
 | .exc c,v=>RcO h O (.exc ⟨c,[]⟩) v
 | .pen,v=>v=.loc p
def Rps(p:Nat)(h:MH)(O:List Nat):List D->List PV->Prop
 | [],vs=>vs=[]
 | d::ds,vs=>RcC (Rp p h O d) (Rps p h O ds) vs
end
def aI{h:MH}{n:Nat}{o:MO}(e:h[n]?=some o):n<h.length:=(qaf.mp e).1
structure Mv (O:List Nat) (h:MH) (O':List Nat) (h':MH):Prop where
 keep:∀n:Nat,n<h.length->n∉O->h'[n]?=h[n]?
 new:∀o∈O',o∈O\/h.length<=o
def Mv.get{O O':List Nat}{h h':MH}(s:Mv O h O' h'){n:Nat}{o:MO}(e:h[n]?=some o)(no:n∉O):n∉O'/\h'[n]?=some o:=by
 have hl:=aI e;refine⟨fun z=>?_,(s.keep n hl no).trans e⟩;rcases s.new n z with q|q
 ·exact no q
 ·lia
section
variable {p:Nat} {O O':List Nat} {h h':MH}
def Rp.mv(s:Mv O h O' h')(r:Rp p h O d v):Rp p h' O' d v:=by
 refine D.rec (motive_1:=fun d=>∀v,Rp p h O d v->Rp p h' O' d v) (motive_2:=fun ds=>∀vs,Rps p h O ds vs->Rps p h' O' ds vs)
  (fun _ r=>r) (fun _ _ r=>r) (fun _ _ r=>r) (fun _ _ r=>r) (fun ds i _ r=>?_) (fun ds i _ r=>?_) (fun _ _ ds i _ r=>?_) (fun _ _ r=>?_) (fun _ r=>r) (fun _ r=>r) (fun _ _ i j _ r=>?_) d v r
 ·obtain⟨xs,e,r⟩:=r;exact⟨xs,e,i _ r⟩
 ·obtain⟨n,xs,e,no,g,r⟩:=r;exact⟨n,xs,e,(s.get g no).1,(s.get g no).2,i _ r⟩
 ·obtain⟨n,xs,e,no,g,r⟩:=r;exact⟨n,xs,e,(s.get g no).1,(s.get g no).2,i _ r⟩
 ·obtain⟨n,e,no,g⟩:=r;exact⟨n,e,(s.get g no).1,(s.get g no).2⟩
 ·obtain⟨x,t,e,a,b⟩:=r;exact⟨x,t,e,i _ a,j _ b⟩
def Rps.mv(s:Mv O h O' h')(r:Rps p h O ds vs):Rps p h' O' ds vs:=by
 induction ds generalizing vs with
 | nil=>exact r
 | cons d ds ih=>obtain⟨x,t,e,a,b⟩:=r;exact⟨x,t,e,a.mv s,ih b⟩
def Rps.length(r:Rps p h O ds vs):vs.length=ds.length:=by
 induction ds generalizing vs with
 | nil=>rw[show vs=[] from r];rfl
 | cons d ds ih=>obtain⟨x,t,e,a,b⟩:=r;rw[e,qap,qap,ih b]
def Rps.get{ds:List D}{vs:List PV}{i:Nat}{d:D}(r:Rps p h O ds vs)(g:ds[i]?=some d):∃v,vs[i]?=some v/\Rp p h O d v:=by
 induction ds generalizing vs i with
 | nil=>cases g
 | cons d ds ih =>
  obtain⟨x,t,e,a,b⟩:=r;subst e
  cases i with
  | zero=>cases g;exact⟨x,rfl,a⟩
  | succ i=>have z:=@ih t i b g;exact z
def Rps.app(r:Rps p h O ds vs)(s:Rps p h O es ws):Rps p h O (ds++es) (vs++ws):=by
 induction ds generalizing vs with
 | nil=>rw[show vs=[] from r];exact s
 | cons d ds ih=>obtain⟨x,t,e,a,b⟩:=r;subst e;exact⟨x,t++_,rfl,a,ih b⟩
def Rps.take(n:Nat)(r:Rps p h O ds vs):Rps p h O (ds.take n) (vs.take n):=by
 induction ds generalizing vs n with
 | nil=>rw[show vs=[] from r];cases n <;> rfl
 | cons d ds ih =>
  obtain⟨x,t,e,a,b⟩:=r;subst e
  cases n with
  | zero=>rfl
  | succ n=>exact⟨x,t.take n,rfl,a,ih n b⟩
def Rps.drop(n:Nat)(r:Rps p h O ds vs):Rps p h O (ds.drop n) (vs.drop n):=by
 induction ds generalizing vs n with
 | nil=>rw[show vs=[] from r];cases n <;> rfl
 | cons d ds ih =>
  cases n with
  | zero=>exact r
  | succ n=>obtain⟨x,t,e,a,b⟩:=r;subst e;exact ih n b
def Rps.set(i:Nat)(r:Rps p h O ds vs)(q:Rp p h O d v):Rps p h O (ds.set i d) (vs.set i v):=by
 induction ds generalizing vs i with
 | nil=>rw[show vs=[] from r];rfl
 | cons d' ds ih =>
  obtain⟨x,t,e,a,b⟩:=r;subst e
  cases i with
  | zero=>exact⟨v,t,rfl,q,b⟩
  | succ i=>exact⟨x,t.set i v,rfl,a,ih i b⟩
end
def dl:Option (List Int)->List D->D
 | none,ds=>.lst ds
 | some ks,ds=>.dic false ks ds
def mo:Option (List Int)->List PV->MO
 | none,xs=>.lst xs
 | some ks,xs=>.dic false ks xs
def fP(e:D.lst ds=dl k es):k=none/\ds=es:=by
 cases k with
 | none=>cases e;exact⟨rfl,rfl⟩
 | some _=>cases e
inductive VwO (p:Nat) (h:MH) (L:Nat) (O:List Nat) (d:D) (v:PV):Prop
 | mk (n:Nat) (k:Option (List Int)) (xs:List PV) (ds:List D) (e:d=dl k ds) (e':v=.loc n) (o:n∈O) (l:L<=n) (g:h[n]?=some (mo k xs)) (r:Rps p h O ds xs):VwO p h L O d v
def Vw(p:Nat)(h:MH)(L:Nat)(O:List Nat)(d:D)(v:PV):Prop:=Rp p h O d v\/VwO p h L O d v
def Vws(p:Nat)(h:MH)(L:Nat)(O:List Nat):List D->List PV->Prop
 | [],vs=>vs=[]
 | d::ds,vs=>RcC (Vw p h L O d) (Vws p h L O ds) vs
inductive FrsI (p:Nat) (L:Nat) (O:List Nat) (h:MH) (k:Option (List Int)) (ds:List D) (v:PV):Prop
 | mk (n:Nat) (xs:List PV) (e:v=.loc n) (l:L<=n) (g:h[n]?=some (mo k xs)) (r:Rps p h (n::O) ds xs):FrsI p L O h k ds v
def Frs(p:Nat)(L:Nat)(O:List Nat)(h:MH)(d:D)(v:PV):Prop:=∀k ds,d=dl k ds->FrsI p L O h k ds v
structure KB (p:Nat) (h h':MH):Prop where
 len:h.length<=h'.length
 keep:∀n:Nat,n<h.length->n≠p->h'[n]?=h[n]?
def KB.refl(p:Nat)(h:MH):KB p h h:=⟨qai _,fun _ _ _=>rfl⟩
def KB.trans(a:KB p h h1)(b:KB p h1 h2):KB p h h2 :=
 ⟨qaI a.len b.len,fun n hn hp=>(b.keep n (qat hn a.len) hp).trans (a.keep n hn hp)⟩
def KB.app(p:Nat)(h g:MH):KB p h (h++g):=⟨by simp,fun n hn _=>qal hn⟩
def KB.mv(k:KB p h h')(hp:p∈O):Mv O h O h' :=
 ⟨fun n hn no=>k.keep n hn fun z=>no (z▸hp),fun o ho=>.inl ho⟩
def bE.app{p:Nat}{h g:MH}{s:Pen}(e:bE h p s):bE (h++g) p s:=by
 unfold bE at *;rw[qal (aI e)];exact e
def Vw.kb{p L:Nat}{h h':MH}{O:List Nat}{d:D}{v:PV}(k:KB p h h')(hp:p∈O)(hL:p<L)(w:Vw p h L O d v):Vw p h' L O d v:=by
 rcases w with r|⟨n,kd,xs,ds,e1,e2,ho,hn,g,r⟩
 ·exact .inl (r.mv (k.mv hp))
 ·exact .inr ⟨n,kd,xs,ds,e1,e2,ho,hn,(k.keep n (aI g) (by lia)).trans g,r.mv (k.mv hp)⟩
inductive PR (α:Type) where
 | ok (a:α) (s:Pen)
 | exc (c:Str) (s:Pen)
 | bad
def PR.bind{α β:Type}(r:PR α)(f:α->Pen->PR β):PR β:=match r with
 | .ok a s=>f a s
 | .exc c s=>.exc c s
 | .bad=>.bad
@[simp] theorem Pb(a:α)(s:Pen)(f:α->Pen->PR β):(PR.ok a s).bind f=f a s:=rfl
@[simp] theorem Pe(c:Str)(s:Pen)(f:α->Pen->PR β):(PR.exc c s).bind f=.exc c s:=rfl
@[simp] theorem Pd(f:α->Pen->PR β):(PR.bad:PR α).bind f=.bad:=rfl
def PR.of{α:Type}(o:Option α)(s:Pen):PR α:=match o with
 | some a=>.ok a s
 | none=>.bad
@[simp] theorem Pf(a:α)(s:Pen):PR.of (some a) s=.ok a s:=rfl
@[simp] theorem Pn(s:Pen):PR.of (none:Option α) s=.bad:=rfl
inductive OkE {α β:Type} (p:Nat) (h:MH) (o:Out β) (a:α) (s:Pen) (R:MH->α->β->Prop):Prop
 | mk (b:β) (h':MH) (e:o=.ok b h') (k:KB p h h') (n:bE h' p s) (r:R h' a b):OkE p h o a s R
inductive OkX {β:Type} (p:Nat) (h:MH) (o:Out β) (c:Str) (s:Pen):Prop
 | mk (h':MH) (e:o=.exc ⟨c,[]⟩ h') (k:KB p h h') (n:bE h' p s):OkX p h o c s
def Ok{α β:Type}(p:Nat)(h:MH)(o:Out β)(r:PR α)(R:MH->α->β->Prop):Prop:=match r with
 | .ok a s=>OkE p h o a s R
 | .exc c s=>OkX p h o c s
 | .bad=>True
def Ok.bind{α β γ δ:Type}{p:Nat}{h:MH}{o:Out β}{r:PR α}{R:MH->α->β->Prop}{f:β->MH->Out δ}{g:α->Pen->PR γ}{S:MH->γ->δ->Prop}(q:Ok p h o r R)
  (k:∀a b h1 s,KB p h h1->bE h1 p s->R h1 a b->Ok p h1 (f b h1) (g a s) S):Ok p h (o.bind f) (r.bind g) S:=by
 cases r with
 | ok a s =>
  obtain⟨b,h1,rfl,kb,pn,rr⟩:=q
  have:=k a b h1 s kb pn rr
  rw[Out.bind_ok,Pb]
  cases e:g a s with
  | ok c s2 =>
   rw[e] at this;obtain⟨d,h2,e2,kb2,pn2,r2⟩:=this;exact⟨d,h2,e2,kb.trans kb2,pn2,r2⟩
  | exc c s2 =>
   rw[e] at this;obtain⟨h2,e2,kb2,pn2⟩:=this;exact⟨h2,e2,kb.trans kb2,pn2⟩
  | bad=>trivial
 | exc c s =>
  obtain⟨h1,rfl,kb,pn⟩:=q;exact⟨h1,rfl,kb,pn⟩
 | bad=>trivial
def Ok.imp{α β:Type}{p:Nat}{h:MH}{o:Out β}{r:PR α}{R S:MH->α->β->Prop}(q:Ok p h o r R)(k:∀h' a b,KB p h h'->R h' a b->S h' a b):Ok p h o r S:=by
 cases r with
 | ok a s=>obtain⟨b,h1,e,kb,pn,rr⟩:=q;exact⟨b,h1,e,kb,pn,k _ _ _ kb rr⟩
 | exc c s=>exact q
 | bad=>trivial
structure SR (p:Nat) (h:MH) (L:Nat) (O:List Nat) (ws:List Nat) (σ:PSt) (env:aA):Prop where
 len:σ.length=env.length
 fz:∀i d,env[i]?=some (some d)->i∉ws->∃v,σ[i]?=some (some v)/\Rp p h O d v
 ow:∀i d,env[i]?=some (some d)->i∈ws->∃n k xs ds,d=dl k ds/\σ[i]?=some (some (.loc n))/\n∈O/\L<=n/\h[n]?=some (mo k xs)/\Rps p h O ds xs
structure Cx (p:Nat) (h:MH) (L:Nat) (B O:List Nat) (ws:List Nat) (σ:PSt) (env:aA) (s:Pen):Prop where
 bd:∀o∈O,o<h.length
 sub:∀o∈B,o∈O
 bb:∀o∈B,o<L
 pb:p∈B
 hL:L<=h.length
 pen:bE h p s
 sr:SR p h L O ws σ env
section
variable {p L:Nat} {h h':MH} {B O ws:List Nat} {σ:PSt} {env:aA} {s s':Pen}
def Cx.pO(c:Cx p h L B O ws σ env s):p∈O:=c.sub p c.pb
def Cx.pL(c:Cx p h L B O ws σ env s):p<L:=c.bb p c.pb
def SR.mv{O':List Nat}(m:Mv O h O' h')(hs:∀o∈O,o∈O')(ho:∀n:Nat,n<h.length->L<=n->n∈O->h'[n]?=h[n]?)(r:SR p h L O ws σ env):SR p h' L O' ws σ env :=
 ⟨r.len,fun i d e hi=>let ⟨v,e1,q⟩:=r.fz i d e hi;⟨v,e1,q.mv m⟩,fun i d e hi=>let ⟨n,k,xs,ds,e1,e2,a,b,g,q⟩:=r.ow i d e hi;⟨n,k,xs,ds,e1,e2,hs n a,b,(ho n (aI g) b a).trans g,q.mv m⟩⟩
def Cx.kb(c:Cx p h L B O ws σ env s)(k:KB p h h')(pn:bE h' p s'):Cx p h' L B O ws σ env s' :=
 ⟨fun o ho=>qat (c.bd o ho) k.len,c.sub,c.bb,c.pb,qaI c.hL k.len,pn,c.sr.mv (k.mv c.pO) (fun _ h=>h) fun n hn hl _=>k.keep n hn (by have:=c.pL;lia)⟩
def Vw.base(w:Vw p h L O d v)(sub:∀o∈B,o∈O)(bb:∀o∈B,o<L):Rp p h B d v:=by
 have m:Mv O h B h:=⟨fun _ _ _=>rfl,fun o ho=>.inl (sub o ho)⟩;rcases w with r|⟨n,k,xs,ds,rfl,rfl,_,hn,g,r⟩
 ·exact r.mv m
 ·cases k <;> exact⟨n,xs,rfl,fun z=>by have:=bb n z;lia,g,r.mv m⟩
def Vws.base(sub:∀o∈B,o∈O)(bb:∀o∈B,o<L):∀{ds:List D} {vs:List PV},Vws p h L O ds vs->Rps p h B ds vs
 | [],_,r=>r
 | _::_,_,⟨x,t,e,a,b⟩=>⟨x,t,e,a.base sub bb,Vws.base sub bb b⟩
def Frs.rp(f:Frs p L' O h d v)(bd:∀o∈O,o<L')(e:d=dl k ds):Rp p h O d v:=by
 obtain⟨n,xs,e1,hn,g,r⟩:=f k ds e;subst e;cases k <;> exact⟨n,xs,e1,fun z=>by have:=bd n z;lia,g,r.mv ⟨fun _ _ _=>rfl,fun o ho=>.inl (qaa _ ho)⟩⟩
def Frs.le(f:Frs p L2 O h d v)(hl:L1<=L2):Frs p L1 O h d v:=fun k ds e =>
 let ⟨n,xs,e1,hn,g,r⟩:=f k ds e;⟨n,xs,e1,qaI hl hn,g,r⟩
end
abbrev Bd(h:MH)(O:List Nat):Prop:=∀o∈O,o<h.length
inductive Gv (p:Nat) (h:MH) (O:List Nat) (fr:Bool) (o:Out PV) (d:D):Prop
 | mk (v:PV) (g:MH) (e:o=.ok v (h++g)) (r:Rp p (h++g) O d v) (f:fr=true->Frs p h.length O (h++g) d v):Gv p h O fr o d
structure Op1 where
 m:PV->MH->Out PV
 p:D->Option D
 fr:Bool
 ok:∀{q h L O a x d},Bd h O->Vw q h L O a x->p a=some d->Gv q h O fr (m x h) d
structure Op2 where
 m:PV->PV->MH->Out PV
 p:D->D->Option D
 fr:Bool
 ok:∀{q h L O a x b y d},Bd h O->Vw q h L O a x->Vw q h L O b y->p a b=some d->Gv q h O fr (m x y h) d
structure OpN where
 k:List PV->MH->Out PV
 p:List D->Option D
 fr:Bool
 ok:∀{q h L O as xs d},Bd h O->Vws q h L O as xs->p as=some d->Gv q h O fr (k xs h) d
structure Fn where
 m:List PV->MH->Out PV
 p:List D->Pen->PR D
 fr:Bool
 ok:∀{q h O vs ds s},Bd h O->q∈O->bE h q s->Rps q h O ds vs->Ok q h (m vs h) (p ds s) (fun h' d v=>Rp q h' O d v/\(fr=true->Frs q h.length O h' d v))
mutual
def flat:D->Bool
 | .lst _ | .dic _ _ _ | .exc _ | .pen=>false
 | .tup ds=>flats ds
 | _=>true
def flats:List D->Bool
 | []=>true
 | d::ds=>flat d && flats ds
end
section
variable {p:Nat} {h h':MH} {O O':List Nat}
mutual
def Rp.flat:∀{d:D} {v:PV},PU.flat d=true->Rp p h O d v->Rp p h' O' d v
 | .non,_,_,r=>r
 | .bl _,_,_,r=>r
 | .int _,_,_,r=>r
 | .str _,_,_,r=>r
 | .tup ds,_,f,⟨xs,e,r⟩=>⟨xs,e,Rps.flat (by simpa [PU.flat] using f) r⟩
 | .lst ds,_,f,_=>by simp[PU.flat] at f
 | .dic _ _ _,_,f,_=>by simp[PU.flat] at f
 | .exc _,_,f,_=>by simp[PU.flat] at f
 | .pen,_,f,_=>by simp[PU.flat] at f
def Rps.flat:∀{ds:List D} {vs:List PV},PU.flats ds=true->Rps p h O ds vs->Rps p h' O' ds vs
 | [],_,_,r=>r
 | _::_,_,f,⟨x,t,e,a,b⟩=>⟨x,t,e,Rp.flat (by simp[PU.flats] at f;exact f.1) a,Rps.flat (by simp[PU.flats] at f;exact f.2) b⟩
end
end
structure Xe (ws:List Nat) where
 m:Mx PV
 p:aA->Pen->PR D
 fz:Bool
 fr:Bool
 ok:∀{q h L B O σ env s},Cx q h L B O ws σ env s->Ok q h (m σ h) (p env s) (fun h' d v=>Vw q h' L O d v/\(fz=true->Rp q h' O d v)/\(fr=true->Frs q h.length O h' d v))
structure Xs (ws:List Nat) where
 m:Mx (List PV)
 p:aA->Pen->PR (List D)
 fz:Bool
 ok:∀{q h L B O σ env s},Cx q h L B O ws σ env s->Ok q h (m σ h) (p env s) (fun h' ds vs=>Vws q h' L O ds vs/\(fz=true->Rps q h' O ds vs))
structure Xt (ws:List Nat) where
 m:Mx Bool
 p:aA->Pen->PR Bool
 ok:∀{q h L B O σ env s},Cx q h L B O ws σ env s->Ok q h (m σ h) (p env s) (fun _ a b=>a=b)
noncomputable section
variable {ws:List Nat}
def give{q L:Nat}{h h2:MH}{O:List Nat}{o:Out PV}{d:D}{s:Pen}{fr:Bool}(le:h.length<=h2.length)(pn:bE h2 q s)(g:Gv q h2 O fr o d) :
  Ok q h2 o (.ok d s) (fun h' d v=>Vw q h' L O d v/\(true=true->Rp q h' O d v)/\(fr=true->Frs q h.length O h' d v)):=by
 obtain⟨v,g,e,r,f⟩:=g;exact⟨v,h2++g,e,KB.app _ _ _,pn.app,.inl r,fun _=>r,fun z=>(f z).le le⟩
def ab(i:Nat):Xe ws where
 m:=ae i
 p:=fun env s=>match env[i]? with
  | some (some d)=>.ok d s
  | _=>.bad
 fz:=!ws.contains i
 fr:=false
 ok {q h L B O σ env s} c:=by
  show Ok q h _ (match env[i]? with | some (some d)=>PR.ok d s | _=>.bad) _
  cases e:env[i]? with
  | none=>trivial
  | some o =>
   cases o with
   | none=>trivial
   | some d =>
    by_cases z:i∈ws
    ·obtain⟨n,k,xs,ds,e1,e2,a,b,g,r⟩:=c.sr.ow i d e z;exact⟨.loc n,h,by simp[ae,e2],KB.refl _ _,c.pen,.inr ⟨n,k,xs,ds,e1,rfl,a,b,g,r⟩,fun f=>by simp[z] at f,fun f=>by simp at f⟩
    ·obtain⟨v,e1,r⟩:=c.sr.fz i d e z;exact⟨v,h,by simp[ae,e1],KB.refl _ _,c.pen,.inl r,fun _=>r,fun f=>by simp at f⟩
inductive Cn where
 | non | bl (b:Bool) | int (i:Int) | str (x:Str)
def Cn.v:Cn->PV
 | .non=>.non
 | .bl b=>.bl b
 | .int i=>.int i
 | .str x=>.str x
def Cn.d:Cn->D
 | .non=>.non
 | .bl b=>.bl b
 | .int i=>.int i
 | .str x=>.str x
def Cn.rp(c:Cn){q:Nat}{h:MH}{O:List Nat}:Rp q h O c.d c.v:=by cases c <;> rfl
def xC(k:Cn):Xe ws where
 m:=mC k.v
 p:=fun _ s=>.ok k.d s
 fz:=true
 fr:=true
 ok {q h L B O σ env s} c:=⟨k.v,h,rfl,KB.refl _ _,c.pen,.inl k.rp,fun _=>k.rp,fun _ kd ds e=>by cases k <;> cases kd <;> cases e⟩
def ai(o:Op2)(a b:Xe ws):Xe ws where
 m:=ah o.m a.m b.m
 p:=fun env s=>(a.p env s).bind fun x s1=>(b.p env s1).bind fun y s2=>.of (o.p x y) s2
 fz:=true
 fr:=o.fr
 ok {q h L B O σ env s} c:=by
  refine (a.ok c).bind fun x v h1 s1 k1 p1 ⟨w1,_,_⟩=>?_;refine (b.ok (c.kb k1 p1)).bind fun y w h2 s2 k2 p2 ⟨w2,_,_⟩=>?_
  cases e:o.p x y with
  | none=>trivial
  | some d =>
   have c2:=(c.kb k1 p1).kb k2 p2;obtain⟨u,g,e1,r,f⟩:=o.ok c2.bd (w1.kb k2 c.pO c.pL) w2 e;exact give (qaI k1.len k2.len) p2 ⟨u,g,by rw[e1];rfl,r,f⟩
def xUn(o:Op1)(a:Xe ws):Xe ws where
 m:=mUn o.m a.m
 p:=fun env s=>(a.p env s).bind fun x s1=>.of (o.p x) s1
 fz:=true
 fr:=o.fr
 ok {q h L B O σ env s} c:=by
  refine (a.ok c).bind fun x v h1 s1 k1 p1 ⟨w1,_,_⟩=>?_
  cases e:o.p x with
  | none=>trivial
  | some d =>
   obtain⟨u,g,e1,r,f⟩:=o.ok (c.kb k1 p1).bd w1 e;exact give k1.len p1 ⟨u,g,by rw[e1];rfl,r,f⟩
def xNil:Xs ws where
 m:=mNil
 p:=fun _ s=>.ok [] s
 fz:=true
 ok {q h L B O σ env s} c:=⟨[],h,rfl,KB.refl _ _,c.pen,rfl,fun _=>rfl⟩
def aa(a:Xe ws)(r:Xs ws):Xs ws where
 m:=ac a.m r.m
 p:=fun env s=>(a.p env s).bind fun x s1=>(r.p env s1).bind fun y s2=>.ok (x::y) s2
 fz:=a.fz && r.fz
 ok {q h L B O σ env s} c:=by
  refine (a.ok c).bind fun x v h1 s1 k1 p1 ⟨w1,z1,_⟩=>?_;refine (r.ok (c.kb k1 p1)).bind fun y w h2 s2 k2 p2 ⟨w2,z2⟩=>?_;refine⟨v::w,h2,rfl,KB.refl _ _,p2,⟨v,w,rfl,w1.kb k2 c.pO c.pL,w2⟩,fun f=>?_⟩;rw[qbw] at f;exact⟨v,w,rfl,(z1 f.1).mv (k2.mv c.pO),z2 f.2⟩
def xCb(o:OpN)(a:Xs ws):Xe ws where
 m:=fun σ h=>(a.m σ h).bind o.k
 p:=fun env s=>(a.p env s).bind fun x s1=>.of (o.p x) s1
 fz:=true
 fr:=o.fr
 ok {q h L B O σ env s} c:=by
  refine (a.ok c).bind fun x v h1 s1 k1 p1 ⟨w1,_⟩=>?_
  cases e:o.p x with
  | none=>trivial
  | some d=>exact give k1.len p1 (o.ok (c.kb k1 p1).bd w1 e)
def aq(f:Fn)(a:Xs ws)(hz:a.fz=true:=by exact ys rfl):Xe ws where
 m:=ay f.m a.m
 p:=fun env s=>(a.p env s).bind f.p
 fz:=true
 fr:=f.fr
 ok {q h L B O σ env s} c:=by
  refine (a.ok c).bind fun x v h1 s1 k1 p1 ⟨_,z⟩=>?_;have c1:=c.kb k1 p1;refine (f.ok c1.bd c1.pO p1 (z hz)).imp fun h' d v kb ⟨r,fr⟩=>⟨.inl r,fun _=>r,fun z=>(fr z).le k1.len⟩
def lend(d:D):Bool:=match d with
 | .lst ds=>flats ds
 | d=>flat d
def iW(f:Fn)(a:Xs ws)(hf:f.fr=true:=by exact ys rfl):Xe ws where
 m:=ay f.m a.m
 p:=fun env s=>((a.p env s).bind f.p).bind fun d s=>if lend d=true then .ok d s else .bad
 fz:=true
 fr:=true
 ok {q h L B O σ env s} c:=by
  have key:Ok q h ((a.m σ h).bind f.m) ((a.p env s).bind f.p) (fun h' d v=>Rp q h' B d v/\Frs q h.length B h' d v):=by
   refine (a.ok c).bind fun x v h1 s1 k1 p1 ⟨w,_⟩=>?_;have c1:=c.kb k1 p1;refine (f.ok (fun o ho=>qat (c1.bb o ho) c1.hL) c1.pb p1 (w.base c1.sub c1.bb)).imp fun h' d v kb ⟨r,fr⟩=>⟨r,(fr hf).le k1.len⟩
  show Ok q h ((a.m σ h).bind f.m) _ _
  cases e:(a.p env s).bind f.p with
  | bad=>trivial
  | exc x s1=>rw[e] at key;exact key
  | ok d s1 =>
   rw[e] at key;obtain⟨v,h',e1,kb,pn,r,fr⟩:=key;rw[Pb];by_cases z:lend d=true
   ·rw[qan z];have f2:Frs q h.length O h' d v:=fun k ds ed=>by
     obtain⟨n,xs,a1,a2,a3,a4⟩:=fr k ds ed;subst ed
     cases k with
     | some _=>cases z
     | none=>exact⟨n,xs,a1,a2,a3,Rps.flat z a4⟩
    have r2:Rp q h' O d v:=by
     cases d with
     | lst ds=>exact f2.rp (k:=none) c.bd rfl
     | non=>exact r
     | bl b=>exact r
     | int i=>exact r
     | str i=>exact r
     | tup i=>exact Rp.flat z r
     | dic _ _ _=>cases z
     | exc _=>cases z
     | pen=>cases z
    exact⟨v,h',e1,kb,pn,.inl r2,fun _=>r2,fun _=>f2⟩
   ·rw[qay z];trivial
def d9:100000<=sizeLine:=by decide
def iJ(bd:Bd h O)(r:Rps q h O ds xs)(hl:ds.length<=100000):Gv q h O true (newL xs h) (.lst ds):=by
 have hx:=r.length;have m:Mv O h O (h++[MO.lst xs]):=⟨fun n hn _=>qal hn,fun o ho=>.inl ho⟩
 have m2:Mv O h (h.length::O) (h++[MO.lst xs]):=⟨fun n hn _=>qal hn,fun o ho=>by
  rcases qam.mp ho with z|z
  ·exact .inr (by lia)
  ·exact .inl z⟩
 have g:(h++[MO.lst xs])[h.length]?=some (.lst xs):=by simp
 refine⟨.loc h.length,[.lst xs],?_,⟨_,_,rfl,fun z=>by have:=bd _ z;lia,g,r.mv m⟩,fun _ k ds' e=>?_⟩
 ·unfold newL;rw[qan];have:=d9;lia
 ·obtain⟨rfl,rfl⟩:=fP e;exact⟨_,_,rfl,qai _,g,r.mv m2⟩
def tW(r:Rps q h O ds xs)(hl:ds.length<=100000):Gv q h O true (newT xs h) (.tup ds):=by
 have hx:=r.length;refine⟨.tup xs,[],?_,?_,fun _ k ds' e=>by cases k <;> cases e⟩
 ·unfold newT;rw[qan (by have:=d9;lia)];simp
 ·simpa using ⟨xs,rfl,r⟩
def bX(a:Xs ws)(hz:a.fz=true:=by exact ys rfl):Xe ws where
 m:=bq a.m
 p:=fun env s=>(a.p env s).bind fun x s1=>if x.length<=100000 then .ok (.lst x) s1 else .bad
 fz:=true
 fr:=true
 ok {q h L B O σ env s} c:=by
  refine (a.ok c).bind fun x v h1 s1 k1 p1 ⟨_,z⟩=>?_;by_cases hl:x.length<=100000
  ·rw[qan hl];exact give k1.len p1 (iJ (c.kb k1 p1).bd (z hz) hl)
  ·rw[qay hl];trivial
def aO(a:Xs ws)(hz:a.fz=true:=by exact ys rfl):Xe ws where
 m:=aY a.m
 p:=fun env s=>(a.p env s).bind fun x s1=>if x.length<=100000 then .ok (.tup x) s1 else .bad
 fz:=true
 fr:=true
 ok {q h L B O σ env s} c:=by
  refine (a.ok c).bind fun x v h1 s1 k1 p1 ⟨_,z⟩=>?_;by_cases hl:x.length<=100000
  ·rw[qan hl];exact give k1.len p1 (tW (z hz) hl)
  ·rw[qay hl];trivial
def xDic:Xe ws where
 m:=mDic
 p:=fun _ s=>.ok (.dic false [] []) s
 fz:=true
 fr:=true
 ok {q h L B O σ env s} c:=by
  have g:(h++[MO.dic false [] []])[h.length]?=some (.dic false [] []):=by simp
  have r:Rp q (h++[MO.dic false [] []]) O (.dic false [] []) (.loc h.length):=⟨_,[],rfl,fun z=>by have:=c.bd _ z;lia,g,rfl⟩
  exact⟨.loc h.length,h++[.dic false [] []],rfl,KB.app _ _ _,c.pen.app,.inl r,fun _=>r,fun _ k ds e=>by
   cases k with
   | none=>cases e
   | some ks=>cases e;exact⟨_,[],rfl,qai _,g,rfl⟩⟩
def Vw.bl(w:Vw q h L O (.bl b) v):v=.bl b:=by
 rcases w with r|⟨n,k,xs,ds,e,_⟩
 ·exact r
 ·cases k <;> cases e
def PR.bl(r:PR D):PR Bool:=r.bind fun d s=>match d with
 | .bl b=>.ok b s
 | _=>.bad
@[simp] theorem Pl:(PR.ok (D.bl b) s).bl=.ok b s:=rfl
def xB(a:Xe ws):Xt ws where
 m:=mB a.m
 p:=fun env s=>(a.p env s).bl
 ok {q h L B O σ env s} c:=by
  refine (a.ok c).bind fun x v h1 s1 k1 p1 ⟨w,_,_⟩=>?_
  cases x with
  | bl b=>rw[w.bl];exact⟨b,h1,rfl,KB.refl _ _,p1,rfl⟩
  | _=>trivial
def eA(a:Xt ws):Xt ws where
 m:=dN a.m
 p:=fun env s=>(a.p env s).bind fun b s=>.ok (!b) s
 ok {q h L B O σ env s} c:=(a.ok c).bind fun x v h1 s1 k1 p1 e=>⟨!v,h1,rfl,KB.refl _ _,p1,by rw[e]⟩
def xOr(a b:Xt ws):Xt ws where
 m:=mOr a.m b.m
 p:=fun env s=>(a.p env s).bind fun x s=>if x=true then .ok true s else b.p env s
 ok {q h L B O σ env s} c:=(a.ok c).bind fun x v h1 s1 k1 p1 e=>by
  subst e
  cases x with
  | false=>simpa using b.ok (c.kb k1 p1)
  | true=>exact⟨true,h1,rfl,KB.refl _ _,p1,rfl⟩
def xTrue:Xt ws where
 m:=mTrue
 p:=fun _ s=>.ok true s
 ok {q h L B O σ env s} c:=⟨true,h,rfl,KB.refl _ _,c.pen,rfl⟩
def Ok.after{α β:Type}{p:Nat}{h h1:MH}{o:Out β}{r:PR α}{R:MH->α->β->Prop}(k:KB p h h1)(q:Ok p h1 o r R):Ok p h o r R:=by
 cases r with
 | bad=>trivial
 | exc c2 s2=>obtain⟨h2,a1,a2,a3⟩:=q;exact⟨h2,a1,k.trans a2,a3⟩
 | ok d2 s2=>obtain⟨v2,h2,a1,a2,a3,a4⟩:=q;exact⟨v2,h2,a1,k.trans a2,a3,a4⟩
def giveB(pn:bE h q s):Ok q h (.ok (.bl b) h) (.ok (.bl b) s) (fun h' d v=>Vw q h' L O d v/\(true=true->Rp q h' O d v)/\(true=true->Frs q l O h' d v)) :=
 ⟨.bl b,h,rfl,KB.refl _ _,pn,.inl rfl,fun _=>rfl,fun _ k ds e=>by cases k <;> cases e⟩
def blOnly(k:Ok q h o r (fun h' d v=>Vw q h' L O d v/\(fz=true->Rp q h' O d v)/\(fr=true->Frs q l' O h' d v))) :
  Ok q h o (r.bl.bind fun b s=>.ok (.bl b) s) (fun h' d v=>Vw q h' L O d v/\(true=true->Rp q h' O d v)/\(true=true->Frs q l O h' d v)):=by
 cases r with
 | bad=>trivial
 | exc c s=>exact k
 | ok d s =>
  obtain⟨v,h',e,kb,pn,w,_,_⟩:=k
  cases d with
  | bl b=>exact⟨v,h',e,kb,pn,w,fun _=>by rw[w.bl];rfl,fun _ k ds e=>by cases k <;> cases e⟩
  | _=>trivial
def lW(a b:Xe ws):Xe ws where
 m:=ji a.m b.m
 p:=fun env s=>(a.p env s).bl.bind fun x s=>if x=true then (b.p env s).bl.bind fun y s=>.ok (.bl y) s else .ok (.bl false) s
 fz:=true
 fr:=true
 ok {q h L B O σ env s} c:=by
  have k:=a.ok c;show Ok q h ((a.m σ h).bind _) _ _
  cases e:a.p env s with
  | bad=>trivial
  | exc x s1 =>
   rw[e] at k;obtain⟨h1,e1,k1,p1⟩:=k;rw[e1];exact⟨h1,rfl,k1,p1⟩
  | ok d s1 =>
   rw[e] at k;obtain⟨v,h1,e1,k1,p1,w,_,_⟩:=k
   cases d with
   | bl x =>
    rw[w.bl] at e1;rw[e1]
    cases x with
    | true =>
     exact Ok.after k1 (blOnly (l:=h.length) (b.ok (c.kb k1 p1)))
    | false =>
     obtain⟨v2,h2,a1,a2,a3,a4⟩:=giveB (L:=L) (l:=h.length) (O:=O) (b:=false) p1;exact⟨v2,h2,a1,k1.trans a2,a3,a4⟩
   | _=>trivial
def xNotV(a:Xe ws):Xe ws where
 m:=pP a.m
 p:=fun env s=>(a.p env s).bl.bind fun x s=>.ok (.bl (!x)) s
 fz:=true
 fr:=true
 ok {q h L B O σ env s} c:=by
  have k:=a.ok c;show Ok q h ((a.m σ h).bind _) _ _
  cases e:a.p env s with
  | bad=>trivial
  | exc x s1 =>
   rw[e] at k;obtain⟨h1,e1,k1,p1⟩:=k;rw[e1];exact⟨h1,rfl,k1,p1⟩
  | ok d s1 =>
   rw[e] at k;obtain⟨v,h1,e1,k1,p1,w,_,_⟩:=k
   cases d with
   | bl x =>
    rw[w.bl] at e1;rw[e1];obtain⟨v2,h2,a1,a2,a3,a4⟩:=giveB (L:=L) (l:=h.length) (O:=O) (b:=!x) p1;exact⟨v2,h2,a1,k1.trans a2,a3,a4⟩
   | _=>trivial
def xIfE(t:Xt ws)(a b:Xe ws)(fz:Bool)(hf:fz=(a.fz && b.fz):=by exact ys rfl):Xe ws where
 m:=mIfE t.m a.m b.m
 p:=fun env s=>(t.p env s).bind fun x s=>if x=true then a.p env s else b.p env s
 fz:=fz
 fr:=false
 ok {q h L B O σ env s} c:=(t.ok c).bind fun x v h1 s1 k1 p1 e=>by
  subst e
  cases x with
  | true=>exact (a.ok (c.kb k1 p1)).imp fun h' d v kb r=>⟨r.1,fun f=>r.2.1 (by rw[hf,qbw] at f;exact f.1),fun f=>by simp at f⟩
  | false=>exact (b.ok (c.kb k1 p1)).imp fun h' d v kb r=>⟨r.1,fun f=>r.2.1 (by rw[hf,qbw] at f;exact f.2),fun f=>by simp at f⟩
end
structure Xi (ws:List Nat) where
 m:Mx MIt
 p:aA->Pen->PR (List D)
 fz:Bool
 ok:∀{q h L B O σ env s},Cx q h L B O ws σ env s->Ok q h (m σ h) (p env s) (fun h' ds it=>Rps q h' O ds it.xs/\(∀g∈it.gd,h'[g.1]?=some (.lst g.2)/\g.1≠q)/\(fz=true->∀g∈it.gd,g.1∉O))
inductive GI (q:Nat) (h:MH) (O:List Nat) (ds as:List D) (xs:List PV) (o:Out MIt):Prop
 | mk (it:MIt) (e:o=.ok it h) (r:Rps q h O ds it.xs) (g:∀g∈it.gd,h[g.1]?=some (.lst g.2)/\g.1≠q) (z:Rps q h O as xs->∀g∈it.gd,g.1∉O):GI q h O ds as xs o
structure OpI where
 k:List PV->MH->Out MIt
 p:List D->Option (List D)
 ok:∀{q h L O as xs ds},q<L->q∈O->Bd h O->Vws q h L O as xs->p as=some ds->GI q h O ds as xs (k xs h)
def D.items:D->Option (List D)
 | .lst ds=>some ds
 | .tup ds=>some ds
 | _=>none
@[simp] theorem bn:(D.lst ds).items=some ds:=rfl
@[simp] theorem vV:(D.tup ds).items=some ds:=rfl
noncomputable section
variable {ws:List Nat}
def bO(o:OpI)(a:Xs ws):Xi ws where
 m:=fun σ h=>(a.m σ h).bind o.k
 p:=fun env s=>(a.p env s).bind fun x s1=>.of (o.p x) s1
 fz:=a.fz
 ok {q h L B O σ env s} c:=by
  refine (a.ok c).bind fun x v h1 s1 k1 p1 ⟨w,z⟩=>?_
  cases e:o.p x with
  | none=>trivial
  | some ds =>
   obtain⟨it,e1,r,g1,g2⟩:=o.ok c.pL c.pO (c.kb k1 p1).bd w e;exact⟨it,h1,e1,KB.refl _ _,p1,r,g1,fun f=>g2 (z f)⟩
def Vw.seq(hq:q<L)(hO:q∈O)(w:Vw q h L O d v)(e:d.items=some ds):∃xs gd,itAny v h=.ok ⟨xs,gd⟩ h/\Rps q h O ds xs/\(∀g∈gd,h[g.1]?=some (.lst g.2)/\g.1≠q)/\(Rp q h O d v->∀g∈gd,g.1∉O):=by
 have one:∀n xs,h[n]?=some (MO.lst xs)->n≠q->(∀g∈[(n,xs)],h[g.1]?=some (MO.lst g.2)/\g.1≠q):=fun n xs g hn y hy=>by
  have:y=(n,xs):=by simpa using hy
  subst this;exact⟨g,hn⟩
 cases d with
 | lst es =>
  have:es=ds:=by simpa [D.items] using e
  subst this;rcases w with ⟨n,xs,e1,no,g,r⟩|⟨n,kd,xs,es',e0,e1,_,hn,g,r⟩
  ·subst e1;refine⟨xs,[(n,xs)],by simp only[itAny,g],r,one n xs g (fun z=>no (z▸hO)),fun _ y hy=>?_⟩
   have:y=(n,xs):=by simpa using hy
   subst this;exact no
  ·obtain⟨rfl,rfl⟩:=fP e0;subst e1;replace g:h[n]?=some (.lst xs):=g;refine⟨xs,[(n,xs)],by simp only[itAny,g],r,one n xs g (by lia),fun ⟨n',xs',e1,no,_,_⟩ y hy=>?_⟩
   have:y=(n,xs):=by simpa using hy
   subst this;cases e1;exact no
 | tup es =>
  have:es=ds:=by simpa [D.items] using e
  subst this;rcases w with ⟨xs,e1,r⟩|⟨n,kd,xs,es',e0,_⟩
  ·subst e1;exact⟨xs,[],rfl,r,(fun _ hy=>nomatch hy),fun _ _ hy=>nomatch hy⟩
  ·cases kd <;> cases e0
 | _=>simp[D.items] at e
def bj(a:Xe ws):Xi ws where
 m:=cp a.m
 p:=fun env s=>(a.p env s).bind fun x s1=>.of x.items s1
 fz:=a.fz
 ok {q h L B O σ env s} c:=by
  refine (a.ok c).bind fun x v h1 s1 k1 p1 ⟨w,z,_⟩=>?_
  cases e:x.items with
  | none=>trivial
  | some ds =>
   obtain⟨xs,gd,e1,r,g1,g2⟩:=w.seq c.pL c.pO e;exact⟨⟨xs,gd⟩,h1,e1,KB.refl _ _,p1,r,g1,fun f=>g2 (z f)⟩
structure Xg (ws:List Nat) where
 m:Mg
 p:D->aA->Option aA
 ok:∀{q h L O σ env d v env'},SR q h L O ws σ env->Rp q h O d v->p d env=some env'->∃σ',m v σ h=.nx σ' h/\SR q h L O ws σ' env'/\∀i∈ws,σ'[i]?=σ[i]?/\env'[i]?=env[i]?
structure Xgs (ws:List Nat) where
 m:Mgs
 p:List D->aA->Option aA
 ok:∀{q h L O σ env ds vs env'},SR q h L O ws σ env->Rps q h O ds vs->p ds env=some env'->∃σ',m vs σ h=.nx σ' h/\SR q h L O ws σ' env'/\∀i∈ws,σ'[i]?=σ[i]?/\env'[i]?=env[i]?
def SR.set(r:SR q h L O ws σ env)(hi:i∉ws)(w:Rp q h O d v):SR q h L O ws (σ.set i (some v)) (env.set i (some d))/\∀j∈ws,(σ.set i (some v))[j]?=σ[j]?/\(env.set i (some d))[j]?=env[j]?:=by
 have ne:∀j∈ws,i≠j:=fun j hj z=>hi (z▸hj);refine⟨⟨by simp[r.len],fun j e hj hw=>?_,fun j e hj hw=>?_⟩,fun j hj=>⟨qae (ne j hj),qae (ne j hj)⟩⟩
 ·by_cases z:i=j
  ·subst z;have hl:i<env.length:=by
    have:=(qaf.mp hj).1;simpa using this
   rw[qaA hl] at hj;cases hj;exact⟨v,qaA (by rw[r.len];exact hl),w⟩
  ·rw[qae z] at hj;obtain⟨u,e1,q1⟩:=r.fz j e hj hw;exact⟨u,by rw[qae z];exact e1,q1⟩
 ·rw[qae (ne j hw)] at hj;obtain⟨n,kd,xs,ds,e1,e2,rest⟩:=r.ow j e hj hw;exact⟨n,kd,xs,ds,e1,by rw[qae (ne j hw)];exact e2,rest⟩
def xNm(i:Nat)(hi:ws.contains i=false:=by exact ys rfl):Xg ws where
 m:=gNm i
 p:=fun d env=>some (env.set i (some d))
 ok {q h L O σ env d v env'} r w e:=by
  cases e;have hi':i∉ws:=fun z=>by simp[z] at hi
  obtain⟨a,b⟩:=r.set hi' w;exact⟨_,rfl,a,b⟩
def xGl:Xgs ws where
 m:=gNl
 p:=fun ds env=>match ds with
  | []=>some env
  | _=>none
 ok {q h L O σ env ds vs env'} r w e:=by
  cases ds with
  | nil =>
   cases e
   have:vs=[]:=w
   subst this;exact⟨σ,rfl,r,fun _ _=>⟨rfl,rfl⟩⟩
  | cons _ _=>cases e
def xGc(a:Xg ws)(t:Xgs ws):Xgs ws where
 m:=gCn a.m t.m
 p:=fun ds env=>match ds with
  | d::ds=>(a.p d env).bind fun env1=>t.p ds env1
  | []=>none
 ok {q h L O σ env ds vs env'} r w e:=by
  cases ds with
  | nil=>cases e
  | cons d ds =>
   obtain⟨x,y,rfl,r1,r2⟩:=w;dsimp only at e
   cases e1:a.p d env with
   | none=>rw[e1] at e;cases e
   | some env1 =>
    rw[e1] at e;obtain⟨σ1,f1,s1,k1⟩:=a.ok r r1 e1;obtain⟨σ2,f2,s2,k2⟩:=t.ok s1 r2 e;exact⟨σ2,by show (a.m x σ h).then (t.m y)=_;rw[f1];exact f2,s2,fun i hi=>⟨(k2 i hi).1.trans (k1 i hi).1,(k2 i hi).2.trans (k1 i hi).2⟩⟩
def xGp(t:Xgs ws)(n:Nat):Xg ws where
 m:=gTp t.m n
 p:=fun d env=>match d with
  | .tup ds=>if ds.length=n then t.p ds env else none
  | _=>none
 ok {q h L O σ env d v env'} r w e:=by
  cases d with
  | tup ds =>
   obtain⟨xs,rfl,w⟩:=w;dsimp only at e;by_cases z:ds.length=n
   ·rw[qan z] at e;obtain⟨σ',a,b⟩:=t.ok r w e;exact⟨σ',by show (if xs.length=n then t.m xs σ h else .bad)=_;rw[qan (by rw[w.length];exact z)];exact a,b⟩
   ·rw[qay z] at e;cases e
  | _=>cases e
def cws(nv:Nat)(fm ws:List Nat):List Nat:=((List.range fm.length).filter fun j=>ws.contains (fm.getD j 0)).map (nv+·)
def cenv(nv:Nat)(fm:List Nat)(env:aA):aA:=List.replicate nv none++fm.map fun i=>(env[i]?).getD none
def PR.ne{α:Type}(r:PR α):PR α:=match r with
 | .exc _ _=>.bad
 | r=>r
@[simp] theorem PR.ne_ok(a:α)(s:Pen):(PR.ok a s).ne=.ok a s:=rfl
def d6(g:D->aA->Option aA)(t:aA->Pen->PR Bool)(e:aA->Pen->PR D):List D->aA->Pen->PR (List D)
 | [],_,s=>.ok [] s
 | d::ds,env,s=>match g d env with
  | none=>.bad
  | some env1=>(t env1 s).bind fun b s1=>if b=true then (e env1 s1).bind fun x s2=>(d6 g t e ds env1 s2).bind fun r s3=>.ok (x::r) s3 else d6 g t e ds env1 s1
def cget{nv:Nat}{fm:List Nat}{α:Type}{env:List (Option α)}{i:Nat}{d:α}(e:(List.replicate nv none++fm.map fun i=>(env[i]?).getD none)[i]?=some (some d)):∃j k,i=nv+j/\fm[j]?=some k/\env[k]?=some (some d):=by
 by_cases z:i<nv
 ·rw[qal (by simpa using z)] at e;simp[z] at e
 ·rw[qaE (by simp;lia)] at e;simp only[qbi,qax] at e
  cases ek:fm[i - nv]? with
  | none=>rw[ek] at e;cases e
  | some k =>
   rw[ek] at e;simp only[qbs,Option.some.injEq] at e;refine⟨i - nv,k,by lia,ek,?_⟩
   cases z2:env[k]? with
   | none=>rw[z2] at e;cases e
   | some o=>rw[z2] at e;simp at e;rw[e]
def cput{nv:Nat}{fm:List Nat}{α:Type}{σ:List (Option α)}{j k:Nat}{v:α}(e1:fm[j]?=some k)(e2:σ[k]?=some (some v)):(List.replicate nv none++fm.map fun i=>(σ[i]?).getD none)[nv+j]?=some (some v):=by
 rw[qaE (by simp)];simp[e1,e2]
def sV(e:fm[j]?=some k):nv+j∈cws nv fm ws↔k∈ws:=by
 have hj:=(qaf.mp e).1;have hk:fm.getD j 0=k:=by simp[List.getD,e]
 unfold cws;rw[qaF];constructor
 ·rintro⟨a,ha,hb⟩
  have:a=j:=by lia
  subst this;rw[qbg] at ha
  have:=ha.2
  rw[hk] at this;simpa using this
 ·intro hw;exact⟨j,qbg.mpr ⟨qaK.mpr hj,by rw[hk];simpa using hw⟩,rfl⟩
def SR.comp{q:Nat}{h:MH}{L:Nat}{O:List Nat}{σ:PSt}{env:aA}(nv:Nat)(fm:List Nat)(r:SR q h L O ws σ env):SR q h L O (cws nv fm ws) (cSt nv fm σ) (cenv nv fm env):=by
 refine⟨by simp[cSt,cenv],fun i d e hi=>?_,fun i d e hi=>?_⟩
 ·obtain⟨j,k,rfl,e1,e2⟩:=cget e;obtain⟨v,e3,w⟩:=r.fz k d e2 fun z=>hi ((sV e1).mpr z);exact⟨v,cput e1 e3,w⟩
 ·obtain⟨j,k,rfl,e1,e2⟩:=cget e;obtain⟨n,kd,xs,ds,e0,e3,w⟩:=r.ow k d e2 ((sV e1).mp hi);exact⟨n,kd,xs,ds,e0,cput e1 e3,w⟩
def cGo_ok(gt:Xg ws')(t:Xt ws')(e:Xe ws')(hz:e.fz=true)(hq:q<h1.length)(gd:∀g∈it.gd,h1[g.1]?=some (.lst g.2)/\g.1≠q) :
  ∀(ds:List D) (xs:List PV) (env:aA) (σ:PSt) (h:MH) (accD:List D) (acc:List PV) (s:Pen) (r:List D) (s':Pen),(∀i∈ws',∀d,env[i]?=some (some d)->∀n,σ[i]?=some (some (.loc n))->n<h1.length)->KB q h1 h->Cx q h L B (h1.length::O) ws' σ env s->Rps q h (h1.length::O) ds xs->h[h1.length]?=some (.lst acc)->Rps q h (h1.length::O) accD acc->accD.length+ds.length<=100000 ->
  d6 gt.p t.p e.p ds env s=.ok r s'->∃h' zs,cGo it h1.length gt.m t.m e.m xs σ h=.ok () h'/\KB q h1 h'/\bE h' q s'/\h'[h1.length]?=some (.lst zs)/\Rps q h' (h1.length::O) (accD++r) zs:=by
 intro ds
 induction ds with
 | nil =>
  intro xs env σ h accD acc s r s' on kb c rx ga ra hl ep
  have:xs=[]:=rx
  subst this;cases ep;have ok:it.ok h:=fun g hg=>(kb.keep _ (aI (gd g hg).1) (gd g hg).2).trans (gd g hg).1;exact⟨h,acc,by rw[cGo,qan ok],kb,c.pen,ga,by simpa using ra⟩
 | cons d ds ih =>
  intro xs env σ h accD acc s r s' on kb c rx ga ra hl ep;obtain⟨x,xr,rfl,r1,r2⟩:=rx;have ok:it.ok h:=fun g hg=>(kb.keep _ (aI (gd g hg).1) (gd g hg).2).trans (gd g hg).1;rw[d6] at ep
  cases eg:gt.p d env with
  | none=>rw[eg] at ep;cases ep
  | some env1 =>
   rw[eg] at ep;dsimp only at ep;obtain⟨σ1,f1,sr1,k1⟩:=gt.ok c.sr r1 eg;have on1:∀i∈ws',∀d,env1[i]?=some (some d)->∀n,σ1[i]?=some (some (.loc n))->n<h1.length:=fun i hi d e n z=>on i hi d ((k1 i hi).2▸e) n ((k1 i hi).1▸z);have c1:Cx q h L B (h1.length::O) ws' σ1 env1 s:=⟨c.bd,c.sub,c.bb,c.pb,c.hL,c.pen,sr1⟩;have kt:=t.ok c1
   cases et:t.p env1 s with
   | bad=>rw[et] at ep;cases ep
   | exc _ _=>rw[et] at ep;cases ep
   | ok b s1 =>
    rw[et] at ep kt;obtain⟨b',h2,f2,k2,p2,eb⟩:=kt;subst eb;have c2:=c1.kb k2 p2;have mv2:Mv (h1.length::O) h (h1.length::O) h2:=k2.mv c.pO;have hn:h1.length<h.length:=aI ga;have ga2:h2[h1.length]?=some (.lst acc):=(k2.keep _ hn (by lia)).trans ga;rw[Pb] at ep
    cases b with
    | false =>
     rw[qay (by simp)] at ep;obtain⟨h',zs,a1,a2⟩:=ih xr env1 σ1 h2 accD acc s1 r s' on1 (kb.trans k2) c2 (r2.mv mv2) ga2 (ra.mv mv2) (by simp at hl;lia) ep;refine⟨h',zs,?_,a2⟩;rw[cGo,qan ok,f1];simp only[f2,Out.ne_ok,Out.bind_ok,qaC,if_false];exact a1
    | true =>
     rw[qan rfl] at ep;have ke:=e.ok c2
     cases ee:e.p env1 s1 with
     | bad=>rw[ee] at ep;cases ep
     | exc _ _=>rw[ee] at ep;cases ep
     | ok y s2 =>
      rw[ee] at ep ke;obtain⟨v,h3,f3,k3,p3,_,rv,_⟩:=ke;have rv:=rv hz;have c3:=c2.kb k3 p3;have mv3:Mv (h1.length::O) h2 (h1.length::O) h3:=k3.mv c.pO;have ga3:h3[h1.length]?=some (.lst acc):=(k3.keep _ (aI ga2) (by lia)).trans ga2;have mv4:Mv (h1.length::O) h3 (h1.length::O) (h3.set h1.length (.lst (acc++[v]))) :=
       ⟨fun n hn no=>qae (fun z=>no (by simp[z])),fun o ho=>.inl ho⟩
      have ra3:Rps q h3 (h1.length::O) (accD++[y]) (acc++[v]):=((ra.mv mv2).mv mv3).app ⟨v,[],rfl,rv,rfl⟩;rw[Pb] at ep
      cases er:d6 gt.p t.p e.p ds env1 s2 with
      | bad=>rw[er] at ep;cases ep
      | exc _ _=>rw[er] at ep;cases ep
      | ok r' s3 =>
       rw[er] at ep;cases ep;have k03:KB q h1 h3:=(kb.trans k2).trans k3;have c4:Cx q (h3.set h1.length (.lst (acc++[v]))) L B (h1.length::O) ws' σ1 env1 s2:=by
        refine⟨fun o ho=>by simpa using c3.bd o ho,c3.sub,c3.bb,c3.pb,by simpa using c3.hL,?_,?_⟩
        ·unfold bE;rw[qae (by lia)];exact p3
        ·refine⟨c3.sr.len,fun i d e hi=>let ⟨v,e1,q1⟩:=c3.sr.fz i d e hi;⟨v,e1,q1.mv mv4⟩,fun i d e hi=>?_⟩;obtain⟨n,kd,ys,es,b1,b2,b3,b4,b5,b6⟩:=c3.sr.ow i d e hi;have z:=on1 i hi d e n b2;exact⟨n,kd,ys,es,b1,b2,b3,b4,by rw[qae (by lia)];exact b5,b6.mv mv4⟩
       obtain⟨h',zs,a1,a2,a3,a4,a5⟩:=ih xr env1 σ1 (h3.set h1.length (.lst (acc++[v]))) (accD++[y]) (acc++[v]) s2 r' _ on1 ⟨by simpa using k03.len,fun n hn hp=>by rw[qae (by lia)];exact k03.keep n hn hp⟩ c4 (((r2.mv mv2).mv mv3).mv mv4) (qaA (aI ga3)) (ra3.mv mv4) (by simp at hl ⊢;lia) er;refine⟨h',zs,?_,a2,a3,a4,by simpa using a5⟩;rw[cGo,qan ok,f1];simp only[f2,Out.ne_ok,Out.bind_ok,if_true,f3,ga3];rw[qan (by have:=d9;have:=ra.length;simp at hl;lia)];exact a1
def bg(nv:Nat)(fm:List Nat)(i:Xi ws){ws':List Nat}(g:Xg ws')(t:Xt ws')(e:Xe ws')(hw:cws nv fm ws=ws':=by exact ys rfl)(hz:e.fz=true:=by exact ys rfl):Xe ws where
 m:=bh nv fm i.m g.m t.m e.m
 p:=fun env s=>(i.p env s).bind fun ds s1=>if ds.length<=100000 then (match d6 g.p t.p e.p ds (cenv nv fm env) s1 with
  | .ok r s2=>.ok (.lst r) s2
  | _=>.bad) else .bad
 fz:=true
 fr:=true
 ok {q h L B O σ env s} c:=by
  subst hw;refine (i.ok c).bind fun ds it h1 s1 k1 p1 ⟨rx,gd,_⟩=>?_;have c1:=c.kb k1 p1;by_cases hl:ds.length<=100000
  ·rw[qan hl]
   cases er:d6 g.p t.p e.p ds (cenv nv fm env) s1 with
   | bad=>trivial
   | exc _ _=>trivial
   | ok r s2 =>
    have mv:Mv O h1 (h1.length::O) (h1++[MO.lst []]):=⟨fun n hn _=>qal hn,fun o ho=>by
     rcases qam.mp ho with z|z
     ·exact .inr (by lia)
     ·exact .inl z⟩
    have sr:=(c1.sr.comp nv fm).mv mv (fun o ho=>qaa _ ho) fun n hn _ _=>qal hn;have c2:Cx q (h1++[MO.lst []]) L B (h1.length::O) (cws nv fm ws) (cSt nv fm σ) (cenv nv fm env) s1:=by
     refine⟨fun o ho=>?_,fun o ho=>qaa _ (c.sub o ho),c.bb,c.pb,by have:=c1.hL;simp;lia,p1.app,sr⟩;rcases qam.mp ho with z|z
     ·subst z;simp
     ·have:=c1.bd o z;simp;lia
    have hq:q<h1.length:=aI p1
    obtain⟨h',zs,a1,a2,a3,a4,a5⟩:=cGo_ok g t e hz (L:=L) (B:=B) (O:=O) hq gd ds it.xs (cenv nv fm env) (cSt nv fm σ) (h1++[MO.lst []]) [] [] s1 r s2 (fun i hi d ed n en=>by
     obtain⟨n',_,_,_,_,b2,_,_,b5,_⟩:=(c1.sr.comp nv fm).ow i d ed hi;rw[b2] at en;cases en
     exact aI b5) (KB.app _ _ _) c2 (rx.mv mv) (by simp) rfl (by simpa using hl) er
    have f:Frs q h.length O h' (.lst r) (.loc h1.length):=fun k ds e=>by
     obtain⟨rfl,rfl⟩:=fP e;exact⟨_,zs,rfl,k1.len,a4,by simpa using a5⟩
    have rr:=f.rp (k:=none) c.bd rfl;exact⟨.loc h1.length,h',by show (cGo _ _ _ _ _ _ _ _).bind _=_;rw[a1];rfl,a2,a3,.inl rr,fun _=>rr,fun _=>f⟩
  ·rw[qay hl];trivial
end
end PU
namespace PU
open PySem MM
local instance (priority:=1) cdecN4 (p:Prop):Decidable p:=Classical.propDecidable p
inductive PS where
 | nx (e:aA) (s:Pen)
 | rt (d:D) (s:Pen)
 | bk (e:aA) (s:Pen)
 | ct (e:aA) (s:Pen)
 | exc (c:Str) (e:aA) (s:Pen)
 | rse (c:Str) (e:aA) (s:Pen)
 | bad
structure Stp (q L:Nat) (h:MH) (O:List Nat) (h':MH) (O':List Nat):Prop where
 len:h.length<=h'.length
 mv:Mv O h O' h'
 sub:∀o∈O,o∈O'
 base:∀n:Nat,n<L->n≠q->h'[n]?=h[n]?
def Stp.refl(q L:Nat)(h:MH)(O:List Nat):Stp q L h O h O:=⟨qai _,⟨fun _ _ _=>rfl,fun _ h=>.inl h⟩,fun _ h=>h,fun _ _ _=>rfl⟩
def Stp.trans(a:Stp q L h O h1 O1)(b:Stp q L h1 O1 h2 O2):Stp q L h O h2 O2:=by
 refine⟨qaI a.len b.len,⟨fun n hn no=>?_,fun o ho=>?_⟩,fun o ho=>b.sub o (a.sub o ho),fun n hn hq=>(b.base n hn hq).trans (a.base n hn hq)⟩
 ·have n1:n∉O1:=fun z=>by
   rcases a.mv.new n z with q|q
   ·exact no q
   ·lia
  exact (b.mv.keep n (qat hn a.len) n1).trans (a.mv.keep n hn no)
 ·rcases b.mv.new o ho with z|z
  ·exact a.mv.new o z
  ·exact .inr (qaI a.len z)
def Dis(ws:List Nat)(σ:PSt)(env:aA):Prop:=∀i j,i∈ws->j∈ws->i≠j->∀d d' n,env[i]?=some (some d)->env[j]?=some (some d')->σ[i]?=some (some (.loc n))->σ[j]?≠some (some (.loc n))
inductive Nxt (q L:Nat) (h:MH) (B O ws:List Nat) (σ':PSt) (h':MH) (env:aA) (s:Pen):Prop
 | mk (O':List Nat) (a:Stp q L h O h' O') (c:Cx q h' L B O' ws σ' env s) (d:Dis ws σ' env):Nxt q L h B O ws σ' h' env s
inductive SNx (q L:Nat) (h:MH) (B O ws:List Nat) (f:PSt->MH->SOut) (o:SOut) (env:aA) (s:Pen):Prop
 | mk (σ':PSt) (h':MH) (e:o=f σ' h') (n:Nxt q L h B O ws σ' h' env s):SNx q L h B O ws f o env s
inductive SRt (q L:Nat) (h:MH) (B:List Nat) (fr:Bool) (o:SOut) (d:D) (s:Pen):Prop
 | mk (v:PV) (h':MH) (e:o=.rt v h') (l:h.length<=h'.length) (b:∀n:Nat,n<L->n≠q->h'[n]?=h[n]?) (p:bE h' q s) (r:Rp q h' B d v) (f:fr=true->Frs q L B h' d v):SRt q L h B fr o d s
def SOk(q L:Nat)(h:MH)(B O ws:List Nat)(fr:Bool)(o:SOut)(r:PS):Prop:=match r with
 | .nx env s=>SNx q L h B O ws .nx o env s
 | .bk env s=>SNx q L h B O ws .bk o env s
 | .ct env s=>SNx q L h B O ws .ct o env s
 | .exc c env s=>SNx q L h B O ws (.exc ⟨c,[]⟩) o env s
 | .rse c env s=>SNx q L h B O ws (.rse ⟨c,[]⟩) o env s
 | .rt d s=>SRt q L h B fr o d s
 | .bad=>True
structure Xd (ws:List Nat) where
 m:Mst
 p:aA->Pen->PS
 fr:Bool
 ok:∀{q h L B O σ env s},Cx q h L B O ws σ env s->Dis ws σ env->SOk q L h B O ws fr (m σ h) (p env s)
def Nxt.after(a:Stp q L h O h1 O1)(n:Nxt q L h1 B O1 ws σ' h' env s):Nxt q L h B O ws σ' h' env s :=
 let ⟨O',b,c,d⟩:=n;⟨O',a.trans b,c,d⟩
def SOk.after(a:Stp q L h O h1 O1)(k:SOk q L h1 B O1 ws fr o r):SOk q L h B O ws fr o r:=by
 cases r with
 | nx env s=>obtain⟨σ',h',e,n⟩:=k;exact⟨σ',h',e,n.after a⟩
 | bk env s=>obtain⟨σ',h',e,n⟩:=k;exact⟨σ',h',e,n.after a⟩
 | ct env s=>obtain⟨σ',h',e,n⟩:=k;exact⟨σ',h',e,n.after a⟩
 | exc c env s=>obtain⟨σ',h',e,n⟩:=k;exact⟨σ',h',e,n.after a⟩
 | rse c env s=>obtain⟨σ',h',e,n⟩:=k;exact⟨σ',h',e,n.after a⟩
 | rt d s=>obtain⟨v,h',e,l,b,r1,r2,r3⟩:=k;exact⟨v,h',e,qaI a.len l,fun n hn hq=>(b n hn hq).trans (a.base n hn hq),r1,r2,r3⟩
 | bad=>trivial
def SOk.fr(hf:f'=true->f=true)(k:SOk q L h B O ws f o r):SOk q L h B O ws f' o r:=by
 cases r with
 | rt d s=>obtain⟨v,h',e,l,b,p,r,z⟩:=k;exact⟨v,h',e,l,b,p,r,fun y=>z (hf y)⟩
 | nx env s=>exact k
 | bk env s=>exact k
 | ct env s=>exact k
 | exc c env s=>exact k
 | rse c env s=>exact k
 | bad=>trivial
def KB.stp(c:Cx q h L B O ws σ env s)(k:KB q h h'):Stp q L h O h' O :=
 ⟨k.len,k.mv c.pO,fun _ h=>h,fun n hn hq=>k.keep n (qat hn c.hL) hq⟩
def PR.go{α:Type}(r:PR α)(env:aA)(k:α->aA->Pen->PS):PS:=match r with
 | .ok a s=>k a env s
 | .exc c s=>.exc c env s
 | .bad=>.bad
@[simp] theorem Pg(a:α)(s:Pen)(env:aA)(k:α->aA->Pen->PS):(PR.ok a s).go env k=k a env s:=rfl
@[simp] theorem PR.go_exc(c:Str)(s:Pen)(env:aA)(k:α->aA->Pen->PS):(PR.exc c s:PR α).go env k=.exc c env s:=rfl
@[simp] theorem PR.go_bad(env:aA)(k:α->aA->Pen->PS):(PR.bad:PR α).go env k=.bad:=rfl
theorem SOk.ex{α β:Type}{q L:Nat}{h:MH}{B O ws:List Nat}{fr:Bool}{σ:PSt}{env:aA}{s:Pen}{o:Out β}{r:PR α}{R:MH->α->β->Prop}{f:β->Mst}{g:α->aA->Pen->PS}(c:Cx q h L B O ws σ env s)(d:Dis ws σ env)(k:Ok q h o r R)
  (n:∀a b h1 s1,KB q h h1->Cx q h1 L B O ws σ env s1->R h1 a b->SOk q L h1 B O ws fr (f b σ h1) (g a env s1)) :
  SOk q L h B O ws fr (o.go σ f) (r.go env g):=by
 cases r with
 | ok a s1 =>
  obtain⟨b,h1,rfl,kb,pn,rr⟩:=k;exact (n a b h1 s1 kb (c.kb kb pn) rr).after (kb.stp c)
 | exc x s1 =>
  obtain⟨h1,rfl,kb,pn⟩:=k;exact⟨σ,h1,rfl,O,kb.stp c,c.kb kb pn,d⟩
 | bad=>trivial
noncomputable section
variable {ws:List Nat}
def PS.then(r:PS)(k:aA->Pen->PS):PS:=match r with
 | .nx env s=>k env s
 | r=>r
@[simp] theorem ax:(PS.nx env s).then k=k env s:=rfl
@[simp] theorem oA:(PS.rt d s).then k=.rt d s:=rfl
@[simp] theorem then_bk:(PS.bk env s).then k=.bk env s:=rfl
@[simp] theorem then_ct:(PS.ct env s).then k=.ct env s:=rfl
@[simp] theorem xU:(PS.exc c env s).then k=.exc c env s:=rfl
@[simp] theorem yC:(PS.rse c env s).then k=.rse c env s:=rfl
@[simp] theorem xm:PS.bad.then k=.bad:=rfl
def aB(a b:Xd ws):Xd ws where
 m:=av a.m b.m
 p:=fun env s=>(a.p env s).then b.p
 fr:=a.fr && b.fr
 ok {q h L B O σ env s} c d:=by
  have k:=a.ok c d;show SOk q L h B O ws _ ((a.m σ h).then b.m) _
  cases e:a.p env s with
  | nx env1 s1 =>
   rw[e] at k;obtain⟨σ1,h1,e1,O1,st,c1,d1⟩:=k;rw[e1];exact ((b.ok c1 d1).fr (by simp)).after st
  | rt x s1=>rw[e] at k;obtain⟨v,h',e1,r1,r2,r3,r4,r5⟩:=k;rw[e1];exact SOk.fr (f:=a.fr) (by simp;exact fun h _=>h) (show SOk q L h B O ws a.fr (.rt v h') (.rt x s1) from⟨v,h',rfl,r1,r2,r3,r4,r5⟩)
  | bk env1 s1=>rw[e] at k;obtain⟨σ',h',e1,r⟩:=k;rw[e1];exact⟨σ',h',rfl,r⟩
  | ct env1 s1=>rw[e] at k;obtain⟨σ',h',e1,r⟩:=k;rw[e1];exact⟨σ',h',rfl,r⟩
  | exc x env1 s1=>rw[e] at k;obtain⟨σ',h',e1,r⟩:=k;rw[e1];exact⟨σ',h',rfl,r⟩
  | rse x env1 s1=>rw[e] at k;obtain⟨σ',h',e1,r⟩:=k;rw[e1];exact⟨σ',h',rfl,r⟩
  | bad=>trivial
def xSkip:Xd ws where
 m:=mSkip
 p:=.nx
 fr:=true
 ok {q h L B O σ env s} c d:=⟨σ,h,rfl,O,Stp.refl _ _ _ _,c,d⟩
def ret_go{m:Mx PV}{σ:PSt}{h:MH}:aL m σ h=(m σ h).go σ fun v _ h'=>.rt v h':=by unfold aL;cases m σ h <;> rfl
def aT(e:Xe ws):Xd ws where
 m:=aL e.m
 p:=fun env s=>(e.p env s).go env fun d _ s=>.rt d s
 fr:=e.fr
 ok {q h L B O σ env s} c d:=by
  rw[ret_go];refine SOk.ex (f:=fun v _ h'=>.rt v h') (g:=fun d _ s=>.rt d s) c d (e.ok c) fun x v h1 s1 kb c1 ⟨w,z,f⟩=>?_;refine⟨v,h1,rfl,qai _,fun _ _ _=>rfl,c1.pen,w.base c1.sub c1.bb,fun y=>?_⟩;intro k ds ed;obtain⟨n,xs,a1,a2,a3,a4⟩:=f y k ds ed
  have:=c.hL
  exact⟨n,xs,a1,by lia,a3,a4.mv ⟨fun _ _ _=>rfl,fun o ho=>.inl (by
   rcases qam.mp ho with z|z
   ·subst z;simp
   ·exact qaa _ (c.sub o z))⟩⟩
def pM(i:Nat)(hi:ws.contains i=true:=by exact ys rfl):Xd ws where
 m:=aL (ae i)
 p:=fun env s=>match env[i]? with
  | some (some d)=>.rt d s
  | _=>.bad
 fr:=true
 ok {q h L B O σ env s} c d:=by
  show SOk q L h B O ws _ _ (match env[i]? with | some (some d)=>PS.rt d s | _=>.bad)
  cases e:env[i]? with
  | none=>trivial
  | some o =>
   cases o with
   | none=>trivial
   | some x =>
    obtain⟨n,kd,xs,ds,e1,e2,a,b,g,r⟩:=c.sr.ow i x e (by simpa using hi);subst e1
    have m1:Mv O h (n::B) h:=⟨fun _ _ _=>rfl,fun o ho=>.inl (by
     rcases qam.mp ho with z|z
     ·subst z;exact a
     ·exact c.sub o z)⟩
    have f:Frs q L B h (dl kd ds) (.loc n):=fun k' ds' e=>by
     have:k'=kd/\ds'=ds:=by cases kd <;> cases k' <;> cases e <;> exact⟨rfl,rfl⟩
     obtain⟨rfl,rfl⟩:=this;exact⟨n,xs,rfl,b,g,r.mv m1⟩
    refine⟨.loc n,h,by simp[aL,ae,e2],qai _,fun _ _ _=>rfl,c.pen,f.rp c.bb rfl,fun _=>f⟩
def xIf(t:Xt ws)(a b:Xd ws):Xd ws where
 m:=mIf t.m a.m b.m
 p:=fun env s=>(t.p env s).go env fun x env s=>if x=true then a.p env s else b.p env s
 fr:=a.fr && b.fr
 ok {q h L B O σ env s} c d:=SOk.ex (f:=fun x=>if x=true then a.m else b.m) (g:=fun x env s=>if x=true then a.p env s else b.p env s) c d (t.ok c) fun x v h1 s1 kb c1 e=>by
  subst e
  cases x with
  | true=>exact (a.ok c1 d).fr (by simp;exact fun h _=>h)
  | false=>exact (b.ok c1 d).fr (by simp)
def Dis.keep(d:Dis ws σ env)(k:∀i∈ws,σ'[i]?=σ[i]?/\env'[i]?=env[i]?):Dis ws σ' env':=fun i j hi hj ne x y n a b e=>by
 rw[(k i hi).1] at e;rw[(k i hi).2] at a;rw[(k j hj).2] at b;rw[(k j hj).1];exact d i j hi hj ne x y n a b e
def aS(i:Nat)(e:Xe ws)(hi:ws.contains i=false:=by exact ys rfl)(hz:e.fz=true:=by exact ys rfl):Xd ws where
 m:=aG i e.m
 p:=fun env s=>(e.p env s).go env fun d env s=>.nx (env.set i (some d)) s
 fr:=true
 ok {q h L B O σ env s} c d:=by
  refine SOk.ex (f:=fun v σ h=>.nx (σ.set i (some v)) h) (g:=fun d env s=>.nx (env.set i (some d)) s) c d (e.ok c) fun x v h1 s1 kb c1 ⟨_,z,_⟩=>?_;obtain⟨a,b⟩:=c1.sr.set (i:=i) (fun z=>by simp[z] at hi) (z hz);exact⟨_,h1,rfl,O,Stp.refl _ _ _ _,⟨c1.bd,c1.sub,c1.bb,c1.pb,c1.hL,c1.pen,a⟩,d.keep b⟩
def D.mine:D->Bool
 | .lst _=>true
 | .dic fz _ _=>!fz
 | _=>false
def d7(i:Nat)(e:Xe ws)(hi:ws.contains i=true:=by exact ys rfl)(hz:e.fr=true:=by exact ys rfl):Xd ws where
 m:=aG i e.m
 p:=fun env s=>(e.p env s).go env fun d env s=>if d.mine=true then .nx (env.set i (some d)) s else .bad
 fr:=true
 ok {q h L B O σ env s} c d:=by
  show SOk q L h B O ws _ _ _;have k:=e.ok c;show SOk q L h B O ws _ ((e.m σ h).go σ fun v σ h=>.nx (σ.set i (some v)) h) _
  cases ee:e.p env s with
  | bad=>trivial
  | exc x s1 =>
   rw[ee] at k;obtain⟨h1,e1,kb,pn⟩:=k;rw[e1];exact⟨σ,h1,rfl,O,kb.stp c,c.kb kb pn,d⟩
  | ok x s1 =>
   rw[ee] at k;obtain⟨v,h1,e1,kb,pn,_,_,f⟩:=k;rw[e1];by_cases hm:x.mine=true
   ·obtain⟨kd,ds,rfl⟩:∃kd ds,x=dl kd ds:=by
     cases x with
     | lst ds=>exact⟨none,ds,rfl⟩
     | dic fz ks ds =>
      cases fz with
      | false=>exact⟨some ks,ds,rfl⟩
      | true=>cases hm
     | _=>cases hm
    obtain⟨n,xs,rfl,hn,g,r⟩:=f hz kd ds rfl;show SOk q L h B O ws _ _ (if (dl kd ds).mine=true then _ else _);rw[qan hm];have c1:=c.kb kb pn;have hi':i∈ws:=by simpa using hi
    have mv:Mv O h (n::O) h1:=⟨fun m hm no=>kb.keep m hm fun z=>no (z▸c.pO),fun o ho=>by
     rcases qam.mp ho with z|z
     ·exact .inr (by lia)
     ·exact .inl z⟩
    have hnO:n∉O:=fun z=>by have:=c.bd n z;lia
    refine⟨σ.set i (some (.loc n)),h1,rfl,n::O,⟨kb.len,mv,fun o ho=>qaa _ ho,fun m hm hq=>kb.keep m (qat hm c.hL) hq⟩,⟨fun o ho=>?_,fun o ho=>qaa _ (c.sub o ho),c.bb,c.pb,c1.hL,pn,?_⟩,?_⟩
    ·rcases qam.mp ho with z|z
     ·subst z;exact aI g
     ·exact c1.bd o z
    ·have sr:=c.sr.mv mv (fun o ho=>qaa _ ho) fun m hm hl _=>kb.keep m hm (by have:=c.pL;lia);refine⟨by simp[sr.len],fun j x ej hj=>?_,fun j x ej hj=>?_⟩
     ·have ne:i≠j:=fun z=>hj (z▸hi');rw[qae ne] at ej;rw[qae ne];exact sr.fz j x ej hj
     ·by_cases z:i=j
      ·subst z;have hl:i<env.length:=by have:=(qaf.mp ej).1;simpa using this
       rw[qaA hl] at ej;cases ej;exact⟨n,kd,xs,ds,rfl,qaA (by rw[sr.len];exact hl),by simp,by have:=c.hL;lia,g,r⟩
      ·rw[qae z] at ej;rw[qae z];exact sr.ow j x ej hj
    ·have old:∀j d,j∈ws->i≠j->(env.set i (some (dl kd ds)))[j]?=some (some d)->(σ.set i (some (.loc n)))[j]?≠some (some (.loc n)):=fun j d hj ne ej z=>by
      rw[qae ne] at ej z;obtain⟨n',_,_,_,_,b2,b3,_⟩:=c.sr.ow j d ej hj;rw[z] at b2;cases b2;exact hnO b3
     intro a b ha hb ne x y m ea eb es;by_cases z1:i=a
     ·subst z1;have hl:i<σ.length:=by have:=(qaf.mp es).1;simpa using this
      rw[qaA hl] at es;cases es;exact old b y hb ne eb
     ·by_cases z2:i=b
      ·subst z2;intro z;have hl:i<σ.length:=by have:=(qaf.mp z).1;simpa using this
       rw[qaA hl] at z;cases z;exact old a x ha z1 ea es
      ·rw[qae z1] at ea es;rw[qae z2] at eb ⊢;exact d a b ha hb ne x y m ea eb es
   ·show SOk q L h B O ws _ _ (if x.mine=true then _ else _);rw[qay hm];trivial
end
end PU
namespace PU
open PySem MM
open L2 (ixN)
local instance (priority:=1) cdecN5 (p:Prop):Decidable p:=Classical.propDecidable p
noncomputable section
variable {ws:List Nat}
def PS.turn(r:PS)(k:aA->Pen->PS):PS:=match r with
 | .nx e s=>k e s
 | .ct e s=>k e s
 | .bk e s=>.nx e s
 | r=>r
@[simp] theorem kH:(PS.nx e s).turn k=k e s:=rfl
@[simp] theorem turn_ct:(PS.ct e s).turn k=k e s:=rfl
@[simp] theorem turn_bk:(PS.bk e s).turn k=.nx e s:=rfl
@[simp] theorem turn_rt:(PS.rt d s).turn k=.rt d s:=rfl
@[simp] theorem xb:(PS.exc c e s).turn k=.exc c e s:=rfl
@[simp] theorem xp:(PS.rse c e s).turn k=.rse c e s:=rfl
@[simp] theorem turn_bad:PS.bad.turn k=.bad:=rfl
def pGo(g:D->aA->Option aA)(b:aA->Pen->PS):List D->aA->Pen->PS
 | [],env,s=>.nx env s
 | d::ds,env,s=>match g d env with
  | none=>.bad
  | some env1=>(b env1 s).turn (pGo g b ds)
def mGo_ok(g:Xg ws)(b:Xd ws):∀(ds:List D) (xs:List PV) (env:aA) (σ:PSt) (h:MH) (O:List Nat) (s:Pen),Cx q h L B O ws σ env s->Dis ws σ env->Rps q h O ds xs->(∀y∈it.gd,h[y.1]?=some (.lst y.2)/\y.1∉O) ->
  SOk q L h B O ws b.fr (mGo it g.m b.m xs σ h) (pGo g.p b.p ds env s):=by
 intro ds
 induction ds with
 | nil =>
  intro xs env σ h O s c d r gd
  have:xs=[]:=r
  subst this;have ok:it.ok h:=fun y hy=>(gd y hy).1;refine⟨σ,h,by rw[mGo];dsimp only;rw[qan ok],O,Stp.refl _ _ _ _,c,d⟩
 | cons x ds ih =>
  intro xs env σ h O s c d r gd;obtain⟨v,xr,rfl,r1,r2⟩:=r;have ok:it.ok h:=fun y hy=>(gd y hy).1;rw[pGo]
  cases eg:g.p x env with
  | none=>trivial
  | some env1 =>
   obtain⟨σ1,f1,sr,k⟩:=g.ok c.sr r1 eg;have c1:Cx q h L B O ws σ1 env1 s:=⟨c.bd,c.sub,c.bb,c.pb,c.hL,c.pen,sr⟩;have kb:=b.ok c1 (d.keep k)
   have em:mGo it g.m b.m (v::xr) σ h=(match b.m σ1 h with
    | .nx σ2 h2=>mGo it g.m b.m xr σ2 h2
    | .ct σ2 h2=>mGo it g.m b.m xr σ2 h2
    | .bk σ2 h2=>.nx σ2 h2
    | .rt v h2=>.rt v h2
    | .exc e σ2 h2=>.exc e σ2 h2
    | .rse e σ2 h2=>.rse e σ2 h2
    | .bad=>.bad):=by rw[mGo];dsimp only;(rw[qan ok,f1]) <;> rfl
   rw[em];have gd':∀{h2:MH} {O2:List Nat},Stp q L h O h2 O2->∀y∈it.gd,h2[y.1]?=some (.lst y.2)/\y.1∉O2:=fun st y hy=>by
    obtain⟨a,b⟩:=st.mv.get (gd y hy).1 (gd y hy).2;exact⟨b,a⟩
   dsimp only
   cases eb:b.p env1 s with
   | bad=>trivial
   | nx e2 s2 =>
    rw[eb] at kb;obtain⟨σ2,h2,e1,O2,st,c2,d2⟩:=kb;rw[e1];exact (ih xr e2 σ2 h2 O2 s2 c2 d2 (r2.mv st.mv) (gd' st)).after st
   | ct e2 s2 =>
    rw[eb] at kb;obtain⟨σ2,h2,e1,O2,st,c2,d2⟩:=kb;rw[e1];exact (ih xr e2 σ2 h2 O2 s2 c2 d2 (r2.mv st.mv) (gd' st)).after st
   | bk e2 s2=>rw[eb] at kb;obtain⟨σ2,h2,e1,r⟩:=kb;rw[e1];exact⟨σ2,h2,rfl,r⟩
   | exc x e2 s2=>rw[eb] at kb;obtain⟨σ2,h2,e1,r⟩:=kb;rw[e1];exact⟨σ2,h2,rfl,r⟩
   | rse x e2 s2=>rw[eb] at kb;obtain⟨σ2,h2,e1,r⟩:=kb;rw[e1];exact⟨σ2,h2,rfl,r⟩
   | rt x s2=>rw[eb] at kb;obtain⟨v,h2,e1,r1,r2,r3,r4,r5⟩:=kb;rw[e1];exact⟨v,h2,rfl,r1,r2,r3,r4,r5⟩
def dg(i:Xi ws)(g:Xg ws)(b:Xd ws)(hz:i.fz=true:=by exact ys rfl):Xd ws where
 m:=cR i.m g.m b.m
 p:=fun env s=>(i.p env s).go env fun ds env s=>pGo g.p b.p ds env s
 fr:=b.fr
 ok {q h L B O σ env s} c d:=SOk.ex (f:=fun it=>mGo it g.m b.m it.xs) (g:=fun ds env s=>pGo g.p b.p ds env s) c d (i.ok c) fun ds it h1 s1 kb c1 r =>
  mGo_ok g b ds it.xs env σ h1 O s1 c1 d r.1 fun y hy=>⟨(r.2.1 y hy).1,r.2.2 hz y hy⟩
def df(t:aA->Pen->PR Bool)(b:aA->Pen->PS):Nat->aA->Pen->PS
 | 0,_,_=>.bad
 | n+1,env,s=>(t env s).go env fun x env s=>if x=true then (b env s).turn (df t b n) else .nx env s
def nR(t:Xt ws)(b:Xd ws):∀(n:Nat) (env:aA) (σ:PSt) (h:MH) (O:List Nat) (s:Pen),Cx q h L B O ws σ env s->Dis ws σ env->SOk q L h B O ws b.fr (bP t.m b.m n σ h) (df t.p b.p n env s)
 | 0,env,σ,h,O,s,c,d=>trivial
 | n+1,env,σ,h,O,s,c,d=>by
  refine SOk.ex (f:=fun x=>if x=true then (fun σ h=>match b.m σ h with
   | .nx σ2 h2=>bP t.m b.m n σ2 h2
   | .ct σ2 h2=>bP t.m b.m n σ2 h2
   | .bk σ2 h2=>.nx σ2 h2
   | .rt v h2=>.rt v h2
   | .exc e σ2 h2=>.exc e σ2 h2
   | .rse e σ2 h2=>.rse e σ2 h2
   | .bad=>.bad) else mSkip) (g:=fun x env s=>if x=true then (b.p env s).turn (df t.p b.p n) else .nx env s) c d (t.ok c) fun x v h1 s1 kb c1 e=>?_
  subst e
  cases x with
  | false=>exact⟨σ,h1,rfl,O,Stp.refl _ _ _ _,c1,d⟩
  | true =>
   have k:=b.ok c1 d;rw[qan rfl,qan rfl]
   cases eb:b.p env s1 with
   | bad=>trivial
   | nx e2 s2 =>
    rw[eb] at k;obtain⟨σ2,h2,e1,O2,st,c2,d2⟩:=k;rw[e1];exact (nR t b n e2 σ2 h2 O2 s2 c2 d2).after st
   | ct e2 s2 =>
    rw[eb] at k;obtain⟨σ2,h2,e1,O2,st,c2,d2⟩:=k;rw[e1];exact (nR t b n e2 σ2 h2 O2 s2 c2 d2).after st
   | bk e2 s2=>rw[eb] at k;obtain⟨σ2,h2,e1,r⟩:=k;rw[e1];exact⟨σ2,h2,rfl,r⟩
   | exc x e2 s2=>rw[eb] at k;obtain⟨σ2,h2,e1,r⟩:=k;rw[e1];exact⟨σ2,h2,rfl,r⟩
   | rse x e2 s2=>rw[eb] at k;obtain⟨σ2,h2,e1,r⟩:=k;rw[e1];exact⟨σ2,h2,rfl,r⟩
   | rt x s2=>rw[eb] at k;obtain⟨v,h2,e1,r1,r2,r3,r4,r5⟩:=k;rw[e1];exact⟨v,h2,rfl,r1,r2,r3,r4,r5⟩
def xWh(N:Nat)(t:Xt ws)(b:Xd ws)(hm:∀{σ h n},bP t.m b.m n σ h≠.bad->mWh t.m b.m σ h=bP t.m b.m n σ h):Xd ws where
 m:=mWh t.m b.m
 p:=df t.p b.p N
 fr:=b.fr
 ok {q h L B O σ env s} c d:=by
  have k:=nR t b N env σ h O s c d;by_cases z:bP t.m b.m N σ h=.bad
  ·rw[z] at k
   cases e:df t.p b.p N env s with
   | bad=>trivial
   | nx e2 s2=>rw[e] at k;obtain⟨_,_,e1,_⟩:=k;cases e1
   | ct e2 s2=>rw[e] at k;obtain⟨_,_,e1,_⟩:=k;cases e1
   | bk e2 s2=>rw[e] at k;obtain⟨_,_,e1,_⟩:=k;cases e1
   | exc x e2 s2=>rw[e] at k;obtain⟨_,_,e1,_⟩:=k;cases e1
   | rse x e2 s2=>rw[e] at k;obtain⟨_,_,e1,_⟩:=k;cases e1
   | rt x s2=>rw[e] at k;obtain⟨_,_,e1,_⟩:=k;cases e1
  ·rw[hm z];exact k
structure OpM where
 m:Nat->List PV->MH->Out PV
 p:List D->List D->Option (D × List D)
 ok:∀{q:Nat} {h:MH} {O:List Nat} {n:Nat} {xs:List PV} {ds as:List D} {vs:List PV} {d:D} {ds':List D},h[n]?=some (.lst xs)->Rps q h O ds xs->Rps q h O as vs->p ds as=some (d,ds')->∃v xs',m n vs h=.ok v (h.set n (.lst xs'))/\Rps q h O ds' xs'/\Rp q h O d v
def qh{q h L B O σ env s n xs' ds' i d0 kd}(c:Cx q h L B O ws σ env s)(d:Dis ws σ env)(hi:i∈ws)(e:env[i]?=some (some d0))(es:σ[i]?=some (some (.loc n)))(r:Rps q h O ds' xs') :
  Nxt q L h B O ws σ (h.set n (mo kd xs')) (env.set i (some (dl kd ds'))) s:=by
 obtain⟨n',k0,xs,ds0,e0,e2,a,b,g,r0⟩:=c.sr.ow i _ e hi;rw[es] at e2;cases e2;have mv:Mv O h O (h.set n (mo kd xs')):=⟨fun m hm no=>qae (fun (z:n=m)=>no (z▸a)),fun o ho=>.inl ho⟩;have hp:=c.pL;have il:i<env.length:=(qaf.mp e).1;refine⟨O,⟨by simp,mv,fun _ h=>h,fun m hm _=>qae (by lia)⟩,⟨fun o ho=>by simpa using c.bd o ho,c.sub,c.bb,c.pb,by simpa using c.hL,?_,⟨by simp[c.sr.len],fun j x ej hj=>?_,fun j x ej hj=>?_⟩⟩,?_⟩
 ·unfold bE;rw[qae (by lia)];exact c.pen
 ·have ne:i≠j:=fun z=>hj (z▸hi);rw[qae ne] at ej;obtain⟨v,e1,w⟩:=c.sr.fz j x ej hj;exact⟨v,e1,w.mv mv⟩
 ·by_cases z:i=j
  ·subst z;rw[qaA il] at ej;cases ej;exact⟨n,kd,xs',ds',rfl,es,a,b,qaA (aI g),r.mv mv⟩
  ·rw[qae z] at ej;obtain⟨m,k1,ys,es',e1,e3,b3,b4,b5,b6⟩:=c.sr.ow j x ej hj
   have:n≠m:=fun y=>d i j hi hj z _ _ n e ej es (y▸e3)
   exact⟨m,k1,ys,es',e1,e3,b3,b4,by rw[qae this];exact b5,b6.mv mv⟩
 ·intro j k hj hk ne x y m ej ek e1;have up:∀j x,(env.set i (some (dl kd ds')))[j]?=some (some x)->∃x',env[j]?=some (some x'):=fun j x ej=>by
   by_cases z:i=j
   ·subst z;exact⟨_,e⟩
   ·rw[qae z] at ej;exact⟨x,ej⟩
  obtain⟨x',ej'⟩:=up j x ej;obtain⟨y',ek'⟩:=up k y ek;exact d j k hj hk ne x' y' m ej' ek' e1
def kw{q h L B O σ env s n xs' ds' i ds}(c:Cx q h L B O ws σ env s)(d:Dis ws σ env)(hi:i∈ws)(e:env[i]?=some (some (D.lst ds)))(es:σ[i]?=some (some (.loc n)))(r:Rps q h O ds' xs') :
  Nxt q L h B O ws σ (h.set n (.lst xs')) (env.set i (some (.lst ds'))) s:=qh (kd:=none) c d hi e es r
def mt_ok(o:OpM)(i:Nat)(a:Xs ws)(hi:i∈ws)(hz:a.fz=true){q h L B O σ env s}(c:Cx q h L B O ws σ env s)(d:Dis ws σ env)
  (ea:a.p env s=.ok as s1) (ei:env[i]?=some (some (.lst ds))) (eo:o.p ds as=some (r,ds')):∃v h1 n xs',KB q h h1/\Cx q h1 L B O ws σ env s1/\σ[i]?=some (some (.loc n))/\mMt o.m (ae i) a.m σ h=.ok v (h1.set n (.lst xs'))/\Rps q h1 O ds' xs'/\Rp q h1 O r v:=by
 obtain⟨n,kd,xs,ds0,e0,e2,b1,b2,g,r0⟩:=c.sr.ow i _ ei hi;obtain⟨rfl,rfl⟩:=fP e0;replace g:h[n]?=some (.lst xs):=g;have ka:=a.ok c;rw[ea] at ka;obtain⟨vs,h1,e3,kb,pn,_,rv⟩:=ka;have c1:=c.kb kb pn;have g1:h1[n]?=some (.lst xs):=(kb.keep n (aI g) (by have:=c.pL;lia)).trans g;obtain⟨v,xs',e4,r1,r2⟩:=o.ok g1 (r0.mv (kb.mv c.pO)) (rv hz) eo;refine⟨v,h1,n,xs',kb,c1,e2,?_,r1,r2⟩;have em:ae i σ h=.ok (.loc n) h:=by simp[ae,e2]
 show (ae i σ h).bind _=_;rw[em];simp only[Out.bind_ok,g,e3,e4,Out.ne_ok]
def pMt(o:OpM)(i:Nat)(a:aA->Pen->PR (List D))(env:aA)(s:Pen)(k:D->aA->Pen->PS):PS:=match a env s with
 | .ok as s1=>(match env[i]? with
  | some (some (.lst ds))=>(match o.p ds as with
   | some (r,ds')=>k r (env.set i (some (.lst ds'))) s1
   | none=>.bad)
  | _=>.bad)
 | _=>.bad
def qJ(e1:a env s=.ok as s1)(e2:env[i]?=some (some (.lst ds)))(e3:o.p ds as=some (r,ds')):pMt o i a env s k=k r (env.set i (some (.lst ds'))) s1:=by
 simp only[pMt,e1,e2,e3]
def uj:pMt o i a env s k=.bad\/∃as s1 ds r ds',a env s=.ok as s1/\env[i]?=some (some (.lst ds))/\o.p ds as=some (r,ds')/\pMt o i a env s k=k r (env.set i (some (.lst ds'))) s1:=by
 cases e1:a env s with
 | bad=>left;simp only[pMt,e1]
 | exc _ _=>left;simp only[pMt,e1]
 | ok as s1 =>
  cases e2:env[i]? with
  | none=>left;simp only[pMt,e1,e2]
  | some x =>
   cases x with
   | none=>left;simp only[pMt,e1,e2]
   | some d =>
    cases d with
    | lst ds =>
     cases e3:o.p ds as with
     | none=>left;simp only[pMt,e1,e2,e3]
     | some y=>exact .inr ⟨as,s1,ds,y.1,y.2,rfl,rfl,e3,qJ e1 e2 e3⟩
    | _=>left;simp only[pMt,e1,e2]
def xMt(o:OpM)(i:Nat)(a:Xs ws)(hi:ws.contains i=true:=by exact ys rfl)(hz:a.fz=true:=by exact ys rfl):Xd ws where
 m:=dE (mMt o.m (ae i) a.m)
 p:=fun env s=>pMt o i a.p env s fun _=>.nx
 fr:=true
 ok {q h L B O σ env s} c d:=by
  rcases uj (o:=o) (i:=i) (a:=a.p) (env:=env) (s:=s) (k:=fun _=>.nx) with z|⟨as,s1,ds,r,ds',e1,e2,e3,z⟩
  ·rw[z];trivial
  ·rw[z];have hi':i∈ws:=by simpa using hi
   obtain⟨v,h1,n,xs',kb,c1,es,em,r1,r2⟩:=mt_ok o i a hi' hz c d e1 e2 e3;refine⟨σ,h1.set n (.lst xs'),?_,(kw c1 d hi' e2 es r1).after (kb.stp c)⟩;unfold dE mEx;rw[em];rfl
def xMtS(j:Nat)(o:OpM)(i:Nat)(a:Xs ws)(hi:ws.contains i=true:=by exact ys rfl)(hj:ws.contains j=false:=by exact ys rfl)(hz:a.fz=true:=by exact ys rfl):Xd ws where
 m:=aG j (mMt o.m (ae i) a.m)
 p:=fun env s=>pMt o i a.p env s fun r env s=>.nx (env.set j (some r)) s
 fr:=true
 ok {q h L B O σ env s} c d:=by
  rcases uj (o:=o) (i:=i) (a:=a.p) (env:=env) (s:=s) (k:=fun r env s=>.nx (env.set j (some r)) s) with z|⟨as,s1,ds,r,ds',e1,e2,e3,z⟩
  ·rw[z];trivial
  ·rw[z];have hi':i∈ws:=by simpa using hi
   obtain⟨v,h1,n,xs',kb,c1,es,em,r1,r2⟩:=mt_ok o i a hi' hz c d e1 e2 e3;obtain⟨O',st,c2,d2⟩:=(kw c1 d hi' e2 es r1).after (kb.stp c);obtain⟨O'',st',c2',d2'⟩:=kw c1 d hi' e2 es r1;obtain⟨A,b⟩:=c2'.sr.set (i:=j) (fun z=>by simp[z] at hj) (r2.mv st'.mv);refine⟨σ.set j (some v),h1.set n (.lst xs'),?_,O'',(kb.stp c).trans st',⟨c2'.bd,c2'.sub,c2'.bb,c2'.pb,c2'.hL,c2'.pen,A⟩,d2'.keep b⟩;unfold aG mEx;rw[em]
def d8(i:Nat)(e ix:aA->Pen->PR D)(env:aA)(s:Pen):PS:=match e env s with
 | .ok v s1=>(match ix env s1 with
  | .ok (.int j) s2=>(match env[i]? with
   | some (some (.lst ds))=>(match ixN ds.length j with
    | some n=>.nx (env.set i (some (.lst (ds.set n v)))) s2
    | none=>.bad)
   | _=>.bad)
  | _=>.bad)
 | _=>.bad
def iB(e1:e env s=.ok v s1)(e2:ix env s1=.ok (.int j) s2)(e3:env[i]?=some (some (.lst ds)))(e4:ixN ds.length j=some n):d8 i e ix env s=.nx (env.set i (some (.lst (ds.set n v)))) s2:=by
 simp only[d8,e1,e2,e3,e4]
def xG:d8 i e ix env s=.bad\/∃v s1 j s2 ds n,e env s=.ok v s1/\ix env s1=.ok (.int j) s2/\env[i]?=some (some (.lst ds))/\ixN ds.length j=some n/\d8 i e ix env s=.nx (env.set i (some (.lst (ds.set n v)))) s2:=by
 cases e1:e env s with
 | bad=>left;simp only[d8,e1]
 | exc _ _=>left;simp only[d8,e1]
 | ok v s1 =>
  cases e2:ix env s1 with
  | bad=>left;simp only[d8,e1,e2]
  | exc _ _=>left;simp only[d8,e1,e2]
  | ok k s2 =>
   cases k with
   | int j =>
    cases e3:env[i]? with
    | none=>left;simp only[d8,e1,e2,e3]
    | some x =>
     cases x with
     | none=>left;simp only[d8,e1,e2,e3]
     | some d =>
      cases d with
      | lst ds =>
       cases e4:ixN ds.length j with
       | none=>left;simp only[d8,e1,e2,e3,e4]
       | some n=>exact .inr ⟨v,s1,j,s2,ds,n,rfl,e2,rfl,e4,iB e1 e2 e3 e4⟩
      | _=>left;simp only[d8,e1,e2,e3]
   | _=>left;simp only[d8,e1,e2]
def Vw.int(w:Vw q h L O (.int b) v):v=.int b:=by
 rcases w with r|⟨n,kd,xs,ds,e,_⟩
 ·exact r
 ·cases kd <;> cases e
def gA(i:Nat)(e ix:Xe ws)(hi:ws.contains i=true:=by exact ys rfl)(hz:e.fz=true:=by exact ys rfl):Xd ws where
 m:=gE e.m (gSb (ae i) ix.m)
 p:=d8 i e.p ix.p
 fr:=true
 ok {q h L B O σ env s} c d:=by
  rcases xG (i:=i) (e:=e.p) (ix:=ix.p) (env:=env) (s:=s) with z|⟨v,s1,j,s2,ds,n,e1,e2,e3,e4,z⟩
  ·rw[z];trivial
  ·rw[z];have hi':i∈ws:=by simpa using hi
   have ke:=e.ok c;rw[e1] at ke;obtain⟨x,h1,f1,kb1,pn1,_,rx,_⟩:=ke;have c1:=c.kb kb1 pn1;have ki:=ix.ok c1;rw[e2] at ki;obtain⟨y,h2,f2,kb2,pn2,w,_,_⟩:=ki;have c2:=c1.kb kb2 pn2;obtain⟨nl,kd,xs,ds0,e0,es,b1,b2,g,r0⟩:=c2.sr.ow i _ e3 hi';obtain⟨rfl,rfl⟩:=fP e0;replace g:h2[nl]?=some (.lst xs):=g;have hy:=w.int;subst hy;have em:ae i σ h1=.ok (.loc nl) h1:=by simp[ae,es]
   have nx:=kw c2 d hi' e3 es (xs':=xs.set n x) (ds':=ds.set n v) (r0.set n ((rx hz).mv (kb2.mv c.pO)));refine⟨σ,h2.set nl (.lst (xs.set n x)),?_,nx.after ((kb1.trans kb2).stp c)⟩;have e5:lJ (.loc nl) (.int j) x h2=some (h2.set nl (.lst (xs.set n x))):=by
    simp only[lJ,g];rw[r0.length,e4];rfl
   have e6:gSb (ae i) ix.m x σ h1=.nx σ (h2.set nl (.lst (xs.set n x))):=by
    simp only[gSb,mEx,em,f2,e5]
   unfold gE mEx;rw[f1];dsimp only;rw[e6]
def PS.fin(r:PS):PR D:=match r with
 | .nx _ s=>.ok .non s
 | .rt d s=>.ok d s
 | .exc c _ s=>.exc c s
 | .rse c _ s=>.exc c s
 | _=>.bad
@[simp] theorem fin_nx:(PS.nx e s).fin=.ok .non s:=rfl
@[simp] theorem bK:(PS.rt d s).fin=.ok d s:=rfl
@[simp] theorem fin_exc:(PS.exc c e s).fin=.exc c s:=rfl
@[simp] theorem fin_rse:(PS.rse c e s).fin=.exc c s:=rfl
@[simp] theorem fin_bad:PS.bad.fin=.bad:=rfl
def dSt(n:Nat)(ds:List D):aA:=ds.map some++List.replicate (n - ds.length) none
def bR(n np:Nat)(b:Xd ws)(hw:ws.all (fun i=>decide (np<=i))=true:=by exact ys rfl):Fn where
 m:=ba n np b.m
 p:=fun ds s=>if ds.length=np then (b.p (dSt n ds) s).fin else .bad
 fr:=b.fr
 ok {q h O vs ds s} bd hq pn r:=by
  by_cases hl:ds.length=np
  ·rw[qan hl];have hv:vs.length=np:=by rw[r.length];exact hl
   have low:∀i d,(dSt n ds)[i]?=some (some d)->i<np/\ds[i]?=some d:=fun i d e=>by
    by_cases z:i<ds.length
    ·refine⟨by lia,?_⟩;unfold dSt at e;rw[qal (by simpa using z)] at e;simp at e;simpa using e
    ·unfold dSt at e;rw[qaE (by simpa using z)] at e;by_cases y:i - (ds.map some).length<n - ds.length
     ·simp[qaW,y] at e
     ·simp at y e;exact absurd e (by simp[qaW])
   have nw:∀i d,(dSt n ds)[i]?=some (some d)->i∉ws:=fun i d e hi=>by
    have:=(low i d e).1
    rw[List.all_eq_true] at hw
    have:=hw i hi
    simp at this;lia
   have c:Cx q h h.length O O ws (b9 n vs) (dSt n ds) s:=by
    refine⟨bd,fun _ h=>h,bd,hq,qai _,pn,⟨by simp[b9,dSt,r.length],fun i d e _=>?_,fun i d e hi=>absurd hi (nw i d e)⟩⟩;obtain⟨v,ev,rv⟩:=r.get (low i d e).2;refine⟨v,?_,rv⟩;unfold b9;rw[qal (by simpa using (qaf.mp ev).1)];simp[ev]
   have k:=b.ok c fun i j hi _ _ d _ _ e=>absurd hi (nw i d e)
   have em:ba n np b.m vs h=(match b.m (b9 n vs) h with
    | .nx _ h'=>.ok .non h'
    | .rt v h'=>.ok v h'
    | .exc x _ h'=>.exc x h'
    | .rse x _ h'=>.exc x h'
    | _=>.bad):=by unfold ba;(rw[qan hv]) <;> (cases b.m (b9 n vs) h <;> rfl)
   rw[em];have kb:∀{h' O'},Stp q h.length h O h' O'->KB q h h':=fun st=>⟨st.len,fun m hm hq=>st.base m hm hq⟩
   cases e:b.p (dSt n ds) s with
   | nx e1 s1=>rw[e] at k;obtain⟨σ',h',f,O',st,c',_⟩:=k;rw[f];exact⟨.non,h',rfl,kb st,c'.pen,rfl,fun _ k ds e=>by cases k <;> cases e⟩
   | exc x e1 s1=>rw[e] at k;obtain⟨σ',h',f,O',st,c',_⟩:=k;rw[f];exact⟨h',rfl,kb st,c'.pen⟩
   | rse x e1 s1=>rw[e] at k;obtain⟨σ',h',f,O',st,c',_⟩:=k;rw[f];exact⟨h',rfl,kb st,c'.pen⟩
   | rt x s1=>rw[e] at k;obtain⟨v,h',f,l,b,p,rr,rs⟩:=k;rw[f];exact⟨v,h',rfl,⟨l,b⟩,p,rr,rs⟩
   | bk e1 s1=>trivial
   | ct e1 s1=>trivial
   | bad=>trivial
  ·rw[qay hl];trivial
end
end PU
namespace PU
open PySem MM SetT SortT
open L2 (ixN atI fx)
local instance (priority:=1) cdecN6 (p:Prop):Decidable p:=Classical.propDecidable p
noncomputable section
section
variable {q:Nat} {h:MH} {L:Nat} {O:List Nat} {v:PV}
def Vw.non(w:Vw q h L O .non v):v=.non:=by
 rcases w with r|⟨n,kd,xs,ds,e,_⟩
 ·exact r
 ·cases kd <;> cases e
def Vw.str(w:Vw q h L O (.str x) v):v=.str x:=by
 rcases w with r|⟨n,kd,xs,ds,e,_⟩
 ·exact r
 ·cases kd <;> cases e
inductive VwL (h:MH) (P:List PV->Prop) (v:PV):Prop
 | mk (n:Nat) (xs:List PV) (e:v=.loc n) (g:h[n]?=some (.lst xs)) (r:P xs):VwL h P v
def Vw.lst(w:Vw q h L O (.lst ds) v):VwL h (Rps q h O ds) v:=by
 rcases w with ⟨n,xs,e,_,g,r⟩|⟨n,kd,xs,ds',e,e1,_,_,g,r⟩
 ·exact⟨n,xs,e,g,r⟩
 ·obtain⟨rfl,rfl⟩:=fP e;exact⟨n,xs,e1,g,r⟩
def Vw.tup(w:Vw q h L O (.tup ds) v):RcT (Rps q h O ds) v:=by
 rcases w with r|⟨n,kd,xs,ds',e,_⟩
 ·exact r
 ·cases kd <;> cases e
def gv0(r:Rp q h O d v)(hf:fr=true->∀k ds,d≠dl k ds):Gv q h O fr (.ok v h) d :=
 ⟨v,[],by simp,by simpa using r,fun z k ds e=>absurd e (hf z k ds)⟩
def gvI:Gv q h O fr (.ok (.int i) h) (.int i):=gv0 rfl fun _ k _ e=>by cases k <;> cases e
def gvB:Gv q h O fr (.ok (.bl i) h) (.bl i):=gv0 rfl fun _ k _ e=>by cases k <;> cases e
def eV(w:Vws q h L O [d] vs):∃x,vs=[x]/\Vw q h L O d x:=by
 obtain⟨x,r,e,a,b⟩:=w
 have:r=[]:=b
 subst this;exact⟨x,e,a⟩
def vws2(w:Vws q h L O [d,d'] vs):∃x y,vs=[x,y]/\Vw q h L O d x/\Vw q h L O d' y:=by
 obtain⟨x,r,e,a,b⟩:=w;obtain⟨y,rfl,c⟩:=eV b;exact⟨x,y,e,a,c⟩
end
def iiOp(m:PV->PV->MH->Out PV)(f:Int->Int->D)(g:Int->Int->PV)(hm:∀i j h,m (.int i) (.int j) h=.ok (g i j) h)(hg:∀i j q h O fr,Gv q h O fr (.ok (g i j) h) (f i j)):Op2 where
 m:=m
 p:=fun a b=>match a,b with
  | .int i,.int j=>some (f i j)
  | _,_=>none
 fr:=true
 ok {q h L O a x b y d} bd wa wb e:=by
  cases a with
  | int i =>
   cases b with
   | int j=>cases e;rw[wa.int,wb.int,hm];exact hg i j q h O true
   | _=>cases e
  | _=>cases e
def eB:Op2:=iiOp opSub (fun i j=>.int (i - j)) (fun i j=>.int (i - j)) (fun _ _ _=>rfl) fun _ _ _ _ _ _=>gvI
def oLt:Op2:=iiOp opLt (fun i j=>.bl (decide (i<j))) (fun i j=>.bl (decide (i<j))) (fun _ _ _=>rfl) fun _ _ _ _ _ _=>gvB
def oGt:Op2:=iiOp opGt (fun i j=>.bl (decide (j<i))) (fun i j=>.bl (decide (j<i))) (fun _ _ _=>rfl) fun _ _ _ _ _ _=>gvB
def bN:Op2 where
 m:=opAdd
 p:=fun a b=>match a,b with
  | .int i,.int j=>some (.int (i+j))
  | .lst x,.lst y=>if x.length+y.length<=100000 then some (.lst (x++y)) else none
  | .tup (a::x),.tup y=>if x.length+1+y.length<=100000 then some (.tup (a::x++y)) else none
  | _,_=>none
 fr:=true
 ok {q h L O a x b y d} bd wa wb e:=by
  cases a with
  | int i =>
   cases b with
   | int j=>cases e;rw[wa.int,wb.int];exact gvI
   | _=>cases e
  | lst x =>
   cases b with
   | lst y =>
    dsimp only at e;by_cases z:x.length+y.length<=100000
    ·rw[qan z] at e;cases e;obtain⟨n,xs,rfl,g,r⟩:=wa.lst;obtain⟨n',ys,rfl,g',r'⟩:=wb.lst;show Gv q h O true (match h[n]?,h[n']? with | some (.lst xs),some (.lst ys)=>newL (xs++ys) h | _,_=>.bad) _;rw[g,g'];exact iJ bd (r.app r') (by simpa using z)
    ·rw[qay z] at e;cases e
   | _=>cases e
  | tup x =>
   cases x with
   | nil=>cases b <;> cases e
   | cons a x =>
    cases b with
    | tup y =>
     dsimp only at e;by_cases z:x.length+1+y.length<=100000
     ·rw[qan z] at e;cases e;obtain⟨xs,rfl,r⟩:=wa.tup;obtain⟨ys,rfl,r'⟩:=wb.tup;have ne:xs≠[]:=fun z=>by have:=r.length;simp[z] at this
      show Gv q h O true (if xs≠[] then newT (xs++ys) h else .bad) _;rw[qan ne];exact tW (r.app r') (by simp;lia)
     ·rw[qay z] at e;cases e
    | _=>cases e
  | _=>cases e
def Rps.rep(r:Rps q h O ds xs):∀n,Rps q h O (List.replicate n ds).flatten (List.replicate n xs).flatten
 | 0=>rfl
 | n+1=>by
  rw[qaQ,qaQ,qbc,qbc];exact r.app (Rps.rep r n)
def bW:Op2 where
 m:=opMul
 p:=fun a b=>match a,b with
  | .int i,.int j=>if IntMulOk i j then some (.int (i * j)) else none
  | .lst x,.int j=>if (0<=j/\j<=1000)/\((List.replicate j.toNat x).flatten).length<=100000 then some (.lst (List.replicate j.toNat x).flatten) else none
  | _,_=>none
 fr:=true
 ok {q h L O a x b y d} bd wa wb e:=by
  cases a with
  | int i =>
   cases b with
   | int j =>
    dsimp only at e;by_cases z:IntMulOk i j
    ·rw[qan z] at e;cases e;rw[wa.int,wb.int];show Gv q h O true (if IntMulOk i j then .ok (.int (i * j)) h else .bad) _;rw[qan z];exact gvI
    ·rw[qay z] at e;cases e
   | _=>cases e
  | lst x =>
   cases b with
   | int j =>
    dsimp only at e;by_cases z:(0<=j/\j<=1000)/\((List.replicate j.toNat x).flatten).length<=100000
    ·rw[qan z] at e;cases e;obtain⟨n,xs,rfl,g,r⟩:=wa.lst;rw[wb.int];show Gv q h O true (match h[n]? with | some (.lst xs)=>if -(2 ^ 63)<=j/\j<2 ^ 63 then newL (List.flatten (List.replicate j.toNat xs)) h else .bad | _=>.bad) _;rw[g];dsimp only;rw[qan (by lia)];exact iJ bd (r.rep _) z.2
    ·rw[qay z] at e;cases e
   | _=>cases e
  | _=>cases e
def oFd:Op2 where
 m:=opFd
 p:=fun a b=>match a,b with
  | .int i,.int j=>if j≠0 then some (.int (i.fdiv j)) else none
  | _,_=>none
 fr:=true
 ok {q h L O a x b y d} bd wa wb e:=by
  cases a with
  | int i =>
   cases b with
   | int j =>
    dsimp only at e;by_cases z:j≠0
    ·rw[qan z] at e;cases e;rw[wa.int,wb.int];show Gv q h O true (if j≠0 then .ok (.int (i.fdiv j)) h else .bad) _;rw[qan z];exact gvI
    ·rw[qay z] at e;cases e
   | _=>cases e
  | _=>cases e
def lx:Op2 where
 m:=opMod
 p:=fun a b=>match a,b with
  | .int i,.int j=>if j≠0 then some (.int (i.fmod j)) else none
  | _,_=>none
 fr:=true
 ok {q h L O a x b y d} bd wa wb e:=by
  cases a with
  | int i =>
   cases b with
   | int j =>
    dsimp only at e;by_cases z:j≠0
    ·rw[qan z] at e;cases e;rw[wa.int,wb.int];show Gv q h O true (if j≠0 then .ok (.int (i.fmod j)) h else .bad) _;rw[qan z];exact gvI
    ·rw[qay z] at e;cases e
   | _=>cases e
  | _=>cases e
def oPow:Op2 where
 m:=opPow
 p:=fun a b=>match a,b with
  | .int i,.int j=>if fx i j then some (.int (i ^ j.toNat)) else none
  | _,_=>none
 fr:=true
 ok {q h L O a x b y d} bd wa wb e:=by
  cases a with
  | int i =>
   cases b with
   | int j =>
    dsimp only at e;by_cases z:fx i j
    ·rw[qan z] at e;cases e;rw[wa.int,wb.int];show Gv q h O true (if fx i j then .ok (.int (i ^ j.toNat)) h else .bad) _;rw[qan z];exact gvI
    ·rw[qay z] at e;cases e
   | _=>cases e
  | _=>cases e
def oIx:Op2 where
 m:=aC
 p:=fun a b=>match a,b with
  | .lst x,.int j=>atI x j
  | .tup x,.int j=>atI x j
  | _,_=>none
 fr:=false
 ok {q h L O a x b y d} bd wa wb e:=by
  have at':∀{ds:List D} {xs:List PV} {j:Int},Rps q h O ds xs->atI ds j=some d->∃v,atI xs j=some v/\Rp q h O d v:=fun {ds xs j} r e=>by
   unfold atI at e ⊢;rw[r.length]
   cases e1:ixN ds.length j with
   | none=>rw[e1] at e;cases e
   | some k=>rw[e1] at e;exact r.get e
  cases b with
  | int j =>
   rw[wb.int]
   cases a with
   | lst ds =>
    obtain⟨n,xs,rfl,g,r⟩:=wa.lst;obtain⟨v,e1,rv⟩:=at' r e;show Gv q h O false (match h[n]? with | some (.lst xs)=>(match atI xs j with | some v=>.ok v h | none=>.bad) | _=>.bad) _;rw[g];dsimp only;rw[e1];exact gv0 rv fun z=>by cases z
   | tup ds =>
    obtain⟨xs,rfl,r⟩:=wa.tup;obtain⟨v,e1,rv⟩:=at' r e;show Gv q h O false (match atI xs j with | some v=>.ok v h | none=>.bad) _;rw[e1];exact gv0 rv fun z=>by cases z
   | _=>cases e
  | _=>cases a <;> cases e
mutual
def py:D->Option PyData
 | .non=>some .none
 | .bl b=>some (.bool b)
 | .int i=>some (.int i)
 | .str x=>some (.str x)
 | .tup ds=>(pys ds).map .tuple
 | .lst ds=>(pys ds).map .list
 | _=>none
def pys:List D->Option (List PyData)
 | []=>some []
 | d::ds=>match py d,pys ds with
  | some x,some xs=>some (x::xs)
  | _,_=>none
end
mutual
def dep:D->Nat
 | .tup ds=>1+deps ds
 | .lst ds=>1+deps ds
 | _=>0
def deps:List D->Nat
 | []=>0
 | d::ds=>max (dep d) (deps ds)
end
def t8(d:D):(∀(v:PV) (e:PyData) (n:Nat),Rp q h O d v->py d=some e->dep d<=n->rd n h v=some e):=by
 refine D.rec (motive_1:=fun d=>∀(v:PV) (e:PyData) (n:Nat),Rp q h O d v->py d=some e->dep d<=n->rd n h v=some e)
  (motive_2:=fun ds=>∀(vs:List PV) (es:List PyData) (n:Nat),Rps q h O ds vs->pys ds=some es->deps ds<=n->cf (rd n h) vs=some es)
  (fun v _ n r e _=>?_) (fun b v _ n r e _=>?_) (fun b v _ n r e _=>?_) (fun b v _ n r e _=>?_) (fun ds ih v e n r ep hd=>?_) (fun ds ih v e n r ep hd=>?_) (fun _ _ _ _ _ _ _ _ e _=>?_) (fun _ _ _ _ _ e _=>?_) (fun _ _ _ _ e _=>?_)
  (fun vs es n r e _=>?_) (fun d ds i1 i2 vs es n r e hd=>?_) d
 ·rw[show v=PV.non from r];cases e;cases n <;> rfl
 ·rw[show v=PV.bl b from r];cases e;cases n <;> rfl
 ·rw[show v=PV.int b from r];cases e;cases n <;> rfl
 ·rw[show v=PV.str b from r];cases e;cases n <;> rfl
 ·obtain⟨xs,ex,r⟩:=r;subst ex;rw[py,qaB] at ep;obtain⟨es,e1,rfl⟩:=ep;rw[dep] at hd
  cases n with
  | zero=>lia
  | succ n=>simp only[rd];rw[ih _ _ n r e1 (by lia)];rfl
 ·obtain⟨m,xs,ex,_,g,r⟩:=r;subst ex;rw[py,qaB] at ep;obtain⟨es,e1,rfl⟩:=ep;rw[dep] at hd
  cases n with
  | zero=>lia
  | succ n=>simp only[rd,g];rw[ih _ _ n r e1 (by lia)];rfl
 ·simp[py] at e
 ·simp[py] at e
 ·simp[py] at e
 ·rw[show vs=[] from r];rw[pys] at e;cases e;rfl
 ·obtain⟨x,t,ex,a,b⟩:=r;subst ex;rw[deps] at hd;rw[pys] at e
  cases e1:py d with
  | none=>rw[e1] at e;cases e
  | some y =>
   cases e2:pys ds with
   | none=>rw[e1,e2] at e;cases e
   | some ys =>
    rw[e1,e2] at e;cases e;have a1:=i1 _ _ n a e1 (by lia);have b1:=i2 _ _ n b e2 (by lia);simp only[cf,a1,b1]
def rd_ok(r:Rp q h O d v)(ep:py d=some e)(hd:dep d<=n):rd n h v=some e:=t8 d v e n r ep hd
def vx(r:Rps q h O ds vs)(ep:pys ds=some es)(hd:deps ds<=n):cf (rd n h) vs=some es:=by
 have:=t8 (.tup ds) (.tup vs) (.tuple es) (n+1) (show Rp q h O (.tup ds) (.tup vs) from⟨vs,rfl,r⟩) (by rw[py,ep];rfl) (by rw[dep];lia)
 simp only[rd] at this
 cases z:cf (rd n h) vs with
 | none=>rw[z] at this;cases this
 | some y=>rw[z] at this;cases this;rfl
def mG(w:Vw q h L O d v)(ep:py d=some e)(hd:dep d<=60):rd 60 h v=some e:=by
 rcases w with r|⟨n,kd,xs,ds,rfl,rfl,_,_,g,r⟩
 ·exact rd_ok r ep hd
 ·cases kd with
  | some _=>simp[dl,py] at ep
  | none =>
   replace g:h[n]?=some (.lst xs):=g;unfold dl at ep hd;rw[py,qaB] at ep;obtain⟨es,e1,rfl⟩:=ep;rw[dep] at hd;have a1:=vx (n:=59) r e1 (by lia);show (match h[n]? with | some (.lst xs)=>(cf (rd 59 h) xs).map PyData.list | _=>none)=_;rw[g];dsimp only;rw[a1];rfl
def eqD(neg:Bool)(a b:D):Option D:=match py a,py b with
 | some x,some y=>if (dep a<=60/\dep b<=60)/\SeqAt.shaped x=true/\SeqAt.shaped y=true then some (.bl (if neg then !PyData.eqv x y else PyData.eqv x y)) else none
 | _,_=>none
def tQ(e:eqD neg a b=some d):∃x y,py a=some x/\py b=some y/\(dep a<=60/\dep b<=60)/\(SeqAt.shaped x=true/\SeqAt.shaped y=true)/\d=.bl (if neg then !PyData.eqv x y else PyData.eqv x y):=by
 unfold eqD at e
 cases e1:py a with
 | none=>rw[e1] at e;cases e
 | some x =>
  cases e2:py b with
  | none=>rw[e1,e2] at e;cases e
  | some y =>
   rw[e1,e2] at e;dsimp only at e;by_cases z:(dep a<=60/\dep b<=60)/\SeqAt.shaped x=true/\SeqAt.shaped y=true
   ·rw[qan z] at e;cases e;exact⟨x,y,rfl,rfl,z.1,z.2,rfl⟩
   ·rw[qay z] at e;cases e
def oEq:Op2 where
 m:=opEq
 p:=eqD false
 fr:=true
 ok {q h L O a x b y d} bd wa wb e:=by
  obtain⟨u,w,e1,e2,hd,hs,rfl⟩:=tQ e;unfold opEq;rw[mG wa e1 hd.1,mG wb e2 hd.2];dsimp only;rw[qan hs];exact gvB
def oNe:Op2 where
 m:=opNe
 p:=eqD true
 fr:=true
 ok {q h L O a x b y d} bd wa wb e:=by
  obtain⟨u,w,e1,e2,hd,hs,rfl⟩:=tQ e;unfold opNe;rw[mG wa e1 hd.1,mG wb e2 hd.2];dsimp only;rw[qan hs];exact gvB
def Vw.seqOf(w:Vw q h L O d v)(e:d.items=some ds):∃xs,MM.cI h v=some xs/\Rps q h O ds xs:=by
 cases d with
 | lst es=>cases e;obtain⟨n,xs,rfl,g,r⟩:=w.lst;exact⟨xs,by simp[MM.cI,g],r⟩
 | tup es=>cases e;obtain⟨xs,rfl,r⟩:=w.tup;exact⟨xs,rfl,r⟩
 | _=>cases e
def inD(neg:Bool)(a b:D):Option D:=match b.items with
 | some ds=>(match py a,pys ds with
  | some x,some ys=>if (dep a<=60/\deps ds<=60)/\x.canLay0=true/\PyData.canLayAll0 ys=true then some (.bl (if neg then !ys.any (fun e=>PyData.eqv e x) else ys.any (fun e=>PyData.eqv e x))) else none
  | _,_=>none)
 | none=>none
def oIn(neg:Bool):Op2 where
 m:=nX neg
 p:=inD neg
 fr:=true
 ok {q h L O a x b y d} bd wa wb e:=by
  unfold inD at e
  cases e0:b.items with
  | none=>rw[e0] at e;cases e
  | some ds =>
   rw[e0] at e;dsimp only at e
   cases e1:py a with
   | none=>rw[e1] at e;cases e
   | some u =>
    cases e2:pys ds with
    | none=>rw[e1,e2] at e;cases e
    | some us =>
     rw[e1,e2] at e;dsimp only at e;by_cases z:(dep a<=60/\deps ds<=60)/\u.canLay0=true/\PyData.canLayAll0 us=true
     ·rw[qan z] at e;cases e;obtain⟨xs,es,r⟩:=wb.seqOf e0;unfold nX;rw[es,mG wa e1 z.1.1];dsimp only;rw[vx r e2 z.1.2];dsimp only;rw[qan z.2];exact gvB
     ·rw[qay z] at e;cases e
end
noncomputable section
def oNeg:Op1 where
 m:=opNeg
 p:=fun a=>match a with
  | .int i=>some (.int (-i))
  | _=>none
 fr:=true
 ok {q h L O a x d} bd w e:=by
  cases a with
  | int i=>cases e;rw[w.int];exact gvI
  | _=>cases e
def tyD:D->Option String
 | .non=>some "NoneType"
 | .bl _=>some "bool"
 | .int _=>some "int"
 | .str _=>some "str"
 | .tup _=>some "tuple"
 | .lst _=>some "list"
 | .dic _ _ _=>some "dict"
 | _=>none
def ty_ok(w:Vw q h L O d v)(e:tyD d=some t):tyP h v=some t:=by
 cases d with
 | non=>cases e;rw[w.non];rfl
 | bl b=>cases e;rw[w.bl];rfl
 | int b=>cases e;rw[w.int];rfl
 | str b=>cases e;rw[w.str];rfl
 | tup b=>cases e;obtain⟨xs,rfl,_⟩:=w.tup;rfl
 | lst b=>cases e;obtain⟨n,xs,rfl,g,_⟩:=w.lst;simp[tyP,g]
 | dic fz ks ds =>
  cases e;rcases w with ⟨n,xs,rfl,_,g,_⟩|⟨n,kd,xs,ds',e,rfl,_,_,g,_⟩
  ·simp[tyP,g]
  ·cases kd with
   | none=>cases e
   | some _=>simp[tyP,g,mo]
 | _=>cases e
def dL(Ts:List String):Op1 where
 m:=eS Ts
 p:=fun a=>(tyD a).map fun t=>.bl (Ts.any (fk t))
 fr:=true
 ok {q h L O a x d} bd w e:=by
  rw[qaB] at e;obtain⟨t,e1,rfl⟩:=e;unfold eS;rw[ty_ok w e1];exact gvB
def qi:OpN where
 k:=fun xs h=>(fAbs xs h).ne
 p:=fun as=>match as with
  | [.int i]=>some (.int (if i<0 then -i else i))
  | _=>none
 fr:=true
 ok {q h L O as xs d} bd w e:=by
  match as,e with
  | [.int i],e=>cases e;obtain⟨x,rfl,a⟩:=eV w;rw[a.int];exact gvI
def jZ:OpN where
 k:=fun xs h=>(fInt xs h).ne
 p:=fun as=>match as with
  | [.int i]=>some (.int i)
  | [.bl b]=>some (.int (if b then 1 else 0))
  | _=>none
 fr:=true
 ok {q h L O as xs d} bd w e:=by
  match as,e with
  | [.int i],e=>cases e;obtain⟨x,rfl,a⟩:=eV w;rw[a.int];exact gvI
  | [.bl i],e=>cases e;obtain⟨x,rfl,a⟩:=eV w;rw[a.bl];exact gvI
def du:OpN where
 k:=fun xs h=>(fLen xs h).ne
 p:=fun as=>match as with
  | [.lst ds]=>some (.int ds.length)
  | [.tup ds]=>some (.int ds.length)
  | [.str x]=>if x.length<=sizeLine then some (.int x.length) else none
  | _=>none
 fr:=true
 ok {q h L O as xs d} bd w e:=by
  match as,e with
  | [.lst ds],e =>
   cases e;obtain⟨x,rfl,a⟩:=eV w;obtain⟨n,ys,rfl,g,r⟩:=a.lst;simp only[fLen,g];rw[r.length];exact gvI
  | [.tup ds],e =>
   cases e;obtain⟨x,rfl,a⟩:=eV w;obtain⟨ys,rfl,r⟩:=a.tup;simp only[fLen];rw[r.length];exact gvI
  | [.str x],e =>
   dsimp only at e;by_cases z:x.length<=sizeLine
   ·rw[qan z] at e;cases e;obtain⟨x,rfl,a⟩:=eV w;rw[a.str];simp only[fLen];rw[qan z];exact gvI
   ·rw[qay z] at e;cases e
def cList:OpN where
 k:=fun xs h=>(fList xs h).ne
 p:=fun as=>match as with
  | [d]=>d.items.bind fun ds=>if ds.length<=100000 then some (.lst ds) else none
  | _=>none
 fr:=true
 ok {q h L O as xs d} bd w e:=by
  match as,e with
  | [a],e =>
   obtain⟨x,rfl,wx⟩:=eV w;rw[qcg] at e;obtain⟨ds,e1,e2⟩:=e;obtain⟨xs,e3,r⟩:=wx.seqOf e1;by_cases z:ds.length<=100000
   ·rw[qan z] at e2;cases e2;obtain⟨v,g,e4,r4,r5⟩:=iJ bd r z;exact⟨v,g,by simp only[fList,e3];rw[e4];rfl,r4,r5⟩
   ·rw[qay z] at e2;cases e2
def qv:OpN where
 k:=fun xs h=>(fTuple xs h).ne
 p:=fun as=>match as with
  | [d]=>d.items.map .tup
  | _=>none
 fr:=true
 ok {q h L O as xs d} bd w e:=by
  match as,e with
  | [a],e =>
   obtain⟨x,rfl,wx⟩:=eV w;rw[qaB] at e;obtain⟨ds,e1,rfl⟩:=e;obtain⟨xs,e3,r⟩:=wx.seqOf e1;simp only[fTuple,e3];exact gv0 ⟨xs,rfl,r⟩ fun _ k _ e=>by cases k <;> cases e
def i9:∀(bs:List Int),Rps q h O (bs.map .int) (bs.map .int)
 | []=>rfl
 | b::bs=>⟨_,_,rfl,rfl,i9 bs⟩
def gvL(bd:Bd h O)(r:∀h O,Rps q h O ds xs):Gv q h O true (.ok (.loc h.length) (h++[.lst xs])) (.lst ds):=by
 have g:(h++[MO.lst xs])[h.length]?=some (.lst xs):=by simp
 exact⟨_,_,rfl,⟨_,_,rfl,fun z=>by have:=bd _ z;ext,g,r _ _⟩,fun _ k ds' e=>by obtain⟨rfl,rfl⟩:=fP e;exact⟨_,_,rfl,qai _,g,r _ _⟩⟩
def dM(lo:Int)(n:Nat):List D:=(List.range n).map fun (i:Nat)=>D.int (lo+(i:Int))
def uc:Rps q h O (dM lo n) (br lo n):=by
 have:=i9 (q:=q) (h:=h) (O:=O) ((List.range n).map fun (i:Nat)=>lo+(i:Int))
 rw[qaJ,qaJ] at this;exact this
def cLR:OpN where
 k:=fun vs h1=>match vs with
  | [.int j]=>if -(2 ^ 62)<=j/\j<2 ^ 62/\j.toNat<=sizeLine then .ok (.loc h1.length) (h1++[.lst (br 0 j.toNat)]) else .bad
  | _=>.bad
 p:=fun as=>match as with
  | [.int j]=>if -100000<=j/\j<=100000 then some (.lst (dM 0 j.toNat)) else none
  | _=>none
 fr:=true
 ok {q h L O as xs d} bd w e:=by
  match as,e with
  | [.int j],e =>
   obtain⟨x,rfl,wx⟩:=eV w;rw[wx.int];dsimp only at e;by_cases z:-100000<=j/\j<=100000
   ·rw[qan z] at e;cases e;dsimp only
    have:=d9
    rw[qan ⟨by ext,by ext,by ext⟩];exact gvL bd fun _ _=>uc
   ·rw[qay z] at e;cases e
def iR1:OpI where
 k:=fun vs h1=>match vs with
  | [.int j]=>if -(2 ^ 62)<=j/\j<2 ^ 62 then .ok ⟨br 0 j.toNat,[]⟩ h1 else .bad
  | _=>.bad
 p:=fun as=>match as with
  | [.int j]=>if -100000<=j/\j<=100000 then some (dM 0 j.toNat) else none
  | _=>none
 ok {q h L O as xs d} hq hO bd w e:=by
  match as,e with
  | [.int j],e =>
   obtain⟨x,rfl,wx⟩:=eV w;rw[wx.int];dsimp only at e;by_cases z:-100000<=j/\j<=100000
   ·rw[qan z] at e;cases e;dsimp only;rw[qan ⟨by ext,by ext⟩];exact⟨_,rfl,uc,(fun _ hg=>nomatch hg),fun _ _ hg=>nomatch hg⟩
   ·rw[qay z] at e;cases e
def Vw.sqAny(hq:q<L)(hO:q∈O)(w:Vw q h L O d v)(e:d.items=some ds):∃t xs gd,MM.bU v h=some (t,xs,gd)/\Rps q h O ds xs/\(∀g∈gd,h[g.1]?=some (.lst g.2)/\g.1≠q)/\(Rp q h O d v->∀g∈gd,g.1∉O):=by
 obtain⟨xs,gd,e1,r,g1,g2⟩:=w.seq hq hO e
 cases d with
 | lst es =>
  cases e;obtain⟨n,ys,rfl,g,r'⟩:=w.lst;simp only[itAny,g] at e1;cases e1;exact⟨false,xs,[(n,xs)],by simp[MM.bU,g],r',g1,g2⟩
 | tup es =>
  cases e;obtain⟨ys,rfl,r'⟩:=w.tup;simp only[itAny] at e1;cases e1;exact⟨true,_,[],rfl,r',g1,g2⟩
 | _=>cases e
def pR(ds:List D):List D:=ds.zipIdx.map fun p=>.tup [.int (p.2:Int),p.1]
def fU(xs ys:List D):List D:=(xs.zip ys).map fun p=>.tup [p.1,p.2]
def pY:∀{ds:List D} {xs:List PV} (n:Nat),Rps q h O ds xs->Rps q h O ((ds.zipIdx n).map fun p=>.tup [.int (p.2:Int),p.1]) ((xs.zipIdx n).map fun p=>.tup [.int (p.2:Int),p.1])
 | [],_,_,r=>by rw[show _=[] from r];rfl
 | d::ds,_,n,⟨x,t,e,a,b⟩=>by
  subst e;exact⟨_,_,rfl,⟨_,rfl,⟨_,_,rfl,rfl,⟨_,_,rfl,a,rfl⟩⟩⟩,pY (n+1) b⟩
def nK:∀{ds es:List D} {xs ys:List PV},Rps q h O ds xs->Rps q h O es ys->Rps q h O (fU ds es) (fe xs ys)
 | [],_,_,_,r,_=>by rw[show _=[] from r];simp[fU,fe];rfl
 | _::_,[],_,_,r,r'=>by rw[show _=[] from r'];simp[fU,fe];rfl
 | d::ds,e::es,_,_,⟨x,t,e1,a,b⟩,⟨x',t',e1',a',b'⟩=>by
  subst e1 e1';exact⟨_,_,rfl,⟨_,rfl,⟨_,_,rfl,a,⟨_,_,rfl,a',rfl⟩⟩⟩,nK b b'⟩
def iE:OpI where
 k:=fun vs h1=>match vs with
  | [x]=>(match bU x h1 with
   | some (_,xs,gd)=>.ok ⟨ig xs,gd⟩ h1
   | none=>.bad)
  | _=>.bad
 p:=fun as=>match as with
  | [d]=>d.items.map pR
  | _=>none
 ok {q h L O as xs d} hq hO bd w e:=by
  match as,e with
  | [a],e =>
   obtain⟨x,rfl,wx⟩:=eV w;rw[qaB] at e;obtain⟨ds,e1,rfl⟩:=e;obtain⟨t,ys,gd,e2,r,g1,g2⟩:=wx.sqAny hq hO e1;refine⟨⟨ig ys,gd⟩,by simp only[e2],pY 0 r,g1,fun z=>g2 ?_⟩;obtain⟨x',r',e3,a,_⟩:=z;cases e3;exact a
def iZ:OpI where
 k:=fun vs h1=>match vs with
  | [x,y]=>(match bU x h1,bU y h1 with
   | some (_,xs,g1),some (_,ys,g2)=>.ok ⟨fe xs ys,g1++g2⟩ h1
   | _,_=>.bad)
  | _=>.bad
 p:=fun as=>match as with
  | [d,e]=>d.items.bind fun xs=>e.items.map fun ys=>fU xs ys
  | _=>none
 ok {q h L O as xs d} hq hO bd w e:=by
  match as,e with
  | [a,b],e =>
   obtain⟨x,y,rfl,wx,wy⟩:=vws2 w;rw[qcg] at e;obtain⟨ds,e1,e⟩:=e;rw[qaB] at e;obtain⟨es,e2,rfl⟩:=e;obtain⟨t,ys,gd,f2,r,g1,g2⟩:=wx.sqAny hq hO e1;obtain⟨t',ys',gd',f2',r',g1',g2'⟩:=wy.sqAny hq hO e2;refine⟨⟨fe ys ys',gd++gd'⟩,by simp only[f2,f2'],nK r r',fun g hg=>?_,fun z g hg=>?_⟩
   ·rcases qaL.mp hg with z|z
    ·exact g1 g z
    ·exact g1' g z
   ·obtain⟨x',r',e3,a1,x2,r2,e4,a2,_⟩:=z;cases e3;cases e4;rcases qaL.mp hg with z|z
    ·exact g2 a1 g z
    ·exact g2' a2 g z
def iw(xs:List D)(lo hi:Option Int):List D:=(xs.drop (HT.sIx xs.length 0 lo)).take (HT.sIx xs.length xs.length hi - HT.sIx xs.length 0 lo)
def t6(lo hi:Option Int)(r:Rps q h O ds xs):Rps q h O (iw ds lo hi) (ft xs lo hi):=by
 unfold iw ft;rw[r.length];exact (r.drop _).take _
structure Xo (ws:List Nat) where
 m:Mx (Option Int)
 p:aA->Pen->PR (Option Int)
 ok:∀{q h L B O σ env s},Cx q h L B O ws σ env s->Ok q h (m σ h) (p env s) (fun _ a b=>a=b)
section
variable {ws:List Nat}
def xNo:Xo ws where
 m:=mNo
 p:=fun _ s=>.ok none s
 ok {q h L B O σ env s} c:=⟨none,h,rfl,KB.refl _ _,c.pen,rfl⟩
def xPt(e:Xe ws):Xo ws where
 m:=mPt e.m
 p:=fun env s=>(e.p env s).bind fun d s=>match d with
  | .int i=>.ok (some i) s
  | _=>.bad
 ok {q h L B O σ env s} c:=by
  refine (e.ok c).bind fun x v h1 s1 k1 p1 ⟨w,_,_⟩=>?_
  cases x with
  | int i=>rw[w.int];exact⟨some i,h1,rfl,KB.refl _ _,p1,rfl⟩
  | _=>trivial
def slD(d:D)(lo hi:Option Int):Option D:=match d with
 | .lst ds=>some (.lst (iw ds lo hi))
 | .tup ds=>if HT.sIx ds.length 0 lo=0/\HT.sIx ds.length ds.length hi=ds.length then none else some (.tup (iw ds lo hi))
 | _=>none
def sl_ok(bd:Bd h O)(w:Vw q h L O a x)(e:slD a lo hi=some d):Gv q h O true (fSl x lo hi h) d:=by
 cases a with
 | lst ds =>
  cases e;obtain⟨n,xs,rfl,g,r⟩:=w.lst;simp only[fSl,g];have r:=t6 lo hi r;have m:Mv O h O (h++[MO.lst (ft xs lo hi)]):=⟨fun n hn _=>qal hn,fun o ho=>.inl ho⟩
  have m2:Mv O h (h.length::O) (h++[MO.lst (ft xs lo hi)]):=⟨fun n hn _=>qal hn,fun o ho=>by
   rcases qam.mp ho with z|z
   ·exact .inr (by ext)
   ·exact .inl z⟩
  have g:(h++[MO.lst (ft xs lo hi)])[h.length]?=some (.lst (ft xs lo hi)):=by simp
  exact⟨_,_,rfl,⟨_,_,rfl,fun z=>by have:=bd _ z;ext,g,r.mv m⟩,fun _ k ds' e=>by obtain⟨rfl,rfl⟩:=fP e;exact⟨_,_,rfl,qai _,g,r.mv m2⟩⟩
 | tup ds =>
  unfold slD at e;dsimp only at e;by_cases z:HT.sIx ds.length 0 lo=0/\HT.sIx ds.length ds.length hi=ds.length
  ·rw[qan z] at e;cases e
  ·rw[qay z] at e;cases e;obtain⟨xs,rfl,r⟩:=w.tup;simp only[fSl];rw[r.length,qay z];exact gv0 ⟨_,rfl,t6 lo hi r⟩ fun _ k _ e=>by cases k <;> cases e
 | _=>cases e
def xSl(a:Xe ws)(lo hi:Xo ws):Xe ws where
 m:=mSl a.m lo.m hi.m
 p:=fun env s=>(a.p env s).bind fun x s=>(lo.p env s).bind fun l s=>(hi.p env s).bind fun u s=>.of (slD x l u) s
 fz:=true
 fr:=true
 ok {q h L B O σ env s} c:=by
  refine (a.ok c).bind fun x v h1 s1 k1 p1 ⟨w,_,_⟩=>?_;have c1:=c.kb k1 p1;refine (lo.ok c1).bind fun l l' h2 s2 k2 p2 e=>?_;subst e;have c2:=c1.kb k2 p2;refine (hi.ok c2).bind fun u u' h3 s3 k3 p3 e=>?_;subst e;have c3:=c2.kb k3 p3
  cases e:slD x l u with
  | none=>trivial
  | some d =>
   obtain⟨y,g,e1,r,r'⟩:=sl_ok c3.bd ((w.kb k2 c.pO c.pL).kb k3 c.pO c.pL) e;exact give (qaI (qaI k1.len k2.len) k3.len) p3 ⟨y,g,by rw[e1];rfl,r,r'⟩
end
def fo:OpM where
 m:=ck
 p:=fun ds as=>match as with
  | [a]=>if ds.length<100000 then some (.non,ds++[a]) else none
  | _=>none
 ok {q h O n xs ds as vs d ds'} g r ra e:=by
  match as,e with
  | [a],e =>
   obtain⟨x,t,rfl,a,b⟩:=ra
   have:t=[]:=b
   subst this;dsimp only at e;by_cases z:ds.length<100000
   ·rw[qan z] at e;cases e;refine⟨.non,xs++[x],?_,r.app ⟨x,[],rfl,a,rfl⟩,rfl⟩;simp only[ck,g];rw[qan (by have:=d9;rw[r.length];ext)]
   ·rw[qay z] at e;cases e
def nO:OpM where
 m:=iP
 p:=fun ds as=>match as with
  | [.int i,a]=>if (0<=i/\i<=100000)/\ds.length<100000 then some (.non,ds.take (min i.toNat ds.length)++a::ds.drop (min i.toNat ds.length)) else none
  | _=>none
 ok {q h O n xs ds as vs d ds'} g r ra e:=by
  match as,e with
  | [.int i,a],e =>
   obtain⟨x,t,rfl,hx,y,t',rfl,w,b⟩:=ra
   have:t'=[]:=b
   subst this;rw[show x=PV.int i from hx];dsimp only at e;by_cases z:(0<=i/\i<=100000)/\ds.length<100000
   ·rw[qan z] at e;cases e;refine⟨.non,j3 xs i y,?_,?_,rfl⟩
    ·simp only[iP,g];rw[qan ⟨by ext,by have:=d9;rw[r.length];ext⟩]
    ·unfold j3;rw[qay (by ext),r.length];exact (r.take _).app ⟨y,_,rfl,w,r.drop _⟩
   ·rw[qay z] at e;cases e
end
section
variable {ws:List Nat} {env:aA} {s:Pen}
@[simp] theorem ak{d:D}{r:aA}:(ab 0:Xe ws).p (some d::r) s=.ok d s:=rfl
@[simp] theorem am{i:Nat}{o:Option D}{r:aA}:(ab (i+1):Xe ws).p (o::r) s=(ab i:Xe ws).p r s:=by simp[ab]
theorem xVar_at(e:env[i]?=some (some d)):(ab i:Xe ws).p env s=.ok d s:=by
 show (match env[i]? with | some (some d)=>PR.ok d s | _=>.bad)=_;rw[e]
@[simp] theorem aU:(xC k:Xe ws).p env s=.ok k.d s:=rfl
@[simp] theorem cn_non:Cn.non.d=.non:=rfl
@[simp] theorem cn_bl:(Cn.bl b).d=.bl b:=rfl
@[simp] theorem aM:(Cn.int b).d=.int b:=rfl
@[simp] theorem mO:(Cn.str b).d=.str b:=rfl
@[simp] theorem aF:(ai o a b).p env s=(a.p env s).bind fun x s1=>(b.p env s1).bind fun y s2=>.of (o.p x y) s2:=rfl
@[simp] theorem nt:(xUn o a).p env s=(a.p env s).bind fun x s1=>.of (o.p x) s1:=rfl
@[simp] theorem au:(xNil:Xs ws).p env s=.ok [] s:=rfl
@[simp] theorem ar:(aa a r).p env s=(a.p env s).bind fun x s1=>(r.p env s1).bind fun y s2=>.ok (x::y) s2:=rfl
@[simp] theorem ce:(xCb o a).p env s=(a.p env s).bind fun x s1=>.of (o.p x) s1:=rfl
@[simp] theorem aE:(aq f a h).p env s=(a.p env s).bind f.p:=rfl
@[simp] theorem nM:(iW f a h).p env s=((a.p env s).bind f.p).bind fun d s=>if lend d=true then .ok d s else .bad:=rfl
@[simp] theorem cA:(bX a h).p env s=(a.p env s).bind fun x s1=>if x.length<=100000 then .ok (.lst x) s1 else .bad:=rfl
@[simp] theorem bI:(aO a h).p env s=(a.p env s).bind fun x s1=>if x.length<=100000 then .ok (.tup x) s1 else .bad:=rfl
@[simp] theorem xDic_p:(xDic:Xe ws).p env s=.ok (.dic false [] []) s:=rfl
@[simp] theorem cF:(xB a).p env s=(a.p env s).bl:=rfl
@[simp] theorem gH:(eA a).p env s=(a.p env s).bind fun b s=>.ok (!b) s:=rfl
@[simp] theorem ku:(xOr a b).p env s=(a.p env s).bind fun x s=>if x=true then .ok true s else b.p env s:=rfl
@[simp] theorem xTrue_p:(xTrue:Xt ws).p env s=.ok true s:=rfl
@[simp] theorem ox:(lW a b).p env s=(a.p env s).bl.bind fun x s=>if x=true then (b.p env s).bl.bind fun y s=>.ok (.bl y) s else .ok (.bl false) s:=rfl
@[simp] theorem xNotV_p:(xNotV a).p env s=(a.p env s).bl.bind fun x s=>.ok (.bl (!x)) s:=rfl
@[simp] theorem xIfE_p:(xIfE t a b z h).p env s=(t.p env s).bind fun x s=>if x=true then a.p env s else b.p env s:=rfl
@[simp] theorem cx:(bO o a).p env s=(a.p env s).bind fun x s1=>.of (o.p x) s1:=rfl
@[simp] theorem bM:(bj a).p env s=(a.p env s).bind fun x s1=>.of x.items s1:=rfl
@[simp] theorem xNm_p{i:Nat}{h:ws.contains i=false}{d:D}:(xNm i h).p d env=some (env.set i (some d)):=rfl
@[simp] theorem xGl_p:(xGl:Xgs ws).p [] env=some env:=rfl
@[simp] theorem xGc_p:(xGc a t).p (d::ds) env=(a.p d env).bind fun env1=>t.p ds env1:=rfl
@[simp] theorem xGp_p:(xGp t n).p (.tup ds) env=if ds.length=n then t.p ds env else none:=rfl
@[simp] theorem oz{nv:Nat}{fm:List Nat}{i:Xi ws}{ws':List Nat}{g:Xg ws'}{t:Xt ws'}{e:Xe ws'}{hw:cws nv fm ws=ws'}{hz:e.fz=true}:(bg nv fm i g t e hw hz).p env s=(i.p env s).bind fun ds s1=>if ds.length<=100000 then (match d6 g.p t.p e.p ds (cenv nv fm env) s1 with
  | .ok r s2=>.ok (.lst r) s2
  | _=>.bad) else .bad:=rfl
@[simp] theorem kQ:(xNo:Xo ws).p env s=.ok none s:=rfl
@[simp] theorem kO:(xPt e).p env s=(e.p env s).bind fun d s=>match d with
  | .int i=>.ok (some i) s
  | _=>.bad:=rfl
@[simp] theorem kr:(xSl a lo hi).p env s=(a.p env s).bind fun x s=>(lo.p env s).bind fun l s=>(hi.p env s).bind fun u s=>.of (slD x l u) s:=rfl
@[simp] theorem aD:(aB a b).p env s=(a.p env s).then b.p:=rfl
@[simp] theorem ci:(xSkip:Xd ws).p env s=.nx env s:=rfl
@[simp] theorem bC:(aT e).p env s=(e.p env s).go env fun d _ s=>.rt d s:=rfl
theorem uo{i:Nat}{h:ws.contains i=true}{d:D}(e:env[i]?=some (some d)):(pM i h).p env s=.rt d s:=by
 show (match env[i]? with | some (some d)=>PS.rt d s | _=>.bad)=_;rw[e]
@[simp] theorem cc:(xIf t a b).p env s=(t.p env s).go env fun x env s=>if x=true then a.p env s else b.p env s:=rfl
@[simp] theorem aV:(aS i e hi hz).p env s=(e.p env s).go env fun d env s=>.nx (env.set i (some d)) s:=rfl
@[simp] theorem gX:(D.lst ds).mine=true:=rfl
@[simp] theorem mine_d:(D.dic false ks ds).mine=true:=rfl
@[simp] theorem eJ{hi hz}:(d7 i e hi hz:Xd ws).p env s=(e.p env s).go env fun d env s=>if d.mine=true then .nx (env.set i (some d)) s else .bad:=rfl
@[simp] theorem cD:(dg i g b hz).p env s=(i.p env s).go env fun ds env s=>pGo g.p b.p ds env s:=rfl
@[simp] theorem xMt_p:(xMt o i a hi hz).p env s=pMt o i a.p env s fun _=>.nx:=rfl
@[simp] theorem mH:(gA i e ix hi hz).p env s=d8 i e.p ix.p env s:=rfl
theorem bp{hw}(hl:ds.length=np):(bR n np b hw).p ds s=(b.p (dSt n ds) s).fin:=by
 show (if ds.length=np then _ else _)=_;rw[qan hl]
variable {i j:Int} {b:Bool} {x y:List D}
@[simp] theorem eG:bN.p (.int i) (.int j)=some (.int (i+j)):=rfl
theorem kB(h:x.length+y.length<=100000):bN.p (.lst x) (.lst y)=some (.lst (x++y)):=by
 show (if x.length+y.length<=100000 then _ else _)=_;rw[qan h]
@[simp] theorem gu:eB.p (.int i) (.int j)=some (.int (i - j)):=rfl
@[simp] theorem oLt_ii:oLt.p (.int i) (.int j)=some (.bl (decide (i<j))):=rfl
@[simp] theorem qH:oGt.p (.int i) (.int j)=some (.bl (decide (j<i))):=rfl
@[simp] theorem cb:oIx.p (.lst x) (.int j)=atI x j:=rfl
@[simp] theorem dm:oIx.p (.tup x) (.int j)=atI x j:=rfl
theorem oMod_ii(h:j≠0):lx.p (.int i) (.int j)=some (.int (i.fmod j)):=by
 show (if j≠0 then _ else _)=_;rw[qan h]
@[simp] theorem mE:(dL Ts).p d=(tyD d).map fun t=>.bl (Ts.any (fk t)):=rfl
@[simp] theorem ty_non:tyD .non=some "NoneType":=rfl
@[simp] theorem ty_bl:tyD (.bl b)=some "bool":=rfl
@[simp] theorem ty_int:tyD (.int i)=some "int":=rfl
@[simp] theorem ty_str:tyD (.str z)=some "str":=rfl
@[simp] theorem wk:tyD (.tup x)=some "tuple":=rfl
@[simp] theorem wO:tyD (.lst x)=some "list":=rfl
@[simp] theorem ty_dic:tyD (.dic fz ks es)=some "dict":=rfl
@[simp] theorem rc:jZ.p [.bl b]=some (.int (if b then 1 else 0)):=rfl
@[simp] theorem cInt_i:jZ.p [.int i]=some (.int i):=rfl
@[simp] theorem gJ:du.p [.lst x]=some (.int x.length):=rfl
@[simp] theorem wC:du.p [.tup x]=some (.int x.length):=rfl
theorem cList_l(h:x.length<=100000):cList.p [.lst x]=some (.lst x):=by
 show (if x.length<=100000 then _ else _)=_;rw[qan h]
@[simp] theorem xo:qv.p [.lst x]=some (.tup x):=rfl
@[simp] theorem cTuple_t:qv.p [.tup x]=some (.tup x):=rfl
theorem d3(h:-100000<=i/\i<=100000):iR1.p [.int i]=some (dM 0 i.toNat):=by
 show (if _ then _ else _)=_;rw[qan h]
@[simp] theorem iE_l:iE.p [.lst x]=some (pR x):=rfl
@[simp] theorem iZ_ll:iZ.p [.lst x,.lst y]=some (fU x y):=rfl
@[simp] theorem iZ_tt:iZ.p [.tup x,.tup y]=some (fU x y):=rfl
@[simp] theorem uz:slD (.lst x) lo hi=some (.lst (iw x lo hi)):=rfl
theorem kg(h:x.length<100000):fo.p x [a]=some (.non,x++[a]):=by
 show (if _ then _ else _)=_;rw[qan h]
def wu{a:D}{i:Nat}(h:i<=x.length)(hl:x.length<100000):nO.p x [.int i,a]=some (.non,x.take i++a::x.drop i):=by
 show (if _ then _ else _)=_;rw[qan ⟨by ext,hl⟩,qaH,qcw h]
end
section
variable {i j:Int} {b c:Bool}
def eI(h1:x.canLay0=true)(h2:x.depth<=64):SeqAt.shaped x=true:=by simp[SeqAt.shaped,h1,h2]
@[simp] theorem cq:eqD neg (.int i) (.int j)=some (.bl (if neg then !decide (i=j) else decide (i=j))):=by
 simp[eqD,py,dep,SeqAt.shaped,PyData.canLay0,PyData.depth,PyData.eqv,qbn]
@[simp] theorem eqD_bb:eqD neg (.bl b) (.bl c)=some (.bl (if neg then !(b == c) else b == c)):=by
 simp[eqD,py,dep,SeqAt.shaped,PyData.canLay0,PyData.depth,PyData.eqv]
@[simp] theorem eT:oEq.p a d=eqD false a d:=rfl
@[simp] theorem gh:oNe.p a d=eqD true a d:=rfl
@[simp] theorem oIn_p:(oIn neg).p a d=inD neg a d:=rfl
theorem rH:∀(k:List Int),pys (k.map .int)=some (k.map .int)/\deps (k.map .int)=0
 | []=>⟨rfl,rfl⟩
 | i::k=>by
  obtain⟨a,b⟩:=rH k;simp[pys,py,a,deps,dep,b]
def oN:∀(xs:List Int),(xs.map PyData.int).any (fun e=>PyData.eqv e (.int x))=decide (x∈xs)
 | []=>by simp
 | y::ys=>by
  rw[qao,qcf,oN ys]
  have:PyData.eqv (.int y) (.int x)=decide (x=y):=by
   simp[PyData.eqv,qbn,eq_comm]
  rw[this];by_cases z:x=y <;> simp[z]
def kW:∀(k k':List Int),PyData.eqvAll (k.map .int) (k'.map .int)=decide (k=k')
 | [],[]=>by simp[PyData.eqvAll]
 | [],_::_=>by simp[PyData.eqvAll]
 | _::_,[]=>by simp[PyData.eqvAll]
 | a::k,b::k'=>by
  simp only[qao,PyData.eqvAll,PyData.eqv,kW k k',qbn];by_cases z:a=b <;> simp[z]
def inD_of{neg:Bool}{x:Int}{d:D}{xs:List Int}(e:d.items=some (xs.map .int)):inD neg (.int x) d=some (.bl (if neg then !decide (x∈xs) else decide (x∈xs))):=by
 obtain⟨a,b⟩:=rH xs;simp only[inD,e,py,a];rw[qan ⟨⟨by simp[dep],by lia⟩,rfl,(p8 xs).1⟩,oN]
end
@[simp] theorem pGo_nil:pGo g b [] env s=.nx env s:=rfl
theorem cQ(e:g d env=some env1):pGo g b (d::ds) env s=(b env1 s).turn (pGo g b ds):=by
 rw[pGo,e]
def eM(I:Nat->aA->Pen->Prop):∀(ds:List D) (j:Nat) (env:aA) (s:Pen),I j env s ->
  (∀m env s d,I (j+m) env s->ds[m]?=some d->∃env1 env' s',g d env=some env1/\b env1 s=.nx env' s'/\I (j+m+1) env' s')->∃env' s',pGo g b ds env s=.nx env' s'/\I (j+ds.length) env' s'
 | [],j,env,s,hI,_=>⟨env,s,rfl,hI⟩
 | d::ds,j,env,s,hI,st=>by
  obtain⟨env1,env2,s2,e1,e2,I2⟩:=st 0 env s d hI rfl;obtain⟨env3,s3,e3,I3⟩:=eM I ds (j+1) env2 s2 I2 fun m env' s' x q z=>by
   have:=st (m+1) env' s' x (by rw[show j+(m+1)=j+1+m by lia];exact q) (by simpa using z)
   rw[show j+(m+1)+1=j+1+m+1 by lia] at this;exact this
  refine⟨env3,s3,?_,by rw[qap,show j+(ds.length+1)=j+1+ds.length by lia];exact I3⟩;rw[cQ e1,e2];exact e3
end PU
namespace PU
open PySem MM SetT SortT
open L2 (ixN atI fx)
def bu{α:Type}(l:List α):(l.filter fun _=>true)=l:=List.filter_eq_self.mpr (by simp)
def jM(h:0<=i):∃n:Nat,i=(n:Int):=⟨i.toNat,by lia⟩
end PU
namespace PU
open PySem MM SetT SortT
open L2 (ixN atI fx)
local instance (priority:=1) cdecN10 (p:Prop):Decidable p:=Classical.propDecidable p
noncomputable section
def lA:D->Option Bool
 | .non=>some false
 | .bl b=>some b
 | .int i=>some (i != 0)
 | .tup xs=>some (!xs.isEmpty)
 | .lst xs=>some (!xs.isEmpty)
 | _=>none
def Rps.empty(r:Rps p h O ds vs):vs.isEmpty=ds.isEmpty:=by
 cases ds with
 | nil=>rw[show vs=[] from r];rfl
 | cons d ds=>obtain⟨x,t,e,_⟩:=r;rw[e];rfl
def qQ(w:Vw q h L O d v)(e:lA d=some b):lM h v=some b:=by
 cases d with
 | non=>cases e;rw[w.non];rfl
 | bl c=>cases e;rw[w.bl];rfl
 | int c=>cases e;rw[w.int];rfl
 | tup c=>cases e;obtain⟨xs,rfl,r⟩:=w.tup;rw[lM,r.empty]
 | lst c=>cases e;obtain⟨n,xs,rfl,g,r⟩:=w.lst;simp only[lM,g];rw[r.empty]
 | _=>cases e
section
variable {ws:List Nat}
def xTr(a:Xe ws):Xt ws where
 m:=mTr a.m
 p:=fun env s=>(a.p env s).bind fun d s=>.of (lA d) s
 ok {q h L B O σ env s} c:=by
  refine (a.ok c).bind fun x v h1 s1 k1 p1 ⟨w,_,_⟩=>?_
  cases e:lA x with
  | none=>trivial
  | some b=>rw[qQ w e];exact⟨b,h1,rfl,KB.refl _ _,p1,rfl⟩
structure OpR where
 m:Nat->List PV->MH->Out PV
 p:List D->List D->Option D
 ok:∀{q:Nat} {h:MH} {L:Nat} {O:List Nat} {n:Nat} {xs:List PV} {ds as:List D} {vs:List PV} {d:D},h[n]?=some (.lst xs)->Rps q h O ds xs->Vws q h L O as vs->p ds as=some d->∃v,m n vs h=.ok v h/\Rp q h O d v/\∀k es,d≠dl k es
end
section
variable {ws:List Nat} {env:aA} {s:Pen}
@[simp] theorem xTr_p:(xTr a).p env s=(a.p env s).bind fun d s=>.of (lA d) s:=rfl
end
end
noncomputable section
section
variable {ws:List Nat}
def xPar(i j:Nat)(a:Xs ws)(hi:ws.contains i=false:=by exact ys rfl)(hj:ws.contains j=false:=by exact ys rfl)(hz:a.fz=true:=by exact ys rfl):Xd ws where
 m:=ss i j a.m
 p:=fun env s=>(a.p env s).go env fun ds env s=>match ds with
  | [x,y]=>.nx ((env.set i (some x)).set j (some y)) s
  | _=>.bad
 fr:=true
 ok {q h L B O σ env s} c d:=by
  refine SOk.ex (f:=fun vs σ h=>match vs with | [v,w]=>.nx ((σ.set i (some v)).set j (some w)) h | _=>.bad) (g:=fun ds env s=>match ds with | [x,y]=>.nx ((env.set i (some x)).set j (some y)) s | _=>.bad) c d (a.ok c) fun xs vs h1 s1 kb c1 ⟨_,z⟩=>?_;have z:=z hz
  match xs,z with
  | [],_=>trivial
  | [_],_=>trivial
  | [x,y],z =>
   obtain⟨v,t,rfl,rv,t2⟩:=z;obtain⟨w,t3,rfl,rw',rfl⟩:=t2;obtain⟨a1,b1⟩:=c1.sr.set (i:=i) (fun z=>by simp[z] at hi) rv;obtain⟨a2,b2⟩:=a1.set (i:=j) (fun z=>by simp[z] at hj) rw';exact⟨_,h1,rfl,O,Stp.refl _ _ _ _,⟨c1.bd,c1.sub,c1.bb,c1.pb,c1.hL,c1.pen,a2⟩,(d.keep b1).keep b2⟩
  | _::_::_::_,_=>trivial
variable {env:aA} {s:Pen}
@[simp] theorem xPar_p:(xPar i j a hi hj hz).p env s=(a.p env s).go env fun ds env s=>match ds with
  | [x,y]=>.nx ((env.set i (some x)).set j (some y)) s
  | _=>.bad:=rfl
end
end
noncomputable section
def iO:List D->Option (List (Int × D))
 | []=>some []
 | .tup [.int k,v]::r=>(iO r).map ((k,v)::·)
 | _=>none
def dgD(x:D):Option (List (Int × D)):=match x with
 | .tup ps=>(match iO ps with
  | some kvs=>if (kvs.map (·.1)).Nodup then some kvs else none
  | none=>none)
 | _=>none
def Rkv(q:Nat)(h:MH)(O:List Nat):List (Int × D)->List (Int × PV)->Prop
 | [],r=>r=[]
 | a::t,r=>∃b u,r=b::u/\a.1=b.1/\Rp q h O a.2 b.2/\Rkv q h O t u
def wp:∀{ds:List D} {xs:List PV} {kvs:List (Int × D)},Rps q h O ds xs->iO ds=some kvs->∃ks,gK xs=some ks/\Rkv q h O kvs ks:=by
 intro ds
 induction ds with
 | nil=>intro xs kvs r e;rw[show xs=[] from r];cases e;exact⟨[],rfl,rfl⟩
 | cons d ds ih =>
  intro xs kvs r e;obtain⟨x,t,rfl,r1,r2⟩:=r;unfold iO at e
  split at e
  ·rename_i z;cases z
  ·rename_i k0 v0 r0 z
   injection z with z1 z2
   subst z1 z2;rw[qaB] at e;obtain⟨kvs',e1,rfl⟩:=e;obtain⟨ks,e2,e3⟩:=ih r2 e1;obtain⟨us,rfl,a,us1,rfl,ra,b,us2,rfl,rb,rfl⟩:=r1;rw[show a=PV.int k0 from ra];exact⟨(k0,b)::ks,by unfold gK;rw[e2];rfl,_,_,rfl,rfl,rb,e3⟩
  ·cases e
def Rkv.keys:∀{kvs:List (Int × D)} {ks:List (Int × PV)},Rkv q h O kvs ks->ks.map (·.1)=kvs.map (·.1)
 | [],_,r=>by rw[show _=[] from r];rfl
 | a::t,_,⟨b,u,e,e1,_,r⟩=>by rw[e,qao,qao,e1,Rkv.keys r]
def dg_inv(r:Rp q h O x v)(e:dgD x=some kvs):∃ks,dgP v=some ks/\Rkv q h O kvs ks:=by
 unfold dgD at e
 split at e
 ·rename_i ps
  split at e
  ·rename_i kvs' ep
   split at e
   ·rename_i nd
    cases e;obtain⟨xs,rfl,r⟩:=r;obtain⟨ks,e1,e2⟩:=wp r ep;refine⟨ks,?_,e2⟩;simp only[dgP,e1];rw[qan (by rw[e2.keys];exact nd)]
   ·cases e
  ·cases e
 ·cases e
section
variable {ws:List Nat}
def xCT(i j:Int):Xe ws where
 m:=mC (.tup [.int i,.int j])
 p:=fun _ s=>.ok (.tup [.int i,.int j]) s
 fz:=true
 fr:=true
 ok {q h L B O σ env s} c:=by
  have r:Rp q h O (.tup [.int i,.int j]) (.tup [.int i,.int j]):=⟨_,rfl,_,_,rfl,rfl,_,_,rfl,rfl,rfl⟩;exact⟨_,h,rfl,KB.refl _ _,c.pen,.inl r,fun _=>r,fun _ k ds e=>by cases k <;> cases e⟩
end
end
noncomputable section
variable {ws:List Nat}
end
end PU
namespace MM
open PySem PySem.Spec PyProof.Rows L2
def mBad:Mst:=fun _ _=>.bad
def vB{X:Cx}{st:Stmt}:MS X st mBad:=fun F6 s σ H D I ⟨ρ,σp,h,rs,rh,q⟩=>q.elim
end MM
namespace PU
open PySem MM
def xBad{ws:List Nat}:Xd ws where
 m:=mBad
 p:=fun _ _=>.bad
 fr:=true
 ok _ _:=trivial
end PU
namespace MM
open PySem PySem.Spec PyProof.Rows L2
abbrev CPm(scope sc:Scope)(vars frees:List Str):Prop:=(∀y∈scope.names,y.2=.cell->scope.names.lookup y.1=some .cell)/\(∀y∈scope.names,y.2=.local->scope.names.lookup y.1=some .local)/\(∀x∈vars,scope.names.lookup x=some .local\/scope.names.lookup x=some .cell)/\(∀x∈frees,scope.names.lookup x=some .free)/\(∀y∈scope.names,y.2=.free->y.1∈frees)/\(∀x∈frees,sc.names.lookup x=some .cell)
def sS{X:Cx}{N:List Str}{scope sc:Scope}{vars frees:List Str}{fm:List Nat}(hsc:X.env.scope=sc)(h1:scope.kind=.function)(h7:fm.map (fun i=>N[i]?)=frees.map some)(h:CPm scope sc vars frees):CompOk X N scope vars frees fm :=
 compOk hsc h1 h.1 h.2.1 h.2.2.1 h.2.2.2.1 h.2.2.2.2.1 h7 h.2.2.2.2.2
def ar1{Q:List Value->Prop}(h:∀a0,Q [a0]):∀us,us.length=1->Q us
 | [_],_=>h _
def ar2{Q:List Value->Prop}(h:∀a0 a1,Q [a0,a1]):∀us,us.length=2->Q us
 | [_,_],_=>h _ _
def ar3{Q:List Value->Prop}(h:∀a0 a1 a2,Q [a0,a1,a2]):∀us,us.length=3->Q us
 | [_,_,_],_=>h _ _ _
def ar4{Q:List Value->Prop}(h:∀a0 a1 a2 a3,Q [a0,a1,a2,a3]):∀us,us.length=4->Q us
 | [_,_,_,_],_=>h _ _ _ _
abbrev Zn(K:qac)(x:Str):Prop:=PySem.W.nsIn K mainGlobals x=some none
abbrev Nn(X:Cx)(x:Str):Prop:=X.mg x=none
abbrev Sc(X:Cx)(s:Stmt):Prop:=X.env.scope=aN s
abbrev Gd(X:Cx)(N G:List Str)(k:Nat):Prop:=Good X N N G k
structure Ba (P:Program) (w:World) (K:qac) (mg:Str->Option Value) (base:Heap):Prop where
 kin:K.In base
 ns:base.Ns mainGlobals mg
structure EE (X:Cx) (P:Program) (w:World) (K:qac) (mg:Str->Option Value) (base:Heap):Prop where
 e1:X.prog=P
 e2:X.w=w
 e3:X.K=K
 e4:X.mg=mg
 e5:X.base=base
 b:Ba P w K mg base
section
variable {P:Program} {w:World} {K:qac} {mg:Str→Option Value} {base:Heap} {X:Cx}
def EE.n(e:EE X P w K mg base){x:Str}(z:Zn K x):Nn X x:=by
 show X.mg x=none;rw[e.e4];exact PySem.W.mg_none_of e.b.kin e.b.ns z
def FnAt.c{x:Str}{ps:List Str}{F:List PV->MH->Out PV}{i j:Nat}(a:FnAt P w K mg base x ps F i)(e:EE X P w K mg base)(h:i<=j:=by decide):Cal X x ps F j :=
 (a.mono h).cal e.e1 e.e2 e.e3 e.e4 e.e5
def fnN{x:Str}{st:Stmt}{N G ps:List Str}{m:Mst}{k:Nat}(b:Ba P w K mg base)(D:DefAt K x st)(hb:∀X:Cx,EE X P w K mg base->Sc X st->Gd X N G k->DefCx X->MSs X (aK st) m)
  (B:kG x st ps:=by first | exact fun _ _ _ _ _ _=>ar1 fun _=>rfl | exact fun _ _ _ _ _ _=>ar2 fun _ _=>rfl | exact fun _ _ _ _ _ _=>ar3 fun _ _ _=>rfl | exact fun _ _ _ _ _ _=>ar4 fun _ _ _ _=>rfl | exact fun _ _ _ _ _ _=>ar5 fun _ _ _ _ _=>rfl)
  (S:FnScope N ps (aN st):=by exact⟨rfl,rfl,rfl,by decide +kernel,rfl,by decide +kernel,by decide +kernel⟩)
  (hl:∀y∈N,(aN st).names.lookup y=some .local\/(aN st).names.lookup y=some .cell:=by decide +kernel) (hgl:∀y∈G,(aN st).names.lookup y=some .globalImplicit:=by decide +kernel)
  (dbg:∀x∈N++G,(x == ("__debug__":Str))=false/\(x == ("__classdict__":Str))=false/\x≠"__name__":=by decide +kernel) :
  FnAt P w K mg base x ps (ba N.length ps.length m) (k+1) :=
 fnAt_M b.kin b.ns D S B hl hgl dbg fun X e1 e2 e3 e4 e5 e6 g dc=>hb X ⟨e1,e2,e3,e4,e5,b⟩ e6 g dc
end
structure YE (Y X:Cx):Prop where
 e1:Y.prog=X.prog
 e2:Y.w=X.w
 e3:Y.K=X.K
 e4:Y.mg=X.mg
 e5:Y.base=X.base
section
variable {X Y:Cx} {N W G:List Str} {k:Nat} {x:Str} {p pos:Pos} {e:Expr} {es:List Expr} {m:Mx (List PV)} {f:List PV→MH→Out PV}
def YE.n(y:YE Y X)(h:X.mg x=none):Y.mg x=none:=y.e4.symm▸h
def YE.c(y:YE Y X){ps:List Str}{F:List PV->MH->Out PV}{i:Nat}(c:Cal X x ps F i):Cal Y x ps F i:=c.at y.e1 y.e2 y.e3 y.e4 y.e5
def kV(g:Good X N W G k)(i:Nat)(hi:N[i]?=some x:=by rfl):ME X (.Name x pos) (ae i):=me_var g i hi
def kNm(g:Good X N W G k)(i:Nat)(hi:N[i]?=some x:=by rfl)(hw:W[i]?=some x:=by rfl):MG X (.Name x pos) (gNm i):=mg_name g i hi hw
def kIx{a b:Expr}{ma mb:Mx PV}(ha:ME X a ma)(hb:ME X b mb)(hs:kM b:=by exact fun _ _=>rfl):ME X (.Subscript a b pos) (ah aC ma mb):=me_ix ha hb hs
def kCm{op:CmpOp}{f:PV->PV->MH->Out PV}{a b:Expr}{ma mb:Mx PV}(ho:OpJ X (compareOp op) f)(ha:ME X a ma)(hb:ME X b mb)(hm:behindInMarks op b=false:=by first | exact nomark _ | rfl):ME X (.Compare a [op] [b] pos) (ah f ma mb):=me_cmp ho ha hb hm
def kTc{op:CmpOp}{f:PV->PV->MH->Out PV}{a b:Expr}{ma mb:Mx PV}(ho:OpJ X (compareOp op) f)(ha:ME X a ma)(hb:ME X b mb)(hm:behindInMarks op b=false:=by first | exact nomark _ | rfl):MT X (.Compare a [op] [b] pos) (mB (ah f ma mb)):=mt_cmp ho ha hb hm
def kCa(g:Good X N W G k)(j:Nat){ps:List Str}{F:List PV->MH->Out PV}(C:Cal X x ps F k)(ha:MA X (e::es) m)(hj:G[j]?=some x:=by rfl)
  (he:starEach (e::es) X.env=(false,eval e X.env)::starEach es X.env:=by rfl) (hpl:(backTo pos (starEach es X.env)).any (·.1)=false:=by rfl):ME X (.Call (.Name x p) (e::es) [] pos) (ay F m):=me_call g hj C ha he hpl
def kCb{id:String}(g:Good X N W G k)(j:Nat)(hc:dC X (.builtin id) f)(hm:X.mg x=none)(hv:bootBuiltins x=some (.builtin id))(ha:MA X (e::es) m)(hj:G[j]?=some x:=by rfl)
  (he:starEach (e::es) X.env=(false,eval e X.env)::starEach es X.env:=by rfl) (hpl:(backTo pos (starEach es X.env)).any (·.1)=false:=by rfl):ME X (.Call (.Name x p) (e::es) [] pos) (mCB f m):=xh g j hj hc hm hv ha he hpl
def kCt{T:String}(g:Good X N W G k)(j:Nat)(hc:dC X (.type T) f)(hm:X.mg x=none)(hv:bootBuiltins x=some (.type T))(ha:MA X (e::es) m)(hj:G[j]?=some x:=by rfl)
  (he:starEach (e::es) X.env=(false,eval e X.env)::starEach es X.env:=by rfl) (hpl:(backTo pos (starEach es X.env)).any (·.1)=false:=by rfl):ME X (.Call (.Name x p) (e::es) [] pos) (mCB f m):=wG g j hj hc hm hv ha he hpl
def kR1{tg a:Expr}(g:Good X N W G k)(j:Nat)(hm:X.mg "range"=none)(ha:MA X [a] m)(hj:G[j]?=some "range":=by rfl)(hs:starEach [a] X.env=[(false,eval a X.env)]:=by rfl):MI X tg (.Call (.Name "range" p) [a] [] pos) (bH m):=vn (g.gl _ (aX hj)) hm ha hs
def kEn{elts:List Expr}{x1:Nat}{tp:Pos}{a:Expr}(g:Good X N W G k)(j:Nat)(hm:X.mg "enumerate"=none)(ha:MA X [a] m)(hj:G[j]?=some (("enumerate":String):Str):=by rfl)(hs:starEach [a] X.env=[(false,eval a X.env)]:=by rfl):MI X (.Tuple elts x1 tp) (.Call (.Name "enumerate" p) [a] [] pos) (mItE m):=mi_enum g hj hm ha hs
section
variable {tg iter elt:Expr} {ifs:List Expr} {scope sc:Scope} {mi:Mx MIt} {gt:Mg} {mt:Mx Bool} {me:Mx PV}
def kCp(g:Good X N W G k)(hsc:X.env.scope=sc)(vars frees G':List Str)(fm:List Nat)(hi:MI X tg iter mi)(hY:∀Y:Cx,YE Y X->Good Y (vars++frees) vars G' k->MG Y tg gt/\MTs Y ifs mt/\ME Y elt me)
  (h1:scope.kind=.function:=by rfl) (h7:fm.map (fun i=>N[i]?)=frees.map some:=by rfl) (h:CPm scope sc vars frees:=by decide +kernel)
  (nd:(vars++frees).Nodup:=by decide +kernel) (hgl:∀x∈G',scope.names.lookup x=some .globalImplicit:=by decide +kernel) (dbg:∀x∈(vars++frees)++G',(x == ("__debug__":Str))=false/\(x == ("__classdict__":Str))=false/\x≠"__name__":=by decide +kernel)
  (hs:∀x,foldedSetIterable iter X.env x=pure x:=by exact fun _=>rfl):ME X (.ListComp elt [⟨tg,iter,ifs,0⟩] scope pos) (bh vars.length fm mi gt mt me) :=
 me_comp g (sS hsc h1 h7 h) nd hgl dbg hi (fun Y y1 y2 y3 y4 y5 _ g=>hY Y ⟨y1,y2,y3,y4,y5⟩ g) hs
def kSc{spos py:Pos}{y:Str}(g:Good X N W G k)(hsc:X.env.scope=sc)(i:Nat)(vars frees G':List Str)(fm:List Nat)(hi:MI X tg iter mi)(hY:∀Y:Cx,YE Y X->Good Y (vars++frees) vars G' k->MG Y tg gt/\MTs Y ifs mt/\ME Y elt me)
  (hsw:∀env:Env,env.scope=sc->swapsWith (.ListComp elt [⟨tg,iter,ifs,0⟩] scope pos) (some (.Name y py)) spos.line env=pure true:=by (intro env h;cases env;cases h;rfl))
  (hyi:N[i]?=some y:=by rfl) (hw:W[i]?=some y:=by rfl)
  (h1:scope.kind=.function:=by rfl) (h7:fm.map (fun i=>N[i]?)=frees.map some:=by rfl) (h:CPm scope sc vars frees:=by decide +kernel)
  (nd:(vars++frees).Nodup:=by decide +kernel) (hgl:∀x∈G',scope.names.lookup x=some .globalImplicit:=by decide +kernel) (dbg:∀x∈(vars++frees)++G',(x == ("__debug__":Str))=false/\(x == ("__classdict__":Str))=false/\x≠"__name__":=by decide +kernel)
  (hs:∀x,foldedSetIterable iter X.env x=pure x:=by exact fun _=>rfl):MS X (.Assign [.Name y py] (.ListComp elt [⟨tg,iter,ifs,0⟩] scope pos) spos) (aG i (bh vars.length fm mi gt mt me)) :=
 ms_setC g i hyi hw (hsw X.env hsc) (sS hsc h1 h7 h) nd hgl dbg hi (fun Y y1 y2 y3 y4 y5 _ g=>hY Y ⟨y1,y2,y3,y4,y5⟩ g) hs
end
end
abbrev iL:=@PyProof.Rows.Boot.«abs»
abbrev wf:=@PyProof.Rows.Boot.«min»
abbrev kf:=@PyProof.Rows.Boot.«int»
abbrev cO:=@PyProof.Rows.Boot.«len»
abbrev iI:=@PyProof.Rows.Boot.«list»
abbrev lB:=@PyProof.Rows.Boot.«tuple»
abbrev ug:=@PyProof.Rows.Boot.«bool»
abbrev bt_dict:=@PyProof.Rows.Boot.«dict»
abbrev fK:=@PySem.F.slot_list_append
abbrev fQ:=@PySem.F.type_list_append
abbrev sl_pop:=@PySem.F.slot_list_pop
abbrev sy_pop:=@PySem.F.type_list_pop
abbrev vJ:=@PySem.F.slot_list_insert
abbrev wN:=@PySem.F.type_list_insert
end MM
namespace PU
open PySem MM
open L2 (ixN atI fx)
local instance (priority:=1) cdecN15 (p:Prop):Decidable p:=Classical.propDecidable p
noncomputable section
section
variable {ws:List Nat}
end
end
noncomputable section
end
noncomputable section
end
end PU
namespace PU
open PySem MM
open L2 (ixN atI fx)
section
variable {ws:List Nat}
end
end PU
namespace PU
open PySem MM L2
def xFz{ws ws':List Nat}(i:Nat)(b:Xd ws')(hi:ws.contains i=true:=by exact ys rfl)(hw:ws.filter (· != i)=ws':=by exact ys rfl):Xd ws where
 m:=b.m
 p:=fun env s=>match env[i]? with
  | some (some _)=>(match b.p env s with | .rt d s=>.rt d s | _=>.bad)
  | _=>.bad
 fr:=b.fr
 ok {q h L B O σ env s} c d:=by
  show SOk q L h B O ws b.fr (b.m σ h) (match env[i]? with | some (some _)=>(match b.p env s with | .rt d s=>PS.rt d s | _=>.bad) | _=>.bad)
  cases e:env[i]? with
  | none=>trivial
  | some o =>
   cases o with
   | none=>trivial
   | some x =>
    have hi':i∈ws:=by simpa using hi
    obtain⟨n,kd,xs,ds,e1,e2,a,bb,g,r⟩:=c.sr.ow i x e hi';have mw:∀j,j∈ws'↔j∈ws/\j≠i:=fun j=>by rw[<-hw];simp
    have mo:∀o,o∈O.filter (· != n)↔o∈O/\o≠n:=fun o=>by simp
    have mv:Mv O h (O.filter (· != n)) h:=⟨fun _ _ _=>rfl,fun o ho=>.inl ((mo o).mp ho).1⟩;have c':Cx q h L B (O.filter (· != n)) ws' σ env s:=by
     refine⟨fun o ho=>c.bd o ((mo o).mp ho).1,fun o ho=>(mo o).mpr ⟨c.sub o ho,fun z=>by have:=c.bb o ho;lia⟩,c.bb,c.pb,c.hL,c.pen,c.sr.len,fun j y ey hj=>?_,fun j y ey hj=>?_⟩
     ·by_cases z:j=i
      ·subst z;rw[e] at ey;cases ey;subst e1;refine⟨_,e2,?_⟩;cases kd <;> exact⟨n,xs,rfl,fun z=>((mo n).mp z).2 rfl,g,r.mv mv⟩
      ·obtain⟨v,e3,q⟩:=c.sr.fz j y ey fun z'=>hj ((mw j).mpr ⟨z',z⟩);exact⟨v,e3,q.mv mv⟩
     ·obtain⟨hj1,hj2⟩:=(mw j).mp hj;obtain⟨n',kd',xs',ds',e3,e4,a',b',g',r'⟩:=c.sr.ow j y ey hj1;refine⟨n',kd',xs',ds',e3,e4,(mo n').mpr ⟨a',fun z=>?_⟩,b',g',r'.mv mv⟩;subst z;exact d i j hi' hj1 (Ne.symm hj2) x y _ e ey e2 e4
    have d':Dis ws' σ env:=fun j k hj hk=>d j k ((mw j).mp hj).1 ((mw k).mp hk).1;have k:=b.ok c' d'
    cases ep:b.p env s with
    | rt d s=>rw[ep] at k;exact k
    | _=>trivial
def xFz_p{ws ws':List Nat}{i:Nat}{b:Xd ws'}{hi:ws.contains i=true}{hw:ws.filter (· != i)=ws'}{env:aA}{s s':Pen}{x d:D}(e:env[i]?=some (some x))(h:b.p env s=.rt d s'):(xFz i b hi hw).p env s=.rt d s':=by
 show (match env[i]? with | some (some _)=>(match b.p env s with | .rt d s=>PS.rt d s | _=>.bad) | _=>.bad)=_;rw[e,h]
noncomputable section
inductive VwD (h:MH) (fz:Bool) (ks:List Int) (P:List PV->Prop) (v:PV):Prop
 | mk (n:Nat) (xs:List PV) (e:v=.loc n) (g:h[n]?=some (.dic fz ks xs)) (r:P xs):VwD h fz ks P v
def Vw.dic{q:Nat}{h:MH}{L:Nat}{O:List Nat}{v:PV}{fz:Bool}{ks:List Int}{ds:List D}(w:Vw q h L O (.dic fz ks ds) v):VwD h fz ks (Rps q h O ds) v:=by
 rcases w with ⟨n,xs,e,_,g,r⟩|⟨n,kd,xs,ds',e,e1,_,_,g,r⟩
 ·exact⟨n,xs,e,g,r⟩
 ·cases kd with
  | none=>cases e
  | some _=>cases e;exact⟨n,xs,e1,g,r⟩
def VwD.of{h:MH}{fz:Bool}{ks:List Int}{P:List PV->Prop}{v:PV}(w:VwD h fz ks P v):∃xs,bG h v=some (fz,ks,xs)/\P xs:=by
 obtain⟨n,xs,rfl,g,r⟩:=w;exact⟨xs,by simp only[bG,g],r⟩
def rQ{q:Nat}{h:MH}{O:List Nat}{ds:List D}{xs:List PV}{ks:List Int}(r:Rps q h O ds xs)(i:Int):match dix ks ds i with
  | some d=>∃v,dix ks xs i=some v/\Rp q h O d v
  | none=>dix ks xs i=none:=by
 induction ks generalizing ds xs with
 | nil=>cases ds <;> cases xs <;> rfl
 | cons k ks ih =>
  cases ds with
  | nil=>rw[show xs=[] from r];rfl
  | cons d ds =>
   obtain⟨x,t,rfl,a,b⟩:=r;unfold dix;by_cases e:k=i
   ·simp only[qan e];exact⟨_,rfl,a⟩
   ·simp only[qay e];exact ih b
def dput_rp{q:Nat}{h:MH}{O:List Nat}{ds:List D}{xs:List PV}{ks:List Int}{d:D}{v:PV}(r:Rps q h O ds xs)(w:Rp q h O d v)(i:Int):(dput ks ds i d).1=(dput ks xs i v).1/\Rps q h O (dput ks ds i d).2 (dput ks xs i v).2:=by
 induction ks generalizing ds xs with
 | nil=>exact⟨by simp[dput],by simpa [dput] using ⟨v,[],rfl,w,rfl⟩⟩
 | cons k ks ih =>
  cases ds with
  | nil=>rw[show xs=[] from r];exact⟨rfl,v,[],rfl,w,rfl⟩
  | cons d' ds =>
   obtain⟨x,t,rfl,a,b⟩:=r;unfold dput;by_cases e:k=i
   ·simp only[qan e];exact⟨trivial,v,t,rfl,w,b⟩
   ·simp only[qay e];obtain⟨i1,i2⟩:=ih b;exact⟨by rw[i1],x,_,rfl,a,i2⟩
def qd(neg:Bool):Op2 where
 m:=kF neg
 p:=fun a b=>match a,b with
  | .int i,.dic _ ks ds=>some (.bl (if neg then !(dix ks ds i).isSome else (dix ks ds i).isSome))
  | _,_=>none
 fr:=true
 ok {q h L O a x b y d} bd wa wb e:=by
  cases a with
  | int i =>
   cases b with
   | dic fz ks ds =>
    cases e;rw[wa.int];obtain⟨xs,e1,r⟩:=wb.dic.of;have z:(dix ks ds i).isSome=(dix ks xs i).isSome:=by
     have:=rQ (ks:=ks) r i
     cases e2:dix ks ds i with
     | none=>rw[e2] at this;rw[this];rfl
     | some d=>rw[e2] at this;obtain⟨v,e3,_⟩:=this;rw[e3];rfl
    simp only[kF,e1];rw[z];exact gvB
   | _=>cases e
  | _=>cases e
def lG:Op2 where
 m:=gc
 p:=fun a b=>match a,b with
  | .dic _ ks ds,.int i=>dix ks ds i
  | _,_=>none
 fr:=false
 ok {q h L O a x b y d} bd wa wb e:=by
  cases a with
  | dic fz ks ds =>
   cases b with
   | int i =>
    rw[wb.int];obtain⟨xs,e1,r⟩:=wa.dic.of;have z:=rQ (ks:=ks) r i;rw[show dix ks ds i=some d from e] at z;obtain⟨v,e3,rv⟩:=z;simp only[gc,e1,e3];exact gv0 rv fun z=>by cases z
   | _=>cases e
  | _=>cases e
def qZ:OpN where
 k:=fun xs h=>(fListD xs h).ne
 p:=fun as=>match as with
  | [.dic _ ks ds]=>if ks.length<=100000 then some (.lst (ks.map .int)) else none
  | _=>none
 fr:=true
 ok {q h L O as xs d} bd w e:=by
  match as,e with
  | [.dic fz ks ds],e =>
   dsimp only at e;obtain⟨x,rfl,wx⟩:=eV w;obtain⟨xs,e1,r⟩:=wx.dic.of;by_cases hl:ks.length<=100000
   ·rw[qan hl] at e;cases e;have e2:fListD [x] h=newL (ks.map .int) h:=by simp only[fListD,e1]
    rw[e2];obtain⟨v,g,e3,r3,r4⟩:=iJ (q:=q) bd (i9 (q:=q) (h:=h) (O:=O) ks) (by simpa using hl);exact⟨v,g,by rw[e3];rfl,r3,r4⟩
   ·rw[qay hl] at e;cases e
def oI{q:Nat}{h:MH}{O:List Nat}:∀{kvs:List (Int × D)} {ks:List (Int × PV)},Rkv q h O kvs ks->ks.map (·.1)=kvs.map (·.1)/\Rps q h O (kvs.map (·.2)) (ks.map (·.2))
 | [],ks,r=>by rw[show ks=[] from r];exact⟨rfl,rfl⟩
 | kv::kvs,ks,r=>by
  obtain⟨b0,ks',rfl,e,a,b⟩:=r;obtain⟨i1,i2⟩:=oI b;exact⟨by simp[i1,<-e],_,_,rfl,a,i2⟩
def cDict:OpN where
 k:=fun xs h=>(fDict xs h).ne
 p:=fun as=>match as with
  | [x]=>(dgD x).map fun kvs=>.dic false (kvs.map (·.1)) (kvs.map (·.2))
  | _=>none
 fr:=true
 ok {q h L O as xs d} bd w e:=by
  match as,e with
  | [x],e =>
   dsimp only at e;rw[qaB] at e;obtain⟨kvs,e1,rfl⟩:=e;obtain⟨v,rfl,wx⟩:=eV w;have rx:Rp q h O x v:=by
    rcases wx with r|⟨n,kd,xs,ds,e,_⟩
    ·exact r
    ·rw[e] at e1;cases kd <;> cases e1
   obtain⟨ks,e2,rk⟩:=dg_inv rx e1;obtain⟨s1,s2⟩:=oI rk;have g:(h++[MO.dic false (ks.map (·.1)) (ks.map (·.2))])[h.length]?=some (.dic false (kvs.map (·.1)) (ks.map (·.2))):=by rw[s1];simp
   have m:Mv O h O (h++[MO.dic false (ks.map (·.1)) (ks.map (·.2))]):=⟨fun n hn _=>qal hn,fun o ho=>.inl ho⟩
   have m2:Mv O h (h.length::O) (h++[MO.dic false (ks.map (·.1)) (ks.map (·.2))]):=⟨fun n hn _=>qal hn,fun o ho=>by
    rcases qam.mp ho with z|z
    ·exact .inr (by lia)
    ·exact .inl z⟩
   refine⟨.loc h.length,[.dic false (ks.map (·.1)) (ks.map (·.2))],?_,⟨_,_,rfl,fun z=>by have:=bd _ z;lia,g,s2.mv m⟩,fun _ k ds' e=>?_⟩
   ·have e3:fDict [v] h=.ok (.loc h.length) (h++[.dic false (ks.map (·.1)) (ks.map (·.2))]):=by simp only[fDict,e2]
    rw[e3];rfl
   ·cases k with
    | none=>cases e
    | some _=>cases e;exact⟨_,_,rfl,qai _,g,s2.mv m2⟩
variable {ws:List Nat}
def xDG(a:Xe ws)(as:Xs ws):Xe ws where
 m:=mDG a.m as.m
 p:=fun env s=>(a.p env s).bind fun x s1=>match x with
  | .dic _ ks ds=>(as.p env s1).bind fun y s2=>match y with
   | [.int i,d]=>.ok ((dix ks ds i).getD d) s2
   | _=>.bad
  | _=>.bad
 fz:=as.fz
 fr:=false
 ok {q h L B O σ env s} c:=by
  refine (a.ok c).bind fun x v h1 s1 k1 p1 ⟨w,_,_⟩=>?_
  cases x with
  | dic fz ks ds =>
   have c1:=c.kb k1 p1;obtain⟨n,xs,rfl,g,r⟩:=w.dic;have nq:n≠q:=by
    rcases w with ⟨n',xs',e,no,_⟩|⟨n',kd,xs',ds',_,e,_,hn,_⟩
    ·cases e;exact fun z=>no (z▸c.pO)
    ·cases e;have:=c.pL;lia
   have e1:bG h1 (.loc n)=some (fz,ks,xs):=by simp only[bG,g]
   dsimp only;rw[e1];dsimp only;refine (as.ok c1).bind fun y vs h2 s2 k2 p2 ⟨w2,z2⟩=>?_;have g2:h2[n]?=some (.dic fz ks xs):=(k2.keep n (aI g) nq).trans g;have e2:bG h2 (.loc n)=some (fz,ks,xs):=by simp only[bG,g2]
   have r2:=r.mv (k2.mv c.pO);by_cases hy:∃i d,y=[.int i,d]
   ·obtain⟨i,d,rfl⟩:=hy;obtain⟨v1,v2,rfl,u1,u2⟩:=vws2 w2;rw[u1.int,e2];dsimp only;have z:=rQ (ks:=ks) r2 i
    cases e3:dix ks ds i with
    | none =>
     rw[e3] at z;dsimp only at z;rw[z];refine⟨_,h2,rfl,KB.refl _ _,p2,u2,fun zz=>?_,fun z=>by cases z⟩;obtain⟨_,_,e5,_,_,_,e6,r6,_⟩:=z2 zz;cases e5;cases e6;exact r6
    | some d' =>
     rw[e3] at z;obtain⟨v',e4,rv⟩:=z;rw[e4];exact⟨_,h2,rfl,KB.refl _ _,p2,.inl rv,fun _=>rv,fun z=>by cases z⟩
   ·have:(match y with | [.int i,d]=>PR.ok ((dix ks ds i).getD d) s2 | _=>.bad)=PR.bad:=by
     split
     ·exact absurd ⟨_,_,rfl⟩ hy
     ·rfl
    rw[this];trivial
  | _=>trivial
@[simp] theorem xDG_p{a:Xe ws}{as:Xs ws}{env:aA}{s:Pen}:(xDG a as).p env s=(a.p env s).bind fun x s1=>match x with
  | .dic _ ks ds=>(as.p env s1).bind fun y s2=>match y with
   | [.int i,d]=>.ok ((dix ks ds i).getD d) s2
   | _=>.bad
  | _=>.bad:=rfl
def xItD(a:Xe ws):Xi ws where
 m:=mItD a.m
 p:=fun env s=>(a.p env s).bind fun x s1=>match x with
  | .dic true ks ds=>.ok (fU (ks.map .int) ds) s1
  | _=>.bad
 fz:=true
 ok {q h L B O σ env s} c:=by
  refine (a.ok c).bind fun x v h1 s1 k1 p1 ⟨w,z,_⟩=>?_
  cases x with
  | dic fz ks ds =>
   cases fz with
   | false=>trivial
   | true =>
    obtain⟨xs,e1,r⟩:=w.dic.of;rw[e1];exact⟨_,h1,rfl,KB.refl _ _,p1,nK (i9 ks) r,(fun _ hy=>nomatch hy),fun _ _ hy=>nomatch hy⟩
  | _=>trivial
@[simp] theorem xItD_p{a:Xe ws}{env:aA}{s:Pen}:(xItD a).p env s=(a.p env s).bind fun x s1=>match x with
  | .dic true ks ds=>.ok (fU (ks.map .int) ds) s1
  | _=>.bad:=rfl
def jn(i:Nat)(ix e:aA->Pen->PR D)(env:aA)(s:Pen):PS:=match e env s with
 | .ok v s1=>(match ix env s1 with
  | .ok (.int j) s2=>(match env[i]? with
   | some (some (.dic false ks ds))=>if ks.length<100000 then .nx (env.set i (some (.dic false (dput ks ds j v).1 (dput ks ds j v).2))) s2 else .bad
   | _=>.bad)
  | _=>.bad)
 | _=>.bad
def rC{i:Nat}{ix e:aA->Pen->PR D}{env:aA}{s s1 s2:Pen}{v:D}{j:Int}{ks:List Int}{ds:List D}(e1:e env s=.ok v s1)(e2:ix env s1=.ok (.int j) s2)(e3:env[i]?=some (some (.dic false ks ds)))(e4:ks.length<100000) :
  jn i ix e env s=.nx (env.set i (some (.dic false (dput ks ds j v).1 (dput ks ds j v).2))) s2:=by
 simp only[jn,e1,e2,e3];rw[qan e4]
def vy{i:Nat}{ix e:aA->Pen->PR D}{env:aA}{s:Pen}:jn i ix e env s=.bad\/∃v s1 j s2 ks ds,e env s=.ok v s1/\ix env s1=.ok (.int j) s2/\env[i]?=some (some (.dic false ks ds))/\ks.length<100000/\jn i ix e env s=.nx (env.set i (some (.dic false (dput ks ds j v).1 (dput ks ds j v).2))) s2:=by
 unfold jn;split
 ·rename_i v s1 e1
  split
  ·rename_i j s2 e2
   split
   ·rename_i ks ds e3
    by_cases h:ks.length<100000
    ·rw[qan h];exact .inr ⟨v,s1,j,s2,ks,ds,e1,e2,e3,h,rfl⟩
    ·rw[qay h];exact .inl rfl
   ·exact .inl rfl
  ·exact .inl rfl
 ·exact .inl rfl
def kI(i:Nat)(ix e:Xe ws)(hi:ws.contains i=true:=by exact ys rfl)(hz:e.fz=true:=by exact ys rfl):Xd ws where
 m:=kE (ae i) ix.m e.m
 p:=jn i ix.p e.p
 fr:=true
 ok {q h L B O σ env s} c d:=by
  rcases vy (i:=i) (e:=e.p) (ix:=ix.p) (env:=env) (s:=s) with z|⟨v,s1,j,s2,ks,ds,e1,e2,e3,e4,z⟩
  ·rw[z];trivial
  ·rw[z];have hi':i∈ws:=by simpa using hi
   have ke:=e.ok c;rw[e1] at ke;obtain⟨x,h1,f1,kb1,pn1,_,rx,_⟩:=ke;have c1:=c.kb kb1 pn1;have ki:=ix.ok c1;rw[e2] at ki;obtain⟨y,h2,f2,kb2,pn2,w,_,_⟩:=ki;have c2:=c1.kb kb2 pn2;obtain⟨nl,kd,xs,ds0,e0,es,b1,b2,g,r0⟩:=c2.sr.ow i _ e3 hi'
   cases kd with
   | none=>cases e0
   | some ks' =>
    cases e0;replace g:h2[nl]?=some (.dic false ks xs):=g;have hy:=w.int;subst hy;have em:ae i σ h1=.ok (.loc nl) h1:=by simp[ae,es]
    obtain⟨p1,p2⟩:=dput_rp (ks:=ks) r0 ((rx hz).mv (kb2.mv c.pO)) j;have nx:=qh (kd:=some (dput ks ds j v).1) c2 d hi' e3 es p2;refine⟨σ,h2.set nl (.dic false (dput ks ds j v).1 (dput ks xs j x).2),?_,nx.after ((kb1.trans kb2).stp c)⟩;have hz2:ks.length<sizeLine:=by have:=d9;lia
    unfold kE mEx;rw[f1];simp only[em,f2,bG,g];rw[qan hz2,p1]
def uf{i:Nat}{ix e:Xe ws}{hi hz}{env:aA}{s:Pen}:(kI i ix e hi hz).p env s=jn i ix.p e.p env s:=rfl
def xFzD{ws ws':List Nat}(i:Nat)(b:Xd ws')(hi:ws.contains i=true:=by exact ys rfl)(hw:ws.filter (· != i)=ws':=by exact ys rfl):Xd ws where
 m:=mFz i b.m
 p:=fun env s=>match env[i]? with
  | some (some (.dic false ks ds))=>(match b.p (env.set i (some (.dic true ks ds))) s with | .rt d s=>.rt d s | _=>.bad)
  | _=>.bad
 fr:=b.fr
 ok {q h L B O σ env s} c d:=by
  show SOk q L h B O ws b.fr (mFz i b.m σ h) (match env[i]? with | some (some (.dic false ks ds))=>(match b.p (env.set i (some (.dic true ks ds))) s with | .rt d s=>PS.rt d s | _=>.bad) | _=>.bad);split
  ·rename_i ks ds e
   have hi':i∈ws:=by simpa using hi
   obtain⟨n,kd,xs,ds0,e1,e2,a,bb,g,r⟩:=c.sr.ow i _ e hi'
   cases kd with
   | none=>cases e1
   | some _ =>
    cases e1;replace g:h[n]?=some (.dic false ks xs):=g;have mw:∀j,j∈ws'↔j∈ws/\j≠i:=fun j=>by rw[<-hw];simp
    have mo:∀o,o∈O.filter (· != n)↔o∈O/\o≠n:=fun o=>by simp
    have mv:Mv O h (O.filter (· != n)) (h.set n (.dic true ks xs)):=⟨fun m _ no=>qae fun (z:n=m)=>no (z▸a),fun o ho=>.inl ((mo o).mp ho).1⟩;have il:i<env.length:=(qaf.mp e).1;have hp:=c.pL;have c':Cx q (h.set n (.dic true ks xs)) L B (O.filter (· != n)) ws' σ (env.set i (some (.dic true ks ds))) s:=by
     refine⟨fun o ho=>by simpa using c.bd o ((mo o).mp ho).1,fun o ho=>(mo o).mpr ⟨c.sub o ho,fun z=>by have:=c.bb o ho;lia⟩,c.bb,c.pb,by simpa using c.hL,?_,by simp[c.sr.len],fun j y ey hj=>?_,fun j y ey hj=>?_⟩
     ·unfold bE;rw[qae (by lia)];exact c.pen
     ·by_cases z:i=j
      ·subst z;rw[qaA il] at ey;cases ey;exact⟨_,e2,n,xs,rfl,fun z=>((mo n).mp z).2 rfl,qaA (aI g),r.mv mv⟩
      ·rw[qae z] at ey;obtain⟨v,e3,q⟩:=c.sr.fz j y ey fun z'=>hj ((mw j).mpr ⟨z',fun q=>z q.symm⟩);exact⟨v,e3,q.mv mv⟩
     ·obtain⟨hj1,hj2⟩:=(mw j).mp hj;rw[qae (Ne.symm hj2)] at ey;obtain⟨n',kd',xs',ds',e3,e4,a',b',g',r'⟩:=c.sr.ow j y ey hj1;have ne:n'≠n:=fun z=>by
       subst z;exact d i j hi' hj1 (Ne.symm hj2) _ y _ e ey e2 e4
      exact⟨n',kd',xs',ds',e3,e4,(mo n').mpr ⟨a',ne⟩,b',by rw[qae (Ne.symm ne)];exact g',r'.mv mv⟩
    have d':Dis ws' σ (env.set i (some (.dic true ks ds))):=fun j k hj hk ne x y m ej ek=>by
     obtain⟨hj1,hj2⟩:=(mw j).mp hj;obtain⟨hk1,hk2⟩:=(mw k).mp hk;rw[qae (Ne.symm hj2)] at ej;rw[qae (Ne.symm hk2)] at ek;exact d j k hj1 hk1 ne x y m ej ek
    have k:=b.ok c' d';have em:mFz i b.m σ h=b.m σ (h.set n (.dic true ks xs)):=by unfold mFz;rw[e2];simp only[g]
    rw[em]
    cases ep:b.p (env.set i (some (.dic true ks ds))) s with
    | rt x s1 =>
     rw[ep] at k;obtain⟨v,h',f1,f2,f3,f4,f5,f6⟩:=k;exact⟨v,h',f1,by simpa using f2,fun m hm hq=>by rw[f3 m hm hq,qae (by lia)],f4,f5,f6⟩
    | _=>trivial
  ·trivial
def xFzD_p{ws ws':List Nat}{i:Nat}{b:Xd ws'}{hi:ws.contains i=true}{hw:ws.filter (· != i)=ws'}{env:aA}{s s':Pen}{ks:List Int}{ds:List D}{d:D}(e:env[i]?=some (some (.dic false ks ds)))(h:b.p (env.set i (some (.dic true ks ds))) s=.rt d s'):(xFzD i b hi hw).p env s=.rt d s':=by
 show (match env[i]? with | some (some (.dic false ks ds))=>(match b.p (env.set i (some (.dic true ks ds))) s with | .rt d s=>PS.rt d s | _=>.bad) | _=>.bad)=_;rw[e];dsimp only;rw[h]
def nr:OpM where
 m:=ni
 p:=fun ds as=>match as with
  | [.int i]=>if 0<=i/\i<2 ^ 62 then (ds[i.toNat]?).map fun d=>(d,ds.eraseIdx i.toNat) else none
  | _=>none
 ok {q h O n xs ds as vs d ds'} g r w e:=by
  match as,e with
  | [.int i],e =>
   obtain⟨x,t,rfl,u,z⟩:=w
   have:t=[]:=z
   subst this;rw[show x=PV.int i from u];dsimp only at e;by_cases hi:0<=i/\i<2 ^ 62
   ·rw[qan hi,qaB] at e;obtain⟨y,e1,e2⟩:=e;cases e2;obtain⟨v,e3,rv⟩:=r.get e1;refine⟨v,xs.eraseIdx i.toNat,?_,?_,rv⟩
    ·simp only[ni,g];rw[qan hi,e3]
    ·have er:∀{ds:List D} {xs:List PV} (k:Nat),Rps q h O ds xs->Rps q h O (ds.eraseIdx k) (xs.eraseIdx k):=by
      intro ds
      induction ds with
      | nil=>intro xs k r;rw[show xs=[] from r];rfl
      | cons d ds ih =>
       intro xs k r;obtain⟨x,t,rfl,a,b⟩:=r
       cases k with
       | zero=>exact b
       | succ k=>exact⟨x,_,rfl,a,ih k b⟩
     exact er _ r
   ·rw[qay hi] at e;cases e
end
end PU
namespace MM
open PySem PySem.Spec PyProof.Rows L2
section
variable {X:Cx} {a b:Expr} {pos:Pos} {k:Nat}
def rA:Expr->Bool
 | .Starred _ _=>false
 | _=>true
def pI(h:rA e=true):starEach (e::es) env=(false,eval e env)::starEach es env:=by
 cases e <;> first | rfl | cases h
def ma_con(ha:ME X e m)(hr:MA X es ms)(hp:rA e=true:=by rfl):MA X (e::es) (ac m ms):=af ha hr (pI hp)
structure ME1 (X:Cx) (e:Expr) (m:Mx PV):Prop where
 h:ME X e m
structure MAs (X:Cx) (es:List Expr) (ms:Mx (List PV)):Prop where
 h:MA X es ms
structure MS1 (X:Cx) (st:Stmt) (m:Mst):Prop where
 h:MS X st m
structure MS2 (X:Cx) (st:List Stmt) (m:Mst):Prop where
 h:MSs X st m
section
variable {e:Expr} {es:List Expr} {m ma mb:Mx PV} {ms:Mx (List PV)} {st:Stmt} {rest:List Stmt} {u v:Mst} {f:PV→PV→MH→Out PV} {N W G:List Str} {x:Str}
def aH:MAs X [] mNil:=⟨aj⟩
def al(ha:ME1 X e m)(hr:MAs X es ms)(hp:rA e=true:=by rfl):MAs X (e::es) (ac m ms):=⟨ma_con ha.h hr.h hp⟩
def e_1(h:ME X e m):ME1 X e m:=⟨h⟩
def l_1(h:MAs X es ms):ME1 X (.List es pos) (bq ms):=⟨dS h.h⟩
def t_1(h:MAs X es ms):ME1 X (.Tuple es j pos) (aY ms):=⟨me_tup h.h⟩
def b_1{op:Operator}{a b:Expr}(ho:OpJ X (binaryOp op) f)(ha:ME1 X a ma)(hb:ME1 X b mb):ME1 X (.BinOp a op b pos) (ah f ma mb):=⟨aw ho ha.h hb.h⟩
def i_1(ha:ME1 X a ma)(hb:ME1 X b mb)(hs:kM b:=by exact fun _ _=>rfl):ME1 X (.Subscript a b pos) (ah aC ma mb):=⟨me_ix ha.h hb.h hs⟩
def s_1(h:MS X st u):MS1 X st u:=⟨h⟩
def a_1(g:Good X N W G k)(i:Nat){pos':Pos}(he:ME1 X e m)(hi:N[i]?=some x:=by rfl)(hw:W[i]?=some x:=by rfl)(hs:swapsWith e (some (.Name x pos')) pos.line X.env=pure false:=by rfl) :
  MS1 X (.Assign [.Name x pos'] e pos) (aG i m):=⟨ms_set g i hi hw he.h hs⟩
def r_1(he:ME1 X e m):MS1 X (.Return (some e) pos) (aL m):=⟨ms_ret he.h⟩
def m1n(h:MS1 X st u):MS2 X [st] u:=⟨mss_one h.h⟩
def m1c(h1:MS1 X st u)(h2:MS2 X rest v):MS2 X (st::rest) (av u v):=⟨xu h1.h h2.h⟩
def m1z(i:Nat)(h:MS2 X rest v):MS2 X rest (mFz i v):=⟨ms_fz i h.h⟩
end
end
end MM
namespace Law
open PySem PySem.Spec PyProof.Rows L2 MM
set_option maxHeartbeats 4000000
noncomputable section
def m_is_whole:Mst:=(aL (ji (mUn (eS ["int"]) (ae 0)) (pP (mUn (eS ["bool"]) (ae 0)))))
def jd:List PV->MH->Out PV:=ba 1 1 m_is_whole
def m_greatest_shared:Mst:=(av (mWh (mB (ah opNe (ae 1) (mC (.int 0)))) (av (aG 2 (ah opMod (ae 0) (ae 1)))
 (av (aG 0 (ae 1))
 (aG 1 (ae 2)))))
 (aL (ae 0)))
def cK:List PV->MH->Out PV:=ba 3 2 m_greatest_shared
def m_number_of:Mst:=(av (mIf (mOr (dN (mB (ay jd (ac (ae 0) mNil)))) (dN (mB (ay jd (ac (ae 1) mNil))))) mBad mSkip)
 (av (mIf (mB (ah opEq (ae 1) (mC (.int 0)))) mBad mSkip)
 (av (aG 2 (ay cK (ac (mCB fAbs (ac (ae 0) mNil)) (ac (mCB fAbs (ac (ae 1) mNil)) mNil))))
 (av (mIf (mB (ah opLt (ae 1) (mC (.int 0)))) (aG 2 (mUn opNeg (ae 2))) mSkip)
 (aL (aY (ac (ah opFd (ae 0) (ae 2)) (ac (ah opFd (ae 1) (ae 2)) mNil))))))))
def cY:List PV->MH->Out PV:=ba 3 2 m_number_of
def m_minus:Mst:=(aL (ay cY (ac (ah opSub (ah opMul (ah aC (ae 0) (mC (.int 0))) (ah aC (ae 1) (mC (.int 1)))) (ah opMul (ah aC (ae 1) (mC (.int 0))) (ah aC (ae 0) (mC (.int 1))))) (ac (ah opMul (ah aC (ae 0) (mC (.int 1))) (ah aC (ae 1) (mC (.int 1)))) mNil))))
def tq:List PV->MH->Out PV:=ba 2 2 m_minus
def m_shared_bottom:Mst:=(av (aG 1 (mC (.int 1)))
 (av (cR (cp (ae 0)) (gNm 2) (aG 1 (ah opFd (ah opMul (ae 1) (ah aC (ae 2) (mC (.int 1)))) (ay cK (ac (ae 1) (ac (ah aC (ae 2) (mC (.int 1))) mNil))))))
 (aL (ae 1))))
def im:List PV->MH->Out PV:=ba 3 1 m_shared_bottom
def m_whole_row:Mst:=(av (aG 3 (mCB fDict (ac (ah aC (ah aC (ae 1) (ae 2)) (mC (.int 0))) mNil)))
 (av (aG 4 (ah opAdd (bh 1 [3] (bH (ac (ae 0) mNil)) (gNm 0) mTrue (mDG (ae 1) (ac (ae 0) (ac (mC (.tup [.int 0,.int 1])) mNil)))) (bq (ac (ah aC (ah aC (ae 1) (ae 2)) (mC (.int 1))) mNil))))
 (av (aG 5 (ay im (ac (ae 4) mNil)))
 (av (aG 6 (bh 1 [5,2] (bH (ac (mCB fLen (ac (ae 1) mNil)) mNil)) (gNm 0) mTrue (mIfE (mB (ah opEq (ae 0) (ae 2))) (ae 1) (mC (.int 0)))))
 (aL (ah opAdd (bh 1 [5] (cp (ae 4)) (gNm 0) mTrue (ah opMul (ah aC (ae 0) (mC (.int 0))) (ah opFd (ae 1) (ah aC (ae 0) (mC (.int 1)))))) (ae 6)))))))
def ln:List PV->MH->Out PV:=ba 7 3 m_whole_row
def m_cleared:Mst:=(aL (bh 2 [3,1,2,0] (mItZ (ac (ae 0) (ac (ae 1) mNil))) (gTp (gCn (gNm 0) (gCn (gNm 1) gNl)) 2) mTrue (ah opFd (ah opSub (ah opMul (ah aC (ae 3) (ae 4)) (ae 0)) (ah opMul (ah aC (ae 5) (ae 4)) (ae 1))) (ae 2))))
def jT:List PV->MH->Out PV:=ba 4 4 m_cleared
def m_reduced:Mst:=(av (aG 2 mDic)
 (av (aG 3 (bh 1 [0,1] (bH (ac (mCB fLen (ac (ae 1) mNil)) mNil)) (gNm 0) mTrue (ay ln (ac (ae 1) (ac (ae 2) (ac (ae 0) mNil))))))
 (av (aG 4 (mC (.int 1)))
 (av (cR (bH (ac (ae 0) mNil)) (gNm 5) (av (aG 6 (bh 2 [5] (mItE (ac (ae 3) mNil)) (gTp (gCn (gNm 0) (gCn (gNm 1) gNl)) 2) (mB (ah opNe (ah aC (ae 1) (ae 2)) (mC (.int 0)))) (ae 0)))
 (mIf (mTr (ae 6)) (av (aG 7 (mMt ni (ae 3) (ac (ah aC (ae 6) (mC (.int 0))) mNil)))
 (av (aG 3 (bh 1 [7,5,4] (cp (ae 3)) (gNm 0) mTrue (ay jT (ac (ae 0) (ac (ae 1) (ac (ae 2) (ac (ae 3) mNil)))))))
 (av (cR (cp (mCB fListD (ac (ae 2) mNil))) (gNm 8) (kE (ae 2) (ae 8) (ay jT (ac (ah gc (ae 2) (ae 8)) (ac (ae 7) (ac (ae 5) (ac (ae 4) mNil)))))))
 (av (kE (ae 2) (ae 5) (ae 7))
 (aG 4 (ah aC (ae 7) (ae 5))))))) mSkip)))
 (mFz 2 (aL (aY (ac (ae 2) (ac (ae 3) mNil)))))))))
def oS:List PV->MH->Out PV:=ba 9 2 m_reduced
def m_all_over:Mst:=(aL (bh 1 [1] (cp (ae 0)) (gNm 0) mTrue (ay cY (ac (ae 0) (ac (ae 1) mNil)))))
def jt:List PV->MH->Out PV:=ba 2 2 m_all_over
def m_value_at:Mst:=(av (mIf (mB (ah (kF true) (ae 1) (ae 0))) (aL (mC (.tup [.int 0,.int 1]))) mSkip)
 (aL (ay cY (ac (ah aC (ah gc (ae 0) (ae 1)) (ae 2)) (ac (ah aC (ah gc (ae 0) (ae 1)) (ae 1)) mNil)))))
def gi:List PV->MH->Out PV:=ba 3 3 m_value_at
def m_way_along:Mst:=(av (aG 3 (bh 1 [1,2] (bH (ac (ae 0) mNil)) (gNm 0) mTrue (ay tq (ac (mC (.tup [.int 0,.int 1])) (ac (ay gi (ac (ae 1) (ac (ae 0) (ac (ae 2) mNil)))) mNil)))))
 (av (gE (mC (.tup [.int 1,.int 1])) (gSb (ae 3) (ae 2)))
 (aL (ae 3))))
def kX:List PV->MH->Out PV:=ba 4 3 m_way_along
def m_answer:Mst:=(av (aG 2 (ay oS (ac (ae 0) (ac (ae 1) mNil))))
 (av (aG 3 (ah aC (ae 2) (mC (.int 0))))
 (av (cR (cp (ah aC (ae 2) (mC (.int 1)))) (gNm 4) (mIf (mB (ah opNe (ah aC (ae 4) (ae 0)) (mC (.int 0)))) (aL (aY (ac (mC (.str "none")) (ac (ay jt (ac (mSl (ae 4) (mPt (ah opAdd (ae 0) (mC (.int 1)))) mNo) (ac (ah aC (ae 4) (ae 0)) mNil))) mNil)))) mSkip))
 (av (aG 5 (bh 1 [3,0] (bH (ac (ae 0) mNil)) (gNm 0) mTrue (ay gi (ac (ae 1) (ac (ae 0) (ac (ae 2) mNil))))))
 (av (aG 6 (bh 2 [0] (mItD (ae 3)) (gTp (gCn (gNm 0) (gCn (gNm 1) gNl)) 2) mTrue (ay jt (ac (mSl (ae 1) (mPt (ah opAdd (ae 2) (mC (.int 1)))) mNo) (ac (ah aC (ae 1) (ae 0)) mNil)))))
 (av (aG 7 (bh 1 [0,3] (bH (ac (ae 0) mNil)) (gNm 0) (mB (ah (kF true) (ae 0) (ae 2))) (aY (ac (ae 0) (ac (ay kX (ac (ae 1) (ac (ae 2) (ac (ae 0) mNil)))) mNil)))))
 (av (mIf (mTr (ae 7)) (aL (aY (ac (mC (.str "many")) (ac (ae 5) (ac (ae 7) (ac (ae 6) mNil)))))) mSkip)
 (aL (aY (ac (mC (.str "one")) (ac (ae 5) (ac (ae 6) mNil))))))))))))
def gF:List PV->MH->Out PV:=ba 8 2 m_answer
def m_l_pen:Mst:=(av (aG 2 (ah opAdd (ah opMul (mC (.int 7919)) (ae 1)) (mC (.int 11))))
 (av (mIf (mB (ah opLt (ae 1) (mCB fMin (ac (mCB fLen (ac (ae 0) mNil)) (ac (mC (.int 63)) mNil))))) (aG 2 (ah aC (ae 0) (ae 1))) (mIf (mB (ah opGt (mCB fLen (ac (ae 0) mNil)) (mC (.int 0)))) (aG 2 (ah opAdd (ah opMod (ah aC (ae 0) (ah opMod (ae 1) (mCB fMin (ac (mCB fLen (ac (ae 0) mNil)) (ac (mC (.int 63)) mNil))))) (ah opPow (mC (.int 10)) (mC (.int 15)))) (ah opMul (mC (.int 48271)) (ae 1)))) mSkip))
 (av (mIf (mB (ah opGe (mCB fAbs (ac (ae 2) mNil)) (ah opPow (mC (.int 10)) (mC (.int 18))))) (aL (bq (ac (mC (.int 1)) (ac (mCB fAbs (ac (ae 2) mNil)) (ac (mC (.int 0)) mNil))))) mSkip)
 (aL (bq (ac (mC (.int 0)) (ac (ah opAdd (ah opMod (ae 2) (mC (.int 2147483587))) (ah opMul (mC (.int 40009)) (ae 1))) (ac (mC (.int 0)) mNil))))))))
def iK:List PV->MH->Out PV:=ba 3 2 m_l_pen
def m_l_draw:Mst:=(av (gE (ah opAdd (ah aC (ae 0) (mC (.int 2))) (mC (.int 1))) (gSb (ae 0) (mC (.int 2))))
 (av (mIf (mB (ah opEq (ah aC (ae 0) (mC (.int 0))) (mC (.int 1)))) (av (aG 3 (ah opMod (ah aC (ae 0) (mC (.int 1))) (ae 1)))
 (av (gE (ah opFd (ah aC (ae 0) (mC (.int 1))) (ae 1)) (gSb (ae 0) (mC (.int 1))))
 (aL (ae 3)))) mSkip)
 (av (aG 2 (ah opMod (ah opMul (ah opAdd (ah opAdd (ah aC (ae 0) (mC (.int 1))) (ah opMul (mC (.int 40503)) (ah aC (ae 0) (mC (.int 2))))) (mC (.int 1))) (mC (.int 48271))) (mC (.int 2147483647))))
 (av (aG 2 (ah opMod (ah opMul (ae 2) (ah opAdd (ah opAdd (ah opMod (ae 2) (mC (.int 65521))) (ah aC (ae 0) (mC (.int 2)))) (mC (.int 3)))) (mC (.int 2147483629))))
 (aL (ah opMod (ah opFd (ah opMod (ah opMul (ae 2) (ah opAdd (ah opMod (ae 2) (mC (.int 8191))) (mC (.int 7)))) (mC (.int 2147483563))) (mC (.int 64))) (ae 1)))))))
def aQ:List PV->MH->Out PV:=ba 4 2 m_l_draw
def m_l_lowest:Mst:=(av (ss 2 3 (ac (mCB fAbs (ac (ae 0) mNil)) (ac (mCB fAbs (ac (ae 1) mNil)) mNil)))
 (av (mWh (mB (ah opGt (ae 3) (mC (.int 0)))) (ss 2 3 (ac (ae 3) (ac (ah opMod (ae 2) (ae 3)) mNil))))
 (av (mIf (mB (ah opLt (ae 1) (mC (.int 0)))) (aG 2 (mUn opNeg (ae 2))) mSkip)
 (aL (aY (ac (ah opFd (ae 0) (ae 2)) (ac (ah opFd (ae 1) (ae 2)) mNil)))))))
def bB:List PV->MH->Out PV:=ba 4 2 m_l_lowest
def m_l_number:Mst:=(av (aG 1 (ay aQ (ac (ae 0) (ac (mC (.int 8)) mNil))))
 (av (mIf (mB (ah opEq (ae 1) (mC (.int 7)))) (aL (ay bB (ac (ah opAdd (ah opSub (ay aQ (ac (ae 0) (ac (ah opSub (ah opMul (mC (.int 2)) (ah opPow (mC (.int 10)) (mC (.int 6)))) (mC (.int 1))) mNil))) (ah opPow (mC (.int 10)) (mC (.int 6)))) (mC (.int 1))) (ac (ah opAdd (mC (.int 1)) (ay aQ (ac (ae 0) (ac (ah opSub (ah opPow (mC (.int 10)) (mC (.int 6))) (mC (.int 1))) mNil)))) mNil)))) mSkip)
 (aL (ay bB (ac (ah opSub (ay aQ (ac (ae 0) (ac (mC (.int 13)) mNil))) (mC (.int 6))) (ac (ah opAdd (mC (.int 1)) (ay aQ (ac (ae 0) (ac (ah aC (bq (ac (mC (.int 1)) (ac (mC (.int 1)) (ac (mC (.int 5)) mNil)))) (ah opMod (ae 1) (mC (.int 3)))) mNil)))) mNil))))))
def mD:List PV->MH->Out PV:=ba 2 1 m_l_number
def m_l_plus:Mst:=(aL (ay bB (ac (ah opAdd (ah opMul (ah aC (ae 0) (mC (.int 0))) (ah aC (ae 1) (mC (.int 1)))) (ah opMul (ah aC (ae 1) (mC (.int 0))) (ah aC (ae 0) (mC (.int 1))))) (ac (ah opMul (ah aC (ae 0) (mC (.int 1))) (ah aC (ae 1) (mC (.int 1)))) mNil))))
def gL:List PV->MH->Out PV:=ba 2 2 m_l_plus
def m_l_times:Mst:=(aL (ay bB (ac (ah opMul (ah aC (ae 0) (mC (.int 0))) (ah aC (ae 1) (mC (.int 0)))) (ac (ah opMul (ah aC (ae 0) (mC (.int 1))) (ah aC (ae 1) (mC (.int 1)))) mNil))))
def fO:List PV->MH->Out PV:=ba 2 2 m_l_times
def m_l_comes:Mst:=(av (aG 2 (aY (ac (mC (.int 0)) (ac (mC (.int 1)) mNil))))
 (av (cR (cp (ae 0)) (gTp (gCn (gNm 3) (gCn (gNm 4) gNl)) 2) (aG 2 (ay gL (ac (ae 2) (ac (ay fO (ac (ae 4) (ac (ah aC (ae 1) (ae 3)) mNil))) mNil)))))
 (aL (ae 2))))
def pA:List PV->MH->Out PV:=ba 5 2 m_l_comes
def m_l_of_all:Mst:=(aL (mCB fTuple (ac (bh 1 [1] (bH (ac (ae 0) mNil)) (gNm 0) (mB (ah opNe (ah aC (ah aC (ae 1) (ae 0)) (mC (.int 0))) (mC (.int 0)))) (aY (ac (ae 0) (ac (ah aC (ae 1) (ae 0)) mNil)))) mNil)))
def gp:List PV->MH->Out PV:=ba 2 2 m_l_of_all
def m_l_together:Mst:=(av (aG 3 (ah opMul (bq (ac (aY (ac (mC (.int 0)) (ac (mC (.int 1)) mNil))) mNil)) (ah opAdd (ae 0) (mC (.int 1)))))
 (av (cR (bH (ac (mCB fLen (ac (ae 1) mNil)) mNil)) (gNm 4) (av (cR (cp (ah aC (ah aC (ae 1) (ae 4)) (mC (.int 0)))) (gTp (gCn (gNm 5) (gCn (gNm 6) gNl)) 2) (gE (ay gL (ac (ah aC (ae 3) (ae 5)) (ac (ay fO (ac (ae 6) (ac (ah aC (ae 2) (ae 4)) mNil))) mNil))) (gSb (ae 3) (ae 5))))
 (gE (ay gL (ac (ah aC (ae 3) (ae 0)) (ac (ay fO (ac (ah aC (ah aC (ae 1) (ae 4)) (mC (.int 1))) (ac (ah aC (ae 2) (ae 4)) mNil))) mNil))) (gSb (ae 3) (ae 0)))))
 (aL (ae 3))))
def dy:List PV->MH->Out PV:=ba 7 3 m_l_together
def m_l_is_number:Mst:=(av (mIf (mOr (dN (mB (mUn (eS ["tuple"]) (ae 0)))) (mB (ah opNe (mCB fLen (ac (ae 0) mNil)) (mC (.int 2))))) (aL (mC (.bl false))) mSkip)
 (av (cR (cp (ae 0)) (gNm 1) (mIf (mOr (dN (mB (mUn (eS ["int"]) (ae 1)))) (mB (mUn (eS ["bool"]) (ae 1)))) (aL (mC (.bl false))) mSkip))
 (aL (ji (ah opGt (ah aC (ae 0) (mC (.int 1))) (mC (.int 0))) (ah opEq (ay bB (ac (ah aC (ae 0) (mC (.int 0))) (ac (ah aC (ae 0) (mC (.int 1))) mNil))) (ae 0))))))
def jE:List PV->MH->Out PV:=ba 2 1 m_l_is_number
def m_l_numbers:Mst:=(aL (ji (mUn (eS ["list"]) (ae 0)) (ji (ah opEq (mCB fLen (ac (ae 0) mNil)) (ae 1)) (ah (nX true) (mC (.bl false)) (bh 1 [] (cp (ae 0)) (gNm 0) mTrue (ay jE (ac (ae 0) mNil)))))))
def dY:List PV->MH->Out PV:=ba 2 2 m_l_numbers
def m_l_mixes_right:Mst:=(av (aG 4 (bh 1 [2] (bH (ac (ae 0) mNil)) (gNm 0) (mB (ah (nX true) (ae 0) (ae 1))) (ae 0)))
 (av (mIf (mOr (dN (mB (mUn (eS ["list"]) (ae 3)))) (mB (ah opNe (mCB fLen (ac (ae 3) mNil)) (mCB fLen (ac (ae 4) mNil))))) (aL (mC (.bl false))) mSkip)
 (av (cR (mItZ (ac (ae 4) (ac (ae 3) mNil))) (gTp (gCn (gNm 5) (gCn (gNm 6) gNl)) 2) (av (mIf (dN (mB (ay dY (ac (ae 6) (ac (mCB fLen (ac (ae 1) mNil)) mNil))))) (aL (mC (.bl false))) mSkip)
 (av (aG 7 (ay dy (ac (ae 0) (ac (ae 1) (ac (ae 6) mNil)))))
 (mIf (mB (ah opNe (bh 1 [7] (cp (ae 4)) (gNm 0) mTrue (ah aC (ae 1) (ae 0))) (bh 1 [5] (cp (ae 4)) (gNm 0) mTrue (aY (ac (mCB fInt (ac (ah opEq (ae 0) (ae 1)) mNil)) (ac (mC (.int 1)) mNil)))))) (aL (mC (.bl false))) mSkip))))
 (aL (mC (.bl true))))))
def dh:List PV->MH->Out PV:=ba 8 4 m_l_mixes_right
def m_l_shuffled:Mst:=(av (aG 2 (bq mNil))
 (av (cR (cp (ae 1)) (gNm 3) (dE (mMt iP (ae 2) (ac (ay aQ (ac (ae 0) (ac (ah opAdd (mCB fLen (ac (ae 2) mNil)) (mC (.int 1))) mNil))) (ac (ae 3) mNil)))))
 (aL (ae 2))))
def gN:List PV->MH->Out PV:=ba 4 2 m_l_shuffled
def m_l_of:Mst:=(av (mIf (mB (ah opGt (ae 1) (mC (.int 7)))) (aL (ay bB (ac (ah opSub (ay aQ (ac (ae 0) (ac (mC (.int 13)) mNil))) (mC (.int 6))) (ac (ah opAdd (mC (.int 1)) (ay aQ (ac (ae 0) (ac (mC (.int 3)) mNil)))) mNil)))) mSkip)
 (aL (ay mD (ac (ae 0) mNil))))
def iF:List PV->MH->Out PV:=ba 2 2 m_l_of
def m_l_made:Mst:=(av (aG 3 (ay gN (ac (ae 0) (ac (mLR (ac (ae 1) mNil)) mNil))))
 (av (aG 4 (bq mNil))
 (av (cR (bH (ac (ae 1) mNil)) (gNm 5) (av (aG 8 (ah opMul (bq (ac (aY (ac (mC (.int 0)) (ac (mC (.int 1)) mNil))) mNil)) (ae 1)))
 (av (aG 9 (ay iF (ac (ae 0) (ac (ae 1) mNil))))
 (av (gE (ah aC (bq (ac (ae 9) (ac (aY (ac (ah opAdd (mC (.int 1)) (ay aQ (ac (ae 0) (ac (mC (.int 9)) mNil)))) (ac (mC (.int 1)) mNil))) mNil))) (mCB fInt (ac (ah opEq (ah aC (ae 9) (mC (.int 0))) (mC (.int 0))) mNil))) (gSb (ae 8) (ah aC (ae 3) (ae 5))))
 (av (cR (cp (mSl (ae 3) mNo (mPt (ae 5)))) (gNm 10) (mIf (mB (ah opEq (ay aQ (ac (ae 0) (ac (mC (.int 3)) mNil))) (mC (.int 0)))) (gE (ay iF (ac (ae 0) (ac (ae 1) mNil))) (gSb (ae 8) (ae 10))) mSkip))
 (dE (mMt ck (ae 4) (ac (aY (ac (ay gp (ac (ae 1) (ac (ae 8) mNil))) (ac (aY (ac (mC (.int 0)) (ac (mC (.int 1)) mNil))) mNil))) mNil))))))))
 (av (aG 6 (bq mNil))
 (av (cR (cp (ae 4)) (gNm 7) (av (aG 11 (ah opAdd (bh 1 [0] (cp (ae 6)) (gNm 0) mTrue (aY (ac (ah opSub (ay aQ (ac (ae 1) (ac (mC (.int 3)) mNil))) (mC (.int 1))) (ac (mC (.int 1)) mNil)))) (bq (ac (aY (ac (mC (.int 1)) (ac (mC (.int 1)) mNil))) mNil))))
 (av (aG 12 (ay dy (ac (ae 1) (ac (ah opAdd (ae 6) (bq (ac (ae 7) mNil))) (ac (ae 11) mNil)))))
 (dE (mMt ck (ae 6) (ac (aY (ac (ay gp (ac (ae 1) (ac (mSl (ae 12) mNo (mPt (ae 1))) mNil))) (ac (aY (ac (mC (.int 0)) (ac (mC (.int 1)) mNil))) mNil))) mNil))))))
 (av (cR (bH (ac (ay aQ (ac (ae 0) (ac (mC (.int 5)) mNil))) mNil)) (gNm 5) (av (aG 11 (bh 1 [0] (cp (ae 6)) (gNm 0) mTrue (aY (ac (ah opSub (ay aQ (ac (ae 1) (ac (mC (.int 5)) mNil))) (mC (.int 2))) (ac (mC (.int 1)) mNil)))))
 (dE (mMt ck (ae 6) (ac (aY (ac (ay gp (ac (ae 1) (ac (mSl (ay dy (ac (ae 1) (ac (ae 6) (ac (ae 11) mNil)))) mNo (mPt (ae 1))) mNil))) (ac (aY (ac (mC (.int 0)) (ac (mC (.int 1)) mNil))) mNil))) mNil)))))
 (aL (bh 2 [2] (cp (ay gN (ac (ae 0) (ac (ae 6) mNil)))) (gTp (gCn (gNm 0) (gCn (gNm 1) gNl)) 2) mTrue (aY (ac (ae 0) (ac (ay pA (ac (ae 0) (ac (ae 2) mNil))) mNil)))))))))))
def lE:List PV->MH->Out PV:=ba 13 3 m_l_made
def m_law:Mst:=(av (cR (bH (ac (mC (.int 2)) mNil)) (gNm 1) (av (aG 2 (ay iK (ac (ae 0) (ac (ae 1) mNil))))
 (av (aG 3 (ah aC (bq (ac (ay aQ (ac (ae 2) (ac (mC (.int 8)) mNil))) (ac (mC (.int 12)) mNil))) (mCB fInt (ac (ah opEq (ay aQ (ac (ae 2) (ac (mC (.int 8)) mNil))) (mC (.int 7))) mNil))))
 (av (aG 4 (bh 1 [2,3] (bH (ac (ae 3) mNil)) (gNm 0) mTrue (ay iF (ac (ae 1) (ac (ae 2) mNil)))))
 (av (aG 5 (ay lE (ac (ae 2) (ac (ae 3) (ac (ae 4) mNil)))))
 (av (aG 6 (mCB fList (ac (ae 5) mNil)))
 (av (aG 7 (ay gF (ac (ae 3) (ac (ae 6) mNil))))
 (av (mIf (mOr (dN (mB (mUn (eS ["tuple"]) (ae 7)))) (mOr (mB (ah opNe (mSl (ae 7) mNo (mPt (mC (.int 2)))) (aY (ac (mC (.str "one")) (ac (ae 4) mNil))))) (mOr (mB (ah opNe (mCB fLen (ac (ae 7) mNil)) (mC (.int 3)))) (mB (ah opNe (ae 6) (ae 5)))))) (aL (mC (.bl false))) mSkip)
 (av (mIf (mOr (dN (mB (ay dY (ac (ah aC (ae 7) (mC (.int 1))) (ac (ae 3) mNil))))) (dN (mB (ay dh (ac (ae 3) (ac (ae 5) (ac (bq mNil) (ac (ah aC (ae 7) (mC (.int 2))) mNil)))))))) (aL (mC (.bl false))) mSkip)
 (av (dE (mMt ck (ah aC (ae 7) (mC (.int 1))) (ac (aY (ac (mC (.int 7)) (ac (mC (.int 1)) mNil))) mNil)))
 (av (dE (mMt ck (ah aC (ae 7) (mC (.int 2))) (ac (bq mNil) mNil)))
 (av (aG 8 (ay gF (ac (ae 3) (ac (mCB fList (ac (ae 5) mNil)) mNil))))
 (mIf (mOr (mB (ah opNe (mSl (ae 8) mNo (mPt (mC (.int 2)))) (aY (ac (mC (.str "one")) (ac (ae 4) mNil))))) (dN (mB (ay dh (ac (ae 3) (ac (ae 5) (ac (bq mNil) (ac (ah aC (ae 8) (mC (.int 2))) mNil)))))))) (aL (mC (.bl false))) mSkip)))))))))))))
 (av (mIf (mB (ah opNe (ay gF (ac (mC (.int 0)) (ac (bq mNil) mNil))) (aY (ac (mC (.str "one")) (ac (bq mNil) (ac (bq mNil) mNil)))))) (aL (mC (.bl false))) mSkip)
 (aL (ah opEq (ay gF (ac (mC (.int 1)) (ac (bq (ac (aY (ac (aY (ac (aY (ac (mC (.int 0)) (ac (aY (ac (mC (.int 2)) (ac (mC (.int 1)) mNil))) mNil))) mNil)) (ac (aY (ac (mC (.int 1)) (ac (mC (.int 1)) mNil))) mNil))) mNil)) mNil))) (aY (ac (mC (.str "one")) (ac (bq (ac (aY (ac (mC (.int 1)) (ac (mC (.int 2)) mNil))) mNil)) (ac (bq (ac (bq (ac (aY (ac (mC (.int 1)) (ac (mC (.int 2)) mNil))) mNil)) mNil)) mNil))))))))
def f_law:List PV->MH->Out PV:=ba 9 1 m_law
end
end Law
namespace Law
open PySem MM PU
open L2 (ixN atI fx)
set_option maxHeartbeats 4000000
noncomputable section
def iU:Xd []:=(aT (lW (xUn (dL ["int"]) (ab 0)) (xNotV (xUn (dL ["bool"]) (ab 0)))))
def gj:Fn:=bR 1 1 iU
def sG{ds:List D}{s:Pen}(h:ds.length=1):gj.p ds s=(iU.p (dSt 1 ds) s).fin:=bp h
def dJ:Xd []:=(aB (xWh 2000000 (xB (ai oNe (ab 1) (xC (.int 0)))) (aB (aS 2 (ai lx (ab 0) (ab 1)))
 (aB (aS 0 (ab 1))
 (aS 1 (ab 2)))) nG)
 (aT (ab 0)))
def bZ:Fn:=bR 3 2 dJ
def kn{ds:List D}{s:Pen}(h:ds.length=2):bZ.p ds s=(dJ.p (dSt 3 ds) s).fin:=bp h
def iy:Xd []:=(aB (xIf (xOr (eA (xB (aq gj (aa (ab 0) xNil)))) (eA (xB (aq gj (aa (ab 1) xNil))))) xBad xSkip)
 (aB (xIf (xB (ai oEq (ab 1) (xC (.int 0)))) xBad xSkip)
 (aB (aS 2 (aq bZ (aa (xCb qi (aa (ab 0) xNil)) (aa (xCb qi (aa (ab 1) xNil)) xNil))))
 (aB (xIf (xB (ai oLt (ab 1) (xC (.int 0)))) (aS 2 (xUn oNeg (ab 2))) xSkip)
 (aT (aO (aa (ai oFd (ab 0) (ab 2)) (aa (ai oFd (ab 1) (ab 2)) xNil))))))))
def cE:Fn:=bR 3 2 iy
def rB{ds:List D}{s:Pen}(h:ds.length=2):cE.p ds s=(iy.p (dSt 3 ds) s).fin:=bp h
def B_minus:Xd []:=(aT (aq cE (aa (ai eB (ai bW (ai oIx (ab 0) (xC (.int 0))) (ai oIx (ab 1) (xC (.int 1)))) (ai bW (ai oIx (ab 1) (xC (.int 0))) (ai oIx (ab 0) (xC (.int 1))))) (aa (ai bW (ai oIx (ab 0) (xC (.int 1))) (ai oIx (ab 1) (xC (.int 1)))) xNil))))
def F_minus:Fn:=bR 2 2 B_minus
def e9:Xd []:=(aB (aS 1 (xC (.int 1)))
 (aB (dg (bj (ab 0)) (xNm 2) (aS 1 (ai oFd (ai bW (ab 1) (ai oIx (ab 2) (xC (.int 1)))) (aq bZ (aa (ab 1) (aa (ai oIx (ab 2) (xC (.int 1))) xNil))))))
 (aT (ab 1))))
def eU:Fn:=bR 3 1 e9
def lK{ds:List D}{s:Pen}(h:ds.length=1):eU.p ds s=(e9.p (dSt 3 ds) s).fin:=bp h
def iq:Xd []:=(aB (aS 3 (xCb cDict (aa (ai oIx (ai oIx (ab 1) (ab 2)) (xC (.int 0))) xNil)))
 (aB (aS 4 (ai bN (bg 1 [3] (bO iR1 (aa (ab 0) xNil)) (ws':=[]) (xNm 0) xTrue (xDG (ab 1) (aa (ab 0) (aa (xCT 0 1) xNil)))) (bX (aa (ai oIx (ai oIx (ab 1) (ab 2)) (xC (.int 1))) xNil))))
 (aB (aS 5 (aq eU (aa (ab 4) xNil)))
 (aB (aS 6 (bg 1 [5,2] (bO iR1 (aa (xCb du (aa (ab 1) xNil)) xNil)) (ws':=[]) (xNm 0) xTrue (xIfE (xB (ai oEq (ab 0) (ab 2))) (ab 1) (xC (.int 0)) true)))
 (aT (ai bN (bg 1 [5] (bj (ab 4)) (ws':=[]) (xNm 0) xTrue (ai bW (ai oIx (ab 0) (xC (.int 0))) (ai oFd (ab 1) (ai oIx (ab 0) (xC (.int 1)))))) (ab 6)))))))
def dR:Fn:=bR 7 3 iq
def rW{ds:List D}{s:Pen}(h:ds.length=3):dR.p ds s=(iq.p (dSt 7 ds) s).fin:=bp h
def jK:Xd []:=(aT (bg 2 [3,1,2,0] (bO iZ (aa (ab 0) (aa (ab 1) xNil))) (ws':=[]) (xGp (xGc (xNm 0) (xGc (xNm 1) xGl)) 2) xTrue (ai oFd (ai eB (ai bW (ai oIx (ab 3) (ab 4)) (ab 0)) (ai bW (ai oIx (ab 5) (ab 4)) (ab 1))) (ab 2))))
def cB:Fn:=bR 4 4 jK
def vg{ds:List D}{s:Pen}(h:ds.length=4):cB.p ds s=(jK.p (dSt 4 ds) s).fin:=bp h
def kc:Xd [2,3]:=(aB (d7 2 xDic)
 (aB (d7 3 (bg 1 [0,1] (bO iR1 (aa (xCb du (aa (ab 1) xNil)) xNil)) (ws':=[]) (xNm 0) xTrue (aq dR (aa (ab 1) (aa (ab 2) (aa (ab 0) xNil))))))
 (aB (aS 4 (xC (.int 1)))
 (aB (dg (bO iR1 (aa (ab 0) xNil)) (xNm 5) (aB (aS 6 (bg 2 [5] (bO iE (aa (ab 3) xNil)) (ws':=[]) (xGp (xGc (xNm 0) (xGc (xNm 1) xGl)) 2) (xB (ai oNe (ai oIx (ab 1) (ab 2)) (xC (.int 0)))) (ab 0)))
 (xIf (xTr (ab 6)) (aB (xMtS 7 nr 3 (aa (ai oIx (ab 6) (xC (.int 0))) xNil))
 (aB (d7 3 (bg 1 [7,5,4] (bj (ab 3)) (ws':=[]) (xNm 0) xTrue (aq cB (aa (ab 0) (aa (ab 1) (aa (ab 2) (aa (ab 3) xNil)))))))
 (aB (dg (bj (xCb qZ (aa (ab 2) xNil))) (xNm 8) (kI 2 (ab 8) (aq cB (aa (ai lG (ab 2) (ab 8)) (aa (ab 7) (aa (ab 5) (aa (ab 4) xNil)))))))
 (aB (kI 2 (ab 5) (ab 7))
 (aS 4 (ai oIx (ab 7) (ab 5))))))) xSkip)))
 (xFzD (ws':=[3]) 2 (xFz (ws':=[]) 3 (aT (aO (aa (ab 2) (aa (ab 3) xNil))))))))))
def jQ:Fn:=bR 9 2 kc
def uw{ds:List D}{s:Pen}(h:ds.length=2):jQ.p ds s=(kc.p (dSt 9 ds) s).fin:=bp h
def jv:Xd []:=(aT (bg 1 [1] (bj (ab 0)) (ws':=[]) (xNm 0) xTrue (aq cE (aa (ab 0) (aa (ab 1) xNil)))))
def cT:Fn:=bR 2 2 jv
def sy{ds:List D}{s:Pen}(h:ds.length=2):cT.p ds s=(jv.p (dSt 2 ds) s).fin:=bp h
def jz:Xd []:=(aB (xIf (xB (ai (qd true) (ab 1) (ab 0))) (aT (xCT 0 1)) xSkip)
 (aT (aq cE (aa (ai oIx (ai lG (ab 0) (ab 1)) (ab 2)) (aa (ai oIx (ai lG (ab 0) (ab 1)) (ab 1)) xNil)))))
def dI:Fn:=bR 3 3 jz
def sC{ds:List D}{s:Pen}(h:ds.length=3):dI.p ds s=(jz.p (dSt 3 ds) s).fin:=bp h
def sD:Xd [3]:=(aB (d7 3 (bg 1 [1,2] (bO iR1 (aa (ab 0) xNil)) (ws':=[]) (xNm 0) xTrue (aq F_minus (aa (xCT 0 1) (aa (aq dI (aa (ab 1) (aa (ab 0) (aa (ab 2) xNil)))) xNil)))))
 (aB (gA 3 (xCT 1 1) (ab 2))
 (pM 3)))
def k9:Fn:=bR 4 3 sD
def ly:Xd []:=(aB (aS 2 (aq jQ (aa (ab 0) (aa (ab 1) xNil))))
 (aB (aS 3 (ai oIx (ab 2) (xC (.int 0))))
 (aB (dg (bj (ai oIx (ab 2) (xC (.int 1)))) (xNm 4) (xIf (xB (ai oNe (ai oIx (ab 4) (ab 0)) (xC (.int 0)))) (aT (aO (aa (xC (.str "none")) (aa (aq cT (aa (xSl (ab 4) (xPt (ai bN (ab 0) (xC (.int 1)))) xNo) (aa (ai oIx (ab 4) (ab 0)) xNil))) xNil)))) xSkip))
 (aB (aS 5 (bg 1 [3,0] (bO iR1 (aa (ab 0) xNil)) (ws':=[]) (xNm 0) xTrue (aq dI (aa (ab 1) (aa (ab 0) (aa (ab 2) xNil))))))
 (aB (aS 6 (bg 2 [0] (xItD (ab 3)) (ws':=[]) (xGp (xGc (xNm 0) (xGc (xNm 1) xGl)) 2) xTrue (aq cT (aa (xSl (ab 1) (xPt (ai bN (ab 2) (xC (.int 1)))) xNo) (aa (ai oIx (ab 1) (ab 0)) xNil)))))
 (aB (aS 7 (bg 1 [0,3] (bO iR1 (aa (ab 0) xNil)) (ws':=[]) (xNm 0) (xB (ai (qd true) (ab 0) (ab 2))) (aO (aa (ab 0) (aa (aq k9 (aa (ab 1) (aa (ab 2) (aa (ab 0) xNil)))) xNil)))))
 (aB (xIf (xTr (ab 7)) (aT (aO (aa (xC (.str "many")) (aa (ab 5) (aa (ab 7) (aa (ab 6) xNil)))))) xSkip)
 (aT (aO (aa (xC (.str "one")) (aa (ab 5) (aa (ab 6) xNil))))))))))))
def cG:Fn:=bR 8 2 ly
def wm{ds:List D}{s:Pen}(h:ds.length=2):cG.p ds s=(ly.p (dSt 8 ds) s).fin:=bp h
def oB{h:MH}{p:Nat}{o:MO}(hp:p<h.length):(h.set p o)[p]?=some o:=qaA hp
def ix2:ixN 3 2=some 2:=gw (n:=3) (m:=2) (by decide)
def ix1:ixN 3 1=some 1:=gw (n:=3) (m:=1) (by decide)
def iM(s:Pen)(size:Int)(hs:0<size)(hl:size.natAbs.log2<9000):∃x:Int × Int,(0<=x.1/\x.1<size)/\∀(h:MH) (p:Nat),bE h p s->aQ [.loc p,.int size] h=.ok (.int x.1) (h.set p (.lst [.int s.1,.int x.2,.int (s.2.2+1)])):=by
 obtain⟨m,c,t⟩:=s;have hs0:size≠0:=by ext
 have st:∀n:Int,0<=n.fmod size/\n.fmod size<size:=fun n=>by
  rw[qbl n (by ext)];exact⟨qbF n hs0,qby n hs⟩
 by_cases hm:m=1
 ·subst hm;refine⟨(c.fmod size,c.fdiv size),st c,fun h p e=>?_⟩;have e:h[p]?=some (.lst [.int 1,.int c,.int t]):=e;have hp:p<h.length:=(qaf.mp e).1;have e2:(h.set p (.lst [.int 1,.int c,.int (t+1)]))[p]?=some (.lst [.int 1,.int c,.int (t+1)]):=oB hp;unfold aQ;refine (kK (by rfl)).trans ?_;unfold m_l_draw;simp[b9,List.replicate,i3 e,lH e,ix2,i3 e2,fw hs0,tL hs0,lH e2,ix1]
 ·have big:∀n k:Int,0<k->0<=n.fmod k/\n.fmod k<k:=fun n k hk=>by
   rw[qbl n (by ext)];exact⟨qbF n (by ext),qby n hk⟩
  generalize ea:((c+40503 * (t+1)+1) * 48271).fmod 2147483647=A;have b1:=big ((c+40503 * (t+1)+1) * 48271) 2147483647 (by decide);rw[ea] at b1;generalize eb:(A * (A.fmod 65521+(t+1)+3)).fmod 2147483629=C;have b2:=big (A * (A.fmod 65521+(t+1)+3)) 2147483629 (by decide);rw[eb] at b2;refine⟨((((C * (C.fmod 8191+7)).fmod 2147483563).fdiv 64).fmod size,c),st _,fun h p e=>?_⟩;have e:h[p]?=some (.lst [.int m,.int c,.int t]):=e;have hp:p<h.length:=(qaf.mp e).1;have e2:(h.set p (.lst [.int m,.int c,.int (t+1)]))[p]?=some (.lst [.int m,.int c,.int (t+1)]):=oB hp;have c1:-(2 ^ 64)<A/\A<2 ^ 64:=by ext
  have c2:-(2 ^ 64)<C/\C<2 ^ 64:=by ext
  have k1:∀{i:Int} {h:MH},opMul (.int 40503) (.int i) h=.ok (.int (40503 * i)) h:=gs (by decide);have k2:∀{i:Int} {h:MH},opMul (.int i) (.int 48271) h=.ok (.int (i * 48271)) h:=opMul_r (by decide);unfold aQ;refine (kK (by rfl)).trans ?_;unfold m_l_draw;simp[b9,List.replicate,i3 e,lH e,ix2,i3 e2,hm,k1,k2,fw,ea,gs c1,eb,gs c2,tL (show (64:Int)≠0 by decide),fw hs0]
open Classical in
def kx(s:Pen)(size:Int):Int × Int:=if z:0<size/\size.natAbs.log2<9000 then (iM s size z.1 z.2).choose else (0,0)
def nu(ds:List D):Option Int:=match ds with
 | [.pen,.int i]=>some i
 | _=>none
def uR{ds:List D}{i:Int}(e:nu ds=some i):ds=[.pen,.int i]:=by
 unfold nu at e
 split at e
 ·cases e;rfl
 ·cases e
open Classical in
def aR:Fn where
 m:=aQ
 p:=fun ds s=>match nu ds with
  | some size=>if 0<size/\size.natAbs.log2<9000 then .ok (.int (kx s size).1) (s.1,(kx s size).2,s.2.2+1) else .bad
  | none=>.bad
 fr:=true
 ok {q h O vs ds s} bd hq pn r:=by
  cases e:nu ds with
  | none=>trivial
  | some size =>
   have:=uR e
   subst this;dsimp only;by_cases z:0<size/\size.natAbs.log2<9000
   ·rw[qan z];obtain⟨x,t,rfl,hx,y,t',rfl,hy,ht⟩:=r;rw[show x=PV.loc q from hx,show y=PV.int size from hy,show t'=[] from ht];have k:=(iM s size z.1 z.2).choose_spec.2 h q pn;have ed:kx s size=(iM s size z.1 z.2).choose:=by unfold kx;rw[dif_pos z]
    rw[<-ed] at k;refine⟨_,_,k,⟨by simp,fun n hn hp=>qae (Ne.symm hp)⟩,oB (aI pn),rfl,fun _ k ds e=>by cases k <;> cases e⟩
   ·rw[qay z];trivial
open Classical in
theorem cv{s:Pen}{size:Int}(hs:0<size)(hl:size<=2000000000):∃d s',0<=d/\d<size/\aR.p [.pen,.int size] s=.ok (.int d) s':=by
 have hlog:size.natAbs.log2<9000:=by
  have h1:size.natAbs<=2000000000:=by ext
  have h2:size.natAbs.log2<31:=(Nat.log2_lt (by ext)).mpr (by ext);ext
 have z:0<size/\size.natAbs.log2<9000:=⟨hs,hlog⟩;have ed:kx s size=(iM s size z.1 z.2).choose:=by unfold kx;rw[dif_pos z]
 have k:=(iM s size z.1 z.2).choose_spec.1;rw[<-ed] at k;exact⟨_,_,k.1,k.2,by show (if 0<size/\size.natAbs.log2<9000 then _ else _)=_;rw[qan z]⟩
def jy:Xd []:=(aB (xPar 2 3 (aa (xCb qi (aa (ab 0) xNil)) (aa (xCb qi (aa (ab 1) xNil)) xNil)))
 (aB (xWh 2000000 (xB (ai oGt (ab 3) (xC (.int 0)))) (xPar 2 3 (aa (ab 3) (aa (ai lx (ab 2) (ab 3)) xNil))) nG)
 (aB (xIf (xB (ai oLt (ab 1) (xC (.int 0)))) (aS 2 (xUn oNeg (ab 2))) xSkip)
 (aT (aO (aa (ai oFd (ab 0) (ab 2)) (aa (ai oFd (ab 1) (ab 2)) xNil)))))))
def bQ:Fn:=bR 4 2 jy
def sE{ds:List D}{s:Pen}(h:ds.length=2):bQ.p ds s=(jy.p (dSt 4 ds) s).fin:=bp h
def jf:Xd []:=(aB (aS 1 (aq aR (aa (ab 0) (aa (xC (.int 8)) xNil))))
 (aB (xIf (xB (ai oEq (ab 1) (xC (.int 7)))) (aT (aq bQ (aa (ai bN (ai eB (aq aR (aa (ab 0) (aa (ai eB (ai bW (xC (.int 2)) (ai oPow (xC (.int 10)) (xC (.int 6)))) (xC (.int 1))) xNil))) (ai oPow (xC (.int 10)) (xC (.int 6)))) (xC (.int 1))) (aa (ai bN (xC (.int 1)) (aq aR (aa (ab 0) (aa (ai eB (ai oPow (xC (.int 10)) (xC (.int 6))) (xC (.int 1))) xNil)))) xNil)))) xSkip)
 (aT (aq bQ (aa (ai eB (aq aR (aa (ab 0) (aa (xC (.int 13)) xNil))) (xC (.int 6))) (aa (ai bN (xC (.int 1)) (aq aR (aa (ab 0) (aa (ai oIx (bX (aa (xC (.int 1)) (aa (xC (.int 1)) (aa (xC (.int 5)) xNil)))) (ai lx (ab 1) (xC (.int 3)))) xNil)))) xNil))))))
def jg:Fn:=bR 2 1 jf
def sI{ds:List D}{s:Pen}(h:ds.length=1):jg.p ds s=(jf.p (dSt 2 ds) s).fin:=bp h
def lw:Xd []:=(aT (aq bQ (aa (ai bN (ai bW (ai oIx (ab 0) (xC (.int 0))) (ai oIx (ab 1) (xC (.int 1)))) (ai bW (ai oIx (ab 1) (xC (.int 0))) (ai oIx (ab 0) (xC (.int 1))))) (aa (ai bW (ai oIx (ab 0) (xC (.int 1))) (ai oIx (ab 1) (xC (.int 1)))) xNil))))
def cU:Fn:=bR 2 2 lw
def vY{ds:List D}{s:Pen}(h:ds.length=2):cU.p ds s=(lw.p (dSt 2 ds) s).fin:=bp h
def jP:Xd []:=(aT (aq bQ (aa (ai bW (ai oIx (ab 0) (xC (.int 0))) (ai oIx (ab 1) (xC (.int 0)))) (aa (ai bW (ai oIx (ab 0) (xC (.int 1))) (ai oIx (ab 1) (xC (.int 1)))) xNil))))
def cC:Fn:=bR 2 2 jP
def ux{ds:List D}{s:Pen}(h:ds.length=2):cC.p ds s=(jP.p (dSt 2 ds) s).fin:=bp h
def jH:Xd []:=(aB (aS 2 (aO (aa (xC (.int 0)) (aa (xC (.int 1)) xNil))))
 (aB (dg (bj (ab 0)) (xGp (xGc (xNm 3) (xGc (xNm 4) xGl)) 2) (aS 2 (aq cU (aa (ab 2) (aa (aq cC (aa (ab 4) (aa (ai oIx (ab 1) (ab 3)) xNil))) xNil)))))
 (aT (ab 2))))
def hZ:Fn:=bR 5 2 jH
def uT{ds:List D}{s:Pen}(h:ds.length=2):hZ.p ds s=(jH.p (dSt 5 ds) s).fin:=bp h
def jx:Xd []:=(aT (xCb qv (aa (bg 1 [1] (bO iR1 (aa (ab 0) xNil)) (ws':=[]) (xNm 0) (xB (ai oNe (ai oIx (ai oIx (ab 1) (ab 0)) (xC (.int 0))) (xC (.int 0)))) (aO (aa (ab 0) (aa (ai oIx (ab 1) (ab 0)) xNil)))) xNil)))
def cz:Fn:=bR 2 2 jx
def sL{ds:List D}{s:Pen}(h:ds.length=2):cz.p ds s=(jx.p (dSt 2 ds) s).fin:=bp h
def gU:Xd [3]:=(aB (d7 3 (ai bW (bX (aa (aO (aa (xC (.int 0)) (aa (xC (.int 1)) xNil))) xNil)) (ai bN (ab 0) (xC (.int 1)))))
 (aB (dg (bO iR1 (aa (xCb du (aa (ab 1) xNil)) xNil)) (xNm 4) (aB (dg (bj (ai oIx (ai oIx (ab 1) (ab 4)) (xC (.int 0)))) (xGp (xGc (xNm 5) (xGc (xNm 6) xGl)) 2) (gA 3 (aq cU (aa (ai oIx (ab 3) (ab 5)) (aa (aq cC (aa (ab 6) (aa (ai oIx (ab 2) (ab 4)) xNil))) xNil))) (ab 5)))
 (gA 3 (aq cU (aa (ai oIx (ab 3) (ab 0)) (aa (aq cC (aa (ai oIx (ai oIx (ab 1) (ab 4)) (xC (.int 1))) (aa (ai oIx (ab 2) (ab 4)) xNil))) xNil))) (ab 0))))
 (pM 3)))
def bS:Fn:=bR 7 3 gU
def pF{ds:List D}{s:Pen}(h:ds.length=3):bS.p ds s=(gU.p (dSt 7 ds) s).fin:=bp h
def fS:Xd []:=(aB (xIf (xOr (eA (xB (xUn (dL ["tuple"]) (ab 0)))) (xB (ai oNe (xCb du (aa (ab 0) xNil)) (xC (.int 2))))) (aT (xC (.bl false))) xSkip)
 (aB (dg (bj (ab 0)) (xNm 1) (xIf (xOr (eA (xB (xUn (dL ["int"]) (ab 1)))) (xB (xUn (dL ["bool"]) (ab 1)))) (aT (xC (.bl false))) xSkip))
 (aT (lW (ai oGt (ai oIx (ab 0) (xC (.int 1))) (xC (.int 0))) (ai oEq (aq bQ (aa (ai oIx (ab 0) (xC (.int 0))) (aa (ai oIx (ab 0) (xC (.int 1))) xNil))) (ab 0))))))
def cX:Fn:=bR 2 1 fS
def oy{ds:List D}{s:Pen}(h:ds.length=1):cX.p ds s=(fS.p (dSt 2 ds) s).fin:=bp h
def iz:Xd []:=(aT (lW (xUn (dL ["list"]) (ab 0)) (lW (ai oEq (xCb du (aa (ab 0) xNil)) (ab 1)) (ai (oIn true) (xC (.bl false)) (bg 1 [] (bj (ab 0)) (ws':=[]) (xNm 0) xTrue (aq cX (aa (ab 0) xNil)))))))
def dX:Fn:=bR 2 2 iz
def qk{ds:List D}{s:Pen}(h:ds.length=2):dX.p ds s=(iz.p (dSt 2 ds) s).fin:=bp h
def eQ:Xd []:=(aB (aS 4 (bg 1 [2] (bO iR1 (aa (ab 0) xNil)) (ws':=[]) (xNm 0) (xB (ai (oIn true) (ab 0) (ab 1))) (ab 0)))
 (aB (xIf (xOr (eA (xB (xUn (dL ["list"]) (ab 3)))) (xB (ai oNe (xCb du (aa (ab 3) xNil)) (xCb du (aa (ab 4) xNil))))) (aT (xC (.bl false))) xSkip)
 (aB (dg (bO iZ (aa (ab 4) (aa (ab 3) xNil))) (xGp (xGc (xNm 5) (xGc (xNm 6) xGl)) 2) (aB (xIf (eA (xB (aq dX (aa (ab 6) (aa (xCb du (aa (ab 1) xNil)) xNil))))) (aT (xC (.bl false))) xSkip)
 (aB (aS 7 (aq bS (aa (ab 0) (aa (ab 1) (aa (ab 6) xNil)))))
 (xIf (xB (ai oNe (bg 1 [7] (bj (ab 4)) (ws':=[]) (xNm 0) xTrue (ai oIx (ab 1) (ab 0))) (bg 1 [5] (bj (ab 4)) (ws':=[]) (xNm 0) xTrue (aO (aa (xCb jZ (aa (ai oEq (ab 0) (ab 1)) xNil)) (aa (xC (.int 1)) xNil)))))) (aT (xC (.bl false))) xSkip))))
 (aT (xC (.bl true))))))
def bV:Fn:=bR 8 4 eQ
def lV{ds:List D}{s:Pen}(h:ds.length=4):bV.p ds s=(eQ.p (dSt 8 ds) s).fin:=bp h
def gW:Xd [2]:=(aB (d7 2 (bX xNil))
 (aB (dg (bj (ab 1)) (xNm 3) (xMt nO 2 (aa (aq aR (aa (ab 0) (aa (ai bN (xCb du (aa (ab 2) xNil)) (xC (.int 1))) xNil))) (aa (ab 3) xNil))))
 (pM 2)))
def dr:Fn:=bR 4 2 gW
def pK{ds:List D}{s:Pen}(h:ds.length=2):dr.p ds s=(gW.p (dSt 4 ds) s).fin:=bp h
def qx:Xd []:=(aB (xIf (xB (ai oGt (ab 1) (xC (.int 7)))) (aT (aq bQ (aa (ai eB (aq aR (aa (ab 0) (aa (xC (.int 13)) xNil))) (xC (.int 6))) (aa (ai bN (xC (.int 1)) (aq aR (aa (ab 0) (aa (xC (.int 3)) xNil)))) xNil)))) xSkip)
 (aT (aq jg (aa (ab 0) xNil))))
def eP:Fn:=bR 2 2 qx
def Pp_l_of{ds:List D}{s:Pen}(h:ds.length=2):eP.p ds s=(qx.p (dSt 2 ds) s).fin:=bp h
def lS:Xd [4,6,8]:=(aB (aS 3 (aq dr (aa (ab 0) (aa (xCb cLR (aa (ab 1) xNil)) xNil))))
 (aB (d7 4 (bX xNil))
 (aB (dg (bO iR1 (aa (ab 1) xNil)) (xNm 5) (aB (d7 8 (ai bW (bX (aa (aO (aa (xC (.int 0)) (aa (xC (.int 1)) xNil))) xNil)) (ab 1)))
 (aB (aS 9 (aq eP (aa (ab 0) (aa (ab 1) xNil))))
 (aB (gA 8 (ai oIx (bX (aa (ab 9) (aa (aO (aa (ai bN (xC (.int 1)) (aq aR (aa (ab 0) (aa (xC (.int 9)) xNil)))) (aa (xC (.int 1)) xNil))) xNil))) (xCb jZ (aa (ai oEq (ai oIx (ab 9) (xC (.int 0))) (xC (.int 0))) xNil))) (ai oIx (ab 3) (ab 5)))
 (aB (dg (bj (xSl (ab 3) xNo (xPt (ab 5)))) (xNm 10) (xIf (xB (ai oEq (aq aR (aa (ab 0) (aa (xC (.int 3)) xNil))) (xC (.int 0)))) (gA 8 (aq eP (aa (ab 0) (aa (ab 1) xNil))) (ab 10)) xSkip))
 (xMt fo 4 (aa (aO (aa (iW cz (aa (ab 1) (aa (ab 8) xNil))) (aa (aO (aa (xC (.int 0)) (aa (xC (.int 1)) xNil))) xNil))) xNil)))))))
 (aB (d7 6 (bX xNil))
 (xFz (ws':=[6,8]) 4 (aB (dg (bj (ab 4)) (xNm 7) (aB (aS 11 (ai bN (bg 1 [0] (bj (ab 6)) (ws':=[]) (xNm 0) xTrue (aO (aa (ai eB (aq aR (aa (ab 1) (aa (xC (.int 3)) xNil))) (xC (.int 1))) (aa (xC (.int 1)) xNil)))) (bX (aa (aO (aa (xC (.int 1)) (aa (xC (.int 1)) xNil))) xNil))))
 (aB (aS 12 (aq bS (aa (ab 1) (aa (ai bN (ab 6) (bX (aa (ab 7) xNil))) (aa (ab 11) xNil)))))
 (xMt fo 6 (aa (aO (aa (aq cz (aa (ab 1) (aa (xSl (ab 12) xNo (xPt (ab 1))) xNil))) (aa (aO (aa (xC (.int 0)) (aa (xC (.int 1)) xNil))) xNil))) xNil)))))
 (aB (dg (bO iR1 (aa (aq aR (aa (ab 0) (aa (xC (.int 5)) xNil))) xNil)) (xNm 5) (aB (aS 11 (bg 1 [0] (bj (ab 6)) (ws':=[]) (xNm 0) xTrue (aO (aa (ai eB (aq aR (aa (ab 1) (aa (xC (.int 5)) xNil))) (xC (.int 2))) (aa (xC (.int 1)) xNil)))))
 (xMt fo 6 (aa (aO (aa (aq cz (aa (ab 1) (aa (xSl (iW bS (aa (ab 1) (aa (ab 6) (aa (ab 11) xNil)))) xNo (xPt (ab 1))) xNil))) (aa (aO (aa (xC (.int 0)) (aa (xC (.int 1)) xNil))) xNil))) xNil))))
 (aT (bg 2 [2] (bj (iW dr (aa (ab 0) (aa (ab 6) xNil)))) (ws':=[]) (xGp (xGc (xNm 0) (xGc (xNm 1) xGl)) 2) xTrue (aO (aa (ab 0) (aa (aq hZ (aa (ab 0) (aa (ab 2) xNil))) xNil))))))))))))
def lL:Fn:=bR 13 3 lS
def vC{ds:List D}{s:Pen}(h:ds.length=3):lL.p ds s=(lS.p (dSt 13 ds) s).fin:=bp h
def jq:Xd []:=(aB (aS 3 (ai oIx (bX (aa (aq aR (aa (ab 2) (aa (xC (.int 8)) xNil))) (aa (xC (.int 12)) xNil))) (xCb jZ (aa (ai oEq (aq aR (aa (ab 2) (aa (xC (.int 8)) xNil))) (xC (.int 7))) xNil))))
 (aB (aS 4 (bg 1 [2,3] (bO iR1 (aa (ab 3) xNil)) (ws':=[]) (xNm 0) xTrue (aq eP (aa (ab 1) (aa (ab 2) xNil)))))
 (aS 5 (aq lL (aa (ab 2) (aa (ab 3) (aa (ab 4) xNil)))))))
def qm:Xd []:=(aS 7 (aq cG (aa (ab 3) (aa (ab 6) xNil))))
def fD:Xd []:=(aB (xIf (xOr (eA (xB (xUn (dL ["tuple"]) (ab 7)))) (xOr (xB (ai oNe (xSl (ab 7) xNo (xPt (xC (.int 2)))) (aO (aa (xC (.str "one")) (aa (ab 4) xNil))))) (xOr (xB (ai oNe (xCb du (aa (ab 7) xNil)) (xC (.int 3)))) (xB (ai oNe (ab 6) (ab 5)))))) (aT (xC (.bl false))) xSkip)
 (xIf (xOr (eA (xB (aq dX (aa (ai oIx (ab 7) (xC (.int 1))) (aa (ab 3) xNil))))) (eA (xB (aq bV (aa (ab 3) (aa (ab 5) (aa (bX xNil) (aa (ai oIx (ab 7) (xC (.int 2))) xNil)))))))) (aT (xC (.bl false))) xSkip))
def rl:Xd []:=(aB (aS 8 (aq cG (aa (ab 3) (aa (xCb cList (aa (ab 5) xNil)) xNil))))
 (xIf (xOr (xB (ai oNe (xSl (ab 8) xNo (xPt (xC (.int 2)))) (aO (aa (xC (.str "one")) (aa (ab 4) xNil))))) (eA (xB (aq bV (aa (ab 3) (aa (ab 5) (aa (bX xNil) (aa (ai oIx (ab 8) (xC (.int 2))) xNil)))))))) (aT (xC (.bl false))) xSkip))
def jR:Xd []:=(aB (xIf (xB (ai oNe (aq cG (aa (xC (.int 0)) (aa (bX xNil) xNil))) (aO (aa (xC (.str "one")) (aa (bX xNil) (aa (bX xNil) xNil)))))) (aT (xC (.bl false))) xSkip)
 (aT (ai oEq (aq cG (aa (xC (.int 1)) (aa (bX (aa (aO (aa (aO (aa (aO (aa (xC (.int 0)) (aa (aO (aa (xC (.int 2)) (aa (xC (.int 1)) xNil))) xNil))) xNil)) (aa (aO (aa (xC (.int 1)) (aa (xC (.int 1)) xNil))) xNil))) xNil)) xNil))) (aO (aa (xC (.str "one")) (aa (bX (aa (aO (aa (xC (.int 1)) (aa (xC (.int 2)) xNil))) xNil)) (aa (bX (aa (bX (aa (aO (aa (xC (.int 1)) (aa (xC (.int 2)) xNil))) xNil)) xNil)) xNil)))))))
end
end Law
namespace Law
open PySem MM PU SetT SortT
open L2 (ixN atI fx)
set_option maxHeartbeats 1000000
def fj{lo:Int}{c:Nat}:(dM lo c).length=c:=by simp[dM]
def jk{c i:Nat}{x:D}(h:(dM 0 c)[i]?=some x):x=.int (i:Int)/\i<c:=by
 unfold dM at h;rw[qax,qaB] at h;obtain⟨k,hk,rfl⟩:=h;obtain⟨a,b⟩:=qaf.mp hk;simp at a b;subst b;exact⟨by simp,a⟩
def wc{g:D->aA->Option aA}{t:aA->Pen->PR Bool}{e:aA->Pen->PR D}(S:aA->Prop)(P:D->Prop):∀(ds:List D) (env:aA) (s:Pen),S env ->
  (∀x∈ds,∀env s,S env->∃env1,g x env=some env1/\S env1/\t env1 s=.ok true s/\∃y s2,e env1 s=.ok y s2/\P y)->∃r s',d6 g t e ds env s=.ok r s'/\r.length=ds.length/\∀y∈r,P y:=by
 intro ds
 induction ds with
 | nil=>intro env s hS body;exact⟨[],s,rfl,rfl,by simp⟩
 | cons x ds ih =>
  intro env s hS body;obtain⟨env1,e1,hS1,e2,y,s2,e4,py⟩:=body x (by simp) env s hS;obtain⟨r,s3,e5,hl,hr⟩:=ih env1 s2 hS1 fun y hy=>body y (qaa x hy);refine⟨y::r,s3,?_,by simp[hl],fun z hz=>?_⟩
  ·rw[d6,e1];dsimp only;rw[e2,Pb];simp only[if_true,e4,Pb,e5]
  ·rcases qam.mp hz with rfl|hz
   ·exact py
   ·exact hr z hz
def jS{ws ws':List Nat}{env:aA}{s s0:Pen}{fm:List Nat}{i:Xi ws}{e:Xe ws'}{ds:List D}(P:D->Prop)(ei:i.p env s=.ok ds s0)(hl:ds.length<=100000)
  (body:∀x∈ds,∀s,∃y s2,e.p (some x::fm.map fun i=>(env[i]?).getD none) s=.ok y s2/\P y) (h0:ws'.contains 0=false:=by exact ys rfl) (hw:cws 1 fm ws=ws':=by exact ys rfl) (hz:e.fz=true:=by exact ys rfl) :
  ∃r s',(bg 1 fm i (xNm 0 h0) xTrue e hw hz).p env s=.ok (.lst r) s'/\r.length=ds.length/\∀y∈r,P y:=by
 obtain⟨r,s',e1,h1,h2⟩:=wc (g:=(xNm 0 h0:Xg ws').p) (t:=(xTrue:Xt ws').p) (e:=e.p) (fun v=>∃z,v=z::fm.map fun i=>(env[i]?).getD none) P ds (cenv 1 fm env) s0 ⟨none,rfl⟩ fun x hx env' s ⟨z,hz⟩=>by
  subst hz;obtain⟨y,s1,e2,e3⟩:=body x hx s;exact⟨_,rfl,⟨some x,rfl⟩,rfl,y,s1,e2,e3⟩
 refine⟨r,s',?_,h1,h2⟩;rw[oz,ei,Pb,qan hl,e1]
def rG{α:Type}{f:α->D}{Q:α->Prop}:∀{ys:List D},(∀y∈ys,∃p,y=f p/\Q p)->∃ps:List α,ys=ps.map f/\∀p∈ps,Q p:=by
 intro ys
 induction ys with
 | nil=>intro _;exact⟨[],rfl,by simp⟩
 | cons y ys ih =>
  intro h;obtain⟨ps,e,hp⟩:=ih fun y hy=>h y (qaa _ hy);obtain⟨p,rfl,h1⟩:=h y (by simp);refine⟨p::ps,by rw[e];rfl,fun k hk=>?_⟩;rcases qam.mp hk with rfl|hk
  ·exact h1
  ·exact hp k hk
def kD{ws:List Nat}{env:aA}{s s1:Pen}{o:OpM}{i:Nat}{a:Xs ws}{hi:ws.contains i=true}{hz:a.fz=true}{as ds ds':List D}{r:D}(e1:a.p env s=.ok as s1)(e2:env[i]?=some (some (.lst ds)))(e3:o.p ds as=some (r,ds')):(xMt o i a hi hz).p env s=.nx (env.set i (some (.lst ds'))) s1:=by
 rw[xMt_p,qJ e1 e2 e3]
abbrev nD(t b:Int):D:=.tup [.int t,.int b]
def ja{a b:Int}(ha:0<=a)(hb:0<=b):Int.gcd b (a % b)=Int.gcd a b:=by
 obtain⟨m,rfl⟩:=qch ha;obtain⟨n,rfl⟩:=qch hb;show Nat.gcd n (m % n)=Nat.gcd m n;rw[Nat.gcd_comm m n,Nat.gcd_rec n m,Nat.gcd_comm]
def lT{a b:Int}(hb:0<b):lx.p (.int a) (.int b)=some (.int (a % b)):=by
 rw[oMod_ii (by ext),qbl _ (by ext)]
def mZ{a b:Int}(hb:b≠0):oFd.p (.int a) (.int b)=some (.int (a.fdiv b)):=qan hb
def gq{a b:Int}(hb:0<b):oFd.p (.int a) (.int b)=some (.int (a / b)):=by
 rw[mZ (by ext),Int.fdiv_eq_ediv_of_nonneg _ (by ext)]
def abs_nn{a:Int}:(if a<0 then -a else a)=(a.natAbs:Int):=by split <;> ext
def wg{a:Int}:qi.p [.int a]=some (.int (a.natAbs:Int)):=by
 show some (D.int (if a<0 then -a else a))=_;rw[abs_nn]
def xWh_p{ws:List Nat}{N:Nat}{t:Xt ws}{b:Xd ws}(hm:∀{σ h n},bP t.m b.m n σ h≠.bad->mWh t.m b.m σ h=bP t.m b.m n σ h){env:aA}{s:Pen}:(xWh N t b hm).p env s=df t.p b.p N env s:=rfl
def rZ{b r:Int}(h0:0<r)(h1:r<b):0<=b % r/\b % r<r/\2 * (b % r)<b:=by
 have a1:=qbF b (show r≠0 by ext);have a2:=qby b h0;have a3:=Int.mul_ediv_add_emod b r;have a4:1<=b / r:=by rw[Int.le_ediv_iff_mul_le h0];ext
 have a5:r * 1<=r * (b / r):=Int.mul_le_mul_of_nonneg_left a4 (by ext);ext
def eK{a:Int}(h:0<=a):((Int.gcd a 0:Nat):Int)=a:=by rw[Int.gcd_zero_right];ext
abbrev lowT:Xt []:=xB (ai oGt (ab 3) (xC (.int 0)))
abbrev lowB:Xd []:=xPar 2 3 (aa (ab 3) (aa (ai lx (ab 2) (ab 3)) xNil))
def low1{x y:Option D}{a b:Int}{n:Nat}{s:Pen}(hb:0<b):df lowT.p lowB.p (n+1) [x,y,some (.int a),some (.int b)] s=df lowT.p lowB.p n [x,y,some (.int b),some (.int (a % b))] s:=by
 rw[df];simp[lT hb,hb,PR.bl]
def low0{x y:Option D}{a:Int}{n:Nat}{s:Pen}:df lowT.p lowB.p (n+1) [x,y,some (.int a),some (.int 0)] s=.nx [x,y,some (.int a),some (.int 0)] s:=by
 rw[df];simp[PR.bl]
def low_run{x y:Option D}{s:Pen}:∀(k n:Nat) (a b:Int),0<=a->0<=b->b<2 ^ k->2 * k+1<=n->df lowT.p lowB.p n [x,y,some (.int a),some (.int b)] s=.nx [x,y,some (.int (Int.gcd a b)),some (.int 0)] s:=by
 intro k
 induction k with
 | zero =>
  intro n a b ha hb hk hn;obtain⟨m,rfl⟩:∃m,n=m+1:=⟨n - 1,by ext⟩
  have:b=0:=by simp at hk;ext
  subst this;rw[low0,eK ha]
 | succ k ih =>
  intro n a b ha hb hk hn;obtain⟨m,rfl⟩:∃m,n=m+1+1:=⟨n - 2,by ext⟩;by_cases e:b=0
  ·subst e;rw[low0,eK ha]
  ·have hb':0<b:=by ext
   rw[low1 hb',<-ja ha hb];have r0:=qbF a e;have r1:=qby a hb';generalize a % b=r at r0 r1 ⊢;by_cases er:r=0
   ·subst er;rw[low0,eK hb]
   ·obtain⟨h0,h1,h2⟩:=rZ (b:=b) (r:=r) (by ext) r1;rw[low1 (by ext),<-ja hb r0];refine ih m r (b % r) r0 h0 ?_ (by ext);rw[Int.pow_succ] at hk;ext
abbrev qD(q:Rat):D:=nD q.num (q.den:Int)
def sz(q:Rat):Nat:=max (q.num.natAbs.log2+1) (q.den.log2+1)
def vQ(n:Nat):n<2 ^ (n.log2+1):=Nat.lt_log2_self
def dz(q:Rat):q.num.natAbs<2 ^ sz q:=qat (vQ _) (qaX (by decide) (qcx _ _))
def bz(q:Rat):q.den<2 ^ sz q:=qat (vQ _) (qaX (by decide) (qck _ _))
def qM{n k:Nat}(hk:0<k)(h:n<2 ^ k):n.log2+1<=k:=by
 rcases qbW n with e|e
 ·subst e;simp only[Nat.log2_zero];ext
 ·exact (Nat.log2_lt (by ext)).mpr h
def pS{q:Rat}{k:Nat}(hk:0<k)(h1:q.num.natAbs<2 ^ k)(h2:q.den<2 ^ k):sz q<=k:=Nat.max_le.mpr ⟨qM hk h1,qM hk h2⟩
def sz_pos(q:Rat):0<sz q:=qat (qcE _) (qcx _ _)
def kN(t:Int)(b:Nat)(hb:b≠0):(Rat.divInt t b).num=t / (Nat.gcd t.natAbs b:Int)/\(Rat.divInt t b).den=b / Nat.gcd t.natAbs b:=by
 rw[Rat.divInt_ofNat];unfold mkRat;rw[dif_neg hb,Rat.normalize_eq];exact⟨rfl,rfl⟩
def tx{t:Int}{g:Nat}:(t / (g:Int)).natAbs<=t.natAbs:=Int.natAbs_ediv_le_natAbs t g
def jO{t:Int}{b k:Nat}(hb:b≠0)(hk:0<k)(h1:t.natAbs<2 ^ k)(h2:b<2 ^ k):sz (Rat.divInt t b)<=k:=by
 obtain⟨e1,e2⟩:=kN t b hb;refine pS hk ?_ ?_
 ·rw[e1];exact qbo tx h1
 ·rw[e2];exact qbo (qbC _ _) h2
def sY(p q:Rat):p+q=Rat.divInt (p.num * q.den+q.num * p.den) ((p.den * q.den:Nat):Int):=by
 have:=Rat.divInt_add_divInt p.num q.num (d₁:=p.den) (d₂:=q.den) (by have:=p.den_nz;ext) (by have:=q.den_nz;ext)
 rw[Rat.num_divInt_den,Rat.num_divInt_den] at this;rw[this];push_cast;rfl
def tS(p q:Rat):p * q=Rat.divInt (p.num * q.num) ((p.den * q.den:Nat):Int):=by
 have:=Rat.divInt_mul_divInt p.num q.num (d₁:=p.den) (d₂:=q.den)
 rw[Rat.num_divInt_den,Rat.num_divInt_den] at this;rw[this];push_cast;rfl
def dD{a b j k:Nat}(h1:a<2 ^ j)(h2:b<2 ^ k):a * b<2 ^ (j+k):=by
 rw[qcB];exact Nat.mul_lt_mul'' h1 h2
def sum_lt{a b c d:Int}{j k:Nat}(h1:a.natAbs<2 ^ j)(h2:b.natAbs<2 ^ k)(h3:c.natAbs<2 ^ k)(h4:d.natAbs<2 ^ j):(a * b+c * d).natAbs<2 ^ (j+k+1):=by
 have e1:=dD h1 h2;have e2:=dD h3 h4;have e3:=Int.natAbs_add_le (a * b) (c * d);rw[qbp,qbp] at e3;rw[Nat.add_comm k j] at e2;rw[qbX];ext
def m8(p q:Rat):sz (p+q)<=sz p+sz q+1:=by
 rw[sY];refine jO (qbT p.den_nz q.den_nz) (by ext) ?_ ?_
 ·exact sum_lt (dz p) (by simpa using bz q) (dz q) (by simpa using bz p)
 ·have:=dD (bz p) (bz q)
  rw[qbX];ext
def iH(p q:Rat):sz (p * q)<=sz p+sz q:=by
 rw[tS];refine jO (qbT p.den_nz q.den_nz) (by have:=sz_pos p;ext) ?_ (dD (bz p) (bz q));rw[qbp];exact dD (dz p) (dz q)
local macro_rules | `(tactic| simp! [$a,*]) => `(tactic| simp only [$a,*, Pb, ak, am])
local macro_rules | `(tactic| dsimp! [$a,*]) => `(tactic| simp only [$a,*, PU.ax, Pg, qag, qah])
def gz{t:Int}{b k:Nat}{s:Pen}(hb:b≠0)(hk:b<2 ^ k)(hc:k<=950000):bQ.p [.int t,.int (b:Int)] s=.ok (qD (Rat.divInt t b)) s:=by
 obtain⟨e1,e2⟩:=kN t b hb;have hkI:((b:Nat):Int)<2 ^ k:=by
  have:=Int.ofNat_lt.mpr hk
  simpa using this
 have h0:0<(Nat.gcd t.natAbs b:Int):=by
  have:0<Nat.gcd t.natAbs b:=qcb _ (by ext)
  ext
 rw[sE (by rfl)];unfold jy;have e0:dSt 4 [D.int t,.int (b:Int)]=[some (.int t),some (.int (b:Int)),none,none]:=rfl;have q:=low_run (x:=some (.int t)) (y:=some (.int (b:Int))) (s:=s) k 2000000 (t.natAbs:Int) ((b:Int).natAbs:Int) (by ext) (by ext) (by simpa using hkI) (by ext);rw[e0];simp![aD,xPar_p,ar,au,ce,wg,Pf,Pg,qag,qah,PU.ax];rw[xWh_p nG];refine (congrArg (fun z:PS=>(z.then _).fin) q).trans ?_;rw[Int.gcd_natCast_natCast,qbz];have f1:=gq (a:=t) h0;have f2:=gq (a:=(b:Int)) h0;rw[qD,e1,e2];simp[PR.bl,show ¬(b:Int)<0 by ext,f1,f2]
def uk{a:Int}{k:Nat}(h:a.natAbs<2 ^ k)(hc:k<=1000000):Builtin.Int.intBits a<=2 ^ 20:=by
 unfold Builtin.Int.intBits;rcases qbW k with e|e
 ·subst e
  have:a.natAbs=0:=by simpa using h
  rw[this];split <;> simp
 ·have:=qM e h
  split <;> ext
def dZ{a b:Int}{j k:Nat}(h1:a.natAbs<2 ^ j)(h2:b.natAbs<2 ^ k)(hj:j<=1000000:=by ext)(hk:k<=1000000:=by ext):bW.p (.int a) (.int b)=some (.int (a * b)):=qan (IntMulOk.of_bits (uk h1 hj) (uk h2 hk))
def z0{x y:D}:atI [x,y] 0=some x:=rfl
def z1{x y:D}:atI [x,y] 1=some y:=rfl
def qW{p q:Rat}{s:Pen}(h:sz p+sz q<=900000):cU.p [qD p,qD q] s=.ok (qD (p+q)) s:=by
 have a1:=dz p;have a2:=bz p;have a3:=dz q;have a4:=bz q;rw[vY (by rfl)];unfold lw;rw[show dSt 2 [qD p,qD q]=[some (qD p),some (qD q)] from rfl];have l:=gz (t:=p.num * q.den+q.num * p.den) (b:=p.den * q.den) (s:=s) (qbT p.den_nz q.den_nz) (dD (bz p) (bz q)) (by ext);rw[<-sY,qbG] at l
 simp![bC,aE,ar,aF,aU,aM,dm,z0,z1,Pf,au,dZ (b:=(q.den:Int)) (k:=sz q) a1 (by simpa using a4),dZ (b:=(p.den:Int)) (k:=sz p) a3 (by simpa using a2),eG,l,Pg,PU.bK,dZ (a:=(p.den:Int)) (b:=(q.den:Int)) (j:=sz p) (k:=sz q) (by simpa using a2) (by simpa using a4)]
def nV{p q:Rat}{s:Pen}(h:sz p+sz q<=900000):cC.p [qD p,qD q] s=.ok (qD (p * q)) s:=by
 have a1:=dz p;have a2:=bz p;have a3:=dz q;have a4:=bz q;rw[ux (by rfl)];unfold jP;rw[show dSt 2 [qD p,qD q]=[some (qD p),some (qD q)] from rfl];have l:=gz (t:=p.num * q.num) (b:=p.den * q.den) (s:=s) (qbT p.den_nz q.den_nz) (dD (bz p) (bz q)) (by ext);rw[<-tS,qbG] at l;simp![bC,aE,ar,aF,aU,aM,dm,z0,z1,Pf,au,dZ a1 a3,dZ (a:=(p.den:Int)) (b:=(q.den:Int)) (j:=sz p) (k:=sz q) (by simpa using a2) (by simpa using a4),l,Pg,PU.bK]
def xM{t:Int}{b:Nat}(hb:b≠0)(h1:t.natAbs<=1000000)(h2:b<=1000000):sz (Rat.divInt t b)<=20:=jO hb (by decide) (by ext) (by ext)
def ph{t b:Int}{s:Pen}(hb:1<=b)(h1:t.natAbs<=1000000)(h2:b<=1000000):∃q:Rat,bQ.p [.int t,.int b] s=.ok (qD q) s/\sz q<=20:=by
 obtain⟨n,rfl⟩:=jM (show 0<=b by ext);exact⟨_,gz (k:=20) (by ext) (by ext) (by ext),xM (by ext) h1 (by ext)⟩
def xJ{s:Pen}:∃q s',jg.p [.pen] s=.ok (qD q) s'/\sz q<=20:=by
 obtain⟨w,s1,w0,w1,q1⟩:=cv (s:=s) (size:=8) (by decide) (by decide);rw[sI (by rfl)];unfold jf;rw[show dSt 2 [D.pen]=[some .pen,none] from rfl];by_cases e7:w=7
 ·subst e7;obtain⟨a,s2,a0,a1,q2⟩:=cv (s:=s1) (size:=2 * 10 ^ 6 - 1) (by decide) (by decide);obtain⟨b,s3,b0,b1,q3⟩:=cv (s:=s2) (size:=10 ^ 6 - 1) (by decide) (by decide);obtain⟨q,l,hq⟩:=ph (t:=a - 10 ^ 6+1) (b:=1+b) (s:=s3) (by ext) (by ext) (by ext);refine⟨q,s3,?_,hq⟩;have p6:oPow.p (.int 10) (.int 6)=some (.int (10 ^ 6)):=qan ⟨by decide,by decide,by decide⟩;have m2:bW.p (.int 2) (.int (10 ^ 6))=some (.int (2 * 10 ^ 6)):=dZ (j:=2) (k:=20) (by decide) (by decide);simp![aD,aV,aE,ar,aU,aM,au,q1,Pg,qag,qah,PU.ax,cc,cF,aF,eT,cq,Pf,PR.bl,decide_true,if_true,bC,qaC,if_false,p6,m2,gu,q2,eG,q3,l,PU.oA,PU.bK]
 ·obtain⟨m,em,m0,m1⟩:∃m:Int,atI [D.int 1,.int 1,.int 5] (w % 3)=some (.int m)/\0<m/\m<=5:=by
   obtain e|e | e:w % 3=0\/w % 3=1\/w % 3=2:=by ext
   ·rw[e];exact⟨1,rfl,by decide,by decide⟩
   ·rw[e];exact⟨1,rfl,by decide,by decide⟩
   ·rw[e];exact⟨5,rfl,by decide,by decide⟩
  obtain⟨a,s2,a0,a1,q2⟩:=cv (s:=s1) (size:=13) (by decide) (by decide);obtain⟨b,s3,b0,b1,q3⟩:=cv (s:=s2) (size:=m) m0 (by ext);obtain⟨q,l,hq⟩:=ph (t:=a - 6) (b:=1+b) (s:=s3) (by ext) (by ext) (by ext);refine⟨q,s3,?_,hq⟩;simp![aD,aV,aE,ar,aU,aM,au,q1,Pg,qag,qah,PU.ax,cc,cF,aF,eT,cq,Pf,PR.bl,decide_eq_false e7,if_true,bC,qaC,if_false,lT (show (0:Int)<3 by decide),cA,qap,qaD,show (0+1+1+1:Nat)<=100000 by decide,cb,em,gu,q2,eG,q3,l,ci,PU.bK]
def ca(a:Rat)(l:List (Rat × Rat)):Rat:=l.foldl (fun s p=>s+p.1 * p.2) a
abbrev dot(l:List (Rat × Rat)):Rat:=ca 0 l
def wt(p:Rat × Rat):Nat:=sz p.1+sz p.2+1
def tot(l:List (Rat × Rat)):Nat:=(l.map wt).sum
def lC{p:Rat × Rat}{l:List (Rat × Rat)}:tot (p::l)=wt p+tot l:=by simp[tot]
def wL{l:List (Rat × Rat)}{c m:Nat}(hl:l.length<=m)(h:∀p∈l,wt p<=c):tot l<=m * c:=by
 have:tot l<=l.length * c:=by
  clear hl
  induction l with
  | nil=>simp[tot]
  | cons p l ih =>
   have h1:=h p (by simp);have h2:=ih fun q hq=>h q (qaa _ hq);rw[lC,qap,qbK];ext
 exact qaI this (qaG _ hl)
def tu:∀(l:List (Rat × Rat)) (a:Rat),sz (ca a l)<=sz a+tot l
 | [],a=>by simp[ca,tot]
 | p::l,a=>by
  have h:=tu l (a+p.1 * p.2);have h1:=m8 a (p.1 * p.2);have h2:=iH p.1 p.2;rw[lC];show sz (ca (a+p.1 * p.2) l)<=_;unfold wt;ext
def sz0:sz 0=1:=by decide +kernel
def sz_dot(l:List (Rat × Rat)):sz (dot l)<=1+tot l:=by have:=tu l 0;rw[sz0] at this;exact this
abbrev Pt:=Nat × Rat
abbrev ptD(p:Pt):D:=.tup [.int (p.1:Int),qD p.2]
abbrev Rw:=List Pt × Rat
abbrev rwD(r:Rw):D:=.tup [.tup (r.1.map ptD),qD r.2]
abbrev lD(xs:List Rat):D:=.lst (xs.map qD)
abbrev rsD(rs:List Rw):D:=.lst (rs.map rwD)
def prs(ps:List Pt)(xs:List Rat):List (Rat × Rat):=ps.map fun p=>(p.2,xs.getD p.1 0)
def j9{xs:List Rat}{i:Nat}(h:i<xs.length):atI (xs.map qD) (i:Int)=some (qD (xs.getD i 0)):=by
 refine L2.cZ ?_;rw[qax,qaj h,qak,qaj h];rfl
abbrev cmB:Xd []:=aS 2 (aq cU (aa (ab 2) (aa (aq cC (aa (ab 4) (aa (ai oIx (ab 1) (ab 3)) xNil))) xNil)))
abbrev cmG:Xg []:=xGp (xGc (xNm 3) (xGc (xNm 4) xGl)) 2
def uh{P:Option D}{xs:List Rat}{s:Pen}:∀(ps:List Pt) (a:Rat) (x3 x4:Option D),(∀p∈ps,p.1<xs.length)->sz a+tot (prs ps xs)<=900000 ->
  ∃x3' x4':Option D,pGo cmG.p cmB.p (ps.map ptD) [P,some (lD xs),some (qD a),x3,x4] s=.nx [P,some (lD xs),some (qD (ca a (prs ps xs))),x3',x4'] s
 | [],a,x3,x4,_,_=>⟨x3,x4,rfl⟩
 | p::ps,a,x3,x4,h,hk=>by
  have hc:prs (p::ps) xs=(p.2,xs.getD p.1 0)::prs ps xs:=rfl;rw[hc,lC] at hk;have hw:wt (p.2,xs.getD p.1 0)=sz p.2+sz (xs.getD p.1 0)+1:=rfl;have m:=iH p.2 (xs.getD p.1 0);have ad:=m8 a (p.2 * xs.getD p.1 0);obtain⟨x3',x4',q⟩:=uh (P:=P) (s:=s) ps (a+p.2 * xs.getD p.1 0) (some (.int (p.1:Int))) (some (qD p.2)) (fun y hy=>h y (qaa _ hy)) (by ext);refine⟨x3',x4',?_⟩;have t:=nV (p:=p.2) (q:=xs.getD p.1 0) (s:=s) (by ext);have u:=qW (p:=a) (q:=p.2 * xs.getD p.1 0) (s:=s) (by ext);have e1:cmB.p [P,some (lD xs),some (qD a),some (.int (p.1:Int)),some (qD p.2)] s=.nx [P,some (lD xs),some (qD (a+p.2 * xs.getD p.1 0)),some (.int (p.1:Int)),some (qD p.2)] s:=by
   simp![aV,aE,ar,aF,cb,j9 (h p (by simp)),Pf,au,t,u,Pg,qag,qah]
  rw[qao,cQ (env1:=[P,some (lD xs),some (qD a),some (.int (p.1:Int)),some (qD p.2)]) (by rfl),e1,hc];exact q
def comes_p{ps:List Pt}{xs:List Rat}{s:Pen}(h:∀p∈ps,p.1<xs.length)(hk:tot (prs ps xs)<=890000):hZ.p [.tup (ps.map ptD),lD xs] s=.ok (qD (dot (prs ps xs))) s:=by
 rw[uT (by rfl)];unfold jH;rw[show dSt 5 [D.tup (ps.map ptD),lD xs]=[some (.tup (ps.map ptD)),some (lD xs),none,none,none] from rfl];obtain⟨x3',x4',q⟩:=uh (P:=some (.tup (ps.map ptD))) (s:=s) ps 0 none none h (by rw[sz0];ext);dsimp![aD,aV,bI,ar,aU,aM,au,Pb,qap,qaD,show (0+1+1:Nat)<=100000 by decide,if_true,cD,bM,ak,show (D.tup (ps.map ptD)).items=some (ps.map ptD) from rfl,Pf];refine (congrArg (fun z:PS=>(z.then _).fin) q).trans ?_;simp
def kl{α:Type}{g:D->aA->Option aA}{t:aA->Pen->PR Bool}{e:aA->Pen->PR D}{s:Pen}(S:aA->Prop)(item res:α->D)(p:α->Bool):∀(l:List α) (env:aA),S env ->
  (∀x∈l,∀env,S env->∃env1,g (item x) env=some env1/\S env1/\t env1 s=.ok (p x) s/\(p x=true->e env1 s=.ok (res x) s))->d6 g t e (l.map item) env s=.ok ((l.filter p).map res) s
 | [],env,hS,body=>rfl
 | x::l,env,hS,body=>by
  obtain⟨env1,e1,hS1,e2,e3⟩:=body x (by simp) env hS;have ih:=kl S item res p l env1 hS1 fun y hy=>body y (qaa _ hy);rw[qao,d6,e1];dsimp only;rw[e2]
  cases hp:p x with
  | true=>simp only[Pb,if_true,e3 hp,ih,List.filter_cons_of_pos hp,qao]
  | false=>simp only[Pb,qaC,if_false,ih,List.filter_cons_of_neg (show ¬p x=true by simp[hp])]
def cM{α:Type}{ws ws':List Nat}{env:aA}{s s0:Pen}{fm:List Nat}{i:Xi ws}{t:Xt ws'}{e:Xe ws'}{l:List α}(item res:α->D)(p:α->Bool)(ei:i.p env s0=.ok (l.map item) s)(hl:l.length<=100000)
  (body:∀x∈l,t.p (some (item x)::fm.map fun i=>(env[i]?).getD none) s=.ok (p x) s/\(p x=true->e.p (some (item x)::fm.map fun i=>(env[i]?).getD none) s=.ok (res x) s)) (h0:ws'.contains 0=false:=by exact ys rfl) (hw:cws 1 fm ws=ws':=by exact ys rfl) (hz:e.fz=true:=by exact ys rfl) :
  (bg 1 fm i (xNm 0 h0) t e hw hz).p env s0=.ok (.lst ((l.filter p).map res)) s:=by
 rw[oz,ei,Pb,qan (by simpa using hl)]
 have:=kl (g:=(xNm 0 h0:Xg ws').p) (t:=t.p) (e:=e.p) (s:=s) (fun v=>∃z,v=z::fm.map fun i=>(env[i]?).getD none) item res p l (cenv 1 fm env) ⟨none,rfl⟩ fun x hx env' ⟨z,hz⟩=>by
  subst hz;exact⟨_,rfl,⟨some (item x),rfl⟩,body x hx⟩
 rw[this]
def mJ{α:Type}{ws ws':List Nat}{env:aA}{s s0:Pen}{fm:List Nat}{i:Xi ws}{t:Xt ws'}{e:Xe ws'}{l:List α}(A B:α->D)(res:α->D)(p:α->Bool)(ei:i.p env s0=.ok (l.map fun x=>.tup [A x,B x]) s)(hl:l.length<=100000)
  (body:∀x∈l,t.p (some (A x)::some (B x)::fm.map fun i=>(env[i]?).getD none) s=.ok (p x) s/\(p x=true->e.p (some (A x)::some (B x)::fm.map fun i=>(env[i]?).getD none) s=.ok (res x) s)) (h0:ws'.contains 0=false:=by exact ys rfl) (h1:ws'.contains 1=false:=by exact ys rfl) (hw:cws 2 fm ws=ws':=by exact ys rfl) (hz:e.fz=true:=by exact ys rfl) :
  (bg 2 fm i (xGp (xGc (xNm 0 h0) (xGc (xNm 1 h1) xGl)) 2) t e hw hz).p env s0=.ok (.lst ((l.filter p).map res)) s:=by
 rw[oz,ei,Pb,qan (by simpa using hl)]
 have:=kl (g:=(xGp (xGc (xNm 0 h0) (xGc (xNm 1 h1) xGl)) 2:Xg ws').p) (t:=t.p) (e:=e.p) (s:=s) (fun v=>∃y z,v=y::z::fm.map fun i=>(env[i]?).getD none) (fun x=>.tup [A x,B x]) res p l (cenv 2 fm env) ⟨none,none,rfl⟩ fun x hx env' ⟨y,z,hz⟩=>by
  subst hz;exact⟨_,rfl,⟨some (A x),some (B x),rfl⟩,body x hx⟩
 rw[this]
def q1:qD 1=.tup [.int 1,.int 1]:=rfl
@[simp] theorem xCT_p{ws:List Nat}{i j:Int}{env:aA}{s:Pen}:(xCT i j:Xe ws).p env s=.ok (.tup [.int i,.int j]) s:=rfl
def coef(ps:List Pt)(j:Nat):Rat:=((ps.find? fun p=>p.1 == j).map (·.2)).getD 0
def mx(rs:List Rw)(ms:List Rat)(j:Nat):List (Rat × Rat):=(rs.zip ms).map fun p=>(coef p.1.1 j,p.2)
def rg(rs:List Rw)(ms:List Rat):List (Rat × Rat):=(rs.zip ms).map fun p=>(p.1.2,p.2)
structure RowOk (n:Nat) (r:Rw):Prop where
 nd:(r.1.map (·.1)).Nodup
 lt:∀p∈r.1,p.1<n
def xk(ps:List Pt):iO (ps.map ptD)=some (ps.map fun p=>((p.1:Int),qD p.2)):=by
 induction ps with
 | nil=>rfl
 | cons p ps ih=>rw[qao,iO,ih];rfl
def dg_pt{ps:List Pt}(nd:(ps.map (·.1)).Nodup):dgD (.tup (ps.map ptD))=some (ps.map fun p=>((p.1:Int),qD p.2)):=by
 simp only[dgD,xk];rw[qan];rw[qaJ]
 have:((·.1)∘fun p:Pt=>((p.1:Int),qD p.2))=(fun n:Nat=>(n:Int))∘(·.1):=rfl
 rw[this,<-qaJ];exact List.pairwise_map.mpr (List.Pairwise.imp (fun h e=>h (Int.ofNat_inj.mp e)) nd)
def nS{α β:Type}(f:α->D)(g:β->D)(xs:List α)(ys:List β):fU (xs.map f) (ys.map g)=(xs.zip ys).map fun p=>.tup [f p.1,g p.2]:=by
 unfold fU;rw[List.zip_map,qaJ];rfl
def zip_len{α β:Type}{xs:List α}{ys:List β}{m:Nat}(h:xs.length<=m):(xs.zip ys).length<=m:=by
 rw[qbt];ext
def eE(n:Nat):dM 0 n=(List.range n).map fun (j:Nat)=>D.int (j:Int):=by simp[dM]
def dH(f:List Rat)(i:Nat)(q:Rat):List Rat:=f.set i (f.getD i 0+q)
def inner(f:List Rat)(ps:List Pt)(m:Rat):List Rat:=ps.foldl (fun f p=>dH f p.1 (p.2 * m)) f
def be(n:Nat)(f:List Rat)(p:Rw × Rat):List Rat:=dH (inner f p.1.1 p.2) n (p.1.2 * p.2)
def tog(n:Nat)(rs:List Rw)(ms:List Rat):List Rat:=(rs.zip ms).foldl (be n) (List.replicate (n+1) 0)
def ik{f:List Rat}{i:Nat}{q:Rat}:(dH f i q).length=f.length:=by simp[dH]
def ip{m:Rat}:∀{ps:List Pt} {f:List Rat},(inner f ps m).length=f.length
 | [],_=>rfl
 | p::ps,f=>(ip (ps:=ps) (f:=dH f p.1 (p.2 * m))).trans ik
def mS{f:List Rat}{i:Nat}{q:Rat}(h:i<f.length):(dH f i q).getD i 0=f.getD i 0+q:=by
 simp[dH,qak,h]
def ju{f:List Rat}{i j:Nat}{q:Rat}(h:i≠j):(dH f i q).getD j 0=f.getD j 0:=by
 simp only[dH,qak];rw[qae h]
def eL{p:Pt}{ps:List Pt}{j:Nat}:coef (p::ps) j=if p.1=j then p.2 else coef ps j:=by
 unfold coef;rw[qbS];by_cases z:p.1=j
 ·simp[z]
 ·rw[qay z,show (p.1 == j)=false by simpa using z]
def fN{ps:List Pt}{j:Nat}(h:j∉ps.map (·.1)):coef ps j=0:=by
 induction ps with
 | nil=>rfl
 | cons p ps ih =>
  rw[eL,qay fun z=>h (by simp[z]),ih fun z=>h (by simp only[qao,qam];exact .inr z)]
def gM{m:Rat}{j:Nat}:∀{ps:List Pt} {f:List Rat},(ps.map (·.1)).Nodup->(∀p∈ps,p.1<f.length)->(inner f ps m).getD j 0=f.getD j 0+coef ps j * m
 | [],f,_,_=>by show f.getD j 0=f.getD j 0+0 * m;grind
 | p::ps,f,nd,lt=>by
  rw[qao,qaP] at nd;have ih:=gM (m:=m) (j:=j) (ps:=ps) (f:=dH f p.1 (p.2 * m)) nd.2 fun q hq=>by rw[ik];exact lt q (qaa _ hq)
  show (inner (dH f p.1 (p.2 * m)) ps m).getD j 0=_;rw[ih,eL];by_cases z:p.1=j
  ·subst z;rw[qan rfl,fN nd.1,mS (lt p (by simp))]
   grind
  ·rw[qay z,ju z]
def kA{n:Nat}{f:List Rat}{p:Rw × Rat}:(be n f p).length=f.length:=ik.trans ip
def row_at{n j:Nat}{f:List Rat}{p:Rw × Rat}(hf:f.length=n+1)(ok:RowOk n p.1)(hj:j<n):(be n f p).getD j 0=f.getD j 0+coef p.1.1 j * p.2:=by
 unfold be;rw[ju (by ext),gM ok.nd fun q hq=>by have:=ok.lt q hq;ext]
def qS{n:Nat}{f:List Rat}{p:Rw × Rat}(hf:f.length=n+1)(ok:RowOk n p.1):(be n f p).getD n 0=f.getD n 0+p.1.2 * p.2:=by
 unfold be
 rw[mS (by rw[ip];ext),gM ok.nd fun q hq=>by have:=ok.lt q hq;ext,fN fun z=>by
  obtain⟨q,hq,e⟩:=qaF.mp z
  have:=ok.lt q hq
  ext]
 grind
def sU{n j:Nat}(hj:j<n):∀(l:List (Rw × Rat)) (f:List Rat),f.length=n+1->(∀p∈l,RowOk n p.1)->(l.foldl (be n) f).getD j 0=ca (f.getD j 0) (l.map fun p=>(coef p.1.1 j,p.2))
 | [],f,_,_=>rfl
 | p::l,f,hf,ok=>by
  show (l.foldl (be n) (be n f p)).getD j 0=ca (f.getD j 0+coef p.1.1 j * p.2) _;rw[sU hj l _ (kA.trans hf) fun q hq=>ok q (qaa _ hq),row_at hf (ok p (by simp)) hj]
def pz{n:Nat}:∀(l:List (Rw × Rat)) (f:List Rat),f.length=n+1->(∀p∈l,RowOk n p.1)->(l.foldl (be n) f).getD n 0=ca (f.getD n 0) (l.map fun p=>(p.1.2,p.2))
 | [],f,_,_=>rfl
 | p::l,f,hf,ok=>by
  show (l.foldl (be n) (be n f p)).getD n 0=ca (f.getD n 0+p.1.2 * p.2) _;rw[pz l _ (kA.trans hf) fun q hq=>ok q (qaa _ hq),qS hf (ok p (by simp))]
def lO{n:Nat}:∀(l:List (Rw × Rat)) (f:List Rat),(l.foldl (be n) f).length=f.length
 | [],f=>rfl
 | p::l,f=>(lO l (be n f p)).trans kA
def iC{n j:Nat}:(List.replicate n (0:Rat)).getD j 0=0:=by
 simp only[qak,qaW];split <;> rfl
def qO{n:Nat}{rs:List Rw}{ms:List Rat}(ok:∀r∈rs,RowOk n r):∀p∈rs.zip ms,RowOk n p.1:=fun p hp=>ok p.1 (qbr hp).1
def nZ{n:Nat}{rs:List Rw}{ms:List Rat}:(tog n rs ms).length=n+1:=(lO _ _).trans (by simp)
def qV{n j:Nat}{rs:List Rw}{ms:List Rat}(ok:∀r∈rs,RowOk n r)(hj:j<n):(tog n rs ms).getD j 0=dot (mx rs ms j):=by
 unfold tog;rw[sU hj _ _ (by simp) (qO ok),iC];rfl
def xv{n:Nat}{rs:List Rw}{ms:List Rat}(ok:∀r∈rs,RowOk n r):(tog n rs ms).getD n 0=dot (rg rs ms):=by
 unfold tog;rw[pz _ _ (by simp) (qO ok),iC];rfl
def cw(r:Rw)(m:Rat):Nat:=r.1.foldr (fun p c=>max (wt (p.2,m)) c) (wt (r.2,m))
def ui{m:Rat}{b c:Nat}:∀{ps:List Pt},(∀p∈ps,wt (p.2,m)<=c)->b<=c->ps.foldr (fun p c=>max (wt (p.2,m)) c) b<=c
 | [],_,hb=>hb
 | p::ps,h,hb=>Nat.max_le.mpr ⟨h p (by simp),ui (fun q hq=>h q (qaa _ hq)) hb⟩
def nN{m:Rat}{b:Nat}:∀{ps:List Pt},(∀p∈ps,wt (p.2,m)<=ps.foldr (fun p c=>max (wt (p.2,m)) c) b)/\b<=ps.foldr (fun p c=>max (wt (p.2,m)) c) b
 | []=>⟨by simp,qai _⟩
 | p::ps=>by
  obtain⟨h1,h2⟩:=nN (m:=m) (b:=b) (ps:=ps);refine⟨fun q hq=>?_,qaI h2 (qck _ _)⟩;rcases qam.mp hq with rfl|hq
  ·exact qcx _ _
  ·exact qaI (h1 q hq) (qck _ _)
def wt_cw{r:Rw}{m:Rat}{p:Pt}(h:p∈r.1):wt (p.2,m)<=cw r m:=nN.1 p h
def wr_cw{r:Rw}{m:Rat}:wt (r.2,m)<=cw r m:=nN.2
def my{ps:List Pt}{j:Nat}:coef ps j=0\/∃p∈ps,coef ps j=p.2:=by
 induction ps with
 | nil=>exact .inl rfl
 | cons p ps ih =>
  rw[eL];by_cases z:p.1=j
  ·rw[qan z];exact .inr ⟨p,by simp,rfl⟩
  ·rw[qay z];rcases ih with h|⟨q,hq,h⟩
   ·exact .inl h
   ·exact .inr ⟨q,qaa _ hq,h⟩
def TW(l:List (Rw × Rat)):Nat:=(l.map fun p=>cw p.1 p.2).sum
def nL{p:Rw × Rat}{l:List (Rw × Rat)}:TW (p::l)=cw p.1 p.2+TW l:=by simp[TW]
def vz{l m:List (Rw × Rat)}:TW (l++m)=TW l+TW m:=by simp[TW]
abbrev tgB:Xd [3]:=gA 3 (aq cU (aa (ai oIx (ab 3) (ab 5)) (aa (aq cC (aa (ab 6) (aa (ai oIx (ab 2) (ab 4)) xNil))) xNil))) (ab 5)
abbrev tgG:Xg [3]:=xGp (xGc (xNm 5) (xGc (xNm 6) xGl)) 2
def pW{f:List Rat}{i:Nat}{q:Rat}:(f.map qD).set i (qD q)=(f.set i q).map qD:=by rw[List.map_set]
def sW{N R:Option D}{ms:List Rat}{k:Nat}{s:Pen}{B c:Nat}(hk:k<ms.length)(hB:B+c<=900000):∀(ps:List Pt) (f:List Rat) (x5 x6:Option D),(ps.map (·.1)).Nodup->(∀p∈ps,p.1<f.length)->(∀p∈ps,sz (f.getD p.1 0)<=B)->(∀p∈ps,wt (p.2,ms.getD k 0)<=c) ->
  ∃x5' x6':Option D,pGo tgG.p tgB.p (ps.map ptD) [N,R,some (lD ms),some (lD f),some (.int (k:Int)),x5,x6] s=.nx [N,R,some (lD ms),some (lD (inner f ps (ms.getD k 0))),some (.int (k:Int)),x5',x6'] s
 | [],f,x5,x6,_,_,_,_=>⟨x5,x6,rfl⟩
 | p::ps,f,x5,x6,nd,lt,hs,hw=>by
  rw[qao,qaP] at nd;have w:wt (p.2,ms.getD k 0)=sz p.2+sz (ms.getD k 0)+1:=rfl;have w1:=hw p (by simp);have w2:=hs p (by simp);have w3:=iH p.2 (ms.getD k 0);have lp:=lt p (by simp)
  obtain⟨x5',x6',q⟩:=sW (N:=N) (R:=R) (s:=s) hk hB ps (dH f p.1 (p.2 * ms.getD k 0)) (some (.int (p.1:Int))) (some (qD p.2)) nd.2 (fun y hy=>by rw[ik];exact lt y (qaa _ hy)) (fun y hy=>by
   have ne:p.1≠y.1:=fun z=>nd.1 (qaF.mpr ⟨y,hy,z.symm⟩)
   rw[ju ne];exact hs y (qaa _ hy)) fun y hy=>hw y (qaa _ hy)
  refine⟨x5',x6',?_⟩;have t:=nV (p:=p.2) (q:=ms.getD k 0) (s:=s) (by ext);have u:=qW (p:=f.getD p.1 0) (q:=p.2 * ms.getD k 0) (s:=s) (by ext);have e1:tgB.p [N,R,some (lD ms),some (lD f),some (.int (k:Int)),some (.int (p.1:Int)),some (qD p.2)] s=.nx [N,R,some (lD ms),some (lD (dH f p.1 (p.2 * ms.getD k 0))),some (.int (k:Int)),some (.int (p.1:Int)),some (qD p.2)] s:=by
   rw[mH,iB (v:=qD (f.getD p.1 0+p.2 * ms.getD k 0)) (s1:=s) (j:=(p.1:Int)) (s2:=s) (ds:=f.map qD) (n:=p.1) (by
    simp![aE,ar,aF,cb,j9 lp,j9 hk,Pf,au,t,u]) (by rfl) rfl (by rw[qar];exact gw lp),pW]
   rfl
  rw[qao,cQ (env1:=[N,R,some (lD ms),some (lD f),some (.int (k:Int)),some (.int (p.1:Int)),some (qD p.2)]) (by rfl),e1];exact q
def xK{m:Rat}{B c:Nat}:∀{ps:List Pt} {f:List Rat},(ps.map (·.1)).Nodup->(∀p∈ps,p.1<f.length)->(∀j,sz (f.getD j 0)<=B)->(∀p∈ps,wt (p.2,m)<=c)->∀j,sz ((inner f ps m).getD j 0)<=B+c:=by
 intro ps f nd lt hB hw j;rw[gM nd lt];rcases my (ps:=ps) (j:=j) with h|⟨p,hp,h⟩
 ·rw[h];have e:f.getD j 0+0 * m=f.getD j 0:=by grind
  rw[e];have:=hB j;ext
 ·rw[h];have a:=m8 (f.getD j 0) (p.2 * m);have b:=iH p.2 m;have d:=hw p hp;have w:wt (p.2,m)=sz p.2+sz m+1:=rfl
  have:=hB j
  ext
def row_sz{n:Nat}{f:List Rat}{p:Rw × Rat}{B:Nat}(hf:f.length=n+1)(ok:RowOk n p.1)(hB:∀j,sz (f.getD j 0)<=B):∀j,sz ((be n f p).getD j 0)<=B+cw p.1 p.2:=by
 intro j;by_cases z:j=n
 ·subst z;rw[qS hf ok];have a:=m8 (f.getD j 0) (p.1.2 * p.2);have b:=iH p.1.2 p.2;have d:=wr_cw (r:=p.1) (m:=p.2);have w:wt (p.1.2,p.2)=sz p.1.2+sz p.2+1:=rfl
  have:=hB j
  ext
 ·unfold be;rw[ju (Ne.symm z)];exact xK ok.nd (fun q hq=>by have:=ok.lt q hq;ext) hB (fun q hq=>wt_cw hq) j
def tH{n:Nat}:∀(l:List (Rw × Rat)) (f:List Rat) (B:Nat),f.length=n+1->(∀p∈l,RowOk n p.1)->(∀j,sz (f.getD j 0)<=B)->∀j,sz ((l.foldl (be n) f).getD j 0)<=B+TW l
 | [],f,B,_,_,hB=>by simpa [TW] using hB
 | p::l,f,B,hf,ok,hB=>by
  intro j
  have:=tH l (be n f p) (B+cw p.1 p.2) (kA.trans hf) (fun q hq=>ok q (qaa _ hq)) (row_sz hf (ok p (by simp)) hB) j
  rw[nL];show sz ((l.foldl (be n) (be n f p)).getD j 0)<=_;ext
def TW_take(l:List (Rw × Rat))(k:Nat):TW (l.take k)<=TW l:=by
 have:TW l=TW (l.take k)+TW (l.drop k):=by rw[<-vz,qcy]
 ext
def at_r{rs:List Rw}{k:Nat}(h:k<rs.length):atI (rs.map rwD) (k:Int)=some (rwD rs[k]):=by
 refine L2.cZ ?_;rw[qax,qaj h];rfl
def xS{ms:List Rat}{k:Nat}(h:k<ms.length):ms.getD k 0=ms[k]:=by
 rw[qak,qaj h];rfl
def rep_q{n:Nat}(hn:n<=1000):bW.p (.lst [.tup [.int 0,.int 1]]) (.int (n:Int))=some (lD (List.replicate n 0)):=by
 have e:∀m:Nat,(List.replicate m [D.tup [.int 0,.int 1]]).flatten=(List.replicate m (0:Rat)).map qD:=fun m=>by
  induction m with
  | zero=>rfl
  | succ m ih=>rw[qaQ,qbc,ih,qaQ,qao];rfl
 show (if (0<=(n:Int)/\(n:Int)<=1000)/\((List.replicate (n:Int).toNat [D.tup [.int 0,.int 1]]).flatten).length<=100000 then some (D.lst (List.replicate (n:Int).toNat [D.tup [.int 0,.int 1]]).flatten) else none)=_;rw[qaH,e,qan ⟨by ext,by simp;ext⟩]
abbrev toB:Xd [3]:=(aB (dg (bj (ai oIx (ai oIx (ab 1) (ab 4)) (xC (.int 0)))) (xGp (xGc (xNm 5) (xGc (xNm 6) xGl)) 2) (gA 3 (aq cU (aa (ai oIx (ab 3) (ab 5)) (aa (aq cC (aa (ab 6) (aa (ai oIx (ab 2) (ab 4)) xNil))) xNil))) (ab 5)))
 (gA 3 (aq cU (aa (ai oIx (ab 3) (ab 0)) (aa (aq cC (aa (ai oIx (ai oIx (ab 1) (ab 4)) (xC (.int 1))) (aa (ai oIx (ab 2) (ab 4)) xNil))) xNil))) (ab 0)))
def to_turn{n k:Nat}{rs:List Rw}{ms:List Rat}{f:List Rat}{x5 x6:Option D}{s:Pen}{B:Nat}(hk:k<rs.length)(hk':k<ms.length)(hf:f.length=n+1)(ok:RowOk n rs[k])(hB:∀j,sz (f.getD j 0)<=B)(hc:B+cw rs[k] ms[k]<=890000) :
  ∃x5' x6':Option D,toB.p [some (.int (n:Int)),some (rsD rs),some (lD ms),some (lD f),some (.int (k:Int)),x5,x6] s=.nx [some (.int (n:Int)),some (rsD rs),some (lD ms),some (lD (be n f (rs[k],ms[k]))),some (.int (k:Int)),x5',x6'] s:=by
 have em:ms.getD k 0=ms[k]:=xS hk';obtain⟨x5',x6',q⟩:=sW (N:=some (.int (n:Int))) (R:=some (rsD rs)) (s:=s) hk' (B:=B) (c:=cw rs[k] ms[k]) (by ext) rs[k].1 f x5 x6 ok.nd (fun p hp=>by have:=ok.lt p hp;ext) (fun p hp=>hB p.1) fun p hp=>by rw[em];exact wt_cw hp
 refine⟨x5',x6',?_⟩;have w:wt (rs[k].2,ms[k])=sz rs[k].2+sz ms[k]+1:=rfl;have w1:=wr_cw (r:=rs[k]) (m:=ms[k]);have w3:=iH rs[k].2 ms[k];have w4:sz ((inner f rs[k].1 ms[k]).getD n 0)<=B:=by
  rw[gM ok.nd fun p hp=>by have:=ok.lt p hp;ext,fN fun z=>by
   obtain⟨q,hq,e⟩:=qaF.mp z
   have:=ok.lt q hq
   ext]
  have e:f.getD n 0+0 * ms[k]=f.getD n 0:=by grind
  rw[e];exact hB n
 have t:=nV (p:=rs[k].2) (q:=ms[k]) (s:=s) (by ext);have u:=qW (p:=(inner f rs[k].1 ms[k]).getD n 0) (q:=rs[k].2 * ms[k]) (s:=s) (by ext);rw[em] at q;have lp:n<(inner f rs[k].1 ms[k]).length:=by rw[ip];ext
 have e2:=j9 hk';rw[em] at e2;rw[aD,cD];simp![bM,aF,aU,aM,cb,at_r hk,Pf,dm,z0,show (D.tup (rs[k].1.map ptD)).items=some (rs[k].1.map ptD) from rfl,Pg];refine (congrArg (fun z:PS=>z.then _) q).trans ?_
 rw[PU.ax,mH,iB (v:=qD ((inner f rs[k].1 ms[k]).getD n 0+rs[k].2 * ms[k])) (s1:=s) (j:=(n:Int)) (s2:=s) (ds:=(inner f rs[k].1 ms[k]).map qD) (n:=n) (by
   simp![aE,ar,aF,cb,dm,j9 lp,at_r hk,e2,aU,aM,z1,Pf,au,t,u]) (by rfl) rfl (by rw[qar];exact gw lp),pW]
 rfl
def jm{n:Nat}{rs:List Rw}{ms:List Rat}{s:Pen}(hn:n<=100)(hl:rs.length<=1000)(he:rs.length=ms.length)(ok:∀r∈rs,RowOk n r)(hW:TW (rs.zip ms)<=880000):bS.p [.int (n:Int),rsD rs,lD ms] s=.ok (lD (tog n rs ms)) s:=by
 rw[pF (by rfl)];unfold gU;rw[show dSt 7 [D.int (n:Int),rsD rs,lD ms]=[some (.int (n:Int)),some (rsD rs),some (lD ms),none,none,none,none] from rfl];obtain⟨env',s',q,x4,x5,x6,rfl,rfl⟩:=eM (g:=(xNm 4:Xg [3]).p) (b:=toB.p)
  (fun j env s1=>∃x4 x5 x6,env=[some (.int (n:Int)),some (rsD rs),some (lD ms),some (lD (((rs.zip ms).take j).foldl (be n) (List.replicate (n+1) 0))),x4,x5,x6]/\s1=s) (dM 0 rs.length) 0 [some (.int (n:Int)),some (rsD rs),some (lD ms),some (lD (List.replicate (n+1) 0)),none,none,none] s ⟨none,none,none,rfl,rfl⟩ (fun j env s1 d ⟨x4,x5,x6,hE,hs⟩ hd=>by
   subst hE hs;rw[qbd];obtain⟨rfl,hj⟩:=jk hd;have hj':j<ms.length:=by ext
   have hz:j<(rs.zip ms).length:=by rw[qbt];ext
   have okr:=ok rs[j] (qaN _);have hB:=tH ((rs.zip ms).take j) (List.replicate (n+1) 0) 1 (by simp) (fun p hp=>qO ok p (List.mem_of_mem_take hp)) (fun j=>by rw[iC,sz0];exact qai _);have e:(rs.zip ms).take (j+1)=(rs.zip ms).take j++[(rs[j],ms[j])]:=by rw[qaR hz,List.getElem_zip]
   have hc:1+TW ((rs.zip ms).take j)+cw rs[j] ms[j]<=890000:=by
    have:=TW_take (rs.zip ms) (j+1)
    rw[e,vz,nL] at this;dsimp only at this;ext
   obtain⟨x5',x6',q⟩:=to_turn (s:=s1) hj hj' ((lO ((rs.zip ms).take j) (List.replicate (n+1) 0)).trans (by simp)) okr hB hc (x5:=x5) (x6:=x6)
   exact⟨_,_,s1,rfl,q,_,_,_,by rw[e,List.foldl_append];rfl,rfl⟩)
 rw[qbd,fj] at q;have e0:bW.p (.lst [.tup [.int 0,.int 1]]) (.int ((n:Int)+1))=some (lD (List.replicate (n+1) 0)):=by
  have:=rep_q (n:=n+1) (by ext)
  rwa [Int.natCast_add] at this
 simp![aD,eJ,gX,if_true,aF,cA,bI,ar,aU,aM,au,qap,qaD,show (0+1+1:Nat)<=100000 by decide,show (0+1:Nat)<=100000 by decide,if_true,eG,Pf,e0,Pg,qag,qah,PU.ax,cD,cx,ce,gJ];rw[d3 (by rw[qar];ext),qar,qaH,Pf,Pg];refine (congrArg (fun z:PS=>(z.then _).fin) q).trans ?_
 rw[PU.ax,uo (d:=lD (tog n rs ms)) (by
  rw[qaZ (by rw[qbt];ext)];rfl),PU.bK]
def dP(k:Nat)(d:D):Prop:=∃x,py d=some x/\dep d<=k/\x.canLay0=true/\x.depth<=k
def rN{i:Int}{k:Nat}:dP k (.int i):=⟨.int i,rfl,by simp[dep],rfl,by simp[PyData.depth]⟩
def rj{k:Nat}{ds:List D}(h:∀d∈ds,dP k d):∃xs,pys ds=some xs/\deps ds<=k/\PyData.canLayAll0 xs=true/\PyData.depthAll xs<=k:=by
 induction ds with
 | nil=>exact⟨[],rfl,by simp[deps],rfl,by simp[PyData.depthAll]⟩
 | cons d ds ih =>
  obtain⟨xs,a1,a2,a3,a4⟩:=ih fun d hd=>h d (qaa _ hd);obtain⟨x,b1,b2,b3,b4⟩:=h d (by simp);exact⟨x::xs,by simp[pys,a1,b1],by simp only[deps];ext,by simp[PyData.canLayAll0,a3,b3],by simp only[PyData.depthAll];ext⟩
def gB{k:Nat}{ds:List D}(h:∀d∈ds,dP k d):dP (k+1) (.tup ds):=by
 obtain⟨xs,a1,a2,a3,a4⟩:=rj h;exact⟨.tuple xs,by simp[py,a1],by simp only[dep];ext,by simpa [PyData.canLay0] using a3,by simp only[PyData.depth];ext⟩
def qT{k:Nat}{ds:List D}(h:∀d∈ds,dP k d):dP (k+1) (.lst ds):=by
 obtain⟨xs,a1,a2,a3,a4⟩:=rj h;exact⟨.list xs,by simp[py,a1],by simp only[dep];ext,by simpa [PyData.canLay0] using a3,by simp only[PyData.depth];ext⟩
def og{d:D}(h:dP 60 d):eqD true d d=some (.bl false):=by
 obtain⟨x,a1,a2,a3,a4⟩:=h;unfold eqD;rw[a1];dsimp only;rw[qan ⟨⟨a2,a2⟩,eI a3 (by ext),eI a3 (by ext)⟩,SeqAt.eqv_refl x a3];rfl
def wZ{k:Nat}{t b:Int}:dP (k+1) (nD t b):=gB fun d hd=>by
 simp only[qam,qbx,or_false] at hd;rcases hd with rfl|rfl <;> exact rN
def oQ{d:D}{neg:Bool}(h:dP 60 d):eqD neg d d=some (.bl (!neg)):=by
 obtain⟨x,a1,a2,a3,a4⟩:=h;unfold eqD;rw[a1];dsimp only;rw[qan ⟨⟨a2,a2⟩,eI a3 (by ext),eI a3 (by ext)⟩,SeqAt.eqv_refl x a3];cases neg <;> rfl
def pq(q:Rat):PyData:=.tuple [.int q.num,.int (q.den:Int)]
def py_q(q:Rat):py (qD q)=some (pq q):=rfl
def pys_q(xs:List Rat):pys (xs.map qD)=some (xs.map pq):=by
 induction xs with
 | nil=>rfl
 | cons q xs ih=>rw[qao,pys,py_q,ih];rfl
def eqv_q(a b:Rat):PyData.eqv (pq a) (pq b)=decide (a=b):=by
 have e:=kW [a.num,(a.den:Int)] [b.num,(b.den:Int)];show PyData.eqvAll _ _=_;refine e.trans (decide_eq_decide.mpr ⟨fun h=>?_,fun h=>by rw[h]⟩);injection h with h1 h2
 injection h2 with h2 _
 exact Rat.ext h1 (by ext)
def vP:∀(xs ys:List Rat),PyData.eqvAll (xs.map pq) (ys.map pq)=decide (xs=ys)
 | [],[]=>by simp[PyData.eqvAll]
 | [],_::_=>by simp[PyData.eqvAll]
 | _::_,[]=>by simp[PyData.eqvAll]
 | x::xs,y::ys=>by
  simp only[qao,PyData.eqvAll,eqv_q,vP xs ys];rw[<-Bool.decide_and];exact decide_eq_decide.mpr (by simp)
def jJ{k:Nat}{q:Rat}:dP (k+1) (qD q):=wZ
def ot{k:Nat}{xs:List Rat}:dP (k+1+1) (lD xs):=qT fun d hd=>by
 obtain⟨q,_,rfl⟩:=qaF.mp hd;exact jJ
def p7{neg:Bool}{a b:D}{x y:PyData}(ha:dP 60 a)(hb:dP 60 b)(e1:py a=some x)(e2:py b=some y):eqD neg a b=some (.bl (if neg then !PyData.eqv x y else PyData.eqv x y)):=by
 obtain⟨x',a1,a2,a3,a4⟩:=ha;obtain⟨y',b1,b2,b3,b4⟩:=hb;rw[e1] at a1;cases a1;rw[e2] at b1;cases b1;unfold eqD;rw[e1,e2];dsimp only;rw[qan ⟨⟨a2,b2⟩,eI a3 (by ext),eI b3 (by ext)⟩]
def eqD_q{neg:Bool}{a b:Rat}:eqD neg (qD a) (qD b)=some (.bl (if neg then !decide (a=b) else decide (a=b))):=by
 rw[p7 (jJ (k:=59)) (jJ (k:=59)) (py_q a) (py_q b),eqv_q]
def py_qs(xs:List Rat):py (lD xs)=some (.list (xs.map pq)):=by rw[py,pys_q];rfl
def eqD_qs{neg:Bool}{xs ys:List Rat}:eqD neg (lD xs) (lD ys)=some (.bl (if neg then !decide (xs=ys) else decide (xs=ys))):=by
 rw[p7 (ot (k:=58)) (ot (k:=58)) (py_qs xs) (py_qs ys)];simp only[PyData.eqv,vP]
def wl(bs:List Bool):pys (bs.map .bl)=some (bs.map .bool)/\deps (bs.map .bl)=0/\PyData.canLayAll0 (bs.map .bool)=true:=by
 induction bs with
 | nil=>exact⟨rfl,rfl,rfl⟩
 | cons b bs ih =>
  obtain⟨h1,h2,h3⟩:=ih;refine⟨?_,?_,?_⟩
  ·rw[qao,pys,h1];rfl
  ·rw[qao,deps,h2];rfl
  ·rw[qao,PyData.canLayAll0,h3];rfl
def xw(bs:List Bool):inD true (.bl false) (.lst (bs.map .bl))=some (.bl (bs.all id)):=by
 obtain⟨h1,h2,h3⟩:=wl bs;show (match py (.bl false),pys (bs.map .bl) with | some x,some ys=>if (dep (.bl false)<=60/\deps (bs.map .bl)<=60)/\x.canLay0=true/\PyData.canLayAll0 ys=true then some (D.bl (if true then !ys.any (fun e=>PyData.eqv e x) else ys.any (fun e=>PyData.eqv e x))) else none | _,_=>none)=_;rw[h1];show (if (dep (.bl false)<=60/\deps (bs.map .bl)<=60)/\(PyData.bool false).canLay0=true/\PyData.canLayAll0 (bs.map .bool)=true then some (D.bl (!(bs.map PyData.bool).any (fun e=>PyData.eqv e (.bool false)))) else none)=_;rw[qan ⟨⟨by simp[dep],by rw[h2];decide⟩,rfl,h3⟩];congr 2
 induction bs with
 | nil=>rfl
 | cons b bs ih =>
  obtain⟨h1,h2,h3⟩:=wl bs;rw[qao,qcf,Bool.not_or,ih h1 h2 h3,List.all_cons];cases b <;> rfl
structure PsOk (n:Nat) (ps:List Pt):Prop where
 nd:(ps.map (·.1)).Nodup
 lt:∀p∈ps,p.1<n
 sz:∀p∈ps,sz p.2<=20
 len:ps.length<=n
abbrev pD(ps:List Pt):D:=.tup (ps.map ptD)
def yv{a:Rat}{l:List (Rat × Rat)}{p:Rat × Rat}:ca a (l++[p])=ca a l+p.1 * p.2:=by simp[ca]
def cw_le{r:Rw}{m:Rat}{A B:Nat}(h1:∀p∈r.1,sz p.2<=A)(h2:sz r.2<=A)(h3:sz m<=B):cw r m<=A+B+1 :=
 ui (fun p hp=>by have:=h1 p hp;show sz p.2+sz m+1<=_;ext) (by show sz r.2+sz m+1<=_;ext)
def uQ{c:Nat}:∀{rs:List Rw} {us:List Rat},(∀r∈rs,∀q∈us,cw r q<=c)->TW (rs.zip us)<=rs.length * c
 | [],us,_=>by simp[TW]
 | r::rs,[],_=>by simp[TW]
 | r::rs,q::us,h=>by
  have:=uQ (c:=c) (rs:=rs) (us:=us) fun r hr q hq=>h r (qaa _ hr) q (qaa _ hq)
  have h1:=h r (by simp) q (by simp);rw[qbE,nL,qap,qbK];dsimp only;ext
def ofA(n:Nat)(xs:List Rat):List Pt:=((List.range n).filter fun j=>!decide ((xs.getD j 0).num=0)).map fun j=>(j,xs.getD j 0)
def lN{n:Nat}{xs:List Rat}{s:Pen}(hn:n<=1000)(h:n<=xs.length):cz.p [.int (n:Int),lD xs] s=.ok (pD (ofA n xs)) s:=by
 rw[sL (by rfl)];unfold jx
 rw[show dSt 2 [D.int (n:Int),lD xs]=[some (.int (n:Int)),some (lD xs)] from rfl,bC,ce,ar,cM (l:=List.range n) (fun (j:Nat)=>D.int (j:Int)) (fun j=>ptD (j,xs.getD j 0)) (fun j=>!decide ((xs.getD j 0).num=0)) (s:=s) (by
   simp only[cx,ar,ak,Pb,au]
   rw[d3 (by ext),qaH,eE];rfl) (by simp;ext) (fun j hj=>by
   have hj':j<xs.length:=by rw[qaK] at hj;ext
   refine⟨?_,fun _=>?_⟩
   ·show (xB _:Xt []).p [some (.int (j:Int)),some (lD xs)] s=_;simp![cF,aF,cb,j9 hj',Pf,aU,aM,dm,z0,gh,cq,if_true,PR.bl]
   ·show (aO _:Xe []).p [some (.int (j:Int)),some (lD xs)] s=_
    simp![bI,ar,aF,cb,j9 hj',Pf,au,qap,qaD,show (0+1+1:Nat)<=100000 by decide,if_true])]
 unfold ofA pD;rw[qaJ];simp only[Pb,au,xo,Pf,Pg,PU.bK];rfl
def kS{n:Nat}{xs:List Rat}{y:Rat}:RowOk n (ofA n xs,y):=by
 have e:(ofA n xs).map (·.1)=(List.range n).filter fun j=>!decide ((xs.getD j 0).num=0):=by
  unfold ofA;rw[qaJ];exact (qaM (g:=id) fun _ _=>rfl).trans (List.map_id _)
 refine⟨by show ((ofA n xs).map (·.1)).Nodup;rw[e];exact qbN.filter _,fun p hp=>?_⟩;obtain⟨j,hj,rfl⟩:=qaF.mp hp;exact qaK.mp (qbg.mp hj).1
def tJ{ps:List Pt}{p:Pt}(nd:(ps.map (·.1)).Nodup)(h:p∈ps):coef ps p.1=p.2:=by
 induction ps with
 | nil=>cases h
 | cons q ps ih =>
  rw[qao,qaP] at nd;rw[eL];rcases qam.mp h with rfl|h
  ·rw[qan rfl]
  ·rw[qay fun z=>nd.1 (qaF.mpr ⟨p,h,z.symm⟩),ih nd.2 h]
def jo{n j:Nat}{xs:List Rat}(hj:j<n):coef (ofA n xs) j=xs.getD j 0:=by
 by_cases z:(xs.getD j 0).num=0
 ·rw[fN fun q=>by
   obtain⟨p,hp,e⟩:=qaF.mp q;obtain⟨k,hk,rfl⟩:=qaF.mp hp;have e:k=j:=e;subst e
   have:=(qbg.mp hk).2
   rw[decide_eq_true z] at this
   cases this]
  exact (Rat.num_eq_zero.mp z).symm
 ·exact tJ (p:=(j,xs.getD j 0)) (kS (y:=0)).nd (qaF.mpr ⟨j,qbg.mpr ⟨qaK.mpr hj,by rw[decide_eq_false z];rfl⟩,rfl⟩)
def xy{rs:List Rw}{ms:List Rat}{R:Rw}{y:Rat}(h:rs.length=ms.length):(rs++[R]).zip (ms++[y])=rs.zip ms++[(R,y)]:=by
 rw[List.zip_append h];rfl
def mx_last{rs:List Rw}{ms:List Rat}{R:Rw}{y:Rat}{j:Nat}(h:rs.length=ms.length):dot (mx (rs++[R]) (ms++[y]) j)=dot (mx rs ms j)+coef R.1 j * y:=by
 unfold mx;rw[xy h,List.map_append];exact yv
def cutn{α:Type}(l:List α)(f:α->D)(k:Nat):iw (l.map f) none (some (k:Int))=(l.take k).map f:=by
 have e:HT.sIx (l.map f).length (l.map f).length (some (k:Int))=min k (l.map f).length:=HT.tV _ _ k;unfold iw;rw[e,HT.rS,List.drop_zero,Nat.sub_zero,<-List.map_take,qar];congr 1;by_cases z:k<=l.length
 ·rw[qcw z]
 ·rw[Nat.min_eq_right (by ext),qaZ (qai _),qaZ (by ext)]
def take_at{xs:List Rat}{n j:Nat}(h:j<n):(xs.take n).getD j 0=xs.getD j 0:=by
 simp only[qak,List.getElem?_take,qan h]
def add_q{xs:List Rat}{y:Rat}(h:xs.length<=1000):bN.p (lD xs) (.lst [qD y])=some (lD (xs++[y])):=by
 rw[kB (by simp;ext)];simp
def nY{xs:List Rat}:lend (lD xs)=true:=by
 show flats (xs.map qD)=true
 induction xs with
 | nil=>rfl
 | cons q xs ih=>rw[qao,flats,ih];rfl
abbrev gsT:Xt []:=xB (ai oNe (ab 1) (xC (.int 0)))
abbrev gsB:Xd []:=(aB (aS 2 (ai lx (ab 0) (ab 1))) (aB (aS 0 (ab 1)) (aS 1 (ab 2))))
def gs1{x:Option D}{a b:Int}{n:Nat}{s:Pen}(hb:0<b):df gsT.p gsB.p (n+1) [some (.int a),some (.int b),x] s=df gsT.p gsB.p n [some (.int b),some (.int (a % b)),some (.int (a % b))] s:=by
 rw[df];simp[lT hb,PR.bl,show ¬b=0 by ext]
def gs0{x:Option D}{a:Int}{n:Nat}{s:Pen}:df gsT.p gsB.p (n+1) [some (.int a),some (.int 0),x] s=.nx [some (.int a),some (.int 0),x] s:=by
 rw[df];simp[PR.bl]
def gs_run{s:Pen}:∀(k n:Nat) (a b:Int) (x:Option D),0<=a->0<=b->b<2 ^ k->2 * k+1<=n->∃x',df gsT.p gsB.p n [some (.int a),some (.int b),x] s=.nx [some (.int (Int.gcd a b)),some (.int 0),x'] s:=by
 intro k
 induction k with
 | zero =>
  intro n a b x ha hb hk hn;obtain⟨m,rfl⟩:∃m,n=m+1:=⟨n - 1,by ext⟩
  have:b=0:=by simp at hk;ext
  subst this;exact⟨x,by rw[gs0,eK ha]⟩
 | succ k ih =>
  intro n a b x ha hb hk hn;obtain⟨m,rfl⟩:∃m,n=m+1+1:=⟨n - 2,by ext⟩;by_cases e:b=0
  ·subst e;exact⟨x,by rw[gs0,eK ha]⟩
  ·have hb':0<b:=by ext
   rw[gs1 hb',<-ja ha hb];have r0:=qbF a e;have r1:=qby a hb';generalize a % b=r at r0 r1 ⊢;by_cases er:r=0
   ·subst er;exact⟨_,by rw[gs0,eK hb]⟩
   ·obtain⟨h0,h1,h2⟩:=rZ (b:=b) (r:=r) (by ext) r1;rw[gs1 (by ext),<-ja hb r0];refine ih m r (b % r) _ r0 h0 ?_ (by ext);rw[Int.pow_succ] at hk;ext
def pow_i{a k:Nat}(h:a<2 ^ k):((a:Nat):Int)<2 ^ k:=by
 have:=Int.ofNat_lt.mpr h
 simpa using this
def rT{a b k:Nat}{s:Pen}(hk:b<2 ^ k)(hc:k<=950000):bZ.p [.int (a:Int),.int (b:Int)] s=.ok (.int (Nat.gcd a b:Int)) s:=by
 rw[kn (by rfl)];unfold dJ;obtain⟨x',q⟩:=gs_run (s:=s) k 2000000 (a:Int) (b:Int) none (by ext) (by ext) (pow_i hk) (by ext);rw[show dSt 3 [D.int (a:Int),.int (b:Int)]=[some (.int (a:Int)),some (.int (b:Int)),none] from rfl,aD,xWh_p nG];refine (congrArg (fun z:PS=>(z.then _).fin) q).trans ?_;simp
def whole_p{i:Int}{s:Pen}:gj.p [.int i] s=.ok (.bl true) s:=by
 rw[sG (by rfl)];unfold iU;have e1:(dL ["int"]).p (.int i)=some (.bl true):=rfl;have e2:(dL ["bool"]).p (.int i)=some (.bl false):=rfl;rw[show dSt 1 [D.int i]=[some (.int i)] from rfl];simp only[bC,ox,nt,ak,Pb,e1,e2,Pf,PR.bl,if_true,xNotV_p,Bool.not_false,Pg,PU.bK]
def divI{t b:Int}(hb:b≠0):Rat.divInt t b=Rat.divInt (if b<0 then -t else t) (b.natAbs:Nat):=by
 split
 ·have:((b.natAbs:Nat):Int) = -b:=by ext
  rw[this];exact (Rat.neg_divInt_neg t b).symm
 ·have:((b.natAbs:Nat):Int)=b:=by ext
  rw[this]
def wo{t:Int}{g:Nat}(hg:0<g)(hd:(g:Int) ∣ t):t.fdiv (-(g:Int))=(-t) / (g:Int):=by
 obtain⟨c,rfl⟩:=hd;have h0:(g:Int)≠0:=by ext
 have e1:((g:Int) * c).fdiv (-(g:Int)) = -c:=by
  rw[show (g:Int) * c=(-(g:Int)) * (-c) by rw[Int.neg_mul_neg],qcc _ (by ext)]
 rw[e1,<-Int.mul_neg,qcd _ h0]
def lq{t b:Int}{k:Nat}{s:Pen}(hb:b≠0)(hk:b.natAbs<2 ^ k)(hc:k<=950000):cE.p [.int t,.int b] s=.ok (qD (Rat.divInt t b)) s:=by
 have hb0:b.natAbs≠0:=by ext
 have g0:0<Nat.gcd t.natAbs b.natAbs:=qcb _ (by ext);have sh:=rT (a:=t.natAbs) (s:=s) hk hc;rw[divI hb];obtain⟨e1,e2⟩:=kN (if b<0 then -t else t) b.natAbs hb0;have en:(if b<0 then -t else t).natAbs=t.natAbs:=by split <;> simp
 rw[en] at e1 e2;rw[rB (by rfl)];unfold iy;rw[show dSt 3 [D.int t,.int b]=[some (.int t),some (.int b),none] from rfl];simp![aD,cc,ku,gH,cF,aE,ar,au,whole_p,PR.bl,qbv,qaC,if_false,Pg,ci,PU.ax,aF,aU,aM,eT,cq,Pf,decide_eq_false hb,aV,ce,wg,sh,qag,qah,oLt_ii];have dt:(Nat.gcd t.natAbs b.natAbs:Int) ∣ t:=Int.ofNat_dvd_left.mpr (Nat.gcd_dvd_left _ _);have db:(Nat.gcd t.natAbs b.natAbs:Int) ∣ b:=Int.ofNat_dvd_left.mpr (Nat.gcd_dvd_right _ _);by_cases z:b<0
 ·rw[decide_eq_true z];have f1:oFd.p (.int t) (.int (-(Nat.gcd t.natAbs b.natAbs:Int)))=some (.int ((-t) / (Nat.gcd t.natAbs b.natAbs:Int))):=by rw[mZ (by ext),wo g0 dt]
  have f2:oFd.p (.int b) (.int (-(Nat.gcd t.natAbs b.natAbs:Int)))=some (.int ((-b) / (Nat.gcd t.natAbs b.natAbs:Int))):=by rw[mZ (by ext),wo g0 db]
  have e3:(-b:Int)=(b.natAbs:Nat):=by ext
  rw[qD,e1,e2,qan z];have en2:oNeg.p (.int (Nat.gcd t.natAbs b.natAbs:Int))=some (.int (-(Nat.gcd t.natAbs b.natAbs:Int))):=rfl;simp[f1,f2,e3,en2]
 ·rw[decide_eq_false z];have f1:=gq (a:=t) (b:=(Nat.gcd t.natAbs b.natAbs:Int)) (by ext);have f2:=gq (a:=b) (b:=(Nat.gcd t.natAbs b.natAbs:Int)) (by ext);have e3:((b.natAbs:Nat):Int)=b:=by ext
  rw[qD,e1,e2,qay z];simp[f1,f2,e3]
def fR(a:Nat)(qs:List Rat):Nat:=qs.foldl (fun a q=>a * q.den / Nat.gcd a q.den) a
def lQ{a:Nat}{q:Rat}{qs:List Rat}:fR a (q::qs)=fR (Nat.lcm a q.den) qs:=rfl
def oj:∀(qs:List Rat) (a:Nat),a ∣ fR a qs/\∀q∈qs,q.den ∣ fR a qs
 | [],a=>⟨Nat.dvd_refl _,by simp⟩
 | q::qs,a=>by
  rw[lQ];obtain⟨h1,h2⟩:=oj qs (Nat.lcm a q.den);refine⟨qcC (Nat.dvd_lcm_left _ _) h1,fun p hp=>?_⟩;rcases qam.mp hp with rfl|hp
  ·exact qcC (Nat.dvd_lcm_right _ _) h1
  ·exact h2 p hp
def kJ:∀(qs:List Rat) (a:Nat),0<a->0<fR a qs
 | [],a,h=>h
 | q::qs,a,h=>by rw[lQ];exact kJ qs _ (Nat.lcm_pos h (qbA q.den_nz))
def szs(qs:List Rat):Nat:=(qs.map sz).sum
def lI{q:Rat}{qs:List Rat}:szs (q::qs)=sz q+szs qs:=by simp[szs]
def sn:∀(qs:List Rat) (a k:Nat),a<2 ^ k->fR a qs<2 ^ (k+szs qs)
 | [],a,k,h=>by simpa [szs,fR] using h
 | q::qs,a,k,h=>by
  rw[lQ,lI];have h1:Nat.lcm a q.den<2 ^ (k+sz q):=qbo (qbC _ _) (dD h (bz q))
  have:=sn qs _ _ h1
  rwa [Nat.add_assoc] at this
abbrev sbB:Xd []:=aS 1 (ai oFd (ai bW (ab 1) (ai oIx (ab 2) (xC (.int 1)))) (aq bZ (aa (ab 1) (aa (ai oIx (ab 2) (xC (.int 1))) xNil))))
def tP{P:Option D}{s:Pen}:∀(qs:List Rat) (a k:Nat) (x:Option D),0<a->a<2 ^ k->k+szs qs<=900000->∃x',pGo (xNm 2:Xg []).p sbB.p (qs.map qD) [P,some (.int (a:Int)),x] s=.nx [P,some (.int (fR a qs:Int)),x'] s
 | [],a,k,x,_,_,_=>⟨x,rfl⟩
 | q::qs,a,k,x,h0,hk,hc=>by
  rw[lI] at hc;have h1:Nat.lcm a q.den<2 ^ (k+sz q):=qbo (qbC _ _) (dD hk (bz q));obtain⟨x',e⟩:=tP (P:=P) (s:=s) qs (Nat.lcm a q.den) (k+sz q) (some (qD q)) (Nat.lcm_pos h0 (qbA q.den_nz)) h1 (by ext);refine⟨x',?_⟩;have sh:=rT (a:=a) (b:=q.den) (s:=s) (bz q) (by ext);have m:=dZ (a:=(a:Int)) (b:=(q.den:Int)) (j:=k) (k:=sz q) (by simpa using hk) (by simpa using bz q);have g0:0<Nat.gcd a q.den:=Nat.gcd_pos_of_pos_left _ h0;have f:=gq (a:=(a:Int) * (q.den:Int)) (b:=(Nat.gcd a q.den:Int)) (by ext);have e1:sbB.p [P,some (.int (a:Int)),some (qD q)] s=.nx [P,some (.int (Nat.lcm a q.den:Int)),some (qD q)] s:=by
   simp![aV,aF,aU,aM,dm,z1,Pf,m,aE,ar,au,sh,f,Pg,qag,qah]
   have:((a:Int) * (q.den:Int)) / (Nat.gcd a q.den:Int)=(Nat.lcm a q.den:Int):=by
    rw[<-qbG,<-qcl];rfl
   rw[this]
  rw[qao,cQ (env1:=[P,some (.int (a:Int)),some (qD q)]) (by rfl),e1];exact e
def lY{qs:List Rat}{s:Pen}(hc:1+szs qs<=900000):eU.p [lD qs] s=.ok (.int (fR 1 qs:Int)) s:=by
 rw[lK (by rfl)];unfold e9;rw[show dSt 3 [lD qs]=[some (lD qs),none,none] from rfl];obtain⟨x',q⟩:=tP (P:=some (lD qs)) (s:=s) qs 1 1 none (by decide) (by decide) hc;dsimp![aD,aV,aU,aM,cD,bM,ak,Pb,bn,Pf];refine (congrArg (fun z:PS=>(z.then _).fin) q).trans ?_;simp
def vi(j:Nat):∀ps:List Pt,(dix (ps.map fun p=>((p.1:Nat):Int)) (ps.map fun p=>qD p.2) (j:Int)).getD (.tup [.int 0,.int 1])=qD (coef ps j)
 | []=>rfl
 | p::ps=>by
  have ih:=vi j ps;rw[qao,qao,dix,eL];by_cases e:p.1=j
  ·subst e;simp
  ·rw[qay (by ext),qay e];exact ih
def dict_pt{ps:List Pt}(nd:(ps.map (·.1)).Nodup):cDict.p [.tup (ps.map ptD)]=some (.dic false (ps.map fun p=>((p.1:Nat):Int)) (ps.map fun p=>qD p.2)):=by
 show (dgD (.tup (ps.map ptD))).map _=_;rw[dg_pt nd,qbs];simp[qaJ,Function.comp_def]
def nums(n:Nat)(r:Rw):List Rat:=(List.range n).map (coef r.1)++[r.2]
def oft(n:Nat)(r:Rw):Nat:=fR 1 (nums n r)
def wr(n m:Nat)(r:Rw)(k:Nat):List Int:=(nums n r).map (fun q=>q.num * ((oft n r:Int) / (q.den:Int)))++(List.range m).map fun i=>if i=k then (oft n r:Int) else 0
abbrev iD(l:List Int):D:=.lst (l.map .int)
def fy{n:Nat}{r:Rw}:(nums n r).length=n+1:=by simp[nums]
def oft_pos{n:Nat}{r:Rw}:0<oft n r:=kJ _ _ (by decide)
def wr_len{n m:Nat}{r:Rw}{k:Nat}:(wr n m r k).length=n+1+m:=by simp[wr,fy]
def qw{x:Nat}:∀{l:List Nat},x∈l->x<=l.sum
 | y::l,h=>by
  rw[List.sum_cons];rcases qam.mp h with rfl|h
  ·ext
  ·have:=qw h;ext
def sK{n k:Nat}{rs:List Rw}{s:Pen}(hn:n<=100)(hl:rs.length<=1000)(hk:k<rs.length)(ok:RowOk n rs[k])(hz:1+szs (nums n rs[k])<=400000):dR.p [.int (n:Int),rsD rs,.int (k:Int)] s=.ok (iD (wr n rs.length rs[k] k)) s:=by
 generalize er:rs[k]=r at *;have ha:atI (rs.map rwD) (k:Int)=some (rwD r):=by rw[at_r hk,er]
 have h1:oft n r<2 ^ (1+szs (nums n r)):=sn _ 1 1 (by decide);have dv:=(oj (nums n r) 1).2;have sb:=lY (qs:=nums n r) (s:=s) (by ext);have hs:∀q∈nums n r,sz q<=szs (nums n r):=fun q hq=>by
  unfold szs;exact qw (qaF.mpr ⟨q,hq,rfl⟩)
 rw[rW (by rfl)];unfold iq;rw[show dSt 7 [D.int (n:Int),rsD rs,.int (k:Int)]=[some (.int (n:Int)),some (rsD rs),some (.int (k:Int)),none,none,none,none] from rfl];have c1:=cM (ws:=[]) (ws':=[]) (env:=[some (.int (n:Int)),some (rsD rs),some (.int (k:Int)),some (.dic false (r.1.map fun p=>((p.1:Nat):Int)) (r.1.map fun p=>qD p.2)),none,none,none]) (s:=s) (s0:=s) (fm:=[3]) (i:=bO iR1 (aa (ab 0) xNil)) (t:=xTrue) (e:=xDG (ab 1) (aa (ab 0) (aa (xCT 0 1) xNil))) (l:=List.range n) (fun (j:Nat)=>D.int (j:Int)) (fun j=>qD (coef r.1 j)) (fun _=>true)
  (by simp only[cx,ar,ak,Pb,au];rw[d3 (by ext),qaH,eE];rfl) (by simp;ext) fun j _=>⟨rfl,fun _=>by
   show (xDG _ _:Xe []).p [some (.int (j:Int)),some (.dic false (r.1.map fun p=>((p.1:Nat):Int)) (r.1.map fun p=>qD p.2))] s=_
   simp![xDG_p,ar,xCT_p,au,vi]⟩
 have c2:=cM (ws:=[]) (ws':=[]) (env:=[some (.int (n:Int)),some (rsD rs),some (.int (k:Int)),some (.dic false (r.1.map fun p=>((p.1:Nat):Int)) (r.1.map fun p=>qD p.2)),some (lD (nums n r)),some (.int (oft n r:Int)),none]) (s:=s) (s0:=s) (fm:=[5,2]) (i:=bO iR1 (aa (xCb du (aa (ab 1) xNil)) xNil)) (t:=xTrue) (e:=xIfE (xB (ai oEq (ab 0) (ab 2))) (ab 1) (xC (.int 0)) true) (l:=List.range rs.length) (fun (j:Nat)=>D.int (j:Int)) (fun j=>D.int (if j=k then (oft n r:Int) else 0)) (fun _=>true)
  (by simp![cx,ar,ce,au,gJ,qar,Pf];rw[d3 (by ext),qaH,eE];rfl) (by simp;ext) fun j _=>⟨rfl,fun _=>by
   show (xIfE _ _ _ _ _:Xe []).p [some (.int (j:Int)),some (.int (oft n r:Int)),some (.int (k:Int))] s=_;simp![xIfE_p,cF,aF,eT,cq,Pf,PR.bl,qaC,if_false];by_cases e:j=k
   ·subst e;simp
   ·have:¬(j:Int)=(k:Int):=by ext
    simp[e,this]⟩
 have c3:=cM (ws:=[]) (ws':=[]) (env:=[some (.int (n:Int)),some (rsD rs),some (.int (k:Int)),some (.dic false (r.1.map fun p=>((p.1:Nat):Int)) (r.1.map fun p=>qD p.2)),some (lD (nums n r)),some (.int (oft n r:Int)),some (.lst ((List.range rs.length).map fun j=>D.int (if j=k then (oft n r:Int) else 0)))]) (s:=s) (s0:=s) (fm:=[5]) (i:=bj (ab 4)) (t:=xTrue) (e:=ai bW (ai oIx (ab 0) (xC (.int 0))) (ai oFd (ab 1) (ai oIx (ab 0) (xC (.int 1))))) (l:=nums n r) qD (fun q=>D.int (q.num * ((oft n r:Int) / (q.den:Int)))) (fun _=>true)
  (by simp![bM,bn,Pf]) (by rw[fy];ext) fun q hq=>⟨rfl,fun _=>by
   show (ai _ _ _:Xe []).p [some (qD q),some (.int (oft n r:Int))] s=_;have f:=gq (a:=(oft n r:Int)) (b:=(q.den:Int)) (by have:=q.den_nz;ext)
   have m:=dZ (a:=q.num) (b:=(oft n r:Int) / (q.den:Int)) (j:=sz q) (k:=1+szs (nums n r)) (dz q) (by
    rw[<-qcl,qbz]
    exact qbo (qbC _ _) h1) (by have:=hs q hq;ext)
   simp![aF,aU,aM,dm,z0,z1,Pf,f,m]⟩
 have a1:bN.p (.lst (((List.range n).filter fun _=>true).map fun j=>qD (coef r.1 j))) (.lst [qD r.2])=some (lD (nums n r)):=by
  rw[bu,kB (by simp;ext)];simp[nums,lD,qaJ,Function.comp_def]
 have a2:bN.p (.lst (((nums n r).filter fun _=>true).map fun q=>D.int (q.num * ((oft n r:Int) / (q.den:Int))))) (.lst ((List.range rs.length).map fun j=>D.int (if j=k then (oft n r:Int) else 0)))=some (iD (wr n rs.length r k)):=by
  rw[bu,kB (by simp[fy];ext)];simp[wr,iD,qaJ,Function.comp_def]
 simp![aD,aV,ce,ar,aF,cb,ha,Pf,aU,aM,dm,z0,z1,au,dict_pt ok.nd,Pg,qag,qah,PU.ax,c1,cA,qap,qaD,show (0+1:Nat)<=100000 by decide,if_true,a1,aE,sb];rw[show ((fR 1 (nums n r):Nat):Int)=(oft n r:Int) from rfl,c2];dsimp![bu,bC,aF];rw[c3];simp![a2,Pf,Pg,PU.bK]
def j4{l:List Int}{i:Nat}(h:i<l.length):atI (l.map D.int) (i:Int)=some (.int (l.getD i 0)):=by
 refine L2.cZ ?_;rw[qax,qaj h,qak,qaj h];rfl
def clr(row ch:List Int)(p:Nat)(d:Int):List Int:=(row.zip ch).map fun x=>(ch.getD p 0 * x.1 - row.getD p 0 * x.2).fdiv d
def pf{row ch:List Int}{p k:Nat}{d:Int}{s:Pen}(h1:p<row.length)(h2:p<ch.length)(hl:row.length<=10000)(hd:d≠0)(b1:∀x∈row,x.natAbs<2 ^ k)(b2:∀x∈ch,x.natAbs<2 ^ k)(hk:k<=1000000) :
  cB.p [iD row,iD ch,.int (p:Int),.int d] s=.ok (iD (clr row ch p d)) s:=by
 have g1:(row.getD p 0).natAbs<2 ^ k:=by rw[qak,qaj h1];exact b1 _ (qaN h1)
 have g2:(ch.getD p 0).natAbs<2 ^ k:=by rw[qak,qaj h2];exact b2 _ (qaN h2)
 rw[vg (by rfl)];unfold jK;rw[show dSt 4 [iD row,iD ch,.int (p:Int),.int d]=[some (iD row),some (iD ch),some (.int (p:Int)),some (.int d)] from rfl,bC];have c:=mJ (ws:=[]) (ws':=[]) (env:=[some (iD row),some (iD ch),some (.int (p:Int)),some (.int d)]) (s:=s) (s0:=s) (fm:=[3,1,2,0]) (i:=bO iZ (aa (ab 0) (aa (ab 1) xNil))) (t:=xTrue) (e:=ai oFd (ai eB (ai bW (ai oIx (ab 3) (ab 4)) (ab 0)) (ai bW (ai oIx (ab 5) (ab 4)) (ab 1))) (ab 2)) (l:=row.zip ch) (fun x=>D.int x.1) (fun x=>D.int x.2) (fun x=>D.int ((ch.getD p 0 * x.1 - row.getD p 0 * x.2).fdiv d)) (fun _=>true)
  (by simp![cx,ar,au,iZ_ll,Pf,nS]) (zip_len (by ext)) fun x hx=>⟨rfl,fun _=>by
   show (ai _ _ _:Xe []).p [some (.int x.1),some (.int x.2),some (.int d),some (iD ch),some (.int (p:Int)),some (iD row)] s=_;obtain⟨m1,m2⟩:=qbr hx;have e1:=dZ (a:=ch.getD p 0) (b:=x.1) g2 (b1 _ m1) hk hk;have e2:=dZ (a:=row.getD p 0) (b:=x.2) g1 (b2 _ m2) hk hk
   simp![aF,cb,j4 h1,j4 h2,Pf,e1,e2,gu,mZ hd]⟩
 rw[c];simp only[bu,Pg,PU.bK];simp[clr,iD,qaJ,Function.comp_def]
abbrev Fm:=List Nat->Int
abbrev Vc:=Nat->Int
def W(r:Vc):Fm->List Nat->Int
 | _,[]=>0
 | f,q::l=>r q * f l - W r (fun l=>f (q::l)) l
def u9(r:Vc)(a b:Int):∀(l:List Nat) (f g:Fm),W r (fun l=>a * f l+b * g l) l=a * W r f l+b * W r g l
 | [],f,g=>by simp[W]
 | q::l,f,g=>by
  simp only[W];rw[u9 r a b l (fun l=>f (q::l)) (fun l=>g (q::l))]
  grind
def ii(a b:Int)(r s:Vc):∀(l:List Nat) (f:Fm),W (fun q=>a * r q+b * s q) f l=a * W r f l+b * W s f l
 | [],f=>by simp[W]
 | q::l,f=>by
  simp only[W];rw[ii a b r s l]
  grind
def mj(r s:Vc):∀(l:List Nat) (f:Fm),W r (W s f) l+W s (W r f) l=0
 | [],f=>by simp[W]
 | q::l,f=>by
  have e:∀(r s:Vc),W r (W s f) (q::l)=r q * W s f l - s q * W r f l+W r (W s fun l=>f (q::l)) l:=fun r s=>by
   have:(fun l=>W s f (q::l))=fun l=>s q * f l+(-1) * W s (fun l=>f (q::l)) l:=by
    funext l;simp only[W];grind
   show r q * W s f l - W r (fun l=>W s f (q::l)) l=_;rw[this,u9]
   grind
  rw[e r s,e s r]
  have:=mj r s l fun l=>f (q::l)
  grind
def W_self(r:Vc)(l:List Nat)(f:Fm):W r (W r f) l=0:=by
 have:=mj r r l f
 ext
def one:Fm:=fun l=>if l=[] then 1 else 0
def Dt:List Vc->Fm
 | []=>one
 | r::rs=>W r (Dt rs)
def qA(r:Vc):∀(l:List Nat) (f:Fm),(∀l,f l=0)->W r f l=0
 | [],f,h=>rfl
 | q::l,f,h=>by
  simp only[W];rw[h,qA r l _ fun l=>h (q::l)];ext
def uK(a:Vc):∀(rs:List Vc),a∈rs->∀l,W a (Dt rs) l=0
 | r::rs,h,l=>by
  rcases qam.mp h with rfl|h
  ·exact W_self _ _ _
  ·have:=mj a r l (Dt rs)
   have z:W r (W a (Dt rs)) l=0:=qA r l _ (uK a rs h);show W a (W r (Dt rs)) l=0;ext
def g9(a:Vc):∀(l:List Nat) (f:Fm),(∀q∈l,a q=0)->W a f l=0
 | [],f,_=>rfl
 | q::l,f,h=>by
  simp only[W];rw[h q (by simp),g9 a l _ fun q hq=>h q (qaa _ hq)];ext
inductive Sp (rs:List Vc):Vc->Prop
 | nil:Sp rs fun _=>0
 | add {v r:Vc} (c:Int) (h:Sp rs v) (m:r∈rs):Sp rs fun q=>v q+c * r q
def Sp.w{rs:List Vc}{v:Vc}(h:Sp rs v)(l:List Nat):W v (Dt rs) l=0:=by
 induction h with
 | nil=>exact g9 _ _ _ fun _ _=>rfl
 | @add v r c _ m ih =>
  have:=ii 1 c v r l (Dt rs)
  rw[show (fun q=>v q+c * r q)=fun q=>1 * v q+c * r q by funext q;ext,this,ih,uK r rs m l];ext
def syl{rs:List Vc}{P:List Nat}{a b a' b' u v:Vc}{m:Int}(hm:m≠0)(ha:∀q,a' q=m * a q+u q)(hb:∀q,b' q=m * b q+v q)(su:Sp rs u)(sv:Sp rs v)(za:∀q∈P,a' q=0)(zb:∀q∈P,b' q=0)(j p:Nat) :
  Dt rs P * W a (W b (Dt rs)) (j::p::P)=W b (Dt rs) (p::P) * W a (Dt rs) (j::P) - W a (Dt rs) (p::P) * W b (Dt rs) (j::P):=by
 have ea:a'=fun q=>m * a q+1 * u q:=by funext q;rw[ha];ext
 have eb:b'=fun q=>m * b q+1 * v q:=by funext q;rw[hb];ext
 have fa:∀l,W a' (Dt rs) l=m * W a (Dt rs) l:=fun l=>by rw[ea,ii,su.w l];ext
 have fb:∀l,W b' (Dt rs) l=m * W b (Dt rs) l:=fun l=>by rw[eb,ii,sv.w l];ext
 have ga:∀j,W a' (Dt rs) (j::P)=a' j * Dt rs P:=fun j=>by simp only[W];rw[g9 a' P _ za];ext
 have gb:∀j,W b' (Dt rs) (j::P)=b' j * Dt rs P:=fun j=>by simp only[W];rw[g9 b' P _ zb];ext
 have e1:W a' (W b' (Dt rs)) (j::p::P)=m * m * W a (W b (Dt rs)) (j::p::P):=by
  have:W b' (Dt rs)=fun l=>m * W b (Dt rs) l+0 * W b (Dt rs) l:=by funext l;rw[fb];ext
  rw[this,u9,ea,ii];have z:W u (W b (Dt rs)) (j::p::P)=0:=by
   have:=mj u b (j::p::P) (Dt rs)
   rw[qA b _ _ su.w] at this;ext
  rw[z];grind
 have e2:W a' (W b' (Dt rs)) (j::p::P)=a' j * (b' p * Dt rs P) - a' p * (b' j * Dt rs P):=by
  have:W a' (fun l=>W b' (Dt rs) (j::l)) (p::P)=a' p * W b' (Dt rs) (j::P) - W a' (fun l=>W b' (Dt rs) (j::p::l)) P:=rfl
  show a' j * W b' (Dt rs) (p::P) - W a' (fun l=>W b' (Dt rs) (j::l)) (p::P)=_;rw[this,g9 a' P _ za,gb p,gb j];ext
 have h1:=ga j;have h2:=ga p;have h3:=gb j;have h4:=gb p;rw[fa] at h1 h2;rw[fb] at h3 h4;have key:m * m * (Dt rs P * W a (W b (Dt rs)) (j::p::P))=m * m * (W b (Dt rs) (p::P) * W a (Dt rs) (j::P) - W a (Dt rs) (p::P) * W b (Dt rs) (j::P)):=by
  rw[e1] at e2;have e3:m * m * (W b (Dt rs) (p::P) * W a (Dt rs) (j::P) - W a (Dt rs) (p::P) * W b (Dt rs) (j::P))=(m * W b (Dt rs) (p::P)) * (m * W a (Dt rs) (j::P)) - (m * W a (Dt rs) (p::P)) * (m * W b (Dt rs) (j::P)):=by grind
  rw[e3,h1,h2,h3,h4];have e4:m * m * (Dt rs P * W a (W b (Dt rs)) (j::p::P))=Dt rs P * (m * m * W a (W b (Dt rs)) (j::p::P)):=by grind
  rw[e4,e2]
  grind
 exact Int.eq_of_mul_eq_mul_left (Int.mul_ne_zero hm hm) key
def Sp.add'{rs:List Vc}{u v:Vc}(hu:Sp rs u)(hv:Sp rs v):Sp rs fun q=>u q+v q:=by
 induction hv with
 | nil=>simpa using hu
 | @add v r c _ m ih =>
  have:=Sp.add c ih m
  rw[show (fun q=>u q+(v q+c * r q))=fun q=>(u q+v q)+c * r q by funext q;ext];exact this
def Sp.smul{rs:List Vc}{v:Vc}(k:Int)(hv:Sp rs v):Sp rs fun q=>k * v q:=by
 induction hv with
 | nil=>simpa using Sp.nil
 | @add v r c _ m ih =>
  have:=Sp.add (k * c) ih m
  rw[show (fun q=>k * (v q+c * r q))=fun q=>k * v q+(k * c) * r q by funext q;grind];exact this
def Sp.mono{rs:List Vc}{r:Vc}{v:Vc}(h:Sp rs v):Sp (r::rs) v:=by
 induction h with
 | nil=>exact .nil
 | add c _ m ih=>exact .add c ih (qaa _ m)
def sp_W{rs:List Vc}(r:Vc):∀(L:List Nat) (F:Nat->Fm),(∀L,Sp rs fun j=>F j L)->Sp rs fun j=>W r (F j) L
 | [],F,h=>Sp.nil
 | q::L,F,h=>by
  have h1:=(h L).smul (r q);have h2:=(sp_W r L (fun j l=>F j (q::l)) fun L=>h (q::L)).smul (-1)
  have:=h1.add' h2
  rw[show (fun j=>W r (F j) (q::L))=fun j=>r q * F j L + -1 * W r (fun l=>F j (q::l)) L by funext j;simp only[W];ext];exact this
def sp_Dt:∀(rs:List Vc) (L:List Nat),Sp rs fun j=>Dt rs (j::L)
 | [],L=>by
  rw[show (fun j=>Dt [] (j::L))=fun _=>0 by funext j;rfl];exact .nil
 | r::rs,L=>by
  have h1:Sp (r::rs) fun j=>r j * Dt rs L:=by
   have:=(Sp.add (rs:=r::rs) (r:=r) (Dt rs L) .nil (by simp))
   rw[show (fun j=>r j * Dt rs L)=fun j=>0+Dt rs L * r j by funext j;grind];exact this
  have h2:=(sp_W (rs:=r::rs) r L (fun j l=>Dt rs (j::l)) fun L=>(sp_Dt rs L).mono).smul (-1)
  have:=h1.add' h2
  rw[show (fun j=>Dt (r::rs) (j::L))=fun j=>r j * Dt rs L + -1 * W r (fun l=>Dt rs (j::l)) L by funext j;show r j * Dt rs L - _=_;ext];exact this
abbrev Lf(rs:List Vc)(P:List Nat)(a:Vc):Vc:=fun j=>W a (Dt rs) (j::P)
def pU(rs:List Vc)(P:List Nat)(a:Vc):∃u,Sp rs u/\∀j,Lf rs P a j=Dt rs P * a j+u j:=by
 refine⟨fun j => -1 * W a (fun l=>Dt rs (j::l)) P,(sp_W a P (fun j l=>Dt rs (j::l)) fun L=>sp_Dt rs L).smul (-1),fun j=>?_⟩;show a j * Dt rs P - _=_
 have:a j * Dt rs P=Dt rs P * a j:=qcF _ _
 dsimp only;ext
structure Stg (rs:List Vc) (P:List Nat):Prop where
 ne:Dt rs P≠0
 van:∀a q,q∈P->Lf rs P a q=0
def stg0:Stg [] []:=⟨by decide,fun _ _ h=>by cases h⟩
def Stg.step{rs:List Vc}{P:List Nat}(s:Stg rs P)(a b:Vc)(j p:Nat):Dt rs P * Lf (b::rs) (p::P) a j=Lf rs P b p * Lf rs P a j - Lf rs P a p * Lf rs P b j:=by
 obtain⟨u,su,eu⟩:=pU rs P a;obtain⟨v,sv,ev⟩:=pU rs P b;exact syl s.ne (a':=Lf rs P a) (b':=Lf rs P b) eu ev su sv (s.van a) (s.van b) j p
def Stg.next{rs:List Vc}{P:List Nat}(s:Stg rs P){b:Vc}{p:Nat}(h:Lf rs P b p≠0):Stg (b::rs) (p::P):=by
 refine⟨h,fun a q hq=>?_⟩;have e:=s.step a b q p;have z:Dt rs P * Lf (b::rs) (p::P) a q=0:=by
  rw[e];rcases qam.mp hq with rfl|hq
  ·rw[qcF];ext
  ·rw[s.van a q hq,s.van b q hq];simp
 exact (Int.mul_eq_zero.mp z).resolve_left s.ne
def dlt(p:Nat):Vc:=fun q=>if q=p then 1 else 0
def Hd(rs:List Vc)(P:List Nat)(p:Nat):Vc:=fun j=>Lf rs P (fun q => -dlt p q) j+Dt rs P * dlt p j
def Hd_new{rs:List Vc}{P:List Nat}{b:Vc}{p:Nat}(hp:p∉P)(j:Nat):Hd (b::rs) (p::P) p j=Lf rs P b j:=by
 have off:∀f:Fm,W (fun q => -dlt p q) f P=0:=fun f=>g9 _ _ _ fun q hq=>by
  have:q≠p:=fun z=>hp (z▸hq)
  simp[dlt,this]
 show (-dlt p j * W b (Dt rs) (p::P) - (-dlt p p * W b (Dt rs) (j::P) - W (fun q => -dlt p q) _ P))+W b (Dt rs) (p::P) * dlt p j=W b (Dt rs) (j::P);rw[off,show dlt p p=1 by simp[dlt]]
 grind
def Hd_old{rs:List Vc}{P:List Nat}(s:Stg rs P){b:Vc}{p p':Nat}(ne:p'≠p)(j:Nat):Dt rs P * Hd (b::rs) (p'::P) p j=Lf rs P b p' * Hd rs P p j - Hd rs P p p' * Lf rs P b j:=by
 have e:=s.step (fun q => -dlt p q) b j p';unfold Hd;rw[show dlt p p'=0 by simp[dlt,ne]];show Dt rs P * (Lf (b::rs) (p'::P) (fun q => -dlt p q) j+Lf rs P b p' * dlt p j)=_;rw[Int.mul_add,e]
 grind
def jp{rs:List Vc}{P:List Nat}(s:Stg rs P){p q:Nat}(hq:q∈P):Hd rs P p q=Dt rs P * dlt p q:=by
 unfold Hd;rw[s.van _ q hq];ext
def Hd_sp(rs:List Vc)(P:List Nat)(p:Nat):Sp rs (Hd rs P p):=by
 obtain⟨u,su,eu⟩:=pU rs P fun q => -dlt p q;rw[show Hd rs P p=u by funext j;unfold Hd;rw[eu];grind];exact su
def W_loc{a b:Vc}:∀(l:List Nat) (f:Fm),(∀q∈l,a q=b q)->W a f l=W b f l
 | [],f,_=>rfl
 | q::l,f,h=>by
  simp only[W];rw[h q (by simp),W_loc l _ fun q hq=>h q (qaa _ hq)]
def cS(P:List Nat)(f:Nat->Int):Int:=(P.map f).foldr (·+·) 0
def cP{p:Nat}{P:List Nat}{f:Nat->Int}:cS (p::P) f=f p+cS P f:=rfl
def W_sum(f:Fm)(l:List Nat)(a:Vc):∀Q:List Nat,W (fun q=>cS Q fun p=>a p * dlt p q) f l=cS Q fun p=>a p * W (dlt p) f l
 | []=>g9 _ _ _ fun _ _=>rfl
 | p::Q=>by
  have:=ii (a p) 1 (dlt p) (fun q=>cS Q fun p=>a p * dlt p q) l f
  rw[show (fun q=>cS (p::Q) fun p=>a p * dlt p q)=fun q=>a p * dlt p q+1 * cS Q fun p=>a p * dlt p q by funext q;rw[cP];ext,this,W_sum f l a Q,cP];ext
def sM{P:List Nat}(nd:P.Nodup)(a:Vc)(q:Nat):(cS P fun p=>a p * dlt p q)=if q∈P then a q else 0:=by
 induction P with
 | nil=>rfl
 | cons p P ih =>
  rw[cP,ih (qaP.mp nd).2];by_cases e:q=p
  ·subst e;simp[dlt,(qaP.mp nd).1]
  ·by_cases h:q∈P <;> simp[dlt,e,h]
def xV{P:List Nat}{f:Nat->Int}:(cS P fun p => -f p) = -cS P f:=by
 induction P with
 | nil=>rfl
 | cons p P ih=>rw[cP,cP,ih];ext
def nj{P:List Nat}{f g:Nat->Int}(h:∀p∈P,f p=g p):cS P f=cS P g:=by
 induction P with
 | nil=>rfl
 | cons p P ih=>rw[cP,cP,h p (by simp),ih fun q hq=>h q (qaa _ hq)]
def Lf_held{rs:List Vc}{P:List Nat}(s:Stg rs P)(nd:P.Nodup)(a:Vc)(j:Nat):Lf rs P a j=Dt rs P * a j - cS P fun p=>a p * Hd rs P p j:=by
 by_cases hj:j∈P
 ·rw[s.van a j hj]
  have:(cS P fun p=>a p * Hd rs P p j)=cS P fun p=>(Dt rs P * a p) * dlt p j:=nj fun p _=>by rw[jp s hj];grind
  rw[this,sM nd (fun p=>Dt rs P * a p) j,qan hj];ext
 ·have e1:Lf rs P a j=W (fun q=>a j * dlt j q+1 * cS P fun p=>a p * dlt p q) (Dt rs) (j::P):=by
   refine W_loc _ _ fun q hq=>?_;rw[sM nd a q];rcases qam.mp hq with rfl|hq
   ·simp[dlt,hj]
   ·have:q≠j:=fun z=>hj (z▸hq)
    simp[dlt,this,hq]
  rw[e1,ii,W_sum];have e2:W (dlt j) (Dt rs) (j::P)=Dt rs P:=by
   show dlt j j * Dt rs P - W (dlt j) _ P=_
   rw[g9 (dlt j) P _ fun q hq=>by
    have:q≠j:=fun z=>hj (z▸hq)
    simp[dlt,this]]
   simp[dlt]
  rw[e2];have e3:(cS P fun p=>a p * Hd rs P p j)=cS P fun p => -(a p * W (dlt p) (Dt rs) (j::P)):=nj fun p hp=>by
   have ne:¬j=p:=fun z=>hj (z▸hp);have e4:Lf rs P (fun q => -dlt p q) j = -W (dlt p) (Dt rs) (j::P):=by
    have:=ii (-1) 0 (dlt p) (dlt p) (j::P) (Dt rs)
    show W (fun q => -dlt p q) (Dt rs) (j::P)=_;rw[show (fun q => -dlt p q)=fun q => -1 * dlt p q+0 * dlt p q by funext q;ext,this];ext
   unfold Hd;rw[e4];simp[dlt,ne,Int.mul_neg]
  rw[e3,xV]
  have:a j * Dt rs P=Dt rs P * a j:=qcF _ _
  ext
def vN{r:Vc}{M:Nat}(hr:∀q,(r q).natAbs<=M):∀(l:List Nat) (f:Fm) (N B:Nat),l.length<=N+1->(∀l,l.length<=N->(f l).natAbs<=B)->(W r f l).natAbs<=l.length * (M * B)
 | [],f,N,B,_,_=>by simp[W]
 | q::l,f,N,B,hl,h=>by
  simp only[W,qap] at *;have h1:(W r (fun l=>f (q::l)) l).natAbs<=l.length * (M * B):=by
   cases N with
   | zero =>
    have:l=[]:=qci.mp (by ext)
    subst this;simp[W]
   | succ N=>exact vN hr l (fun l=>f (q::l)) N B (by ext) fun l hl=>h (q::l) (by simp;ext)
  have h2:(r q * f l).natAbs<=M * B:=by rw[qbp];exact qbI (hr q) (h l (by ext))
  have h3:(l.length+1) * (M * B)=l.length * (M * B)+M * B:=by rw[Nat.add_mul,Nat.one_mul]
  ext
def oq{M:Nat}:∀(rs:List Vc),(∀r∈rs,∀q,(r q).natAbs<=M)->∀l:List Nat,l.length<=16->(Dt rs l).natAbs<=(16 * M) ^ rs.length
 | [],_,l,_=>by
  show (one l).natAbs<=1;unfold one;split <;> decide
 | r::rs,h,l,hl=>by
  have h1:=vN (h r (by simp)) l (Dt rs) 16 ((16 * M) ^ rs.length) (by ext) (oq rs fun x hx=>h x (qaa _ hx));refine qaI h1 ?_;rw[qap,qbX]
  have:l.length * (M * (16 * M) ^ rs.length)<=16 * (M * (16 * M) ^ rs.length):=qaG _ hl
  have e:16 * (M * (16 * M) ^ rs.length)=(16 * M) ^ rs.length * (16 * M):=by rw[<-qcD,qbL]
  ext
def tf{M:Nat}{rs:List Vc}{P:List Nat}{a:Vc}(h:∀r∈rs,∀q,(r q).natAbs<=M)(ha:∀q,(a q).natAbs<=M)(hP:P.length<=15)(j:Nat):(Lf rs P a j).natAbs<=(16 * M) ^ (rs.length+1) :=
 oq (a::rs) (fun r hr=>by
  rcases qam.mp hr with rfl|hr
  ·exact ha
  ·exact h r hr) (j::P) (by simp;ext)
def Hd_size{M:Nat}{rs:List Vc}{P:List Nat}{p:Nat}(hM:1<=M)(h:∀r∈rs,∀q,(r q).natAbs<=M)(hP:P.length<=15)(j:Nat):(Hd rs P p j).natAbs<=2 * (16 * M) ^ (rs.length+1):=by
 have h1:=tf (P:=P) (a:=fun q => -dlt p q) h (fun q=>by unfold dlt;split <;> simp <;> ext) hP j;have h2:=oq rs h P (by ext);have h3:(16 * M) ^ rs.length<=(16 * M) ^ (rs.length+1):=qaX (by ext) (by ext);have h4:(Dt rs P * dlt p j).natAbs<=(16 * M) ^ rs.length:=by
  rw[qbp]
  have:(dlt p j).natAbs<=1:=by unfold dlt;split <;> decide
  exact qaI (qbI h2 this) (by ext)
 unfold Hd;ext
abbrev vc(l:List Int):Vc:=fun j=>l.getD j 0
def tb(N:Nat)(v:Vc):List Int:=(List.range N).map v
def cV{N:Nat}{v:Vc}:(tb N v).length=N:=by simp[tb]
def hJ{N:Nat}{v:Vc}{j:Nat}(h:j<N):(tb N v).getD j 0=v j:=by
 rw[qak];simp[tb,h]
def tb_vc(l:List Int):tb l.length (vc l)=l:=by
 apply qcm
 ·simp[tb]
 ·intro i h1 h2;simp only[tb,qcn,qbY];show l.getD i 0=_;rw[qak,qaj h2];rfl
def vq{N:Nat}{a b u:Vc}{p:Nat}{d:Int}(hp:p<N)(hd:d≠0)(h:∀j,d * u j=b p * a j - a p * b j):clr (tb N a) (tb N b) p d=tb N u:=by
 unfold clr;rw[hJ hp,hJ hp];unfold tb;rw[List.zip_map',qaJ];refine qaM fun j _=>?_;show (b p * a j - a p * b j).fdiv d=u j;rw[<-h j,qcc _ hd]
abbrev tD(N:Nat)(v:Vc):D:=iD (tb N v)
structure RI (M:Nat) (V:List Vc) (pl:Nat) (R:List Vc) (P:List Nat) (L:List Vc):Prop where
 st:Stg R P
 nd:P.Nodup
 lt:∀p∈P,p<pl
 len:R.length=P.length
 all:∀v,v∈V↔v∈R\/v∈L
 sz:∀v∈V,∀q,(v q).natAbs<=M
 off:∀q,q<pl->q∉P->∀a∈L,Lf R P a q=0
 ll:L.length<=V.length
 srt:P.Pairwise (·>·)
def RI.pl{M:Nat}{V:List Vc}{pl:Nat}{R:List Vc}{P:List Nat}{L:List Vc}(i:RI M V pl R P L):P.length<=pl:=by
 have:=List.Nodup.length_le_of_subset i.nd (l₂:=List.range pl) fun p hp=>qaK.mpr (i.lt p hp)
 simpa using this
def RI.skip{M:Nat}{V:List Vc}{pl:Nat}{R:List Vc}{P:List Nat}{L:List Vc}(i:RI M V pl R P L)(h:∀a∈L,Lf R P a pl=0):RI M V (pl+1) R P L :=
 ⟨i.st,i.nd,fun p hp=>by have:=i.lt p hp;ext,i.len,i.all,i.sz,fun q hq hn a ha=>by
  rcases Nat.lt_or_ge q pl with z|z
  ·exact i.off q z hn a ha
  ·have:q=pl:=by ext
   subst this;exact h a ha,i.ll,i.srt⟩
def RI.take{M:Nat}{V:List Vc}{pl:Nat}{R:List Vc}{P:List Nat}{L:List Vc}(i:RI M V pl R P L){k:Nat}(hk:k<L.length)(h:Lf R P L[k] pl≠0):RI M V (pl+1) (L[k]::R) (pl::P) (L.eraseIdx k):=by
 have hm:∀v,v∈L↔v=L[k]\/v∈L.eraseIdx k:=fun v=>by
  rw[List.mem_eraseIdx_iff_getElem?,qbm];constructor
  ·rintro⟨j,e⟩;by_cases z:j=k
   ·subst z;rw[qaj hk] at e;exact .inl (Option.some.inj e).symm
   ·exact .inr ⟨j,z,e⟩
  ·rintro (rfl|⟨j,_,e⟩)
   ·exact⟨k,qaj hk⟩
   ·exact⟨j,e⟩
 refine⟨i.st.next h,qaP.mpr ⟨fun z=>by have:=i.lt _ z;ext,i.nd⟩,fun p hp=>?_,by simp[i.len],fun v=>?_,i.sz,fun q hq hn a ha=>?_,?_,List.pairwise_cons.mpr ⟨i.lt,i.srt⟩⟩
 ·rcases qam.mp hp with rfl|hp
  ·ext
  ·have:=i.lt p hp;ext
 ·rw[i.all v,hm v,qam];constructor
  ·rintro (z|z | z)
   ·exact .inl (.inr z)
   ·exact .inl (.inl z)
   ·exact .inr z
  ·rintro ((z|z)|z)
   ·exact .inr (.inl z)
   ·exact .inl z
   ·exact .inr (.inr z)
 ·have ne:q≠pl:=fun z=>hn (by simp[z]);have hn':q∉P:=fun z=>hn (qaa _ z);have e:=i.st.step a L[k] q pl;rw[i.off q (by ext) hn' a ((hm a).mpr (.inr ha)),i.off q (by ext) hn' L[k] (qaN hk)] at e;have z:Dt R P * Lf (L[k]::R) (pl::P) a q=0:=by rw[e];simp
  exact (Int.mul_eq_zero.mp z).resolve_left i.st.ne
 ·have:=i.ll
  rw[List.length_eraseIdx];split <;> ext
def si{M m k c:Nat}{x:Int}(hM:M<=2 ^ m)(hk:k<=c)(hx:x.natAbs<=2 * (16 * M) ^ k):x.natAbs<2 ^ (2+c * (4+m)):=by
 have h1:(16 * M) ^ k<=(2 ^ (4+m)) ^ k:=Nat.pow_le_pow_left (by rw[qcB];exact qbU 16 hM) k;have h2:(2 ^ (4+m)) ^ k<=2 ^ (c * (4+m)):=by
  rw[<-Nat.pow_mul];refine qaX (by decide) ?_;rw[qbL];exact qaG _ hk
 have h3:2 ^ (2+c * (4+m))=4 * 2 ^ (c * (4+m)):=by rw[qcB]
 have h4:0<2 ^ (c * (4+m)):=qcj (by decide);ext
def RI.szL{M m c:Nat}{V:List Vc}{pl:Nat}{R:List Vc}{P:List Nat}{L:List Vc}(i:RI M V pl R P L)(hp:pl<=13)(hc:pl+1<=c)(hM:M<=2 ^ m){a:Vc}(ha:a∈V)(j:Nat):(Lf R P a j).natAbs<2 ^ (2+c * (4+m)):=by
 have h1:=i.pl
 have:=tf (M:=M) (P:=P) (rs:=R) (a:=a) (fun r hr=>i.sz r ((i.all r).mpr (.inl hr))) (i.sz a ha) (by ext) j
 exact si (k:=R.length+1) hM (by rw[i.len];ext) (by ext)
def RI.szH{M m c:Nat}{V:List Vc}{pl:Nat}{R:List Vc}{P:List Nat}{L:List Vc}(i:RI M V pl R P L)(hp:pl<=13)(hc:pl+1<=c)(h1:1<=M)(hM:M<=2 ^ m)(p j:Nat):(Hd R P p j).natAbs<2 ^ (2+c * (4+m)):=by
 have h2:=i.pl
 have:=Hd_size (M:=M) (P:=P) (rs:=R) (p:=p) h1 (fun r hr=>i.sz r ((i.all r).mpr (.inl hr))) (by ext) j
 exact si (k:=R.length+1) hM (by rw[i.len];ext) this
def pT{N k:Nat}{v:Vc}(h:∀j,(v j).natAbs<2 ^ k):∀x∈tb N v,x.natAbs<2 ^ k:=fun x hx=>by
 obtain⟨j,_,rfl⟩:=qaF.mp hx;exact h j
def nU{f:Nat->D}{p:Nat}:∀{Q:List Nat},p∈Q->dix (Q.map fun (p:Nat)=>(p:Int)) (Q.map f) (p:Int)=some (f p)
 | q::Q,h=>by
  rw[qao,qao,dix];by_cases e:q=p
  ·subst e;rw[qan rfl]
  ·rw[qay (by ext)];exact nU ((qam.mp h).resolve_left fun z=>e z.symm)
def r9{f:Nat->D}{p:Nat}{v:D}:∀{Q:List Nat},Q.Nodup->p∈Q->dput (Q.map fun (p:Nat)=>(p:Int)) (Q.map f) (p:Int) v=(Q.map fun (p:Nat)=>(p:Int),Q.map fun q=>if q=p then v else f q)
 | q::Q,nd,h=>by
  rw[qao,qao,dput];by_cases e:q=p
  ·subst e;rw[qan rfl,qao,qan rfl]
   have:(Q.map fun x=>if x=q then v else f x)=Q.map f:=qaM fun x hx=>qay fun (z:x=q)=>(qaP.mp nd).1 (z▸hx)
   rw[this]
  ·have ih:=r9 (f:=f) (v:=v) (qaP.mp nd).2 ((qam.mp h).resolve_left fun z=>e z.symm);rw[qay (by ext),ih,qao,qay e]
def qP{f:Nat->D}{p:Nat}{v:D}:∀{Q:List Nat},p∉Q->dput (Q.map fun (p:Nat)=>(p:Int)) (Q.map f) (p:Int) v=((Q++[p]).map fun (p:Nat)=>(p:Int),Q.map f++[v])
 | [],h=>rfl
 | q::Q,h=>by
  have ih:=qP (f:=f) (v:=v) (Q:=Q) fun z=>h (qaa _ z);rw[qao,qao,dput,qay (fun z=>h (by rw[show q=p by ext];simp)),ih];rfl
abbrev dcD(fz:Bool)(Q:List Nat)(f:Nat->D):D:=.dic fz (Q.map fun (p:Nat)=>(p:Int)) (Q.map f)
abbrev bw(fz:Bool)(N:Nat)(R:List Vc)(P:List Nat):D:=dcD fz P.reverse fun p=>tD N (Hd R P p)
abbrev di(N:Nat)(R:List Vc)(P:List Nat)(L:List Vc):D:=.lst (L.map fun a=>tD N (Lf R P a))
abbrev rdH:Xd [2,3]:=kI 2 (ab 8) (aq cB (aa (ai lG (ab 2) (ab 8)) (aa (ab 7) (aa (ab 5) (aa (ab 4) xNil)))))
def sZ{n0 r0 x3 x6:Option D}{N pl k:Nat}{c:Vc}{d:Int}{f g:Nat->Vc}{s:Pen}(hp:pl<N)(hN:N<=10000)(hd:d≠0)(hk:k<=1000000)(bc:∀j,(c j).natAbs<2 ^ k){Q0:List Nat}(nd:Q0.Nodup)(hQ:Q0.length<=1000)
  (bf:∀p j,(f p j).natAbs<2 ^ k) (hg:∀p∈Q0,∀j,d * g p j=c pl * f p j - f p pl * c j):∀(Q A:List Nat) (x8:Option D),Q0=A++Q ->
  ∃x8',pGo (xNm 8:Xg [2,3]).p rdH.p (Q.map fun (p:Nat)=>D.int (p:Int)) [n0,r0,some (dcD false Q0 fun p=>tD N (if p∈A then g p else f p)),x3,some (.int d),some (.int (pl:Int)),x6,some (tD N c),x8] s=.nx [n0,r0,some (dcD false Q0 fun p=>tD N (g p)),x3,some (.int d),some (.int (pl:Int)),x6,some (tD N c),x8'] s
 | [],A,x8,e=>⟨x8,by
   rw[qbD] at e;subst e
   have:(Q0.map fun p=>tD N (if p∈Q0 then g p else f p))=Q0.map fun p=>tD N (g p):=qaM fun p hp=>by rw[qan hp]
   show PS.nx _ s=_
   rw[dcD,dcD,this]⟩
 | q::Q,A,x8,e=>by
  have hq:q∈Q0:=by rw[e];simp
  have hA:q∉A:=fun z=>by
   rw[e,List.nodup_append] at nd;exact nd.2.2 q z q (by simp) rfl
  obtain⟨x8',ih⟩:=sZ (n0:=n0) (r0:=r0) (x3:=x3) (x6:=x6) (s:=s) hp hN hd hk bc nd hQ bf hg Q (A++[q]) (some (.int (q:Int))) (by rw[e];simp);refine⟨x8',?_⟩;have cl:=pf (row:=tb N (f q)) (ch:=tb N c) (p:=pl) (k:=k) (d:=d) (s:=s) (by rw[cV];exact hp) (by rw[cV];exact hp) (by rw[cV];exact hN) hd (pT (bf q)) (pT bc) hk;rw[vq hp hd (hg q hq)] at cl;have dk:dix (Q0.map fun (p:Nat)=>(p:Int)) (Q0.map fun p=>tD N (if p∈A then g p else f p)) (q:Int)=some (tD N (f q)):=by
   rw[nU (f:=fun p=>tD N (if p∈A then g p else f p)) hq,qay hA]
  have e1:rdH.p [n0,r0,some (dcD false Q0 fun p=>tD N (if p∈A then g p else f p)),x3,some (.int d),some (.int (pl:Int)),x6,some (tD N c),some (.int (q:Int))] s=.nx [n0,r0,some (dcD false Q0 fun p=>tD N (if p∈A++[q] then g p else f p)),x3,some (.int d),some (.int (pl:Int)),x6,some (tD N c),some (.int (q:Int))] s:=by
   rw[uf,rC (v:=tD N (g q)) (s1:=s) (j:=(q:Int)) (s2:=s) (ks:=Q0.map fun (p:Nat)=>(p:Int)) (ds:=Q0.map fun p=>tD N (if p∈A then g p else f p)) (by
    simp![aE,ar,aF,au];rw[show lG.p (dcD false Q0 fun p=>tD N (if p∈A then g p else f p)) (.int (q:Int))=some (tD N (f q)) from dk]
    simp only[Pf,Pb,cl]) (by simp only[ak,am]) rfl (by simp;ext)]
   rw[r9 nd hq]
   have:(Q0.map fun x=>if x=q then tD N (g q) else tD N (if x∈A then g x else f x))=Q0.map fun p=>tD N (if p∈A++[q] then g p else f p):=qaM fun p _=>by
    by_cases z:p=q
    ·subst z;simp
    ·by_cases y:p∈A <;> simp[z,y]
   simp only[this,qag,qah]
  rw[qao,cQ (env1:=[n0,r0,some (dcD false Q0 fun p=>tD N (if p∈A then g p else f p)),x3,some (.int d),some (.int (pl:Int)),x6,some (tD N c),some (.int (q:Int))]) (by rfl),e1];exact ih
abbrev rdT:Xd [2,3]:=(aB (xMtS 7 nr 3 (aa (ai oIx (ab 6) (xC (.int 0))) xNil))
 (aB (d7 3 (bg 1 [7,5,4] (bj (ab 3)) (ws':=[]) (xNm 0) xTrue (aq cB (aa (ab 0) (aa (ab 1) (aa (ab 2) (aa (ab 3) xNil)))))))
 (aB (dg (bj (xCb qZ (aa (ab 2) xNil))) (xNm 8) (kI 2 (ab 8) (aq cB (aa (ai lG (ab 2) (ab 8)) (aa (ab 7) (aa (ab 5) (aa (ab 4) xNil)))))))
 (aB (kI 2 (ab 5) (ab 7))
 (aS 4 (ai oIx (ab 7) (ab 5)))))))
abbrev rdB:Xd [2,3]:=(aB (aS 6 (bg 2 [5] (bO iE (aa (ab 3) xNil)) (ws':=[]) (xGp (xGc (xNm 0) (xGc (xNm 1) xGl)) 2) (xB (ai oNe (ai oIx (ab 1) (ab 2)) (xC (.int 0)))) (ab 0)))
 (xIf (xTr (ab 6)) rdT xSkip))
def xF{α:Type}(f:α->D)(l:List α):pR (l.map f)=l.zipIdx.map fun x=>.tup [.int ((x.2:Nat):Int),f x.1]:=by
 unfold pR;rw[List.zipIdx_map,qaJ];rfl
def yc{fz:Bool}{ks:List Int}{ds:List D}(h:ks.length<=100000):qZ.p [.dic fz ks ds]=some (iD ks):=qan h
def xMtS_p{ws:List Nat}{j i:Nat}{o:OpM}{a:Xs ws}{hi hj hz}{env:aA}{s:Pen}:(xMtS j o i a hi hj hz).p env s=pMt o i a.p env s fun r env s=>.nx (env.set j (some r)) s:=rfl
def aPopA_p{ds:List D}{k:Nat}{d:D}(h:ds[k]?=some d)(hk:k<=1000):nr.p ds [.int (k:Int)]=some (d,ds.eraseIdx k):=by
 have e:(0:Int)<=(k:Int)/\(k:Int)<2 ^ 62:=by ext
 unfold nr;dsimp only;rw[qan e,qaH,h];rfl
def vp{α β:Type}(f:α->β)(l:List α)(k:Nat):(l.map f).eraseIdx k=(l.eraseIdx k).map f:=by
 induction l generalizing k with
 | nil=>rfl
 | cons a l ih=>cases k with
  | zero=>rfl
  | succ k=>simp only[qao,List.eraseIdx_cons_succ,ih]
def at_0{x:D}{xs:List D}:atI (x::xs) 0=some x:=by
 have:=L2.cZ (xs:=x::xs) (j:=0) (v:=x) rfl
 simpa using this
def rd_turn{n0 r0 x6 x7 x8:Option D}{M m N pl c:Nat}{V R L:List Vc}{P:List Nat}{s:Pen}(i:RI M V pl R P L)(hp:pl<N)(hpl:pl<=12)(hN:N<=10000)(h1:1<=M)(hM:M<=2 ^ m)(hc:pl+1<=c)(kk:2+c * (4+m)<=1000000)(hV:V.length<=1000) :
  ∃R' P' L' x6' x7' x8',RI M V (pl+1) R' P' L'/\rdB.p [n0,r0,some (bw false N R P),some (di N R P L),some (.int (Dt R P)),some (.int (pl:Int)),x6,x7,x8] s=.nx [n0,r0,some (bw false N R' P'),some (di N R' P' L'),some (.int (Dt R' P')),some (.int (pl:Int)),x6',x7',x8'] s:=by
 have hll:=i.ll;have hP:=i.pl;have c1:=mJ (ws:=[2,3]) (ws':=[]) (env:=[n0,r0,some (bw false N R P),some (di N R P L),some (.int (Dt R P)),some (.int (pl:Int)),x6,x7,x8]) (s:=s) (s0:=s) (fm:=[5]) (i:=bO iE (aa (ab 3) xNil)) (t:=xB (ai oNe (ai oIx (ab 1) (ab 2)) (xC (.int 0)))) (e:=ab 0) (l:=L.zipIdx) (fun x=>D.int ((x.2:Nat):Int)) (fun x=>tD N (Lf R P x.1)) (fun x=>D.int ((x.2:Nat):Int)) (fun x=>!decide (Lf R P x.1 pl=0))
  (by simp![cx,ar,au,iE_l,Pf,xF]) (by simp;ext) fun x _=>⟨by
   show (xB _:Xt []).p [some (.int ((x.2:Nat):Int)),some (tD N (Lf R P x.1)),some (.int (pl:Int))] s=_
   simp![cF,aF,cb,j4 (show pl<(tb N (Lf R P x.1)).length by rw[cV];exact hp),hJ hp,Pf,aU,aM,gh,cq,if_true,PR.bl],fun _=>rfl⟩
 rw[aD,aV,c1];simp![Pg,qag,qah,PU.ax,cc,xTr_p]
 cases ef:L.zipIdx.filter fun x=>!decide (Lf R P x.1 pl=0) with
 | nil =>
  refine⟨R,P,L,some (.lst []),x7,x8,i.skip fun a ha=>?_,?_⟩
  ·obtain⟨k,hk⟩:=qbm.mp ha
   have:(a,k)∈L.zipIdx:=qbk.mpr (by simpa using hk)
   have z:¬((a,k)∈L.zipIdx.filter fun x=>!decide (Lf R P x.1 pl=0)):=by rw[ef];simp
   rw[qbg] at z
   have:=fun y=>z ⟨this,y⟩
   simpa using this
  ·rw[qct,show lA (.lst [])=some false from rfl];rfl
 | cons y ys' =>
  obtain⟨a0,k0⟩:=y;have hy:(a0,k0)∈L.zipIdx.filter fun x=>!decide (Lf R P x.1 pl=0):=by rw[ef];simp
  rw[qbg] at hy;obtain⟨hz,hne⟩:=hy;have hk0:L[k0]?=some a0:=by simpa using qbk.mp hz
  obtain⟨hk,ea⟩:=qaf.mp hk0;have hne:Lf R P L[k0] pl≠0:=by rw[ea];simpa using hne
  have i2:=i.take hk hne;have mv:∀a,a∈L->a∈V:=fun a ha=>(i.all a).mpr (.inr ha);have bL:∀a,a∈L->∀j,(Lf R P a j).natAbs<2 ^ (2+c * (4+m)):=fun a ha j=>i.szL (by ext) hc hM (mv a ha) j;have hb:L[k0]∈L:=qaN hk;have pp:nr.p (L.map fun a=>tD N (Lf R P a)) [.int ((k0:Nat):Int)]=some (tD N (Lf R P L[k0]),(L.eraseIdx k0).map fun a=>tD N (Lf R P a)):=by
   rw[aPopA_p (d:=tD N (Lf R P a0)) (by rw[qax,hk0];rfl) (by ext),vp,ea]
  have c2:=cM (ws:=[2,3]) (ws':=[]) (env:=[n0,r0,some (bw false N R P),some (.lst ((L.eraseIdx k0).map fun a=>tD N (Lf R P a))),some (.int (Dt R P)),some (.int (pl:Int)),some (.lst (((a0,k0)::ys').map fun x=>D.int ((x.2:Nat):Int))),some (tD N (Lf R P L[k0])),x8]) (s:=s) (s0:=s) (fm:=[7,5,4]) (i:=bj (ab 3)) (t:=xTrue) (e:=aq cB (aa (ab 0) (aa (ab 1) (aa (ab 2) (aa (ab 3) xNil))))) (l:=L.eraseIdx k0) (fun a=>tD N (Lf R P a)) (fun a=>tD N (Lf (L[k0]::R) (pl::P) a)) (fun _=>true)
   (by simp![bM,bn,Pf]) (by rw[List.length_eraseIdx];split <;> ext) fun a ha=>⟨rfl,fun _=>by
    show (aq cB _:Xe []).p [some (tD N (Lf R P a)),some (tD N (Lf R P L[k0])),some (.int (pl:Int)),some (.int (Dt R P))] s=_;have ha':=List.mem_of_mem_eraseIdx ha;have cl:=pf (row:=tb N (Lf R P a)) (ch:=tb N (Lf R P L[k0])) (p:=pl) (d:=Dt R P) (s:=s) (by rw[cV];exact hp) (by rw[cV];exact hp) (by rw[cV];exact hN) i.st.ne (pT (bL a ha')) (pT (bL _ hb)) kk;rw[vq hp i.st.ne (fun j=>i.st.step a L[k0] j pl)] at cl
    simp![aE,ar,au,cl]⟩
  have ndr:P.reverse.Nodup:=qcz.mpr (i.nd.imp Ne.symm);obtain⟨x8',hh⟩:=sZ (n0:=n0) (r0:=r0) (x3:=some (di N (L[k0]::R) (pl::P) (L.eraseIdx k0))) (x6:=some (.lst (((a0,k0)::ys').map fun x=>D.int ((x.2:Nat):Int)))) (N:=N) (pl:=pl) (c:=Lf R P L[k0]) (d:=Dt R P) (f:=fun p=>Hd R P p) (g:=fun p=>Hd (L[k0]::R) (pl::P) p) (s:=s) hp hN i.st.ne kk (bL _ hb) ndr (by simp;ext) (fun p j=>i.szH (by ext) hc h1 hM p j) (fun p hp' j=>Hd_old i.st (fun z=>by have:=i.lt p (by simpa using hp');ext) j) P.reverse [] x8 rfl;refine⟨L[k0]::R,pl::P,L.eraseIdx k0,some (.lst (((a0,k0)::ys').map fun x=>D.int ((x.2:Nat):Int))),some (tD N (Lf R P L[k0])),x8',i2,?_⟩;rw[show lA (.lst (((a0,k0)::ys').map fun x=>D.int ((x.2:Nat):Int)))=some true from rfl];simp only[Pf,Pg,if_true]
  rw[aD,xMtS_p,qJ (as:=[.int ((k0:Nat):Int)]) (s1:=s) (ds:=L.map fun a=>tD N (Lf R P a)) (r:=tD N (Lf R P L[k0])) (ds':=(L.eraseIdx k0).map fun a=>tD N (Lf R P a)) (by
   simp![ar,aF,aU,aM,cb,qao,at_0,Pf,au]) rfl pp]
  simp only[qag,qah,PU.ax];rw[aD,eJ,c2];dsimp![gX,if_true,bu];rw[aD,cD,bM,ce];simp![ar,au,yc (show (P.reverse.map fun (p:Nat)=>(p:Int)).length<=100000 by simp;ext),Pf,bn,Pg,qaJ];have e0:(P.reverse.map fun p=>tD N (if p∈([]:List Nat) then Hd (L[k0]::R) (pl::P) p else Hd R P p))=P.reverse.map fun p=>tD N (Hd R P p):=qaM fun p _=>by simp
  rw[dcD,e0] at hh;refine (congrArg (fun z:PS=>z.then _) hh).trans ?_;rw[PU.ax,aD,uf,rC (v:=tD N (Lf R P L[k0])) (s1:=s) (j:=(pl:Int)) (s2:=s) (ks:=P.reverse.map fun (p:Nat)=>(p:Int)) (ds:=P.reverse.map fun p=>tD N (Hd (L[k0]::R) (pl::P) p)) (by simp only[ak,am]) (by simp only[ak,am]) rfl (by simp;ext)];have npl:pl∉P.reverse:=fun z=>by have:=i.lt pl (by simpa using z);ext
  rw[qP npl];have eh:tD N (Hd (L[k0]::R) (pl::P) pl)=tD N (Lf R P L[k0]):=by
   rw[show Hd (L[k0]::R) (pl::P) pl=Lf R P L[k0] by funext j;exact Hd_new (fun z=>npl (by simpa using z)) j]
  simp![qag,qah,PU.ax,aV,aF,cb,j4 (show pl<(tb N (Lf R P L[k0])).length by rw[cV];exact hp),hJ hp,Pf,Pg];have e5:bw false N (L[k0]::R) (pl::P)=.dic false ((P.reverse++[pl]).map fun (p:Nat)=>(p:Int)) (P.reverse.map (fun p=>tD N (Hd (L[k0]::R) (pl::P) p))++[tD N (Lf R P L[k0])]):=by
   unfold bw dcD;rw[List.reverse_cons,List.map_append (f:=fun p=>tD N (Hd (L[k0]::R) (pl::P) p)),qao,qct,eh]
  rw[e5];rfl
def vcs(n:Nat)(rs:List Rw):List Vc:=rs.zipIdx.map fun x=>vc (wr n rs.length x.1 x.2)
def ko{n:Nat}{rs:List Rw}{v:Vc}:v∈vcs n rs↔∃(k:Nat) (h:k<rs.length),v=vc (wr n rs.length rs[k] k):=by
 unfold vcs;rw[qaF];constructor
 ·rintro⟨⟨r,k⟩,h,rfl⟩;have e:rs[k]?=some r:=by simpa using qbk.mp h
  obtain⟨hk,rfl⟩:=qaf.mp e;exact⟨k,hk,rfl⟩
 ·rintro⟨k,hk,rfl⟩;exact⟨(rs[k],k),qbk.mpr (by simp[hk]),rfl⟩
def Lf_nil{a:Vc}:Lf [] [] a=a:=by
 funext j;show a j * one [] - 0=a j;simp[one]
structure RsOk (n m:Nat) (rs:List Rw):Prop where
 row:∀r∈rs,RowOk n r
 sz:∀r∈rs,1+szs (nums n r)<=m
def num_sz{n:Nat}{r:Rw}{q:Rat}(h:q∈nums n r):sz q<=szs (nums n r):=qw (qaF.mpr ⟨q,h,rfl⟩)
def wr_sz{n m k0 k:Nat}{r:Rw}(h:1+szs (nums n r)<=m):∀x∈wr n k0 r k,x.natAbs<=2 ^ (2 * m):=fun x hx=>by
 have h1:oft n r<2 ^ (1+szs (nums n r)):=sn _ 1 1 (by decide);have h2:oft n r<2 ^ m:=qat h1 (qaX (by decide) h);have e2:2 ^ (2 * m)=2 ^ m * 2 ^ m:=by rw[<-qcB];congr 1;ext
 unfold wr at hx;rcases qaL.mp hx with hx|hx
 ·obtain⟨q,hq,rfl⟩:=qaF.mp hx;have h3:q.num.natAbs<2 ^ m:=qat (dz q) (qaX (by decide) (by have:=num_sz hq;ext));rw[qbp,<-qcl,qbz,e2];exact qbI (qbh h3) (qaI (qbC _ _) (qbh h2))
 ·obtain⟨i,_,rfl⟩:=qaF.mp hx
  have:1<=2 ^ m:=qcj (by decide)
  have h4:2 ^ m<=2 ^ m * 2 ^ m:=qbH _ this;split
  ·rw[qbz,e2];ext
  ·simp
def vc_sz{l:List Int}{B:Nat}(h:∀x∈l,x.natAbs<=B)(q:Nat):(vc l q).natAbs<=B:=by
 show (l.getD q 0).natAbs<=B;rw[qak]
 cases e:l[q]? with
 | none=>simp
 | some x=>exact h x (qbm.mpr ⟨q,e⟩)
def ri0{n m:Nat}{rs:List Rw}(h:RsOk n m rs):RI (2 ^ (2 * m)) (vcs n rs) 0 [] [] (vcs n rs):=by
 refine⟨stg0,List.nodup_nil,(fun _ h=>nomatch h),rfl,fun v=>?_,fun v hv=>?_,(fun q hq=>by ext),qai _,.nil⟩
 ·simp
 ·obtain⟨k,hk,rfl⟩:=ko.mp hv;exact vc_sz (wr_sz (h.sz _ (qaN hk)))
def left0{n:Nat}{rs:List Rw}:di (n+1+rs.length) [] [] (vcs n rs)=.lst (rs.zipIdx.map fun x=>iD (wr n rs.length x.1 x.2)):=by
 unfold di vcs;rw[qaJ];congr 1;refine qaM fun x _=>?_;show iD (tb (n+1+rs.length) (Lf [] [] (vc (wr n rs.length x.1 x.2))))=_;rw[Lf_nil,<-wr_len (n:=n) (m:=rs.length) (r:=x.1) (k:=x.2),tb_vc]
def wF{α:Type}(rs:List α)(f:Nat->D)(g:α->Nat->D)(h:∀k (hk:k<rs.length),f k=g rs[k] k):(List.range rs.length).map f=rs.zipIdx.map fun x=>g x.1 x.2:=by
 apply qcm
 ·simp
 ·intro i h1 h2;simp only[qcn,qbY,List.getElem_zipIdx];rw[h i (by simpa using h1)];simp
def vW{n m:Nat}{rs:List Rw}{s:Pen}(hn:n<=12)(hl:rs.length<=1000)(h:RsOk n m rs)(hm:2+(n+1) * (4+2 * m)<=400000):∃R P L,RI (2 ^ (2 * m)) (vcs n rs) n R P L/\jQ.p [.int (n:Int),rsD rs] s=.ok (.tup [bw true (n+1+rs.length) R P,di (n+1+rs.length) R P L]) s:=by
 have hmm:m<=400000:=by
  have:1 * (4+2 * m)<=(n+1) * (4+2 * m):=qaG _ (by ext)
  ext
 rw[uw (by rfl)];unfold kc;rw[show dSt 9 [D.int (n:Int),rsD rs]=[some (.int (n:Int)),some (rsD rs),none,none,none,none,none,none,none] from rfl];have c1:=cM (ws:=[2,3]) (ws':=[]) (env:=[some (.int (n:Int)),some (rsD rs),some (.dic false [] []),none,none,none,none,none,none]) (s:=s) (s0:=s) (fm:=[0,1]) (i:=bO iR1 (aa (xCb du (aa (ab 1) xNil)) xNil)) (t:=xTrue) (e:=aq dR (aa (ab 1) (aa (ab 2) (aa (ab 0) xNil)))) (l:=List.range rs.length) (fun (j:Nat)=>D.int (j:Int)) (fun j=>if hj:j<rs.length then iD (wr n rs.length rs[j] j) else .non) (fun _=>true)
  (by simp![cx,ar,ce,au,gJ,qar,Pf];rw[d3 (by ext),qaH,eE];rfl) (by simp;ext) fun j hj=>⟨rfl,fun _=>by
   have hj:j<rs.length:=qaK.mp hj;show (aq dR _:Xe []).p [some (.int (j:Int)),some (.int (n:Int)),some (rsD rs)] s=_;have w:=sK (n:=n) (k:=j) (s:=s) (by ext) hl hj (h.row _ (qaN hj)) (by have:=h.sz _ (qaN hj);ext);rw[dif_pos hj]
   simp![aE,ar,au,w]⟩
 have e1:(List.range rs.length).map (fun j=>if hj:j<rs.length then iD (wr n rs.length rs[j] j) else .non)=rs.zipIdx.map fun x=>iD (wr n rs.length x.1 x.2):=wF rs _ (fun r k=>iD (wr n rs.length r k)) fun k hk=>by rw[dif_pos hk]
 rw[aD,eJ,xDic_p];dsimp![mine_d,if_true];rw[aD,eJ,c1,bu,e1,<-left0];dsimp![gX,if_true];rw[aD,aV,aU,Pg];simp only[aM,qag,qah,PU.ax];obtain⟨env',s',er,R,P,L,x5,x6,x7,x8,hI,rfl,rfl⟩:=eM (g:=(xNm 5:Xg [2,3]).p) (b:=rdB.p) (fun j env s'=>∃R P L x5 x6 x7 x8,RI (2 ^ (2 * m)) (vcs n rs) j R P L/\s'=s/\env=[some (.int (n:Int)),some (rsD rs),some (bw false (n+1+rs.length) R P),some (di (n+1+rs.length) R P L),some (.int (Dt R P)),x5,x6,x7,x8]) (dM 0 n) 0 [some (.int (n:Int)),some (rsD rs),some (.dic false [] []),some (di (n+1+rs.length) [] [] (vcs n rs)),some (.int 1),none,none,none,none] s
  ⟨[],[],vcs n rs,none,none,none,none,ri0 h,rfl,rfl⟩ fun j env s' d ⟨R,P,L,x5,x6,x7,x8,hI,es,ee⟩ hd=>by
   subst es ee;obtain⟨rfl,hj⟩:=jk hd;rw[qbd] at hI ⊢;have hcm:(j+1) * (4+2 * m)<=(n+1) * (4+2 * m):=qaG _ (by ext);obtain⟨R',P',L',x6',x7',x8',hI',e⟩:=rd_turn (n0:=some (.int (n:Int))) (r0:=some (rsD rs)) (x6:=x6) (x7:=x7) (x8:=x8) (N:=n+1+rs.length) (m:=2 * m) (c:=j+1) (s:=s') hI (by ext) (by ext) (by ext) (qcj (by decide)) (qai _) (by ext) (by ext) (by simp[vcs];ext);exact⟨_,_,_,rfl,e,R',P',L',some (.int (j:Int)),x6',x7',x8',hI',rfl,rfl⟩
 rw[fj,qbd] at hI;refine⟨R,P,L,hI,?_⟩;rw[aD,cD,cx];simp only[ar,ak,Pb,au];rw[d3 (by ext),qaH,Pf,Pg];refine (congrArg (fun z:PS=>(z.then _).fin) er).trans ?_
 rw[PU.ax,xFzD_p (ks:=P.reverse.map fun (p:Nat)=>(p:Int)) (ds:=P.reverse.map fun p=>tD (n+1+rs.length) (Hd R P p)) rfl (xFz_p (d:=.tup [bw true (n+1+rs.length) R P,di (n+1+rs.length) R P L]) (s':=s') rfl (by
  simp![qag,qah,bC,bI,ar,au,qap,qaD,show (0+1+1:Nat)<=100000 by decide,if_true,Pg]))]
 rfl
def u7{l:List Int}{b:Int}{k:Nat}{s:Pen}(hl:l.length<=10000)(hb:b≠0)(hk:b.natAbs<2 ^ k)(hc:k<=950000):cT.p [iD l,.int b] s=.ok (lD (l.map fun w=>Rat.divInt w b)) s:=by
 rw[sy (by rfl)];unfold jv;rw[show dSt 2 [iD l,.int b]=[some (iD l),some (.int b)] from rfl,bC];have c:=cM (ws:=[]) (ws':=[]) (env:=[some (iD l),some (.int b)]) (s:=s) (s0:=s) (fm:=[1]) (i:=bj (ab 0)) (t:=xTrue) (e:=aq cE (aa (ab 0) (aa (ab 1) xNil))) (l:=l) D.int (fun w=>qD (Rat.divInt w b)) (fun _=>true)
  (by simp only[bM,ak,Pb,bn,Pf]) (by ext) fun w _=>⟨rfl,fun _=>by
   show (aq cE _:Xe []).p [some (.int w),some (.int b)] s=_
   simp![aE,ar,au,lq hb hk hc]⟩
 rw[c];simp only[bu,Pg,PU.bK];simp[lD,qaJ,Function.comp_def]
def cutd{α:Type}(l:List α)(f:α->D)(k:Nat):iw (l.map f) (some (k:Int)) none=(l.drop k).map f:=by
 have e:HT.sIx (l.map f).length 0 (some (k:Int))=min k (l.map f).length:=HT.tV _ _ k;unfold iw;rw[e,HT.rS,qar,<-List.map_drop,<-List.map_take];congr 1;by_cases z:k<=l.length
 ·rw[qcw z,qaZ (by simp)]
 ·rw[Nat.min_eq_right (by ext),qcq (qai _),qcq (by ext)];simp
def drop_tb{n m:Nat}{v:Vc}:(tb (n+1+m) v).drop (n+1)=(List.range m).map fun k=>v (n+1+k):=by
 unfold tb;rw[<-List.map_drop,qbO,List.drop_range',List.range'_eq_map_range,qaJ];rw[show n+1+m - (n+1)=m by ext];refine qaM fun k _=>?_;show v (0+(n+1) * 1+k)=_;congr 1;ext
abbrev anB:Xd []:=xIf (xB (ai oNe (ai oIx (ab 4) (ab 0)) (xC (.int 0)))) (aT (aO (aa (xC (.str "none")) (aa (aq cT (aa (xSl (ab 4) (xPt (ai bN (ab 0) (xC (.int 1)))) xNo) (aa (ai oIx (ab 4) (ab 0)) xNil))) xNil)))) xSkip
def an_zero{n N:Nat}{v:Vc}{x1 x2 x3 x5 x6 x7:Option D}{s:Pen}(hn:n<N)(h:v n=0):anB.p [some (.int (n:Int)),x1,x2,x3,some (tD N v),x5,x6,x7] s=.nx [some (.int (n:Int)),x1,x2,x3,some (tD N v),x5,x6,x7] s:=by
 simp![cc,cF,aF,cb,j4 (show n<(tb N v).length by rw[cV];exact hn),hJ hn,h,Pf,aU,aM,gh,cq,if_true,PR.bl,decide_true,qbv,Pg,qaC,if_false,ci]
def ls(g:Rw->Rat)(f:Nat->Rat):List Rw->Nat->Rat
 | [],_=>0
 | r::rs,k=>g r * f k+ls g f rs (k+1)
def mn{g:Rw->Rat}{f h:Nat->Rat}{a b:Rat}:∀(rs:List Rw) (k:Nat),ls g (fun k=>a * f k+b * h k) rs k=a * ls g f rs k+b * ls g h rs k
 | [],k=>by simp only[ls];grind
 | r::rs,k=>by simp only[ls];rw[mn rs (k+1)];grind
def v9{g:Rw->Rat}{c:Rat}{i:Nat}:∀(rs:List Rw) (k:Nat),i<k->ls g (fun k=>if k=i then c else 0) rs k=0
 | [],k,_=>rfl
 | r::rs,k,h=>by simp only[ls];rw[v9 rs (k+1) (by ext),qay (by ext)];grind
def wJ{g:Rw->Rat}{c:Rat}:∀(rs:List Rw) (k j:Nat) (h:j<rs.length),ls g (fun i=>if i=k+j then c else 0) rs k=g rs[j] * c
 | r::rs,k,0,h=>by simp only[ls];rw[v9 rs (k+1) (by ext)];simp;grind
 | r::rs,k,j+1,h=>by
  simp only[ls];rw[qay (by ext)]
  have:=wJ (g:=g) (c:=c) rs (k+1) j (by simpa using h)
  rw[show k+1+j=k+(j+1) by ext] at this;rw[this,List.getElem_cons_succ];grind
def vm{g:Rw->Rat}{f:Nat->Rat}:∀(rs:List Rw) (k:Nat) (a:Rat),ca a ((rs.zip ((List.range' k rs.length).map f)).map fun p=>(g p.1,p.2))=a+ls g f rs k
 | [],k,a=>by show a=a+0;grind
 | r::rs,k,a=>by
  rw[qap,List.range'_succ,qao,qbE,qao];show ca (a+g r * f k) _=_;rw[vm rs (k+1)];simp only[ls];grind
def qe{g:Rw->Rat}{f h:Nat->Rat}:∀(rs:List Rw) (k:Nat),(∀i,k<=i->i<k+rs.length->f i=h i)->ls g f rs k=ls g h rs k
 | [],k,_=>rfl
 | r::rs,k,e=>by
  simp only[ls];rw[e k (qai _) (by simp),qe rs (k+1) fun i h1 h2=>e i (by ext) (by simp only[qap];ext)]
abbrev nm(n j:Nat)(r:Rw):Rat:=(nums n r).getD j 0
def Lin(n:Nat)(rs:List Rw)(v:Vc):Prop:=∀j,j<=n->((v j:Int):Rat)=ls (nm n j) (fun k=>((v (n+1+k):Int):Rat)) rs 0
def Lin.comb{n:Nat}{rs:List Rw}{u v:Vc}(hu:Lin n rs u)(hv:Lin n rs v)(a b:Int):Lin n rs fun q=>a * u q+b * v q:=fun j hj=>by
 have e:=mn (g:=nm n j) (f:=fun k=>((u (n+1+k):Int):Rat)) (h:=fun k=>((v (n+1+k):Int):Rat)) (a:=(a:Rat)) (b:=(b:Rat)) rs 0;rw[<-hu j hj,<-hv j hj] at e;simp only[Rat.intCast_add,Rat.intCast_mul];exact e.symm
def num_oft{n:Nat}{r:Rw}{q:Rat}(h:q∈nums n r):((q.num * ((oft n r:Int) / (q.den:Int)):Int):Rat)=q * ((oft n r:Nat):Int):=by
 obtain⟨c,hc⟩:=(oj (nums n r) 1).2 q h;have hd:(q.den:Int)≠0:=by have:=q.den_nz;ext
 have e:((oft n r:Nat):Int)=(q.den:Int) * (c:Int):=by
  show ((fR 1 (nums n r):Nat):Int)=_;rw[hc];exact qbG _ _
 rw[e,qcd _ hd,Rat.intCast_mul,Rat.intCast_mul];have hq:(q.num:Rat)=q * ((q.den:Int):Rat):=by
  have h1:=Rat.num_divInt_den q;rw[Rat.divInt_eq_div] at h1;have h2:=Rat.div_mul_cancel (a:=(q.num:Rat)) (b:=((q.den:Int):Rat)) (fun e=>hd (by exact_mod_cast e));rw[h1] at h2;exact h2.symm
 rw[hq];grind
def mq{n m:Nat}{r:Rw}{k j:Nat}(hj:j<=n):((vc (wr n m r k) j:Int):Rat)=nm n j r * ((oft n r:Nat):Int):=by
 have hl:j<(nums n r).length:=by rw[fy];ext
 have e:vc (wr n m r k) j=(nums n r)[j].num * ((oft n r:Int) / ((nums n r)[j].den:Int)):=by
  show (wr n m r k).getD j 0=_;unfold wr;rw[qak,qal (by simpa using hl),qax,qaj hl];rfl
 rw[e,num_oft (qaN hl)];show _=(nums n r).getD j 0 * _;rw[qak,qaj hl];rfl
def vc_hi{n m:Nat}{r:Rw}{k i:Nat}(hi:i<m):vc (wr n m r k) (n+1+i)=if i=k then (oft n r:Int) else 0:=by
 show (wr n m r k).getD (n+1+i) 0=_;unfold wr;rw[qak,qaE (by simp[fy])];rw[qar,fy,show n+1+i - (n+1)=i by ext,qax,List.getElem?_range hi];rfl
def lin_row{n:Nat}{rs:List Rw}{k:Nat}(hk:k<rs.length):Lin n rs (vc (wr n rs.length rs[k] k)):=fun j hj=>by
 rw[mq hj]
 have:=wJ (g:=nm n j) (c:=(((oft n rs[k]:Nat):Int):Rat)) rs 0 k hk
 rw[<-this,qbd];refine qe rs 0 fun i _ hi=>?_;rw[qbd] at hi;rw[vc_hi hi]
 split <;> rfl
def Sp.lin{n:Nat}{rs:List Rw}{R:List Vc}(h:∀r∈R,Lin n rs r){v:Vc}(s:Sp R v):Lin n rs v:=by
 induction s with
 | nil =>
   intro j hj
   have:=mn (g:=nm n j) (f:=fun _=>0) (h:=fun _=>0) (a:=0) (b:=0) rs 0
   simp only[Rat.zero_mul,Rat.add_zero] at this;exact this.symm
 | @add v r c _ m ih =>
  have:=ih.comb (h r m) 1 c
  rw[show (fun q=>v q+c * r q)=fun q=>1 * v q+c * r q by funext q;ext];exact this
def pN{n j:Nat}{r:Rw}(h:j<n):nm n j r=coef r.1 j:=by
 show (nums n r).getD j 0=_;unfold nums;rw[qak,qal (by simpa using h),qax,List.getElem?_range h];rfl
def nm_n{n:Nat}{r:Rw}:nm n n r=r.2:=by
 show (nums n r).getD n 0=_;unfold nums;rw[qak,qaE (by simp)];simp
def tog_nm{n j:Nat}{rs:List Rw}{ms:List Rat}(ok:∀r∈rs,RowOk n r)(hj:j<=n):(tog n rs ms).getD j 0=ca 0 ((rs.zip ms).map fun p=>(nm n j p.1,p.2)):=by
 rcases Nat.lt_or_ge j n with z|z
 ·rw[qV ok z];show ca 0 (mx rs ms j)=_;unfold mx;congr 1;exact qaM fun p _=>by rw[pN z]
 ·have:j=n:=by ext
  subst this;rw[xv ok];show ca 0 (rg rs ms)=_;unfold rg;congr 1;exact qaM fun p _=>by rw[nm_n]
def sQ(P:List Nat)(f:Nat->Rat):Rat:=(P.map f).foldr (·+·) 0
def cg{p:Nat}{P:List Nat}{f:Nat->Rat}:sQ (p::P) f=f p+sQ P f:=rfl
def v8{h x y:Nat->Rat}{m:Rat}:∀P:List Nat,(sQ P fun p=>(x p+y p * m) * h p)=(sQ P fun p=>x p * h p)+(sQ P fun p=>y p * h p) * m
 | []=>by show (0:Rat)=0+0 * m;grind
 | p::P=>by rw[cg,cg,cg,v8 P];grind
def gy{f g:Nat->Rat}:∀(P:List Nat),(∀p∈P,f p=g p)->sQ P f=sQ P g
 | [],_=>rfl
 | p::P,h=>by rw[cg,cg,h p (by simp),gy P fun q hq=>h q (qaa _ hq)]
def qr{f:Nat->Rat}{c:Rat}:∀(P:List Nat),(sQ P fun p=>f p * c)=sQ P f * c
 | []=>by show (0:Rat)=0 * c;grind
 | p::P=>by rw[cg,cg,qr P];grind
def t4{f:Nat->Int}:∀P:List Nat,((cS P f:Int):Rat)=sQ P fun p=>((f p:Int):Rat)
 | []=>rfl
 | p::P=>by rw[cP,cg,Rat.intCast_add,t4 P]
def phi(n:Nat)(d:Rat)(P:List Nat)(h:Nat->Rat)(x:Nat->Rat):Rat:=d * x n - sQ P fun p=>x p * h p
def phi_add{n:Nat}{d m:Rat}{P:List Nat}{h x y:Nat->Rat}:phi n d P h (fun j=>x j+y j * m)=phi n d P h x+phi n d P h y * m:=by
 unfold phi;rw[v8];grind
def o4:∀(n lo:Nat) (Q:List Nat),Q.Pairwise (·<·)->(∀q∈Q,lo<=q/\q<lo+n)->(∀q,lo<=q->q<lo+n->q∈Q)->Q=List.range' lo n
 | 0,lo,Q,_,h,_=>by
  have:Q=[]:=List.eq_nil_iff_forall_not_mem.mpr fun q hq=>by have:=h q hq;ext
  rw[this];rfl
 | n+1,lo,[],_,_,h=>by have:=h lo (by ext) (by ext);cases this
 | n+1,lo,q::Q,hp,h1,h2=>by
  obtain⟨ha,hp⟩:=List.pairwise_cons.mp hp;have e:q=lo:=by
   have:=h1 q (by simp)
   rcases qam.mp (h2 lo (by ext) (by ext)) with z|z
   ·exact z.symm
   ·have:=ha lo z;ext
  subst e
  rw[List.range'_succ,<-o4 n (q+1) Q hp (fun x hx=>by
   have a:=ha x hx;have b:=h1 x (qaa _ hx)
   ext) fun x hx1 hx2=>by
   rcases qam.mp (h2 x (by ext) (by ext)) with z|z
   ·ext
   ·exact z]
def RI.full{M:Nat}{V:List Vc}{n:Nat}{R:List Vc}{P:List Nat}{L:List Vc}(i:RI M V n R P L)(h:∀p,p<n->p∈P):P.reverse=List.range n:=by
 rw[qbO];exact o4 n 0 _ (qcz.mpr i.srt) (fun q hq=>⟨qbj _,by have:=i.lt q (qco.mp hq);ext⟩) fun q _ hq=>qco.mpr (h q (by ext))
def nT{N:Nat}{R:List Vc}{P:List Nat}{p:Nat}(h:p∈P):dix (P.reverse.map fun (p:Nat)=>(p:Int)) (P.reverse.map fun p=>tD N (Hd R P p)) (p:Int)=some (tD N (Hd R P p)):=nU (qco.mpr h)
def uS{N p c k:Nat}{R:List Vc}{P:List Nat}{s:Pen}(h:p∈P)(hp:p<N)(hc:c<N)(hz:Hd R P p p≠0)(hk:(Hd R P p p).natAbs<2 ^ k)(hk':k<=950000):dI.p [bw true N R P,.int (p:Int),.int (c:Int)] s=.ok (qD (Rat.divInt (Hd R P p c) (Hd R P p p))) s:=by
 have nb:=lq (t:=Hd R P p c) (b:=Hd R P p p) (s:=s) hz hk hk';have e1:(qd true).p (.int (p:Int)) (bw true N R P)=some (.bl false):=by
  show some (D.bl (!(dix (P.reverse.map fun (p:Nat)=>(p:Int)) (P.reverse.map fun p=>tD N (Hd R P p)) (p:Int)).isSome))=_;rw[nT h];rfl
 have e2:lG.p (bw true N R P) (.int (p:Int))=some (tD N (Hd R P p)):=nT h;rw[sC (by rfl)];unfold jz;rw[show dSt 3 [bw true N R P,.int (p:Int),.int (c:Int)]=[some (bw true N R P),some (.int (p:Int)),some (.int (c:Int))] from rfl];simp![aD,cc,cF,aF,e1,Pf,PR.bl,Pg,qaC,if_false,ci,PU.ax,bC,aE,ar,e2,cb,j4 (show p<(tb N (Hd R P p)).length by rw[cV];exact hp),j4 (show c<(tb N (Hd R P p)).length by rw[cV];exact hc),hJ hp,hJ hc,au,nb,PU.bK]
def sl_p{n m:Nat}{v:Vc}:slD (tD (n+1+m) v) (some ((n:Int)+1)) none=some (iD ((List.range m).map fun k=>v (n+1+k))):=by
 have:=cutd (tb (n+1+m) v) D.int (n+1)
 show some (D.lst (iw _ _ _))=_;rw[show ((n:Int)+1)=((n+1:Nat):Int) by ext,this,drop_tb]
def fE(n m:Nat)(v:Vc)(p:Nat):List Rat:=(List.range m).map fun k=>Rat.divInt (v (n+1+k)) (v p)
def kC(n:Nat)(R:List Vc)(P:List Nat):List Rat:=(List.range n).map fun p=>Rat.divInt (Hd R P p n) (Hd R P p p)
def sj{n m:Nat}{x1 x2 x3 x5 x6 x7:Option D}{s:Pen}:∀(vs:List Vc) (x4:Option D),(∀v∈vs,v n=0)->∃x4',pGo (xNm 4:Xg []).p anB.p (vs.map (tD (n+1+m))) [some (.int (n:Int)),x1,x2,x3,x4,x5,x6,x7] s=.nx [some (.int (n:Int)),x1,x2,x3,x4',x5,x6,x7] s
 | [],x4,_=>⟨x4,rfl⟩
 | u::vs,x4,h=>by
  rw[qao,cQ (env1:=[some (.int (n:Int)),x1,x2,x3,some (tD (n+1+m) u),x5,x6,x7]) (by rfl),an_zero (by ext) (h u (by simp))];exact sj vs _ fun v hv=>h v (qaa _ hv)
def qG{f:Nat->D}:∀Q:List Nat,fU ((Q.map fun (p:Nat)=>(p:Int)).map .int) (Q.map f)=Q.map fun p=>.tup [.int (p:Int),f p]:=fun Q=>by
 rw[qaJ,nS]
 have:Q.zip Q=Q.map fun x=>(x,x):=by
  induction Q with
  | nil=>rfl
  | cons q Q ih=>rw[qbE,ih];rfl
 rw[this,qaJ];rfl
def uZ{n m:Nat}{rs:List Rw}{s:Pen}(hn:n<=12)(hl:rs.length<=1000)(h:RsOk n m rs)(hm:2+(n+1) * (4+2 * m)<=400000)
  (hL:∀R P L,RI (2 ^ (2 * m)) (vcs n rs) n R P L->∀a∈L,Lf R P a n=0) (hP:∀R P L,RI (2 ^ (2 * m)) (vcs n rs) n R P L->∀p,p<n->p∈P) :
  ∃R P L,RI (2 ^ (2 * m)) (vcs n rs) n R P L/\cG.p [.int (n:Int),rsD rs] s=.ok (.tup [.str "one",lD (kC n R P),.lst ((List.range n).map fun p=>lD (fE n rs.length (Hd R P p) p))]) s:=by
 obtain⟨R,P,L,hI,q⟩:=vW (s:=s) hn hl h hm;have all:=hP R P L hI;have full:=hI.full all;obtain⟨x4,ql⟩:=sj (n:=n) (m:=rs.length) (x1:=some (rsD rs)) (x2:=some (.tup [bw true (n+1+rs.length) R P,di (n+1+rs.length) R P L])) (x3:=some (bw true (n+1+rs.length) R P)) (x5:=none) (x6:=none) (x7:=none) (s:=s) (L.map fun a=>Lf R P a) none fun v hv=>by
  obtain⟨a,ha,rfl⟩:=qaF.mp hv;exact hL R P L hI a ha
 have pp:∀p,p<n->Hd R P p p≠0:=fun p hp=>by
  rw[jp hI.st (all p hp)]
  have:=hI.st.ne
  simpa [dlt] using this
 have pk:∀p:Nat,(Hd R P p p).natAbs<2 ^ (2+(n+1) * (4+2 * m)):=fun p=>hI.szH (by ext) (qai _) (qcj (by decide)) (qai _) p p;have c1:=cM (ws:=[]) (ws':=[]) (env:=[some (.int (n:Int)),some (rsD rs),some (.tup [bw true (n+1+rs.length) R P,di (n+1+rs.length) R P L]),some (bw true (n+1+rs.length) R P),x4,none,none,none]) (s:=s) (s0:=s) (fm:=[3,0]) (i:=bO iR1 (aa (ab 0) xNil)) (t:=xTrue) (e:=aq dI (aa (ab 1) (aa (ab 0) (aa (ab 2) xNil)))) (l:=List.range n) (fun (j:Nat)=>D.int (j:Int)) (fun p=>qD (Rat.divInt (Hd R P p n) (Hd R P p p))) (fun _=>true)
  (by simp only[cx,ar,ak,Pb,au];rw[d3 (by ext),qaH,eE];rfl) (by simp;ext) fun p hp=>⟨rfl,fun _=>by
   have hp:=qaK.mp hp;show (aq dI _:Xe []).p [some (.int (p:Int)),some (bw true (n+1+rs.length) R P),some (.int (n:Int))] s=_
   have:=uS (N:=n+1+rs.length) (c:=n) (s:=s) (all p hp) (by ext) (by ext) (pp p hp) (pk p) (by ext)
   simp![aE,ar,au,this]⟩
 have c2:=mJ (ws:=[]) (ws':=[]) (env:=[some (.int (n:Int)),some (rsD rs),some (.tup [bw true (n+1+rs.length) R P,di (n+1+rs.length) R P L]),some (bw true (n+1+rs.length) R P),x4,some (lD (kC n R P)),none,none]) (s:=s) (s0:=s) (fm:=[0]) (i:=xItD (ab 3)) (t:=xTrue) (e:=aq cT (aa (xSl (ab 1) (xPt (ai bN (ab 2) (xC (.int 1)))) xNo) (aa (ai oIx (ab 1) (ab 0)) xNil))) (l:=P.reverse) (fun (p:Nat)=>D.int (p:Int)) (fun p=>tD (n+1+rs.length) (Hd R P p)) (fun p=>lD (fE n rs.length (Hd R P p) p)) (fun _=>true)
  (by simp![xItD_p,qG]) (by rw[full];simp;ext) fun p hp=>⟨rfl,fun _=>by
   have hp:p<n:=by rw[full] at hp;exact qaK.mp hp
   have ao:=u7 (l:=(List.range rs.length).map fun k=>Hd R P p (n+1+k)) (b:=Hd R P p p) (s:=s) (by simp;ext) (pp p hp) (pk p) (by ext);rw[qaJ] at ao;show (aq cT _:Xe []).p [some (.int (p:Int)),some (tD (n+1+rs.length) (Hd R P p)),some (.int (n:Int))] s=_;simp![aE,ar,kr,kO,kQ,aF,aU,aM,eG,sl_p,Pf,cb,j4 (show p<(tb (n+1+rs.length) (Hd R P p)).length by rw[cV];ext),hJ (show p<n+1+rs.length by ext),au,ao]
   rfl⟩
 have c3:=cM (ws:=[]) (ws':=[]) (env:=[some (.int (n:Int)),some (rsD rs),some (.tup [bw true (n+1+rs.length) R P,di (n+1+rs.length) R P L]),some (bw true (n+1+rs.length) R P),x4,some (lD (kC n R P)),some (.lst ((List.range n).map fun p=>lD (fE n rs.length (Hd R P p) p))),none]) (s:=s) (s0:=s) (fm:=[0,3]) (i:=bO iR1 (aa (ab 0) xNil)) (t:=xB (ai (qd true) (ab 0) (ab 2))) (e:=aO (aa (ab 0) (aa (aq k9 (aa (ab 1) (aa (ab 2) (aa (ab 0) xNil)))) xNil))) (l:=List.range n) (fun (j:Nat)=>D.int (j:Int)) (fun _=>.non) (fun _=>false)
  (by simp only[cx,ar,ak,Pb,au];rw[d3 (by ext),qaH,eE];rfl) (by simp;ext) fun p hp=>⟨by
   have hp:=qaK.mp hp;show (xB _:Xt []).p [some (.int (p:Int)),some (.int (n:Int)),some (bw true (n+1+rs.length) R P)] s=_;have e1:(qd true).p (.int (p:Int)) (bw true (n+1+rs.length) R P)=some (.bl false):=by
    show some (D.bl (!(dix (P.reverse.map fun (p:Nat)=>(p:Int)) (P.reverse.map fun p=>tD (n+1+rs.length) (Hd R P p)) (p:Int)).isSome))=_;rw[nT (all p hp)];rfl
   simp![cF,aF,e1,Pf,PR.bl],fun z=>nomatch z⟩
 refine⟨R,P,L,hI,?_⟩;rw[wm (by rfl)];unfold ly;rw[show dSt 8 [D.int (n:Int),rsD rs]=[some (.int (n:Int)),some (rsD rs),none,none,none,none,none,none] from rfl];rw[aD,aV];simp![aE,ar,au,q,Pg,qag,qah,PU.ax];rw[aD,aV];simp![aF,aU,aM,dm,z0,Pf,Pg,qag,qah,PU.ax];rw[aD,cD];simp![bM,aF,aU,aM,dm,z1,Pf,bn,Pg];rw[qaJ] at ql;refine (congrArg (fun z:PS=>(z.then _).fin) ql).trans ?_;rw[PU.ax,aD,aV,c1];dsimp![bu];rw[show D.lst ((List.range n).map fun p=>qD (Rat.divInt (Hd R P p n) (Hd R P p p)))=lD (kC n R P) by unfold kC lD;rw[qaJ];rfl,aD,aV,c2];dsimp![bu,full];rw[aD,aV,c3];dsimp![PU.ax];rw[show (List.range n).filter (fun _=>false)=[] by simp];simp![qct,aD,cc,xTr_p,lA,List.isEmpty_nil,qbv,Pf,Pg,qaC,if_false,ci,PU.ax,bC,bI,ar,aU,mO,au,qap,qaD,show (0+1+1+1:Nat)<=100000 by decide,if_true,PU.bK]
def qz{a b:Rat}{x y h:Nat->Rat}:∀P:List Nat,(sQ P fun p=>(a * x p+b * y p) * h p)=a * (sQ P fun p=>x p * h p)+b * (sQ P fun p=>y p * h p)
 | []=>by show (0:Rat)=a * 0+b * 0;grind
 | p::P=>by rw[cg,cg,cg,qz P];grind
def gx{f:Nat->Rat}:∀P:List Nat,(∀p∈P,f p=0)->sQ P f=0
 | [],_=>rfl
 | p::P,h=>by rw[cg,h p (by simp),gx P fun q hq=>h q (qaa _ hq)];grind
def jV{f:Nat->Rat}{p:Nat}:∀{P:List Nat},P.Nodup->p∈P->(∀q∈P,q≠p->f q=0)->sQ P f=f p
 | q::P,nd,hp,h=>by
  obtain⟨h1,h2⟩:=qaP.mp nd;rw[cg];by_cases e:q=p
  ·subst e;rw[gx P fun x hx=>h x (qaa _ hx) fun z=>h1 (z▸hx)];grind
  ·rw[h q (by simp) e,jV h2 ((qam.mp hp).resolve_left fun z=>e z.symm) fun x hx=>h x (qaa _ hx)];grind
def Sol(n:Nat)(X:Nat->Rat)(v:Vc):Prop:=((v n:Int):Rat)=sQ (List.range n) fun j=>((v j:Int):Rat) * X j
def Sol.comb{n:Nat}{X:Nat->Rat}{u v:Vc}(hu:Sol n X u)(hv:Sol n X v)(a b:Int):Sol n X fun q=>a * u q+b * v q:=by
 unfold Sol at *;have e:=qz (a:=(a:Rat)) (b:=(b:Rat)) (x:=fun j=>((u j:Int):Rat)) (y:=fun j=>((v j:Int):Rat)) (h:=X) (List.range n);rw[<-hu,<-hv] at e;simp only[Rat.intCast_add,Rat.intCast_mul];exact e.symm
def sol_row{n m k:Nat}{X:Nat->Rat}{r:Rw}(h:r.2=sQ (List.range n) fun j=>coef r.1 j * X j):Sol n X (vc (wr n m r k)):=by
 unfold Sol;rw[mq (qai n),nm_n,h,<-qr];refine gy _ fun j hj=>?_;have hj:=qaK.mp hj;rw[mq (qbh hj),pN hj];grind
def Sp.sol{n:Nat}{X:Nat->Rat}{R:List Vc}(h:∀r∈R,Sol n X r){v:Vc}(s:Sp R v):Sol n X v:=by
 induction s with
 | nil=>exact (gx _ fun j _=>by show ((0:Int):Rat) * X j=0;grind).symm
 | @add v r c _ m ih =>
  have:=ih.comb (h r m) 1 c
  rw[show (fun q=>v q+c * r q)=fun q=>1 * v q+c * r q by funext q;ext];exact this
def Lf.sol{n:Nat}{X:Nat->Rat}{R:List Vc}{P:List Nat}{a:Vc}(h:∀r∈R,Sol n X r)(ha:Sol n X a):Sol n X (Lf R P a):=by
 obtain⟨u,su,e⟩:=pU R P a
 have:=ha.comb (su.sol h) (Dt R P) 1
 rw[show Lf R P a=fun j=>Dt R P * a j+1 * u j by funext j;rw[e];ext];exact this
def RI.vsol{M n pl:Nat}{rs:List Rw}{R:List Vc}{P:List Nat}{L:List Vc}{X:Nat->Rat}(_i:RI M (vcs n rs) pl R P L)(h:∀r∈rs,r.2=sQ (List.range n) fun j=>coef r.1 j * X j):∀v∈vcs n rs,Sol n X v:=fun v hv=>by
 obtain⟨k,hk,rfl⟩:=ko.mp hv;exact sol_row (h _ (qaN hk))
def RI.flat0{M n:Nat}{rs:List Rw}{R:List Vc}{P:List Nat}{L:List Vc}{X:Nat->Rat}(i:RI M (vcs n rs) n R P L)(h:∀r∈rs,r.2=sQ (List.range n) fun j=>coef r.1 j * X j):∀a∈L,Lf R P a n=0:=fun a ha=>by
 have hv:=i.vsol h;have s:=Lf.sol (P:=P) (fun r hr=>hv r ((i.all r).mpr (.inl hr))) (hv a ((i.all a).mpr (.inr ha)));unfold Sol at s
 rw[gx _ fun j hj=>by
  have hj:=qaK.mp hj
  rw[show Lf R P a j=0 by
   by_cases hp:j∈P
   ·exact i.st.van a j hp
   ·exact i.off j hj hp a ha]
  show ((0:Int):Rat) * X j=0
  grind] at s
 exact_mod_cast s
def RI.value{M n p:Nat}{rs:List Rw}{R:List Vc}{P:List Nat}{L:List Vc}{X:Nat->Rat}(i:RI M (vcs n rs) n R P L)(h:∀r∈rs,r.2=sQ (List.range n) fun j=>coef r.1 j * X j)(all:∀p,p<n->p∈P)(hp:p<n):Rat.divInt (Hd R P p n) (Hd R P p p)=X p:=by
 have hv:=i.vsol h;have s:=(Hd_sp R P p).sol fun r hr=>hv r ((i.all r).mpr (.inl hr));unfold Sol at s
 rw[jV (p:=p) qbN (qaK.mpr hp) fun q hq ne=>by
  have hq:=qaK.mp hq;rw[jp i.st (all q hq),show dlt p q=0 by simp[dlt,ne],Int.mul_zero];show ((0:Int):Rat) * X q=0
  grind] at s
 have hz:((Hd R P p p:Int):Rat)≠0:=fun e=>by
  have:Hd R P p p=0:=by exact_mod_cast e
  rw[jp i.st (all p hp)] at this;have ne:=i.st.ne;exact ne (by simpa [dlt] using this)
 rw[Rat.divInt_eq_div,s,Rat.div_def]
 have:=Rat.mul_inv_cancel _ hz
 grind
def Gen(n:Nat)(rs:List Rw):Prop:=∀F:(Nat->Rat)->Rat,(∀x y m,F (fun j=>x j+y j * m)=F x+F y * m)->(∀x y,(∀j,j<n->x j=y j)->F x=F y)->(∀r∈rs,F (coef r.1)=0)->∀j,j<n->F (fun q=>if q=j then 1 else 0)=0
def RI.rank{M n:Nat}{rs:List Rw}{R:List Vc}{P:List Nat}{L:List Vc}(i:RI M (vcs n rs) n R P L)(g:Gen n rs):∀p,p<n->p∈P:=fun p0 hp0=>Classical.byContradiction fun no=>by
 have key:=g (phi p0 ((Dt R P:Int):Rat) P fun p=>((Hd R P p p0:Int):Rat)) (fun x y m=>phi_add) (fun x y e=>by
  unfold phi
  rw[e p0 hp0,gy P fun p hp=>by rw[e p (i.lt p hp)]]) (fun r hr=>by
  obtain⟨k,hk,rfl⟩:=qbP.mp hr;have hm:vc (wr n rs.length rs[k] k)∈vcs n rs:=ko.mpr ⟨k,hk,rfl⟩;have z:Lf R P (vc (wr n rs.length rs[k] k)) p0=0:=by
   rcases (i.all _).mp hm with h|h
   ·exact uK _ R h _
   ·exact i.off p0 hp0 no _ h
  rw[Lf_held i.st i.nd] at z;have z':=congrArg (fun x:Int=>(x:Rat)) z;simp only[Rat.intCast_sub,Rat.intCast_mul,t4] at z';rw[mq (qbh hp0),pN hp0,gy (g:=fun p=>(coef rs[k].1 p * ((Hd R P p p0:Int):Rat)) * (((oft n rs[k]:Nat):Int):Rat)) P (fun p hp=>by rw[mq (qbh (i.lt p hp)),pN (i.lt p hp)];grind),qr] at z';have ho:(((oft n rs[k]:Nat):Int):Rat)≠0:=fun e=>by
   have h0:((oft n rs[k]:Nat):Int)=0:=by exact_mod_cast e
   have:=oft_pos (n:=n) (r:=rs[k])
   ext
  have:(phi p0 ((Dt R P:Int):Rat) P (fun p=>((Hd R P p p0:Int):Rat)) (coef rs[k].1)) * (((oft n rs[k]:Nat):Int):Rat)=0:=by
   unfold phi;have e0:((0:Int):Rat)=0:=rfl;rw[e0] at z';rw[<-z'];grind
  exact (Rat.mul_eq_zero.mp this).resolve_right ho) p0 hp0
 unfold phi at key;dsimp only at key;rw[qan rfl,gx P fun p hp=>by rw[qay fun (z:p=p0)=>no (z▸hp)];grind] at key;refine i.st.ne ?_
 have:((Dt R P:Int):Rat)=0:=by grind
 exact_mod_cast this
def yo{n j p:Nat}{rs:List Rw}{v:Vc}(ok:∀r∈rs,RowOk n r)(hj:j<=n)(hv:Lin n rs v):(tog n rs (fE n rs.length v p)).getD j 0=((v j:Int):Rat) / ((v p:Int):Rat):=by
 rw[tog_nm ok hj];have e:fE n rs.length v p=(List.range' 0 rs.length).map fun k=>(((v p:Int):Rat)⁻¹ * ((v (n+1+k):Int):Rat)+0 * 0):=by
  unfold fE;rw[qbO];refine qaM fun k _=>?_;rw[Rat.divInt_eq_div,Rat.div_def];grind
 rw[e,vm,mn (g:=nm n j) (h:=fun _=>0),<-hv j hj,Rat.div_def];grind
def RI.linH{M n pl p:Nat}{rs:List Rw}{R:List Vc}{P:List Nat}{L:List Vc}(i:RI M (vcs n rs) pl R P L):Lin n rs (Hd R P p):=(Hd_sp R P p).lin fun r hr=>by
 obtain⟨k,hk,rfl⟩:=ko.mp ((i.all r).mpr (.inl hr));exact lin_row hk
def RI.mixH{M n p j:Nat}{rs:List Rw}{R:List Vc}{P:List Nat}{L:List Vc}(ok:∀r∈rs,RowOk n r)(i:RI M (vcs n rs) n R P L)(all:∀p,p<n->p∈P)(hp:p<n)(hj:j<n):(tog n rs (fE n rs.length (Hd R P p) p)).getD j 0=if j=p then 1 else 0:=by
 rw[yo ok (qbh hj) i.linH,jp i.st (all j hj),jp i.st (all p hp),show dlt p p=1 by simp[dlt],Int.mul_one];have hz:((Dt R P:Int):Rat)≠0:=fun e=>i.st.ne (by exact_mod_cast e);by_cases e:j=p
 ·subst e;rw[qan rfl,show dlt j j=1 by simp[dlt],Int.mul_one,Rat.div_def,Rat.mul_inv_cancel _ hz]
 ·rw[qay e,show dlt p j=0 by simp[dlt,e],Int.mul_zero,Rat.div_def];show ((0:Int):Rat) * _=0
  grind
def xA{n m k p:Nat}{v:Vc}(hk:0<k)(h:∀j,(v j).natAbs<2 ^ k)(hz:v p≠0):∀q∈fE n m v p,sz q<=k:=fun q hq=>by
 obtain⟨i,_,rfl⟩:=qaF.mp hq;rw[divI hz];refine jO (by ext) hk ?_ (h p)
 have:=h (n+1+i)
 split
 ·rwa [Int.natAbs_neg]
 ·exact this
def u5{n m:Nat}{rs:List Rw}{X:Nat->Rat}{s:Pen}(hn:n<=12)(hl:rs.length<=1000)(h:RsOk n m rs)(hm:2+(n+1) * (4+2 * m)<=400000)(hx:∀r∈rs,r.2=sQ (List.range n) fun j=>coef r.1 j * X j)(g:Gen n rs) :
  ∃mf:Nat->List Rat,(∀p,p<n->(mf p).length=rs.length/\(∀q∈mf p,sz q<=2+(n+1) * (4+2 * m))/\∀j,j<n->(tog n rs (mf p)).getD j 0=if j=p then 1 else 0)/\cG.p [.int (n:Int),rsD rs] s=.ok (.tup [.str "one",lD ((List.range n).map X),.lst ((List.range n).map fun p=>lD (mf p))]) s:=by
 obtain⟨R,P,L,i,q⟩:=uZ (s:=s) hn hl h hm (fun R P L i=>i.flat0 hx) fun R P L i=>i.rank g;have all:=i.rank g;refine⟨fun p=>fE n rs.length (Hd R P p) p,fun p hp=>⟨by simp[fE],?_,fun j hj=>i.mixH h.row all hp hj⟩,?_⟩
 ·refine xA (by ext) (fun j=>i.szH (by ext) (qai _) (qcj (by decide)) (qai _) p j) ?_;rw[jp i.st (all p hp)]
  have:=i.st.ne
  simpa [dlt] using this
 ·rw[q,show kC n R P=(List.range n).map X from qaM fun p hp=>i.value hx all (qaK.mp hp)]
def sA{q:Rat}{s:Pen}(h:sz q<=950000):cX.p [qD q] s=.ok (.bl true) s:=by
 have l:=gz (t:=q.num) (b:=q.den) (s:=s) q.den_nz (bz q) h;rw[Rat.num_divInt_den] at l;have hd:(0:Int)<(q.den:Int):=by have:=q.den_nz;ext
 have e:=eqD_q (neg:=false) (a:=q) (b:=q);rw[decide_eq_true rfl] at e;rw[oy (by rfl)];unfold fS;rw[show dSt 2 [qD q]=[some (qD q),none] from rfl];have b:∀(i:Int) (x1:Option D),(xIf (xOr (eA (xB (xUn (dL ["int"]) (ab 1)))) (xB (xUn (dL ["bool"]) (ab 1)))) (aT (xC (.bl false))) xSkip:Xd []).p [some (qD q),some (.int i)] s=.nx [some (qD q),some (.int i)] s:=fun i x1=>rfl;have g:pGo (xNm 1:Xg []).p (xIf (xOr (eA (xB (xUn (dL ["int"]) (ab 1)))) (xB (xUn (dL ["bool"]) (ab 1)))) (aT (xC (.bl false))) xSkip:Xd []).p [.int q.num,.int (q.den:Int)] [some (qD q),none] s=.nx [some (qD q),some (.int (q.den:Int))] s:=by
  rw[cQ (env1:=[some (qD q),some (.int q.num)]) (by rfl),b _ none];rw[PU.kH];rw[cQ (env1:=[some (qD q),some (.int (q.den:Int))]) (by rfl),b _ none];rfl
 have i1:(xIf (xOr (eA (xB (xUn (dL ["tuple"]) (ab 0)))) (xB (ai oNe (xCb du (aa (ab 0) xNil)) (xC (.int 2))))) (aT (xC (.bl false))) xSkip:Xd []).p [some (qD q),none] s=.nx [some (qD q),none] s:=by
  simp only[cc,ku,gH,cF,nt,ak,Pb,mE,wk,qbs,Pf,PR.bl,aF,ce,ar,au,wC,aU,aM,gh,cq,qap,qaD];rfl
 rw[aD,i1,PU.ax,aD,cD];simp only[bM,ak,Pb,vV,Pf,Pg];refine (congrArg (fun z:PS=>(z.then _).fin) g).trans ?_;simp only[PU.ax,bC,ox,aF,ak,Pb,aU,aM,dm,z0,z1,Pf,qH,decide_eq_true hd,PR.bl,if_true,aE,ar,au,l,eT,e,qaC,if_false,Pg,PU.bK]
def o7{qs:List Rat}{s:Pen}(hl:qs.length<=1000)(h:∀q∈qs,sz q<=950000):dX.p [lD qs,.int (qs.length:Int)] s=.ok (.bl true) s:=by
 rw[qk (by rfl)];unfold iz;rw[show dSt 2 [lD qs,.int (qs.length:Int)]=[some (lD qs),some (.int (qs.length:Int))] from rfl,bC];have c:=cM (ws:=[]) (ws':=[]) (env:=[some (lD qs),some (.int (qs.length:Int))]) (s:=s) (s0:=s) (fm:=[]) (i:=bj (ab 0)) (t:=xTrue) (e:=aq cX (aa (ab 0) xNil)) (l:=qs) qD (fun _=>.bl true) (fun _=>true)
  (by simp only[bM,ak,Pb,bn,Pf]) (by ext) fun q hq=>⟨rfl,fun _=>by
   show (aq cX _:Xe []).p [some (qD q)] s=_
   simp only[aE,ar,ak,Pb,au,sA (h q hq)]⟩
 have nf:=xw (qs.map fun _=>true);rw[qaJ,show ((qs.map fun _=>true).all id)=true by simp] at nf;simp![ox,nt,mE,wO,qbs,Pf,PR.bl,aF,ce,ar,au,gJ,qar,eT,cq,qaC,if_false,decide_true,c,bu,aU,cn_bl,oIn_p];rw[show inD true (.bl false) (.lst (qs.map fun _=>D.bl true))=some (.bl true) from nf];rfl
def vt{α:Type}{f:α->D}{l:List α}{s:Pen}(hl:l.length<=1000):∃(l':List α) (s':Pen),dr.p [.pen,.lst (l.map f)] s=.ok (.lst (l'.map f)) s'/\l'.Perm l:=by
 rw[pK (by rfl)];unfold gW;rw[show dSt 4 [D.pen,.lst (l.map f)]=[some .pen,some (.lst (l.map f)),none,none] from rfl];obtain⟨env',s',er,acc,x3,hp,rfl⟩:=eM (g:=(xNm 3:Xg [2]).p) (b:=(xMt nO 2 (aa (aq aR (aa (ab 0) (aa (ai bN (xCb du (aa (ab 2) xNil)) (xC (.int 1))) xNil))) (aa (ab 3) xNil)):Xd [2]).p)
  (fun j env s=>∃(acc:List α) (x3:Option D),acc.Perm (l.take j)/\env=[some .pen,some (.lst (l.map f)),some (.lst (acc.map f)),x3]) (l.map f) 0 [some .pen,some (.lst (l.map f)),some (.lst []),none] s ⟨[],none,by simp,rfl⟩ fun j env s d ⟨acc,x3,hp,he⟩ hd=>by
   subst he;rw[qbd] at hp ⊢;rw[qax,qaB] at hd;obtain⟨r,hr,rfl⟩:=hd;obtain⟨hj,rfl⟩:=qaf.mp hr;have la:acc.length=j:=by rw[hp.length_eq,qbf];ext
   obtain⟨i,s1,i0,i1,q⟩:=cv (s:=s) (size:=(acc.length:Int)+1) (by ext) (by ext);obtain⟨i,rfl⟩:=jM i0
   refine⟨_,_,s1,rfl,kD (as:=[.int (i:Int),f l[j]]) (ds:=acc.map f) (ds':=(acc.take i++l[j]::acc.drop i).map f) (r:=.non) (by
    simp![qag,qah,ar,aE,aF,ce,au,gJ,qar,Pf,aU,aM,eG,q]) rfl (by
    rw[wu (by simp;ext) (by simp;ext)];simp),acc.take i++l[j]::acc.drop i,some (f l[j]),?_,rfl⟩
   rw[qaR hj];refine List.perm_middle.trans ?_;rw[qcy];exact (List.Perm.cons _ hp).trans (List.perm_append_singleton _ _).symm
 refine⟨acc,s',?_,by simpa using hp⟩;simp![aD,eJ,cA,au,qaD,qbj,if_true,Pg,gX,qag,qah,PU.ax,cD,bM,bn,Pf];refine (congrArg (fun z:PS=>(z.then _).fin) er).trans ?_;rw[PU.ax,uo (d:=.lst (acc.map f)) rfl,PU.bK]
def Am(n:Nat):Nat:=if n<=7 then 2 ^ 20 else 9
def Em(n:Nat):Nat:=if n<=7 then 2 ^ 20 else 3
def Qn(n:Nat)(q:Rat):Prop:=q.num.natAbs<=Am n/\q.den<=Em n
def tY{n:Nat}:Qn n 0:=⟨qbj _,by show 1<=_;unfold Em;split <;> decide⟩
def of_p{n:Nat}{s:Pen}:∃q s',eP.p [.pen,.int (n:Int)] s=.ok (qD q) s'/\Qn n q:=by
 rw[Pp_l_of (by rfl)];unfold qx;rw[show dSt 2 [D.pen,.int (n:Int)]=[some .pen,some (.int (n:Int))] from rfl];by_cases h:n<=7
 ·obtain⟨q,s1,q1,hq⟩:=xJ (s:=s);refine⟨q,s1,?_,?_⟩
  ·simp![aD,cc,cF,aF,aU,aM,qH,decide_eq_false (show ¬(7:Int)<(n:Int) by ext),Pf,PR.bl,Pg,qaC,if_false,ci,PU.ax,bC,aE,ar,au,q1,PU.bK]
  ·have e:2 ^ sz q<=2 ^ 20:=qaX (by decide) hq;have h1:=dz q;have h2:=bz q;exact⟨by unfold Am;rw[qan h];ext,by unfold Em;rw[qan h];ext⟩
 ·obtain⟨t,s1,t0,t1,q1⟩:=cv (s:=s) (size:=13) (by decide) (by decide);obtain⟨b,s2,b0,b1,q2⟩:=cv (s:=s1) (size:=3) (by decide) (by decide);obtain⟨b,rfl⟩:=jM b0;have hb:b<3:=by ext
  have l:=gz (t:=t - 6) (b:=1+b) (k:=2) (s:=s2) (by ext) (by ext) (by decide);rw[Int.natCast_add] at l;have l:bQ.p [.int (t - 6),.int (1+(b:Int))] s2=.ok (qD (Rat.divInt (t - 6) ((1+b:Nat):Int))) s2:=l;refine⟨Rat.divInt (t - 6) ((1+b:Nat):Int),s2,?_,?_⟩
  ·simp![aD,cc,cF,aF,aU,aM,qH,decide_eq_true (show (7:Int)<(n:Int) by ext),Pf,PR.bl,Pg,if_true,bC,aE,ar,au,q1,gu,q2,eG,l,PU.oA,PU.bK]
  ·obtain⟨e1,e2⟩:=kN (t - 6) (1+b) (by ext);refine⟨?_,?_⟩
   ·rw[e1]
    have:=tx (t:=t - 6) (g:=Nat.gcd (t - 6).natAbs (1+b))
    unfold Am;rw[qay h];ext
   ·rw[e2]
    have:=qbC (1+b) (Nat.gcd (t - 6).natAbs (1+b))
    unfold Em;rw[qay h];ext
abbrev mrB:Xd []:=(aB (xIf (eA (xB (aq dX (aa (ab 6) (aa (xCb du (aa (ab 1) xNil)) xNil))))) (aT (xC (.bl false))) xSkip)
 (aB (aS 7 (aq bS (aa (ab 0) (aa (ab 1) (aa (ab 6) xNil)))))
 (xIf (xB (ai oNe (bg 1 [7] (bj (ab 4)) (ws':=[]) (xNm 0) xTrue (ai oIx (ab 1) (ab 0))) (bg 1 [5] (bj (ab 4)) (ws':=[]) (xNm 0) xTrue (aO (aa (xCb jZ (aa (ai oEq (ab 0) (ab 1)) xNil)) (aa (xC (.int 1)) xNil)))))) (aT (xC (.bl false))) xSkip)))
abbrev nD'(n:Nat):D:=.lst ((List.range n).map fun (p:Nat)=>D.int (p:Int))
def mr_turn{n p:Nat}{rs:List Rw}{ms:List Rat}{x2 x3 x7:Option D}{s:Pen}(hn:n<=100)(hl:rs.length<=1000)(ok:∀r∈rs,RowOk n r)(he:ms.length=rs.length)(hs:∀q∈ms,sz q<=950000)(W:TW (rs.zip ms)<=880000)(ht:∀j,j<n->(tog n rs ms).getD j 0=if j=p then 1 else 0) :
  ∃x7',mrB.p [some (.int (n:Int)),some (rsD rs),x2,x3,some (nD' n),some (.int (p:Int)),some (lD ms),x7] s=.nx [some (.int (n:Int)),some (rsD rs),x2,x3,some (nD' n),some (.int (p:Int)),some (lD ms),x7'] s:=by
 have nb:=o7 (qs:=ms) (s:=s) (by ext) hs;rw[he] at nb;have tg:=jm (n:=n) (rs:=rs) (ms:=ms) (s:=s) hn hl he.symm ok W;have c1:=cM (ws:=[]) (ws':=[]) (env:=[some (.int (n:Int)),some (rsD rs),x2,x3,some (nD' n),some (.int (p:Int)),some (lD ms),some (lD (tog n rs ms))]) (s:=s) (s0:=s) (fm:=[7]) (i:=bj (ab 4)) (t:=xTrue) (e:=ai oIx (ab 1) (ab 0)) (l:=List.range n) (fun (p:Nat)=>D.int (p:Int)) (fun j=>qD (if j=p then 1 else 0)) (fun _=>true)
  (by simp![bM,bn,Pf]) (by simp;ext) fun j hj=>⟨rfl,fun _=>by
   have hj:=qaK.mp hj;show (ai oIx _ _:Xe []).p [some (.int (j:Int)),some (lD (tog n rs ms))] s=_
   simp![aF,cb,j9 (show j<(tog n rs ms).length by rw[nZ];ext),Pf,ht j hj]⟩
 have c2:=cM (ws:=[]) (ws':=[]) (env:=[some (.int (n:Int)),some (rsD rs),x2,x3,some (nD' n),some (.int (p:Int)),some (lD ms),some (lD (tog n rs ms))]) (s:=s) (s0:=s) (fm:=[5]) (i:=bj (ab 4)) (t:=xTrue) (e:=aO (aa (xCb jZ (aa (ai oEq (ab 0) (ab 1)) xNil)) (aa (xC (.int 1)) xNil))) (l:=List.range n) (fun (p:Nat)=>D.int (p:Int)) (fun j=>qD (if j=p then 1 else 0)) (fun _=>true)
  (by simp![bM,bn,Pf]) (by simp;ext) fun j hj=>⟨rfl,fun _=>by
   show (aO _:Xe []).p [some (.int (j:Int)),some (.int (p:Int))] s=_;simp![bI,ar,ce,aF,au,eT,cq,qaC,if_false,Pf,rc,aU,aM,qap,qaD,show (0+1+1:Nat)<=100000 by decide,if_true];by_cases e:j=p
   ·subst e;simp
   ·have:¬(j:Int)=(p:Int):=by ext
    simp[e,this]⟩
 have e2:=eqD_qs (neg:=true) (xs:=(List.range n).map fun j=>if j=p then 1 else 0) (ys:=(List.range n).map fun j=>if j=p then 1 else 0);rw[decide_eq_true rfl,lD,qaJ] at e2;refine⟨some (lD (tog n rs ms)),?_⟩;show ((aB _ _:Xd []).p _ _)=_;rw[aD,cc];simp![gH,cF,aE,ar,ce,au,gJ,qar,Pf,nb,PR.bl,qbv,Pg,qaC,if_false,ci,PU.ax];rw[aD,aV];simp![aE,ar,au,tg,Pg,qag,qah,PU.ax];rw[cc,cF,aF,c1];simp only[Pb,bu];rw[c2];simp only[Pb,bu,gh];rw[show eqD true (.lst ((List.range n).map fun j=>qD (if j=p then 1 else 0))) (.lst ((List.range n).map fun j=>qD (if j=p then 1 else 0)))=some (.bl false) from e2];rfl
def zip_rng{n:Nat}{f:Nat->D}:fU ((List.range n).map fun (p:Nat)=>D.int (p:Int)) ((List.range n).map f)=(List.range n).map fun p=>.tup [.int (p:Int),f p]:=by
 have:=qG (f:=f) (List.range n)
 rw[qaJ] at this;exact this
def pE{n:Nat}{rs:List Rw}{mf:Nat->List Rat}{s:Pen}(hn:n<=100)(hl:rs.length<=1000)(ok:∀r∈rs,RowOk n r)(h:∀p,p<n->(mf p).length=rs.length/\(∀q∈mf p,sz q<=950000)/\TW (rs.zip (mf p))<=880000/\∀j,j<n->(tog n rs (mf p)).getD j 0=if j=p then 1 else 0) :
  bV.p [.int (n:Int),rsD rs,.lst [],.lst ((List.range n).map fun p=>lD (mf p))] s=.ok (.bl true) s:=by
 rw[lV (by rfl)];unfold eQ;rw[show dSt 8 [D.int (n:Int),rsD rs,.lst [],.lst ((List.range n).map fun p=>lD (mf p))]=[some (.int (n:Int)),some (rsD rs),some (.lst []),some (.lst ((List.range n).map fun p=>lD (mf p))),none,none,none,none] from rfl];have c1:=cM (ws:=[]) (ws':=[]) (env:=[some (.int (n:Int)),some (rsD rs),some (.lst []),some (.lst ((List.range n).map fun p=>lD (mf p))),none,none,none,none]) (s:=s) (s0:=s) (fm:=[2]) (i:=bO iR1 (aa (ab 0) xNil)) (t:=xB (ai (oIn true) (ab 0) (ab 1))) (e:=ab 0) (l:=List.range n) (fun (p:Nat)=>D.int (p:Int)) (fun (p:Nat)=>D.int (p:Int)) (fun _=>true)
  (by simp only[cx,ar,ak,Pb,au];rw[d3 (by ext),qaH,eE];rfl) (by simp;ext) fun j hj=>⟨by
   show (xB _:Xt []).p [some (.int (j:Int)),some (.lst [])] s=_
   have:inD true (.int (j:Int)) (.lst [])=some (.bl true):=inD_of (neg:=true) (x:=(j:Int)) (d:=.lst []) (xs:=[]) rfl
   simp![cF,aF,oIn_p,this,Pf,PR.bl],fun _=>rfl⟩
 obtain⟨env',s',er,x5,x6,x7,rfl,rfl⟩:=eM (g:=(xGp (xGc (xNm 5) (xGc (xNm 6) xGl)) 2:Xg []).p) (b:=mrB.p) (fun j env s'=>∃x5 x6 x7,s'=s/\env=[some (.int (n:Int)),some (rsD rs),some (.lst []),some (.lst ((List.range n).map fun p=>lD (mf p))),some (nD' n),x5,x6,x7]) ((List.range n).map fun (p:Nat)=>.tup [.int (p:Int),lD (mf p)]) 0 [some (.int (n:Int)),some (rsD rs),some (.lst []),some (.lst ((List.range n).map fun p=>lD (mf p))),some (nD' n),none,none,none] s ⟨none,none,none,rfl,rfl⟩ fun j env s' d ⟨x5,x6,x7,es,ee⟩ hd=>by
   subst es ee;rw[qax,qaB] at hd;obtain⟨p,hp,rfl⟩:=hd;have hp:p<n:=by
    have:=qbq hp
    exact qaK.mp this
   obtain⟨h1,h2,h3,h4⟩:=h p hp;obtain⟨x7',q⟩:=mr_turn (p:=p) (x2:=some (.lst [])) (x3:=some (.lst ((List.range n).map fun p=>lD (mf p)))) (x7:=x7) (s:=s') hn hl ok h1 h2 h3 h4;exact⟨_,_,_,rfl,q,some (.int (p:Int)),some (lD (mf p)),x7',rfl,rfl⟩
 rw[aD,aV,c1];dsimp![bu];rw[aD,cc];simp![ku,gH,cF,nt,mE,wO,qbs,Pf,PR.bl,aF,ce,ar,au,gJ,qar,gh,cq,show (["list"].any (fk "list"))=true from rfl,qbv,qaC,if_false,decide_true,if_true,Pg,ci,PU.ax];rw[aD,cD];simp![cx,ar,au,iZ_ll,Pf,Pg,zip_rng];refine (congrArg (fun z:PS=>(z.then _).fin) er).trans ?_;rw[PU.ax,bC,aU,Pg,PU.bK];rfl
def Cl(D B:Nat)(q:Rat):Prop:=∃z:Int,q=((z:Int):Rat) / ((D:Int):Rat)/\z.natAbs<=B
def castN{D:Nat}(h:0<D):(((D:Nat):Int):Rat)≠0:=fun e=>by
 have:((D:Nat):Int)=0:=by exact_mod_cast e
 ext
def num_den(q:Rat):(q.num:Rat)=q * ((q.den:Int):Rat):=by
 have h1:=Rat.num_divInt_den q;rw[Rat.divInt_eq_div] at h1;have h2:=Rat.div_mul_cancel (a:=(q.num:Rat)) (b:=((q.den:Int):Rat)) (castN (qbA q.den_nz));rw[h1] at h2;exact h2.symm
def cl_of{D:Nat}{q:Rat}(h:q.den ∣ D)(hD:0<D):Cl D (q.num.natAbs * D) q:=by
 obtain⟨c,e⟩:=h;refine⟨q.num * (c:Int),?_,?_⟩
 ·have hz:=castN hD;have eD:(((D:Nat):Int):Rat)=((q.den:Int):Rat) * ((c:Int):Rat):=by rw[e,qbG,Rat.intCast_mul]
  rw[Rat.intCast_mul,num_den,Rat.div_def]
  have:=Rat.mul_inv_cancel _ hz
  rw[eD] at this ⊢
  grind
 ·rw[qbp,qbz,e];refine qbU _ ?_;exact qbH _ (qbA q.den_nz)
def Cl.add{D B C:Nat}{p q:Rat}(h1:Cl D B p)(h2:Cl D C q):Cl D (B+C) (p+q):=by
 obtain⟨y,rfl,hy⟩:=h1;obtain⟨z,rfl,hz⟩:=h2;refine⟨y+z,by rw[Rat.intCast_add,Rat.div_def,Rat.div_def,Rat.div_def];grind,?_⟩
 have:=Int.natAbs_add_le y z
 ext
def Cl.muli{D B:Nat}{q:Rat}(h:Cl D B q)(m:Int):Cl D (B * m.natAbs) (q * (m:Rat)):=by
 obtain⟨z,rfl,hz⟩:=h;refine⟨z * m,by rw[Rat.intCast_mul,Rat.div_def,Rat.div_def];grind,?_⟩;rw[qbp];exact qaG _ hz
def Cl.mono{D B C:Nat}{q:Rat}(h:Cl D B q)(hb:B<=C):Cl D C q:=by
 obtain⟨z,e,hz⟩:=h;exact⟨z,e,qaI hz hb⟩
def Cl.zero{D:Nat}:Cl D 0 0:=⟨0,by rw[Rat.div_def];show (0:Rat)=0 * _;grind,by decide⟩
def Cl.sz{D B k:Nat}{q:Rat}(h:Cl D B q)(hD:0<D)(hk:0<k)(h1:D<2 ^ k)(h2:B<2 ^ k):sz q<=k:=by
 obtain⟨z,rfl,hz⟩:=h;rw[<-Rat.divInt_eq_div];exact jO (by ext) hk (by ext) h1
def wn{D B u:Nat}:∀(l:List (Rat × Rat)) (a:Rat) (C:Nat),(∀p∈l,Cl D B p.1/\∃z:Int,p.2=(z:Rat)/\z.natAbs<=u)->Cl D C a->Cl D (C+l.length * (B * u)) (ca a l)
 | [],a,C,_,h=>by simpa [ca] using h
 | p::l,a,C,hl,h=>by
  obtain⟨h1,z,h2,h3⟩:=hl p (by simp)
  have:=wn l (a+p.1 * p.2) (C+B * u) (fun q hq=>hl q (qaa _ hq)) (h.add (by rw[h2];exact (h1.muli z).mono (qbU _ h3)))
  show Cl D _ (ca (a+p.1 * p.2) l);rw[qap,qbK];exact this.mono (by ext)
def dn(rs:List Rw)(j:Nat):Nat:=rs.foldr (fun r a=>(coef r.1 j).den * a) 1
def re{j:Nat}:∀rs:List Rw,0<dn rs j
 | []=>Nat.one_pos
 | r::rs=>Nat.mul_pos (qbA (coef r.1 j).den_nz) (re rs)
def vO{j:Nat}{r:Rw}:∀{rs:List Rw},r∈rs->(coef r.1 j).den ∣ dn rs j
 | x::rs,h=>by
  rcases qam.mp h with rfl|h
  ·exact Nat.dvd_mul_right _ _
  ·exact qcC (vO h) (Nat.dvd_mul_left _ _)
def dn_le{j E:Nat}:∀{rs:List Rw},(∀r∈rs,(coef r.1 j).den<=E)->dn rs j<=E ^ rs.length
 | [],_=>qai _
 | x::rs,h=>by
  rw[qap,qbX,qbL];exact qbI (h x (by simp)) (dn_le fun r hr=>h r (qaa _ hr))
structure LF (n:Nat) (F:(Nat->Rat)->Rat):Prop where
 add:∀x y m,F (fun j=>x j+y j * m)=F x+F y * m
 loc:∀x y,(∀j,j<n->x j=y j)->F x=F y
abbrev e1(j:Nat):Nat->Rat:=fun q=>if q=j then 1 else 0
def LF.zero{n:Nat}{F:(Nat->Rat)->Rat}(f:LF n F):F (fun _=>0)=0:=by
 have:=f.add (fun _=>0) (fun _=>0) 1
 have e:(fun j:Nat=>(0:Rat)+0 * 1)=fun _=>0:=by funext j;grind
 rw[e] at this;grind
def LF.supp{n:Nat}{F:(Nat->Rat)->Rat}(f:LF n F):∀(Q:List Nat) (x:Nat->Rat),(∀j,j<n->j∉Q->x j=0)->(∀q∈Q,F (e1 q)=0)->F x=0
 | [],x,h,_=>by rw[f.loc x (fun _=>0) fun j hj=>h j hj (by simp),f.zero]
 | q::Q,x,h,hq=>by
  have hy:=LF.supp f Q (fun j=>if j=q then 0 else x j) (fun j hj no=>by
   by_cases e:j=q
   ·rw[qan e]
   ·rw[qay e]
    exact h j hj fun z=>(qam.mp z).elim e no) fun p hp=>hq p (qaa _ hp)
  have:=f.add (fun j=>if j=q then 0 else x j) (e1 q) (x q)
  rw[hy,hq q (by simp)] at this
  rw[f.loc x (fun j=>(if j=q then 0 else x j)+e1 q j * x q) fun j _=>by
   by_cases e:j=q
   ·subst e;rw[qan rfl];show x j=0+(if j=j then 1 else 0) * x j;rw[qan rfl];grind
   ·rw[qay e];show x j=x j+(if j=q then 1 else 0) * x q;rw[qay e];grind,this]
  grind
def LF.fold{n:Nat}{F:(Nat->Rat)->Rat}(f:LF n F):∀(l:List (Rw × Rat)) (x:Nat->Rat),(∀p∈l,F (coef p.1.1)=0)->F (fun j=>ca (x j) (l.map fun p=>(coef p.1.1 j,p.2)))=F x
 | [],x,_=>rfl
 | p::l,x,e=>by
  have:=LF.fold f l (fun j=>x j+coef p.1.1 j * p.2) fun q hq=>e q (qaa _ hq)
  rw[f.add,e p (by simp),Rat.zero_mul,Rat.add_zero] at this;exact this
def LF.new{n k:Nat}{F:(Nat->Rat)->Rat}(f:LF n F){ps:List Nat}{x:Nat->Rat}(hk:k<ps.length)(h0:x ps[k]≠0)(hs:∀j,j<n->j∉ps.take (k+1)->x j=0)(hF:∀q∈ps.take k,F (e1 q)=0)(hx:F x=0):∀q∈ps.take (k+1),F (e1 q)=0:=by
 have hy:=f.supp (ps.take k) (fun j=>if j=ps[k] then 0 else x j) (fun j hj no=>by
  by_cases e:j=ps[k]
  ·rw[qan e]
  ·rw[qay e];refine hs j hj fun z=>?_;rw[qaR hk] at z;rcases qaL.mp z with z|z
   ·exact no z
   ·exact e (qav.mp z)) hF
 have:=f.add (fun j=>if j=ps[k] then 0 else x j) (e1 ps[k]) (x ps[k])
 rw[hy,<-f.loc x (fun j=>(if j=ps[k] then 0 else x j)+e1 ps[k] j * x ps[k]) fun j _=>by
  by_cases e:j=ps[k]
  ·rw[qan e,e];show x ps[k]=0+(if ps[k]=ps[k] then 1 else 0) * x ps[k];rw[qan rfl];grind
  ·rw[qay e];show x j=x j+(if j=ps[k] then 1 else 0) * x ps[k];rw[qay e];grind,hx] at this
 have z:F (e1 ps[k])=0:=by
  have m:F (e1 ps[k]) * x ps[k]=0:=by grind
  exact (Rat.mul_eq_zero.mp m).resolve_right h0
 intro q hq;rw[qaR hk] at hq;rcases qaL.mp hq with hq|hq
 ·exact hF q hq
 ·rw[qav.mp hq];exact z
abbrev psI(ps:List Nat):D:=.lst (ps.map fun (p:Nat)=>D.int (p:Int))
abbrev j1B:Xd [4,6,8]:=(xIf (xB (ai oEq (aq aR (aa (ab 0) (aa (xC (.int 3)) xNil))) (xC (.int 0)))) (gA 8 (aq eP (aa (ab 0) (aa (ab 1) xNil))) (ab 10)) xSkip)
def jY{yy:List Rat}{i j:Nat}{q:Rat}(h:i<yy.length):(yy.set i q).getD j 0=if j=i then q else yy.getD j 0:=by
 by_cases e:j=i
 ·subst e;rw[qan rfl,qak,qaA h];rfl
 ·rw[qay e,qak,qae (fun z=>e z.symm),<-qak]
def jl{n:Nat}{x2 x3 x4 x5 x6 x7 x9 x11 x12:Option D}:∀(js:List Nat) (yy:List Rat) (x10:Option D) (s:Pen),(∀j∈js,j<n)->yy.length=n->(∀i,Qn n (yy.getD i 0)) ->
  ∃(yy':List Rat) (x10':Option D) (s':Pen),yy'.length=n/\(∀i,Qn n (yy'.getD i 0))/\(∀i,i∉js->yy'.getD i 0=yy.getD i 0)/\pGo (xNm 10:Xg [4,6,8]).p j1B.p (js.map fun (p:Nat)=>D.int (p:Int)) [some .pen,some (.int (n:Int)),x2,x3,x4,x5,x6,x7,some (lD yy),x9,x10,x11,x12] s=.nx [some .pen,some (.int (n:Int)),x2,x3,x4,x5,x6,x7,some (lD yy'),x9,x10',x11,x12] s'
 | [],yy,x10,s,_,hl,hq=>⟨yy,x10,s,hl,hq,fun _ _=>rfl,rfl⟩
 | j::js,yy,x10,s,hj,hl,hq=>by
  have hj0:=hj j (by simp);obtain⟨d,s1,d0,d1,q1⟩:=cv (s:=s) (size:=3) (by decide) (by decide);rw[qao,cQ (env1:=[some .pen,some (.int (n:Int)),x2,x3,x4,x5,x6,x7,some (lD yy),x9,some (.int (j:Int)),x11,x12]) (by rfl)];have et:(xB (ai oEq (aq aR (aa (ab 0) (aa (xC (.int 3)) xNil))) (xC (.int 0))):Xt [4,6,8]).p [some .pen,some (.int (n:Int)),x2,x3,x4,x5,x6,x7,some (lD yy),x9,some (.int (j:Int)),x11,x12] s=.ok (decide (d=0)) s1:=by
   simp![cF,aF,aE,ar,aU,aM,au,q1,eT,cq,qaC,if_false,Pf,PR.bl]
  by_cases e:d=0
  ·obtain⟨q,s2,q2,hq2⟩:=of_p (n:=n) (s:=s1);obtain⟨yy',x10',s3,h1,h2,h3,h4⟩:=jl (x2:=x2) (x3:=x3) (x4:=x4) (x5:=x5) (x6:=x6) (x7:=x7) (x9:=x9) (x11:=x11) (x12:=x12) js (yy.set j q) (some (.int (j:Int))) s2 (fun i hi=>hj i (qaa _ hi)) (by simpa using hl) fun i=>by
    rw[jY (by ext)];split
    ·exact hq2
    ·exact hq i
   refine⟨yy',x10',s3,h1,h2,fun i hi=>?_,?_⟩
   ·rw[h3 i fun z=>hi (qaa _ z),jY (by ext),qay fun z=>hi (by simp[z])]
   ·have:j1B.p [some .pen,some (.int (n:Int)),x2,x3,x4,x5,x6,x7,some (lD yy),x9,some (.int (j:Int)),x11,x12] s=.nx [some .pen,some (.int (n:Int)),x2,x3,x4,x5,x6,x7,some (lD (yy.set j q)),x9,some (.int (j:Int)),x11,x12] s2:=by
     show (xIf _ _ _:Xd [4,6,8]).p _ _=_
     rw[cc,et,Pg,decide_eq_true e,qan rfl,mH,iB (v:=qD q) (s1:=s2) (j:=(j:Int)) (s2:=s2) (ds:=yy.map qD) (n:=j) (by
      simp![aE,ar,au,q2]) (by simp only[ak,am]) rfl (gw (by rw[qar];ext)),pW]
     rfl
    rw[this,PU.kH];exact h4
  ·obtain⟨yy',x10',s3,h1,h2,h3,h4⟩:=jl (x2:=x2) (x3:=x3) (x4:=x4) (x5:=x5) (x6:=x6) (x7:=x7) (x9:=x9) (x11:=x11) (x12:=x12) js yy (some (.int (j:Int))) s1 (fun i hi=>hj i (qaa _ hi)) hl hq;refine⟨yy',x10',s3,h1,h2,fun i hi=>h3 i fun z=>hi (qaa _ z),?_⟩
   have:j1B.p [some .pen,some (.int (n:Int)),x2,x3,x4,x5,x6,x7,some (lD yy),x9,some (.int (j:Int)),x11,x12] s=.nx [some .pen,some (.int (n:Int)),x2,x3,x4,x5,x6,x7,some (lD yy),x9,some (.int (j:Int)),x11,x12] s1:=by
    show (xIf _ _ _:Xd [4,6,8]).p _ _=_;rw[cc,et,Pg,decide_eq_false e,qay (by decide),ci]
   rw[this,PU.kH];exact h4
abbrev m1B:Xd [4,6,8]:=(aB (d7 8 (ai bW (bX (aa (aO (aa (xC (.int 0)) (aa (xC (.int 1)) xNil))) xNil)) (ab 1)))
 (aB (aS 9 (aq eP (aa (ab 0) (aa (ab 1) xNil))))
 (aB (gA 8 (ai oIx (bX (aa (ab 9) (aa (aO (aa (ai bN (xC (.int 1)) (aq aR (aa (ab 0) (aa (xC (.int 9)) xNil)))) (aa (xC (.int 1)) xNil))) xNil))) (xCb jZ (aa (ai oEq (ai oIx (ab 9) (xC (.int 0))) (xC (.int 0))) xNil))) (ai oIx (ab 3) (ab 5)))
 (aB (dg (bj (xSl (ab 3) xNo (xPt (ab 5)))) (xNm 10) j1B)
 (xMt fo 4 (aa (aO (aa (iW cz (aa (ab 1) (aa (ab 8) xNil))) (aa (aO (aa (xC (.int 0)) (aa (xC (.int 1)) xNil))) xNil))) xNil))))))
def xf{n:Nat}{xs:List Rat}:lend (pD (ofA n xs))=true:=by
 show lend (.tup _)=true
 have:∀ps:List Pt,flats (ps.map ptD)=true:=fun ps=>by
  induction ps with
  | nil=>rfl
  | cons p ps ih=>rw[qao,flats,ih];rfl
 simp[lend,flat,this]
def m1_turn{n k:Nat}{ps:List Nat}{rows:List Rw}{x2 x6 x7 x8 x9 x10 x11 x12:Option D}{s:Pen}(hn:n<=12)(hp:ps.length=n)(hlt:∀p∈ps,p<n)(nd:ps.Nodup)(hk:k<n)(hr:rows.length<=1000):∃(yy:List Rat) (x8' x9' x10':Option D) (s':Pen),yy.length=n/\(∀i,Qn n (yy.getD i 0))/\yy.getD (ps.getD k 0) 0≠0/\(∀i,i<n->i∉ps.take (k+1)->yy.getD i 0=0) /\
  m1B.p [some .pen,some (.int (n:Int)),x2,some (psI ps),some (rsD rows),some (.int (k:Int)),x6,x7,x8,x9,x10,x11,x12] s=.nx [some .pen,some (.int (n:Int)),x2,some (psI ps),some (rsD (rows++[(ofA n yy,0)])),some (.int (k:Int)),x6,x7,x8',x9',x10',x11,x12] s':=by
 have hk':k<ps.length:=by ext
 have hpk:ps.getD k 0=ps[k]:=by rw[qak,qaj hk'];rfl
 have hpn:ps[k]<n:=hlt _ (qaN hk');have e0:bW.p (.lst [.tup [.int 0,.int 1]]) (.int (n:Int))=some (lD (List.replicate n 0)):=rep_q (by ext);obtain⟨q,s1,q1,hq⟩:=of_p (n:=n) (s:=s);obtain⟨d,s2,d0,d1,q2⟩:=cv (s:=s1) (size:=9) (by decide) (by decide);have hc:∃c:Rat,c≠0/\Qn n c/\atI [qD q,.tup [.int (1+d),.int 1]] (if decide (q.num=0)=true then 1 else 0)=some (qD c):=by
  by_cases z:q.num=0
  ·refine⟨((1+d:Int):Rat),fun e=>?_,⟨?_,?_⟩,by rw[decide_eq_true z];rfl⟩
   ·have:(1+d:Int)=0:=by exact_mod_cast e
    ext
   ·show (1+d).natAbs<=Am n;unfold Am;split <;> ext
   ·show 1<=Em n;unfold Em;split <;> decide
  ·refine⟨q,fun e=>z (by rw[e];rfl),hq,by rw[decide_eq_false z];rfl⟩
 obtain⟨c,hc0,hcq,ec⟩:=hc;have l0:(List.replicate n (0:Rat)).length=n:=qbi;obtain⟨yy,x10',s3,h1,h2,h3,h4⟩:=jl (n:=n) (x2:=x2) (x3:=some (psI ps)) (x4:=some (rsD rows)) (x5:=some (.int (k:Int))) (x6:=x6) (x7:=x7) (x9:=some (qD q)) (x11:=x11) (x12:=x12) (ps.take k) ((List.replicate n 0).set ps[k] c) x10 s2 (fun j hj=>hlt j (List.mem_of_mem_take hj)) (by simp) fun i=>by
  rw[jY (by rw[l0];exact hpn),iC];split
  ·exact hcq
  ·exact tY
 have nk:ps[k]∉ps.take k:=fun z=>by
  obtain⟨i,hi,e⟩:=qbP.mp z;rw[qbf] at hi;rw[List.getElem_take] at e;exact List.pairwise_iff_getElem.mp nd i k (by ext) hk' (by ext) e
 have ix3:atI (ps.map fun (p:Nat)=>D.int (p:Int)) (k:Int)=some (.int ((ps[k]:Nat):Int)):=L2.cZ (by simp[hk']);have oa:=lN (n:=n) (xs:=yy) (s:=s3) (by ext) (by ext);refine⟨yy,some (lD yy),some (qD q),x10',s3,h1,h2,?_,fun i hi no=>?_,?_⟩
 ·rw[hpk,h3 _ nk,jY (by rw[l0];exact hpn),qan rfl];exact hc0
 ·rw[qaR hk',qaL,qav,not_or] at no;rw[h3 i no.1,jY (by rw[l0];exact hpn),qay no.2,iC]
 ·show ((aB _ _:Xd [4,6,8]).p _ _)=_;rw[aD,eJ];simp![aF,cA,bI,ar,aU,aM,au,qap,qaD,show (0+1+1:Nat)<=100000 by decide,show (0+1:Nat)<=100000 by decide,if_true,e0,Pf,Pg,gX,qag,qah,PU.ax];rw[aD,aV];simp![aE,ar,au,q1,Pg,qag,qah,PU.ax]
  rw[aD,mH,iB (v:=qD c) (s1:=s2) (j:=((ps[k]:Nat):Int)) (s2:=s2) (ds:=(List.replicate n (0:Rat)).map qD) (n:=ps[k]) (by
   simp![aF,cA,bI,ar,aU,aM,au,aE,q2,eG,Pf,qap,qaD,show (0+1+1:Nat)<=100000 by decide,if_true,ce,dm,z0,eT,cq,qaC,if_false,rc,cb,ec]) (by
   simp![aF,cb,ix3,Pf]) rfl (gw (by rw[qar,l0];exact hpn)),pW,PU.ax]
  rw[aD,cD];simp![bM,kr,kQ,kO,qag,qah,uz,cutn,Pf,bn,Pg];refine (congrArg (fun z:PS=>z.then _) h4).trans ?_
  rw[PU.ax,kD (s1:=s3) (as:=[rwD (ofA n yy,0)]) (ds:=rows.map rwD) (ds':=(rows++[(ofA n yy,0)]).map rwD) (r:=.non) (by
   simp![ar,bI,nM,au,oa,xf,if_true,aU,aM,qap,qaD,show (0+1+1:Nat)<=100000 by decide]
   rfl) rfl (by rw[kg (by simp;ext)];simp)]
  rfl
structure Sh (n:Nat) (D:Nat->Nat) (B:Nat) (r:Rw):Prop where
 ok:RowOk n r
 rt:r.2=0
 cl:∀j,j<n->Cl (D j) B (coef r.1 j)
def Sh.mono{n B C:Nat}{D:Nat->Nat}{r:Rw}(h:Sh n D B r)(hb:B<=C):Sh n D C r:=⟨h.ok,h.rt,fun j hj=>(h.cl j hj).mono hb⟩
def Sh.sz{n B k:Nat}{D:Nat->Nat}{r:Rw}(h:Sh n D B r)(hk:0<k)(hD:∀j,j<n->0<D j/\D j<2 ^ k)(hB:B<2 ^ k):∀p∈r.1,sz p.2<=k:=fun p hp=>by
 have:=h.cl p.1 (h.ok.lt p hp)
 rw[tJ h.ok.nd hp] at this;obtain⟨d0,d1⟩:=hD p.1 (h.ok.lt p hp);exact this.sz d0 hk d1 hB
abbrev Wh(u:Nat)(q:Rat):Prop:=∃z:Int,q=(z:Rat)/\z.natAbs<=u
def Wh.sz{q:Rat}(h:Wh 2 q):sz q<=2:=by
 obtain⟨z,rfl,hz⟩:=h;exact pS (by decide) (by show z.natAbs<4;ext) (by show 1<4;decide)
def td{n j:Nat}{rs:List Rw}{ms:List Rat}(ok:∀r∈rs,RowOk n r)(hj:j<n):coef (ofA n ((tog n rs ms).take n)) j=dot (mx rs ms j):=by
 rw[jo hj,take_at hj,qV ok hj]
def mx_cl{n j B u:Nat}{D:Nat->Nat}{rs:List Rw}{ms:List Rat}(h:∀r∈rs,Sh n D B r)(hu:∀q∈ms,Wh u q)(hj:j<n):Cl (D j) (rs.length * (B * u)) (dot (mx rs ms j)):=by
 have:=wn (D:=D j) (B:=B) (u:=u) (mx rs ms j) 0 0 (fun p hp=>by
  obtain⟨x,hx,rfl⟩:=qaF.mp hp;obtain⟨m1,m2⟩:=qbr hx
  exact⟨(h _ m1).cl j hj,hu _ m2⟩) Cl.zero
 refine this.mono ?_;rw[qbd];refine qaG _ ?_;unfold mx;rw[qar,qbt];ext
def qU{rs:List Rw}{ms:List Rat}(hl:rs.length<=16)(h:∀r∈rs,(∀p∈r.1,sz p.2<=194)/\r.2=0)(hm:∀q∈ms,Wh 2 q):TW (rs.zip ms)<=880000:=by
 have W:TW (rs.zip ms)<=rs.length * 197:=uQ fun r hr q hq=>cw_le (A:=194) (B:=2) (h r hr).1 (by rw[(h r hr).2,sz0];decide) (hm q hq).sz
 have:rs.length * 197<=16 * 197:=qaG _ hl
 ext
abbrev m2B:Xd [6,8]:=(aB (aS 11 (ai bN (bg 1 [0] (bj (ab 6)) (ws':=[]) (xNm 0) xTrue (aO (aa (ai eB (aq aR (aa (ab 1) (aa (xC (.int 3)) xNil))) (xC (.int 1))) (aa (xC (.int 1)) xNil)))) (bX (aa (aO (aa (xC (.int 1)) (aa (xC (.int 1)) xNil))) xNil))))
 (aB (aS 12 (aq bS (aa (ab 1) (aa (ai bN (ab 6) (bX (aa (ab 7) xNil))) (aa (ab 11) xNil)))))
 (xMt fo 6 (aa (aO (aa (aq cz (aa (ab 1) (aa (xSl (ab 12) xNo (xPt (ab 1))) xNil))) (aa (aO (aa (xC (.int 0)) (aa (xC (.int 1)) xNil))) xNil))) xNil))))
def m2_turn{n:Nat}{more:List Rw}{row:Rw}{x2 x3 x4 x5 x8 x9 x10 x11 x12:Option D}{s:Pen}(hn:n<=12)(hl:more.length<=15)(h:∀r∈more++[row],RowOk n r/\(∀p∈r.1,sz p.2<=194)/\r.2=0):∃(us:List Rat) (x11' x12':Option D) (s':Pen),us.length=more.length/\(∀q∈us,Wh 1 q) /\
  m2B.p [some .pen,some (.int (n:Int)),x2,x3,x4,x5,some (rsD more),some (rwD row),x8,x9,x10,x11,x12] s=.nx [some .pen,some (.int (n:Int)),x2,x3,x4,x5,some (rsD (more++[(ofA n ((tog n (more++[row]) (us++[1])).take n),0)])),some (rwD row),x8,x9,x10,x11',x12'] s':=by
 obtain⟨r,s1,q1,hl1,hr1⟩:=jS (ws:=[6,8]) (ws':=[]) (env:=[some .pen,some (.int (n:Int)),x2,x3,x4,x5,some (rsD more),some (rwD row),x8,x9,x10,x11,x12]) (s:=s) (s0:=s) (fm:=[0]) (i:=bj (ab 6))
  (e:=aO (aa (ai eB (aq aR (aa (ab 1) (aa (xC (.int 3)) xNil))) (xC (.int 1))) (aa (xC (.int 1)) xNil))) (ds:=more.map rwD) (fun y=>∃q:Rat,y=qD q/\Wh 1 q) (by
   simp![bM,bn,Pf]) (by simp;ext) (fun x hx s=>by
   obtain⟨d,s5,d0,d1,q5⟩:=cv (s:=s) (size:=3) (by decide) (by decide);refine⟨qD (((d - 1:Int):Int):Rat),s5,?_,_,rfl,d - 1,rfl,by ext⟩;show (aO _:Xe []).p [some x,some .pen] s=_;simp![bI,ar,aF,aE,aU,aM,au,q5,gu,Pf,qap,qaD,show (0+1+1:Nat)<=100000 by decide,if_true]
   rfl)
 obtain⟨us,e,hus⟩:=rG hr1;have hul:us.length=more.length:=by
  have:=congrArg List.length e
  rw[qar,hl1,qar] at this;exact this.symm
 subst e;have ok:∀r∈more++[row],RowOk n r:=fun r hr=>(h r hr).1;have wh:∀q∈us++[1],Wh 2 q:=fun q hq=>by
  rcases qaL.mp hq with hq|hq
  ·obtain⟨z,e,hz⟩:=hus q hq;exact⟨z,e,by ext⟩
  ·rw[qav.mp hq];exact⟨1,rfl,by decide⟩
 have tg:=jm (n:=n) (rs:=more++[row]) (ms:=us++[1]) (s:=s1) (by ext) (by simp;ext) (by simp[hul]) ok (qU (by simp;ext) (fun r hr=>(h r hr).2) wh);have oa:=lN (n:=n) (xs:=(tog n (more++[row]) (us++[1])).take n) (s:=s1) (by ext) (by rw[qbf,nZ];ext);have a1:bN.p (.lst (us.map qD)) (.lst [.tup [.int 1,.int 1]])=some (lD (us++[1])):=add_q (xs:=us) (y:=1) (by ext);have a2:bN.p (rsD more) (.lst [rwD row])=some (rsD (more++[row])):=by rw[kB (by simp;ext)];simp
 refine⟨us,some (lD (us++[1])),some (lD (tog n (more++[row]) (us++[1]))),s1,hul,hus,?_⟩;show ((aB _ _:Xd [6,8]).p _ _)=_;rw[aD,aV,aF,q1];dsimp![Pb,cA,bI,ar,aU,aM,au,qap,qaD,show (0+1+1:Nat)<=100000 by decide,show (0+1:Nat)<=100000 by decide,if_true,a1,Pf];rw[aD,aV];simp![aE,aF,cA,ar,au,qap,qaD,show (0+1:Nat)<=100000 by decide,if_true,a2,Pf,tg,Pg,qag,qah,PU.ax]
 rw[kD (s1:=s1) (as:=[rwD (ofA n ((tog n (more++[row]) (us++[1])).take n),0)]) (ds:=more.map rwD) (ds':=(more++[(ofA n ((tog n (more++[row]) (us++[1])).take n),0)]).map rwD) (r:=.non) (by
  simp![ar,bI,aE,kr,kQ,kO,au,uz,cutn,Pf,oa,aU,aM,qap,qaD,show (0+1+1:Nat)<=100000 by decide,if_true]
  rfl) rfl (by rw[kg (by simp;ext)];simp)]
 rfl
abbrev m3B:Xd [6,8]:=(aB (aS 11 (bg 1 [0] (bj (ab 6)) (ws':=[]) (xNm 0) xTrue (aO (aa (ai eB (aq aR (aa (ab 1) (aa (xC (.int 5)) xNil))) (xC (.int 2))) (aa (xC (.int 1)) xNil)))))
 (xMt fo 6 (aa (aO (aa (aq cz (aa (ab 1) (aa (xSl (iW bS (aa (ab 1) (aa (ab 6) (aa (ab 11) xNil)))) xNo (xPt (ab 1))) xNil))) (aa (aO (aa (xC (.int 0)) (aa (xC (.int 1)) xNil))) xNil))) xNil)))
def m3_turn{n:Nat}{more:List Rw}{x2 x3 x4 x5 x7 x8 x9 x10 x11 x12:Option D}{s:Pen}(hn:n<=12)(hl:more.length<=16)(h:∀r∈more,RowOk n r/\(∀p∈r.1,sz p.2<=194)/\r.2=0):∃(us:List Rat) (x11':Option D) (s':Pen),us.length=more.length/\(∀q∈us,Wh 2 q) /\
  m3B.p [some .pen,some (.int (n:Int)),x2,x3,x4,x5,some (rsD more),x7,x8,x9,x10,x11,x12] s=.nx [some .pen,some (.int (n:Int)),x2,x3,x4,x5,some (rsD (more++[(ofA n ((tog n more us).take n),0)])),x7,x8,x9,x10,x11',x12] s':=by
 obtain⟨r,s1,q1,hl1,hr1⟩:=jS (ws:=[6,8]) (ws':=[]) (env:=[some .pen,some (.int (n:Int)),x2,x3,x4,x5,some (rsD more),x7,x8,x9,x10,x11,x12]) (s:=s) (s0:=s) (fm:=[0]) (i:=bj (ab 6))
  (e:=aO (aa (ai eB (aq aR (aa (ab 1) (aa (xC (.int 5)) xNil))) (xC (.int 2))) (aa (xC (.int 1)) xNil))) (ds:=more.map rwD) (fun y=>∃q:Rat,y=qD q/\Wh 2 q) (by
   simp![bM,bn,Pf]) (by simp;ext) (fun x hx s=>by
   obtain⟨d,s5,d0,d1,q5⟩:=cv (s:=s) (size:=5) (by decide) (by decide);refine⟨qD (((d - 2:Int):Int):Rat),s5,?_,_,rfl,d - 2,rfl,by ext⟩;show (aO _:Xe []).p [some x,some .pen] s=_;simp![bI,ar,aF,aE,aU,aM,au,q5,gu,Pf,qap,qaD,show (0+1+1:Nat)<=100000 by decide,if_true]
   rfl)
 obtain⟨us,e,hus⟩:=rG hr1;have hul:us.length=more.length:=by
  have:=congrArg List.length e
  rw[qar,hl1,qar] at this;exact this.symm
 subst e;have ok:∀r∈more,RowOk n r:=fun r hr=>(h r hr).1;have tg:=jm (n:=n) (rs:=more) (ms:=us) (s:=s1) (by ext) (by ext) hul.symm ok (qU hl (fun r hr=>(h r hr).2) hus);have oa:=lN (n:=n) (xs:=(tog n more us).take n) (s:=s1) (by ext) (by rw[qbf,nZ];ext);refine⟨us,some (lD us),s1,hul,hus,?_⟩;show ((aB _ _:Xd [6,8]).p _ _)=_;rw[aD,aV,q1];dsimp![PU.ax]
 rw[kD (s1:=s1) (as:=[rwD (ofA n ((tog n more us).take n),0)]) (ds:=more.map rwD) (ds':=(more++[(ofA n ((tog n more us).take n),0)]).map rwD) (r:=.non) (by
  simp![ar,bI,aE,nM,kr,kQ,kO,au,tg,nY,uz,cutn,Pf,oa,aU,aM,qap,qaD,show (0+1+1:Nat)<=100000 by decide,if_true]
  rfl) rfl (by rw[kg (by simp;ext)];simp)]
 rfl
def fac:Nat->Nat
 | 0=>1
 | k+1=>(k+1) * fac k
def tO:∀k,0<fac k
 | 0=>Nat.one_pos
 | k+1=>Nat.mul_pos (qcE _) (tO k)
def qC{k m:Nat}(h:k<=m):fac k<=fac m:=by
 induction h with
 | refl=>exact qai _
 | @step m _ ih=>exact qaI ih (qbH _ (qcE _))
abbrev kap(n:Nat):Nat:=if n<=7 then 194 else 72
abbrev B0(n:Nat):Nat:=Am n * Em n ^ n
def big:∀n,n<13->32 ^ 4 * (fac n * B0 n)<2 ^ kap n/\Em n ^ n<2 ^ kap n:=by decide +kernel
abbrev Ki(n:Nat)(a b:List Rw):Prop:=∀F,LF n F->(∀r∈a,F (coef r.1)=0)->∀r∈b,F (coef r.1)=0
def step2{n k:Nat}{D:Nat->Nat}{B:Nat}{rows more:List Rw}{us:List Rat}(hk:k<rows.length)(hl:more.length=k)(hu:us.length=k)(hus:∀q∈us,Wh 1 q)(h1:∀r∈rows,Sh n D B r)(h2:∀r∈more,Sh n D (fac k * B) r)(h3:Ki n more (rows.take k)) :
  (∀r∈more++[(ofA n ((tog n (more++[rows[k]]) (us++[1])).take n),0)],Sh n D (fac (k+1) * B) r)/\Ki n (more++[(ofA n ((tog n (more++[rows[k]]) (us++[1])).take n),0)]) (rows.take (k+1)):=by
 have okm:∀r∈more++[rows[k]],RowOk n r:=fun r hr=>by
  rcases qaL.mp hr with hr|hr
  ·exact (h2 r hr).ok
  ·rw[qav.mp hr];exact (h1 _ (qaN hk)).ok
 have cj:∀j,j<n->coef (ofA n ((tog n (more++[rows[k]]) (us++[1])).take n)) j=dot (mx more us j)+coef rows[k].1 j * 1:=fun j hj=>by
  rw[td okm hj,mx_last (by rw[hl,hu])]
 refine⟨fun r hr=>?_,fun F f hF r hr=>?_⟩
 ·rcases qaL.mp hr with hr|hr
  ·exact (h2 r hr).mono (qaG _ (qC (qbR k)))
  ·rw[qav.mp hr];refine⟨kS,rfl,fun j hj=>?_⟩;show Cl (D j) _ (coef (ofA n _) j);rw[cj j hj];have c1:=mx_cl (j:=j) h2 hus hj;have c2:=(h1 _ (qaN hk)).cl j hj;rw[show coef rows[k].1 j * 1=coef rows[k].1 j by grind];refine (c1.add c2).mono ?_;rw[hl];show k * (fac k * B * 1)+B<=(k+1) * fac k * B
   have:=qaG B (tO k)
   rw[Nat.mul_one,qbK,Nat.add_mul,qcD];ext
 ·rw[qaR hk] at hr;have hm:∀r∈more,F (coef r.1)=0:=fun r hr=>hF r (qaV _ hr);rcases qaL.mp hr with hr|hr
  ·exact h3 F f hm r hr
  ·rw[qav.mp hr];have hn:=hF _ (qaq _ (qav.mpr rfl));have e:=f.loc (coef (ofA n ((tog n (more++[rows[k]]) (us++[1])).take n))) (fun j=>dot (mx more us j)+coef rows[k].1 j * 1) cj;rw[show coef ((ofA n ((tog n (more++[rows[k]]) (us++[1])).take n),(0:Rat)):Rw).1=coef (ofA n ((tog n (more++[rows[k]]) (us++[1])).take n)) from rfl,e,f.add] at hn;have z:F (fun j=>dot (mx more us j))=0:=(f.fold (more.zip us) (fun _=>0) fun p hp=>hm _ (qbr hp).1).trans f.zero;rw[z] at hn
   grind
def step3{n:Nat}{D:Nat->Nat}{B:Nat}{rows more:List Rw}{us:List Rat}(hl:more.length<=15)(hus:∀q∈us,Wh 2 q)(h2:∀r∈more,Sh n D B r)(h3:Ki n more rows) :
  (∀r∈more++[(ofA n ((tog n more us).take n),0)],Sh n D (32 * B) r)/\Ki n (more++[(ofA n ((tog n more us).take n),0)]) rows:=by
 refine⟨fun r hr=>?_,fun F f hF=>h3 F f fun r hr=>hF r (qaV _ hr)⟩;rcases qaL.mp hr with hr|hr
 ·exact (h2 r hr).mono (by ext)
 ·rw[qav.mp hr];refine⟨kS,rfl,fun j hj=>?_⟩;show Cl (D j) _ (coef (ofA n _) j);rw[td (fun r hr=>(h2 r hr).ok) hj];refine (mx_cl h2 hus hj).mono ?_
  have:more.length * (B * 2)<=15 * (B * 2):=qaG _ hl
  ext
def vM{n:Nat}{xs:List Rat}:∀(ps:List Pt) (a:Rat),(ps.map (·.1)).Nodup->(∀p∈ps,p.1<n)->ca a (prs ps xs)=a+sQ (List.range n) fun j=>coef ps j * xs.getD j 0
 | [],a,_,_=>by
  show a=_;rw[gx _ fun j _=>by show (0:Rat) * _=0;grind];grind
 | p::ps,a,nd,lt=>by
  rw[qao,qaP] at nd;have ih:=vM (n:=n) (xs:=xs) ps (a+p.2 * xs.getD p.1 0) nd.2 fun q hq=>lt q (qaa _ hq);have e:=qz (a:=1) (b:=p.2) (x:=coef ps) (y:=e1 p.1) (h:=fun j=>xs.getD j 0) (List.range n);rw[jV (f:=fun j=>e1 p.1 j * xs.getD j 0) (p:=p.1) qbN (qaK.mpr (lt p (by simp))) fun q _ ne=>by show (if q=p.1 then 1 else 0) * _=(0:Rat);rw[qay ne];grind] at e
  rw[gy (g:=fun j=>(1 * coef ps j+p.2 * e1 p.1 j) * xs.getD j 0) (List.range n) fun j _=>by
   rw[eL];by_cases z:p.1=j
   ·subst z;rw[qan rfl,fN nd.1];show p.2 * _=(1 * 0+p.2 * (if p.1=p.1 then 1 else 0)) * _;rw[qan rfl];grind
   ·rw[qay z];show coef ps j * _=(1 * coef ps j+p.2 * (if j=p.1 then 1 else 0)) * _;rw[qay fun q=>z q.symm];grind,e]
  show ca (a+p.2 * xs.getD p.1 0) (prs ps xs)=_;rw[ih];show _=a+(1 * _+p.2 * ((if p.1=p.1 then 1 else 0) * _));rw[qan rfl];grind
def gG:∀rs:List Rw,flats (rs.map rwD)=true
 | []=>rfl
 | r::rs=>by
  have fp:∀ps:List Pt,flats (ps.map ptD)=true:=fun ps=>by
   induction ps with
   | nil=>rfl
   | cons p ps ih=>rw[qao,flats,ih];rfl
  rw[qao,flats,gG rs];simp[rwD,flat,flats,fp]
def lend_rs{rs:List Rw}:lend (rsD rs)=true:=gG rs
def u8{n:Nat}{q:Rat}(h:Qn n q):sz q<=21:=by
 obtain⟨h1,h2⟩:=h;have a:Am n<=2 ^ 20:=by unfold Am;split <;> decide
 have b:Em n<=2 ^ 20:=by unfold Em;split <;> decide
 exact pS (by decide) (by ext) (by ext)
structure Md (n:Nat) (xs:List Rat) (rs:List Rw):Prop where
 len:rs.length<=n+4
 row:∀r∈rs,RowOk n r
 sz:∀r∈rs,∀p∈r.1,sz p.2<=kap n
 rt:∀r∈rs,r.2=dot (prs r.1 xs)
 gen:Gen n rs
def made_p{n:Nat}{xs:List Rat}{s:Pen}(hn:n<=12)(hx:xs.length=n)(hq:∀i,Qn n (xs.getD i 0)):∃(rs:List Rw) (s':Pen),lL.p [.pen,.int (n:Int),lD xs] s=.ok (rsD rs) s'/\Md n xs rs:=by
 obtain⟨ps,s1,q1,hps⟩:=vt (f:=fun (p:Nat)=>D.int (p:Int)) (l:=List.range n) (s:=s) (by simp;ext);have hpl:ps.length=n:=by rw[hps.length_eq,qce]
 have hpm:∀p,p∈ps↔p<n:=fun p=>by rw[hps.mem_iff,qaK]
 have nd:ps.Nodup:=hps.nodup_iff.mpr qbN;obtain⟨env1,s2,er1,rows,x5,x8,x9,x10,hl1,hr1,hk1,rfl⟩:=eM (g:=(xNm 5:Xg [4,6,8]).p) (b:=m1B.p)
  (fun k env s=>∃(rows:List Rw) (x5 x8 x9 x10:Option D),rows.length=k/\(∀r∈rows,RowOk n r/\r.2=0/\∀j,j<n->Qn n (coef r.1 j))/\(∀F,LF n F->(∀r∈rows,F (coef r.1)=0)->∀q∈ps.take k,F (e1 q)=0)/\env=[some .pen,some (.int (n:Int)),some (lD xs),some (psI ps),some (rsD rows),x5,none,none,x8,x9,x10,none,none])
  (dM 0 n) 0 [some .pen,some (.int (n:Int)),some (lD xs),some (psI ps),some (rsD []),none,none,none,none,none,none,none,none] s1 ⟨[],none,none,none,none,rfl,by simp,by simp,rfl⟩ fun k env s d ⟨rows,x5,x8,x9,x10,hl,hr,hk,he⟩ hd=>by
   subst he;rw[qbd] at hl hk ⊢;obtain⟨rfl,hkn⟩:=jk hd;obtain⟨yy,x8',x9',x10',s',h1,h2,h3,h4,q⟩:=m1_turn (k:=k) (ps:=ps) (rows:=rows) (x2:=some (lD xs)) (x6:=none) (x7:=none) (x8:=x8) (x9:=x9) (x10:=x10) (x11:=none) (x12:=none) (s:=s) hn hpl (fun p hp=>(hpm p).mp hp) nd hkn (by ext);refine⟨_,_,s',rfl,q,rows++[(ofA n yy,0)],some (.int (k:Int)),x8',x9',x10',by simp[hl],fun r hr'=>?_,fun F f hF=>?_,rfl⟩
   ·rcases qaL.mp hr' with hr'|hr'
    ·exact hr r hr'
    ·rw[qav.mp hr'];exact⟨kS,rfl,fun j hj=>by show Qn n (coef (ofA n yy) j);rw[jo hj];exact h2 j⟩
   ·have hk':k<ps.length:=by ext
    have hpk:ps.getD k 0=ps[k]:=by rw[qak,qaj hk'];rfl
    have hpn:ps[k]<n:=(hpm _).mp (qaN hk');rw[hpk] at h3;exact f.new (x:=coef (ofA n yy)) hk' (by rw[jo hpn];exact h3) (fun j hj no=>by rw[jo hj];exact h4 j hj no) (hk F f fun r hr=>hF r (qaV _ hr)) (hF _ (qaq _ (qav.mpr rfl)))
 rw[qbd,fj] at hl1 hk1;obtain⟨bg1,bg2⟩:=big n (by ext);have kp:0<kap n/\kap n<=194:=by unfold kap;split <;> decide
 have dnl:∀j,j<n->dn rows j<=Em n ^ n:=fun j hj=>by
  have:=dn_le (j:=j) (E:=Em n) (rs:=rows) fun r hr=>((hr1 r hr).2.2 j hj).2
  rwa [hl1] at this
 have hD:∀j,j<n->0<dn rows j/\dn rows j<2 ^ kap n:=fun j hj=>⟨re rows,qbo (dnl j hj) bg2⟩;have sh1:∀r∈rows,Sh n (dn rows) (B0 n) r:=fun r hr=>⟨(hr1 r hr).1,(hr1 r hr).2.1,fun j hj=>(cl_of (vO hr) (re rows)).mono (qbI ((hr1 r hr).2.2 j hj).1 (dnl j hj))⟩;have fB:∀k,k<=n->fac k * B0 n<=fac n * B0 n:=fun k hk=>qaG _ (qC hk);have wide:∀{B:Nat} {r:Rw},B<=32 ^ 4 * (fac n * B0 n)->Sh n (dn rows) B r->RowOk n r/\(∀p∈r.1,sz p.2<=194)/\r.2=0:=fun hB h=>⟨h.ok,fun p hp=>by have:=h.sz kp.1 hD (by ext) p hp;ext,h.rt⟩;obtain⟨env2,s3,er2,more2,x7,x11,x12,hl2,hs2,hk2,rfl⟩:=eM (g:=(xNm 7:Xg [6,8]).p) (b:=m2B.p)
  (fun k env s=>∃(more:List Rw) (x7 x11 x12:Option D),more.length=k/\(∀r∈more,Sh n (dn rows) (fac k * B0 n) r)/\Ki n more (rows.take k)/\env=[some .pen,some (.int (n:Int)),some (lD xs),some (psI ps),some (rsD rows),x5,some (rsD more),x7,x8,x9,x10,x11,x12])
  (rows.map rwD) 0 [some .pen,some (.int (n:Int)),some (lD xs),some (psI ps),some (rsD rows),x5,some (rsD []),none,x8,x9,x10,none,none] s2 ⟨[],none,none,none,rfl,by simp,fun _ _ _ r hr=>by simp at hr,rfl⟩ fun k env s d ⟨more,x7,x11,x12,hl,hs,hk,he⟩ hd=>by
   subst he;rw[qbd] at hl hs hk ⊢;rw[qax,qaB] at hd;obtain⟨r,hr,rfl⟩:=hd;obtain⟨hkr,rfl⟩:=qaf.mp hr;obtain⟨us,x11',x12',s',u1,u2,q⟩:=m2_turn (n:=n) (more:=more) (row:=rows[k]) (x2:=some (lD xs)) (x3:=some (psI ps)) (x4:=some (rsD rows)) (x5:=x5) (x8:=x8) (x9:=x9) (x10:=x10) (x11:=x11) (x12:=x12) (s:=s) hn (by ext) fun r hr=>by
    rcases qaL.mp hr with hr|hr
    ·exact wide (by have:=fB k (by ext);ext) (hs r hr)
    ·rw[qav.mp hr];exact wide (by have:=fB 0 (by ext);simp only[fac,Nat.one_mul] at this ⊢;ext) (sh1 _ (qaN hkr))
   obtain⟨a1,a2⟩:=step2 hkr hl (by ext) u2 sh1 hs hk;exact⟨_,_,s',rfl,q,_,_,x11',x12',by simp[hl],a1,a2,rfl⟩
 rw[qbd,qar,hl1] at hl2 hs2 hk2;rw[qaZ (by ext)] at hk2;obtain⟨c,s4,c0,c1,q4⟩:=cv (s:=s3) (size:=5) (by decide) (by decide);obtain⟨c,rfl⟩:=jM c0;have pw:∀e,e<=4->32 ^ e * (fac n * B0 n)<=32 ^ 4 * (fac n * B0 n):=fun e he=>qaG _ (qaX (by decide) he);obtain⟨env3,s5,er3,more,y5,y11,hl3,hs3,hk3,rfl⟩:=eM (g:=(xNm 5:Xg [6,8]).p) (b:=m3B.p)
  (fun e env s=>∃(more:List Rw) (x5 x11:Option D),more.length=n+e/\(∀r∈more,Sh n (dn rows) (32 ^ e * (fac n * B0 n)) r)/\Ki n more rows/\env=[some .pen,some (.int (n:Int)),some (lD xs),some (psI ps),some (rsD rows),x5,some (rsD more),x7,x8,x9,x10,x11,x12])
  (dM 0 c) 0 [some .pen,some (.int (n:Int)),some (lD xs),some (psI ps),some (rsD rows),x5,some (rsD more2),x7,x8,x9,x10,x11,x12] s4 ⟨more2,x5,x11,hl2,fun r hr=>by rw[Nat.pow_zero,Nat.one_mul];exact hs2 r hr,hk2,rfl⟩ fun e env s d ⟨more,x5,x11,hl,hs,hk,he⟩ hd=>by
   subst he;rw[qbd] at hl hs ⊢;obtain⟨rfl,hec⟩:=jk hd;obtain⟨us,x11',s',u1,u2,q⟩:=m3_turn (n:=n) (more:=more) (x2:=some (lD xs)) (x3:=some (psI ps)) (x4:=some (rsD rows)) (x5:=some (.int (e:Int))) (x7:=x7) (x8:=x8) (x9:=x9) (x10:=x10) (x11:=x11) (x12:=x12) (s:=s) hn (by ext) fun r hr=>wide (pw e (by ext)) (hs r hr);obtain⟨a1,a2⟩:=step3 (rows:=rows) (by ext) u2 hs hk;refine⟨_,_,s',rfl,q,_,_,x11',by simp[hl];ext,fun r hr=>?_,a2,rfl⟩
   have:=a1 r hr
   rwa [<-qcD,show 32 * 32 ^ e=32 ^ (e+1) by rw[qbX,qbL]] at this
 rw[qbd,fj] at hl3 hs3;obtain⟨l',s6,q6,hpm6⟩:=vt (f:=rwD) (l:=more) (s:=s5) (by ext);have mem6:∀r,r∈l'↔r∈more:=fun r=>hpm6.mem_iff;have shl:∀r∈l',RowOk n r/\∀p∈r.1,sz p.2<=kap n:=fun r hr=>by
  have:=hs3 r ((mem6 r).mp hr)
  exact⟨this.ok,this.sz kp.1 hD (by have:=pw c (by ext);ext)⟩
 have lpr:∀r∈l',r.1.length<=n:=fun r hr=>by
  have h:=(shl r hr).1
  have:=List.Nodup.length_le_of_subset h.nd (l₂:=List.range n) fun p hp=>by
   obtain⟨q,hq,rfl⟩:=qaF.mp hp;exact qaK.mpr (h.lt q hq)
  simpa using this
 have c2:=mJ (ws:=[6,8]) (ws':=[]) (env:=[some .pen,some (.int (n:Int)),some (lD xs),some (psI ps),some (rsD rows),y5,some (rsD more),x7,x8,x9,x10,y11,x12]) (s:=s6) (s0:=s5) (fm:=[2]) (i:=bj (iW dr (aa (ab 0) (aa (ab 6) xNil)))) (t:=xTrue) (e:=aO (aa (ab 0) (aa (aq hZ (aa (ab 0) (aa (ab 2) xNil))) xNil))) (l:=l') (fun r=>pD r.1) (fun r=>qD r.2) (fun r=>rwD (r.1,dot (prs r.1 xs))) (fun _=>true)
  (by simp![bM,nM,ar,au,q6,lend_rs,if_true,bn,Pf]) (by rw[hpm6.length_eq];ext) fun r hr=>⟨rfl,fun _=>by
   have ht:tot (prs r.1 xs)<=12 * 216:=wL (by unfold prs;rw[qar];have:=lpr r hr;ext) fun p hp=>by
    obtain⟨a,ha,rfl⟩:=qaF.mp hp;have h1:=(shl r hr).2 a ha;have h2:=u8 (hq a.1);show sz a.2+sz (xs.getD a.1 0)+1<=216;ext
   have cm:=comes_p (ps:=r.1) (xs:=xs) (s:=s6) (fun p hp=>by rw[hx];exact (shl r hr).1.lt p hp) (by ext);show (aO _:Xe []).p [some (pD r.1),some (qD r.2),some (lD xs)] s6=_
   simp![bI,ar,aE,au,cm,qap,qaD,show (0+1+1:Nat)<=100000 by decide,if_true]⟩
 refine⟨l'.map fun r=>(r.1,dot (prs r.1 xs)),s6,?_,?_⟩
 ·rw[vC (by rfl)];unfold lS;rw[show dSt 13 [D.pen,.int (n:Int),lD xs]=[some .pen,some (.int (n:Int)),some (lD xs),none,none,none,none,none,none,none,none,none,none] from rfl];have lr:cLR.p [.int (n:Int)]=some (.lst ((List.range n).map fun (p:Nat)=>D.int (p:Int))):=by
   show (if -100000<=(n:Int)/\(n:Int)<=100000 then some (D.lst (dM 0 (n:Int).toNat)) else none)=_;rw[qan ⟨by ext,by ext⟩,qaH,eE]
  rw[aD,aV];simp![aE,ar,ce,au,lr,Pf,q1,Pg,qag,qah,PU.ax];rw[aD,eJ];dsimp![cA,au,Pb,qaD,qbj,if_true,gX];rw[aD,cD,cx];simp![ar,au];rw[d3 (by ext),qaH,Pf,Pg];refine (congrArg (fun z:PS=>(z.then _).fin) er1).trans ?_;rw[PU.ax,aD,eJ];dsimp![cA,au,Pb,qaD,qbj,if_true,gX];refine (congrArg (fun z:PS=>z.fin) (xFz_p (x:=rsD rows) (d:=rsD (l'.map fun r=>(r.1,dot (prs r.1 xs)))) (s':=s6) rfl ?_)).trans rfl;rw[aD,cD];simp![bM,bn,Pf,Pg];refine (congrArg (fun z:PS=>z.then _) er2).trans ?_;rw[PU.ax,aD,cD,cx];simp![aE,ar,aU,aM,au,q4];rw[d3 (by ext),qaH,Pf,Pg];refine (congrArg (fun z:PS=>z.then _) er3).trans ?_;rw[PU.ax,bC,c2];simp only[bu,Pg];show _=PS.rt (.lst ((l'.map fun r=>(r.1,dot (prs r.1 xs))).map rwD)) s6;rw[qaJ];rfl
 ·refine⟨by rw[qar,hpm6.length_eq];ext,fun r hr=>?_,fun r hr=>?_,fun r hr=>?_,fun F fa fl hF j hj=>?_⟩
  ·obtain⟨x,hx',rfl⟩:=qaF.mp hr;exact⟨(shl x hx').1.nd,(shl x hx').1.lt⟩
  ·obtain⟨x,hx',rfl⟩:=qaF.mp hr;exact (shl x hx').2
  ·obtain⟨x,hx',rfl⟩:=qaF.mp hr;rfl
  ·have f:LF n F:=⟨fa,fl⟩
   have:=hk1 F f (hk3 F f fun r hr=>hF (r.1,dot (prs r.1 xs)) (qaF.mpr ⟨r,(mem6 r).mpr hr,rfl⟩)) j (by rw[qaZ (by ext)];exact (hpm j).mpr hj)
   exact this
structure Tn (n:Nat) (xs:List Rat) (rs:List Rw):Prop where
 n7:n<=7\/n=12
 xl:xs.length=n
 xq:∀i,Qn n (xs.getD i 0)
 md:Md n xs rs
def Tn.n12{n:Nat}{xs:List Rat}{rs:List Rw}(t:Tn n xs rs):n<=12:=by have:=t.n7;ext
def Tn.parts{n:Nat}{xs:List Rat}{rs:List Rw}(t:Tn n xs rs){r:Rw}(hr:r∈rs):r.1.length<=n:=by
 have h:=t.md.row r hr
 have:=List.Nodup.length_le_of_subset h.nd (l₂:=List.range n) fun p hp=>by
  obtain⟨q,hq,rfl⟩:=qaF.mp hp;exact qaK.mpr (h.lt q hq)
 simpa using this
def Tn.right{n c k:Nat}{xs:List Rat}{rs:List Rw}(t:Tn n xs rs)(hk:kap n<=k)(hc:∀i,sz (xs.getD i 0)<=c){r:Rw}(hr:r∈rs):sz r.2<=1+n * (k+c+1):=by
 rw[t.md.rt r hr]
 have:=wL (l:=prs r.1 xs) (c:=k+c+1) (m:=n) (by unfold prs;rw[qar];exact t.parts hr) fun p hp=>by
  obtain⟨a,ha,rfl⟩:=qaF.mp hp;have h1:=t.md.sz r hr a ha;have h2:=hc a.1;show sz a.2+sz (xs.getD a.1 0)+1<=_;ext
 have h2:=sz_dot (prs r.1 xs);ext
def coef_sz{r:Rw}{j B:Nat}(hB:1<=B)(h:∀p∈r.1,sz p.2<=B):sz (coef r.1 j)<=B:=by
 rcases my (ps:=r.1) (j:=j) with e|⟨p,hp,e⟩
 ·rw[e,sz0];exact hB
 ·rw[e];exact h p hp
def vL{B:Nat}:∀{qs:List Rat},(∀q∈qs,sz q<=B)->szs qs<=qs.length * B
 | [],_=>by simp[szs]
 | q::qs,h=>by
  have:=vL (qs:=qs) fun r hr=>h r (qaa _ hr)
  have h1:=h q (by simp);rw[lI,qap,qbK];ext
def szs_app(a b:List Rat):szs (a++b)=szs a+szs b:=by simp[szs]
def qg{n k c:Nat}{r:Rw}(hk:1<=k)(h:∀p∈r.1,sz p.2<=k)(hr:sz r.2<=c):szs (nums n r)<=n * k+c:=by
 unfold nums;rw[szs_app]
 have:=vL (B:=k) (qs:=(List.range n).map (coef r.1)) fun q hq=>by
  obtain⟨j,_,rfl⟩:=qaF.mp hq;exact coef_sz hk h
 rw[qar,qce] at this;have e:szs [r.2]=sz r.2:=by simp[szs]
 ext
def Tn.sizes{n:Nat}{xs:List Rat}{rs:List Rw}(t:Tn n xs rs):(∀r∈rs,(∀p∈r.1,sz p.2<=1513)/\sz r.2<=1513)/\∃m,RsOk n m rs/\2+(n+1) * (4+2 * m)<=46594:=by
 rcases t.n7 with h7|rfl
 ·have hk:kap n=194:=qan h7;have hr:∀r∈rs,sz r.2<=1513:=fun r hr=>by
   have:=t.right (k:=194) (c:=21) (by ext) (fun i=>u8 (t.xq i)) hr
   have:n * (194+21+1)<=7 * (194+21+1):=qaG _ h7
   ext
  have hs:∀r∈rs,∀p∈r.1,sz p.2<=194:=fun r hr p hp=>by have:=t.md.sz r hr p hp;ext
  refine⟨fun r hr'=>⟨fun p hp=>by have:=hs r hr' p hp;ext,hr r hr'⟩,2872,⟨t.md.row,fun r hr'=>?_⟩,?_⟩
  ·have:=qg (n:=n) (k:=194) (by decide) (hs r hr') (hr r hr')
   have:n * 194<=7 * 194:=qaG _ h7
   ext
  ·have:(n+1) * (4+2 * 2872)<=8 * (4+2 * 2872):=qaG _ (by ext)
   ext
 ·have hr:∀r∈rs,sz r.2<=925:=fun r hr=>by
   have:=t.right (k:=72) (c:=4) (qai _) (fun i=>by
    obtain⟨h1,h2⟩:=t.xq i;have h1:_<=9:=h1;have h2:_<=3:=h2
    exact pS (by decide) (by ext) (by ext)) hr
   ext
  have hs:∀r∈rs,∀p∈r.1,sz p.2<=72:=fun r hr p hp=>t.md.sz r hr p hp;refine⟨fun r hr'=>⟨fun p hp=>by have:=hs r hr' p hp;ext,by have:=hr r hr';ext⟩,1790,⟨t.md.row,fun r hr'=>?_⟩,by decide⟩
  have:=qg (n:=12) (k:=72) (by decide) (hs r hr') (hr r hr')
  ext
def yB{xs:List Rat}:(List.range xs.length).map (fun j=>xs.getD j 0)=xs:=by
 apply qcm
 ·simp
 ·intro i h1 h2;rw[qcn,qbY,qak,qaj h2];rfl
abbrev onD(n:Nat)(xs:List Rat)(mf:Nat->List Rat):D:=.tup [.str "one",lD xs,.lst ((List.range n).map fun p=>lD (mf p))]
def Tn.one{n:Nat}{xs:List Rat}{rs:List Rw}{s:Pen}(t:Tn n xs rs):∃mf:Nat->List Rat,cG.p [.int (n:Int),rsD rs] s=.ok (onD n xs mf) s/\∀s,bV.p [.int (n:Int),rsD rs,.lst [],.lst ((List.range n).map fun p=>lD (mf p))] s=.ok (.bl true) s:=by
 obtain⟨hs,m,ok,hm⟩:=t.sizes;have n12:=t.n12;have hl:=t.md.len
 obtain⟨mf,h,q⟩:=u5 (X:=fun j=>xs.getD j 0) (s:=s) n12 (by ext) ok (by ext) (fun r hr=>by
  rw[t.md.rt r hr];show ca 0 (prs r.1 xs)=_
  rw[vM (n:=n) r.1 0 (t.md.row r hr).nd (t.md.row r hr).lt];grind) t.md.gen
 have hx:(List.range n).map (fun j=>xs.getD j 0)=xs:=by rw[<-t.xl];exact yB
 rw[hx] at q;refine⟨mf,q,fun _=>pE (by ext) (by ext) t.md.row fun p hp=>?_⟩;obtain⟨h1,h2,h3⟩:=h p hp;refine⟨h1,fun x hx=>by have:=h2 x hx;ext,?_,h3⟩;have W:TW (rs.zip (mf p))<=rs.length * 48108:=uQ fun r hr q hq=>by
  have:=cw_le (m:=q) (A:=1513) (B:=46594) (hs r hr).1 (hs r hr).2 (by have:=h2 q hq;ext)
  ext
 have:rs.length * 48108<=16 * 48108:=qaG _ (by ext)
 ext
def xn{k:Nat}:dP k (.str "one"):=⟨_,rfl,by simp[dep],by decide +kernel,by simp[PyData.depth]⟩
def t5{xs:List Rat}:dP 60 (.tup [.str "one",lD xs]):=gB (k:=59) fun d hd=>by
 rcases qam.mp hd with rfl|hd
 ·exact xn
 ·rw[qav.mp hd];exact ot (k:=57)
def nice_rs{rs:List Rw}:dP 60 (rsD rs):=qT (k:=59) fun d hd=>by
 obtain⟨r,_,rfl⟩:=qaF.mp hd;refine gB (k:=58) fun d hd=>?_;rcases qam.mp hd with rfl|hd
 ·refine gB (k:=57) fun d hd=>?_;obtain⟨p,_,rfl⟩:=qaF.mp hd;refine gB (k:=56) fun d hd=>?_;rcases qam.mp hd with rfl|hd
  ·exact rN
  ·rw[qav.mp hd];exact jJ (k:=55)
 ·rw[qav.mp hd];exact jJ (k:=57)
def sl2{a b c:D}:slD (.tup [a,b,c]) none (some 2)=some (.tup [a,b]):=rfl
def t0{a b c:D}:atI [a,b,c] 0=some a:=rfl
def t1{a b c:D}:atI [a,b,c] 1=some b:=rfl
def t2{a b c:D}:atI [a,b,c] 2=some c:=rfl
abbrev MrOk(n:Nat)(rs:List Rw)(mf:Nat->List Rat):Prop:=∀s,bV.p [.int (n:Int),rsD rs,.lst [],.lst ((List.range n).map fun p=>lD (mf p))] s=.ok (.bl true) s
def an_p{n:Nat}{xs:List Rat}{rs:List Rw}{x0 x1 x4 x5 x7 x8:Option D}{s:Pen}(t:Tn n xs rs):∃mf,qm.p [x0,x1,some .pen,some (.int (n:Int)),x4,x5,some (rsD rs),x7,x8] s=.nx [x0,x1,some .pen,some (.int (n:Int)),x4,x5,some (rsD rs),some (onD n xs mf),x8] s/\MrOk n rs mf:=by
 obtain⟨mf,q,h⟩:=t.one (s:=s);refine⟨mf,?_,h⟩;unfold qm;simp![aV,aE,ar,au,q,Pg,qag,qah]
def iff_p{n:Nat}{xs:List Rat}{rs:List Rw}{mf:Nat->List Rat}{x0 x1 x8:Option D}{s:Pen}(t:Tn n xs rs)(h:MrOk n rs mf):fD.p [x0,x1,some .pen,some (.int (n:Int)),some (lD xs),some (rsD rs),some (rsD rs),some (onD n xs mf),x8] s=.nx [x0,x1,some .pen,some (.int (n:Int)),some (lD xs),some (rsD rs),some (rsD rs),some (onD n xs mf),x8] s:=by
 have nb:=o7 (qs:=xs) (s:=s) (by rw[t.xl];have:=t.n12;ext) fun q hq=>by
  obtain⟨i,hi,rfl⟩:=qbP.mp hq
  have:=u8 (t.xq i)
  rw[qak,qaj hi] at this;have this:sz xs[i]<=21:=this;ext
 rw[t.xl] at nb;have n1:=og (t5 (xs:=xs));have n2:=og (nice_rs (rs:=rs));have hh:=h s;unfold fD;rw[aD,cc];simp![ku,gH,cF,nt,mE,wk,qbs,Pf,PR.bl,aF,kr,kQ,kO,aU,aM,mO,sl2,bI,ar,au,qap,qaD,show (0+1+1:Nat)<=100000 by decide,if_true,gh,n1,ce,wC,cq,n2,show (["tuple"].any (fk "tuple"))=true from rfl,show ((((0+1+1+1:Nat):Nat):Int)=3)=True from eq_true rfl,decide_true,qbv,qaC,if_false,Pg,ci,PU.ax];rw[cc];simp![ku,gH,cF,aE,ar,aF,aU,aM,dm,t1,t2,Pf,au,nb,PR.bl,qbv,qaC,if_false,cA,qaD,qbj,if_true,hh,Pg,ci]
def po_p{n:Nat}{xs:List Rat}{rs:List Rw}{x0 x1 x6 x7 x8:Option D}{s:Pen}(t:Tn n xs rs):∃x8',rl.p [x0,x1,some .pen,some (.int (n:Int)),some (lD xs),some (rsD rs),x6,x7,x8] s=.nx [x0,x1,some .pen,some (.int (n:Int)),some (lD xs),some (rsD rs),x6,x7,x8'] s:=by
 obtain⟨mf,q,h⟩:=t.one (s:=s);have hl:=t.md.len;have n12:=t.n12;have n1:=og (t5 (xs:=xs));have hh:=h s;refine⟨some (onD n xs mf),?_⟩;unfold rl;rw[aD,aV];simp![aE,ar,ce,au,cList_l (show (rs.map rwD).length<=100000 by simp;ext),Pf,q,Pg,qag,qah,PU.ax];rw[cc];simp![ku,gH,cF,aF,kr,kQ,kO,aU,aM,mO,sl2,Pf,bI,ar,au,qap,qaD,show (0+1+1:Nat)<=100000 by decide,if_true,gh,n1,PR.bl,qaC,if_false,aE,cA,qbj,dm,t2,hh,qbv,Pg,ci]
def pre_p{s:Pen}:∃(n:Nat) (xs:List Rat) (rs:List Rw) (s':Pen),jq.p [none,none,some .pen,none,none,none,none,none,none] s=.nx [none,none,some .pen,some (.int (n:Int)),some (lD xs),some (rsD rs),none,none,none] s'/\Tn n xs rs:=by
 obtain⟨a,s1,a0,a1,q1⟩:=cv (s:=s) (size:=8) (by decide) (by decide);obtain⟨a,rfl⟩:=jM a0;obtain⟨b,s2,b0,b1,q2⟩:=cv (s:=s1) (size:=8) (by decide) (by decide);have hn:∃n:Nat,(n<=7\/n=12)/\atI [D.int (a:Int),.int 12] (if decide (b=7)=true then 1 else 0)=some (.int (n:Int)):=by
  by_cases z:b=7
  ·exact⟨12,.inr rfl,by rw[decide_eq_true z];rfl⟩
  ·exact⟨a,.inl (by ext),by rw[decide_eq_false z];rfl⟩
 obtain⟨n,h7,en⟩:=hn;obtain⟨r4,s3,q3,hl3,hr3⟩:=jS (ws:=[]) (ws':=[]) (env:=[none,none,some .pen,some (.int (n:Int)),none,none,none,none,none]) (s:=s2) (s0:=s2) (fm:=[2,3]) (i:=bO iR1 (aa (ab 3) xNil))
  (e:=aq eP (aa (ab 1) (aa (ab 2) xNil))) (ds:=dM 0 n) (fun y=>∃q:Rat,y=qD q/\Qn n q) (by
   simp![cx,ar,au]
   rw[d3 (by ext),qaH];rfl) (by rw[fj];ext) (fun x hx s=>by
   obtain⟨q,s5,q5,hq⟩:=of_p (n:=n) (s:=s);refine⟨qD q,s5,?_,q,rfl,hq⟩;show (aq eP _:Xe []).p [some x,some .pen,some (.int (n:Int))] s=_
   simp![aE,ar,au,q5])
 obtain⟨xs,e4,hxs⟩:=rG hr3;have hxl:xs.length=n:=by
  have:=congrArg List.length e4
  rw[qar,hl3,fj] at this;exact this.symm
 subst e4;have hxq:∀i,Qn n (xs.getD i 0):=fun i=>by
  rw[qak]
  cases e:xs[i]? with
  | none=>exact tY
  | some q=>exact hxs q (qbq e)
 obtain⟨rs,s4,q4,md⟩:=made_p (s:=s3) (by ext) hxl hxq;refine⟨n,xs,rs,s4,?_,h7,hxl,hxq,md⟩;unfold jq;rw[aD,aV];simp![aF,cA,aE,ar,aU,aM,au,q1,qap,qaD,show (0+1+1:Nat)<=100000 by decide,if_true,ce,q2,eT,cq,qaC,if_false,Pf,rc,cb,en,Pg,qag,qah,PU.ax];rw[aD,aV,q3];dsimp![PU.ax];rw[aV];simp![aE,ar,au,q4,Pg,qag,qah]
def half:Rat:=⟨1,2,by decide,by decide⟩
def rn:(2:Rat) * half=1:=by decide +kernel
def tail_p{s:Pen}:jR.p [none,none,none,none,none,none,none,none,none] s=.rt (.bl true) s:=by
 obtain⟨mf0,_,a0⟩:=u5 (n:=0) (m:=100) (rs:=[]) (X:=fun _=>0) (s:=s) (by decide) (by decide) ⟨by simp,by simp⟩ (by decide) (by simp) fun F _ _ _ j hj=>by ext
 have a0:cG.p [.int 0,.lst []] s=.ok (.tup [.str "one",.lst [],.lst []]) s:=a0;have ok1:RsOk 1 100 [([(0,2)],1)]:=⟨fun r hr=>by rw[qav.mp hr];exact⟨by simp,by simp⟩,fun r hr=>by rw[qav.mp hr];decide +kernel⟩;have c0:coef [(0,(2:Rat))] 0=2:=rfl
 obtain⟨mf,hm,a1⟩:=u5 (n:=1) (m:=100) (rs:=[([(0,2)],1)]) (X:=fun _=>half) (s:=s) (by decide) (by decide) ok1 (by decide) (fun r hr=>by
  rw[qav.mp hr];show (1:Rat)=2 * half+0
  rw[rn];grind) fun F fa fl hF j hj=>by
   have f:LF 1 F:=⟨fa,fl⟩
   have:=f.new (ps:=[0]) (k:=0) (x:=coef [(0,2)]) (by decide) (by show coef [(0,(2:Rat))] 0≠0;rw[c0];decide) (fun j hj no=>absurd (by simp;ext) no) (by simp) (hF _ (qav.mpr rfl)) j (by simp;ext)
   exact this
 obtain⟨h1,_,h3⟩:=hm 0 (by decide);have h3:=h3 0 (by decide);rw[qan rfl,qV ok1.row (by decide)] at h3;have e:mf 0=[half]:=by
  match em:mf 0,h1 with
  | [q],_ =>
   rw[em] at h3;have h3:0+2 * q=1:=h3;have th:=rn;congr 1
   grind
 have a1:cG.p [.int 1,.lst [.tup [.tup [.tup [.int 0,.tup [.int 2,.int 1]]],.tup [.int 1,.int 1]]]] s=.ok (.tup [.str "one",.lst [.tup [.int 1,.int 2]],.lst [.lst [.tup [.int 1,.int 2]]]]) s:=by
  have:(List.range 1).map (fun p=>lD (mf p))=[.lst [.tup [.int 1,.int 2]]]:=by
   show [lD (mf 0)]=_;rw[e];rfl
  rw[this] at a1;exact a1
 have n0:eqD true (.tup [.str "one",.lst [],.lst []]) (.tup [.str "one",.lst [],.lst []])=some (.bl false):=oQ ⟨_,rfl,by decide,by decide +kernel,by decide +kernel⟩;have n1:eqD false (.tup [.str "one",.lst [.tup [.int 1,.int 2]],.lst [.lst [.tup [.int 1,.int 2]]]]) (.tup [.str "one",.lst [.tup [.int 1,.int 2]],.lst [.lst [.tup [.int 1,.int 2]]]])=some (.bl true):=oQ ⟨_,rfl,by decide,by decide +kernel,by decide +kernel⟩;unfold jR;simp only[aD,cc,cF,bC,aF,aE,ar,aU,aM,mO,Pb,cA,bI,au,qap,qaD,qbj,show (0+1+1+1:Nat)<=100000 by decide,show (0+1+1:Nat)<=100000 by decide,show (0+1:Nat)<=100000 by decide,if_true,a0,a1,gh,eT,n0,n1,Pf,PR.bl,Pg,qaC,if_false,ci,PU.ax]
def je{lo:Int}{c:Nat}:(br lo c).length=c:=by simp[br]
def ve{lo:Int}{c i:Nat}{x:PV}(h:(br lo c)[i]?=some x):x=.int (lo+i)/\i<c:=by
 unfold br at h;rw[qax,qaB] at h;obtain⟨k,hk,rfl⟩:=h
 have:=qaf.mp hk
 obtain⟨a,b⟩:=this;simp at a b;subst b;exact⟨rfl,a⟩
def uX{c i:Nat}{x:PV}(h:(br 0 c)[i]?=some x):x=.int (i:Int)/\i<c:=by
 have:=ve h;simpa using this
def tN{ns:List Int}{k:Nat}(hk:k<ns.length):atI (ns.map PV.int) (k:Int)=some (.int ns[k]):=L2.cZ (by simp[hk])
def sw{h:MH}:opPow (.int 10) (.int 18) h=.ok (.int (10 ^ 18)) h:=rY (by decide)
def yA{h:MH}:opPow (.int 10) (.int 15) h=.ok (.int (10 ^ 15)) h:=rY (by decide)
def yd{h:MH}{ns:List Int}{k:Nat}(hk:k<64):∃m c:Int,iK [.frl (ns.map .int),.int k] h=.ok (.loc h.length) (h++[.lst [.int m,.int c,.int 0]]):=by
 unfold iK;have k1:∀{i:Int} {h:MH},opMul (.int 7919) (.int i) h=.ok (.int (7919 * i)) h:=gs (by decide);have k2:∀{i:Int} {h:MH},opMul (.int 48271) (.int i) h=.ok (.int (48271 * i)) h:=gs (by decide);have k3:∀{i:Int} {h:MH},opMul (.int 40009) (.int i) h=.ok (.int (40009 * i)) h:=gs (by decide);have n3:∀{a b c:PV} {h:MH},newL [a,b,c] h=.ok (.loc h.length) (h++[.lst [a,b,c]]):=i7 (by simp)
 have fin:∀cell:Int,∃m c:Int,(av (mIf (mB (ah opGe (mCB fAbs (ac (ae 2) mNil)) (ah opPow (mC (.int 10)) (mC (.int 18))))) (aL (bq (ac (mC (.int 1)) (ac (mCB fAbs (ac (ae 2) mNil)) (ac (mC (.int 0)) mNil))))) mSkip)
   (aL (bq (ac (mC (.int 0)) (ac (ah opAdd (ah opMod (ae 2) (mC (.int 2147483587))) (ah opMul (mC (.int 40009)) (ae 1))) (ac (mC (.int 0)) mNil)))))) [some (.frl (ns.map .int)),some (.int k),some (.int cell)] h=.rt (.loc h.length) (h++[.lst [.int m,.int c,.int 0]]):=fun cell=>by
  by_cases z:(10:Int) ^ 18<=(if cell<0 then -cell else cell)
  ·exact⟨1,(if cell<0 then -cell else cell),by simp[sw,n3,z,-Int.reducePow]⟩
  ·exact⟨0,cell.fmod 2147483587+40009 * k,by simp[sw,n3,z,k3,fw,-Int.reducePow]⟩
 have fin':∀cell:Int,∃m c:Int,((av (mIf (mB (ah opGe (mCB fAbs (ac (ae 2) mNil)) (ah opPow (mC (.int 10)) (mC (.int 18))))) (aL (bq (ac (mC (.int 1)) (ac (mCB fAbs (ac (ae 2) mNil)) (ac (mC (.int 0)) mNil))))) mSkip)
   (aL (bq (ac (mC (.int 0)) (ac (ah opAdd (ah opMod (ae 2) (mC (.int 2147483587))) (ah opMul (mC (.int 40009)) (ae 1))) (ac (mC (.int 0)) mNil)))))) [some (.frl (ns.map .int)),some (.int k),some (.int cell)] h).fin=.ok (.loc h.length) (h++[.lst [.int m,.int c,.int 0]]):=fun cell=>by
  obtain⟨m,c,q⟩:=fin cell;exact⟨m,c,by rw[q];rfl⟩
 have lift:∀cell:Int,(av (aG 2 (ah opAdd (ah opMul (mC (.int 7919)) (ae 1)) (mC (.int 11))))
 (mIf (mB (ah opLt (ae 1) (mCB fMin (ac (mCB fLen (ac (ae 0) mNil)) (ac (mC (.int 63)) mNil))))) (aG 2 (ah aC (ae 0) (ae 1))) (mIf (mB (ah opGt (mCB fLen (ac (ae 0) mNil)) (mC (.int 0)))) (aG 2 (ah opAdd (ah opMod (ah aC (ae 0) (ah opMod (ae 1) (mCB fMin (ac (mCB fLen (ac (ae 0) mNil)) (ac (mC (.int 63)) mNil))))) (ah opPow (mC (.int 10)) (mC (.int 15)))) (ah opMul (mC (.int 48271)) (ae 1)))) mSkip))) [some (.frl (ns.map .int)),some (.int k),none] h=.nx [some (.frl (ns.map .int)),some (.int k),some (.int cell)] h ->
   ∃m c:Int,ba 3 2 m_l_pen [.frl (ns.map .int),.int k] h=.ok (.loc h.length) (h++[.lst [.int m,.int c,.int 0]]):=fun cell q=>by
  obtain⟨m,c,q2⟩:=fin' cell;refine⟨m,c,(kK (by rfl)).trans ?_⟩;rw[<-q2];unfold m_l_pen;simp only[bT] at q ⊢;have e0:b9 3 [PV.frl (ns.map .int),PV.int k]=[some (.frl (ns.map .int)),some (.int k),none]:=rfl;rw[e0];generalize (aG 2 (ah opAdd (ah opMul (mC (.int 7919)) (ae 1)) (mC (.int 11)))) [some (.frl (ns.map .int)),some (.int k),none] h=o1 at q ⊢
  cases o1 with
  | nx σ1 h1 =>
   simp only[MM.ax,bT] at q ⊢;rw[q];rfl
  | _=>cases q
 have hlim:∃lim:Nat,(if (63:Int)<(ns.length:Int) then (63:Int) else (ns.length:Int))=(lim:Int)/\lim<=ns.length/\(0<ns.length->0<lim):=by
  by_cases z:(63:Int)<(ns.length:Int)
  ·exact⟨63,by rw[qan z];rfl,by ext,by ext⟩
  ·exact⟨ns.length,by rw[qay z],by ext,by ext⟩
 obtain⟨lim,el,hl1,hl2⟩:=hlim;by_cases h1:k<lim
 ·refine lift (ns[k]'(by ext)) ?_;simp[k1,el,h1,tN (show k<ns.length by ext)]
 ·by_cases h0:0<ns.length
  ·have hm0:(lim:Int)≠0:=by have:=hl2 h0;ext
   have hj:k % lim<ns.length:=qat (Nat.mod_lt _ (hl2 h0)) hl1;have ej:(k:Int).fmod (lim:Int)=((k % lim:Nat):Int):=by rw[qbl _ (by ext)];rfl
   refine lift ((ns[k % lim]'hj).fmod (10 ^ 15)+48271 * k) ?_;have p0:((10:Int) ^ 15)≠0:=by decide
   have a1:=tN hj;rw[Int.natCast_emod] at a1;simp[k1,el,h1,h0,fw hm0,ej,a1,yA,fw p0,k2,-Int.reducePow]
  ·have h0':ns=[]:=qci.mp (by ext);refine lift (7919 * k+11) ?_;have z:¬((k:Int)<(lim:Int)):=by ext
   simp[k1,el,z,h0]
def KS(σ:PSt)(o:SOut):Prop:=match o with
 | .nx σ' _=>σ'.length=σ.length/\σ'[0]?=σ[0]?
 | .bk σ' _=>σ'.length=σ.length/\σ'[0]?=σ[0]?
 | .ct σ' _=>σ'.length=σ.length/\σ'[0]?=σ[0]?
 | _=>True
def KS.of{σ σ1:PSt}{o:SOut}(h:σ1.length=σ.length/\σ1[0]?=σ[0]?)(k:KS σ1 o):KS σ o:=by
 cases o with
 | nx a b=>exact⟨k.1.trans h.1,k.2.trans h.2⟩
 | bk a b=>exact⟨k.1.trans h.1,k.2.trans h.2⟩
 | ct a b=>exact⟨k.1.trans h.1,k.2.trans h.2⟩
 | _=>trivial
def K0(m:Mst):Prop:=∀σ h,KS σ (m σ h)
def wd:K0 mSkip:=fun σ h=>⟨rfl,rfl⟩
def k_ex{α:Type}{m:Mx α}{k:α->Mst}(hk:∀v,K0 (k v)):K0 (mEx m k):=fun σ h=>by
 unfold mEx
 cases m σ h with
 | ok v h1=>exact hk v σ h1
 | _=>trivial
def k_ret{m:Mx PV}:K0 (aL m):=fun σ h=>by
 unfold aL
 cases m σ h with
 | ok v h1=>trivial
 | _=>trivial
def k_put{i:Nat}{v:PV}{σ:PSt}(h:i≠0):(σ.set i (some v)).length=σ.length/\(σ.set i (some v))[0]?=σ[0]?:=⟨by simp,qae h⟩
def k_set{i:Nat}{m:Mx PV}(h:i≠0):K0 (aG i m):=k_ex fun v σ h1=>k_put h
def iX{a b:Mst}(ha:K0 a)(hb:K0 b):K0 (av a b):=fun σ h=>by
 have:=ha σ h
 unfold av
 cases e:a σ h with
 | nx σ1 h1=>rw[e] at this;exact KS.of this (hb σ1 h1)
 | bk σ1 h1=>rw[e] at this;exact this
 | ct σ1 h1=>rw[e] at this;exact this
 | _=>trivial
def k_if{c:Mx Bool}{a b:Mst}(ha:K0 a)(hb:K0 b):K0 (mIf c a b):=k_ex fun x=>by
 cases x
 ·exact hb
 ·exact ha
def wA{m:Mx PV}:K0 (dE m):=k_ex fun _=>wd
section
variable {ws:List Nat}
def ng{a b:Xd ws}(ha:K0 a.m)(hb:K0 b.m):K0 (aB a b).m:=iX ha hb
def jL{i:Nat}{e:Xe ws}{hi:ws.contains i=false}{hz:e.fz=true}(h:i≠0):K0 (aS i e hi hz).m:=k_set h
def u4{t:Xt ws}{e:Xe ws}:K0 (xIf t (aT e) xSkip).m:=k_if k_ret wd
end
def km{a b c:Mst}:av (av a b) c=av a (av b c):=by
 funext σ h;rw[bT,bT,bT];cases a σ h <;> rfl
def nC{ws:List Nat}{a b:Xd ws}:(aB a b).m=av a.m b.m:=rfl
abbrev hdM:Mst:=aG 6 (mCB fList (ac (ae 5) mNil))
abbrev p1M:Mst:=dE (mMt ck (ah aC (ae 7) (mC (.int 1))) (ac (aY (ac (mC (.int 7)) (ac (mC (.int 1)) mNil))) mNil))
abbrev p2M:Mst:=dE (mMt ck (ah aC (ae 7) (mC (.int 2))) (ac (bq mNil) mNil))
abbrev tnM:Mst:=av jq.m (av hdM (av qm.m (av fD.m (av p1M (av p2M rl.m)))))
abbrev pnM:Mst:=aG 2 (ay iK (ac (ae 0) (ac (ae 1) mNil)))
def pre_eq(X:Mst):av jq.m X=(av (aG 3 (ah aC (bq (ac (ay aQ (ac (ae 2) (ac (mC (.int 8)) mNil))) (ac (mC (.int 12)) mNil))) (mCB fInt (ac (ah opEq (ay aQ (ac (ae 2) (ac (mC (.int 8)) mNil))) (mC (.int 7))) mNil))))
 (av (aG 4 (bh 1 [2,3] (bH (ac (ae 3) mNil)) (gNm 0) mTrue (ay iF (ac (ae 1) (ac (ae 2) mNil)))))
 (av (aG 5 (ay lE (ac (ae 2) (ac (ae 3) (ac (ae 4) mNil)))))
 X))):=by
 unfold jq;rw[nC,km,nC,km];rfl
def iff_eq(X:Mst):av fD.m X=(av (mIf (mOr (dN (mB (mUn (eS ["tuple"]) (ae 7)))) (mOr (mB (ah opNe (mSl (ae 7) mNo (mPt (mC (.int 2)))) (aY (ac (mC (.str "one")) (ac (ae 4) mNil))))) (mOr (mB (ah opNe (mCB fLen (ac (ae 7) mNil)) (mC (.int 3)))) (mB (ah opNe (ae 6) (ae 5)))))) (aL (mC (.bl false))) mSkip)
 (av (mIf (mOr (dN (mB (ay dY (ac (ah aC (ae 7) (mC (.int 1))) (ac (ae 3) mNil))))) (dN (mB (ay dh (ac (ae 3) (ac (ae 5) (ac (bq mNil) (ac (ah aC (ae 7) (mC (.int 2))) mNil)))))))) (aL (mC (.bl false))) mSkip)
 X)):=by
 unfold fD;rw[nC,km];rfl
def xH:m_law=av (cR (bH (ac (mC (.int 2)) mNil)) (gNm 1) (av pnM tnM)) jR.m:=by
 unfold tnM;rw[pre_eq,iff_eq];rfl
def k_tn:K0 tnM:=by
 refine iX ?_ (iX (k_set (by decide)) (iX ?_ (iX ?_ (iX wA (iX wA ?_)))))
 ·unfold jq;exact ng (jL (by decide)) (ng (jL (by decide)) (jL (by decide)))
 ·unfold qm;exact jL (by decide)
 ·unfold fD;exact ng u4 u4
 ·unfold rl;exact ng (jL (by decide)) u4
def nine{σ:PSt}(h:σ.length=9):∃a0 a1 a2 a3 a4 a5 a6 a7 a8,σ=[a0,a1,a2,a3,a4,a5,a6,a7,a8]:=by
 match σ,h with
 | [b0,b1,b2,b3,b4,b5,b6,b7,b8],_=>exact⟨b0,b1,b2,b3,b4,b5,b6,b7,b8,rfl⟩
def set_inv{i:Nat}{m:Mx PV}{σ σ':PSt}{h h':MH}(e:aG i m σ h=.nx σ' h'):∃v,σ'=σ.set i (some v):=by
 unfold aG mEx at e
 cases q:m σ h with
 | ok v h1=>rw[q] at e;cases e;exact⟨v,rfl⟩
 | exc x h1=>rw[q] at e;cases e
 | bad=>rw[q] at e;cases e
def if_inv{c:Mx Bool}{m:Mx PV}{σ σ':PSt}{h h':MH}(e:mIf c (aL m) mSkip σ h=.nx σ' h'):σ'=σ:=by
 unfold mIf mEx at e
 cases q:c σ h with
 | ok v h1 =>
  rw[q] at e
  cases v with
  | true =>
   have e:aL m σ h1=.nx σ' h':=e;unfold aL at e
   cases q2:m σ h1 with
   | ok v h2=>rw[q2] at e;cases e
   | exc x h2=>rw[q2] at e;cases e
   | bad=>rw[q2] at e;cases e
  | false=>have e:SOut.nx σ h1=.nx σ' h':=e;cases e;rfl
 | exc x h1=>rw[q] at e;cases e
 | bad=>rw[q] at e;cases e
def um{ws:List Nat}{c:Xt ws}{a:Xe ws}{σ σ':PSt}{h h':MH}(e:(xIf c (aT a) xSkip).m σ h=.nx σ' h'):σ'=σ:=if_inv (c:=c.m) (m:=a.m) e
def seq_inv{a b:Mst}{σ σ':PSt}{h h':MH}(e:av a b σ h=.nx σ' h'):∃σ1 h1,a σ h=.nx σ1 h1/\b σ1 h1=.nx σ' h':=by
 rw[bT] at e
 cases q:a σ h with
 | nx σ1 h1=>rw[q] at e;exact⟨σ1,h1,rfl,e⟩
 | _=>rw[q] at e;cases e
def iff_inv{σ σ':PSt}{h h':MH}(e:fD.m σ h=.nx σ' h'):σ'=σ:=by
 unfold fD at e;rw[nC] at e;obtain⟨σ1,h1,e1,e2⟩:=seq_inv e
 have:=um e1
 subst this;exact um e2
def iN{h:MH}{o:MO}{n:Nat}(hn:n<h.length):(h++[o])[n]?=h[n]?:=qal hn
def turn_m{h:MH}{a b:Int}{z0 z1 a3 a4 a5 a6 a7 a8:Option PV}:∃σ' h',tnM [z0,z1,some (.loc h.length),a3,a4,a5,a6,a7,a8] (h++[.lst [.int a,.int b,.int 0]])=.nx σ' h'/\∃q s,bE h' q s:=by
 generalize hp:h.length=p;have pn:bE (h++[.lst [.int a,.int b,.int 0]]) p (a,b,0):=hp▸app_0;have plt:p<(h++[MO.lst [.int a,.int b,.int 0]]).length:=by simp;ext
 generalize h++[.lst [.int a,.int b,.int 0]]=H at pn plt;obtain⟨n,xs,rs,s1,q1,t⟩:=pre_p (s:=(a,b,0));have c0:PU.Cx p H H.length [p] [p] [] [z0,z1,some (.loc p),a3,a4,a5,a6,a7,a8] [none,none,some .pen,none,none,none,none,none,none] (a,b,0):=by
  refine⟨fun o ho=>?_,fun _ h=>h,fun o ho=>?_,by simp,qai _,pn,⟨rfl,fun i d e _=>?_,fun i d e hi=>by cases hi⟩⟩
  ·rw[qav.mp ho];exact plt
  ·rw[qav.mp ho];exact plt
  ·match i,e with
   | 0,e=>cases e
   | 1,e=>cases e
   | 2,e=>cases e;exact⟨_,rfl,rfl⟩
   | 3,e=>cases e
   | 4,e=>cases e
   | 5,e=>cases e
   | 6,e=>cases e
   | 7,e=>cases e
   | 8,e=>cases e
   | n+9,e=>simp at e
 have k1:=jq.ok c0 fun i j hi=>by cases hi
 rw[q1] at k1;obtain⟨σ1,h1,e1,O1,_,c1,_⟩:=k1;have l1:σ1.length=9:=c1.sr.len;obtain⟨v2,w2,r2⟩:=c1.sr.fz 2 .pen rfl (by simp);obtain⟨v3,w3,r3⟩:=c1.sr.fz 3 (.int (n:Int)) rfl (by simp);obtain⟨v4,w4,p4,y4,rfl,no4,g4,r4⟩:=c1.sr.fz 4 (lD xs) rfl (by simp);obtain⟨v5,w5,p5,y5,rfl,no5,g5,r5⟩:=c1.sr.fz 5 (rsD rs) rfl (by simp);have r2:v2=.loc p:=r2;have r3:v3=.int (n:Int):=r3;subst r2 r3;have n12:=t.n12;have hlr:=t.md.len;have y5l:y5.length<=16:=by rw[r5.length,qar];ext
 have lt4:=aI g4;have lt5:=aI g5;have ltp:p<h1.length:=aI c1.pen;have np4:p4≠p:=fun z=>no4 (z▸c1.pO);have np5:p5≠p:=fun z=>no5 (z▸c1.pO);obtain⟨b0,b1,b2,b3,b4,b5,b6,b7,b8,rfl⟩:=nine l1;cases w2;cases w3;cases w4;cases w5;have e2:hdM [b0,b1,some (.loc p),some (.int (n:Int)),some (.loc p4),some (.loc p5),b6,b7,b8] h1=.nx [b0,b1,some (.loc p),some (.int (n:Int)),some (.loc p4),some (.loc p5),some (.loc h1.length),b7,b8] (h1++[.lst y5]):=by
  have:=vE g5 (by ext)
  unfold hdM;simp -implicitDefEqProofs [this]
 obtain⟨mf,q3,mr⟩:=an_p (x0:=none) (x1:=none) (x4:=none) (x5:=none) (x7:=none) (x8:=none) (s:=s1) t;have c2:PU.Cx p (h1++[.lst y5]) (h1++[MO.lst y5]).length [p,p4,p5] [p,p4,p5] [] [b0,b1,some (.loc p),some (.int (n:Int)),some (.loc p4),some (.loc p5),some (.loc h1.length),b7,b8] [none,none,some .pen,some (.int (n:Int)),none,none,some (rsD rs),none,none] s1:=by
  have bd:∀o∈[p,p4,p5],o<(h1++[MO.lst y5]).length:=fun o ho=>by
   rw[qaY,qcs];rcases qam.mp ho with rfl|ho
   ·ext
   ·rcases qam.mp ho with rfl|ho
    ·ext
    ·rw[qav.mp ho];ext
  refine⟨bd,fun _ h=>h,bd,by simp,qai _,(iN ltp).trans c1.pen,⟨rfl,fun i d e _=>?_,fun i d e hi=>by cases hi⟩⟩
  match i,e with
  | 0,e=>cases e
  | 1,e=>cases e
  | 2,e=>cases e;exact⟨_,rfl,rfl⟩
  | 3,e=>cases e;exact⟨_,rfl,rfl⟩
  | 4,e=>cases e
  | 5,e=>cases e
  | 6,e =>
   cases e;refine⟨_,rfl,h1.length,y5,rfl,fun z=>?_,app_0,Rps.flat (gG rs) r5⟩;simp at z;ext
  | 7,e=>cases e
  | 8,e=>cases e
  | n+9,e=>simp at e
 have k3:=qm.ok c2 fun i j hi=>by cases hi
 rw[q3] at k3;obtain⟨σ3,h3,e3,O3,st3,c3,_⟩:=k3;obtain⟨v,rfl⟩:=set_inv (show aG 7 _ _ _=.nx σ3 h3 from e3);obtain⟨v6,w6,r6⟩:=c3.sr.fz 6 (rsD rs) rfl (by simp);obtain⟨v7,w7,r7⟩:=c3.sr.fz 7 (onD n xs mf) rfl (by simp);cases w6;cases w7;have b3':∀m,m<(h1++[MO.lst y5]).length->m≠p->h3[m]?=(h1++[MO.lst y5])[m]?:=st3.base;have lapp:(h1++[MO.lst y5]).length=h1.length+1:=by simp
 have g4':h3[p4]?=some (.lst y4):=(b3' p4 (by ext) np4).trans ((iN lt4).trans g4);have g5':h3[p5]?=some (.lst y5):=(b3' p5 (by ext) np5).trans ((iN lt5).trans g5);have pO3:p∈O3:=c3.pO;have m3:Mv O3 h3 [p] h3:=⟨fun _ _ _=>rfl,fun o ho=>.inl (by rw[qav.mp ho];exact pO3)⟩;have lt3:p<h3.length:=aI c3.pen;have no1:∀o,o∉O3->o≠p4/\o≠p5/\o≠p:=fun o ho=>⟨fun z=>ho (z▸c3.sub p4 (by simp)),fun z=>ho (z▸c3.sub p5 (by simp)),fun z=>ho (z▸pO3)⟩;have r7':=r7;obtain⟨zs,rfl,u0,zt,rfl,_,u1,zu,rfl,⟨p1,y1,rfl,o1,g1,ry1⟩,u2,zv,rfl,⟨p2,y2,rfl,o2,g2,ry2⟩,rfl⟩:=r7';obtain⟨n14,n15,n1p⟩:=no1 p1 o1;obtain⟨n24,n25,n2p⟩:=no1 p2 o2;have c4:PU.Cx p h3 h3.length [p] [p] [] [b0,b1,some (.loc p),some (.int (n:Int)),some (.loc p4),some (.loc p5),some (.loc h1.length),some (.tup [u0,.loc p1,.loc p2]),b8] [none,none,some .pen,some (.int (n:Int)),some (lD xs),some (rsD rs),some (rsD rs),some (onD n xs mf),none] s1:=by
  have bd:∀o∈[p],o<h3.length:=fun o ho=>by rw[qav.mp ho];exact lt3
  refine⟨bd,fun _ h=>h,bd,by simp,qai _,c3.pen,⟨rfl,fun i d e _=>?_,fun i d e hi=>by cases hi⟩⟩
  match i,e with
  | 0,e=>cases e
  | 1,e=>cases e
  | 2,e=>cases e;exact⟨_,rfl,rfl⟩
  | 3,e=>cases e;exact⟨_,rfl,rfl⟩
  | 4,e=>cases e;exact⟨_,rfl,p4,y4,rfl,by simpa using np4,g4',Rps.flat nY r4⟩
  | 5,e=>cases e;exact⟨_,rfl,p5,y5,rfl,by simpa using np5,g5',Rps.flat (gG rs) r5⟩
  | 6,e=>cases e;exact⟨_,rfl,r6.mv m3⟩
  | 7,e=>cases e;exact⟨_,rfl,r7.mv m3⟩
  | 8,e=>cases e
  | n+9,e=>simp at e
 have k4:=fD.ok c4 fun i j hi=>by cases hi
 rw[iff_p t mr] at k4;obtain⟨σ4,h4,e4,O4,st4,c5,_⟩:=k4
 have:=iff_inv e4
 subst this;have b4':∀m,m<h3.length->m≠p->h4[m]?=h3[m]?:=st4.base;have g1':h4[p1]?=some (.lst y1):=(b4' p1 (aI g1) n1p).trans g1;have g2':h4[p2]?=some (.lst y2):=(b4' p2 (aI g2) n2p).trans g2;have y1l:y1.length<=12:=by rw[ry1.length,qar,t.xl];ext
 have y2l:y2.length<=12:=by rw[ry2.length,qar,qce];ext
 have e5:p1M [b0,b1,some (.loc p),some (.int (n:Int)),some (.loc p4),some (.loc p5),some (.loc h1.length),some (.tup [u0,.loc p1,.loc p2]),b8] h4=.nx [b0,b1,some (.loc p),some (.int (n:Int)),some (.loc p4),some (.loc p5),some (.loc h1.length),some (.tup [u0,.loc p1,.loc p2]),b8] (h4.set p1 (.lst (y1++[.tup [.int 7,.int 1]]))):=by
  have ix:ah aC (ae 7) (mC (.int 1)) [b0,b1,some (.loc p),some (.int (n:Int)),some (.loc p4),some (.loc p5),some (.loc h1.length),some (.tup [u0,.loc p1,.loc p2]),b8] h4=.ok (.loc p1) h4:=rfl;have ap:=mN (v:=.tup [.int 7,.int 1]) g1' (by ext);unfold p1M;rw[pX,ua ix g1'];simp only[qb,mTup_ap,mC_ap,tX,Out.bind_ok,newT_2,ap,Out.ne_ok,az,qa]
 have g2s:∃w2,(h4.set p1 (.lst (y1++[.tup [.int 7,.int 1]])))[p2]?=some (.lst w2)/\w2.length<=13:=by
  by_cases z:p1=p2
  ·subst z;exact⟨_,qaA (aI g1'),by simp;ext⟩
  ·exact⟨y2,(qae z).trans g2',by ext⟩
 obtain⟨y2',g2'',y2l'⟩:=g2s;generalize eh5:h4.set p1 (.lst (y1++[.tup [.int 7,.int 1]]))=h5 at e5 g2'';have k5:∀m:Nat,m≠p1->h5[m]?=h4[m]?:=fun m hm=>by rw[<-eh5];exact qae fun z=>hm z.symm
 have e6:p2M [b0,b1,some (.loc p),some (.int (n:Int)),some (.loc p4),some (.loc p5),some (.loc h1.length),some (.tup [u0,.loc p1,.loc p2]),b8] h5=.nx [b0,b1,some (.loc p),some (.int (n:Int)),some (.loc p4),some (.loc p5),some (.loc h1.length),some (.tup [u0,.loc p1,.loc p2]),b8] (List.set (h5++[MO.lst []]) p2 (MO.lst (y2'++[PV.loc h5.length]))):=by
  have ix:ah aC (ae 7) (mC (.int 2)) [b0,b1,some (.loc p),some (.int (n:Int)),some (.loc p4),some (.loc p5),some (.loc h1.length),some (.tup [u0,.loc p1,.loc p2]),b8] h5=.ok (.loc p2) h5:=rfl;have nl:newL [] h5=.ok (.loc h5.length) (h5++[.lst []]):=i7 (by simp);have ap:=mN (v:=.loc h5.length) ((iN (o:=.lst []) (aI g2'')).trans g2'') (by ext);unfold p2M;rw[pX,ua ix g2''];simp only[qb,mLst_ap,tX,Out.bind_ok,nl,ap,Out.ne_ok,az,qa]
 have k6:∀m:Nat,m<h5.length->m≠p2->(List.set (h5++[MO.lst []]) p2 (MO.lst (y2'++[PV.loc h5.length])))[m]?=h5[m]?:=fun m hl hm=>(qae fun z=>hm z.symm).trans (iN hl);generalize List.set (h5++[MO.lst []]) p2 (MO.lst (y2'++[PV.loc h5.length]))=h6 at e6 k6;have l5:∀{m:Nat} {o:MO},h4[m]?=some o->m<h5.length:=fun q=>by rw[<-eh5,List.length_set];exact aI q
 have old:∀{m:Nat} {o:MO},m≠p1->m≠p2->h4[m]?=some o->h6[m]?=some o:=fun a b q=>(k6 _ (l5 q) b).trans ((k5 _ a).trans q);have g4'':h4[p4]?=some (.lst y4):=(b4' p4 (aI g4') np4).trans g4';have g5'':h4[p5]?=some (.lst y5):=(b4' p5 (aI g5') np5).trans g5';have pn6:bE h6 p s1:=old (fun z=>n1p z.symm) (fun z=>n2p z.symm) c5.pen;have c7:PU.Cx p h6 h6.length [p] [p] [] [b0,b1,some (.loc p),some (.int (n:Int)),some (.loc p4),some (.loc p5),some (.loc h1.length),some (.tup [u0,.loc p1,.loc p2]),b8] [none,none,some .pen,some (.int (n:Int)),some (lD xs),some (rsD rs),none,none,none] s1:=by
  have bd:∀o∈[p],o<h6.length:=fun o ho=>by rw[qav.mp ho];exact aI pn6
  refine⟨bd,fun _ h=>h,bd,by simp,qai _,pn6,⟨rfl,fun i d e _=>?_,fun i d e hi=>by cases hi⟩⟩
  match i,e with
  | 0,e=>cases e
  | 1,e=>cases e
  | 2,e=>cases e;exact⟨_,rfl,rfl⟩
  | 3,e=>cases e;exact⟨_,rfl,rfl⟩
  | 4,e=>cases e;exact⟨_,rfl,p4,y4,rfl,by simpa using np4,old (fun z=>n14 z.symm) (fun z=>n24 z.symm) g4'',Rps.flat nY r4⟩
  | 5,e=>cases e;exact⟨_,rfl,p5,y5,rfl,by simpa using np5,old (fun z=>n15 z.symm) (fun z=>n25 z.symm) g5'',Rps.flat (gG rs) r5⟩
  | 6,e=>cases e
  | 7,e=>cases e
  | 8,e=>cases e
  | n+9,e=>simp at e
 obtain⟨x8',q8⟩:=po_p (x0:=none) (x1:=none) (x6:=none) (x7:=none) (x8:=none) (s:=s1) t;have k8:=rl.ok c7 fun i j hi=>by cases hi
 rw[q8] at k8;obtain⟨σ8,h8,e8,O8,_,c8,_⟩:=k8;refine⟨σ8,h8,?_,p,s1,c8.pen⟩;unfold tnM;rw[bT,e1,MM.ax,bT,e2,MM.ax,bT,e3,MM.ax];show (av fD.m _) [b0,b1,some (.loc p),some (.int (n:Int)),some (.loc p4),some (.loc p5),some (.loc h1.length),some (.tup [u0,.loc p1,.loc p2]),b8] h3=_;rw[bT,e4,MM.ax,bT,e5,MM.ax,bT,e6,MM.ax,e8]
def tail_m{h:MH}{q:Nat}{s:Pen}{σ:PSt}(hl:σ.length=9)(pn:bE h q s):∃h',jR.m σ h=.rt (.bl true) h':=by
 have c:PU.Cx q h h.length [q] [q] [] σ [none,none,none,none,none,none,none,none,none] s:=by
  refine⟨fun o ho=>?_,fun _ h=>h,fun o ho=>?_,by simp,qai _,pn,⟨hl,fun i d e _=>?_,fun i d e hi=>by cases hi⟩⟩
  ·rw[qav.mp ho];exact aI pn
  ·rw[qav.mp ho];exact aI pn
  ·match i,e with
   | 0,e=>cases e
   | 1,e=>cases e
   | 2,e=>cases e
   | 3,e=>cases e
   | 4,e=>cases e
   | 5,e=>cases e
   | 6,e=>cases e
   | 7,e=>cases e
   | 8,e=>cases e
   | n+9,e=>simp at e
 have k:=jR.ok c fun i j hi=>by cases hi
 rw[tail_p] at k;obtain⟨v,h',e,_,_,_,rv,_⟩:=k;rw[show v=PV.bl true from rv] at e;exact⟨h',e⟩
def law_true(ns:List Int)(hn:ns.length<=63):∃h',f_law [.frl (ns.map .int)] []=.ok (.bl true) h':=by
 unfold f_law;rw[kK (by rfl),xH];have e0:b9 9 [PV.frl (ns.map .int)]=[some (.frl (ns.map .int)),none,none,none,none,none,none,none,none]:=rfl;have er:bH (ac (mC (.int 2)) mNil) [some (.frl (ns.map .int)),none,none,none,none,none,none,none,none] []=.ok ⟨br 0 2,[]⟩ []:=itR1 (n:=2) rfl (by ext);obtain⟨σ',h',e,hσ,hσ0,hpen⟩:=sP (it:=⟨br 0 2,[]⟩) (g:=gNm 1) (b:=av pnM tnM)
  (fun j σ h=>σ.length=9/\σ[0]?=some (some (.frl (ns.map .int)))/\(0<j->∃q s,bE h q s)) (br 0 2) 0 [some (.frl (ns.map .int)),none,none,none,none,none,none,none,none] [] ⟨rfl,rfl,fun z=>by ext⟩ (fun _ _ _ _=>ok_none.mpr trivial) (fun m σ h x ⟨hl,h0,_⟩ hx=>by
   obtain⟨b0,a1,a2,a3,a4,a5,a6,a7,a8,rfl⟩:=nine hl;cases h0;obtain⟨rfl,hm⟩:=uX hx;obtain⟨a,b,qp⟩:=yd (h:=h) (ns:=ns) (k:=m) (by ext);obtain⟨σ2,h2,e2,k3⟩:=turn_m (h:=h) (a:=a) (b:=b) (z0:=some (.frl (ns.map .int))) (z1:=some (.int (m:Int))) (a3:=a3) (a4:=a4) (a5:=a5) (a6:=a6) (a7:=a7) (a8:=a8);have kk:=k_tn [some (.frl (ns.map .int)),some (.int (m:Int)),some (.loc h.length),a3,a4,a5,a6,a7,a8] (h++[.lst [.int a,.int b,.int 0]]);rw[e2] at kk;refine⟨_,_,σ2,h2,rfl,?_,kk.1,kk.2,fun _=>k3⟩;rw[bT];have e1:pnM [some (.frl (ns.map .int)),some (.int (m:Int)),a2,a3,a4,a5,a6,a7,a8] h=.nx [some (.frl (ns.map .int)),some (.int (m:Int)),some (.loc h.length),a3,a4,a5,a6,a7,a8] (h++[.lst [.int a,.int b,.int 0]]):=by
    simp -implicitDefEqProofs [qp]
   refine (congrArg (fun z:SOut=>z.then _) e1).trans ?_;rw[MM.ax]
   exact e2)
 obtain⟨q,s,pn⟩:=hpen (by rw[je];ext);obtain⟨h2,e2⟩:=tail_m hσ pn;refine⟨h2,?_⟩;rw[e0,bT,mFor_ap,er,az,e,MM.ax,e2];rfl
end Law
namespace Law
open PySem PySem.Spec PyProof.Rows L2 MM
set_option maxHeartbeats 4000000
def top(i:Nat):Stmt:=PySem.Challenge.pw_fewfills_k38_one_answer.main.body.getD i (.Pass ⟨0,0,0,0⟩)
abbrev f8:Stmt:=top 6
abbrev nH:List Str:=["thing"]
abbrev mP:List Str:=["isinstance","int","bool"]
abbrev m5:List Str:=["thing"]
def vd(hsc:Sc X f8)(g:Gd X nH mP k)(dc:DefCx X)(n5:Nn X "isinstance")(n1:Nn X "bool")(n4:Nn X "int"):MSs X (aK f8) m_is_whole :=
 (MS2.h (m1n (r_1 (e_1 (m4 (fL g (i:=0) (j:=1) rfl n5 rfl n4 kf tT (kV g 0)) (qj (me_not (fL g (i:=0) (j:=2) rfl n5 rfl n1 ug qq (kV g 0)))))))))
abbrev cH:Stmt:=top 7
abbrev fW:List Str:=["a","b","rest"]
abbrev fV:List Str:=[]
abbrev dQ:List Str:=["a","b"]
def kU(hsc:Sc X cH)(g:Gd X fW fV k)(dc:DefCx X):MSs X (aK cH) m_greatest_shared :=
 (MS2.h (m1c (s_1 (qu g (kTc (d4 g.room) (kV g 1) ag) (MS2.h (m1c (a_1 g 2 (e_1 (aw cL (kV g 0) (kV g 1))))
 (m1c (a_1 g 0 (e_1 (kV g 1)))
 (m1n (a_1 g 1 (e_1 (kV g 2)))))))))
 (m1n (r_1 (e_1 (kV g 0))))))
abbrev fI:Stmt:=top 8
abbrev lh:List Str:=["top","bottom","shared"]
abbrev lc:List Str:=["is_whole","NoNumber","greatest_shared","abs"]
abbrev fH:List Str:=["top","bottom"]
def sJ(hsc:Sc X fI)(g:Gd X lh lc k)(dc:DefCx X)(c1:Cal X "greatest_shared" dQ cK k)(c0:Cal X "is_whole" m5 jd k)(n0:Nn X "abs"):MSs X (aK fI) m_number_of :=
 (MS2.h (m1c (s_1 (bA (MW.mt (gf (dU (dA (kCa g 0 c0 (af (kV g 0) aj)))) (gT (dU (dA (kCa g 0 c0 (af (kV g 1) aj))))))) (MS2.h (m1n (s_1 vB))) aZ))
 (m1c (s_1 (bA (kTc (eR g.room) (kV g 1) ag) (MS2.h (m1n (s_1 vB))) aZ))
 (m1c (a_1 g 2 (e_1 (kCa g 2 c1 (af (kCb g 3 iQ n0 iL (af (kV g 0) aj)) (af (kCb g 3 iQ n0 iL (af (kV g 1) aj)) aj)))))
 (m1c (s_1 (bA (kTc uG (kV g 1) ag) (MS2.h (m1n (a_1 g 2 (e_1 (me_un vo (kV g 2)))))) aZ))
 (m1n (r_1 (t_1 (al (e_1 (aw (fX g.room) (kV g 0) (kV g 2))) (al (e_1 (aw (fX g.room) (kV g 1) (kV g 2))) aH))))))))))
abbrev kR:Stmt:=top 9
abbrev sO:List Str:=["a","b"]
abbrev tz:List Str:=["number_of"]
abbrev ud:List Str:=["a","b"]
def b_minus(hsc:Sc X kR)(g:Gd X sO tz k)(dc:DefCx X)(c2:Cal X "number_of" fH cY k):MSs X (aK kR) m_minus :=
 (MS2.h (m1n (r_1 (e_1 (kCa g 0 c2 (af (aw eN (aw bt (kIx (kV g 0) ag) (kIx (kV g 1) ag)) (aw bt (kIx (kV g 1) ag) (kIx (kV g 0) ag))) (af (aw bt (kIx (kV g 0) ag) (kIx (kV g 1) ag)) aj)))))))
abbrev dq:Stmt:=top 11
abbrev g8:List Str:=["numbers","bottom","number"]
abbrev hR:List Str:=["greatest_shared"]
abbrev ij:List Str:=["numbers"]
def mI(hsc:Sc X dq)(g:Gd X g8 hR k)(dc:DefCx X)(c1:Cal X "greatest_shared" dQ cK k):MSs X (aK dq) m_shared_bottom :=
 (MS2.h (m1c (a_1 g 1 (e_1 ag))
 (m1c (s_1 (cr g (bJ (kV g 0)) (kNm g 2) (MS2.h (m1n (a_1 g 1 (e_1 (aw (fX g.room) (aw bt (kV g 1) (kIx (kV g 2) ag)) (kCa g 0 c1 (af (kV g 1) (af (kIx (kV g 2) ag) aj))))))))))
 (m1n (r_1 (e_1 (kV g 1)))))))
abbrev fF:Stmt:=top 12
abbrev ld:List Str:=["n","rows","k","parts","numbers","often","marks"]
abbrev lb:List Str:=["dict","range","shared_bottom","len"]
abbrev kY:List Str:=["n","rows","k"]
def sx(hsc:Sc X fF)(g:Gd X ld lb k)(dc:DefCx X)(c4:Cal X "shared_bottom" ij im k)(n9:Nn X "range")(n6:Nn X "len")(n2:Nn X "dict")(v_NOUGHT:jU X.K X.mg "NOUGHT" 0 1):MSs X (aK fF) m_whole_row :=
 (MS2.h (m1c (a_1 g 3 (e_1 (kCt g 0 (cj_dict g) n2 bt_dict (af (kIx (kIx (kV g 1) (kV g 2)) ag) aj))))
 (m1c (a_1 g 4 (b_1 bo (e_1 (kCp g hsc ["j"] ["parts"] ["NOUGHT"] [3] (kR1 g 1 n9 (af (kV g 0) aj)) fun Y y g=>have v_NOUGHT:jU Y.K Y.mg "NOUGHT" 0 1:=y.e3.symm▸y.e4.symm▸v_NOUGHT;⟨(kNm g 0),bx,(me_dG (kV g 1) (af (kV g 0) (af (nI g (q:=0) rfl v_NOUGHT) aj)))⟩)) (l_1 (al (e_1 (kIx (kIx (kV g 1) (kV g 2)) ag)) aH))))
 (m1c (a_1 g 5 (e_1 (kCa g 2 c4 (af (kV g 4) aj))))
 (m1c (s_1 (kSc g hsc 6 ["m"] ["often","k"] [] [5,2] (kR1 g 1 n9 (af (kCb g 3 cN n6 cO (af (kV g 1) aj)) aj)) fun Y y g=>⟨(kNm g 0),bx,(me_ifE (kTc (eR g.room) (kV g 0) (kV g 2)) (kV g 1) ag)⟩))
 (m1n (r_1 (e_1 (aw bo (kCp g hsc ["number"] ["often"] [] [5] (bJ (kV g 4)) fun Y y g=>⟨(kNm g 0),bx,(aw bt (kIx (kV g 0) ag) (aw (fX g.room) (kV g 1) (kIx (kV g 0) ag)))⟩) (kV g 6))))))))))
abbrev g7:Stmt:=top 13
abbrev oE:List Str:=["row","chosen","place","before"]
abbrev oH:List Str:=["zip"]
abbrev oV:List Str:=["row","chosen","place","before"]
def ww(hsc:Sc X g7)(g:Gd X oE oH k)(dc:DefCx X)(n11:Nn X "zip"):MSs X (aK g7) m_cleared :=
 (MS2.h (m1n (r_1 (e_1 (kCp g hsc ["one","other"] ["before","chosen","place","row"] [] [3,1,2,0] (vU g (j:=0) rfl n11 (af (kV g 0) (af (kV g 1) aj))) fun Y y g=>⟨(gC g (bD (kNm g 0) (bD (kNm g 1) fv))),bx,(aw (fX g.room) (aw eN (aw bt (kIx (kV g 3) (kV g 4)) (kV g 0)) (aw bt (kIx (kV g 5) (kV g 4)) (kV g 1))) (kV g 2))⟩)))))
abbrev ib:Stmt:=top 14
abbrev o5:List Str:=["n","rows","held","left","before","place","fit","chosen","other"]
abbrev pg:List Str:=["range","len","enumerate","list","cleared"]
abbrev pc:List Str:=["n","rows"]
def wq(hsc:Sc X ib)(g:Gd X o5 pg k)(dc:DefCx X)(c6:Cal X "cleared" oV jT k)(c5:Cal X "whole_row" kY ln k)(n9:Nn X "range")(n7:Nn X "list")(n3:Nn X "enumerate")(n6:Nn X "len"):MSs X (aK ib) m_reduced :=
 (MS2.h (m1c (a_1 g 2 (e_1 me_dic0))
 (m1c (s_1 (kSc g hsc 3 ["k"] ["n","rows"] ["whole_row"] [0,1] (kR1 g 0 n9 (af (kCb g 1 cN n6 cO (af (kV g 1) aj)) aj)) fun Y y g=>⟨(kNm g 0),bx,(kCa g 0 (y.c c5) (af (kV g 1) (af (kV g 2) (af (kV g 0) aj))))⟩))
 (m1c (a_1 g 4 (e_1 ag))
 (m1c (s_1 (cr g (kR1 g 0 n9 (af (kV g 0) aj)) (kNm g 5) (MS2.h (m1c (s_1 (kSc g hsc 6 ["k","row"] ["place"] [] [5] (kEn g 2 n3 (af (kV g 3) aj)) fun Y y g=>⟨(gC g (bD (kNm g 0) (bD (kNm g 1) fv))),(kL (kTc (d4 g.room) (kIx (kV g 1) (kV g 2)) ag)),(kV g 0)⟩))
 (m1n (s_1 (bA (wD (kV g 6)) (MS2.h (m1c (a_1 g 7 (e_1 (iR sl_pop sy_pop mj_popA (kV g 3) (af (kIx (kV g 6) ag) aj))))
 (m1c (s_1 (kSc g hsc 3 ["row"] ["chosen","place","before"] ["cleared"] [7,5,4] (bJ (kV g 3)) fun Y y g=>⟨(kNm g 0),bx,(kCa g 0 (y.c c6) (af (kV g 0) (af (kV g 1) (af (kV g 2) (af (kV g 3) aj)))))⟩))
 (m1c (s_1 (cr g (bJ (kCt g 3 (yz g) n7 iI (af (kV g 2) aj))) (kNm g 8) (MS2.h (m1n (s_1 (tK (kV g 2) (kV g 8) (kCa g 4 c6 (af (qR (kV g 2) (kV g 8)) (af (kV g 7) (af (kV g 5) (af (kV g 4) aj)))))))))))
 (m1c (s_1 (tK (kV g 2) (kV g 5) (kV g 7)))
 (m1n (a_1 g 4 (e_1 (kIx (kV g 7) (kV g 5)))))))))) aZ)))))))
 (m1z 2 (m1n (r_1 (t_1 (al (e_1 (kV g 2)) (al (e_1 (kV g 3)) aH)))))))))))
abbrev gg:Stmt:=top 15
abbrev nc:List Str:=["wholes","bottom"]
abbrev lZ:List Str:=[]
abbrev nh:List Str:=["wholes","bottom"]
def uV(hsc:Sc X gg)(g:Gd X nc lZ k)(dc:DefCx X)(c2:Cal X "number_of" fH cY k):MSs X (aK gg) m_all_over :=
 (MS2.h (m1n (r_1 (e_1 (kCp g hsc ["whole"] ["bottom"] ["number_of"] [1] (bJ (kV g 0)) fun Y y g=>⟨(kNm g 0),bx,(kCa g 0 (y.c c2) (af (kV g 0) (af (kV g 1) aj)))⟩)))))
abbrev gn:Stmt:=top 16
abbrev nF:List Str:=["held","place","column"]
abbrev m6:List Str:=["NOUGHT","number_of"]
abbrev i4:List Str:=["held","place","column"]
def uN(hsc:Sc X gn)(g:Gd X nF m6 k)(dc:DefCx X)(c2:Cal X "number_of" fH cY k)(v_NOUGHT:jU X.K X.mg "NOUGHT" 0 1):MSs X (aK gn) m_value_at :=
 (MS2.h (m1c (s_1 (bA (kTc (vS true) (kV g 1) (kV g 0)) (MS2.h (m1n (r_1 (e_1 (nI g (q:=0) rfl v_NOUGHT))))) aZ))
 (m1n (r_1 (e_1 (kCa g 1 c2 (af (kIx (qR (kV g 0) (kV g 1)) (kV g 2)) (af (kIx (qR (kV g 0) (kV g 1)) (kV g 1)) aj))))))))
abbrev fJ:Stmt:=top 17
abbrev lf:List Str:=["n","held","free","way"]
abbrev k7:List Str:=["range","ONE"]
abbrev kZ:List Str:=["n","held","free"]
def sH(hsc:Sc X fJ)(g:Gd X lf k7 k)(dc:DefCx X)(c9:Cal X "value_at" i4 gi k)(c3:Cal X "minus" ud tq k)(n9:Nn X "range")(v_ONE:jU X.K X.mg "ONE" 1 1)(v_NOUGHT:jU X.K X.mg "NOUGHT" 0 1):MSs X (aK fJ) m_way_along :=
 (MS2.h (m1c (s_1 (kSc g hsc 3 ["place"] ["held","free"] ["minus","NOUGHT","value_at"] [1,2] (kR1 g 0 n9 (af (kV g 0) aj)) fun Y y g=>have v_NOUGHT:jU Y.K Y.mg "NOUGHT" 0 1:=y.e3.symm▸y.e4.symm▸v_NOUGHT;⟨(kNm g 0),bx,(kCa g 0 (y.c c3) (af (nI g (q:=1) rfl v_NOUGHT) (af (kCa g 2 (y.c c9) (af (kV g 1) (af (kV g 0) (af (kV g 2) aj)))) aj)))⟩))
 (m1c (s_1 (gD (nI g (q:=1) rfl v_ONE) (gR (kV g 3) (kV g 2))))
 (m1n (r_1 (e_1 (kV g 3)))))))
abbrev i6:Stmt:=top 18
abbrev qI:List Str:=["n","rows","told","held","row","x","mixes","ways"]
abbrev rq:List Str:=["reduced","all_over","range"]
abbrev q0:List Str:=["n","rows"]
def xZ(hsc:Sc X i6)(g:Gd X qI rq k)(dc:DefCx X)(c10:Cal X "way_along" kZ kX k)(c8:Cal X "all_over" nh jt k)(c9:Cal X "value_at" i4 gi k)(c7:Cal X "reduced" pc oS k)(n9:Nn X "range"):MSs X (aK i6) m_answer :=
 (MS2.h (m1c (a_1 g 2 (e_1 (kCa g 0 c7 (af (kV g 0) (af (kV g 1) aj)))))
 (m1c (a_1 g 3 (e_1 (kIx (kV g 2) ag)))
 (m1c (s_1 (cr g (bJ (kIx (kV g 2) ag)) (kNm g 4) (MS2.h (m1n (s_1 (bA (kTc (d4 g.room) (kIx (kV g 4) (kV g 0)) ag) (MS2.h (m1n (r_1 (t_1 (al (e_1 gZ) (al (e_1 (kCa g 1 c8 (af (jB (kV g 4) (fg (aw bo (kV g 0) ag)) fu) (af (kIx (kV g 4) (kV g 0)) aj)))) aH)))))) aZ))))))
 (m1c (s_1 (kSc g hsc 5 ["place"] ["held","n"] ["value_at"] [3,0] (kR1 g 2 n9 (af (kV g 0) aj)) fun Y y g=>⟨(kNm g 0),bx,(kCa g 0 (y.c c9) (af (kV g 1) (af (kV g 0) (af (kV g 2) aj))))⟩))
 (m1c (s_1 (kSc g hsc 6 ["place","row"] ["n"] ["all_over"] [0] (xQ (kV g 3)) fun Y y g=>⟨(gC g (bD (kNm g 0) (bD (kNm g 1) fv))),bx,(kCa g 0 (y.c c8) (af (jB (kV g 1) (fg (aw bo (kV g 2) ag)) fu) (af (kIx (kV g 1) (kV g 0)) aj)))⟩))
 (m1c (s_1 (kSc g hsc 7 ["free"] ["n","held"] ["way_along"] [0,3] (kR1 g 2 n9 (af (kV g 0) aj)) fun Y y g=>⟨(kNm g 0),(kL (kTc (vS true) (kV g 0) (kV g 2))),(ME1.h (t_1 (al (e_1 (kV g 0)) (al (e_1 (kCa g 0 (y.c c10) (af (kV g 1) (af (kV g 2) (af (kV g 0) aj))))) aH))))⟩))
 (m1c (s_1 (bA (wD (kV g 7)) (MS2.h (m1n (r_1 (t_1 (al (e_1 gZ) (al (e_1 (kV g 5)) (al (e_1 (kV g 7)) (al (e_1 (kV g 6)) aH)))))))) aZ))
 (m1n (r_1 (t_1 (al (e_1 gZ) (al (e_1 (kV g 5)) (al (e_1 (kV g 6)) aH))))))))))))))
abbrev kq:Stmt:=top 20
abbrev ub:List Str:=["_law_script","_law_k","_law_cell"]
abbrev tZ:List Str:=["min","len","abs"]
abbrev tE:List Str:=["_law_script","_law_k"]
def b_l_pen(hsc:Sc X kq)(g:Gd X ub tZ k)(dc:DefCx X)(n0:Nn X "abs")(n6:Nn X "len")(n8:Nn X "min"):MSs X (aK kq) m_l_pen :=
 (MS2.h (m1c (a_1 g 2 (e_1 (aw bo (aw bt ag (kV g 1)) ag)))
 (m1c (s_1 (bA (kTc uG (kV g 1) (kCb g 0 (vw g) n8 wf (af (kCb g 1 cN n6 cO (af (kV g 0) aj)) (af ag aj)))) (MS2.h (m1n (a_1 g 2 (e_1 (kIx (kV g 0) (kV g 1)))))) (MS2.h (m1n (s_1 (bA (kTc pQ (kCb g 1 cN n6 cO (af (kV g 0) aj)) ag) (MS2.h (m1n (a_1 g 2 (e_1 (aw bo (aw cL (kIx (kV g 0) (aw cL (kV g 1) (kCb g 0 (vw g) n8 wf (af (kCb g 1 cN n6 cO (af (kV g 0) aj)) (af ag aj))))) (aw kh ag ag)) (aw bt ag (kV g 1))))))) aZ))))))
 (m1c (s_1 (bA (kTc oj_ge (kCb g 2 iQ n0 iL (af (kV g 2) aj)) (aw kh ag ag)) (MS2.h (m1n (r_1 (l_1 (al (e_1 ag) (al (e_1 (kCb g 2 iQ n0 iL (af (kV g 2) aj))) (al (e_1 ag) aH))))))) aZ))
 (m1n (r_1 (l_1 (al (e_1 ag) (al (e_1 (aw bo (aw cL (kV g 2) ag) (aw bt ag (kV g 1)))) (al (e_1 ag) aH))))))))))
abbrev jh:Stmt:=top 21
abbrev qK:List Str:=["_law_pen_here","_law_size","_law_number_here","_law_drawn"]
abbrev qo:List Str:=[]
abbrev fi:List Str:=["_law_pen_here","_law_size"]
def xO(hsc:Sc X jh)(g:Gd X qK qo k)(dc:DefCx X):MSs X (aK jh) m_l_draw :=
 (MS2.h (m1c (s_1 (gD (aw bo (kIx (kV g 0) ag) ag) (gR (kV g 0) ag)))
 (m1c (s_1 (bA (kTc (eR g.room) (kIx (kV g 0) ag) ag) (MS2.h (m1c (a_1 g 3 (e_1 (aw cL (kIx (kV g 0) ag) (kV g 1))))
 (m1c (s_1 (gD (aw (fX g.room) (kIx (kV g 0) ag) (kV g 1)) (gR (kV g 0) ag)))
 (m1n (r_1 (e_1 (kV g 3))))))) aZ))
 (m1c (a_1 g 2 (e_1 (aw cL (aw bt (aw bo (aw bo (kIx (kV g 0) ag) (aw bt ag (kIx (kV g 0) ag))) ag) ag) ag)))
 (m1c (a_1 g 2 (e_1 (aw cL (aw bt (kV g 2) (aw bo (aw bo (aw cL (kV g 2) ag) (kIx (kV g 0) ag)) ag)) ag)))
 (m1n (r_1 (e_1 (aw cL (aw (fX g.room) (aw cL (aw bt (kV g 2) (aw bo (aw cL (kV g 2) ag) ag)) ag) ag) (kV g 1))))))))))
abbrev f7:Stmt:=top 22
abbrev nE:List Str:=["_law_top","_law_bottom","_law_one","_law_other"]
abbrev mV:List Str:=["abs"]
abbrev dB:List Str:=["_law_top","_law_bottom"]
def uW(hsc:Sc X f7)(g:Gd X nE mV k)(dc:DefCx X)(n0:Nn X "abs"):MSs X (aK f7) m_l_lowest :=
 (MS2.h (m1c (s_1 (vX g 2 3 rfl rfl (by decide) (af (kCb g 0 iQ n0 iL (af (kV g 0) aj)) (af (kCb g 0 iQ n0 iL (af (kV g 1) aj)) aj)) (by rw[hsc];rfl) (by rw[hsc];rfl) (by revert hsc;unfold Sc;generalize X.env=env;intro h;cases env;cases h;rfl)))
 (m1c (s_1 (qu g (kTc pQ (kV g 3) ag) (MS2.h (m1n (s_1 (vX g 2 3 rfl rfl (by decide) (af (kV g 3) (af (aw cL (kV g 2) (kV g 3)) aj)) (by rw[hsc];rfl) (by rw[hsc];rfl) (by revert hsc;unfold Sc;generalize X.env=env;intro h;cases env;cases h;rfl)))))))
 (m1c (s_1 (bA (kTc uG (kV g 1) ag) (MS2.h (m1n (a_1 g 2 (e_1 (me_un vo (kV g 2)))))) aZ))
 (m1n (r_1 (t_1 (al (e_1 (aw (fX g.room) (kV g 0) (kV g 2))) (al (e_1 (aw (fX g.room) (kV g 1) (kV g 2))) aH)))))))))
abbrev f9:Stmt:=top 23
abbrev mM:List Str:=["_law_pen_here","_law_way"]
abbrev mR:List Str:=["_law_draw","_law_lowest"]
abbrev nz:List Str:=["_law_pen_here"]
def vb(hsc:Sc X f9)(g:Gd X mM mR k)(dc:DefCx X)(c13:Cal X "_law_draw" fi aQ k)(c14:Cal X "_law_lowest" dB bB k):MSs X (aK f9) m_l_number :=
 (MS2.h (m1c (a_1 g 1 (e_1 (kCa g 0 c13 (af (kV g 0) (af ag aj)))))
 (m1c (s_1 (bA (kTc (eR g.room) (kV g 1) ag) (MS2.h (m1n (r_1 (e_1 (kCa g 1 c14 (af (aw bo (aw eN (kCa g 0 c13 (af (kV g 0) (af (aw eN (aw bt ag (aw kh ag ag)) ag) aj))) (aw kh ag ag)) ag) (af (aw bo ag (kCa g 0 c13 (af (kV g 0) (af (aw eN (aw kh ag ag) ag) aj)))) aj))))))) aZ))
 (m1n (r_1 (e_1 (kCa g 1 c14 (af (aw eN (kCa g 0 c13 (af (kV g 0) (af ag aj))) ag) (af (aw bo ag (kCa g 0 c13 (af (kV g 0) (af (kIx (ME1.h (l_1 (al (e_1 ag) (al (e_1 ag) (al (e_1 ag) aH))))) (aw cL (kV g 1) ag)) aj)))) aj)))))))))
abbrev jA:Stmt:=top 24
abbrev rf:List Str:=["_law_a","_law_b"]
abbrev rF:List Str:=["_law_lowest"]
abbrev lz:List Str:=["_law_a","_law_b"]
def yf(hsc:Sc X jA)(g:Gd X rf rF k)(dc:DefCx X)(c14:Cal X "_law_lowest" dB bB k):MSs X (aK jA) m_l_plus :=
 (MS2.h (m1n (r_1 (e_1 (kCa g 0 c14 (af (aw bo (aw bt (kIx (kV g 0) ag) (kIx (kV g 1) ag)) (aw bt (kIx (kV g 1) ag) (kIx (kV g 0) ag))) (af (aw bt (kIx (kV g 0) ag) (kIx (kV g 1) ag)) aj)))))))
abbrev hG:Stmt:=top 25
abbrev pr:List Str:=["_law_a","_law_b"]
abbrev oX:List Str:=["_law_lowest"]
abbrev jX:List Str:=["_law_a","_law_b"]
def wB(hsc:Sc X hG)(g:Gd X pr oX k)(dc:DefCx X)(c14:Cal X "_law_lowest" dB bB k):MSs X (aK hG) m_l_times :=
 (MS2.h (m1n (r_1 (e_1 (kCa g 0 c14 (af (aw bt (kIx (kV g 0) ag) (kIx (kV g 1) ag)) (af (aw bt (kIx (kV g 0) ag) (kIx (kV g 1) ag)) aj)))))))
abbrev ia:Stmt:=top 26
abbrev oZ:List Str:=["_law_parts","_law_some","_law_found","_law_j","_law_number_here"]
abbrev pd:List Str:=["_law_plus","_law_times"]
abbrev oP:List Str:=["_law_parts","_law_some"]
def vI(hsc:Sc X ia)(g:Gd X oZ pd k)(dc:DefCx X)(c17:Cal X "_law_times" jX fO k)(c16:Cal X "_law_plus" lz gL k):MSs X (aK ia) m_l_comes :=
 (MS2.h (m1c (a_1 g 2 (t_1 (al (e_1 ag) (al (e_1 ag) aH))))
 (m1c (s_1 (cr g (bJ (kV g 0)) (gC g (bD (kNm g 3) (bD (kNm g 4) fv))) (MS2.h (m1n (a_1 g 2 (e_1 (kCa g 0 c16 (af (kV g 2) (af (kCa g 1 c17 (af (kV g 4) (af (kIx (kV g 1) (kV g 3)) aj))) aj)))))))))
 (m1n (r_1 (e_1 (kV g 2)))))))
abbrev fY:Stmt:=top 27
abbrev mY:List Str:=["_law_n","_law_numbers_here"]
abbrev mz:List Str:=["tuple","range"]
abbrev mm:List Str:=["_law_n","_law_numbers_here"]
def uF(hsc:Sc X fY)(g:Gd X mY mz k)(dc:DefCx X)(n9:Nn X "range")(n10:Nn X "tuple"):MSs X (aK fY) m_l_of_all :=
 (MS2.h (m1n (r_1 (e_1 (kCt g 0 yh n10 lB (af (kCp g hsc ["_law_j"] ["_law_numbers_here"] [] [1] (kR1 g 1 n9 (af (kV g 0) aj)) fun Y y g=>⟨(kNm g 0),(kL (kTc (d4 g.room) (kIx (kIx (kV g 1) (kV g 0)) ag) ag)),(ME1.h (t_1 (al (e_1 (kV g 0)) (al (e_1 (kIx (kV g 1) (kV g 0))) aH))))⟩) aj))))))
abbrev eY:Stmt:=top 28
abbrev j5:List Str:=["_law_n","_law_rows","_law_mix","_law_found","_law_k","_law_j","_law_number_here"]
abbrev j7:List Str:=["range","len","_law_plus","_law_times"]
abbrev gO:List Str:=["_law_n","_law_rows","_law_mix"]
def qt(hsc:Sc X eY)(g:Gd X j5 j7 k)(dc:DefCx X)(c17:Cal X "_law_times" jX fO k)(c16:Cal X "_law_plus" lz gL k)(n9:Nn X "range")(n6:Nn X "len"):MSs X (aK eY) m_l_together :=
 (MS2.h (m1c (a_1 g 3 (b_1 bt (l_1 (al (t_1 (al (e_1 ag) (al (e_1 ag) aH))) aH)) (e_1 (aw bo (kV g 0) ag))))
 (m1c (s_1 (cr g (kR1 g 0 n9 (af (kCb g 1 cN n6 cO (af (kV g 1) aj)) aj)) (kNm g 4) (MS2.h (m1c (s_1 (cr g (bJ (kIx (kIx (kV g 1) (kV g 4)) ag)) (gC g (bD (kNm g 5) (bD (kNm g 6) fv))) (MS2.h (m1n (s_1 (gD (kCa g 2 c16 (af (kIx (kV g 3) (kV g 5)) (af (kCa g 3 c17 (af (kV g 6) (af (kIx (kV g 2) (kV g 4)) aj))) aj))) (gR (kV g 3) (kV g 5))))))))
 (m1n (s_1 (gD (kCa g 2 c16 (af (kIx (kV g 3) (kV g 0)) (af (kCa g 3 c17 (af (kIx (kIx (kV g 1) (kV g 4)) ag) (af (kIx (kV g 2) (kV g 4)) aj))) aj))) (gR (kV g 3) (kV g 0)))))))))
 (m1n (r_1 (e_1 (kV g 3)))))))
abbrev d5:Stmt:=top 29
abbrev jC:List Str:=["_law_thing","_law_one"]
abbrev jD:List Str:=["isinstance","tuple","len","int","bool","_law_lowest"]
abbrev jF:List Str:=["_law_thing"]
def pG(hsc:Sc X d5)(g:Gd X jC jD k)(dc:DefCx X)(c14:Cal X "_law_lowest" dB bB k)(n5:Nn X "isinstance")(n1:Nn X "bool")(n4:Nn X "int")(n6:Nn X "len")(n10:Nn X "tuple"):MSs X (aK d5) m_l_is_number :=
 (MS2.h (m1c (s_1 (bA (MW.mt (gf (dU (dA (fL g (i:=0) (j:=1) rfl n5 rfl n10 lB o8 (kV g 0)))) (gT (kTc (d4 g.room) (kCb g 2 cN n6 cO (af (kV g 0) aj)) ag)))) (MS2.h (m1n (r_1 (e_1 eW)))) aZ))
 (m1c (s_1 (cr g (bJ (kV g 0)) (kNm g 1) (MS2.h (m1n (s_1 (bA (MW.mt (gf (dU (dA (fL g (i:=0) (j:=3) rfl n5 rfl n4 kf tT (kV g 1)))) (gT (dA (fL g (i:=0) (j:=4) rfl n5 rfl n1 ug qq (kV g 1)))))) (MS2.h (m1n (r_1 (e_1 eW)))) aZ))))))
 (m1n (r_1 (e_1 (m4 (kCm pQ (kIx (kV g 0) ag) ag) (qj (kCm (eR g.room) (kCa g 5 c14 (af (kIx (kV g 0) ag) (af (kIx (kV g 0) ag) aj))) (kV g 0))))))))))
abbrev fC:Stmt:=top 30
abbrev lj:List Str:=["_law_found","_law_many"]
abbrev li:List Str:=["isinstance","list","len"]
abbrev iu:List Str:=["_law_found","_law_many"]
def sB(hsc:Sc X fC)(g:Gd X lj li k)(dc:DefCx X)(c21:Cal X "_law_is_number" jF jE k)(n6:Nn X "len")(n5:Nn X "isinstance")(n7:Nn X "list"):MSs X (aK fC) m_l_numbers :=
 (MS2.h (m1n (r_1 (e_1 (m4 (fL g (i:=0) (j:=1) rfl n5 rfl n7 iI rM (kV g 0)) (m4 (kCm (eR g.room) (kCb g 2 cN n6 cO (af (kV g 0) aj)) (kV g 1)) (qj (kCm (oj_in g.room true) eW (kCp g hsc ["_law_one"] [] ["_law_is_number"] [] (bJ (kV g 0)) fun Y y g=>⟨(kNm g 0),bx,(kCa g 0 (y.c c21) (af (kV g 0) aj))⟩)))))))))
abbrev dj:Stmt:=top 31
abbrev hU:List Str:=["_law_n","_law_rows","_law_free","_law_mixes","_law_places","_law_place","_law_mix","_law_come"]
abbrev io:List Str:=["range","isinstance","list","len","zip","_law_numbers","_law_together"]
abbrev hX:List Str:=["_law_n","_law_rows","_law_free","_law_mixes"]
def ny(hsc:Sc X dj)(g:Gd X hU io k)(dc:DefCx X)(c20:Cal X "_law_together" gO dy k)(c22:Cal X "_law_numbers" iu dY k)(n11:Nn X "zip")(n4:Nn X "int")(n6:Nn X "len")(n5:Nn X "isinstance")(n7:Nn X "list")(n9:Nn X "range"):MSs X (aK dj) m_l_mixes_right :=
 (MS2.h (m1c (s_1 (kSc g hsc 4 ["_law_j"] ["_law_free"] [] [2] (kR1 g 0 n9 (af (kV g 0) aj)) fun Y y g=>⟨(kNm g 0),(kL (kTc (oj_in g.room true) (kV g 0) (kV g 1))),(kV g 0)⟩))
 (m1c (s_1 (bA (MW.mt (gf (dU (dA (fL g (i:=1) (j:=2) rfl n5 rfl n7 iI rM (kV g 3)))) (gT (kTc (d4 g.room) (kCb g 3 cN n6 cO (af (kV g 3) aj)) (kCb g 3 cN n6 cO (af (kV g 4) aj)))))) (MS2.h (m1n (r_1 (e_1 eW)))) aZ))
 (m1c (s_1 (cr g (vU g (j:=4) rfl n11 (af (kV g 4) (af (kV g 3) aj))) (gC g (bD (kNm g 5) (bD (kNm g 6) fv))) (MS2.h (m1c (s_1 (bA (dU (dA (kCa g 5 c22 (af (kV g 6) (af (kCb g 3 cN n6 cO (af (kV g 1) aj)) aj))))) (MS2.h (m1n (r_1 (e_1 eW)))) aZ))
 (m1c (a_1 g 7 (e_1 (kCa g 6 c20 (af (kV g 0) (af (kV g 1) (af (kV g 6) aj))))))
 (m1n (s_1 (bA (kTc (d4 g.room) (kCp g hsc ["_law_j"] ["_law_come"] [] [7] (bJ (kV g 4)) fun Y y g=>⟨(kNm g 0),bx,(kIx (kV g 1) (kV g 0))⟩) (kCp g hsc ["_law_j"] ["_law_place"] ["int"] [5] (bJ (kV g 4)) fun Y y g=>⟨(kNm g 0),bx,(ME1.h (t_1 (al (e_1 (kCt g 0 qX (y.n n4) kf (af (kCm (eR g.room) (kV g 0) (kV g 1)) aj))) (al (e_1 ag) aH))))⟩)) (MS2.h (m1n (r_1 (e_1 eW)))) aZ))))))))
 (m1n (r_1 (e_1 eW)))))))
abbrev eX:Stmt:=top 32
abbrev j6:List Str:=["_law_pen_here","_law_some","_law_found","_law_one"]
abbrev jW:List Str:=["_law_draw","len"]
abbrev j8:List Str:=["_law_pen_here","_law_some"]
def rV(hsc:Sc X eX)(g:Gd X j6 jW k)(dc:DefCx X)(c13:Cal X "_law_draw" fi aQ k)(n6:Nn X "len"):MSs X (aK eX) m_l_shuffled :=
 (MS2.h (m1c (a_1 g 2 (e_1 (dS aj)))
 (m1c (s_1 (cr g (bJ (kV g 1)) (kNm g 3) (MS2.h (m1n (s_1 (gv (iR vJ wN wK (kV g 2) (af (kCa g 0 c13 (af (kV g 0) (af (aw bo (kCb g 1 cN n6 cO (af (kV g 2) aj)) ag) aj))) (af (kV g 3) aj)))))))))
 (m1n (r_1 (e_1 (kV g 2)))))))
abbrev mW:Stmt:=top 33
abbrev vk:List Str:=["_law_pen_here","_law_n"]
abbrev vH:List Str:=["_law_lowest","_law_draw","_law_number"]
abbrev qY:List Str:=["_law_pen_here","_law_n"]
def b_l_of(hsc:Sc X mW)(g:Gd X vk vH k)(dc:DefCx X)(c15:Cal X "_law_number" nz mD k)(c13:Cal X "_law_draw" fi aQ k)(c14:Cal X "_law_lowest" dB bB k):MSs X (aK mW) m_l_of :=
 (MS2.h (m1c (s_1 (bA (kTc pQ (kV g 1) ag) (MS2.h (m1n (r_1 (e_1 (kCa g 0 c14 (af (aw eN (kCa g 1 c13 (af (kV g 0) (af ag aj))) ag) (af (aw bo ag (kCa g 1 c13 (af (kV g 0) (af ag aj)))) aj))))))) aZ))
 (m1n (r_1 (e_1 (kCa g 2 c15 (af (kV g 0) aj)))))))
abbrev jb:Stmt:=top 34
abbrev pZ:List Str:=["_law_pen_here","_law_n","_law_x","_law_places","_law_rows","_law_k","_law_more","_law_row","_law_numbers_here","_law_number_here","_law_j","_law_mix","_law_together_here"]
abbrev qN:List Str:=["_law_shuffled","list","range","_law_of","_law_draw","int","_law_of_all","_law_together"]
abbrev qB:List Str:=["_law_pen_here","_law_n","_law_x"]
def xx(hsc:Sc X jb)(g:Gd X pZ qN k)(dc:DefCx X)(c24:Cal X "_law_shuffled" j8 gN k)(c18:Cal X "_law_comes" oP pA k)(c13:Cal X "_law_draw" fi aQ k)(c20:Cal X "_law_together" gO dy k)(c19:Cal X "_law_of_all" mm gp k)(c25:Cal X "_law_of" qY iF k)(n9:Nn X "range")(n4:Nn X "int")(n7:Nn X "list"):MSs X (aK jb) m_l_made :=
 (MS2.h (m1c (a_1 g 3 (e_1 (kCa g 0 c24 (af (kV g 0) (af (yE g (i:=1) (j:=2) rfl n7 rfl n9 (af (kV g 1) aj)) aj)))))
 (m1c (a_1 g 4 (e_1 (dS aj)))
 (m1c (s_1 (cr g (kR1 g 2 n9 (af (kV g 1) aj)) (kNm g 5) (MS2.h (m1c (a_1 g 8 (b_1 bt (l_1 (al (t_1 (al (e_1 ag) (al (e_1 ag) aH))) aH)) (e_1 (kV g 1))))
 (m1c (a_1 g 9 (e_1 (kCa g 3 c25 (af (kV g 0) (af (kV g 1) aj)))))
 (m1c (s_1 (gD (kIx (ME1.h (l_1 (al (e_1 (kV g 9)) (al (t_1 (al (e_1 (aw bo ag (kCa g 4 c13 (af (kV g 0) (af ag aj))))) (al (e_1 ag) aH))) aH)))) (kCt g 5 qX n4 kf (af (kCm (eR g.room) (kIx (kV g 9) ag) ag) aj))) (gR (kV g 8) (kIx (kV g 3) (kV g 5)))))
 (m1c (s_1 (cr g (bJ (jB (kV g 3) fu (fg (kV g 5)))) (kNm g 10) (MS2.h (m1n (s_1 (bA (kTc (eR g.room) (kCa g 4 c13 (af (kV g 0) (af ag aj))) ag) (MS2.h (m1n (s_1 (gD (kCa g 3 c25 (af (kV g 0) (af (kV g 1) aj))) (gR (kV g 8) (kV g 10)))))) aZ))))))
 (m1n (s_1 (gv (iR fK fQ fM (kV g 4) (af (ME1.h (t_1 (al (e_1 (kCa g 6 c19 (af (kV g 1) (af (kV g 8) aj)))) (al (t_1 (al (e_1 ag) (al (e_1 ag) aH))) aH)))) aj))))))))))))
 (m1c (a_1 g 6 (e_1 (dS aj)))
 (m1c (s_1 (cr g (bJ (kV g 4)) (kNm g 7) (MS2.h (m1c (a_1 g 11 (b_1 bo (e_1 (kCp g hsc ["_law_one"] ["_law_pen_here"] ["_law_draw"] [0] (bJ (kV g 6)) fun Y y g=>⟨(kNm g 0),bx,(ME1.h (t_1 (al (e_1 (aw eN (kCa g 0 (y.c c13) (af (kV g 1) (af ag aj))) ag)) (al (e_1 ag) aH))))⟩)) (l_1 (al (t_1 (al (e_1 ag) (al (e_1 ag) aH))) aH))))
 (m1c (a_1 g 12 (e_1 (kCa g 7 c20 (af (kV g 1) (af (aw bo (kV g 6) (ME1.h (l_1 (al (e_1 (kV g 7)) aH)))) (af (kV g 11) aj))))))
 (m1n (s_1 (gv (iR fK fQ fM (kV g 6) (af (ME1.h (t_1 (al (e_1 (kCa g 6 c19 (af (kV g 1) (af (jB (kV g 12) fu (fg (kV g 1))) aj)))) (al (t_1 (al (e_1 ag) (al (e_1 ag) aH))) aH)))) aj))))))))))
 (m1c (s_1 (cr g (kR1 g 2 n9 (af (kCa g 4 c13 (af (kV g 0) (af ag aj))) aj)) (kNm g 5) (MS2.h (m1c (s_1 (kSc g hsc 11 ["_law_one"] ["_law_pen_here"] ["_law_draw"] [0] (bJ (kV g 6)) fun Y y g=>⟨(kNm g 0),bx,(ME1.h (t_1 (al (e_1 (aw eN (kCa g 0 (y.c c13) (af (kV g 1) (af ag aj))) ag)) (al (e_1 ag) aH))))⟩))
 (m1n (s_1 (gv (iR fK fQ fM (kV g 6) (af (ME1.h (t_1 (al (e_1 (kCa g 6 c19 (af (kV g 1) (af (jB (kCa g 7 c20 (af (kV g 1) (af (kV g 6) (af (kV g 11) aj)))) fu (fg (kV g 1))) aj)))) (al (t_1 (al (e_1 ag) (al (e_1 ag) aH))) aH)))) aj)))))))))
 (m1n (r_1 (e_1 (kCp g hsc ["_law_parts","_law_right"] ["_law_x"] ["_law_comes"] [2] (bJ (kCa g 0 c24 (af (kV g 0) (af (kV g 6) aj)))) fun Y y g=>⟨(gC g (bD (kNm g 0) (bD (kNm g 1) fv))),bx,(ME1.h (t_1 (al (e_1 (kV g 0)) (al (e_1 (kCa g 0 (y.c c18) (af (kV g 0) (af (kV g 2) aj)))) aH))))⟩)))))))))))
abbrev mQ:Stmt:=top 35
abbrev N_law:List Str:=["_law_script","_law_k","_law_pen_here","_law_n","_law_x","_law_rows","_law_handed","_law_found","_law_again"]
abbrev G_law:List Str:=["range","_law_pen","_law_draw","int","_law_made","list","answer","isinstance","tuple","len","_law_numbers","_law_mixes_right"]
abbrev P_law:List Str:=["_law_script"]
def b_law(hsc:Sc X mQ)(g:Gd X N_law G_law k)(dc:DefCx X)(c11:Cal X "answer" q0 gF k)(c23:Cal X "_law_mixes_right" hX dh k)(c22:Cal X "_law_numbers" iu dY k)(c26:Cal X "_law_made" qB lE k)(c25:Cal X "_law_of" qY iF k)(c13:Cal X "_law_draw" fi aQ k)(c12:Cal X "_law_pen" tE iK k)(n9:Nn X "range")(n7:Nn X "list")(n6:Nn X "len")(n5:Nn X "isinstance")(n10:Nn X "tuple")(n4:Nn X "int"):MSs X (aK mQ) m_law :=
 (MS2.h (m1c (s_1 (cr g (kR1 g 0 n9 (af ag aj)) (kNm g 1) (MS2.h (m1c (a_1 g 2 (e_1 (kCa g 1 c12 (af (kV g 0) (af (kV g 1) aj)))))
 (m1c (a_1 g 3 (i_1 (l_1 (al (e_1 (kCa g 2 c13 (af (kV g 2) (af ag aj)))) (al (e_1 ag) aH))) (e_1 (kCt g 3 qX n4 kf (af (kCm (eR g.room) (kCa g 2 c13 (af (kV g 2) (af ag aj))) ag) aj)))))
 (m1c (s_1 (kSc g hsc 4 ["_law_j"] ["_law_pen_here","_law_n"] ["_law_of"] [2,3] (kR1 g 0 n9 (af (kV g 3) aj)) fun Y y g=>⟨(kNm g 0),bx,(kCa g 0 (y.c c25) (af (kV g 1) (af (kV g 2) aj)))⟩))
 (m1c (a_1 g 5 (e_1 (kCa g 4 c26 (af (kV g 2) (af (kV g 3) (af (kV g 4) aj))))))
 (m1c (a_1 g 6 (e_1 (kCt g 5 tR n7 iI (af (kV g 5) aj))))
 (m1c (a_1 g 7 (e_1 (kCa g 6 c11 (af (kV g 3) (af (kV g 6) aj)))))
 (m1c (s_1 (bA (MW.mt (gf (dU (dA (fL g (i:=7) (j:=8) rfl n5 rfl n10 lB o8 (kV g 7)))) (gf (kTc (d4 g.room) (jB (kV g 7) fu (fg ag)) (ME1.h (t_1 (al (e_1 gZ) (al (e_1 (kV g 4)) aH))))) (gf (kTc (d4 g.room) (kCb g 9 cN n6 cO (af (kV g 7) aj)) ag) (gT (kTc (d4 g.room) (kV g 6) (kV g 5))))))) (MS2.h (m1n (r_1 (e_1 eW)))) aZ))
 (m1c (s_1 (bA (MW.mt (gf (dU (dA (kCa g 10 c22 (af (kIx (kV g 7) ag) (af (kV g 3) aj))))) (gT (dU (dA (kCa g 11 c23 (af (kV g 3) (af (kV g 5) (af (dS aj) (af (kIx (kV g 7) ag) aj)))))))))) (MS2.h (m1n (r_1 (e_1 eW)))) aZ))
 (m1c (s_1 (gv (iR fK fQ fM (kIx (kV g 7) ag) (af (ME1.h (t_1 (al (e_1 ag) (al (e_1 ag) aH)))) aj))))
 (m1c (s_1 (gv (iR fK fQ fM (kIx (kV g 7) ag) (af (dS aj) aj))))
 (m1c (a_1 g 8 (e_1 (kCa g 6 c11 (af (kV g 3) (af (kCt g 5 tR n7 iI (af (kV g 5) aj)) aj)))))
 (m1n (s_1 (bA (MW.mt (gf (kTc (d4 g.room) (jB (kV g 8) fu (fg ag)) (ME1.h (t_1 (al (e_1 gZ) (al (e_1 (kV g 4)) aH))))) (gT (dU (dA (kCa g 11 c23 (af (kV g 3) (af (kV g 5) (af (dS aj) (af (kIx (kV g 8) ag) aj)))))))))) (MS2.h (m1n (r_1 (e_1 eW)))) aZ)))))))))))))))))
 (m1c (s_1 (bA (kTc (d4 g.room) (kCa g 6 c11 (af ag (af (dS aj) aj))) (ME1.h (t_1 (al (e_1 gZ) (al (e_1 (dS aj)) (al (e_1 (dS aj)) aH)))))) (MS2.h (m1n (r_1 (e_1 eW)))) aZ))
 (m1n (r_1 (e_1 (kCm (eR g.room) (kCa g 6 c11 (af ag (af (ME1.h (l_1 (al (t_1 (al (t_1 (al (t_1 (al (e_1 ag) (al (t_1 (al (e_1 ag) (al (e_1 ag) aH))) aH))) aH)) (al (t_1 (al (e_1 ag) (al (e_1 ag) aH))) aH))) aH))) aj))) (ME1.h (t_1 (al (e_1 gZ) (al (l_1 (al (t_1 (al (e_1 ag) (al (e_1 ag) aH))) aH)) (al (l_1 (al (l_1 (al (t_1 (al (e_1 ag) (al (e_1 ag) aH))) aH)) aH)) aH))))))))))))
def bi_law:kG "law" mQ P_law:=fun _ _ _ _ _ _=>ar1 fun _=>rfl
def all_fn{K:qac}(b:Ba P w K mg base)
  (D0:DefAt K "is_whole" f8)
  (D1:DefAt K "greatest_shared" cH)
  (D2:DefAt K "number_of" fI)
  (D3:DefAt K "minus" kR)
  (D4:DefAt K "shared_bottom" dq)
  (D5:DefAt K "whole_row" fF)
  (D6:DefAt K "cleared" g7)
  (D7:DefAt K "reduced" ib)
  (D8:DefAt K "all_over" gg)
  (D9:DefAt K "value_at" gn)
  (D10:DefAt K "way_along" fJ)
  (D11:DefAt K "answer" i6)
  (D12:DefAt K "_law_pen" kq)
  (D13:DefAt K "_law_draw" jh)
  (D14:DefAt K "_law_lowest" f7)
  (D15:DefAt K "_law_number" f9)
  (D16:DefAt K "_law_plus" jA)
  (D17:DefAt K "_law_times" hG)
  (D18:DefAt K "_law_comes" ia)
  (D19:DefAt K "_law_of_all" fY)
  (D20:DefAt K "_law_together" eY)
  (D21:DefAt K "_law_is_number" d5)
  (D22:DefAt K "_law_numbers" fC)
  (D23:DefAt K "_law_mixes_right" dj)
  (D24:DefAt K "_law_shuffled" eX)
  (D25:DefAt K "_law_of" mW)
  (D26:DefAt K "_law_made" jb)
  (D27:DefAt K "law" mQ)
  (z0:Zn K "abs")
  (z1:Zn K "bool")
  (z2:Zn K "dict")
  (z3:Zn K "enumerate")
  (z4:Zn K "int")
  (z5:Zn K "isinstance")
  (z6:Zn K "len")
  (z7:Zn K "list")
  (z8:Zn K "min")
  (z9:Zn K "range")
  (z10:Zn K "tuple")
  (z11:Zn K "zip")
  (y_NOUGHT:iV K "NOUGHT" 0 1)
  (y_ONE:iV K "ONE" 1 1)
   :FnAt P w K mg base "law" P_law f_law 6:=by
 have v_NOUGHT:=y_NOUGHT.mg b.kin b.ns;have v_ONE:=y_ONE.mg b.kin b.ns;have a0:=fnN (k:=0) (N:=nH) (G:=mP) (ps:=m5) b D0 fun X e h g d=>vd h g d (e.n z5) (e.n z1) (e.n z4);have a1:=fnN (k:=0) (N:=fW) (G:=fV) (ps:=dQ) b D1 fun X e h g d=>kU h g d;have a2:=fnN (k:=1) (N:=lh) (G:=lc) (ps:=fH) b D2 fun X e h g d=>sJ h g d (a1.c e) (a0.c e) (e.n z0);have a3:=fnN (k:=2) (N:=sO) (G:=tz) (ps:=ud) b D3 fun X e h g d=>b_minus h g d (a2.c e);have a4:=fnN (k:=1) (N:=g8) (G:=hR) (ps:=ij) b D4 fun X e h g d=>mI h g d (a1.c e);have a5:=fnN (k:=2) (N:=ld) (G:=lb) (ps:=kY) b D5 fun X e h g d=>sx h g d (a4.c e) (e.n z9) (e.n z6) (e.n z2) (e.e3▸e.e4▸v_NOUGHT);have a6:=fnN (k:=0) (N:=oE) (G:=oH) (ps:=oV) b D6 fun X e h g d=>ww h g d (e.n z11);have a7:=fnN (k:=3) (N:=o5) (G:=pg) (ps:=pc) b D7 fun X e h g d=>wq h g d (a6.c e) (a5.c e) (e.n z9) (e.n z7) (e.n z3) (e.n z6);have a8:=fnN (k:=2) (N:=nc) (G:=lZ) (ps:=nh) b D8 fun X e h g d=>uV h g d (a2.c e);have a9:=fnN (k:=2) (N:=nF) (G:=m6) (ps:=i4) b D9 fun X e h g d=>uN h g d (a2.c e) (e.e3▸e.e4▸v_NOUGHT);have a10:=fnN (k:=3) (N:=lf) (G:=k7) (ps:=kZ) b D10 fun X e h g d=>sH h g d (a9.c e) (a3.c e) (e.n z9) (e.e3▸e.e4▸v_ONE) (e.e3▸e.e4▸v_NOUGHT);have a11:=fnN (k:=4) (N:=qI) (G:=rq) (ps:=q0) b D11 fun X e h g d=>xZ h g d (a10.c e) (a8.c e) (a9.c e) (a7.c e) (e.n z9);have a12:=fnN (k:=0) (N:=ub) (G:=tZ) (ps:=tE) b D12 fun X e h g d=>b_l_pen h g d (e.n z0) (e.n z6) (e.n z8);have a13:=fnN (k:=0) (N:=qK) (G:=qo) (ps:=fi) b D13 fun X e h g d=>xO h g d;have a14:=fnN (k:=0) (N:=nE) (G:=mV) (ps:=dB) b D14 fun X e h g d=>uW h g d (e.n z0);have a15:=fnN (k:=1) (N:=mM) (G:=mR) (ps:=nz) b D15 fun X e h g d=>vb h g d (a13.c e) (a14.c e);have a16:=fnN (k:=1) (N:=rf) (G:=rF) (ps:=lz) b D16 fun X e h g d=>yf h g d (a14.c e);have a17:=fnN (k:=1) (N:=pr) (G:=oX) (ps:=jX) b D17 fun X e h g d=>wB h g d (a14.c e);have a18:=fnN (k:=2) (N:=oZ) (G:=pd) (ps:=oP) b D18 fun X e h g d=>vI h g d (a17.c e) (a16.c e);have a19:=fnN (k:=0) (N:=mY) (G:=mz) (ps:=mm) b D19 fun X e h g d=>uF h g d (e.n z9) (e.n z10);have a20:=fnN (k:=2) (N:=j5) (G:=j7) (ps:=gO) b D20 fun X e h g d=>qt h g d (a17.c e) (a16.c e) (e.n z9) (e.n z6);have a21:=fnN (k:=1) (N:=jC) (G:=jD) (ps:=jF) b D21 fun X e h g d=>pG h g d (a14.c e) (e.n z5) (e.n z1) (e.n z4) (e.n z6) (e.n z10);have a22:=fnN (k:=2) (N:=lj) (G:=li) (ps:=iu) b D22 fun X e h g d=>sB h g d (a21.c e) (e.n z6) (e.n z5) (e.n z7);have a23:=fnN (k:=3) (N:=hU) (G:=io) (ps:=hX) b D23 fun X e h g d=>ny h g d (a20.c e) (a22.c e) (e.n z11) (e.n z4) (e.n z6) (e.n z5) (e.n z7) (e.n z9);have a24:=fnN (k:=1) (N:=j6) (G:=jW) (ps:=j8) b D24 fun X e h g d=>rV h g d (a13.c e) (e.n z6);have a25:=fnN (k:=2) (N:=vk) (G:=vH) (ps:=qY) b D25 fun X e h g d=>b_l_of h g d (a15.c e) (a13.c e) (a14.c e);have a26:=fnN (k:=3) (N:=pZ) (G:=qN) (ps:=qB) b D26 fun X e h g d=>xx h g d (a24.c e) (a18.c e) (a13.c e) (a20.c e) (a19.c e) (a25.c e) (e.n z9) (e.n z4) (e.n z7);have a27:=fnN (k:=5) (N:=N_law) (G:=G_law) (ps:=P_law) b D27 fun X e h g d=>b_law h g d (a11.c e) (a23.c e) (a22.c e) (a26.c e) (a25.c e) (a13.c e) (a12.c e) (e.n z9) (e.n z7) (e.n z6) (e.n z5) (e.n z10) (e.n z4);exact a27
end Law
namespace PySem.W.Fast
def tw4223670624488507919:=0
def tw8274685901456777287:=0
def tw18382406628224468076:=0
def tw14191543752025687242:=0
def tw12707918963611847170:=0
def tw4913801863921377554:=0
def tw1174915195702632780:=0
def tw4897670120307643497:=0
def tw14056925604557112539:=0
def tw15878282680032858873:=0
def tw2524121402173547856:=0
def tw15321694520067228135:=0
def tw5804481947941565050:=0
def tw3693209131690904769:=0
def tw9578563323643230900:=0
def tw10208622678249917352:=0
def tw9535675150487457586:=0
def tw16668783723998865343:=0
def tw10592247414837838797:=0
def tw473731859109754586:=0
def tw13518109960056166439:=0
def tw15865438292868851859:=0
def tw12205994285996825631:=0
def tw4364083166105270475:=0
def tw14571394411008938009:=0
def tw10197175879109837388:=0
def tw1800116446204828605:=0
def tw13350588394766553639:=0
def tw6878851172869936916:=0
def tw6741515547501433991:=0
def tw12499319937724951394:=0
def tw12146672659395676449:=0
def tw17046742928569307015:=0
def tw1125288712862774467:=0
def tw385544020404675999:=0
def tw17957250677326542283:=0
def tw1342048836425102335:=0
def tw14654642563366014770:=0
def tw556755482629361282:=0
def tw11538536705421441728:=0
def tw15177505191773776091:=0
def tw14092969017348372738:=0
def tw1243879792034151696:=0
def tw5120325473407376944:=0
def tw15732309129321087924:=0
def tw6917654324689178714:=0
def tw8380072263587815852:=0
def tw11147511417541685907:=0
def tw12756565241463339386:=0
def tw17512970772477355389:=0
def tw6464704263751318268:=0
def tw12736509458657771046:=0
def tw12246982699209508473:=0
def tw2499479301105719282:=0
def tw16207680604658760328:=0
def tw15736973014642393482:=0
def tw8283334880752704157:=0
def tw7004654255986944095:=0
def tw6633290854523983287:=0
def tw3804488102818732139:=0
def tw12118789709092931905:=0
def tw15770109452924163882:=0
def tw10396275894762731999:=0
def tw17502153278306821841:=0
def tw801824718097967998:=0
def tw2485598382636083098:=0
def tw7628417564524798114:=0
def tw10040704722562806980:=0
def tw10962479933145017084:=0
end PySem.W.Fast
open PySem PySem.W PyProof.Rows
local macro_rules | `(tactic| and_intros) => `(tactic| (dsimp only [L2.KOf]; first | k_is | (refine' MM.defAt_mk ?a ?l ?c ?k; (case a => k_is); (case l => k_is); (case c => k_is); (case k => k_is))))
set_option maxRecDepth 100000 in
set_option maxHeartbeats 0 in
theorem PySem.Challenge.cw_fewfills_k38_one_answer_holds : PySem.Challenge.rw_fewfills_k38_one_answer.Holds := by
  w_on; o_law; k_head; (case hw=>w_witness2)
  k_fill
  refine MM.walk_M (l:=PySem.Challenge.rw_fewfills_k38_one_answer) (k:=6) (x:="_law_script") (F:=Law.f_law) rfl rfl ⟨rfl,by decide,by decide,rfl⟩ (by decide +kernel) rfl (fun w h Y=>PySem.W.kIn_of Y) ?F Law.law_true
  case F=>
    intro w mg fa h KX G hmg
    have Dlaw:MM.DefAt (L2.KOf KX) "law" Law.mQ:=by and_intros
    have D0:MM.DefAt (L2.KOf KX) "is_whole" Law.f8:=by and_intros
    have D1:MM.DefAt (L2.KOf KX) "greatest_shared" Law.cH:=by and_intros
    have D2:MM.DefAt (L2.KOf KX) "number_of" Law.fI:=by and_intros
    have D3:MM.DefAt (L2.KOf KX) "minus" Law.kR:=by and_intros
    have D4:MM.DefAt (L2.KOf KX) "shared_bottom" Law.dq:=by and_intros
    have D5:MM.DefAt (L2.KOf KX) "whole_row" Law.fF:=by and_intros
    have D6:MM.DefAt (L2.KOf KX) "cleared" Law.g7:=by and_intros
    have D7:MM.DefAt (L2.KOf KX) "reduced" Law.ib:=by and_intros
    have D8:MM.DefAt (L2.KOf KX) "all_over" Law.gg:=by and_intros
    have D9:MM.DefAt (L2.KOf KX) "value_at" Law.gn:=by and_intros
    have D10:MM.DefAt (L2.KOf KX) "way_along" Law.fJ:=by and_intros
    have D11:MM.DefAt (L2.KOf KX) "answer" Law.i6:=by and_intros
    have D12:MM.DefAt (L2.KOf KX) "_law_pen" Law.kq:=by and_intros
    have D13:MM.DefAt (L2.KOf KX) "_law_draw" Law.jh:=by and_intros
    have D14:MM.DefAt (L2.KOf KX) "_law_lowest" Law.f7:=by and_intros
    have D15:MM.DefAt (L2.KOf KX) "_law_number" Law.f9:=by and_intros
    have D16:MM.DefAt (L2.KOf KX) "_law_plus" Law.jA:=by and_intros
    have D17:MM.DefAt (L2.KOf KX) "_law_times" Law.hG:=by and_intros
    have D18:MM.DefAt (L2.KOf KX) "_law_comes" Law.ia:=by and_intros
    have D19:MM.DefAt (L2.KOf KX) "_law_of_all" Law.fY:=by and_intros
    have D20:MM.DefAt (L2.KOf KX) "_law_together" Law.eY:=by and_intros
    have D21:MM.DefAt (L2.KOf KX) "_law_is_number" Law.d5:=by and_intros
    have D22:MM.DefAt (L2.KOf KX) "_law_numbers" Law.fC:=by and_intros
    have D23:MM.DefAt (L2.KOf KX) "_law_mixes_right" Law.dj:=by and_intros
    have D24:MM.DefAt (L2.KOf KX) "_law_shuffled" Law.eX:=by and_intros
    have D25:MM.DefAt (L2.KOf KX) "_law_of" Law.mW:=by and_intros
    have D26:MM.DefAt (L2.KOf KX) "_law_made" Law.jb:=by and_intros
    have Z27:PySem.W.nsIn (L2.KOf KX) mainGlobals "abs" = some none:=by and_intros
    have Z28:PySem.W.nsIn (L2.KOf KX) mainGlobals "bool" = some none:=by and_intros
    have Z29:PySem.W.nsIn (L2.KOf KX) mainGlobals "dict" = some none:=by and_intros
    have Z30:PySem.W.nsIn (L2.KOf KX) mainGlobals "enumerate" = some none:=by and_intros
    have Z31:PySem.W.nsIn (L2.KOf KX) mainGlobals "int" = some none:=by and_intros
    have Z32:PySem.W.nsIn (L2.KOf KX) mainGlobals "isinstance" = some none:=by and_intros
    have Z33:PySem.W.nsIn (L2.KOf KX) mainGlobals "len" = some none:=by and_intros
    have Z34:PySem.W.nsIn (L2.KOf KX) mainGlobals "list" = some none:=by and_intros
    have Z35:PySem.W.nsIn (L2.KOf KX) mainGlobals "min" = some none:=by and_intros
    have Z36:PySem.W.nsIn (L2.KOf KX) mainGlobals "range" = some none:=by and_intros
    have Z37:PySem.W.nsIn (L2.KOf KX) mainGlobals "tuple" = some none:=by and_intros
    have Z38:PySem.W.nsIn (L2.KOf KX) mainGlobals "zip" = some none:=by and_intros
    have YNOUGHT:MM.iV (L2.KOf KX) "NOUGHT" 0 1:=by
      dsimp only [L2.KOf]
      refine' MM.t9 ?h ?l
      (case h=>k_is)
      (case l=>k_is)
    have YONE:MM.iV (L2.KOf KX) "ONE" 1 1:=by
      dsimp only [L2.KOf]
      refine' MM.t9 ?h ?l
      (case h=>k_is)
      (case l=>k_is)
    exact MM.head_M Dlaw Law.bi_law hmg KX G fun base kb nb=>Law.all_fn ⟨kb,nb⟩ D0 D1 D2 D3 D4 D5 D6 D7 D8 D9 D10 D11 D12 D13 D14 D15 D16 D17 D18 D19 D20 D21 D22 D23 D24 D25 D26 Dlaw Z27 Z28 Z29 Z30 Z31 Z32 Z33 Z34 Z35 Z36 Z37 Z38 YNOUGHT YONE
