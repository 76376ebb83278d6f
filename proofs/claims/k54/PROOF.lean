import PyProof.Rows.All
import Wide.All
import OpenK.AllK
import Wide.FinOn
import Lean
import PyProof.EqAt
import PyProof.EqKinds
import PyProof.TupleCall
import PyProof.ReprRoads
import PyProof.FitsInt
import PyProof.FitsBits
import PyProof.Rows.IntMath
import PyProof.ConsumeWalk
import PyProof.WalkInts
import PyProof.ListRange
import PySem.SetTable
import PyProof.SetKind
import PyProof.TupleKey
import PyProof.DictKinds
import PyProof.IsRules
import PyProof.Rows.SetFrom
import PyProof.CollectIter
import PyProof.ForAny
import PyProof.Rows.SortRuns
import PyProof.Rows.SortKey
import KE.KSortTup
import PyProof.ZipIter
import PyProof.Draws
import PyProof.EnumMake
import PyProof.TupleIter
import PyProof.P3Eq
import PyProof.StrCalls2
import PyProof.StrCalls3
import PyProof.FString
import PyProof.AttrMissHeap
import PyProof.DictUpdate
import PyProof.DictRoads
import KE.KDictOf
import PyProof.Walks
import PyProof.SetRoads
import PyProof.Rows.SeqMore
import KE.KDictList
import PyProof.DictItems
import KE.KPairComp
import PyProof.MeetsSeq
import PySem.Challenge.RW_fewfills_k54_whole_rows_answered_otherwi
set_option Elab.async false
set_option bootstrap.genMatcherCode false
set_option compiler.extract_closed false
set_option linter.all false
set_option maxRecDepth 100000
open PySem
abbrev qaa:=@List.getD_eq_getElem?_getD
abbrev qab:=@PySem.W.Frag
abbrev qac:=@Heap.get?_push_of_some
abbrev qad:=@wpAny_bind
abbrev qae:=@List.getElem?_eq_getElem
abbrev qaf:=@List.mem_cons_of_mem
abbrev qag:=@List.set_cons_succ
abbrev qah:=@List.set_cons_zero
abbrev qai:=@List.getElem?_set_ne
abbrev qaj:=@List.getElem?_eq_some_iff
abbrev qak:=@Nat.le_refl
abbrev qal:=@List.getElem?_append_left
abbrev qam:=@List.mem_cons
abbrev qan:=@if_pos
abbrev qao:=@List.map_cons
abbrev qap:=@List.getElem?_map
abbrev qaq:=@Heap.lt_size
abbrev qar:=@Bool.false_eq_true
abbrev qas:=@Option.map_eq_some_iff
abbrev qat:=@wpAny_pure
abbrev qau:=@List.mem_range
abbrev qav:=@List.size_toArray
abbrev qaw:=@Nat.lt_of_lt_of_le
abbrev qax:=@Heap.get?_push_size
abbrev qay:=@List.mem_append_right
abbrev qaz:=@if_neg
abbrev qaA:=@List.length_cons
abbrev qaB:=@List.mem_map
abbrev qaC:=@List.length_map
abbrev qaD:=@List.getElem?_set_self
abbrev qaE:=@List.map_map
abbrev qaF:=@List.getElem?_append_right
abbrev qaG:=@Int.toNat_natCast
abbrev qaH:=@List.length_nil
abbrev qaI:=@List.mem_cons_self
abbrev qaJ:=@Nat.le_trans
abbrev qaK:=@List.map_congr_left
abbrev qaL:=@List.getElem_mem
abbrev qaM:=@Nat.ne_of_lt
abbrev qaN:=@List.nodup_cons
abbrev qaO:=@Option.getD_some
abbrev qaP:=@List.lookup_cons
abbrev qaQ:=@List.mem_filter
abbrev qaR:=@Bool.false_ne_true
abbrev qaS:=@List.replicate_succ
abbrev qaT:=@Nat.ne_of_gt
abbrev qaU:=@List.nodup_range
abbrev qaV:=@List.pairwise_map
abbrev qaW:=@List.of_mem_zip
abbrev qaX:=@Heap.size_push
abbrev qaY:=@Nat.lt_irrefl
abbrev qaZ:=@List.getElem?_replicate
abbrev qba:=@Nat.mul_le_mul_right
abbrev qbb:=@Nat.zero_add
abbrev qbc:=@List.flatten_cons
abbrev qbd:=@Array.getElem?_toList
abbrev qbe:=@Int.natAbs_mul
abbrev qbf:=@List.mem_append
abbrev qbg:=@List.length_append
abbrev qbh:=@Option.bind_eq_some_iff
abbrev qbi:=@Bool.not_true
abbrev qbj:=@List.mem_of_getElem?
abbrev qbk:=@Nat.pow_le_pow_right
abbrev qbl:=@Nat.zero_le
abbrev qbm:=@List.ext_getElem
abbrev qbn:=@List.mem_append_left
abbrev qbo:=@List.mem_zipIdx_iff_getElem?
abbrev qbp:=@Nat.le_of_lt
abbrev qbq:=@List.length_range
abbrev qbr:=@List.length_zip
abbrev qbs:=@Int.fmod_eq_emod_of_nonneg
abbrev qbt:=@List.length_take
abbrev qbu:=@List.length_replicate
abbrev qbv:=@List.mem_iff_getElem?
abbrev qbw:=@Bool.beq_eq_decide_eq
abbrev qbx:=@Nat.mul_ne_zero
abbrev qby:=@Array.length_toList
abbrev qbz:=@List.length_eq_zero_iff
abbrev qbA:=@List.getElem?_range
abbrev qbB:=@Bool.and_eq_true
abbrev qbC:=@List.not_mem_nil
abbrev qbD:=@List.zip_cons_cons
abbrev qbE:=@Int.emod_lt_of_pos
abbrev qbF:=@Nat.lt_of_le_of_lt
abbrev qbG:=@List.append_nil
abbrev qbH:=@List.getElem?_eq_none
abbrev qbI:=@List.perm_ext_iff_of_nodup
abbrev qbJ:=@Bool.not_false
abbrev qbK:=@List.getElem_map
abbrev qbL:=@Heap.get?_update_ne
abbrev qbM:=@List.pairwise_cons
abbrev qbN:=@Int.emod_nonneg
abbrev qbO:=@Nat.div_le_self
abbrev qbP:=@Int.natAbs_natCast
abbrev qbQ:=@Int.natCast_mul
abbrev qbR:=@List.nodup_append
abbrev qbS:=@List.length_drop
abbrev qbT:=@Option.bind_some
abbrev qbU:=@List.mem_reverse
abbrev qbV:=@List.getElem_zip
abbrev qbW:=@List.range_eq_range'
abbrev qbX:=@List.mem_iff_getElem
abbrev qbY:=@List.filterMap_cons
abbrev qbZ:=@Nat.le_succ
abbrev qca:=@List.find?_cons
abbrev qcb:=@List.mem_filterMap
abbrev qcc:=@List.map_nil
abbrev qcd:=@Nat.eq_zero_or_pos
abbrev qce:=@List.getElem_range
abbrev qcf:=@List.drop_eq_getElem_cons
abbrev qcg:=@List.getElem?_zip_eq_some
abbrev qch:=@Int.natAbs_neg
abbrev qci:=@Nat.lt_succ_of_lt
abbrev qcj:=@Nat.gcd_pos_of_pos_right
abbrev qck:=@Int.mul_fdiv_cancel_left
abbrev qcl:=@Int.mul_ediv_cancel_left
abbrev qcm:=@Int.eq_ofNat_of_zero_le
abbrev qcn:=@Nat.pow_pos
abbrev qco:=@Option.getD_none
abbrev qcp:=@Nat.lt_succ_self
abbrev qcq:=@List.cons_append
abbrev qcr:=@List.take_length
abbrev qcs:=@List.all_eq_true
abbrev qct:=@Int.natCast_ediv
abbrev qcu:=@Heap.get?_update_other
abbrev qcv:=@List.range_succ_eq_map
abbrev qcw:=@List.take_of_length_le
abbrev qcx:=@List.drop_eq_nil_of_le
abbrev qcy:=@Heap.get?_update_self
abbrev qcz:=@Nat.succ_mul
abbrev qcA:=@List.nil_append
abbrev qcB:=@Nat.mul_comm
abbrev qcC:=@Nat.lt_trans
abbrev qcD:=@List.forIn_cons
abbrev qcE:=@Option.map_some
abbrev qcF:=@Nat.pow_succ
abbrev qcG:=@Int.mul_eq_zero
abbrev qcH:=@List.forIn_nil
abbrev qcI:=@List.take_succ
abbrev qcJ:=@Nat.mul_le_mul
abbrev qcK:=@Nat.pow_add
abbrev qcL:=@Nat.add_assoc
abbrev qcM:=@Int.mul_comm
abbrev qcN:=@Nat.lt_or_ge
noncomputable section
local macro_rules | `(tactic| ext) => `(tactic| omega)
namespace L2
open PySem PySem.Spec PyProof.Rows
abbrev Key:=Sum Int Str
def mn:Key->Value->Bool
 | .inl k,v=>Value.isInt k v
 | .inr x,v=>Value.isStrOf x v
def keyH(w:World):Key->Int
 | .inl k=>hashInt k
 | .inr x=>hashStr w x
def bK:∀{k:Key} {v:Value},mn k v=true->(∃i t,k=Sum.inl i/\v=Value.int i t)\/(∃x t,k=Sum.inr x/\v=Value.str x t)
 | .inl i,v,h=>by
  obtain⟨t,e⟩:=Value.isInt_shape (k:=i) (v:=v) h;exact .inl ⟨i,t,rfl,e⟩
 | .inr x,v,h=>by
  obtain⟨t,e⟩:=Value.isStrOf_shape (x:=x) (v:=v) h;exact .inr ⟨x,t,rfl,e⟩
def vg(i:Int)(t:Tok):mn (.inl i) (.int i t)=true:=by simp[mn,Value.isInt]
def key_ll(a b:Int):decide ((Sum.inl a:Key)=Sum.inl b)=(a == b):=by
 by_cases e:a=b
 ·subst e;simp
 ·have h:¬(Sum.inl a:Key)=Sum.inl b:=fun q=>e (Sum.inl.inj q);rw[decide_eq_false h];exact (beq_eq_false_iff_ne.mpr e).symm
def key_rr(a b:Str):decide ((Sum.inr a:Key)=Sum.inr b)=decide (a=b):=by
 by_cases e:a=b
 ·subst e;simp
 ·have h:¬(Sum.inr a:Key)=Sum.inr b:=fun q=>e (Sum.inr.inj q);rw[decide_eq_false h,decide_eq_false e]
def key_lr(a:Int)(b:Str):decide ((Sum.inl a:Key)=Sum.inr b)=false:=decide_eq_false (fun q=>nomatch q)
def key_rl(a:Str)(b:Int):decide ((Sum.inr a:Key)=Sum.inl b)=false:=decide_eq_false (fun q=>nomatch q)
def cM(prog:Program)(w:World):PySem.KeyKind prog w Key where
 is:=mn
 hash:=keyH w
 inj:=fun v a b ha hb=>by
  rcases bK ha with ⟨i,t,rfl,rfl⟩|⟨x,t,rfl,rfl⟩
  ·rcases bK hb with ⟨j,u,rfl,e⟩|⟨y,u,rfl,e⟩
   ·injection e with e1 _;rw[e1]
   ·exact nomatch e
  ·rcases bK hb with ⟨j,u,rfl,e⟩|⟨y,u,rfl,e⟩
   ·exact nomatch e
   ·injection e with e1 _;rw[e1]
 byValue:=fun k v h=>by
  rcases bK h with ⟨i,t,rfl,rfl⟩|⟨x,t,rfl,rfl⟩ <;> rfl
 pyHash:=fun hv h=>by
  rcases bK hv with ⟨i,t,rfl,rfl⟩|⟨x,t,rfl,rfl⟩
  ·exact wpAny_pyHash_int h
  ·exact wpAny_pyHash_str h
 eqBool:=fun hu hv h=>by
  rcases bK hu with ⟨i,t,rfl,rfl⟩|⟨x,t,rfl,rfl⟩
  ·rcases bK hv with ⟨j,u,rfl,rfl⟩|⟨y,u,rfl,rfl⟩
   ·rw[key_ll] at h;exact wpAny_eqBool_int h
   ·rw[key_lr] at h;exact SeqAt.EqAt.int_str i t y u _ _ _ _ h
  ·rcases bK hv with ⟨j,u,rfl,rfl⟩|⟨y,u,rfl,rfl⟩
   ·rw[key_rl] at h;exact SeqAt.EqAt.str_int x t j u _ _ _ _ h
   ·rw[key_rr] at h;exact wpAny_eqBool_str h
 «strs»:=fun k x t v h=>by
  rcases bK h with ⟨i,u,rfl,e⟩|⟨y,u,rfl,e⟩
  ·exact nomatch e
  ·injection e with e1 _
   subst e1;cases v <;> rfl
def d8(prog:Program)(w:World)(i:Int)(t:Tok):(cM prog w).is (.inl i) (.int i t)=true:=vg i t
inductive V where
 | non | bl (b:Bool) | int (i:Int) | str (x:Str) | byt (b:Array UInt8) | flt (b:UInt64) | ref (a:Addr) | ty (n:String)
 deriving DecidableEq
def aR:V->Value->Prop
 | .non,u=>u=Value.none
 | .bl b,u=>u=Value.bool b
 | .int i,u=>∃t,u=Value.int i t
 | .str x,u=>∃t,u=Value.str x t
 | .byt b,u=>∃t,u=Value.bytes b t
 | .flt b,u=>∃t,u=Value.float b t
 | .ref a,u=>u=Value.ref a
 | .ty n,u=>u=Value.type n
abbrev aI:List V->List Value->Prop:=Paired aR
def aI.length(r:aI xs us):xs.length=us.length:=Paired.length r
def aI.get{xs:List V}{us:List Value}{i:Nat}{x:V}(r:aI xs us)(e:xs[i]?=some x):∃u,us[i]?=some u/\aR x u:=by
 induction r generalizing i with
 | nil=>cases e
 | cons r t ih =>
  cases i with
  | zero=>cases e;exact⟨_,rfl,r⟩
  | succ i=>have z:=@ih i e;exact z
def aI.set(r:aR x u)(i:Nat)(q:aI xs us):aI (xs.set i x) (us.set i u):=by
 induction q generalizing i with
 | nil=>exact .nil
 | cons a t ih =>
  cases i with
  | zero=>exact .cons r t
  | succ i=>exact .cons a (ih i)
def aI.append(r:aI xs us)(s:aI ys ws):aI (xs++ys) (us++ws):=by
 induction r with
 | nil=>exact s
 | cons r t ih=>exact .cons r ih
def aI.take(n:Nat)(r:aI xs us):aI (xs.take n) (us.take n):=by
 induction r generalizing n with
 | nil=>cases n <;> exact .nil
 | cons a t ih =>
  cases n with
  | zero=>exact .nil
  | succ n=>exact .cons a (ih n)
def aI.drop(n:Nat)(r:aI xs us):aI (xs.drop n) (us.drop n):=by
 induction r generalizing n with
 | nil=>cases n <;> exact .nil
 | cons a t ih =>
  cases n with
  | zero=>exact .cons a t
  | succ n=>exact ih n
def gn:Option V->Option Value->Prop
 | some v,some u=>aR v u
 | none,none=>True
 | _,_=>False
def KV{κ:Type}:List (κ × V)->List (κ × Value)->Prop:=Paired fun (p:κ × V) (q:κ × Value)=>p.1=q.1/\aR p.2 q.2
def kV:Key->V
 | .inl i=>.int i
 | .inr x=>.str x
inductive HO where
 | lst (xs:List V)
 | tup (xs:List V)
 | dK (kvs:List (Key × V)) | dT (kvs:List (List Key × V))
 | set (S:Int->Bool) (n:Nat)
 | ins (C dx:Addr) (fs:List (Str × V))
 | own (x:Addr)
 | xd (fs:List (Str × V))
 | met (f x:Addr)
 | rng (lo hi:Int)
 | frz (o:Obj) (u:HO)
 | tbl (ps:Array Value)
 | ext (φ:Heap->Prop)
abbrev Hp:=Addr->Option HO
def upd(H:Hp)(a:Addr)(o:HO):Hp:=fun b=>if b=a then some o else H b
def cz:upd H a o a=some o:=by unfold upd;rw[qan rfl]
def bj(h:b≠a):upd H a o b=H b:=by unfold upd;rw[qaz h]
def bX{H:Hp}{a b:Addr}{o:HO}(h:H a=some o)(h':H b=none):a≠b:=by
 intro e;subst e;rw[h] at h';cases h'
def gL(h:Heap)(a:Addr)(its:Array Value):Prop:=∃o,h.get? a=some o/\o.cls=.type "tuple"/\(∃n,o.data=.seq its n)/\o.dict=none
def gL.tup(t:gL h a its):IsTup h a its:=let ⟨o,e,c,d,_⟩:=t;⟨o,e,c,d⟩
def gL.lt(t:gL h a its):a<h.objs.size:=t.tup.lt
def gL.new(h:Heap)(its:Array Value):gL (h.push { cls:=.type "tuple",data:=.seq its}) h.objs.size its:=⟨_,qax h rfl,rfl,⟨_,rfl⟩,rfl⟩
section
variable (P:Program) (w:World)
def ObjOk(H:Hp)(h:Heap)(a:Addr):HO->Prop
 | .lst xs=>xs.length<=sizeLine/\∃(its:List Value) (n:Nat),aI xs its/\h.get? a=some { cls:=.type "list",data:=.seq its.toArray n}
 | .tup xs=>xs.length<=sizeLine/\∃its:List Value,aI xs its/\gL h a its.toArray
 | .dK kvs=>kvs.length<=sizeLine/\(a == sysModules)=false/\∃vs,KV kvs vs/\h.DictOf (cM P w) a vs
 | .dT kvs=>kvs.length<=sizeLine/\(a == sysModules)=false/\∃xs:List (List Key × Addr × Value),
   Paired (fun (p:List Key × V) (q:List Key × Addr × Value)=>p.1=q.1/\H q.2.1=some (.tup (p.1.map kV))/\aR p.2 q.2.2) kvs xs /\
   ∃o es ep,h.get? a=some o/\o.ExactDict/\o.data=.dict es ep/\es.toList=xs.map (entryOfKey (tupleKind (cM P w)))/\(xs.map (·.1)).Nodup
 | .set S n=>h.SetOf (intKind P w) a S n
 | .ins C dx fs=>H dx=some (.own a)/\fs.length<=1000/\dx≠a/\h.get? a=some (PySem.W.instObj C dx) /\
   ∃mA,h.Ns1 dx mA/\(∀f,gn (fs.lookup f) (mA f))/\PySem.Within mA (fs.map (·.1))
 | .own _=>∃o,h.get? a=some o
 | .xd fs=>∃mA,h.Ns1 a mA/\∀f,gn (fs.lookup f) (mA f)
 | .rng lo hi=>∃t u v,h.get? a=some { cls:=.type "range",data:=.fields #[.int lo t,.int hi u,.int 1 v]}
 | .frz o u=>h.get? a=some o/\ObjOk H h a u
 | .tbl ps=>h.get? a=some { cls:=.none,data:=.fields ps}
 | .met f x=>h.get? a=some (PySem.W.methodObj (.ref f) (.ref x))
 | .ext φ=>φ h/\(∃o,h.get? a=some o)/\∀h1 h2:Heap,φ h1->(∀o,h1.get? a=some o->h2.get? a=some o)->φ h2
def HOk(H:Hp)(h:Heap):Prop:=∀a o,H a=some o->ObjOk P w H h a o
end
section
variable {P:Program} {w:World} {H H':Hp} {h h':Heap} {a:Addr} {o:HO}
def ObjOk.lt(x:ObjOk P w H h a o):a<h.objs.size:=by
 cases o with
 | lst xs=>obtain⟨_,_,_,_,e⟩:=x;exact qaq e
 | tup xs=>obtain⟨_,_,_,p⟩:=x;exact p.lt
 | dK kvs=>obtain⟨_,_,_,_,o,_,_,e,_⟩:=x;exact qaq e
 | dT kvs=>obtain⟨_,_,_,_,o,_,_,e,_⟩:=x;exact qaq e
 | set S n=>obtain⟨o,_,_,_,e,_⟩:=x;exact qaq e
 | ins C dx fs=>obtain⟨_,_,_,e,_⟩:=x;exact qaq e
 | own y=>obtain⟨_,e⟩:=x;exact qaq e
 | xd fs=>obtain⟨_,⟨_,_,_,e,_⟩,_⟩:=x;exact qaq e
 | rng lo hi=>obtain⟨_,_,_,e⟩:=x;exact qaq e
 | frz ob u=>obtain⟨e,_⟩:=x;exact qaq e
 | tbl ps=>exact qaq (show h.get? a=some _ from x)
 | met f y=>exact qaq (show h.get? a=some _ from x)
 | ext φ=>obtain⟨_,⟨_,e⟩,_⟩:=x;exact qaq e
def Paired.mapP{α β:Type}{F G:α->β->Prop}{l₁:List α}{l₂:List β}(r:Paired F l₁ l₂)(f:∀a b,F a b->G a b):Paired G l₁ l₂:=by
 induction r with
 | nil=>exact .nil
 | cons r t ih=>exact .cons (f _ _ r) ih
def ObjOk.stay(x:ObjOk P w H h a o)(k:∀b u,(b=a\/H b=some (.own a))->h.get? b=some u->h'.get? b=some u)
  (ho:∀b,H b=some (.own a)->H' b=some (.own a)) (ht:∀b xs,H b=some (.tup xs)->H' b=some (.tup xs)):ObjOk P w H' h' a o:=by
 induction o with
 | lst xs=>obtain⟨z,its,n,r,e⟩:=x;exact⟨z,its,n,r,k _ _ (.inl rfl) e⟩
 | tup xs=>obtain⟨z,its,r,ob,e,c⟩:=x;exact⟨z,its,r,ob,k _ _ (.inl rfl) e,c⟩
 | dK kvs=>obtain⟨z,y,vs,r,ob,es,ep,e,c⟩:=x;exact⟨z,y,vs,r,ob,es,ep,k _ _ (.inl rfl) e,c⟩
 | dT kvs =>
  obtain⟨z,y,xs,r,ob,es,ep,e,c⟩:=x;exact⟨z,y,xs,Paired.mapP r fun p q z=>⟨z.1,ht _ _ z.2.1,z.2.2⟩,ob,es,ep,k _ _ (.inl rfl) e,c⟩
 | set S n=>obtain⟨ob,es,ep,t,e,c⟩:=x;exact⟨ob,es,ep,t,k _ _ (.inl rfl) e,c⟩
 | ins C dx fs =>
  obtain⟨d,z,ne,e,mA,⟨od,es,ep,e2,c⟩,r⟩:=x;exact⟨ho _ d,z,ne,k _ _ (.inl rfl) e,mA,⟨od,es,ep,k _ _ (.inr d) e2,c⟩,r⟩
 | own y=>obtain⟨ob,e⟩:=x;exact⟨ob,k _ _ (.inl rfl) e⟩
 | xd fs=>obtain⟨mA,⟨od,es,ep,e,c⟩,r⟩:=x;exact⟨mA,⟨od,es,ep,k _ _ (.inl rfl) e,c⟩,r⟩
 | rng lo hi=>obtain⟨t,u,v,e⟩:=x;exact⟨t,u,v,k _ _ (.inl rfl) e⟩
 | frz ob u ih=>obtain⟨e,q⟩:=x;exact⟨k _ _ (.inl rfl) e,ih q⟩
 | tbl ps =>
  have e:h.get? a=some { cls:=.none,data:=.fields ps}:=x;show h'.get? a=some { cls:=.none,data:=.fields ps};exact k a _ (.inl rfl) e
 | met f y =>
  have e:h.get? a=some (PySem.W.methodObj (.ref f) (.ref y)):=x;show h'.get? a=some (PySem.W.methodObj (.ref f) (.ref y));exact k a _ (.inl rfl) e
 | ext φ=>obtain⟨p,⟨o,e⟩,st⟩:=x;exact⟨st _ _ p fun o q=>k _ _ (.inl rfl) q,⟨o,k _ _ (.inl rfl) e⟩,st⟩
def HOk.lt(x:HOk P w H h)(e:H a=some o):a<h.objs.size:=(x a o e).lt
def HOk.fresh(x:HOk P w H h)(e:h.objs.size<=a):H a=none:=by
 cases q:H a with
 | none=>rfl
 | some u=>exact absurd (qaw (x.lt q) e) (qaY _)
def HOk.kept(x:HOk P w H h)(k:∀b u,h.get? b=some u->h'.get? b=some u):HOk P w H h':=fun a o e =>
 (x a o e).stay (fun b u _ q=>k b u q) (fun _ q=>q) fun _ _ q=>q
def HOk.laid(x:HOk P w H h)(k:∀b u,h.get? b=some u->h'.get? b=some u)(hp:h.objs.size<=a)(new:ObjOk P w (upd H a o) h' a o):HOk P w (upd H a o) h':=fun b u e=>by
 have hn:=x.fresh hp;by_cases hb:b=a
 ·subst hb;rw[cz] at e;cases e;exact new
 ·rw[bj hb] at e;exact (x b u e).stay (fun c v _ q=>k c v q) (fun c q=>by rw[bj (bX q hn)];exact q) fun c xs q=>by rw[bj (bX q hn)];exact q
end
def Rd(H:Hp)(a:Addr)(u:HO):Prop:=H a=some u\/∃o,H a=some (.frz o u)
def Rd.ok(r:Rd H a u)(x:HOk P w H h):ObjOk P w H h a u:=by
 rcases r with r|⟨o,r⟩
 ·exact x a u r
 ·obtain⟨_,q⟩:=x a _ r;exact q
def Mut:Option HO->Prop
 | some (.lst _)=>True
 | some (.dK _)=>True
 | some (.dT _)=>True
 | some (.set _ _)=>True
 | some (.ins _ _ _)=>True
 | some (.ext _)=>True
 | _=>False
section
variable {P:Program} {w:World} {H:Hp} {h h':Heap} {x e:Addr} {o':HO}
def HOk.write(ok:HOk P w H h)(mu:Mut (H x))(he:e=x\/H e=some (.own x))(k:∀b u,b≠e->h.get? b=some u->h'.get? b=some u)(heo:∃u,h'.get? e=some u)
  (new:ObjOk P w (upd H x o') h' x o'):HOk P w (upd H x o') h':=fun b u q=>by
 have nown:∀c y,H c=some (.own y)->c≠x:=fun c y r z=>by subst z;rw[r] at mu;exact mu
 have ntup:∀c xs,H c=some (.tup xs)->c≠x:=fun c xs r z=>by subst z;rw[r] at mu;exact mu
 by_cases hb:b=x
 ·subst hb;rw[cz] at q;cases q;exact new
 ·rw[bj hb] at q;by_cases hbe:b=e
  ·have q':H b=some (.own x):=by
    rcases he with z|z
    ·exact absurd (hbe.trans z) hb
    ·rw[hbe];exact z
   rw[q] at q';cases q';obtain⟨v,hv⟩:=heo;exact⟨v,by rw[hbe];exact hv⟩
  ·refine (ok b u q).stay (fun c v hc r=>k c v ?_ r) (fun c r=>by rw[bj (nown c b r)];exact r) fun c xs r=>by rw[bj (ntup c xs r)];exact r
   rcases hc with rfl|hc
   ·exact hbe
   ·rintro rfl;rcases he with z|z
    ·exact nown c b hc z
    ·rw[hc] at z;cases z;exact hb rfl
end
structure Un (fs ex:List Addr) (H H':Hp) (h h':Heap):Prop where
 keep:∀b o,h.get? b=some o->H b=none->b∉fs->b∉ex->h'.get? b=some o
 slot:∀b o,h.get? b=some o->H b=none->b∈fs->b∉ex->∃sl,h'.get? b=some { o with slots:=sl}
 free:∀b o,h.get? b=some o->H b=none->b∉ex->H' b=none
 there:∀b o,h.get? b=some o->b∉ex->∃o',h'.get? b=some o'
 tups:∀b xs,H b=some (.tup xs)->H' b=some (.tup xs)
 frzs:∀b o u,H b=some (.frz o u)->H' b=some (.frz o u)
 tbls:∀b ps,H b=some (.tbl ps)->∃more,H' b=some (.tbl (ps++more))
section
variable {fs fs' ex ex':List Addr} {H H1 H2:Hp} {h h1 h2 h':Heap} {a x e:Addr} {o:HO}
def Un.any(u:Un fs ex H H1 h h1)(q:h.get? b=some ob)(n:H b=none)(hx:b∉ex):∃sl,h1.get? b=some { ob with slots:=sl}:=by
 by_cases hb:b∈fs
 ·exact u.slot b ob q n hb hx
 ·exact⟨ob.slots,u.keep b ob q n hb hx⟩
def Un.kept(k:∀b u,h.get? b=some u->h'.get? b=some u):Un fs ex H H h h' :=
 ⟨fun b ob q _ _ _=>k b ob q,fun b ob q _ _ _=>⟨ob.slots,k b ob q⟩,fun _ _ _ n _=>n,fun b ob q _=>⟨ob,k b ob q⟩,fun _ _ q=>q,fun _ _ _ q=>q,fun _ ps q=>⟨#[],by rw[q];simp⟩⟩
def Un.refl:Un fs ex H H h h:=Un.kept fun _ _ q=>q
def Un.laid(k:∀b u,h.get? b=some u->h'.get? b=some u)(hp:h.objs.size<=a)(hn:H a=none):Un fs ex H (upd H a o) h h' where
 keep:=fun b u q _ _ _=>k b u q
 slot:=fun b u q _ _ _=>⟨u.slots,k b u q⟩
 free:=fun b u q n _=>by rw[bj (qaM (qaw (qaq q) hp))];exact n
 there:=fun b u q _=>⟨u,k b u q⟩
 tups:=fun b xs q=>by rw[bj (bX q hn)];exact q
 frzs:=fun b u xs q=>by rw[bj (bX q hn)];exact q
 tbls:=fun b ps q=>⟨#[],by rw[bj (bX q hn),q];simp⟩
def Un.write(mu:Mut (H x))(he:e=x\/H e=some (.own x))(k:∀b u,b≠e->h.get? b=some u->h'.get? b=some u)(heo:∃u,h'.get? e=some u):Un fs ex H (upd H x o) h h':=by
 have hx:∀b,H b=none->b≠x:=fun b n z=>by subst z;rw[n] at mu;exact mu
 have hb:∀b,H b=none->b≠e:=fun b n z=>by
  subst z;rcases he with r|r
  ·exact hx b n r
  ·rw[n] at r;cases r
 have hm:∀b u,H b=some u->¬Mut (some u)->b≠x:=fun b u q nm z=>by subst z;rw[q] at mu;exact nm mu
 refine⟨fun b u q n _ _=>k b u (hb b n) q,fun b u q n _ _=>⟨u.slots,k b u (hb b n) q⟩,fun b u q n _=>by rw[bj (hx b n)];exact n,fun b u q _=>?_,
  fun b xs q=>by rw[bj (hm b _ q fun z=>z)];exact q,fun b u xs q=>by rw[bj (hm b _ q fun z=>z)];exact q,fun b ps q=>⟨#[],by rw[bj (hm b _ q fun z=>z),q];simp⟩⟩
 by_cases hbe:b=e
 ·subst hbe;exact heo
 ·exact⟨u,k b u hbe q⟩
end
def trk(h:Heap)(H:Hp):List Addr:=(List.range h.objs.size).filter fun a=>(H a).isSome
def jx(h:Heap)(H:Hp):Heap:=PySem.W.hideAll h (trk h H)
def vU(h:Heap)(H:Hp):(jx h H).objs.size=h.objs.size:=PySem.W.hideAll_size _ _
def wJ(e:h.get? b=some o)(n:H b=none):(jx h H).get? b=some o :=
 PySem.W.hideAll_get _ e fun hm=>by
  have q:(H b).isSome=true:=(qaQ.mp hm).2;rw[n] at q;simp at q
def of_hidT(e:(jx h H).get? b=some o):h.get? b=some o/\H b=none:=by
 have e':h.get? b=some o:=PySem.W.of_hideAll (trk h H) e;refine⟨e',?_⟩
 cases q:H b with
 | none=>rfl
 | some x =>
  have hm:b∈trk h H:=qaQ.mpr ⟨qau.mpr (qaq e'),by simp[q]⟩;have z:(jx h H).get? b=none:=PySem.W.hideAll_none (trk h H) hm;rw[z] at e;cases e
structure Mod (K:qab) (mg:Str->Option Value) (base:Heap):Prop where
 kin:K.In base
 glob:base.Ns mainGlobals mg
 blt:∃mb,base.Ns builtinsNs mb/\∀x:Str,x≠"__name__"->mb x=bootBuiltins x
 nolimit:base.NoLimit
 seer:base.NoSeer
structure Cx where
 prog:Program
 w:World
 K:qab
 mg:Str->Option Value
 base:Heap
 A:Around
 N:List Str
 s₀:Shared
 H₀:Hp
 env:Env
 outer:List Env
 stack:List Env
 ex:List Addr
 fn:Str->Bool
 calm:Bool
 pn:List (Addr × Obj)
 xe:Value->Shared->Prop
def frs(l:List Env):List Addr:=l.filterMap (·.frame)
abbrev Cx.fs(X:Cx):List Addr:=frs X.outer
def Vis(sc:Scope)(x:Str):Prop:=sc.names.lookup x=some .local\/sc.names.lookup x=some .cell\/sc.names.lookup x=some .free
def Loc(sc:Scope)(x:Str):Prop:=sc.names.lookup x=some .local\/sc.names.lookup x=some .cell
def Look(env:Env)(h:Heap)(m:Str->Option Value)(x:Str)(u:Value):Prop :=
 (env.kindOf x=some .local/\m x=some u)\/((env.kindOf x=some .cell\/env.kindOf x=some .free)/\∃c,env.cells.lookup x=some c/\h.IsCell c (some u))
structure Cx.Ok (X:Cx):Prop where
 mod:Mod X.K X.mg X.base
 kind:X.env.scope.kind=.function
 glob:X.env.globals=mainGlobals
 blt:X.env.builtins=builtinsNs
 above:X.s₀.heap.objs.size<=X.env.locals
 inj:∀x y c,X.env.cells.lookup x=some c->X.env.cells.lookup y=some c->x=y
 has:∀x,(X.env.kindOf x=some .cell\/X.env.kindOf x=some .free)->∃c,X.env.cells.lookup x=some c
 cab:∀x c,X.fn x=true->X.env.cells.lookup x=some c->X.s₀.heap.objs.size<=c
 hd:X.calm=true->X.A.handled=none
 frames:X.A.frames=some X.stack
 stk:X.stack=X.outer\/(X.stack=X.env::X.outer/\X.env.frame=some X.env.locals)
 exf:∀b∈X.ex,b≠X.env.locals/\∀x c,X.env.cells.lookup x=some c->c≠b
 bs:∀b o,X.base.get? b=some o->X.s₀.heap.get? b=some o/\X.H₀ b=none
 bsz:X.base.objs.size<=X.s₀.heap.objs.size
 noex:∀b o,X.base.get? b=some o->b∉X.ex
 exfs:∀b∈X.ex,b∉X.fs
 funs:X.s₀.heap.FunFrames X.base X.outer
 frf:∀b∈X.fs,X.H₀ b=none
 tree:X.prog.given.tree=none
 top:∃e l,X.stack=e::l/\e.scope.isGenerator=false/\e.scope.isCoroutine=false/\e.builtins=builtinsNs/\e.globals=mainGlobals
structure Inv (X:Cx) (Il:List (Addr × Obj)) (σ:List (Option V)) (H:Hp) (s:Shared):Prop where
 ok:X.Ok
 os:s.os=X.s₀.os
 bare:AllBare s.gens
 base:Un X.fs X.ex X.H₀ H X.s₀.heap s.heap
 loc:∃m,s.heap.Ns X.env.locals m/\∀(i:Nat) (x:Str) (v:V),X.N[i]?=some x->σ[i]?=some (some v)->Vis X.env.scope x->∃u,aR v u/\Look X.env s.heap m x u
 cell:∀x c,X.env.cells.lookup x=some c->∃v,s.heap.IsCell c v
 free:H X.env.locals=none
 freeC:∀x c,X.env.cells.lookup x=some c->H c=none
 pin:∀p∈X.pn++Il,s.heap.get? p.1=some p.2/\H p.1=none/\p.1≠X.env.locals/\p.1∉X.fs/\∀v,p.2.data≠.cell v
 hok:HOk X.prog X.w H s.heap
 len:σ.length=X.N.length
section
variable {X:Cx} {Il:List (Addr × Obj)} {σ:List (Option V)} {H H':Hp} {s:Shared} {h':Heap}
def Cx.Ok.nofr(ok:X.Ok)(e:X.base.get? b=some o):b∉X.fs:=fun hb=>by
 have:=(ok.funs.mem hb).1
 rw[e] at this;cases this
def Inv.bs(I:Inv X Il σ H s):∀b o,X.base.get? b=some o->s.heap.get? b=some o/\H b=none:=fun b o e =>
 ⟨I.base.keep b o (I.ok.bs b o e).1 (I.ok.bs b o e).2 (I.ok.nofr e) (I.ok.noex b o e),I.base.free b o (I.ok.bs b o e).1 (I.ok.bs b o e).2 (I.ok.noex b o e)⟩
def Inv.bk(I:Inv X Il σ H s):∀b o,X.base.get? b=some o->s.heap.get? b=some o:=fun b o e=>(I.bs b o e).1
def Inv.mod(I:Inv X Il σ H s):Mod X.K X.mg X.base:=I.ok.mod
def Inv.kIn(I:Inv X Il σ H s):X.K.In s.heap:=I.ok.mod.kin.keeps I.bk
def Inv.nolimit(I:Inv X Il σ H s):s.heap.NoLimit:=I.ok.mod.nolimit.keeps I.bk
def Inv.lt(I:Inv X Il σ H s):X.env.locals<s.heap.objs.size:=let ⟨_,hn,_⟩:=I.loc;hn.lt
def Inv.sz(I:Inv X Il σ H s):X.s₀.heap.objs.size<=s.heap.objs.size:=qaJ I.ok.above (qbp I.lt)
def Inv.nofs(I:Inv X Il σ H s){a:Addr}(h:s.heap.objs.size<=a):a∉X.fs:=fun hb=>by
 obtain⟨_,o,ho,_⟩:=I.ok.funs.mem hb;exact absurd (qaw (qaq ho) (qaJ I.sz h)) (qaY _)
def Inv.cne(I:Inv X Il σ H s):∀x c,X.env.cells.lookup x=some c->c≠X.env.locals:=fun x c e z=>by
 obtain⟨v,o,ho,hd⟩:=I.cell x c e;obtain⟨m,⟨o',es,ep,ho',hd',_⟩,_⟩:=I.loc;rw[z,ho'] at ho;cases ho;rw[hd'] at hd;cases hd
def Inv.funs(I:Inv X Il σ H s):s.heap.FunFrames X.base X.outer:=by
 have all:∀(l:List Env),(∀b∈frs l,b∈X.fs)->X.s₀.heap.FunFrames X.base l->s.heap.FunFrames X.base l:=by
  intro l
  induction l with
  | nil=>intro _ _;trivial
  | cons env r ih =>
   intro hs hl;obtain⟨hk,⟨L,o,hf,hn,ho,hd⟩,hr⟩:=hl;have hL:L∈X.fs:=hs L (by unfold frs;rw[qbY,hf];exact qaI);obtain⟨sl,e⟩:=I.base.slot L o ho (I.ok.frf L hL) hL fun z=>I.ok.exfs L z hL;exact⟨hk,⟨L,_,hf,hn,e,hd⟩,ih (fun b hb=>hs b (by unfold frs;rw[qbY,hf];exact qaf _ hb)) hr⟩
 exact all X.outer (fun _ hb=>hb) I.ok.funs
def Inv.stack(I:Inv X Il σ H s):s.heap.FunFrames X.base X.stack:=by
 rcases I.ok.stk with e|⟨e,hf⟩
 ·rw[e];exact I.funs
 ·rw[e];obtain⟨m,hn,_⟩:=I.loc;refine .cons (by rw[I.ok.kind];decide) hf hn ?_ I.funs;exact Heap.get?_none_of_le (qaJ I.ok.bsz I.ok.above)
def Inv.stkSub(I:Inv X Il σ H s):∀b∈frs X.stack,b∈X.env.locals::X.fs:=fun b hb=>by
 rcases I.ok.stk with e|⟨e,hf⟩
 ·rw[e] at hb;exact qaf _ hb
 ·rw[e] at hb;unfold frs at hb;rw[qbY,hf] at hb;exact hb
def Inv.stkFree(I:Inv X Il σ H s):∀b∈frs X.stack,H b=none:=fun b hb=>by
 rcases qam.mp (I.stkSub b hb) with e|hb
 ·rw[e];exact I.free
 ·obtain⟨_,o,ho,_⟩:=I.ok.funs.mem hb;exact I.base.free b o ho (I.ok.frf b hb) fun z=>I.ok.exfs b z hb
def Inv.step{g':Array GenState}{t':Nat}{d':Drawn}{ch:List Addr}(I:Inv X Il σ H s)
  (hch:∀b∈ch,(b∈X.ex\/X.s₀.heap.objs.size<=b)/\b≠X.env.locals/\(∀x c,X.env.cells.lookup x=some c->c≠b)/\∀p∈X.pn++Il,p.1≠b)
  (keep:∀b o,b≠X.env.locals->b∉X.fs->b∉ch->s.heap.get? b=some o->H b=none->h'.get? b=some o)
  (slot:∀b o,b≠X.env.locals->b∈X.fs->b∉ch->s.heap.get? b=some o->H b=none->∃sl,h'.get? b=some { o with slots:=sl}) (free:∀b o,b∉ch->s.heap.get? b=some o->H b=none->H' b=none)
  (there:∀b o,b∉ch->s.heap.get? b=some o->∃o',h'.get? b=some o')
  (tups:∀b xs,H b=some (.tup xs)->H' b=some (.tup xs)) (frzs:∀b o u,H b=some (.frz o u)->H' b=some (.frz o u)) (tbls:∀b ps,H b=some (.tbl ps)->∃more,H' b=some (.tbl (ps++more)))
  (ns:∀m,s.heap.Ns X.env.locals m->h'.Ns X.env.locals m) (hok:HOk X.prog X.w H' h') (hg:AllBare g') :
  Inv X Il σ H' { s with heap:=h',gens:=g',drawn:=d',toks:=t'}:=by
 have neL:∀b o,X.s₀.heap.get? b=some o->b≠X.env.locals:=fun b o e=>qaM (qaw (qaq e) I.ok.above);have neC:∀b o,X.s₀.heap.get? b=some o->b∉X.ex->b∉ch:=fun b o e hx hb=>by
  rcases (hch b hb).1 with z|z
  ·exact hx z
  ·exact absurd (qaw (qaq e) z) (qaY _)
 have cellK:∀x c,X.env.cells.lookup x=some c->∀v,s.heap.IsCell c v->h'.IsCell c v:=fun x c e v ⟨o,ho,hd⟩=>by
  have nch:c∉ch:=fun z=>(hch c z).2.2.1 x c e rfl;by_cases hc:c∈X.fs
  ·obtain⟨sl,q⟩:=slot c o (I.cne x c e) hc nch ho (I.freeC x c e);exact⟨_,q,hd⟩
  ·exact⟨o,keep c o (I.cne x c e) hc nch ho (I.freeC x c e),hd⟩
 refine⟨I.ok,I.os,hg,⟨fun b o e n hb hx=>?_,fun b o e n hb hx=>?_,fun b o e n hx=>?_,fun b o e hx=>?_,fun b xs e=>tups b xs (I.base.tups b xs e),fun b o xs e=>frzs b o xs (I.base.frzs b o xs e),fun b ps e=>?_⟩,?_,fun x c e=>?_,?_,fun x c e=>?_,fun p hp=>?_,hok,I.len⟩
 ·exact keep b o (neL b o e) hb (neC b o e hx) (I.base.keep b o e n hb hx) (I.base.free b o e n hx)
 ·obtain⟨sl,e1⟩:=I.base.slot b o e n hb hx;obtain⟨sl',e2⟩:=slot b _ (neL b o e) hb (neC b o e hx) e1 (I.base.free b o e n hx);exact⟨sl',e2⟩
 ·obtain⟨o',e1⟩:=I.base.there b o e hx;exact free b o' (neC b o e hx) e1 (I.base.free b o e n hx)
 ·obtain⟨o',e1⟩:=I.base.there b o e hx;exact there b o' (neC b o e hx) e1
 ·obtain⟨m1,e1⟩:=I.base.tbls b ps e;obtain⟨m2,e2⟩:=tbls b _ e1;exact⟨m1++m2,by rw[e2,Array.append_assoc]⟩
 ·obtain⟨m,hn,hl⟩:=I.loc;refine⟨m,ns m hn,fun i x v e1 e2 e3=>?_⟩;obtain⟨u,r,l⟩:=hl i x v e1 e2 e3;refine⟨u,r,?_⟩;rcases l with l|⟨k,c,e,z⟩
  ·exact .inl l
  ·exact .inr ⟨k,c,e,cellK x c e _ z⟩
 ·obtain⟨v,z⟩:=I.cell x c e;exact⟨v,cellK x c e v z⟩
 ·obtain⟨m,⟨o,_,_,ho,_⟩,_⟩:=I.loc;exact free _ o (fun z=>(hch _ z).2.1 rfl) ho I.free
 ·obtain⟨v,o,ho,hd⟩:=I.cell x c e;exact free c o (fun z=>(hch c z).2.2.1 x c e rfl) ho (I.freeC x c e)
 ·obtain⟨e,n,ne,nf,d⟩:=I.pin p hp;have nch:p.1∉ch:=fun z=>(hch p.1 z).2.2.2 p hp rfl;exact⟨keep p.1 p.2 ne nf nch e n,free p.1 p.2 nch e n,ne,nf,d⟩
def Inv.un{t':Nat}(I:Inv X Il σ H s)(u:Un X.fs [] H H' s.heap h')(hok:HOk X.prog X.w H' h'):Inv X Il σ H' { s with heap:=h',toks:=t'}:=by
 obtain⟨m,⟨o,es,ep,ho,r⟩,_⟩:=id I.loc;obtain⟨sl,hL⟩:=u.any ho I.free (by simp)
 exact I.step (g':=s.gens) (d':=s.drawn) (ch:=[]) (fun _ z=>nomatch z) (fun b o _ hb _ e n=>u.keep b o e n hb (by simp)) (fun b o _ hb _ e n=>u.slot b o e n hb (by simp)) (fun b o _ e n=>u.free b o e n (by simp)) (fun b o _ e=>u.there b o e (by simp)) u.tups u.frzs u.tbls (fun m' hm=>by
  obtain⟨o',es',ep',ho',r'⟩:=hm;rw[ho] at ho';cases ho'
  exact⟨_,es',ep',hL,r'⟩) hok I.bare
def Inv.call{g':Array GenState}{t':Nat}{d':Drawn}{ch:List Addr}(I:Inv X Il σ H s)(u:Un (frs X.stack) ch H H' s.heap h')(hok:HOk X.prog X.w H' h')(hg:AllBare g')
  (hch:∀b∈ch,(b∈X.ex\/X.s₀.heap.objs.size<=b)/\b≠X.env.locals/\(∀x c,X.env.cells.lookup x=some c->c≠b)/\∀p∈X.pn++Il,p.1≠b) :
  Inv X Il σ H' { s with heap:=h',gens:=g',drawn:=d',toks:=t'}:=by
 obtain⟨m,⟨o,es,ep,ho,r⟩,_⟩:=id I.loc;obtain⟨sl,hL⟩:=u.any ho I.free fun z=>(hch _ z).2.1 rfl
 exact I.step (ch:=ch) hch (fun b o hL hb hc e n=>u.keep b o e n (fun z=>(qam.mp (I.stkSub b z)).elim hL hb) hc) (fun b o _ _ hc e n=>u.any e n hc) (fun b o hc e n=>u.free b o e n hc) (fun b o hc e=>u.there b o e hc) u.tups u.frzs u.tbls (fun m' hm=>by
  obtain⟨o',es',ep',ho',r'⟩:=hm;rw[ho] at ho';cases ho'
  exact⟨_,es',ep',hL,r'⟩) hok hg
def Inv.turned{t':Nat}{it:Addr}(I:Inv X Il σ H s)(k:∀b o,b≠it->s.heap.get? b=some o->h'.get? b=some o)(hn:H it=none)(hL:it≠X.env.locals)
  (h1:it∈X.ex\/X.s₀.heap.objs.size<=it) (h2:∀x c,X.env.cells.lookup x=some c->c≠it) (h3:∀p∈X.pn++Il,p.1≠it):Inv X Il σ H { s with heap:=h',toks:=t'}:=by
 have nit:∀b u,H b=some u->b≠it:=fun b u e z=>by rw[z,hn] at e;cases e
 refine I.step (g':=s.gens) (d':=s.drawn) (ch:=[it]) (fun b hb=>?_) (fun b o _ _ hc e _=>k b o (fun z=>hc (by simp[z])) e) (fun b o _ _ hc e _=>⟨o.slots,k b o (fun z=>hc (by simp[z])) e⟩) (fun _ _ _ _ n=>n)
  (fun b o hc e=>⟨o,k b o (fun z=>hc (by simp[z])) e⟩) (fun _ _ e=>e) (fun _ _ _ e=>e) (fun b ps e=>⟨#[],by rw[e];simp⟩) (fun m hm=>?_) (fun b u e=>?_) I.bare
 ·have e:b=it:=by simpa using hb
  subst e;exact⟨h1,hL,h2,h3⟩
 ·obtain⟨o,es,ep,ho,r⟩:=hm;exact⟨o,es,ep,k _ o (Ne.symm hL) ho,r⟩
 ·refine (I.hok b u e).stay (fun c v hc q=>k c v ?_ q) (fun _ q=>q) fun _ _ q=>q;rcases hc with z|z
  ·rw[z];exact nit b u e
  ·exact nit c _ z
def Inv.tok(I:Inv X Il σ H s)(t:Nat):Inv X Il σ H { s with toks:=t}:=I.un (h':=s.heap) (t':=t) Un.refl I.hok
def Inv.kept(I:Inv X Il σ H s)(k:∀b u,s.heap.get? b=some u->h'.get? b=some u):Inv X Il σ H { s with heap:=h',toks:=t'}:=I.un (Un.kept k) (I.hok.kept k)
def Inv.laid{a:Addr}{o:HO}{t':Nat}(I:Inv X Il σ H s)(k:∀b u,s.heap.get? b=some u->h'.get? b=some u)(hp:s.heap.objs.size<=a)(new:ObjOk X.prog X.w (upd H a o) h' a o) :
  Inv X Il σ (upd H a o) { s with heap:=h',toks:=t'}:=I.un (Un.laid k hp (I.hok.fresh hp)) (I.hok.laid k hp new)
def Inv.write(I:Inv X Il σ H s)(mu:Mut (H x))(he:e=x\/H e=some (.own x))(k:∀b u,b≠e->s.heap.get? b=some u->h'.get? b=some u)(heo:∃u,h'.get? e=some u)
  (new:ObjOk X.prog X.w (upd H x o) h' x o):Inv X Il σ (upd H x o) { s with heap:=h',toks:=t'}:=I.un (Un.write mu he k heo) (I.hok.write mu he k heo new)
def Inv.pins_of(I:Inv X Il σ H s)(h:∀p∈pins',s.heap.get? p.1=some p.2/\H p.1=none/\p.1≠X.env.locals/\p.1∉X.fs/\∀v,p.2.data≠.cell v):Inv X pins' σ H s :=
 ⟨I.ok,I.os,I.bare,I.base,I.loc,I.cell,I.free,I.freeC,fun p hp=>(qbf.mp hp).elim (fun z=>I.pin p (qbn _ z)) (h p),I.hok,I.len⟩
def qt{N:List Str}(hN:N.Nodup){i j:Nat}{x:Str}(a:N[i]?=some x)(b:N[j]?=some x):i=j:=by
 obtain⟨h1,e1⟩:=qaj.mp a;obtain⟨h2,e2⟩:=qaj.mp b;exact (List.getElem_inj hN).mp (e1.trans e2.symm)
def wn{M:Model}{A:Around}{E:Value->Shared->Prop}{i:Nat}{x:Str}{v:V}{u:Value}{Q:Unit->Shared->Prop}(I:Inv X Il σ H s)(hN:X.N.Nodup)(hi:X.N[i]?=some x)(hx:Loc X.env.scope x)(r:aR v u)
  (h:∀s',Inv X Il (σ.set i (some v)) H s'->(∃a,Heap.SameBut a s.heap s'.heap/\(a=X.env.locals\/X.env.cells.lookup x=some a))->Q () s') (hf:X.fn x=true\/X.env.scope.names.lookup x=some .local:=by first | exact .inl rfl | exact .inr rfl | assumption):wpAny M A (storeName X.env x u) Q E s:=by
 obtain⟨m,hn,hl⟩:=id I.loc;have hcls:(X.env.scope.kind == .class || (X.env.scope.kind == .module && X.env.locals != X.env.globals))=false:=by rw[I.ok.kind];rfl
 have hiσ:i<σ.length:=by rw[I.len];exact (qaj.mp hi).1
 have cne:=I.cne;have tracked:∀{a:Addr} {h':Heap},(∃o,s.heap.get? a=some o/\H a=none)->Heap.SameBut a s.heap h'->HOk X.prog X.w H h':=fun {a h'} ha hs b ob e=>by
  obtain⟨_,_,hfree⟩:=ha;refine (I.hok b ob e).stay (fun c w' hc q=>(hs.2 c ?_).trans q) (fun _ q=>q) fun _ _ q=>q;rintro rfl;rcases hc with rfl|hc
  ·rw[hfree] at e;cases e
  ·rw[hfree] at hc;cases hc
 rcases hx with hk|hk
 ·refine wpAny_storeName_local hk hn (fun h' hn' hs=>?_) hcls;obtain⟨oL,_,_,hoL,_⟩:=id hn;refine h _ ⟨I.ok,I.os,I.bare,⟨fun b o e n hb hx=>?_,fun b o e n hb hx=>?_,I.base.free,fun b o e hx=>?_,I.base.tups,I.base.frzs,I.base.tbls⟩,⟨_,hn',fun j y v' e1 e2 e3=>?_⟩,fun y c e=>?_,I.free,I.freeC,fun p hp=>?_,tracked ⟨oL,hoL,I.free⟩ hs,by simpa using I.len⟩ ⟨_,hs,.inl rfl⟩
  ·exact (hs.2 b (qaM (qaw (qaq e) I.ok.above))).trans (I.base.keep b o e n hb hx)
  ·obtain⟨sl,e1⟩:=I.base.slot b o e n hb hx;exact⟨sl,(hs.2 b (qaM (qaw (qaq e) I.ok.above))).trans e1⟩
  ·obtain⟨o',e1⟩:=I.base.there b o e hx;exact⟨o',(hs.2 b (qaM (qaw (qaq e) I.ok.above))).trans e1⟩
  ·by_cases hj:j=i
   ·subst hj;rw[hi] at e1;cases e1;rw[qaD hiσ] at e2;cases e2;exact⟨u,r,.inl ⟨hk,by simp⟩⟩
   ·rw[qai (Ne.symm hj)] at e2;obtain⟨u',r',q⟩:=hl j y v' e1 e2 e3;refine⟨u',r',?_⟩;rcases q with ⟨k,e⟩|⟨k,c,e,z⟩
    ·refine .inl ⟨k,?_⟩
     have:y≠x:=fun e=>hj (qt hN e1 (e▸hi))
     simp[this,e]
    ·exact .inr ⟨k,c,e,z.sameBut hs (cne y c e)⟩
  ·obtain⟨w',z⟩:=I.cell y c e;exact⟨w',z.sameBut hs (cne y c e)⟩
  ·obtain⟨e,n,ne,nf,d⟩:=I.pin p hp;exact⟨(hs.2 p.1 ne).trans e,n,ne,nf,d⟩
 ·have hfn:X.fn x=true:=by
   rcases hf with z|z
   ·exact z
   ·rw[z] at hk;cases hk
  obtain⟨c,hc⟩:=I.ok.has x (.inl hk);obtain⟨w',z⟩:=I.cell x c hc;refine wpAny_storeName_cell I.ok.kind hk hc z (fun h' hc' hs=>?_);obtain⟨oc,hoc,hocd⟩:=id z;refine h { s with heap:=h'} ⟨I.ok,I.os,I.bare,⟨fun b o e n hb hx=>?_,fun b o e n hb hx=>?_,I.base.free,fun b o e hx=>?_,I.base.tups,I.base.frzs,I.base.tbls⟩,⟨m,hn.sameBut hs (Ne.symm (cne x c hc)),fun j y v' e1 e2 e3=>?_⟩,fun y c' e=>?_,I.free,I.freeC,fun p hp=>?_,tracked ⟨oc,hoc,I.freeC x c hc⟩ hs,by simpa using I.len⟩ ⟨c,hs,.inr hc⟩
  ·exact (hs.2 b (qaM (qaw (qaq e) (I.ok.cab x c hfn hc)))).trans (I.base.keep b o e n hb hx)
  ·obtain⟨sl,e1⟩:=I.base.slot b o e n hb hx;exact⟨sl,(hs.2 b (qaM (qaw (qaq e) (I.ok.cab x c hfn hc)))).trans e1⟩
  ·obtain⟨o',e1⟩:=I.base.there b o e hx;exact⟨o',(hs.2 b (qaM (qaw (qaq e) (I.ok.cab x c hfn hc)))).trans e1⟩
  ·by_cases hj:j=i
   ·subst hj;rw[hi] at e1;cases e1;rw[qaD hiσ] at e2;cases e2;exact⟨u,r,.inr ⟨.inl hk,c,hc,hc'⟩⟩
   ·rw[qai (Ne.symm hj)] at e2;obtain⟨u',r',q⟩:=hl j y v' e1 e2 e3;refine⟨u',r',?_⟩;rcases q with q|⟨k,c',e,z'⟩
    ·exact .inl q
    ·refine .inr ⟨k,c',e,z'.sameBut hs ?_⟩;rintro rfl;exact hj (qt hN e1 (I.ok.inj _ _ _ e hc▸hi))
  ·by_cases hcc:c'=c
   ·subst hcc;exact⟨_,hc'⟩
   ·obtain⟨w2,z2⟩:=I.cell y c' e;exact⟨w2,z2.sameBut hs hcc⟩
  ·obtain⟨e,n,ne,nf,d⟩:=I.pin p hp;refine⟨(hs.2 p.1 ?_).trans e,n,ne,nf,d⟩;intro q;rw[q,hoc] at e;have q':oc=p.2:=Option.some.inj e;exact d w' (by rw[<-q'];exact hocd)
def jH(I:Inv X Il σ H s)(hN:X.N.Nodup)(hi:X.N[i]?=some x)(hx:Loc X.env.scope x)(r:aR v u)
  (h:∀s',Inv X Il (σ.set i (some v)) H s'->Q () s') (hf:X.fn x=true\/X.env.scope.names.lookup x=some .local:=by first | exact .inl rfl | exact .inr rfl | assumption):wpAny M A (storeName X.env x u) Q E s :=
 wn I hN hi hx r (fun s' I' _=>h s' I') hf
def Inv.call'(I:Inv X Il σ H s)(ho:s'.os=s.os)(u:Un (frs X.stack) ch H H' s.heap s'.heap)(hok:HOk X.prog X.w H' s'.heap)(hg:AllBare s'.gens)
  (hch:∀b∈ch,(b∈X.ex\/X.s₀.heap.objs.size<=b)/\b≠X.env.locals/\(∀x c,X.env.cells.lookup x=some c->c≠b)/\∀p∈X.pn++Il,p.1≠b):Inv X Il σ H' s':=by
 obtain⟨h',g',d',t',o'⟩:=s';have e:o'=s.os:=ho;subst e;exact I.call (g':=g') (t':=t') (d':=d') u hok hg hch
end
abbrev XK:=Value->Option Addr->Hp->Prop
abbrev St:=List (Option V)
abbrev VK:=V->Hp->Prop
abbrev TE:=St->Hp->VK->Prop
abbrev TT:=St->Hp->(Bool->Hp->Prop)->Prop
abbrev TA:=St->Hp->(List V->Hp->Prop)->Prop
structure Ends where
 nx:St->Hp->Prop
 rt:VK
 bk:St->Hp->Prop:=fun _ _=>False
 ct:St->Hp->Prop:=fun _ _=>False
abbrev TS:=Ends->St->Hp->Prop
inductive EP (X:Cx) (Il:List (Addr × Obj)) (σ:St) (Q:VK) (u:Value) (s':Shared):Prop
 | mk (v:V) (H':Hp) (i:Inv X Il σ H' s') (r:aR v u) (q:Q v H'):EP X Il σ Q u s'
inductive TP (X:Cx) (Il:List (Addr × Obj)) (σ:St) (Q:Bool->Hp->Prop) (b:Bool) (s':Shared):Prop
 | mk (H':Hp) (i:Inv X Il σ H' s') (q:Q b H'):TP X Il σ Q b s'
inductive AP (X:Cx) (Il:List (Addr × Obj)) (σ:St) (Q:List V->Hp->Prop) (us:List Value) (s':Shared):Prop
 | mk (vs:List V) (H':Hp) (i:Inv X Il σ H' s') (r:aI vs us) (q:Q vs H'):AP X Il σ Q us s'
inductive SN (X:Cx) (Il:List (Addr × Obj)) (Q:St->Hp->Prop) (s':Shared):Prop
 | mk (σ':St) (H':Hp) (i:Inv X Il σ' H' s') (q:Q σ' H'):SN X Il Q s'
inductive SR (X:Cx) (Il:List (Addr × Obj)) (Q:VK) (u:Value) (s':Shared):Prop
 | mk (v:V) (σ':St) (H':Hp) (i:Inv X Il σ' H' s') (r:aR v u) (q:Q v H'):SR X Il Q u s'
def SP(X:Cx)(Il:List (Addr × Obj))(D:Ends)(f:Flow)(s':Shared):Prop :=
 match f with
 | .next=>SN X Il D.nx s'
 | .brk=>SN X Il D.bk s'
 | .cont=>SN X Il D.ct s'
 | .ret u=>SR X Il D.rt u s'
def PE(X:Cx)(e:Expr)(t:TE):Prop :=
 ∀(Il:List (Addr × Obj)) (s:Shared) (σ:St) (H:Hp) (Q:VK),Inv X Il σ H s->t σ H Q->wpAny (model X.prog X.w) X.A (eval e X.env) (EP X Il σ Q) X.xe s
def PT(X:Cx)(e:Expr)(t:TT):Prop :=
 ∀(Il:List (Addr × Obj)) (s:Shared) (σ:St) (H:Hp) (Q:Bool->Hp->Prop),Inv X Il σ H s->t σ H Q->wpAny (model X.prog X.w) X.A (isTrue e X.env (eval e X.env)) (TP X Il σ Q) X.xe s
def PW(X:Cx)(e:Expr)(t:TT):Prop :=
 ∀(whole:Sem Value) (Il:List (Addr × Obj)) (s:Shared) (σ:St) (H:Hp) (Q:Bool->Hp->Prop),Inv X Il σ H s->t σ H Q->wpAny (model X.prog X.w) X.A (isTrue e X.env whole) (TP X Il σ Q) X.xe s
def PW.pt(h:PW X e t):PT X e t:=h _
def PA(X:Cx)(es:List Expr)(t:TA):Prop :=
 ∀(pos:Pos) (Il:List (Addr × Obj)) (s:Shared) (σ:St) (H:Hp) (Q:List V->Hp->Prop),Inv X Il σ H s->t σ H Q->wpAny (model X.prog X.w) X.A (spliced (backTo pos (starEach es X.env))) (AP X Il σ Q) X.xe s
def PS(X:Cx)(st:Stmt)(t:TS):Prop :=
 ∀(Il:List (Addr × Obj)) (s:Shared) (σ:St) (H:Hp) (D:Ends),Inv X Il σ H s->t D σ H->wpAny (model X.prog X.w) X.A (exec st X.env) (SP X Il D) X.xe s
def PSs(X:Cx)(st:List Stmt)(t:TS):Prop :=
 ∀(Il:List (Addr × Obj)) (s:Shared) (σ:St) (H:Hp) (D:Ends),Inv X Il σ H s->t D σ H->wpAny (model X.prog X.w) X.A (execs st X.env) (SP X Il D) X.xe s
def thn(h:wpAny M A t Q E s)(hQ:∀a s,Q a s->Q' a s):wpAny M A t Q' E s:=wpAny_mono h hQ fun _ _ x=>x
section
variable {X:Cx}
def tVar(i:Nat):TE:=fun σ H Q=>∃v,σ[i]?=some (some v)/\Q v H
def tC(v:V):TE:=fun _ H Q=>Q v H
def pe_var{i:Nat}{x:Str}{pos:Pos}(hN:X.N[i]?=some x)(hv:Vis X.env.scope x)(hd:(x == ("__debug__":Str))=false:=by decide)(hcd:(x == ("__classdict__":Str))=false:=by decide):PE X (.Name x pos) (tVar i):=by
 intro Il s σ H Q I h;obtain⟨v,e,h⟩:=h;obtain⟨m,hn,hl⟩:=I.loc;obtain⟨u,r,l⟩:=hl i x v hN e hv;have fin:EP X Il σ Q u s:=⟨v,H,I,r,h⟩;rcases l with ⟨hk,hm⟩|⟨hk,c,hc,hcell⟩
 ·exact wpAny_Name (wpAny_loadName_local I.ok.kind hk hn hm fin) hd
 ·rcases hk with hk|hk
  ·exact wpAny_Name (wpAny_loadName_cell I.ok.kind hk hc hcell fin) hd
  ·exact wpAny_Name (wpAny_loadName_free I.ok.kind hk hc hcell fin hcd) hd
def pe_int{i j pos}:PE X (.Constant (.int i) j pos) (tC (.int i)):=fun _ _ _ H _ I h=>wpAny_Constant_int ⟨.int i,H,I.tok _,⟨_,rfl⟩,h⟩
def pe_bl{b j pos}:PE X (.Constant (.bool b) j pos) (tC (.bl b)):=fun _ _ _ H _ I h=>Constant_bool ⟨.bl b,H,I,rfl,h⟩
def pe_str{x j pos}:PE X (.Constant (.str x) j pos) (tC (.str x)):=fun _ _ _ H _ I h=>Calls.Constant_str ⟨.str x,H,I.tok _,⟨_,rfl⟩,h⟩
def Gl(X:Cx)(x:Str):Prop:=X.env.kindOf x=some .globalImplicit
def sx{E:Value->Shared->Prop}{Il:List (Addr × Obj)}{s:Shared}{σ:St}{H:Hp}{x:Str}{u:Value}{pos:Pos}{Q:Value->Shared->Prop}(I:Inv X Il σ H s)(hg:Gl X x)(hm:X.mg x=some u)(h:Q u s)
  (hd:(x == ("__debug__":Str))=false:=by decide):wpAny (model X.prog X.w) X.A (eval (.Name x pos) X.env) Q E s :=
 Calls.Name_function_global I.ok.kind hg (Calls.loadGlobal_global (by rw[I.ok.glob];exact I.mod.glob.keeps I.bk) hm h) hd
def gX{E:Value->Shared->Prop}{Il:List (Addr × Obj)}{s:Shared}{σ:St}{H:Hp}{x:Str}{u:Value}{pos:Pos}{Q:Value->Shared->Prop}(I:Inv X Il σ H s)(hg:Gl X x)(hm:X.mg x=none)(hv:bootBuiltins x=some u)(h:Q u s)
  (hn:x≠"__name__":=by decide) (hd:(x == ("__debug__":Str))=false:=by decide):wpAny (model X.prog X.w) X.A (eval (.Name x pos) X.env) Q E s:=by
 obtain⟨mb,h1,h2⟩:=I.mod.blt;exact Calls.Name_function_global I.ok.kind hg (Calls.loadGlobal_builtin (by rw[I.ok.glob];exact I.mod.glob.keeps I.bk) hm (by rw[I.ok.blt];exact h1.keeps I.bk) ((h2 x hn).trans hv) h) hd
def pe_glob(hg:Gl X x)(hm:X.mg x=some u)(r:aR v u)(hd:(x == ("__debug__":Str))=false:=by decide):PE X (.Name x pos) (tC v) :=
 fun _ _ _ H _ I h=>sx I hg hm ⟨v,H,I,r,h⟩ hd
def pe_bltn{x:Str}{v:V}{u:Value}{pos:Pos}(hg:Gl X x)(hm:X.mg x=none)(hv:bootBuiltins x=some u)(r:aR v u)(hn:x≠"__name__":=by decide)(hd:(x == ("__debug__":Str))=false:=by decide):PE X (.Name x pos) (tC v) :=
 fun _ _ _ H _ I h=>gX I hg hm hv ⟨v,H,I,r,h⟩ hn hd
variable {a b:Expr} {ta tb:TE} {pos:Pos}
def tB(t:TE):TT:=fun σ H Q=>t σ H fun x H1=>∃c,x=.bl c/\Q c H1
def pt_val(h:PE X e t)(he:∀whole,isTrue e X.env whole=(do let v <-whole;standAt e.pos;holding [v] (truthy v)):=by intro _;rfl):PT X e (tB t):=by
 intro Il s σ H Q I hw;refine isTrue_plain (thn (h Il s σ H _ I hw) fun v s1 ⟨x,H1,I1,r1,q1⟩=>?_) (he _);obtain⟨d,rfl,q⟩:=q1;cases r1;exact wpAny_truthy_bool ⟨H1,I1,q⟩
variable {tA tB':TT} {rest:List Expr}
def tAnd(t u:TT):TT:=fun σ H Q=>t σ H fun c H1=>if c=true then u σ H1 Q else Q false H1
def tOr(t u:TT):TT:=fun σ H Q=>t σ H fun c H1=>if c=true then Q true H1 else u σ H1 Q
def tNot(t:TT):TT:=fun σ H Q=>t σ H fun c H1=>Q (!c) H1
def pw_and1(ha:PT X a tA):PW X (.BoolOp .And [a] pos) tA:=by
 intro wh Il s σ H Q I h;refine isTrue_and (thn (ha Il s σ H Q I h) fun c s1 e=>?_)
 cases c with
 | true=>exact isTrue_and_nil e
 | false=>exact e
def pw_or1(ha:PT X a tA):PW X (.BoolOp .Or [a] pos) tA:=by
 intro wh Il s σ H Q I h;refine isTrue_or (thn (ha Il s σ H Q I h) fun c s1 e=>?_)
 cases c with
 | false=>exact isTrue_or_nil e
 | true=>exact e
def pw_and(ha:PT X a tA)(hb:PW X (.BoolOp .And (b::rest) pos) tB'):PW X (.BoolOp .And (a::b::rest) pos) (tAnd tA tB'):=by
 intro wh Il s σ H Q I h;refine isTrue_and (thn (ha Il s σ H _ I h) fun c s1 ⟨H1,I1,q1⟩=>?_)
 cases c with
 | true=>exact hb wh Il s1 σ H1 Q I1 q1
 | false=>exact⟨H1,I1,q1⟩
def pw_or(ha:PT X a tA)(hb:PW X (.BoolOp .Or (b::rest) pos) tB'):PW X (.BoolOp .Or (a::b::rest) pos) (tOr tA tB'):=by
 intro wh Il s σ H Q I h;refine isTrue_or (thn (ha Il s σ H _ I h) fun c s1 ⟨H1,I1,q1⟩=>?_)
 cases c with
 | true=>exact⟨H1,I1,q1⟩
 | false=>exact hb wh Il s1 σ H1 Q I1 q1
def pt_not(ha:PT X a tA):PT X (.UnaryOp .Not a pos) (tNot tA):=by
 intro Il s σ H Q I h;exact isTrue_not (thn (ha Il s σ H (fun c H1=>Q (!c) H1) I h) fun _ _ ⟨H1,I1,q⟩=>⟨H1,I1,q⟩)
def tAndV(ta tb:TE):TE:=fun σ H Q=>ta σ H fun x H1=>∃c,x=.bl c/\if c=true then tb σ H1 Q else Q (.bl false) H1
def tNotV(ta:TE):TE:=fun σ H Q=>ta σ H fun x H1=>∃c,x=.bl c/\Q (.bl (!c)) H1
def pe_one{op}(h:PE X a t):PE X (.BoolOp op [a] pos) t:=fun Il s σ H Q I hw=>BoolOp_one (h Il s σ H Q I hw)
def pe_and(ha:PE X a ta)(hb:PE X (.BoolOp .And (b::rest) pos) tb):PE X (.BoolOp .And (a::b::rest) pos) (tAndV ta tb):=by
 intro Il s σ H Q I h;refine BoolOp_and (thn (ha Il s σ H _ I h) fun v s1 ⟨x,H1,I1,r1,q1⟩=>?_);obtain⟨c,rfl,q1⟩:=q1;cases r1;refine wpAny_truthy_bool ?_
 cases c with
 | true=>exact hb Il s1 σ H1 Q I1 q1
 | false=>exact⟨.bl false,H1,I1,rfl,q1⟩
def pe_not(ha:PE X a ta):PE X (.UnaryOp .Not a pos) (tNotV ta):=by
 intro Il s σ H Q I h;refine UnaryOp_ (thn (ha Il s σ H _ I h) fun v s1 ⟨x,H1,I1,r1,q1⟩=>?_);obtain⟨c,rfl,q1⟩:=q1;cases r1;exact not_of (wpAny_truthy_bool ⟨.bl (!c),H1,I1,rfl,q1⟩)
def tIf(t:TT)(ta tb:TE):TE:=fun σ H Q=>t σ H fun c H1=>if c=true then ta σ H1 Q else tb σ H1 Q
def xU(hc:PT X c tA)(ha:PE X a ta)(hb:PE X b tb):PE X (.IfExp c a b pos) (tIf tA ta tb):=by
 intro Il s σ H Q I h;refine wpAny_IfExp (thn (hc Il s σ H _ I h) fun d s1 ⟨H1,I1,q1⟩=>?_)
 cases d with
 | true=>exact ha Il s1 σ H1 Q I1 q1
 | false=>exact hb Il s1 σ H1 Q I1 q1
end
def SqL(K:qab)(H:Hp)(a:Addr)(xs:List V):Prop :=
 Rd H a (.lst xs) \/
  ∃(o:Obj) (its:Array Value) (n:Nat),K.lookup a=some o/\o.cls=.type "list"/\o.dict=none/\o.data=.seq its n/\its.size<=sizeLine/\aI xs its.toList
def SqT(K:qab)(H:Hp)(a:Addr)(xs:List V):Prop :=
 Rd H a (.tup xs) \/
  ∃(o:Obj) (its:Array Value) (n:Nat),K.lookup a=some o/\o.cls=.type "tuple"/\(o.data=.seq its n/\o.dict=none)/\its.size<=sizeLine/\aI xs its.toList
def absV:Value->Option V
 | .none=>some .non
 | .bool b=>some (.bl b)
 | .int i _=>some (.int i)
 | .str x _=>some (.str x)
 | .bytes b _=>some (.byt b)
 | .float b _=>some (.flt b)
 | .ref a=>some (.ref a)
 | .type n=>some (.ty n)
 | _=>none
def aR.abs(r:aR x u):absV u=some x:=by
 cases x with
 | non=>cases r;rfl
 | bl _=>cases r;rfl
 | int _=>obtain⟨t,rfl⟩:=r;rfl
 | str _=>obtain⟨t,rfl⟩:=r;rfl
 | byt _=>obtain⟨t,rfl⟩:=r;rfl
 | flt _=>obtain⟨t,rfl⟩:=r;rfl
 | ref _=>cases r;rfl
 | ty _=>cases r;rfl
def aR.inj(r:aR x u)(q:aR y u):x=y:=Option.some.inj (r.abs.symm.trans q.abs)
def aI.inj(r:aI xs us)(q:aI ys us):xs=ys:=by
 induction r generalizing ys with
 | nil=>cases q;rfl
 | cons r t ih=>cases q with | cons r' t'=>rw[r.inj r',ih t']
section
variable {X:Cx} {Il:List (Addr × Obj)} {σ:St} {H:Hp} {s:Shared} {a:Addr} {xs ys:List V}
def SqL.of{K:qab}(h:H a=some (.lst xs)):SqL K H a xs:=.inl (.inl h)
def SqT.of{K:qab}(h:H a=some (.tup xs)):SqT K H a xs:=.inl (.inl h)
def Inv.list(I:Inv X Il σ H s)(h:SqL X.K H a xs):∃its:List Value,aI xs its/\PlainL s.heap a its.toArray/\xs.length<=sizeLine:=by
 rcases h with h|⟨o,its,n,hk,hc,hd,hs,hz,r⟩
 ·obtain⟨z,its,n,r,e⟩:=h.ok I.hok;exact⟨its,r,⟨_,n,e,rfl,rfl,rfl⟩,z⟩
 ·refine⟨its.toList,r,⟨o,n,I.kIn a o hk,hc,hd,by simpa using hs⟩,?_⟩;have e:=r.length;simp only[qby] at e;ext
def Inv.tupleN(I:Inv X Il σ H s)(h:SqT X.K H a xs):∃its:List Value,aI xs its/\gL s.heap a its.toArray/\xs.length<=sizeLine:=by
 rcases h with h|⟨o,its,n,hk,hc,hs,hz,r⟩
 ·obtain⟨z,its,r,p⟩:=h.ok I.hok;exact⟨its,r,p,z⟩
 ·refine⟨its.toList,r,⟨o,I.kIn a o hk,hc,⟨n,by simpa using hs.1⟩,hs.2⟩,?_⟩;have e:=r.length;simp only[qby] at e;ext
def Inv.tuple(I:Inv X Il σ H s)(h:SqT X.K H a xs):∃its:List Value,aI xs its/\IsTup s.heap a its.toArray/\xs.length<=sizeLine :=
 let ⟨its,r,p,z⟩:=I.tupleN h
 ⟨its,r,p.tup,z⟩
def Inv.list_inj(I:Inv X Il σ H s)(h:SqL X.K H a xs)(h':SqL X.K H a ys):xs=ys:=by
 obtain⟨its,r,⟨o,n,e,_,_,d⟩,_⟩:=I.list h;obtain⟨its',r',⟨o',n',e',_,_,d'⟩,_⟩:=I.list h';rw[e] at e';cases e';rw[d] at d';injection d' with d1 _
 have:its=its':=by simpa using congrArg Array.toList d1
 subst this;exact r.inj r'
def Inv.tuple_inj(I:Inv X Il σ H s)(h:SqT X.K H a xs)(h':SqT X.K H a ys):xs=ys:=by
 obtain⟨its,r,⟨o,e,_,n,d⟩,_⟩:=I.tuple h;obtain⟨its',r',⟨o',e',_,n',d'⟩,_⟩:=I.tuple h';rw[e] at e';cases e';rw[d] at d';injection d' with d1 _
 have:its=its':=by simpa using congrArg Array.toList d1
 subst this;exact r.inj r'
end
section
variable {X:Cx} {Il:List (Addr × Obj)} {σ:St} {H:Hp} {s:Shared} {E:Value→Shared→Prop}
end
section
variable {X:Cx} {st:Stmt} {rest:List Stmt} {t u:TS} {e:Expr} {te:TE} {pos:Pos}
def tNext:TS:=fun D σ H=>D.nx σ H
def tSeq(t u:TS):TS:=fun D σ H=>t { D with nx:=u D} σ H
def pss_nil:PSs X [] tNext:=fun _ _ σ H _ I h=>wpAny_execs_nil ⟨σ,H,I,h⟩
def xI(h1:PS X st t)(h2:PSs X rest u):PSs X (st::rest) (tSeq t u):=by
 intro Il s σ H D I h;refine wpAny_execs_cons (thn (h1 Il s σ H { D with nx:=u D} I h) fun f s1 q=>?_)
 cases f with
 | next =>
  obtain⟨σ',H',I',q⟩:=q;exact h2 Il s1 σ' H' D I' q
 | ret v=>exact q
 | brk=>exact q
 | cont=>exact q
def pss_one(h1:PS X st t):PSs X [st] t:=by
 intro Il s σ H D I h;refine wpAny_execs_cons (thn (h1 Il s σ H D I h) fun f s1 q=>?_)
 cases f with
 | next=>exact wpAny_execs_nil q
 | ret v=>exact q
 | brk=>exact q
 | cont=>exact q
def Inv.quiet{Il:List (Addr × Obj)}{σ:St}{H:Hp}{s:Shared}(I:Inv X Il σ H s):interactive X.env=false:=by simp[interactive,I.ok.kind]
def tDrop(te:TE):TS:=fun D σ H=>te σ H fun _ H1=>D.nx σ H1
def ps_expr(he:PE X e te)(hs:swapsWith e none pos.line X.env=pure false:=by rfl):PS X (.Expr e pos) (tDrop te):=by
 intro Il s σ H D I h;exact wpAny_Expr_any (thn (he Il s σ H _ I h) fun v s1 ⟨x,H1,I1,r1,q1⟩=>⟨σ,H1,I1,q1⟩) I.quiet hs
def tRet(te:TE):TS:=fun D σ H=>te σ H D.rt
def ps_ret(he:PE X e te):PS X (.Return (some e) pos) (tRet te):=by
 intro Il s σ H D I h;exact wpAny_Return_some (thn (he Il s σ H _ I h) fun v s1 ⟨x,H1,I1,r1,q1⟩=>⟨x,σ,H1,I1,r1,q1⟩)
def tIfS(c:TT)(t u:TS):TS:=fun D σ H=>c σ H fun b H1=>if b=true then t D σ H1 else u D σ H1
def ps_if(hc:PT X c tc)(ha:PSs X a t)(hb:PSs X b u):PS X (.If c a b pos) (tIfS tc t u):=by
 intro Il s σ H D I h;refine wpAny_If (thn (hc Il s σ H _ I h) fun d s1 ⟨H1,I1,q1⟩=>?_)
 cases d with
 | true=>exact ha Il s1 σ H1 D I1 q1
 | false=>exact hb Il s1 σ H1 D I1 q1
end
abbrev TG:=V->St->Hp->(St->Hp->Prop)->Prop
abbrev TGs:=List V->St->Hp->(St->Hp->Prop)->Prop
def PG(X:Cx)(target:Expr)(t:TG):Prop :=
 ∀(Il:List (Addr × Obj)) (s:Shared) (σ:St) (H:Hp) (v:V) (u:Value) (Q:St->Hp->Prop),Inv X Il σ H s->aR v u->t v σ H Q ->
  wpAny (model X.prog X.w) X.A (assign target X.env u) (fun _ s'=>SN X Il Q s') X.xe s
def PGs(X:Cx)(ts:List Expr)(t:TGs):Prop :=
 ∀(Il:List (Addr × Obj)) (s:Shared) (σ:St) (H:Hp) (vs:List V) (us:List Value) (Q:St->Hp->Prop),Inv X Il σ H s->aI vs us->t vs σ H Q ->
  wpAny (model X.prog X.w) X.A (assignInOrder ((assignEach ts X.env).map (·.2)) us) (fun _ s'=>SN X Il Q s') X.xe s
abbrev TSet:=V->V->V->Hp->(Hp->Prop)->Prop
inductive SE (X:Cx) (Il:List (Addr × Obj)) (σ:St) (Q:Hp->Prop) (s':Shared):Prop
 | mk (H':Hp) (i:Inv X Il σ H' s') (q:Q H'):SE X Il σ Q s'
def PSet(X:Cx)(t:TSet):Prop :=
 ∀(Il:List (Addr × Obj)) (s:Shared) (σ:St) (H:Hp) (o i v:V) (ov iv u:Value) (Q:Hp->Prop),Inv X Il σ H s->aR o ov->aR i iv->aR v u->t o i v H Q ->
  wpAny (model X.prog X.w) X.A (setItem ov iv u) (fun _ s'=>SE X Il σ Q s') X.xe s
section
variable {X:Cx} {pos:Pos}
def gName(i:Nat):TG:=fun v σ H Q=>Q (σ.set i (some v)) H
def sE(hN:X.N.Nodup)(hi:X.N[i]?=some x)(hx:Loc X.env.scope x)(hf:X.fn x=true\/X.env.scope.names.lookup x=some .local:=by first | exact .inl rfl | exact .inr rfl | assumption):PG X (.Name x pos) (gName i):=by
 intro Il s σ H v u Q I r h;exact wpAny_assign_Name (jH I hN hi hx r (fun s' I'=>⟨_,H,I',h⟩) hf)
def gNil:TGs:=fun vs σ H Q=>vs=[]/\Q σ H
def gCons(t:TG)(u:TGs):TGs:=fun vs σ H Q=>∃v r,vs=v::r/\t v σ H fun σ' H'=>u r σ' H' Q
def pgs_nil:PGs X [] gNil:=by
 intro Il s σ H vs us Q I r h;obtain⟨e,h⟩:=h;subst e;cases r;exact assignInOrder_nil ⟨σ,H,I,h⟩
def wI(h1:PG X e t)(h2:PGs X es u)
  (hs:(assignEach (e::es) X.env).map (·.2)=assign e X.env::(assignEach es X.env).map (·.2):=by rfl):PGs X (e::es) (gCons t u):=by
 intro Il s σ H vs us Q I r h;obtain⟨v,vr,e1,h⟩:=h;subst e1
 cases r with
 | cons r rr =>
  rw[hs];refine assignInOrder_cons (thn (h1 Il s σ H _ _ _ I r h) fun _ s1 ⟨σ1,H1,I1,q1⟩=>?_);exact h2 Il s1 σ1 H1 _ _ Q I1 rr q1
def gTup(K:qab)(n:Nat)(t:TGs):TG:=fun v σ H Q=>∃a xs,v=.ref a/\SqT K H a xs/\xs.length=n/\t xs σ H Q
def pg_tup{es:List Expr}{k:Nat}{t:TGs}{n:Nat}(hc:X.calm=true)(h:PGs X es t)
  (hn:(assignEach es X.env).length=n:=by rfl) (hst:(assignEach es X.env).findIdx? (·.1)=none:=by rfl):PG X (.Tuple es k pos) (gTup X.K n t):=by
 intro Il s σ H v u Q I r hw;obtain⟨a,xs,e1,hq,hl,hw⟩:=hw;subst e1;cases r;obtain⟨its,rv,ht,hz⟩:=I.tuple hq;refine assign_Tuple_tuple (I.ok.hd hc) ht (by simp[hn,<-hl,rv.length]) hst fun h' hx=>?_;have I1:Inv X Il σ H { s with heap:=h'}:=I.kept (t':=s.toks) fun b o e=>hx b o (qaM (qaq e)) e;exact h Il _ σ H xs _ Q I1 (by simpa using rv) hw
def gSub(to ti:TE)(t:TSet):TG:=fun v σ H Q=>to σ H fun o H1=>ti σ H1 fun i H2=>t o i v H2 fun H3=>Q σ H3
def pg_sub(ho:PE X o to)(hi:PE X i ti)(hs:PSet X t)
  (ha:∀v,assign (.Subscript o i pos) X.env v=(do
   let ov <-holding [v] (eval o X.env)
   let iv <-holding [v,ov] (eval i X.env)
   standAt pos
   holding [v,ov,iv] (setItem ov iv v)
   release [v,ov,iv] []):=by intro _;rfl):PG X (.Subscript o i pos) (gSub to ti t):=by
 intro Il s σ H v u Q I r h;rw[ha];refine qad (wpAny_holding (thn (ho Il s σ H _ I h) fun ov s1 ⟨x,H1,I1,r1,q1⟩=>?_));refine qad (wpAny_holding (thn (hi Il s1 σ H1 _ I1 q1) fun iv s2 ⟨y,H2,I2,r2,q2⟩=>?_));refine qad (wpAny_standAt (qad (wpAny_holding (thn (hs Il s2 σ H2 x y v ov iv u _ I2 r1 r2 r q2) fun _ s3 ⟨H3,I3,q3⟩=>?_))));exact wpAny_release ⟨σ,H3,I3,q3⟩
def tAsg(te:TE)(g:TG):TS:=fun D σ H=>te σ H fun x H1=>g x σ H1 D.nx
def ps_asg(he:PE X e te)(hg:PG X tg g)(hs:swapsWithSole [tg] e pos.line X.env=pure false:=by rfl)(hw:swappedStores [tg] e X.env=pure none:=by rfl)
  (h1:(assignEach [tg] X.env).map (·.2)=[assign tg X.env]:=by rfl):PS X (.Assign [tg] e pos) (tAsg te g):=by
 intro Il s σ H D I h;refine wpAny_Assign_stores (thn (he Il s σ H _ I h) fun v s1 ⟨x,H1,I1,r1,q1⟩=>?_) hs hw;rw[h1];exact thn (hg Il s1 σ H1 x v _ I1 r1 q1) fun _ s2 q=>q
def ps_set(hN:X.N.Nodup)(hi:X.N[i]?=some x)(hx:Loc X.env.scope x)(he:PE X e te)(hs:swapsWith e (some (.Name x pos')) pos.line X.env=pure false:=by rfl)(hf:X.fn x=true\/X.env.scope.names.lookup x=some .local:=by first | exact .inl rfl | exact .inr rfl | assumption) :
  PS X (.Assign [.Name x pos'] e pos) (tAsg te (gName i)):=by
 intro Il s σ H D I h;refine wpAny_Assign_Name (thn (he Il s σ H _ I h) fun v s1 ⟨y,H1,I1,r1,q1⟩=>?_) hs;exact jH I1 hN hi hx r1 (fun s2 I2=>⟨_,H1,I2,q1⟩) hf
def tPar(i j:Nat)(ta:TA):TS:=fun D σ H=>ta σ H fun vs H1=>∃v w,vs=[v,w]/\D.nx ((σ.set i (some v)).set j (some w)) H1
def ps_par{kt k2 pt2}(hc:X.calm=true)(hN:X.N.Nodup)(hi:X.N[i]?=some x)(hj:X.N[j]?=some y)(hij:i≠j)
  (hx:X.env.scope.names.lookup x=some .local) (hy:X.env.scope.names.lookup y=some .local) (ha:PA X [a,b] ta)
  (hw:swappedStores [.Tuple [.Name x px,.Name y py] kt pt] (.Tuple [a,b] k2 pt2) X.env=pure (some [x,y]))
  (hs:swapsWithSole [.Tuple [.Name x px,.Name y py] kt pt] (.Tuple [a,b] k2 pt2) pos.line X.env=pure false:=by rfl) :
  PS X (.Assign [.Tuple [.Name x px,.Name y py] kt pt] (.Tuple [a,b] k2 pt2) pos) (tPar i j ta):=by
 intro Il s σ H D I h;rw[exec_Assign_arm];refine qad (wpAny_standAt ?_);rw[hs];refine qad (qat ?_);rw[qaz (by decide)];refine qad (Tuple_ (thn (ha _ Il s σ H _ I h) fun us s1 ⟨vs,H1,I1,r1,q1⟩=>?_));obtain⟨v,w,e1,q1⟩:=q1;subst e1;obtain⟨u1,u2,rfl,rv,rw'⟩:∃u1 u2,us=[u1,u2]/\aR v u1/\aR w u2:=by
  cases r1 with
  | cons p q =>
   cases q with
   | cons p' q' =>
    cases q';exact⟨_,_,rfl,p,p'⟩
 refine wpAny_newObj_type ?_ (by show 2<=sizeLine;decide);have I2:Inv X Il σ H1 { s1 with heap:=s1.heap.push { cls:=.type "tuple",data:=.seq [u1,u2].toArray}}:=I1.kept (t':=s1.toks) fun b o e=>qac _ e;rw[hw];refine qad (qat ?_);show wpAny (model X.prog X.w) X.A (do rule "assign.swapped-stores";let items <-unpackItems (.ref s1.heap.objs.size) 2 none;assignInOrder [fun v=>bindName X.env y v,fun v=>bindName X.env x v] items.reverse;pure Flow.next) _ _ _;refine qad (wpAny_rule (qad (unpackItems_tuple (items:=#[u1,u2]) (I.ok.hd hc) (IsTup.new s1.heap _) fun h' hx'=>?_)));have I3:=I2.kept (h':=h') (t':=s1.toks) fun b o e=>hx' b o (qaM (qaq e)) e;show wpAny _ _ (assignInOrder [fun v=>bindName X.env y v,fun v=>bindName X.env x v] [u2,u1] >>= fun _=>pure Flow.next) _ _ _;refine qad (assignInOrder_cons (wpAny_bindName (jH I3 hN hj (.inl hy) rw' (fun s2 I4=>?_) (.inr hy))));refine assignInOrder_cons (wpAny_bindName (jH I4 hN hi (.inl hx) rv (fun s3 I5=>assignInOrder_nil (qat ?_)) (.inr hx)));rw[List.set_comm _ _ (Ne.symm hij)] at I5;exact⟨_,H1,I5,q1⟩
def tWhile(c:TT)(tb:TS):TS:=fun D σ H=>∃W:Nat->St->Hp->Prop,(∃m,W m σ H)/\∀m σ H,W m σ H ->
 c σ H fun b H1=>if b=true then ∃N:St->Hp->Prop,(∀σ' H',N σ' H'->∃m',m'<m/\W m' σ' H')/\tb { D with nx:=N,ct:=N,bk:=D.nx} σ H1 else D.nx σ H1
def yr(hp:PassesOwn (model X.prog X.w) X.A X.env X.xe)(hc:PT X c tc)(hb:PSs X body tb):PS X (.While c body [] pos) (tWhile tc tb):=by
 intro Il s σ H D I h;obtain⟨W,⟨m0,w0⟩,turn⟩:=h;refine wpAny_While (codeAny_whileLoop (fun n s'=>∃σ' H',Inv X Il σ' H' s'/\W n σ' H') ?_ m0 ⟨σ,H,I,w0⟩);rintro n s1 ⟨σ1,H1,I1,w1⟩;refine wpAny_passesOwn hp (thn (hc Il s1 σ1 H1 _ I1 (turn n σ1 H1 w1)) fun b s2 ⟨H2,I2,q2⟩=>?_)
 cases b with
 | true =>
  obtain⟨N,hN,q2⟩:=q2;rw[qan rfl];refine wpAny_passesOwn hp (thn (hb Il s2 σ1 H2 _ I2 q2) fun f s3 q3=>?_)
  cases f with
  | next =>
   obtain⟨σ3,H3,I3,n3⟩:=q3;obtain⟨m',hm,w3⟩:=hN σ3 H3 n3;exact⟨m',hm,σ3,H3,I3,w3⟩
  | cont =>
   obtain⟨σ3,H3,I3,n3⟩:=q3;obtain⟨m',hm,w3⟩:=hN σ3 H3 n3;exact⟨m',hm,σ3,H3,I3,w3⟩
  | brk=>exact q3
  | ret v=>exact q3
 | false =>
  rw[qaz qaR];exact wpAny_execs_nil ⟨σ1,H2,I2,q2⟩
end
structure It where
 go:Nat->Hp->Prop
 yld:Nat->Hp->V->Hp->Prop
 stop:Nat->Hp->Prop
def gQ(X:Cx)(Il:List (Addr × Obj))(H:Hp)(b:Addr):Prop :=
 H b=none/\b≠X.env.locals/\b∉X.fs/\(b∈X.ex\/X.s₀.heap.objs.size<=b)/\(∀x c,X.env.cells.lookup x=some c->c≠b)/\∀p∈X.pn++Il,p.1≠b
def Inv.fpOk{X:Cx}{Il:List (Addr × Obj)}{σ:St}{H H':Hp}{s:Shared}{b:Addr}(I:Inv X Il σ H s)(hb:s.heap.objs.size<=b)(hn:H' b=none):gQ X Il H' b:=by
 refine⟨hn,qaT (qaw I.lt hb),I.nofs hb,.inr (qaJ I.sz hb),fun x c e z=>?_,fun p hp z=>?_⟩
 ·obtain⟨v,q⟩:=I.cell x c e;exact absurd (qaw q.lt (by rw[z];exact hb)) (qaY _)
 ·exact absurd (qaw (qaq (I.pin p hp).1) (by rw[z];exact hb)) (qaY _)
inductive TIt (X:Cx) (Il:List (Addr × Obj)) (σ:St) (u:Value) (Y:V->Hp->Prop) (n:Heap->Prop) (fp:List Addr) (s2:Shared):Prop
 | mk (x:V) (H':Hp) (i:Inv X Il σ H' s2) (r:aR x u) (y:Y x H') (t:n s2.heap) (f:∀b∈fp,H' b=none):TIt X Il σ u Y n fp s2
structure Turn (P:Program) (w:World) (K:qab) (tg:Expr) (J:It) (fp:List Addr) (it:Addr) (tn:Nat->Heap->Prop):Prop where
 mem:it∈fp
 obj:∀i h,tn i h->∀b∈fp,∃o,h.get? b=some o/\∀v,o.data≠.cell v
 keep:∀i h h',tn i h->(∀b∈fp,∀o,h.get? b=some o->h'.get? b=some o)->tn i h'
 item:∀(X:Cx),X.prog=P->X.w=w->X.K=K->X.calm=true->∀(i:Nat) (Il:List (Addr × Obj)) (s:Shared) (σ:St) (H:Hp) (E:Value->Shared->Prop),Inv X Il σ H s->(∀b∈fp,gQ X Il H b)->tn i s.heap->J.go i H ->
  wpAny (model P w) X.A (pyNext (.ref it)) (fun r s1=>∃u,r=some u /\
   wpAny (model P w) X.A (letOwnedTupleGo tg (.ref it) u) (fun _ s2=>TIt X Il σ u (J.yld i H) (tn (i+1)) fp s2) E s1) E s
 done:∀(X:Cx),X.prog=P->X.w=w->X.K=K->X.calm=true->∀(i:Nat) (Il:List (Addr × Obj)) (s:Shared) (σ:St) (H:Hp) (E:Value->Shared->Prop),Inv X Il σ H s->(∀b∈fp,gQ X Il H b)->tn i s.heap->J.stop i H ->
  wpAny (model P w) X.A (pyNext (.ref it)) (fun r s1=>r=none/\Inv X Il σ H s1) E s
 self:∀(A:Around) (i:Nat) (s:Shared) (Q:Value->Shared->Prop) (E:Value->Shared->Prop),tn i s.heap->Q (.ref it) s->wpAny (model P w) A (pyIter (.ref it)) Q E s
abbrev TI:=St->Hp->(It->Hp->Prop)->Prop
inductive PIE (X:Cx) (Il:List (Addr × Obj)) (σ:St) (tg:Expr) (R:It->Hp->Prop) (itv:Value) (s2:Shared):Prop
 | mk (it:Addr) (fp:List Addr) (tn:Nat->Heap->Prop) (J:It) (H':Hp) (e:itv=.ref it) (i:Inv X Il σ H' s2) (t:Turn X.prog X.w X.K tg J fp it tn) (n:tn 0 s2.heap) (f:∀b∈fp,gQ X Il H' b) (r:R J H'):PIE X Il σ tg R itv s2
def PI(X:Cx)(tg iter:Expr)(wi:TI):Prop :=
 ∀(Il:List (Addr × Obj)) (s:Shared) (σ:St) (H:Hp) (R:It->Hp->Prop),Inv X Il σ H s->wi σ H R ->
  wpAny (model X.prog X.w) X.A (eval iter X.env) (fun v s1=>wpAny (model X.prog X.w) X.A (pyIter v) (PIE X Il σ tg R) X.xe s1) X.xe s
def uN(ho:s.heap.get? it=some o)(hc:o.cls=.type n)(hd:o.data=.fields vs)
  (hn:["enumerate","zip","dict_itemiterator","dict_reverseitemiterator","odict_iterator","itertools.zip_longest","itertools.pairwise"].contains n=false) (hQ:Q () s):wpAny M A (letOwnedTupleGo tg (.ref it) u) Q E s:=by
 unfold letOwnedTupleGo;cases tg <;> first
  | exact qat hQ
  | (cases u <;> first
    | exact qat hQ
    | (refine qad (wpAny_load ho ?_)
       rw[hc,hd];show wpAny M A (if (["enumerate","zip","dict_itemiterator","dict_reverseitemiterator","odict_iterator","itertools.zip_longest","itertools.pairwise"].contains n && vs[0]? == some (rawInt _))=true then _ else _) Q E s;rw[qaz (by intro h;rw[hn,Bool.false_and] at h;cases h)]
       exact qat hQ))
def Itl(K:qab)(a:Addr):It :=
 ⟨fun i H=>∃xs x,SqL K H a xs/\xs[i]?=some x,fun i H x H'=>H'=H/\∀xs,SqL K H a xs->xs[i]?=some x,fun i H=>∃xs,SqL K H a xs/\xs.length<=i⟩
def Itt(K:qab)(a:Addr):It :=
 ⟨fun i H=>∃xs x,SqT K H a xs/\xs[i]?=some x,fun i H x H'=>H'=H/\∀xs,SqT K H a xs->xs[i]?=some x,fun i H=>∃xs,SqT K H a xs/\xs.length<=i⟩
def Itr(lo:Int)(n:Nat):It:=⟨fun i _=>i<n,fun i H x H'=>H'=H/\x=.int (lo+i),fun i _=>n<=i⟩
def v9{P:Program}{w:World}{K:qab}{tg:Expr}(a it:Addr):Turn P w K tg (Itl K a) [it] it (fun i h=>h.IsListIter it a i) where
 mem:=by simp
 obj:=fun i h st b hb=>by
  have e:b=it:=by simpa using hb
  subst e;obtain⟨o,e,c,d⟩:=st;exact⟨o,e,fun v z=>by rw[d] at z;cases z⟩
 keep:=fun i h h' st k=>st.at fun o e=>k it (by simp) o e
 item:=by
  intro X hP hw hK hc i Il s σ H E I hf st hg;subst hP hw hK;obtain⟨xs,x,hq,hx⟩:=hg;obtain⟨its,rv,p,hz⟩:=I.list hq;obtain⟨u,hu,ru⟩:=rv.get hx;obtain⟨f0,f1,f2,f3,f4,f5⟩:=hf it (by simp);refine wpAny_pyNext_list_item st p.isList (x:=u) (by simpa using hu) fun h' st' sb=>?_;have I1:Inv X Il σ H { s with heap:=h'}:=I.turned (t':=s.toks) (fun b o hb e=>(sb.2 b hb).trans e) f0 f1 f3 f4 f5;obtain⟨o,e,c,d⟩:=id st';exact⟨u,rfl,uN (s:={ s with heap:=h'}) e c d (by decide) ⟨x,H,I1,ru,⟨rfl,fun ys hy=>by rw[I.list_inj hy hq];exact hx⟩,st',fun b hb=>(hf b hb).1⟩⟩
 done:=by
  intro X hP hw hK hc i Il s σ H E I hf st hg;subst hP hw hK;obtain⟨xs,hq,hx⟩:=hg;obtain⟨its,rv,p,hz⟩:=I.list hq;obtain⟨f0,f1,f2,f3,f4,f5⟩:=hf it (by simp);have hl:=rv.length;exact wpAny_pyNext_list_end (I.ok.hd hc) st p.isList (by simp;ext) fun h' eb=>⟨rfl,I.turned (t':=s.toks) (fun b o hb e=>eb b o hb e) f0 f1 f3 f4 f5⟩
 self:=fun _ _ _ _ _ st h=>wpAny_pyIter_listiter st h
def ua{P:Program}{w:World}{K:qab}{tg:Expr}(a it:Addr):Turn P w K tg (Itt K a) [it] it (fun i h=>h.IsTupleIter it a i) where
 mem:=by simp
 obj:=fun i h st b hb=>by
  have e:b=it:=by simpa using hb
  subst e;obtain⟨o,e,c,d⟩:=st;exact⟨o,e,fun v z=>by rw[d] at z;cases z⟩
 keep:=fun i h h' st k=>st.at fun o e=>k it (by simp) o e
 item:=by
  intro X hP hw hK hc i Il s σ H E I hf st hg;subst hP hw hK;obtain⟨xs,x,hq,hx⟩:=hg;obtain⟨its,rv,p,hz⟩:=I.tuple hq;obtain⟨u,hu,ru⟩:=rv.get hx;obtain⟨f0,f1,f2,f3,f4,f5⟩:=hf it (by simp);refine wpAny_pyNext_tuple_item st (show s.heap.IsTuple a its.toArray from p) (x:=u) (by simpa using hu) fun h' st' sb=>?_;have I1:Inv X Il σ H { s with heap:=h'}:=I.turned (t':=s.toks) (fun b o hb e=>(sb.2 b hb).trans e) f0 f1 f3 f4 f5;obtain⟨o,e,c,d⟩:=id st';exact⟨u,rfl,uN (s:={ s with heap:=h'}) e c d (by decide) ⟨x,H,I1,ru,⟨rfl,fun ys hy=>by rw[I.tuple_inj hy hq];exact hx⟩,st',fun b hb=>(hf b hb).1⟩⟩
 done:=by
  intro X hP hw hK hc i Il s σ H E I hf st hg;subst hP hw hK;obtain⟨xs,hq,hx⟩:=hg;obtain⟨its,rv,p,hz⟩:=I.tuple hq;obtain⟨f0,f1,f2,f3,f4,f5⟩:=hf it (by simp);have hl:=rv.length;exact wpAny_pyNext_tuple_end (I.ok.hd hc) st (show s.heap.IsTuple a its.toArray from p) (by simp;ext) fun h' eb=>⟨rfl,I.turned (t':=s.toks) (fun b o hb e=>eb b o hb e) f0 f1 f3 f4 f5⟩
 self:=fun _ _ _ _ _ st h=>wpAny_pyIter_tupleiter st h
def tX{P:Program}{w:World}{K:qab}{tg:Expr}(it:Addr)(lo:Int)(n:Nat):Turn P w K tg (Itr lo n) [it] it (fun i h=>IsRangeIter h it (lo+(i:Nat) * 1) ((n:Int) - (i:Nat)) 1) where
 mem:=by simp
 obj:=fun i h st b hb=>by
  have e:b=it:=by simpa using hb
  subst e
  exact⟨_,st,fun v z=>by
   have z':Data.fields _=Data.cell v:=z
   cases z'⟩
 keep:=fun i h h' st k=>k it (by simp) _ st
 item:=by
  intro X hP hw hK hc i Il s σ H E I hf st hg;subst hP hw hK;obtain⟨f0,f1,f2,f3,f4,f5⟩:=hf it (by simp);have W:=Walks.range (prog:=X.prog) (w:=X.w) (I.ok.hd hc) it lo 1 n;refine W.item i s _ _ hg st fun v h' tk hv st' kk=>?_;obtain⟨t,rfl⟩:=hv;have I1:Inv X Il σ H { s with heap:=h',toks:=tk}:=I.turned (fun b o hb e=>kk b o (by simpa using hb) e) f0 f1 f3 f4 f5;refine⟨_,rfl,uN (s:={ s with heap:=h',toks:=tk}) (n:="range_iterator") st' rfl rfl (by decide) ⟨.int (lo+i),H,I1,⟨t,?_⟩,⟨rfl,rfl⟩,st',fun b hb=>(hf b hb).1⟩⟩;rw[Int.mul_one]
 done:=by
  intro X hP hw hK hc i Il s σ H E I hf st hg;subst hP hw hK;obtain⟨f0,f1,f2,f3,f4,f5⟩:=hf it (by simp);exact wpAny_pyNext_range_end (I.ok.hd hc) st (by have:n<=i:=hg;ext) fun h' eb=>⟨rfl,I.turned (t':=s.toks) (fun b o hb e=>eb b o hb e) f0 f1 f3 f4 f5⟩
 self:=fun _ _ _ _ _ st h=>wpAny_pyIter_rangeiter st h
section
variable {X:Cx} {tg:Expr}
def iList(K:qab)(tl:TE):TI:=fun σ H R=>tl σ H fun x H1=>∃a,x=.ref a/\(∃xs,SqL K H1 a xs)/\R (Itl K a) H1
def iTup(K:qab)(tl:TE):TI:=fun σ H R=>tl σ H fun x H1=>∃a,x=.ref a/\(∃xs,SqT K H1 a xs)/\R (Itt K a) H1
def pi_list{l:Expr}{tl:TE}(hl:PE X l tl):PI X tg l (iList X.K tl):=by
 intro Il s σ H R I h;refine thn (hl Il s σ H _ I h) fun v s1 ⟨x,H1,I1,r1,q1⟩=>?_;obtain⟨a,e,⟨xs,hq⟩,q⟩:=q1;subst e;cases r1;obtain⟨its,rv,p,hz⟩:=I1.list hq;refine wpAny_pyIter_list p.isList ?_;refine⟨s1.heap.objs.size,[s1.heap.objs.size],_,_,H1,rfl,I1.kept (t':=s1.toks) fun b o e=>qac _ e,v9 a _,⟨_,qax _ rfl,rfl,rfl⟩,fun b hb=>?_,q⟩;have e:b=s1.heap.objs.size:=by simpa using hb
 subst e;exact I1.fpOk (qak _) (I1.hok.fresh (qak _))
def pi_tup{l:Expr}{tl:TE}(hl:PE X l tl):PI X tg l (iTup X.K tl):=by
 intro Il s σ H R I h;refine thn (hl Il s σ H _ I h) fun v s1 ⟨x,H1,I1,r1,q1⟩=>?_;obtain⟨a,e,⟨xs,hq⟩,q⟩:=q1;subst e;cases r1;obtain⟨its,rv,p,hz⟩:=I1.tuple hq;refine wpAny_pyIter_tuple (show s1.heap.IsTuple a its.toArray from p) ?_;refine⟨s1.heap.objs.size,[s1.heap.objs.size],_,_,H1,rfl,I1.kept (t':=s1.toks) fun b o e=>qac _ e,ua a _,⟨_,qax _ rfl,rfl,rfl⟩,fun b hb=>?_,q⟩;have e:b=s1.heap.objs.size:=by simpa using hb
 subst e;exact I1.fpOk (qak _) (I1.hok.fresh (qak _))
def xw{Il:List (Addr × Obj)}{σ:St}{H:Hp}{s:Shared}{R:It->Hp->Prop}{E:Value->Shared->Prop}{lo hi:Int}{t u v:Tok}{tk:Nat}(I:Inv X Il σ H s)(h1:-(2 ^ 62)<=lo)(h2:lo<2 ^ 62)(h3:-(2 ^ 62)<=hi)(h4:hi<2 ^ 62)
  (q:R (Itr lo (hi - lo).toNat) H):wpAny (model X.prog X.w) X.A (pyIter (.ref s.heap.objs.size)) (PIE X Il σ tg R) E { s with heap:=s.heap.push { cls:=.type "range",data:=.fields #[.int lo t,.int hi u,.int 1 v]},toks:=tk}:=by
 refine wpAny_pyIter_range (IsRange.new ..) (small_one h1 h2 h3 h4) ?_;have I1:Inv X Il σ H { s with heap:=s.heap.push { cls:=.type "range",data:=.fields #[.int lo t,.int hi u,.int 1 v]},toks:=tk}:=I.kept fun b o e=>qac _ e
 refine⟨(s.heap.push { cls:=.type "range",data:=.fields #[.int lo t,.int hi u,.int 1 v]}).objs.size,[(s.heap.push { cls:=.type "range",data:=.fields #[.int lo t,.int hi u,.int 1 v]}).objs.size],_,_,H,rfl,
  I1.kept (t':=tk) fun b o e=>qac _ e,tX _ lo (hi - lo).toNat,?_,fun b hb=>?_,q⟩
 ·have e1:lo+((0:Nat):Int) * 1=lo:=by simp
  have e2:(((hi - lo).toNat:Nat):Int) - ((0:Nat):Int)=Builtin.Range.rangeSize lo hi 1:=by rw[rangeSize_one];split <;> ext
  show IsRangeIter _ _ (lo+((0:Nat):Int) * 1) ((((hi - lo).toNat:Nat):Int) - ((0:Nat):Int)) 1;rw[e1,e2];exact qax _ rfl
 ·have e:b=(s.heap.push { cls:=.type "range",data:=.fields #[.int lo t,.int hi u,.int 1 v]}).objs.size:=by simpa using hb
  subst e;exact I1.fpOk (qak _) (I1.hok.fresh (qak _))
def iRng1(ta:TA):TI:=fun σ H R=>ta σ H fun vs H1=>∃j:Int,vs=[.int j] /\ -(2 ^ 62)<=j/\j<2 ^ 62/\R (Itr 0 j.toNat) H1
def wv{a:Expr}{ta:TA}{p pos:Pos}(hg:Gl X "range")(hm:X.mg "range"=none)(ha:PA X [a] ta)(hs:starEach [a] X.env=[(false,eval a X.env)]:=by rfl):PI X tg (.Call (.Name "range" p) [a] [] pos) (iRng1 ta):=by
 intro Il s σ H R I h;refine Call_ (gX I hg hm boot_range (PyProof.Rows.callWith_type1 (thn (ha pos Il s σ H _ I h) fun us s1 ⟨vs,H1,I1,r1,q1⟩=>?_) hs rfl));obtain⟨j,e,q1,q2,q⟩:=q1;subst e
 cases r1 with
 | cons r rr =>
  cases rr;obtain⟨t,rfl⟩:=r;exact call_range_1 (xw I1 (by ext) (by ext) q1 q2 (by simpa using q))
def tFor(wi:TI)(g:TG)(tb:TS):TS:=fun D σ H=>wi σ H fun J H1=>∃W:Nat->Nat->St->Hp->Prop,(∃m,W 0 m σ H1)/\∀i m σ H,W i m σ H ->
 (J.stop i H/\D.nx σ H)\/(J.go i H/\∃N:St->Hp->Prop,(∀σ' H',N σ' H'->∃m',m'<m/\W (i+1) m' σ' H')/\∀x H',J.yld i H x H'->g x σ H' fun σ2 H2=>tb { D with nx:=N,ct:=N,bk:=D.nx} σ2 H2)
def jW(fp:List Addr)(h:Heap):List (Addr × Obj):=fp.filterMap fun b=>(h.get? b).map fun o=>(b,o)
def gz(hb:b∈fp)(e:h.get? b=some o):(b,o)∈jW fp h:=qcb.mpr ⟨b,hb,by rw[e];rfl⟩
def uW(hp:p∈jW fp h):p.1∈fp/\h.get? p.1=some p.2:=by
 obtain⟨b,hb,e⟩:=qcb.mp hp
 cases q:h.get? b with
 | none=>rw[q] at e;cases e
 | some o =>
  rw[q] at e;have e':(b,o)=p:=Option.some.inj e;subst e';exact⟨hb,q⟩
def Inv.pinned{Il:List (Addr × Obj)}{σ:St}{H:Hp}{s:Shared}{fp:List Addr}(I:Inv X Il σ H s)(hf:∀b∈fp,gQ X Il H b)(ho:∀b∈fp,∃o,s.heap.get? b=some o/\∀v,o.data≠.cell v):Inv X (Il++jW fp s.heap) σ H s :=
 I.pins_of fun p hp=>(qbf.mp hp).elim (fun z=>I.pin p (qay _ z)) fun z=>by
  obtain⟨hb,e⟩:=uW z;obtain⟨f0,f1,f2,_⟩:=hf p.1 hb;obtain⟨o,e',d⟩:=ho p.1 hb;rw[e] at e';cases e';exact⟨e,f0,f1,f2,d⟩
def Inv.unpinned{Il pl:List (Addr × Obj)}{σ:St}{H:Hp}{s:Shared}(I:Inv X (Il++pl) σ H s):Inv X Il σ H s:=I.pins_of fun p hp=>I.pin p (qay _ (qbn _ hp))
def ps_for(hp:PassesOwn (model X.prog X.w) X.A X.env X.xe)(hc:X.calm=true)(hi:PI X tg iter wi)(hg:PG X tg g)(hb:PSs X body tb)
  (hs:∀x,foldedSetIterable iter X.env x=pure x:=by intro _;rfl):PS X (.For tg iter body [] pos) (tFor wi g tb):=by
 intro Il s σ H D I h;refine wpAny_For (thn (hi Il s σ H _ I h) fun v s1 h1=>thn h1 fun itv s2 h2=>?_) hs;obtain⟨it,fp,tn,J,H2,e,I2,T,st2,f2,W,⟨m0,w0⟩,turn⟩:=h2;subst e;have stat:∀{H':Hp},(∀b∈fp,H' b=none)->∀b∈fp,gQ X Il H' b:=fun hn b hb=>⟨hn b hb,(f2 b hb).2⟩;refine codeAny_forLoop_any (fun n s'=>∃i σ' H',Inv X Il σ' H' s'/\tn i s'.heap/\(∀b∈fp,H' b=none)/\W i n σ' H') ?_ m0 ⟨0,σ,H2,I2,st2,fun b hb=>(f2 b hb).1,w0⟩;rintro n s3 ⟨i,σ3,H3,I3,st3,fr3,w3⟩;rcases turn i n σ3 H3 w3 with ⟨stop,qn⟩|⟨go,N,hN,step⟩
 ·refine wpAny_passesOwn hp (thn (T.done X rfl rfl rfl hc i Il s3 σ3 H3 X.xe I3 (stat fr3) st3 stop) fun r s4 ⟨hr,I4⟩=>?_);subst hr;exact wpAny_execs_nil ⟨σ3,H3,I4,qn⟩
 ·refine wpAny_passesOwn hp (thn (T.item X rfl rfl rfl hc i Il s3 σ3 H3 X.xe I3 (stat fr3) st3 go) fun r s4 ⟨u,hr,h4⟩=>?_);subst hr;refine wpAny_passesOwn hp (thn h4 fun _ s5 ⟨x,H5,I5,r5,y5,st5,fr5⟩=>?_);have I5':=I5.pinned (stat fr5) (T.obj _ _ st5);refine wpAny_passesOwn hp (thn (hg _ s5 σ3 H5 x u _ I5' r5 (step x H5 y5)) fun _ s6 ⟨σ6,H6,I6,q6⟩=>?_);refine wpAny_passesOwn hp (thn (hb _ s6 σ6 H6 _ I6 q6) fun f s7 q7=>?_);have again:∀{σ7:St} {H7:Hp},Inv X (Il++jW fp s5.heap) σ7 H7 s7->N σ7 H7->∃m,m<n/\∃i σ' H',Inv X Il σ' H' s7/\tn i s7.heap/\(∀b∈fp,H' b=none)/\W i m σ' H':=fun {σ7 H7} I7 n7=>by
   obtain⟨m',hm,w7⟩:=hN σ7 H7 n7;refine⟨m',hm,i+1,σ7,H7,I7.unpinned,T.keep _ _ _ st5 fun b hb o e=>(I7.pin (b,o) (qay _ (qay _ (gz hb e)))).1,fun b hb=>?_,w7⟩;obtain⟨o,e,d⟩:=T.obj _ _ st5 b hb;exact (I7.pin (b,o) (qay _ (qay _ (gz hb e)))).2.1
  cases f with
  | next=>obtain⟨σ7,H7,I7,n7⟩:=q7;exact again I7 n7
  | cont=>obtain⟨σ7,H7,I7,n7⟩:=q7;exact again I7 n7
  | brk=>obtain⟨σ7,H7,I7,q7⟩:=q7;exact⟨σ7,H7,I7.unpinned,q7⟩
  | ret v=>obtain⟨x7,σ7,H7,I7,r7,q7⟩:=q7;exact⟨x7,σ7,H7,I7.unpinned,r7,q7⟩
end
abbrev R2:=V->V->Hp->VK->Prop
def OpR(X:Cx)(f:Value->Value->Sem Value)(r:R2):Prop :=
 ∀(Il:List (Addr × Obj)) (s:Shared) (σ:St) (H:Hp) (x y:V) (v u:Value) (Q:VK),Inv X Il σ H s->aR x v->aR y u->r x y H Q ->
  wpAny (model X.prog X.w) X.A (f v u) (EP X Il σ Q) X.xe s
def UnR(X:Cx)(f:Value->Sem Value)(r:V->Hp->VK->Prop):Prop :=
 ∀(Il:List (Addr × Obj)) (s:Shared) (σ:St) (H:Hp) (x:V) (v:Value) (Q:VK),Inv X Il σ H s->aR x v->r x H Q ->
  wpAny (model X.prog X.w) X.A (f v) (EP X Il σ Q) X.xe s
def dY(X:Cx)(f:Value)(r:List V->Hp->VK->Prop):Prop :=
 ∀(Il:List (Addr × Obj)) (s:Shared) (σ:St) (H:Hp) (xs:List V) (us:List Value) (Q:VK),Inv X Il σ H s->aI xs us->r xs H Q ->
  wpAny (model X.prog X.w) X.A (call f us) (EP X Il σ Q) X.xe s
def TruR(X:Cx)(r:V->Hp->(Bool->Hp->Prop)->Prop):Prop :=
 ∀(Il:List (Addr × Obj)) (s:Shared) (σ:St) (H:Hp) (x:V) (v:Value) (Q:Bool->Hp->Prop),Inv X Il σ H s->aR x v->r x H Q ->
  wpAny (model X.prog X.w) X.A (truthy v) (TP X Il σ Q) X.xe s
def tOp(r:R2)(ta tb:TE):TE:=fun σ H Q=>ta σ H fun x H1=>tb σ H1 fun y H2=>r x y H2 Q
def tUn(r:V->Hp->VK->Prop)(ta:TE):TE:=fun σ H Q=>ta σ H fun x H1=>r x H1 Q
def rI(C:Int->Int->Prop)(g:Int->Int->V):R2:=fun x y H Q=>∃i j,x=.int i/\y=.int j/\C i j/\Q (g i j) H
def rI0(g:Int->Int->V):R2:=fun x y H Q=>∃i j,x=.int i/\y=.int j/\Q (g i j) H
def rU(g:Int->V):V->Hp->VK->Prop:=fun x H Q=>∃i,x=.int i/\Q (g i) H
section
variable {X:Cx} {a b c:Expr} {ta tb tc:TE} {pos:Pos}
def binT(ha:PE X a ta)(hb:PE X b tb){Il:List (Addr × Obj)}{s:Shared}{σ:St}{H:Hp}{R:V->V->Hp->Prop}(I:Inv X Il σ H s)
  (h:ta σ H fun x H1=>tb σ H1 fun y H2=>R x y H2) {Q:Value->Shared->Prop} {f:Value->Value->Sem Value}
  (hf:∀v u s2 x y H2,Inv X Il σ H2 s2->aR x v->aR y u->R x y H2->wpAny (model X.prog X.w) X.A (f v u) Q X.xe s2) :
  wpAny (model X.prog X.w) X.A (eval a X.env) (fun v s₁=>wpAny (model X.prog X.w) X.A (eval b X.env) (fun u s₂=>wpAny (model X.prog X.w) X.A (f v u) Q X.xe s₂) X.xe s₁) X.xe s:=by
 refine thn (ha Il s σ H _ I h) fun v s1 ⟨x,H1,I1,r1,q1⟩=>?_;refine thn (hb Il s1 σ H1 _ I1 q1) fun u s2 ⟨y,H2,I2,r2,q2⟩=>?_;exact hf v u s2 x y H2 I2 r1 r2 q2
def pe_op{op:Operator}{r:R2}(ho:OpR X (binaryOp op) r)(ha:PE X a ta)(hb:PE X b tb):PE X (.BinOp a op b pos) (tOp r ta tb):=by
 intro Il s σ H Q I h;exact wpAny_BinOp (binT ha hb I h fun v u s2 x y H2 I2 rx ry q=>ho Il s2 σ H2 x y v u Q I2 rx ry q)
def pe_un(ho:UnR X (unaryOp op) r)(ha:PE X a ta):PE X (.UnaryOp op a pos) (tUn r ta):=by
 intro Il s σ H Q I h;exact UnaryOp_ (thn (ha Il s σ H _ I h) fun v s1 ⟨x,H1,I1,r1,q1⟩=>ho Il s1 σ H1 x v Q I1 r1 q1)
def opI{f:Value->Value->Sem Value}{C:Int->Int->Prop}{g:Int->Int->Int}
  (rule:∀(i j:Int) (t u:Tok) (s:Shared) (Q:Value->Shared->Prop) (E:Value->Shared->Prop),C i j->Q (.int (g i j) s.toks) { s with toks:=s.toks+1}->wpAny (model X.prog X.w) X.A (f (.int i t) (.int j u)) Q E s) :
  OpR X f (rI C fun i j=>.int (g i j)):=by
 intro Il s σ H x y v u Q I rx ry h;obtain⟨i,j,rfl,rfl,hc,q⟩:=h;obtain⟨t,rfl⟩:=rx;obtain⟨t',rfl⟩:=ry;exact rule i j t t' s _ _ hc ⟨.int (g i j),H,I.tok _,⟨_,rfl⟩,q⟩
def opI0{f:Value->Value->Sem Value}{g:Int->Int->Int}
  (rule:∀(i j:Int) (t u:Tok) (s:Shared) (Q:Value->Shared->Prop) (E:Value->Shared->Prop),Q (.int (g i j) s.toks) { s with toks:=s.toks+1}->wpAny (model X.prog X.w) X.A (f (.int i t) (.int j u)) Q E s) :
  OpR X f (rI0 fun i j=>.int (g i j)):=by
 intro Il s σ H x y v u Q I rx ry h;obtain⟨i,j,rfl,rfl,q⟩:=h;obtain⟨t,rfl⟩:=rx;obtain⟨t',rfl⟩:=ry;exact rule i j t t' s _ _ ⟨.int (g i j),H,I.tok _,⟨_,rfl⟩,q⟩
def opB0{f:Value->Value->Sem Value}{g:Int->Int->Bool}
  (rule:∀(i j:Int) (t u:Tok) (s:Shared) (Q:Value->Shared->Prop) (E:Value->Shared->Prop),Q (.bool (g i j)) s->wpAny (model X.prog X.w) X.A (f (.int i t) (.int j u)) Q E s) :
  OpR X f (rI0 fun i j=>.bl (g i j)):=by
 intro Il s σ H x y v u Q I rx ry h;obtain⟨i,j,rfl,rfl,q⟩:=h;obtain⟨t,rfl⟩:=rx;obtain⟨t',rfl⟩:=ry;exact rule i j t t' s _ _ ⟨.bl (g i j),H,I,rfl,q⟩
def fH(i j:Int):Prop:=0<=j/\j<=1000000/\i.natAbs<2 ^ 64
def op_add:OpR X (binaryOp .Add) (rI0 fun i j=>.int (i+j)):=opI0 fun _ _ _ _ _ _ _ q=>add_int q
def op_sub:OpR X (binaryOp .Sub) (rI0 fun i j=>.int (i - j)):=opI0 fun _ _ _ _ _ _ _ q=>sub_int q
def op_pow:OpR X (binaryOp .Pow) (rI fH fun i j=>.int (i ^ j.toNat)):=opI fun _ _ _ _ _ _ _ hc q=>pow_int_small hc.1 hc.2.1 hc.2.2 q
def unI{f:Value->Sem Value}{g:Int->Int}
  (rule:∀(i:Int) (t:Tok) (s:Shared) (Q:Value->Shared->Prop) (E:Value->Shared->Prop),Q (.int (g i) s.toks) { s with toks:=s.toks+1}->wpAny (model X.prog X.w) X.A (f (.int i t)) Q E s) :
  UnR X f (rU fun i=>.int (g i)):=by
 intro Il s σ H x v Q I rx h;obtain⟨i,rfl,q⟩:=h;obtain⟨t,rfl⟩:=rx;exact rule i t s _ _ ⟨.int (g i),H,I.tok _,⟨_,rfl⟩,q⟩
def un_neg:UnR X (unaryOp .USub) (rU fun i=>.int (-i)):=unI fun _ _ _ _ _ q=>neg_int q
def fin_bl{Il:List (Addr × Obj)}{σ:St}{H:Hp}{s:Shared}{Q:VK}{k k':Bool}(I:Inv X Il σ H s)(q:Q (.bl k) H)(e:k=k'):EP X Il σ Q (.bool k') s:=by
 subst e;exact⟨.bl k,H,I,rfl,q⟩
def op_lt:OpR X (compareOp .Lt) (rI0 fun i j=>.bl (decide (i<j))):=opB0 fun _ _ _ _ _ _ _ q=>lt_int q
def op_gt:OpR X (compareOp .Gt) (rI0 fun i j=>.bl (decide (j<i))):=opB0 fun _ _ _ _ _ _ _ q=>gt_int q
def op_ge:OpR X (compareOp .GtE) (rI0 fun i j=>.bl (decide (j<=i))):=opB0 fun _ _ _ _ _ _ _ q=>ge_int q
def op_notN:OpR X (compareOp .IsNot) (fun x y H Q=>y=.non/\Q (.bl (!decide (x=.non))) H):=by
 intro Il s σ H x y v u Q I rx ry h;obtain⟨rfl,q⟩:=h;cases ry;refine isnot_none_gen (fin_bl I q ?_);cases x <;> first
  | (cases rx;rfl)
  | (obtain⟨t,rfl⟩:=rx;rfl)
def nomark(b:Expr)(h:op≠.In:=by decide)(h2:op≠.NotIn:=by decide):behindInMarks op b=false:=by
 have e1:(op == CmpOp.In)=false:=by cases op <;> first | rfl | exact absurd rfl h
 have e2:(op == CmpOp.NotIn)=false:=by cases op <;> first | rfl | exact absurd rfl h2
 cases b <;> simp[behindInMarks,e1,e2]
def pe_cmpR{op:CmpOp}{r:R2}(ho:OpR X (compareOp op) r)(ha:PE X a ta)(hb:PE X b tb)(hm:behindInMarks op b=false):PE X (.Compare a [op] [b] pos) (tOp r ta tb):=by
 intro Il s σ H Q I h;exact wpAny_Compare1 (binT ha hb I h fun v u s2 x y H2 I2 rx ry q=>ho Il s2 σ H2 x y v u Q I2 rx ry q) hm
def tTest(t:TE):TT:=fun σ H Q=>t σ H fun x H'=>∃k,x=.bl k/\Q k H'
def pt_cmpR(ho:OpR X (compareOp op) r)(ha:PE X a ta)(hb:PE X b tb)(hm:behindInMarks op b=false):PT X (.Compare a [op] [b] pos) (tTest (tOp r ta tb)):=by
 intro Il s σ H Q I h
 refine wpAny_isTrue_Compare1 (thn (ha Il s σ H _ I h) fun v s1 ⟨x,H1,I1,r1,q1⟩=>thn (hb Il s1 σ H1 _ I1 q1) fun u s2 ⟨y,H2,I2,r2,q2⟩ =>
  thn (ho Il s2 σ H2 x y v u _ I2 r1 r2 q2) fun c s3 ⟨z,H3,I3,r3,k,e,q3⟩=>?_) hm
 subst e;cases r3;exact wpAny_truthy_bool ⟨H3,I3,q3⟩
def TruV(K:qab)(x:V)(H:Hp)(k:Bool):Prop :=
 match x with
 | .non=>k=false
 | .bl b=>k=b
 | .int i=>k=(i != 0)
 | .str y=>y.length<=sizeLine/\k=((y.length:Int) != 0)
 | .byt y=>y.size<=sizeLine/\k=((y.size:Int) != 0)
 | .ref p=>(∃xs,SqL K H p xs/\k=!xs.isEmpty)\/(∃xs,SqT K H p xs/\k=!xs.isEmpty)\/∃kvs,H p=some (.dK kvs)/\k=!kvs.isEmpty
 | _=>False
def uA{κ:Type}{kvs:List (κ × V)}{vs:List (κ × Value)}(r:KV kvs vs):(!vs.isEmpty)=!kvs.isEmpty:=by
 cases r <;> rfl
def my(r:aI xs its):(!its.toArray.isEmpty)=!xs.isEmpty:=by
 cases r <;> simp
def iN:(sizeLine:Nat)<2 ^ 63:=by rw[sizeLine_eq];decide
def qG:TruR X (fun x H Q=>∃k,TruV X.K x H k/\Q k H):=by
 intro Il s σ H x v Q I rx h;obtain⟨k,e,q⟩:=h;have hl:=iN;have hs:sizeLine=16777216:=sizeLine_eq
 cases x with
 | non =>
  cases rx;have e':k=false:=e;subst e';exact truthy_none ⟨H,I,q⟩
 | bl b =>
  cases rx;have e':k=b:=e;subst e';exact wpAny_truthy_bool ⟨H,I,q⟩
 | int i =>
  obtain⟨t,rfl⟩:=rx;have e':k=(i != 0):=e;subst e';exact PySem.P.truthy_int ⟨H,I,q⟩
 | str y =>
  obtain⟨t,rfl⟩:=rx;obtain⟨hy,e'⟩:y.length<=sizeLine/\k=((y.length:Int) != 0):=e;subst e';exact PySem.P.truthy_str (by ext) ⟨H,I.tok _,q⟩
 | byt y =>
  obtain⟨t,rfl⟩:=rx;obtain⟨hy,e'⟩:y.size<=sizeLine/\k=((y.size:Int) != 0):=e;subst e';exact PySem.W.truthy_bytes (by ext) ⟨H,I.tok _,q⟩
 | ref p =>
  cases rx;have e':(∃xs,SqL X.K H p xs/\k=!xs.isEmpty)\/(∃xs,SqT X.K H p xs/\k=!xs.isEmpty)\/∃kvs,H p=some (.dK kvs)/\k=!kvs.isEmpty:=e;rcases e' with ⟨xs,hx,e'⟩|⟨xs,hx,e'⟩|⟨kvs,hx,e'⟩
  ·subst e';obtain⟨its,r,pl,hz⟩:=I.list hx;have hlen:=r.length;exact wpAny_truthy_list pl.isList (by simp only[qav];ext) ⟨H,I.tok _,by rw[my r];exact q⟩
  ·subst e';obtain⟨its,r,pl,hz⟩:=I.tuple hx;have hlen:=r.length;exact truthy_tuple pl (by simp only[qav];ext) ⟨H,I.tok _,by rw[my r];exact q⟩
  ·subst e';obtain⟨hz,hS,vs,r,m⟩:kvs.length<=sizeLine/\(p == sysModules)=false/\∃vs,KV kvs vs/\s.heap.DictOf (cM X.prog X.w) p vs:=I.hok p _ hx;have hlen:kvs.length=vs.length:=Paired.length r;exact wpAny_truthy_dict hS m (by ext) ⟨H,I.tok _,by rw[uA r];exact q⟩
 | _=>exact (show False from e).elim
def w6(ha:PE X a ta)(he:∀whole,isTrue a X.env whole=(do let v <-whole;standAt a.pos;holding [v] (truthy v))) :
  PT X a (fun σ H Q=>ta σ H fun x H'=>∃k,TruV X.K x H' k/\Q k H'):=by
 intro Il s σ H Q I h;exact isTrue_plain (thn (ha Il s σ H _ I h) fun v s1 ⟨x,H1,I1,r1,q1⟩=>qG Il s1 σ H1 x v Q I1 r1 q1) (he _)
def tZ:OpR X (binaryOp .Add) (fun x y H Q=>∃i j,x=.str i/\y=.str j/\i.length+j.length<=sizeLine/\Q (.str (i++j)) H):=by
 intro Il s σ H x y v u Q I rx ry h;obtain⟨i,j,rfl,rfl,hz,q⟩:=h;obtain⟨t,rfl⟩:=rx;obtain⟨t',rfl⟩:=ry;exact add_str (fun t' tk=>⟨.str (i++j),H,I.tok _,⟨_,rfl⟩,q⟩) hz
def iz(r:aI [x] us):∃u,us=[u]/\aR x u:=by
 cases r with
 | cons r1 r2=>cases r2;exact⟨_,rfl,r1⟩
def vals2(r:aI [x,y] us):∃u w',us=[u,w']/\aR x u/\aR y w':=by
 cases r with
 | cons r1 r2 =>
  cases r2 with
  | cons r3 r4=>cases r4;exact⟨_,_,rfl,r1,r3⟩
def xJ:dY X (.builtin "abs") (fun xs H Q=>∃i,xs=[.int i]/\Q (.int (if i<0 then -i else i)) H):=by
 intro Il s σ H xs us Q I r h;obtain⟨i,rfl,q⟩:=h;obtain⟨u,rfl,t,rfl⟩:=iz r;exact call_abs_int fun u tk=>⟨.int (if i<0 then -i else i),H,I.tok _,⟨_,rfl⟩,q⟩
def wA(hc:X.calm=true):dY X (.builtin "min") (fun xs H Q=>∃i j,xs=[.int i,.int j]/\Q (.int (if j<i then j else i)) H):=by
 intro Il s σ H xs us Q I r h;obtain⟨i,j,rfl,q⟩:=h;obtain⟨u,w',rfl,⟨t,rfl⟩,⟨t',rfl⟩⟩:=vals2 r;refine min_two_ints (I.ok.hd hc) fun h' tk k=>⟨_,H,I.kept k,?_,q⟩;by_cases hj:j<i
 ·rw[qan hj,qan hj];exact⟨_,rfl⟩
 ·rw[qaz hj,qaz hj];exact⟨_,rfl⟩
def oG:dY X (.type "int") (fun xs H Q=>(∃i,xs=[.int i]/\Q (.int i) H)\/∃k,xs=[.bl k]/\Q (.int (if k then 1 else 0)) H):=by
 intro Il s σ H xs us Q I r h;rcases h with ⟨i,rfl,q⟩|⟨k,rfl,q⟩
 ·obtain⟨u,rfl,t,rfl⟩:=iz r;exact call_int_int ⟨.int i,H,I,⟨_,rfl⟩,q⟩
 ·obtain⟨u,rfl,r1⟩:=iz r;cases r1;exact call_int_bool ⟨.int (if k then 1 else 0),H,I.tok _,⟨_,rfl⟩,q⟩
def LenV(K:qab)(x:V)(H:Hp)(n:Nat):Prop :=
 match x with
 | .str y=>y.length<=sizeLine/\n=y.length
 | .byt y=>y.size<=sizeLine/\n=y.size
 | .ref p=>(∃xs,SqL K H p xs/\n=xs.length)\/∃xs,SqT K H p xs/\n=xs.length
 | _=>False
def jo:dY X (.builtin "len") (fun xs H Q=>∃x n,xs=[x]/\LenV X.K x H n/\Q (.int n) H):=by
 intro Il s σ H xs us Q I r h;obtain⟨x,n,rfl,e,q⟩:=h;obtain⟨u,rfl,rx⟩:=iz r;have hl:=iN;have hs:sizeLine=16777216:=sizeLine_eq
 cases x with
 | str y =>
  obtain⟨t,rfl⟩:=rx;obtain⟨hy,e'⟩:y.length<=sizeLine/\n=y.length:=e;subst e';exact len_str (by ext) ⟨.int _,H,I.tok _,⟨_,rfl⟩,q⟩
 | byt y =>
  obtain⟨t,rfl⟩:=rx;obtain⟨hy,e'⟩:y.size<=sizeLine/\n=y.size:=e;subst e';exact PySem.W.len_bytes (by ext) ⟨.int _,H,I.tok _,⟨_,rfl⟩,q⟩
 | ref p =>
  cases rx;have e':(∃xs,SqL X.K H p xs/\n=xs.length)\/∃xs,SqT X.K H p xs/\n=xs.length:=e;rcases e' with ⟨xs,hx,e'⟩|⟨xs,hx,e'⟩
  ·subst e';obtain⟨its,r',pl,hz⟩:=I.list hx;have hlen:=r'.length;exact Calls.call_len_list pl.isList (by simp only[qav];ext) ⟨.int xs.length,H,I.tok _,⟨_,by simp only[qav];rw[hlen]⟩,q⟩
  ·subst e';obtain⟨its,r',pl,hz⟩:=I.tuple hx;have hlen:=r'.length;exact len_tuple pl (by simp only[qav];ext) ⟨.int xs.length,H,I.tok _,⟨_,by simp only[qav];rw[hlen]⟩,q⟩
 | _=>exact (show False from e).elim
end
section
variable {prog:Program} {w:World} {A:Around} {E:Value→Shared→Prop} {s:Shared} {K:qab} {x dx C f:Addr} {mA:Str→Option Value} {name:Str} {v:Value}
end
def gn.some_of(r:gn (some v) o):∃u,o=some u/\aR v u:=by
 cases o with
 | none=>exact (show False from r).elim
 | some u=>exact⟨u,rfl,r⟩
def gn.none_of(r:gn none o):o=none:=by
 cases o with
 | none=>rfl
 | some u=>exact (show False from r).elim
section
variable {P:Program} {w:World} {H H':Hp} {h h':Heap} {a C dx:Addr} {fs fs':List (Str × V)}
end
section
variable {X:Cx} {Il:List (Addr × Obj)} {σ:St} {H:Hp} {s:Shared} {a C dx:Addr} {fs:List (Str × V)} {f:Str} {v:V} {A:Around} {E:Value→Shared→Prop}
end
section
variable {X:Cx} {o e value:Expr} {f:Str} {pos pos' tpos:Pos} {ta tv:TE}
end
section
variable {X:Cx} {Il:List (Addr × Obj)} {σ:St} {H:Hp} {s:Shared} {A:Around} {E:Value→Shared→Prop} {Q:Value→Shared→Prop} {c:Value} {b:Bool}
end
structure Room (k:Nat) (A:Around):Prop where
 hd:A.handled=none
 dp:A.depth+3 * k+105<recursionLimit
 un:A.units+16 * k+200<cLine
 gd:A.guards=some []
def Room.mono(r:Room k A)(h:j<=k):Room j A:=⟨r.hd,by have:=r.dp;ext,by have:=r.un;ext,r.gd⟩
def Room.deeper(r:Room (k+1) A)(env:Env):Room k (A.deeper env) :=
 ⟨r.hd,by have:=r.dp;show A.depth+1+3 * k+105<_;ext,by have:=r.un;show A.units+3+16 * k+200<_;ext,r.gd⟩
def Room.depth(r:Room k A):A.depth<recursionLimit:=by have:=r.dp;ext
def Room.units(r:Room k A):A.units+64<cLine:=by have:=r.un;ext
def tNil:TA:=fun _ H Q=>Q [] H
def tCons(ta:TE)(tr:TA):TA:=fun σ H Q=>ta σ H fun x H1=>tr σ H1 fun xs H2=>Q (x::xs) H2
section
variable {X:Cx} {e:Expr} {es:List Expr} {te:TE} {t:TA} {pos:Pos}
def rc:PA X [] tNil:=fun _ _ _ _ H Q I h=>Calls.spliced_nil ⟨[],H,I,.nil,h⟩
def ky(ha:PE X e te)(hr:PA X es t)(hs:starEach (e::es) X.env=(false,eval e X.env)::starEach es X.env:=by rfl):PA X (e::es) (tCons te t):=by
 intro pos Il s σ H Q I h;rw[hs];show wpAny _ _ (spliced ((false,eval e X.env)::backTo pos (starEach es X.env))) _ _ s;refine Calls.spliced_cons (thn (ha Il s σ H _ I h) fun u s1 ⟨x,H1,I1,r1,q1⟩=>?_);exact thn (hr pos Il s1 σ H1 _ I1 q1) fun us s2 ⟨xs,H2,I2,r2,q2⟩=>⟨x::xs,H2,I2,.cons r1 r2,q2⟩
def tTup(t:TA):TE:=fun σ H Q=>t σ H fun xs H1=>xs.length<=sizeLine/\∀p,H1 p=none->Q (.ref p) (upd H1 p (.tup xs))
def tLst(t:TA):TE:=fun σ H Q=>t σ H fun xs H1=>xs.length<=sizeLine/\∀p,H1 p=none->Q (.ref p) (upd H1 p (.lst xs))
def pe_tup{x1}(h:PA X es t):PE X (.Tuple es x1 pos) (tTup t):=by
 intro Il s σ H Q I hq;refine wpAny_Tuple_spliced (thn (h pos Il s σ H _ I hq) fun us s1 ⟨xs,H1,I1,r,z,q⟩=>⟨by rw[<-r.length];exact z,?_⟩);have hf:H1 s1.heap.objs.size=none:=I1.hok.fresh (qak _);refine⟨.ref s1.heap.objs.size,upd H1 s1.heap.objs.size (.tup xs),I1.laid (t':=s1.toks) (fun b u e=>qac _ e) (qak _) ?_,rfl,q _ hf⟩;exact⟨z,us,r,⟨_,qax _ rfl,rfl,⟨_,rfl⟩,rfl⟩⟩
def pe_lst(h:PA X es t):PE X (.List es pos) (tLst t):=by
 intro Il s σ H Q I hq;refine wpAny_List_spliced (thn (h pos Il s σ H _ I hq) fun us s1 ⟨xs,H1,I1,r,z,q⟩=>⟨by rw[<-r.length];exact z,?_⟩);have hf:H1 s1.heap.objs.size=none:=I1.hok.fresh (qak _);refine⟨.ref s1.heap.objs.size,upd H1 s1.heap.objs.size (.lst xs),I1.laid (t':=s1.toks) (fun b u e=>qac _ e) (qak _) ?_,rfl,q _ hf⟩;exact⟨z,us,0,r,qax _ rfl⟩
end
abbrev Sp:=List V->Hp->VK->XK->Prop
abbrev CXT:=List Env->Hp->Shared->XK->Value->Shared->Prop
structure Env0 (P:Program) (w:World) (K:qab) (mg:Str->Option Value) (base:Heap) (A:Around) (outer:List Env) (s:Shared) (H:Hp):Prop where
 frames:A.frames=some outer
 mod:Mod K mg base
 bs:∀b o,base.get? b=some o->s.heap.get? b=some o/\H b=none
 bsz:base.objs.size<=s.heap.objs.size
 funs:s.heap.FunFrames base outer
 frf:∀b∈frs outer,H b=none
 hok:HOk P w H s.heap
 bare:AllBare s.gens
 tree:P.given.tree=none
inductive CE (outer:List Env) (P:Program) (w:World) (H:Hp) (s:Shared) (Q:VK) (u:Value) (s':Shared):Prop
 | mk (v:V) (H':Hp) (o:s'.os=s.os) (b:AllBare s'.gens) (n:Un (frs outer) [] H H' s.heap s'.heap) (k:HOk P w H' s'.heap) (r:aR v u) (q:Q v H'):CE outer P w H s Q u s'
def CR(CX:CXT)(outer:List Env)(P:Program)(w:World)(H:Hp)(s:Shared)(Q:VK)(E:XK)(r:Result)(s':Shared):Prop :=
 match r with
 | .ok (.ret u)=>CE outer P w H s Q u s'
 | .ok _=>False
 | .error e=>CX outer H s E e s'
structure FnOk (P:Program) (w:World) (K:qab) (mg:Str->Option Value) (base:Heap) (CX:CXT) (k:Nat) (f:Addr) (fd:FuncData) (ps:List Str) (sp:Sp):Prop where
 len:∀vs H Q E,sp vs H Q E->vs.length=ps.length
 run:∀(A:Around) (outer:List Env) (s:Shared) (H:Hp) (args:Args) (us:List Value) (vs:List V) (Q:VK) (E:XK),Room k A->Env0 P w K mg base A outer s H->BindsTo s fd args (ps.zip us)->aI vs us->sp vs H Q E ->
  codeAny (model P w) A (.call (.ref f) args) (CR CX outer P w H s Q E) s
def FnOk.mono{P:Program}{w:World}{K:qab}{mg:Str->Option Value}{base:Heap}{CX:CXT}{j k:Nat}{f:Addr}{fd:FuncData}{ps:List Str}{sp:Sp}(F:FnOk P w K mg base CX j f fd ps sp)(h:j<=k) :
  FnOk P w K mg base CX k f fd ps sp:=⟨F.len,fun A outer s H args us vs Q E hr=>F.run A outer s H args us vs Q E (hr.mono h)⟩
def FnOk.imp{P:Program}{w:World}{K:qab}{mg:Str->Option Value}{base:Heap}{CX:CXT}{k:Nat}{f:Addr}{fd:FuncData}{ps:List Str}{sp sp':Sp}(F:FnOk P w K mg base CX k f fd ps sp)
  (h:∀vs H Q E,sp' vs H Q E->sp vs H Q E):FnOk P w K mg base CX k f fd ps sp' :=
 ⟨fun vs H Q E q=>F.len vs H Q E (h _ _ _ _ q),fun A outer s H args us vs Q E hr he hb hv hs=>F.run A outer s H args us vs Q E hr he hb hv (h _ _ _ _ hs)⟩
section
variable {X:Cx} {Il:List (Addr × Obj)} {σ:St} {H:Hp} {s s':Shared}
def Inv.env0(I:Inv X Il σ H s):Env0 X.prog X.w X.K X.mg X.base X.A X.stack s H :=
 ⟨I.ok.frames,I.ok.mod,I.bs,qaJ I.ok.bsz I.sz,I.stack,I.stkFree,I.hok,I.bare,I.ok.tree⟩
def Inv.after(I:Inv X Il σ H s)(h:CE X.stack X.prog X.w H s Q u s'):EP X Il σ Q u s':=by
 obtain⟨v,H',os,bare,un,hok,r,q⟩:=h;obtain⟨hh,g,d,t,os'⟩:=s';obtain rfl:os'=s.os:=os;exact⟨v,H',I.call (h':=hh) (g':=g) (d':=d) (t':=t) (ch:=[]) un hok bare (fun b z=>absurd z (by simp)),r,q⟩
end
def lO(K:qab)(fd:FuncData)(ps:List Str)(ds:List Value):Prop :=
 ∀(s:Shared) (us:List Value),K.In s.heap->(us++ds).length=ps.length->BindsTo s fd ⟨us,[]⟩ (ps.zip (us++ds))
def lO.all{K:qab}{fd:FuncData}{ps:List Str}(h:∀us:List Value,us.length=ps.length->bindArgs fd ⟨us,[]⟩=pure (ps.zip us)):lO K fd ps []:=fun s us _ hl=>by
 rw[qbG] at hl ⊢;exact .of_eq (h us hl)
section
variable {X:Cx} {CX:CXT} {k:Nat} {f C:Addr} {fd:FuncData} {ps:List Str} {sp:Sp} {dvs:List V} {ds:List Value} {E:XK} {x m:Str} {p pos apos:Pos} {e o:Expr} {es:List Expr} {ta:TE} {t:TA}
end
section
variable {X:Cx} {CX:CXT} {k:Nat} {f C:Addr} {fd:FuncData} {ps ks:List Str} {sp:Sp} {E:XK} {x m:Str} {p pos apos kpos:Pos} {e o:Expr} {es:List Expr} {kws:List Keyword} {te ta:TE} {t tk:TA} {nm:Option Str} {g:List Value→List Value→List Value} {gV:List V→List V→List V}
end
structure FnScope (N P:List Str) (sc:Scope):Prop where
 kind:sc.kind=.function
 co:sc.isCoroutine=false
 gen:sc.isGenerator=false
 nd:N.Nodup
 pre:N.take P.length=P
 par:∀x∈P,sc.names.lookup x=some .local\/sc.names.lookup x=some .cell
 nofree:∀y∈sc.names,y.2≠.free
def nN{kindOf:Str->Option NameKind}{x:Str}:∀{binds:List (Str × Value)} {m:Str->Option Value},(∀v,(x,v)∉binds)->bindL kindOf binds m x=m x
 | [],_,_=>rfl
 | (n,v)::r,m,h=>by
  unfold bindL;rw[nN fun w hw=>h w (qaf _ hw)];split
  ·have:x≠n:=by rintro rfl;exact h v qaI
   simp[this]
  ·rfl
def nR{kindOf:Str->Option NameKind}{x:Str}:∀{binds:List (Str × Value)} {m:Str->Option Value},(∀v,(x,v)∉binds)->bindC kindOf binds m x=m x
 | [],_,_=>rfl
 | (n,v)::r,m,h=>by
  unfold bindC;rw[nR fun w hw=>h w (qaf _ hw)];split
  ·rfl
  ·have:x≠n:=by rintro rfl;exact h v qaI
   simp[this]
def oz{kindOf:Str->Option NameKind}{x:Str}{v:Value}:∀{P:List Str} {vs:List Value} {i:Nat} {m:Str->Option Value},P.Nodup->P[i]?=some x->vs[i]?=some v->kindOf x=some .local ->
  bindL kindOf (P.zip vs) m x=some v
 | [],_,_,_,_,h,_,_=>by simp at h
 | _::_,[],_,_,_,_,h,_=>by simp at h
 | p::P,w::vs,0,m,nd,h1,h2,hk=>by
  simp at h1 h2;subst h1;subst h2;show bindL kindOf ((p,w)::P.zip vs) m p=_;unfold bindL;rw[nN fun v hv=>(qaN.mp nd).1 (qaW hv).1,qan hk];simp
 | p::P,w::vs,i+1,m,nd,h1,h2,hk=>by
  show bindL kindOf ((p,w)::P.zip vs) m x=_;unfold bindL;exact oz (i:=i) (qaN.mp nd).2 (by simpa using h1) (by simpa using h2) hk
def oD{kindOf:Str->Option NameKind}{x:Str}{v:Value}:∀{P:List Str} {vs:List Value} {i:Nat} {m:Str->Option Value},P.Nodup->P[i]?=some x->vs[i]?=some v->kindOf x≠some .local ->
  bindC kindOf (P.zip vs) m x=some v
 | [],_,_,_,_,h,_,_=>by simp at h
 | _::_,[],_,_,_,_,h,_=>by simp at h
 | p::P,w::vs,0,m,nd,h1,h2,hk=>by
  simp at h1 h2;subst h1;subst h2;show bindC kindOf ((p,w)::P.zip vs) m p=_;unfold bindC;rw[nR fun v hv=>(qaN.mp nd).1 (qaW hv).1,qaz hk];simp
 | p::P,w::vs,i+1,m,nd,h1,h2,hk=>by
  show bindC kindOf ((p,w)::P.zip vs) m x=_;unfold bindC;exact oD (i:=i) (qaN.mp nd).2 (by simpa using h1) (by simpa using h2) hk
def start(N:List Str)(vs:List V):St:=vs.map some++List.replicate (N.length - vs.length) none
def qP(CX:CXT)(P:Program)(w:World)(K:qab)(mg:Str->Option Value)(base:Heap)(N:List Str)(qual:Str)(scope:Scope)(f:Addr)(cd:Value)(A:Around)(outer:List Env)(s:Shared)(H:Hp)(E:XK):Cx where
 prog:=P
 w:=w
 K:=K
 mg:=mg
 base:=base
 A:=A.deeper (envOfC qual scope s.heap.objs.size f cd)
 N:=N
 s₀:=s
 H₀:=H
 env:=envOfC qual scope s.heap.objs.size f cd
 outer:=outer
 stack:=envOfC qual scope s.heap.objs.size f cd::outer
 ex:=[]
 calm:=true
 fn:=fun _=>true
 pn:=[]
 xe:=fun e s'=>wpAny (model P w) (A.deeper (envOfC qual scope s.heap.objs.size f cd)) (leaving (envOfC qual scope s.heap.objs.size f cd) e) (fun _ s''=>CX outer H s E e s'') (fun e' s''=>CX outer H s E e' s'') s'
def qF{sc:Scope}{n:Nat}{x:Str}(h:sc.names.lookup x=some .cell):∃c,(cellsFrom n sc.names []).lookup x=some c:=by
 have q:=PySem.W.cellsFrom_some sc.names n [] (.inl h);exact Option.isSome_iff_exists.mp q
def u9{CX:CXT}{P:Program}{w:World}{K:qab}{mg:Str->Option Value}{base:Heap}{N ps:List Str}{qual:Str}{scope:Scope}{f:Addr}{cd:Value}{A:Around}{outer:List Env}{s s1:Shared}{H:Hp}{E:XK}{us:List Value}{vs:List V}
  (S:FnScope N ps scope) (hd:A.handled=none) (e0:Env0 P w K mg base A outer s H) (hl:vs.length=ps.length) (r:aI vs us)
  (x:InCallC s s.heap.objs.size (bindL (envOfC qual scope s.heap.objs.size f cd).kindOf (ps.zip us) fun _=>none) (cellsFrom (s.heap.objs.size+1) scope.names []) (bindC (envOfC qual scope s.heap.objs.size f cd).kindOf (ps.zip us) fun _=>none) s1) :
  Inv (qP CX P w K mg base N qual scope f cd A outer s H E) [] (start N vs) H s1:=by
 have hpl:ps.length<=N.length:=by have:=congrArg List.length S.pre;rw[qbt] at this;ext
 obtain⟨h1,tk,rfl,hk⟩:=x.done;have noA:∀b:Addr,b∉(qP CX P w K mg base N qual scope f cd A outer s H E).ex:=fun b z=>absurd (show b∈([]:List Addr) from z) (by simp)
 refine⟨⟨e0.mod,S.kind,rfl,rfl,qak _,fun y z c h1 h2=>?_,fun y hy=>?_,fun y c _ h=>?_,fun _=>hd,Around.frames_deeper e0.frames,.inr ⟨rfl,rfl⟩,fun b z=>absurd z (noA b),e0.bs,e0.bsz,fun b _ _=>noA b,fun b z=>absurd z (noA b),e0.funs,e0.frf,e0.tree,⟨_,_,rfl,S.gen,S.co,rfl,rfl⟩⟩,
  rfl,e0.bare,Un.kept hk,⟨_,x.toInCall.ns,fun i y v h1 h2 h3=>?_⟩,fun y c h=>⟨_,x.cell y c h⟩,e0.hok.fresh (qak _),fun y c h=>?_,fun p hp=>absurd (show p∈([]:List (Addr × Obj)) from hp) (by simp),e0.hok.kept hk,?_⟩
 ·exact name_of_addr x.apart (PySem.mem_of_lookup h1) (PySem.mem_of_lookup h2)
 ·have hy:scope.names.lookup y=some .cell\/scope.names.lookup y=some .free:=hy;rcases hy with hy|hy
  ·exact qF hy
  ·exact absurd rfl (S.nofree _ (PySem.mem_of_lookup hy))
 ·exact qbp (x.above y c (PySem.mem_of_lookup h))
 ·have hi:i<vs.length:=by
   unfold start at h2;by_cases hi:i<vs.length
   ·exact hi
   ·rw[qaF (by simpa using hi)] at h2;rw[qaZ] at h2
    split at h2 <;> cases h2
  have ha:vs[i]?=some v:=by
   unfold start at h2;rw[qal (by simpa using hi),qap] at h2
   cases e:vs[i]? with
   | none=>rw[e] at h2;cases h2
   | some a=>rw[e] at h2;cases h2;rfl
  obtain⟨u,hu,rv⟩:=r.get ha;have hp:ps[i]?=some y:=by
   rw[<-S.pre,List.getElem?_take_of_lt (by ext)];exact h1
  have ndP:ps.Nodup:=by rw[<-S.pre];exact S.nd.sublist (List.take_sublist _ _)
  refine⟨u,rv,?_⟩;rcases S.par y (qbj hp) with k|k
  ·exact .inl ⟨k,oz ndP hp hu k⟩
  ·obtain⟨c,e⟩:=qF (n:=s.heap.objs.size+1) k;refine .inr ⟨.inl k,c,e,?_⟩;have q:=x.cell y c e;rw[oD ndP hp hu (by show scope.names.lookup y≠_;rw[k];decide)] at q;exact q
 ·exact e0.hok.fresh (qbp (x.above y c (PySem.mem_of_lookup h)))
 ·unfold start;show _=N.length;rw[qbg,qaC,qbu];ext
def fn_of{CX:CXT}{P:Program}{w:World}{K:qab}{mg:Str->Option Value}{base:Heap}{k:Nat}{f:Addr}{name qual:Str}{params:Arguments}{body:List Stmt}{scope:Scope}{dV kV doc pm cdv ct oc:Value}{an od:Option Addr}
  {osl:Array (Option Value)} {N ps:List Str} {sp:Sp} (lk:K.lookup f=some ⟨oc,od,.func (PySem.W.fnOf name qual params body scope dV kV doc pm an cdv ct),osl⟩) (hcd:PySem.W.codeIn K cdv qual=true) (S:FnScope N ps scope)
  (len:∀vs H Q E,sp vs H Q E->vs.length=ps.length)
  (hbody:∀(A:Around) (outer:List Env) (s:Shared) (H:Hp) (vs:List V) (Q:VK) (E:XK),Room k (A.deeper (envOfC qual scope s.heap.objs.size f cdv))->sp vs H Q E ->
   ∃t,PSs (qP CX P w K mg base N qual scope f cdv A outer s H E) body t/\t { nx:=fun _ H'=>Q .non H',rt:=Q} (start N vs) H) :
  FnOk P w K mg base CX (k+1) f (PySem.W.fnOf name qual params body scope dV kV doc pm an cdv ct) ps sp:=by
 refine⟨len,fun A outer s H args us vs Q E hr e0 hb r hsp=>?_⟩;have hl:=len _ _ _ _ hsp;have KX:K.In s.heap:=e0.mod.kin.keeps fun b o e=>(e0.bs b o e).1;have lim:s.heap.NoLimit:=e0.mod.nolimit.keeps fun b o e=>(e0.bs b o e).1;have hkind:∀y∈ps.zip us,scope.names.lookup y.1=some .local\/(scope.names.lookup y.1=some .cell/\((cellsFrom (s.heap.objs.size+1) scope.names []).lookup y.1).isSome=true):=fun ⟨n,v⟩ hy=>by
  rcases S.par n (qaW hy).1 with q|q
  ·exact .inl q
  ·exact .inr ⟨q,PySem.W.cellsFrom_some _ _ _ (.inl q)⟩
 refine codeAny_call_function hr.depth (KX _ _ lk) rfl S.co S.gen rfl (PySem.W.codeRec_of KX hcd) (hb _ _ _ _ ?_);refine wpAny_newFunctionEnv_cells S.kind hkind fun env he s1 x=>?_;subst he;refine⟨lim.keeps x.toInCall.keep,codeAny_func ?_⟩;obtain⟨t,ht,hq⟩:=hbody A outer s H vs Q E (hr.deeper _) hsp;have I:Inv (qP CX P w K mg base N qual scope f cdv A outer s H E) [] (start N vs) H s1:=u9 S hr.hd e0 hl r x;refine wpAny_mono (ht [] s1 (start N vs) H _ I hq) (fun fl s' hs=>?_) fun e s' hs=>hs;have fin:∀{σ':St} {H':Hp} {v:V} {u:Value},Inv (qP CX P w K mg base N qual scope f cdv A outer s H E) [] σ' H' s'->aR v u->Q v H'->CE outer P w H s Q u s' :=
  fun {σ' H' v u} J rv q=>⟨v,H',J.os,J.bare,J.base,J.hok,rv,q⟩
 cases fl with
 | ret u =>
  obtain⟨v,σ',H',J,rv,q⟩:=hs;exact fin J rv q
 | next =>
  obtain⟨σ',H',J,q⟩:=hs;exact fin (v:=V.non) (u:=Value.none) J rfl q
 | brk =>
  obtain⟨_,_,_,q⟩:=hs;exact False.elim q
 | cont =>
  obtain⟨_,_,_,q⟩:=hs;exact False.elim q
section
variable {X:Cx} {x:Str} {p pos:Pos} {e:Expr} {es:List Expr} {t:TA} {id T:String} {r:List V→Hp→VK→Prop}
def tCB(r:List V->Hp->VK->Prop)(t:TA):TE:=fun σ H Q=>t σ H fun vs H1=>r vs H1 Q
def qV(hc:dY X (.builtin id) r)(hg:Gl X x)(hm:X.mg x=none)(hv:bootBuiltins x=some (.builtin id))(ha:PA X (e::es) t)(hn:x≠"__name__":=by decide)(hdb:(x == ("__debug__":Str))=false:=by decide)
  (he:starEach (e::es) X.env=(false,eval e X.env)::starEach es X.env:=by rfl) (hpl:(backTo pos (starEach es X.env)).any (·.1)=false:=by rfl):PE X (.Call (.Name x p) (e::es) [] pos) (tCB r t):=by
 intro Il s σ H Q I h;refine wpAny_Call_Name_kw (gX I hg hm hv ?_ hn hdb);exact PyProof.Rows.callWith_builtin1 (thn (ha pos Il s σ H _ I h) fun us s1 ⟨vs,H1,I1,r1,q1⟩=>hc Il s1 σ H1 vs us Q I1 r1 q1) he hpl
def oI(hc:dY X (.type T) r)(hg:Gl X x)(hm:X.mg x=none)(hv:bootBuiltins x=some (.type T))(ha:PA X (e::es) t)(hn:x≠"__name__":=by decide)(hdb:(x == ("__debug__":Str))=false:=by decide)
  (he:starEach (e::es) X.env=(false,eval e X.env)::starEach es X.env:=by rfl) (hpl:(backTo pos (starEach es X.env)).any (·.1)=false:=by rfl):PE X (.Call (.Name x p) (e::es) [] pos) (tCB r t):=by
 intro Il s σ H Q I h;refine wpAny_Call_Name_kw (gX I hg hm hv ?_ hn hdb);exact PyProof.Rows.callWith_type1 (thn (ha pos Il s σ H _ I h) fun us s1 ⟨vs,H1,I1,r1,q1⟩=>hc Il s1 σ H1 vs us Q I1 r1 q1) he hpl
end
end L2
namespace HT
open PySem PyProof.Rows
section
open PySem.SeqAt
open PySem.AutoSeq1 (wpAny_loadPart')
open PySem.MeetsSeq PySem.MeetsSeq2 PySem.MeetsSeq3
end
section
variable {prog:Program} {w:World} {A:Around} {E:Value→Shared→Prop} {s:Shared}
def cat_tup(ht:IsTup s.heap t vs.toArray)(hb:IsTup s.heap b ws.toArray)(hv:vs≠[])
  (h1:ws=[]->Q (.ref t) s) (h2:ws≠[]->Q (.ref s.heap.objs.size) { s with heap:=s.heap.push { cls:=.type "tuple",data:=.seq (vs++ws).toArray}})
  (hsz:vs.length+ws.length<=sizeLine):wpAny (model prog w) A (binaryOp .Add (.ref t) (.ref b)) Q E s:=by
 obtain⟨⟨cls,dd,data,sl⟩,ho,hc,n,hd⟩:=id ht;obtain⟨⟨cls2,dd2,data2,sl2⟩,ho2,hc2,n2,hd2⟩:=id hb;simp only at hc hd hc2 hd2;subst hc hd hc2 hd2;have e:vs.toArray++ws.toArray=(vs++ws).toArray:=by simp
 by_cases hw:ws=[]
 ·exact concat_meets ⟨_,ho,rfl⟩ ⟨_,ho2,rfl⟩ noFill_tuple_add seq_tuple_add PySem.F.slot_tuple_add PySem.F.entry_tuple_add (PySem.F.args_tuple_add_2 _ _)
   (tuple_addW1 t b vs.toArray ws.toArray n n2 dd dd2 sl sl2 (by simpa using hv) (by simp[hw])) ⟨ho,ho2,h1 hw⟩
 ·refine concat_meets ⟨_,ho,rfl⟩ ⟨_,ho2,rfl⟩ noFill_tuple_add seq_tuple_add PySem.F.slot_tuple_add PySem.F.entry_tuple_add (PySem.F.args_tuple_add_2 _ _)
   (tuple_addW2 t b vs.toArray ws.toArray n n2 dd dd2 sl sl2 (by simpa using hv) (by simpa using hw) (by rw[qav,qav];exact hsz)) ⟨ho,ho2,?_⟩
  rw[e];exact h2 hw
def sIx(n d:Nat):Option Int->Nat
 | none=>d
 | some v=>if v<0 then (v+(n:Int)).toNat else min v.toNat n
def w9(n d:Nat):sIx n d none=d:=rfl
def sIx_nat(n d k:Nat):sIx n d (some (k:Int))=min k n:=by
 show (if (k:Int)<0 then ((k:Int)+(n:Int)).toNat else min (k:Int).toNat n)=min k n;rw[qaz (by ext),qaG]
def sIx_le(n d:Nat)(hd:d<=n)(o:Option Int):sIx n d o<=n:=by
 cases o with
 | none=>exact hd
 | some v =>
  show (if v<0 then (v+(n:Int)).toNat else min v.toNat n)<=n;by_cases hv:v<0
  ·rw[qan hv];ext
  ·rw[qaz hv];exact Nat.min_le_right _ _
def tz(v:Int)(n d:Nat):(if v<0 then max (v+(n:Int)) 0 else min v (n:Int))=((sIx n d (some v):Nat):Int):=by
 show (if v<0 then max (v+(n:Int)) 0 else min v (n:Int))=(((if v<0 then (v+(n:Int)).toNat else min v.toNat n):Nat):Int);by_cases hv:v<0
 ·simp only[qan hv];ext
 ·simp only[qaz hv];ext
def tY(lo hi:Option Int)(n:Nat):Builtin.Slice.sliceAdjust lo hi 1 (n:Int)=(((sIx n 0 lo:Nat):Int),((sIx n n hi:Nat):Int)):=by
 have h1:¬((1:Int)<0):=by ext
 unfold Builtin.Slice.sliceAdjust;simp only[h1,if_false];refine Prod.ext ?_ ?_
 ·cases lo with
  | none=>rfl
  | some v=>exact tz v n 0
 ·cases hi with
  | none=>rfl
  | some v=>exact tz v n n
def uM(i j:Nat):Builtin.Slice.slicePlaces (i:Int) (j:Int) 1=j - i:=by
 unfold Builtin.Slice.slicePlaces;have h1:(1:Int)>0:=by ext
 simp only[h1,if_true,Int.ediv_one]
 split <;> ext
def mP(p:IsPart v o)(h:Q o s):wpAny (model prog w) A (Builtin.Slice.slicePartIndex v) Q E s:=by
 cases p with
 | none=>exact slicePart_none h
 | int i t=>exact slicePart_int h
def k8{sl:Addr}{vl vu:Value}{lo hi:Option Int}{n:Nat}{Q:Int × Int × Nat->Shared->Prop}(hs:s.heap.IsSliceOf sl vl vu .none)(pl:IsPart vl lo)(pu:IsPart vu hi)
  (h:Q (((sIx n 0 lo:Nat):Int),1,sIx n n hi - sIx n 0 lo) s):wpAny (model prog w) A (Builtin.Slice.sliceApplied (.ref sl) (pure (n:Int))) Q E s:=by
 obtain⟨os,hos,hcs,hds⟩:=id hs;unfold Builtin.Slice.sliceApplied Builtin.Slice.sliceFields;refine qad (qad (wpAny_field hos hds (x:=vl) rfl (qad (wpAny_field hos hds (x:=vu) rfl (qad (wpAny_field hos hds (x:=.none) rfl (qat ?_)))))));refine qad (slicePart_none ?_);show wpAny _ _ (if ((1:Int) == 0)=true then _ else _) _ _ s;rw[qaz (by decide)];refine qad (mP pl (qad (mP pu (qad (qat ?_)))));show wpAny _ _ (match Builtin.Slice.sliceAdjust lo hi 1 (n:Int) with | (lo,hi)=>pure (lo,(1:Int),Builtin.Slice.slicePlaces lo hi 1)) _ _ s;rw[tY lo hi n];show wpAny _ _ (pure (((sIx n 0 lo:Nat):Int),(1:Int),Builtin.Slice.slicePlaces ((sIx n 0 lo:Nat):Int) ((sIx n n hi:Nat):Int) 1)) _ _ s;rw[uM];exact qat h
def wW(xs:Array Value)(i k:Nat):((List.range k).filterMap fun (m:Nat)=>xs[((i:Int)+(m:Int) * 1).toNat]?).toArray=((xs.toList.drop i).take k).toArray:=by
 have e:(fun (m:Nat)=>xs[((i:Int)+(m:Int) * 1).toNat]?)=fun m=>xs[i+m]?:=by
  funext m
  have:((i:Int)+(m:Int) * 1).toNat=i+m:=by ext
  rw[this]
 rw[e]
 have:=pick_run xs i k
 rw[List.filterMap_map] at this;have e2:((fun x=>xs[x]?)∘fun x=>i+x)=fun m=>xs[i+m]?:=rfl;rw[e2] at this;rw[this]
def kP{t sl:Addr}{items:Array Value}{vl vu:Value}{lo hi:Option Int}{Q:Value->Shared->Prop}(ht:IsTup s.heap t items)(hs:s.heap.IsSliceOf sl vl vu .none)(pl:IsPart vl lo)(pu:IsPart vu hi)
  (hw:¬(sIx items.size 0 lo=0/\sIx items.size items.size hi=items.size))
  (h:Q (.ref s.heap.objs.size) { s with heap:=s.heap.push { cls:=.type "tuple",data:=.seq ((items.toList.drop (sIx items.size 0 lo)).take (sIx items.size items.size hi - sIx items.size 0 lo)).toArray}})
  (hsz:items.size<=sizeLine):wpAny (model prog w) A (getItem (.ref t) (.ref sl)) Q E s:=by
 have htake:sizeOk (.seq ((items.toList.drop (sIx items.size 0 lo)).take (sIx items.size items.size hi - sIx items.size 0 lo)).toArray):=by
  show ((items.toList.drop (sIx items.size 0 lo)).take (sIx items.size items.size hi - sIx items.size 0 lo)).toArray.size<=sizeLine;rw[qav,qbt,qbS,qby];ext
 have hj:sIx items.size items.size hi<=items.size:=sIx_le _ _ (qak _) hi;obtain⟨os,hos,hcs,hds⟩:=id hs;have hTs:s.TypeIs (.ref sl) "slice":=⟨os,hos,hcs⟩;unfold getItem
 try with_reducible refine wpAny_holding ?_
 first | refine qad (qat ?_) | skip
 refine qad (wpAny_sequenceKey ht.typeIs (by decide) ?_)
 refine qad (wpAny_callSpecial?_slot (name:=Str.ofString "__getitem__") ht.typeIs PyProof.Rows.slot_tuple_getitem
  (wpAny_call_entry PyProof.Rows.slot_tuple_getitem ht.typeIs entry_tuple_getitem ?_ (args_tuple_getitem _ _)))
 show wpAny _ _ (Builtin.Tuple.tupleItemsOf (.ref t) >>= _) _ _ s;refine qad (tupleItemsOf_ ht ?_);refine qad (wpAny_typeOf hTs ?_);rw[qan (by decide)];refine qad (k8 hs pl pu ?_);have hno:¬((((sIx items.size 0 lo:Nat):Int) == 0 && (1:Int) == 1 && (sIx items.size items.size hi - sIx items.size 0 lo) == items.size)=true):=by
  intro q;rw[qbB,qbB] at q;have q1:((sIx items.size 0 lo:Nat):Int)=0:=eq_of_beq q.1.1;have q2:sIx items.size items.size hi - sIx items.size 0 lo=items.size:=eq_of_beq q.2;exact hw ⟨by ext,by ext⟩
 show wpAny _ _ (if (((sIx items.size 0 lo:Nat):Int) == 0 && (1:Int) == 1 && (sIx items.size items.size hi - sIx items.size 0 lo) == items.size)=true then _ else _) _ _ s;rw[qaz hno,wW]
 first
  | exact qad (m:=Builtin.Tuple.tupleExact _) (wpAny_newObj_type (qat ⟨_,rfl,qat h⟩) htake)
  | exact qad (m:=Builtin.Tuple.tupleExact _) (wpAny_newObj_type (qad (qat (qat ⟨_,rfl,qat h⟩))) htake)
  | exact qad (qad (m:=Builtin.Tuple.tupleExact _) (wpAny_newObj_type (qat (qat ⟨_,rfl,qat h⟩)) htake))
  | exact qad (qad (m:=Builtin.Tuple.tupleExact _) (wpAny_newObj_type (qat ⟨_,rfl,qat h⟩) htake))
end
end HT
namespace L2
open PySem PySem.Spec PyProof.Rows
abbrev TO:=St->Hp->(Option Int->Hp->Prop)->Prop
def PO(X:Cx)(e:Option Expr)(t:TO):Prop :=
 ∀(Il:List (Addr × Obj)) (s:Shared) (σ:St) (H:Hp) (Q:Option Int->Hp->Prop),Inv X Il σ H s->t σ H Q ->
  wpAny (model X.prog X.w) X.A (evalPart e X.env) (fun u s'=>∃o H',Inv X Il σ H' s'/\IsPart u o/\Q o H') X.xe s
def tNoPart:TO:=fun _ H Q=>Q none H
def tPart(t:TE):TO:=fun σ H Q=>t σ H fun x H1=>∃i,x=.int i/\Q (some i) H1
section
variable {X:Cx} {e:Expr} {te:TE} {lo hi:Option Expr} {tl th:TO} {pos p2:Pos}
def po_none:PO X none tNoPart:=by
 intro Il s σ H Q I h;rw[evalPart_none];exact qat ⟨none,H,I,.none,h⟩
def po_some(h:PE X e te):PO X (some e) (tPart te):=by
 intro Il s σ H Q I hw;rw[evalPart_some];refine thn (h Il s σ H _ I hw) fun u s1 ⟨x,H1,I1,r1,q1⟩=>?_;obtain⟨i,rfl,q⟩:=q1;obtain⟨t,rfl⟩:=r1;exact⟨some i,H1,I1,.int i t,q⟩
def SlR(X:Cx)(r:V->Option Int->Option Int->Hp->VK->Prop):Prop :=
 ∀(Il:List (Addr × Obj)) (s:Shared) (σ:St) (H:Hp) (x:V) (v vl vu:Value) (lo hi:Option Int) (sl:Addr) (Q:VK),Inv X Il σ H s->aR x v->s.heap.IsSliceOf sl vl vu .none->IsPart vl lo->IsPart vu hi->r x lo hi H Q ->
  ∃T id,typeLookup (.type T) "__getitem__"=pure (some (.builtin id))/\s.TypeIs v T/\wpAny (model X.prog X.w) X.A (getItem v (.ref sl)) (EP X Il σ Q) X.xe s
def tSl(r:V->Option Int->Option Int->Hp->VK->Prop)(te:TE)(tl th:TO):TE:=fun σ H Q=>te σ H fun x H1=>tl σ H1 fun l H2=>th σ H2 fun u H3=>r x l u H3 Q
def wZ(hr:SlR X r)(he:PE X e te)(hl:PO X lo tl)(hu:PO X hi th):PE X (.Subscript e (.Slice lo hi none p2) pos) (tSl r te tl th):=by
 intro Il s σ H Q I h;refine Subscript_ (thn (he Il s σ H _ I h) fun v s1 ⟨x,H1,I1,r1,q1⟩=>?_);refine wpAny_Slice (thn (hl Il s1 σ H1 _ I1 q1) fun vl s2 ⟨l,H2,I2,pl,q2⟩=>thn (hu Il s2 σ H2 _ I2 q2) fun vu s3 ⟨u,H3,I3,pu,q3⟩=>?_);rw[evalPart_none];refine qat ?_;have I4:Inv X Il σ H3 { s3 with heap:=s3.heap.push { cls:=.type "slice",data:=.fields #[vl,vu,.none]}}:=I3.kept (t':=s3.toks) fun b ob q=>qac _ q;obtain⟨T,id,hT,ht,hg⟩:=hr Il { s3 with heap:=s3.heap.push { cls:=.type "slice",data:=.fields #[vl,vu,.none]}} σ H3 x v vl vu l u s3.heap.objs.size Q I4 r1 (Heap.IsSliceOf.new ..) pl pu q3;show wpAny (model X.prog X.w) X.A (subscriptTail e (.Slice lo hi none p2) v (.ref s3.heap.objs.size)) (EP X Il σ Q) X.xe { s3 with heap:=s3.heap.push { cls:=.type "slice",data:=.fields #[vl,vu,.none]}};exact tail_any (ops:=[.ref s3.heap.objs.size,v]) ht hT hg (by with_unfolding_all rfl)
def gP(xs:List V)(lo hi:Option Int):List V:=(xs.drop (HT.sIx xs.length 0 lo)).take (HT.sIx xs.length xs.length hi - HT.sIx xs.length 0 lo)
def kT(xs:List V)(lo hi:Option Int):(gP xs lo hi).length<=xs.length:=by
 unfold gP;rw[qbt,qbS];ext
def rSlT(K:qab):V->Option Int->Option Int->Hp->VK->Prop:=fun x lo hi H Q=>∃a xs,x=.ref a/\SqT K H a xs /\
 ¬(HT.sIx xs.length 0 lo=0/\HT.sIx xs.length xs.length hi=xs.length)/\∀p,H p=none->Q (.ref p) (upd H p (.tup (gP xs lo hi)))
def sl_tup:SlR X (rSlT X.K):=by
 intro Il s σ H x v vl vu lo hi sl Q I rx hs pl pu h;obtain⟨a,xs,rfl,hx,hw,q⟩:=h;cases rx;obtain⟨its,r,ht,hz⟩:=I.tuple hx;have hlen:its.toArray.size=xs.length:=by rw[qav];exact r.length.symm
 refine⟨"tuple",_,PyProof.Rows.slot_tuple_getitem.lookup,ht.typeIs,?_⟩;refine HT.kP ht hs pl pu (by rw[hlen];exact hw) ?_ (by rw[hlen];exact hz);rw[hlen];refine⟨.ref s.heap.objs.size,_,I.laid (t':=s.toks) (o:=.tup (gP xs lo hi)) (fun b ob q=>qac _ q) (qak _) ?_,rfl,q _ (I.hok.fresh (qak _))⟩;exact⟨qaJ (kT xs lo hi) hz,_,(r.drop (HT.sIx xs.length 0 lo)).take (HT.sIx xs.length xs.length hi - HT.sIx xs.length 0 lo),gL.new _ _⟩
def rCatT(K:qab):R2:=fun x y H Q=>∃a b xs ys,x=.ref a/\y=.ref b/\SqT K H a xs/\SqT K H b ys/\xs≠[]/\xs.length+ys.length<=sizeLine /\
 (ys=[]->Q (.ref a) H)/\(ys≠[]->∀p,H p=none->Q (.ref p) (upd H p (.tup (xs++ys))))
def aI.nil_iff(r:aI xs us):us=[]↔xs=[]:=by
 cases r with
 | nil=>simp
 | cons _ _=>simp
def op_catT:OpR X (binaryOp .Add) (rCatT X.K):=by
 intro Il s σ H x y v u Q I rx ry h;obtain⟨a,b,xs,ys,rfl,rfl,ha,hb,hx,hz,q1,q2⟩:=h;cases rx;cases ry;obtain⟨its,r1,p1,_⟩:=I.tuple ha;obtain⟨its2,r2,p2,_⟩:=I.tuple hb;refine HT.cat_tup p1 p2 (fun z=>hx (r1.nil_iff.mp z)) (fun z=>⟨.ref a,H,I,rfl,q1 (r2.nil_iff.mp z)⟩) (fun z=>?_) (by rw[<-r1.length,<-r2.length];exact hz);refine⟨.ref s.heap.objs.size,_,I.laid (t':=s.toks) (o:=.tup (xs++ys)) (fun b ob q=>qac _ q) (qak _) ?_,rfl,q2 (fun w=>z (r2.nil_iff.mpr w)) _ (I.hok.fresh (qak _))⟩;exact⟨by rw[qbg];exact hz,_,r1.append r2,gL.new _ _⟩
end
def ixN(n:Nat)(i:Int):Option Nat:=if 0<=i then (if i<n then some i.toNat else none) else if -(n:Int)<=i then some (i+n).toNat else none
def atI{α:Type}(xs:List α)(i:Int):Option α:=(ixN xs.length i).bind fun j=>xs[j]?
def tI(h:ixN n i=some j):seqIndex? i n=some j/\j<n /\ -(n:Int)<=i/\i<n:=by
 unfold ixN at h;by_cases h0:0<=i
 ·rw[qan h0] at h;by_cases h1:i<n
  ·rw[qan h1] at h;have e:i.toNat=j:=Option.some.inj h;exact⟨by rw[seqIndex_of h0 h1,e],by ext,by ext,h1⟩
  ·rw[qaz h1] at h;cases h
 ·rw[qaz h0] at h;by_cases h1:-(n:Int)<=i
  ·rw[qan h1] at h;have e:(i+n).toNat=j:=Option.some.inj h;exact⟨by rw[seqIndex_neg (by ext) h1,e],by ext,h1,by ext⟩
  ·rw[qaz h1] at h;cases h
def mZ(h:atI xs i=some v):∃j,seqIndex? i xs.length=some j/\xs[j]?=some v/\j<xs.length /\ -(xs.length:Int)<=i/\i<xs.length:=by
 unfold atI at h
 cases e:ixN xs.length i with
 | none=>rw[e] at h;cases h
 | some j =>
  rw[e] at h;obtain⟨h1,h2,h3,h4⟩:=tI e;exact⟨j,h1,h,h2,h3,h4⟩
def dB{α:Type}{xs:List α}{j:Nat}{v:α}(h:xs[j]?=some v):atI xs (j:Int)=some v:=by
 have hj:j<xs.length:=(qaj.mp h).1;have e:ixN xs.length (j:Int)=some j:=by
  unfold ixN;rw[qan (by ext),qan (by ext)];simp
 unfold atI;rw[e];exact h
def iS(b:Expr):Prop:=∀o i,subscripted b false o i=operate [o,i] (getItem o i)
def IxR(X:Cx)(r:R2):Prop :=
 ∀(value slice:Expr) (Il:List (Addr × Obj)) (s:Shared) (σ:St) (H:Hp) (x y:V) (v u:Value) (Q:VK),Inv X Il σ H s->aR x v->aR y u->r x y H Q ->
  subscripted slice false v u=operate [v,u] (getItem v u)->wpAny (model X.prog X.w) X.A (subscriptTail value slice v u) (EP X Il σ Q) X.xe s
def MtR(X:Cx)(id:String)(r:V->List V->Hp->VK->Prop):Prop :=
 ∀(Il:List (Addr × Obj)) (s:Shared) (σ:St) (H:Hp) (x:V) (xs:List V) (v:Value) (us:List Value) (Q:VK),Inv X Il σ H s->aR x v->aI xs us->r x xs H Q ->
  wpAny (model X.prog X.w) X.A (call (.builtin id) (v::us)) (EP X Il σ Q) X.xe s
section
variable {X:Cx} {a b:Expr} {ta tb:TE} {pos:Pos}
def IxR.or(h:IxR X r)(h':IxR X r'):IxR X (fun x y H Q=>r x y H Q\/r' x y H Q):=by
 intro value slice Il s σ H x y v u Q I rx ry q hs;rcases q with q|q
 ·exact h value slice Il s σ H x y v u Q I rx ry q hs
 ·exact h' value slice Il s σ H x y v u Q I rx ry q hs
def pe_ix{r:R2}(hr:IxR X r)(ha:PE X a ta)(hb:PE X b tb)(hs:iS b):PE X (.Subscript a b pos) (tOp r ta tb):=by
 intro Il s σ H Q I h;exact Subscript_ (binT ha hb I h fun v u s2 x y H2 I2 rx ry q=>hr a b Il s2 σ H2 x y v u Q I2 rx ry q (hs _ _))
def rIxL(K:qab):R2:=fun x y H Q=>∃p xs i v,x=.ref p/\y=.int i/\SqL K H p xs/\atI xs i=some v/\Q v H
def rIxT(K:qab):R2:=fun x y H Q=>∃p xs i v,x=.ref p/\y=.int i/\SqT K H p xs/\atI xs i=some v/\Q v H
def rIxS:R2:=fun x y H Q=>∃z i c,x=.str z/\y=.int i/\z.length<=sizeLine/\atI z.cps.toList i=some c/\Q (.str ⟨#[c]⟩) H
def ix_list:IxR X (rIxL X.K):=by
 intro value slice Il s σ H x y v u Q I rx ry h hs;obtain⟨p,xs,i,z,rfl,rfl,hq,he,q⟩:=h;cases rx;obtain⟨t,rfl⟩:=ry;obtain⟨its,r,pl,hz⟩:=I.list hq;obtain⟨j,h1,h2,h3,h4,h5⟩:=mZ he;obtain⟨w,ew,rw'⟩:=r.get h2;have hl:=r.length;have hn:=iN;have fin:EP X Il σ Q w s:=⟨z,H,I,rw',q⟩;by_cases h0:0<=i
 ·have hj:i.toNat=j:=by
   rw[seqIndex_of h0 h5] at h1;exact Option.some.inj h1
  exact item_listR pl.isList h0 (by ext) (by rw[hj];simpa using ew) fin hs
 ·have hj:(i+(its.toArray.size:Int)).toNat=j:=by
   rw[seqIndex_neg (by ext) h4] at h1;rw[qav,<-hl];exact Option.some.inj h1
  exact subscriptTail_builtinR (x:=w) pl.isList.typeIs slot_list_getitem.lookup
   (wpAny_getItem_list_neg (Q:=fun r s'=>r=w/\EP X Il σ Q r s') pl.isList (by ext) (by rw[qav] <;> ext) (by ext) (by rw[hj];simpa using ew) ⟨rfl,fin⟩) hs
def ix_tup:IxR X (rIxT X.K):=by
 intro value slice Il s σ H x y v u Q I rx ry h hs;obtain⟨p,xs,i,z,rfl,rfl,hq,he,q⟩:=h;cases rx;obtain⟨t,rfl⟩:=ry;obtain⟨its,r,pl,hz⟩:=I.tuple hq;obtain⟨j,h1,h2,h3,h4,h5⟩:=mZ he;obtain⟨w,ew,rw'⟩:=r.get h2;have hl:=r.length;have hn:=iN;have fin:EP X Il σ Q w s:=⟨z,H,I,rw',q⟩;exact subscriptTail_builtinR (x:=w) pl.typeIs slot_tuple_getitem.lookup
  (getItem_tuple (j:=j) (Q:=fun r s'=>r=w/\EP X Il σ Q r s') pl (by ext) (by ext) (by rw[qav,<-hl];exact h1) (by simpa using ew) ⟨rfl,fin⟩) hs
def ix_str:IxR X rIxS:=by
 intro value slice Il s σ H x y v u Q I rx ry h hs;obtain⟨z,i,c,rfl,rfl,hz,he,q⟩:=h;obtain⟨t,rfl⟩:=rx;obtain⟨t',rfl⟩:=ry;obtain⟨j,h1,h2,h3,h4,h5⟩:=mZ he;have hl:z.cps.toList.length=z.length:=by simp[Str.length]
 rw[hl] at h1 h4 h5;have hn:=iN
 exact tail_any (typeIs_str s z t) slot_str_getitem.lookup (getItem_str (c:=c) (by
  have e1:decide (i < -(2 ^ 63:Int))=false:=decide_eq_false (by ext);have e2:decide (i>=2 ^ 63)=false:=decide_eq_false (by ext)
  rw[e1,e2,Bool.or_false]) (by rw[h1];simpa using h2) ⟨.str ⟨#[c]⟩,H,I.tok _,⟨_,rfl⟩,q⟩) hs
def rIx(K:qab):R2:=fun x y H Q=>rIxL K x y H Q\/rIxT K x y H Q\/rIxS x y H Q
def ix_seq:IxR X (rIx X.K):=ix_list.or (ix_tup.or ix_str)
def uL(its:List Value)(n j:Nat)(u:Value):Obj.mapSeq (·.setIfInBounds j u) { cls:=.type "list",data:=.seq its.toArray n}={ cls:=.type "list",data:=.seq (its.set j u).toArray n}:=by
 simp[Obj.mapSeq]
def Inv.lst{Il:List (Addr × Obj)}{σ:St}{H:Hp}{s:Shared}{p:Addr}{xs:List V}(I:Inv X Il σ H s)(h:H p=some (.lst xs)) :
  ∃(its:List Value) (n:Nat),aI xs its/\s.heap.get? p=some { cls:=.type "list",data:=.seq its.toArray n}/\xs.length<=sizeLine:=by
 obtain⟨z,its,n,r,e⟩:=I.hok p _ h;exact⟨its,n,r,e,z⟩
def Inv.lstUpd{Il:List (Addr × Obj)}{σ:St}{H:Hp}{s:Shared}{p:Addr}{xs ys:List V}{its its':List Value}{n n':Nat}{f:Obj->Obj}(I:Inv X Il σ H s)(h:H p=some (.lst xs))
  (ho:s.heap.get? p=some { cls:=.type "list",data:=.seq its.toArray n}) (hf:f { cls:=.type "list",data:=.seq its.toArray n}={ cls:=.type "list",data:=.seq its'.toArray n'}) (r:aI ys its') (hz:ys.length<=sizeLine) (t:Nat) :
  Inv X Il σ (upd H p (.lst ys)) { s with heap:=s.heap.update p f,toks:=t}:=by
 have e:(s.heap.update p f).get? p=some { cls:=.type "list",data:=.seq its'.toArray n'}:=by
  rw[qcy f ho (by rw[hf] <;> rfl),hf]
 refine I.write (x:=p) (e:=p) (by rw[h];trivial) (.inl rfl) (fun b u hb q=>(qcu _ _ (Ne.symm hb)).trans q) ⟨_,e⟩ ?_;exact⟨hz,its',n',r,e⟩
def rSetL:V->V->V->Hp->(Hp->Prop)->Prop:=fun o i v H Q=>∃p xs k j,o=.ref p/\i=.int k/\H p=some (.lst xs)/\ixN xs.length k=some j/\Q (upd H p (.lst (xs.set j v)))
def xD:PSet X rSetL:=by
 intro Il s σ H o i v ov iv u Q I ro ri rv h;obtain⟨p,xs,k,j,rfl,rfl,hp,hj,q⟩:=h;cases ro;obtain⟨t,rfl⟩:=ri;obtain⟨its,n,r,ho,hz⟩:=I.lst hp;obtain⟨h1,h2,h3,h4⟩:=tI hj;have hl:=r.length;have hn:=iN;have I':Inv X Il σ (upd H p (.lst (xs.set j v))) { s with heap:=s.heap.update p (Obj.mapSeq (·.setIfInBounds j u))} :=
  I.lstUpd hp ho (uL its n j u) (r.set rv j) (by rw[List.length_set];exact hz) s.toks
 by_cases h0:0<=k
 ·have hk:k.toNat=j:=by
   rw[seqIndex_of h0 h4] at h1;exact Option.some.inj h1
  exact PySem.W.ki_setAt ho h0 (by ext) (by rw[qav,<-hl];exact h4) (by rw[hk];exact⟨_,I',q⟩)
 ·have hk:(k+(its.toArray.size:Int)).toNat=j:=by
   rw[seqIndex_neg (by ext) h3] at h1;rw[qav,<-hl];exact Option.some.inj h1
  exact PySem.W.ki_setBack ho (by ext) (by rw[qav,<-hl];exact h3) (by ext) (by rw[hk];exact⟨_,I',q⟩)
def pK(lo hi:Option Int)(n:Nat):(sliceBounds lo hi none n).1=((HT.sIx n 0 lo:Nat):Int)/\(sliceBounds lo hi none n).2.1=((HT.sIx n n hi:Nat):Int)/\(sliceBounds lo hi none n).2.2=1:=by
 refine⟨?_,?_,rfl⟩
 ·cases lo with
  | none=>simp[sliceBounds,HT.sIx]
  | some i =>
   simp only[sliceBounds,HT.sIx,qco,show (1:Int)>0 by decide,if_true];by_cases h:i<0
   ·simp only[h,if_true] <;> ext
   ·simp only[h,if_false] <;> ext
 ·cases hi with
  | none=>simp[sliceBounds,HT.sIx]
  | some i =>
   simp only[sliceBounds,HT.sIx,qco,show (1:Int)>0 by decide,if_true];by_cases h:i<0
   ·simp only[h,if_true] <;> ext
   ·simp only[h,if_false] <;> ext
def oO(its:List Value)(lo hi:Option Int):slicePick its.toArray lo hi none=((its.drop (HT.sIx its.length 0 lo)).take (HT.sIx its.length its.length hi - HT.sIx its.length 0 lo)).toArray:=by
 obtain⟨h1,h2,h3⟩:=pK lo hi its.toArray.size;unfold slicePick;rw[h1,h2,h3];simp only[sliceRange_one,pick_run,qav] <;> rfl
def rSlL(K:qab):V->Option Int->Option Int->Hp->VK->Prop:=fun x lo hi H Q=>∃a xs,x=.ref a/\SqL K H a xs/\∀p,H p=none->Q (.ref p) (upd H p (.lst (gP xs lo hi)))
def sK:SlR X (rSlL X.K):=by
 intro Il s σ H x v vl vu lo hi sl Q I rx hs pl pu h;obtain⟨a,xs,rfl,hx,q⟩:=h;cases rx;obtain⟨its,r,ht,hz⟩:=I.list hx;have hlen:=r.length;refine⟨"list",_,slot_list_getitem.lookup,ht.isList.typeIs,?_⟩;refine wpAny_getItem_list_slice ht.isList hs pl pu .none (by simp) ?_ (by rw[qav] <;> ext);rw[oO,<-hlen];refine⟨.ref s.heap.objs.size,_,I.laid (t':=s.toks) (o:=.lst (gP xs lo hi)) (fun b ob q=>qac _ q) (qak _) ?_,rfl,q _ (I.hok.fresh (qak _))⟩;exact⟨qaJ (kT xs lo hi) hz,_,0,(r.drop (HT.sIx xs.length 0 lo)).take (HT.sIx xs.length xs.length hi - HT.sIx xs.length 0 lo),qax _ rfl⟩
def pN:dY X (.type "list") (fun xs H Q=>∃p ys,xs=[.ref p]/\(SqL X.K H p ys\/SqT X.K H p ys)/\∀l,H l=none->Q (.ref l) (upd H l (.lst ys))):=by
 intro Il s σ H xs us Q I r h;obtain⟨p,ys,rfl,hq,q⟩:=h;obtain⟨u,rfl,rx⟩:=iz r;cases rx;have fin:∀(its:List Value),aI ys its->ys.length<=sizeLine->∀(h':Heap) (c':Nat),(∀b o',s.heap.get? b=some o'->h'.get? b=some o') ->
   h'.get? s.heap.objs.size=some { cls:=.type "list",dict:=none,data:=.seq its.toArray c',slots:=#[]}->EP X Il σ Q (.ref s.heap.objs.size) { s with heap:=h'}:=fun its r' hz h' c' kp e =>
  ⟨.ref s.heap.objs.size,_,I.laid (t':=s.toks) kp (qak _) (show ObjOk X.prog X.w _ h' _ (.lst ys) from⟨hz,its,c',r',e⟩),rfl,q _ (I.hok.fresh (qak _))⟩
 rcases hq with hq|hq
 ·obtain⟨its,r',pl,hz⟩:=I.list hq;have hlen:=r'.length;obtain⟨o,ho,hc,n,hd⟩:=pl.isList;exact call_list_seq p (.inl rfl) ho hc hd (fun h' c' kp e=>fin its r' hz h' c' kp e) (by simp only[qav] <;> ext)
 ·obtain⟨its,r',pl,hz⟩:=I.tuple hq;have hlen:=r'.length;obtain⟨o,ho,hc,n,hd⟩:=pl;exact call_list_seq p (.inr rfl) ho hc hd (fun h' c' kp e=>fin its r' hz h' c' kp e) (by simp only[qav] <;> ext)
def jI:dY X (.type "tuple") (fun xs H Q=>∃p ys,xs=[.ref p]/\((SqL X.K H p ys/\∀l,H l=none->Q (.ref l) (upd H l (.tup ys)))\/(SqT X.K H p ys/\Q (.ref p) H))):=by
 intro Il s σ H xs us Q I r h;obtain⟨p,ys,rfl,h⟩:=h;obtain⟨u,rfl,rx⟩:=iz r;cases rx;rcases h with ⟨hq,q⟩|⟨hq,q⟩
 ·obtain⟨its,r',pl,hz⟩:=I.list hq;have hlen:=r'.length;refine call_tuple_list pl.isList (fun h' kp=>?_) (by simp only[qav] <;> ext);have I1:Inv X Il σ H { s with heap:=h'}:=I.kept (t':=s.toks) kp;have I2:Inv X Il σ (upd H h'.objs.size (.tup ys)) { s with heap:=h'.push { cls:=.type "tuple",data:=.seq its.toArray}} :=
   I1.laid (t':=s.toks) (fun b o e=>qac _ e) (qak _) (show ObjOk X.prog X.w _ _ _ (.tup ys) from⟨hz,its,r',gL.new _ _⟩)
  exact⟨.ref h'.objs.size,_,I2,rfl,q _ (I1.hok.fresh (qak _))⟩
 ·obtain⟨its,r',pl,hz⟩:=I.tuple hq;exact call_tuple_same pl ⟨.ref p,H,I,rfl,q⟩
def tyV(K:qab)(T:String)(x:V)(H:Hp):Prop:=match x with
 | .str _=>T="str"
 | .int _=>T="int"
 | .ref p=>(T="list"/\∃xs,SqL K H p xs)\/(T="tuple"/\∃o,K.lookup p=some o/\o.cls=.type "tuple"/\o.dict=none) \/
   (T="dict"/\((∃kvs,H p=some (.dK kvs))\/∃kvs,H p=some (.dT kvs)))\/(T="set"/\∃S n,H p=some (.set S n))
 | _=>False
def tyV_is{Il:List (Addr × Obj)}{σ:St}{H:Hp}{s:Shared}{T:String}{x:V}{v:Value}(I:Inv X Il σ H s)(r:aR x v)(ty:tyV X.K T x H) :
  s.TypeIs v T/\∀a,v=.ref a->∃ob,s.heap.get? a=some ob/\ob.dict=none:=by
 cases x with
 | str z =>
  obtain⟨t,rfl⟩:=r;cases (show T="str" from ty);exact⟨typeIs_str s z t,fun _ e=>nomatch e⟩
 | int i =>
  obtain⟨t,rfl⟩:=r;cases (show T="int" from ty);exact⟨typeIs_int s i t,fun _ e=>nomatch e⟩
 | ref p =>
  cases r;rcases ty with ⟨rfl,xs,hq⟩|⟨rfl,o,hk,hc,hd⟩|⟨rfl,hk⟩|⟨rfl,S,n,hk⟩
  ·obtain⟨its,_,pl,_⟩:=I.list hq;refine⟨pl.isList.typeIs,fun a e=>?_⟩;cases e;obtain⟨o,n,e,c,hd,_⟩:=pl;exact⟨o,e,hd⟩
  ·refine⟨⟨o,I.kIn p o hk,hc⟩,fun a e=>?_⟩;cases e;exact⟨o,I.kIn _ o hk,hd⟩
  ·have z:∃o,s.heap.get? p=some o/\o.ExactDict:=by
    rcases hk with ⟨kvs,hk⟩|⟨kvs,hk⟩
    ·obtain⟨_,_,_,_,o,_,_,e,ex,_⟩:=I.hok p _ hk;exact⟨o,e,ex⟩
    ·obtain⟨_,_,_,_,o,_,_,e,ex,_⟩:=I.hok p _ hk;exact⟨o,e,ex⟩
   obtain⟨o,e,ex⟩:=z;refine⟨⟨o,e,ex.1⟩,fun a e2=>?_⟩;cases e2;exact⟨o,e,ex.2.1⟩
  ·obtain⟨o,_,_,_,e,ex,_⟩:=I.hok p _ hk;refine⟨⟨o,e,ex.1⟩,fun a e2=>?_⟩;cases e2;exact⟨o,e,ex.2.1⟩
 | _=>exact False.elim ty
def tBM(K:qab)(T:String)(r:V->List V->Hp->VK->Prop)(to:TE)(t:TA):TE:=fun σ H Q=>to σ H fun x H1=>tyV K T x H1/\t σ H1 fun xs H2=>r x xs H2 Q
variable {o e:Expr} {es:List Expr} {to:TE} {t:TA} {name:Str} {apos cpos:Pos} {T id:String} {r:V→List V→Hp→VK→Prop}
def pe_bm(pa:PlainAttrs T)(slot:Slot T name id)(hty:typeOf (.builtin id)=pure (.type "method_descriptor"))(hm:MtR X id r)(ho:PE X o to)(ha:PA X (e::es) t)
  (hbase:attributeBase o name X.env (eval o X.env)=eval o X.env:=by rfl)
  (hfew:((backTo cpos (starEach (e::es) X.env)).all (fun x=>!x.1) && (backToKw cpos (keywordEach [] X.env)).all (fun x=>x.1.isSome)
   && decide ((e::es).length+([]:List Keyword).length+(if ([]:List Keyword).isEmpty then 0 else 1)<30))=true:=by rfl)
  (hline:(apos.endLine == cpos.line)=true:=by rfl) (hs:starEach (e::es) X.env=(false,eval e X.env)::starEach es X.env:=by rfl) (hplain:(backTo cpos (starEach es X.env)).any (·.1)=false:=by rfl) :
  PE X (.Call (.Attribute o name apos) (e::es) [] cpos) (tBM X.K T r to t):=by
 intro Il s σ H Q I h;refine wpAny_Call_method_late hbase hfew hline rfl (thn (ho Il s σ H _ I h) fun v s1 ⟨x,H1,I1,r1,ty,q1⟩=>?_);obtain⟨h1,h2⟩:=tyV_is I1 r1 ty;refine⟨T,id,pa,slot,hty,h1,h2,?_⟩;have hA:=ha cpos Il s1 σ H1 _ I1 q1;rw[hs] at hA ⊢;refine Calls.callWith_builtin (by show (false || (backTo cpos (starEach es X.env)).any (·.1))=false;rw[hplain] <;> rfl) (Calls.evalArgs_plain ?_);exact thn hA fun us s2 ⟨vs,H2,I2,r2,q2⟩=>hm Il s2 σ H2 x vs v us Q I2 r1 r2 q2
end
def MtM(X:Cx)(id:String)(r:V->List V->Hp->VK->Prop):Prop :=
 ∀(Il:List (Addr × Obj)) (s:Shared) (σ:St) (H:Hp) (x:V) (xs:List V) (v:Value) (us:List Value) (Q:VK),Inv X Il σ H s->aR x v->aI xs us->r x xs H Q ->
  wpAny (model X.prog X.w) X.A (call (.builtin id) (v::us)) (EP X Il σ Q) X.xe s
def aI.zero(h:aI [] us):us=[]:=by cases h;rfl
def aI.one(h:aI [x] us):∃u,us=[u]/\aR x u:=by
 cases h with|cons r t=>exact⟨_,by rw[aI.zero t],r⟩
def aI.eraseIdx(i:Nat)(r:aI xs us):aI (xs.eraseIdx i) (us.eraseIdx i):=by
 induction r generalizing i with
 | nil=>exact .nil
 | cons a t ih =>
  cases i with
  | zero=>exact t
  | succ i=>exact .cons a (ih i)
def aI.rep(h:aI xs us):∀k:Nat,aI (List.replicate k xs).flatten (List.replicate k us).flatten
 | 0=>.nil
 | k+1=>by
  rw[qaS,qaS,qbc,qbc];exact aI.append h (aI.rep h k)
def nT{α:Type}:∀(l:List α) (i:Nat),(l.eraseIdx i).length<=l.length
 | [],_=>qak _
 | _::_,0=>qbZ _
 | _::r,i+1=>Nat.succ_le_succ (nT r i)
def nO(its:List Value):∀(k:Nat) (acc:List Value),
  List.foldl (fun x1 x2=>x1++x2) acc.toArray (List.replicate k its.toArray)=(acc++(List.replicate k its).flatten).toArray
 | 0,acc=>by simp
 | k+1,acc=>by
  have e:acc.toArray++its.toArray=(acc++its).toArray:=by simp
  have e2:(acc++its)++(List.replicate k its).flatten=acc++(List.replicate (k+1) its).flatten:=by
   rw[qaS,qbc,List.append_assoc]
  rw[<-e2,<-nO its k (acc++its),<-e,qaS,List.foldl_cons]
section
variable {X:Cx} {Il:List (Addr × Obj)} {σ:St} {H:Hp} {s:Shared} {l b:Addr} {xs ys zs:List V}
def Inv.lset{its its':List Value}{n:Nat}{f:Array Value->Array Value}{t':Nat}(I:Inv X Il σ H s)(hH:H l=some (.lst xs))
  (e:s.heap.get? l=some { cls:=.type "list",data:=.seq its.toArray n}) (hf:f its.toArray=its'.toArray) (hv:aI ys its') (hz:ys.length<=sizeLine) :
  Inv X Il σ (upd H l (.lst ys)) { s with heap:=s.heap.update l (Obj.mapSeq f),toks:=t'}:=by
 have q:=PySem.IsL.update e f;rw[hf] at q;refine I.write (x:=l) (e:=l) (by rw[hH];exact trivial) (.inl rfl) (fun b' u hb hu=>(qcu s.heap (Obj.mapSeq f) (Ne.symm hb)).trans hu) ⟨_,q⟩ ?_;exact⟨hz,its',_,hv,q⟩
def Inv.lnew(I:Inv X Il σ H s)(hv:aI ys its)(hz:ys.length<=sizeLine) :
  Inv X Il σ (upd H s.heap.objs.size (.lst ys)) { s with heap:=s.heap.push { cls:=.type "list",data:=.seq its.toArray},toks:=t'} :=
 I.laid (fun _ _ q=>qac _ q) (qak _) ⟨hz,its,0,hv,qax _ rfl⟩
def Inv.fresh(I:Inv X Il σ H s):H s.heap.objs.size=none:=I.hok.fresh (qak _)
def Inv.lstM(I:Inv X Il σ H s)(hH:H l=some (.lst xs)):xs.length<=sizeLine/\∃(its:List Value) (n:Nat),aI xs its/\xs.length=its.length/\s.heap.get? l=some { cls:=.type "list",data:=.seq its.toArray n}:=by
 obtain⟨z,its,n,r,e⟩:=I.hok l _ hH;exact⟨z,its,n,r,r.length,e⟩
def xh(h:n<=sizeLine):Builtin.List.listTooLong n=false:=by
 unfold Builtin.List.listTooLong;exact decide_eq_false (by ext)
end
section
variable {X:Cx}
def rAppend:V->List V->Hp->VK->Prop:=fun x vs H Q=>∃l xs y,x=.ref l/\vs=[y]/\H l=some (.lst xs)/\xs.length<sizeLine/\Q .non (upd H l (.lst (xs++[y])))
def nU:MtM X "list.append" rAppend:=by
 intro Il s σ H x vs v us Q I rx rv h;obtain⟨l,xs,y,rfl,rfl,hH,hz,q⟩:=h;cases rx;obtain⟨u,rfl,ru⟩:=rv.one;obtain⟨z,its,n,r,hl,e⟩:=I.lstM hH;refine call_meets F.slot_list_append ⟨_,e,rfl⟩ F.entry_list_append (F.args_list_append_2 _ _) (PySem.list_append l its.toArray n u (by rw[qav];ext)) ⟨e,?_⟩;refine⟨.non,_,I.lset (its':=its++[u]) hH e (by simp) (r.append (.cons ru .nil)) ?_,rfl,q⟩;rw[qbg,List.length_singleton];ext
def rPopAt:V->List V->Hp->VK->Prop:=fun x vs H Q=>∃l xs i k y,x=.ref l/\vs=[.int i]/\H l=some (.lst xs) /\ -(2 ^ 63)<=i/\i<2 ^ 63/\seqIndex? i xs.length=some k/\xs[k]?=some y/\Q y (upd H l (.lst (xs.eraseIdx k)))
def wH:MtM X "list.pop" rPopAt:=by
 intro Il s σ H x vs v us Q I rx rv h;obtain⟨l,xs,i,k,y,rfl,rfl,hH,h1,h2,hk,hy,q⟩:=h;cases rx;obtain⟨u,rfl,ru⟩:=rv.one;obtain⟨t,rfl⟩:=ru;obtain⟨z,its,n,r,hl,e⟩:=I.lstM hH;obtain⟨w,hw,rw'⟩:=r.get hy;refine call_meets F.slot_list_pop ⟨_,e,rfl⟩ F.entry_list_pop (F.args_list_pop_2 _ _)
  (MeetsSeq.list_pop_at l its.toArray n i t k w (fitsIndex_both h1 h2) (by rw[qav,<-hl];exact hk) (by rw[<-qbd];exact hw) (by rw[qav];ext)) ⟨e,?_⟩
 refine⟨y,_,I.lset (its':=its.eraseIdx k) hH e ?_ (r.eraseIdx k) ?_,rw',q⟩
 ·show its.toArray.eraseIdxIfInBounds k=(its.eraseIdx k).toArray;rw[List.eraseIdxIfInBounds_toArray]
 ·have:=nT xs k
  ext
def rCat:R2:=fun x y H Q=>∃l b xs zs,x=.ref l/\y=.ref b/\H l=some (.lst xs)/\H b=some (.lst zs)/\xs.length+zs.length<=sizeLine/\∀p,H p=none->Q (.ref p) (upd H p (.lst (xs++zs)))
def op_cat:OpR X (binaryOp .Add) rCat:=by
 intro Il s σ H x y v u Q I rx ry h;obtain⟨l,b,xs,zs,rfl,rfl,hH,hB,hz,q⟩:=h;cases rx;cases ry;obtain⟨z,its,n,r,hl,e⟩:=I.lstM hH;obtain⟨z2,its2,n2,r2,hl2,e2⟩:=I.lstM hB;refine PySem.P.add_list e e2 ?_ (by rw[qav,qav];ext);have ea:its.toArray++its2.toArray=(its++its2).toArray:=by simp
 rw[ea];exact⟨.ref _,_,I.lnew (t':=s.toks) (r.append r2) (by rw[qbg];ext),rfl,q _ I.fresh⟩
def rRep:R2:=fun x y H Q=>∃l k xs,x=.ref l/\y=.int k/\H l=some (.lst xs) /\ -(2 ^ 63)<=k/\k<2 ^ 63/\xs.length * k.toNat<=sizeLine /\
 ∀p,H p=none->Q (.ref p) (upd H p (.lst (List.replicate k.toNat xs).flatten))
def sk{α:Type}(xs:List α)(k:Nat):(List.replicate k xs).flatten.length=k * xs.length:=by
 induction k with
 | zero=>simp
 | succ k ih=>rw[qaS,qbc,qbg,ih,qcz,Nat.add_comm]
def op_rep:OpR X (binaryOp .Mult) rRep:=by
 intro Il s σ H x y v u Q I rx ry h;obtain⟨l,k,xs,rfl,rfl,hH,h1,h2,hz,q⟩:=h;cases rx;obtain⟨t,rfl⟩:=ry;obtain⟨z,its,n,r,hl,e⟩:=I.lstM hH;have hlen:its.toArray.size * k.toNat<=sizeLine:=by rw[qav,<-hl];exact hz
 have hcap:¬its.toArray.size * k.toNat>(2 ^ 63 - 1) / 8:=by
  have:(sizeLine:Nat)<=(2 ^ 63 - 1) / 8:=by decide
  ext
 have hfit:¬(!Builtin.List.listFitsIndex k)=true:=by
  rw[fitsIndex_both h1 h2];exact qaR
 have hlong:¬Builtin.List.listTooLong (its.toArray.size * k.toNat)=true:=by
  rw[xh hlen];exact qaR
 have hnew:List.foldl (fun x1 x2=>x1++x2) #[] (List.replicate (if its.toArray.isEmpty=true then 0 else k.toNat) its.toArray)=(List.replicate k.toNat its).flatten.toArray:=by
  have f0:∀m:Nat,List.foldl (fun x1 x2=>x1++x2) #[] (List.replicate m its.toArray)=(List.replicate m its).flatten.toArray:=fun m=>by
   have:=nO its m []
   rw[qcA] at this;exact this
  rw[f0]
  cases its with
  | nil=>simp
  | cons a r'=>rw[qaz (by simp)]
 refine wpAny_binaryOp_repeat_ref (T:="list") (U:="int") (by decide) ⟨_,e,rfl⟩ (fun s'=>typeIs_int s' k t) noFill_list_mul F.fills_int_mul F.slot_int_rmul repeat_list F.slot_int_index.lookup
  (call_meets F.slot_int_rmul (typeIs_int s k t) F.entry_int_rmul (F.args_int_rmul_2 _ _) (int___rmul___int_list k t l its.toArray n)
   ⟨e,rfl,⟨_,e,rfl⟩,call_meets F.slot_list_mul ⟨_,e,rfl⟩ F.entry_list_mul (F.args_list_mul_2 _ _) (AutoListH.list___mul___list_int_3 l its.toArray n k t hfit hcap hlong) ⟨e,?_⟩⟩)
 rw[hnew];exact⟨.ref _,_,I.lnew (t':=s.toks) (r.rep k.toNat) (by rw[sk,qcB];exact hz),rfl,q _ I.fresh⟩
end
section
variable {prog:Program} {w:World} {A:Around} {E:Value→Shared→Prop} {s:Shared}
end
section
variable {X:Cx}
end
end L2
namespace Att
open PySem PySem.W PySem.Calls PyProof.Rows
def mE:∀(ns:List Int) (vs:List Value),WellAll P h vs (ns.map WData.int)->IntsAre vs ns:=by
 intro ns
 induction ns with
 | nil =>
  intro vs w;rw[qcc] at w;cases w;exact .nil
 | cons n ns ih =>
  intro vs w;rw[qao] at w
  cases w with
  | cons a b =>
   cases a;exact .cons _ _ (ih _ b)
def vj{l:OpenLaw}{n:Nat}(hn:l.most=some n){P:Params}{h:Heap}{args:List WData}{vals:List Value}
  (hpre:l.row.toRowW.claim.pre args=true) (hwl:WellAll P h vals args) :
  ∃a vs ns,vals=[Value.ref a]/\args=[WData.list (ns.map WData.int)]/\h.get? a=some { cls:=.type "list",data:=.seq vs.toArray}/\IntsAre vs ns/\ns.length<=n:=by
 have hsh:WShape.hasAll [] args [.list .int]=true:=(pre_splitW hpre).1;have hc:l.pre.holds [] { args:=args}=true:=(pre_splitW hpre).2;obtain⟨d,r,rfl,h1,h2⟩:=hasAllW_cons hsh;obtain rfl:=hasAllW_nil h2;obtain⟨xs,rfl,h3⟩:=hasW_list h1;obtain⟨ns,rfl⟩:=items_int h3;have hlen:ns.length<=n:=by
  unfold OpenLaw.pre at hc;have h4:(WTm.not (.lt (.lit (.int (n:Int))) (.len (.arg 0)))).holds [] { args:=[.list (ns.map .int)]}=true:=by
   have h4:=(holds_andW hc).1;rw[hn] at h4;exact h4
  have h5:=condW_of h4 (w_not (w_lt w_lit (w_len_list (w_arg rfl))));rw[qaC] at h5;refine Nat.le_of_not_lt fun q=>?_;have q':(n:Int)<((ns.length:Nat):Int):=by ext
  first
   | (rw[decide_eq_true q'] at h5;exact absurd h5 (by decide))
   | (simp at h5;ext)
 cases hwl with
 | cons w1 w2 =>
  cases w2
  cases w1 with
  | list ho hall=>exact⟨_,_,ns,rfl,rfl,ho,mE ns _ hall,hlen⟩
def vN(l:OpenLaw)(args:List WData):l.row.toRowW.claim.post args (.bool true) args=true :=
 postW_of (r:=l.row.toRowW) (X:=(true == true))
  (show WShape.has [] (.bool true) .bool=true by first | rfl | decide | simp[WShape.has,WShape.arms,WShape.armsAll])
  (show (WTm.eq .res (.lit (.bool true))).value [] { args:=args,res:=some (.bool true),after:=args}=some (.bool (true == true)) from w_eq_bool (w_res rfl) w_lit) rfl
def rK{l:OpenLaw}{n:Nat}{q:Program}{loose:List Str}{XP:(Str->Option Value)->Heap->Prop}{YP:World->Heap->Prop}{d:DefRec}
  (hn:l.most=some n) (hdf:d.params.defaults=[])
  (call:∀(w:World) (s₀ s₁:Shared) (mg mb:Str->Option Value) (fa:Addr) (o:Obj) (pm cd doc:Value) (a:Addr) (vs:List Value) (ns:List Int),
   Ground q loose [] XP w s₀ mg mb s₁.heap->YP w s₁.heap ->
   s₁.heap.get? fa=some o->o.data=.func (docDef d.name d.params d.body d.scope pm cd doc)->s₁.heap.CodeRec cd d.name->mg d.name=some (.ref fa) ->
   s₁.heap.get? a=some { cls:=.type "list",data:=.seq vs.toArray}->IntsAre vs ns->ns.length<=n->s₁.gens=#[] ->
   codeAny (model l.prog w) callerA (.call (.ref fa) ⟨[.ref a],[]⟩) (fun r s'=>r=.ok (.ret (.bool true))/\OldK s₁.heap s'.heap/\s'.os=s₁.os/\AllBare s'.gens) s₁) :
  WalkO q loose XP YP l.row.toRowW d [] (fun f vs=>PySem.call f vs):=by
 intro w s₀ s₁ mg mb G Y fa o pm cd doc dV kV ho hd hcd hD hmg hg args vals as hpre hlay hrd hwl hlo;obtain rfl:dV=.none:=Dflts.none hD hdf;obtain rfl:kV=.none:=Dflts.noKw hD;obtain⟨a,vs,ns,rfl,rfl,hobj,hints,hlen⟩:=vj hn hpre hwl;refine enter_call (codeAny_mono (call w s₀ s₁ mg mb fa o pm cd doc a vs ns G Y ho (fd_plain hd) hcd hmg hobj hints hlen hg) fun r s' hq=>?_);obtain⟨rfl,h2,h3,h4⟩:=hq;exact⟨.inl ⟨.bool true,.bool true,[],rfl,fun _=>rfl,.bool true,vN l _,fun _=>⟨List.Pairwise.nil,fun _ hm=>(nomatch hm)⟩⟩,h2,h3,h4⟩
section
variable {prog:Program} {w:World} {A:Around} {E:Value→Shared→Prop} {s:Shared} {K:Frag}
end
end Att
namespace L2
open PySem PySem.Spec PyProof.Rows
def nV:∀{vs:List Value} {ns:List Int},IntsAre vs ns->aI (ns.map V.int) vs
 | _,_,.nil=>.nil
 | _,_,.cons n t h=>.cons ⟨t,rfl⟩ (nV h)
def Only(H:Hp):Prop:=∀b,H b=none\/∃o xs,H b=some (.frz o (.lst xs))
def xV{P:Program}{w:World}{K:qab}{mg mb:Str->Option Value}{CX:CXT}{k:Nat}{fa a:Addr}{fd:FuncData}{x:Str}{sp:Sp}{s₁:Shared}{vs:List Value}{ns:List Int}
  (KX:K.In s₁.heap) (hns:s₁.heap.Ns mainGlobals mg) (hb:s₁.heap.Ns builtinsNs mb) (hbb:∀x:Str,x≠"__name__"->mb x=bootBuiltins x) (hlim:s₁.heap.NoLimit) (hse:s₁.heap.NoSeer) (htr:P.given.tree=none) (hg:s₁.gens=#[])
  (ha:s₁.heap.get? a=some { cls:=.type "list",data:=.seq vs.toArray}) (hi:IntsAre vs ns) (hl:ns.length<=sizeLine) (hr:Room k callerA)
  (F:∀base:Heap,K.In base->base.Ns mainGlobals mg->FnOk P w K mg base CX k fa fd [x] sp) (hbind:∀(s:Shared) (u:Value),BindsTo s fd ⟨[u],[]⟩ [(x,u)])
  (hsp:∀H:Hp,Only H->SqL K H a (ns.map V.int)->sp [.ref a] H (fun v _=>v=.bl true) fun _ _ _=>False)
  (hCX:∀H e s',CX [] H s₁ (fun _ _ _=>False) e s'->False) :
  codeAny (model P w) callerA (.call (.ref fa) ⟨[.ref a],[]⟩) (fun r s'=>r=.ok (.ret (.bool true))/\OldK s₁.heap s'.heap/\s'.os=s₁.os/\AllBare s'.gens) s₁:=by
 have rv:=nV hi;have lenV:=hi.length;have core:∀H:Hp,Only H->SqL K H a (ns.map V.int)->HOk P w H s₁.heap->(∀b,H b≠none->b=a)->(H a≠none->K.lookup a=none) ->
   codeAny (model P w) callerA (.call (.ref fa) ⟨[.ref a],[]⟩) (fun r s'=>r=.ok (.ret (.bool true))/\OldK s₁.heap s'.heap/\s'.os=s₁.os/\AllBare s'.gens) s₁:=by
  intro H hO hS hok hA hK;have base_of:∀{b:Addr} {o:Obj},s₁.heap.get? b=some o->H b=none->(jx s₁.heap H).get? b=some o:=fun e n=>wJ e n;have noA:∀{b:Addr} {o:Obj} {es:Array DictEntry} {ep:Nat},s₁.heap.get? b=some o->o.data=.dict es ep->H b=none:=fun {b o es ep} e d=>by
   cases q:H b with
   | none=>rfl
   | some u =>
    have e':b=a:=hA b (by rw[q];simp);subst e';rw[ha] at e;cases e;have d':Data.seq vs.toArray _=Data.dict es ep:=d;cases d'
  have nsK:∀{b:Addr} {m:Str->Option Value},s₁.heap.Ns b m->(jx s₁.heap H).Ns b m:=fun {b m} ⟨o,es,ep,e,d,r⟩=>⟨o,es,ep,base_of e (noA e d),d,r⟩
  have hKb:K.In (jx s₁.heap H):=fun b o e=>base_of (KX b o e) (by
   cases q:H b with
   | none=>rfl
   | some u =>
    have e':b=a:=hA b (by rw[q];simp);subst e'
    rw[hK (by rw[q];simp)] at e;cases e)
  have hM:Mod K mg (jx s₁.heap H):=⟨hKb,nsK hns,⟨mb,nsK hb,hbb⟩,let ⟨mc,h1,h2⟩:=hlim;⟨mc,nsK h1,h2⟩,let ⟨mc,h1,h2⟩:=hse.statics;⟨mc,nsK h1,h2⟩,let ⟨mc,h1,h2⟩:=hse.mods;⟨mc,nsK h1,h2⟩,let ⟨mc,h1,h2⟩:=hse.imp;⟨mc,nsK h1,h2⟩,let ⟨mc,bm,ob,h1,h2,h3,h4,h5⟩:=hse.main;⟨mc,bm,ob,nsK h1,h2,base_of h3 (by
   cases q:H bm with
   | none=>rfl
   | some u =>
    have e':bm=a:=hA bm (by rw[q];simp);subst e';rw[ha] at h3;cases h3
    exact absurd (show Value.type "list"=Value.type "module" from h4) (by decide)),h4,h5⟩⟩
  have e0:Env0 P w K mg (jx s₁.heap H) callerA [] s₁ H:=⟨rfl,hM,fun b o e=>of_hidT e,Nat.le_of_eq (vU _ _),trivial,fun b hb=>absurd (show b∈([]:List Addr) from hb) (by simp),hok,.of_eq hg,htr⟩;refine codeAny_mono ((F _ hKb (nsK hns)).run callerA [] s₁ H ⟨[.ref a],[]⟩ [.ref a] [.ref a] _ _ hr e0 (hbind s₁ (.ref a)) (.cons rfl .nil) (hsp H hO hS)) fun r s' h=>?_
  cases r with
  | error e=>exact (hCX H e s' h).elim
  | ok fl =>
   cases fl with
   | next=>exact False.elim h
   | brk=>exact False.elim h
   | cont=>exact False.elim h
   | ret u =>
    obtain⟨v,H',os,bare,un,hok',r',q⟩:=h;have q':v=.bl true:=q;subst q';obtain rfl:u=Value.bool true:=r';refine⟨rfl,OldK.of_keep fun b o e=>?_,os,bare⟩
    cases q:H b with
    | none=>exact un.keep b o e q (by intro z;exact absurd (show b∈([]:List Addr) from z) (by simp)) (by simp)
    | some u =>
     rcases hO b with z|⟨ob,xs,z⟩
     ·rw[q] at z;cases z
     ·have z2:=un.frzs b ob _ z;obtain⟨e1,_⟩:=hok b _ z;obtain⟨e2,_⟩:=hok' b _ z2;rw[e] at e1;cases e1;exact e2
 cases hk:K.lookup a with
 | some o =>
  have e:=KX a o hk;rw[ha] at e;cases e;refine core (fun _=>none) (fun _=>.inl rfl) (.inr ⟨_,vs.toArray,_,hk,rfl,rfl,rfl,by rw[qav,lenV];exact hl,by simpa using rv⟩) (fun b u z=>by have z':(none:Option HO)=some u:=z;cases z') (fun b z=>absurd rfl z) fun z=>absurd rfl z
 | none =>
  refine core (fun b=>if b=a then some (.frz { cls:=.type "list",data:=.seq vs.toArray} (.lst (ns.map V.int))) else none) (fun b=>?_) (.inl (.inr ⟨{ cls:=.type "list",data:=.seq vs.toArray},qan rfl⟩)) (fun b u z=>?_) (fun b z=>?_) fun _=>hk
  ·by_cases hb:b=a
   ·exact .inr ⟨_,_,qan hb⟩
   ·exact .inl (qaz hb)
  ·by_cases hb:b=a
   ·have z':=(qan hb).symm.trans z;cases z';subst hb;exact⟨ha,by rw[qaC];exact hl,vs,_,rv,ha⟩
   ·have z':=(qaz hb).symm.trans z;cases z'
  ·by_cases hb:b=a
   ·exact hb
   ·exact absurd (qaz hb) z
abbrev KOf{K:qab}{h:Heap}(_:K.In h):qab:=K
def walk_of{l:PySem.W.OpenLaw}{n k:Nat}{q:Program}{loose:List Str}{XP:(Str->Option Value)->Heap->Prop}{YP:World->Heap->Prop}{d:DefRec}{K:Params->qab}{CX:World->CXT}{sp:World->Sp}{x:Str}
  (hn:l.most=some n) (hn2:n<=sizeLine) (hdf:d.params.defaults=[]) (hr:Room k callerA) (hi:PyProof.Rows.importsNone q=true) (htr:l.prog.given.tree=none)
  (hY:∀(w:World) (h:Heap),YP w h->(K w.params).In h)
  (F:∀(w:World) (mg:Str->Option Value) (fa:Addr) (h:Heap),(K w.params).In h->h.Ns mainGlobals mg->mg d.name=some (.ref fa) ->
   ∃fd:FuncData,(∀(s:Shared) (u:Value),BindsTo s fd ⟨[u],[]⟩ [(x,u)]) /\
    ∀base:Heap,(K w.params).In base->base.Ns mainGlobals mg->FnOk l.prog w (K w.params) mg base (CX w) k fa fd [x] (sp w))
  (hsp:∀(w:World) (H:Hp) (a:Addr) (ns:List Int),ns.length<=n->Only H->SqL (K w.params) H a (ns.map V.int)->sp w [.ref a] H (fun v _=>v=.bl true) fun _ _ _=>False)
  (hCX:∀(w:World) (H:Hp) (s:Shared) (e:Value) (s':Shared),CX w [] H s (fun _ _ _=>False) e s'->False) :
  PySem.W.WalkO q loose XP YP l.row.toRowW d [] (fun f vs=>PySem.call f vs):=by
 refine Att.rK hn hdf fun w s₀ s₁ mg mb fa o pm cd doc a vs ns G Y ho hd hcd hmg hobj hints hlen hg=>?_;have KX:=hY w _ Y;obtain⟨fd,hb,hF⟩:=F w mg fa _ KX G.T.g hmg;exact xV KX G.T.g G.T.b G.T.builtins G.T.nolimit (G.T.seer hi) htr hg hobj hints (qaJ hlen hn2) hr hF hb (fun H hO hS=>hsp w H a ns hlen hO hS) fun H e s'=>hCX w H s₁ e s'
def gI(s:Stmt):Arguments:=match s with
 | .FunctionDef _ a _ _ _ _ _ _ _ _=>a
 | _=>{ posonlyargs:=[],args:=[],vararg:=none,kwonlyargs:=[],kw_defaults:=[],kwarg:=none,defaults:=[]}
def aK(s:Stmt):List Stmt:=match s with
 | .FunctionDef _ _ b _ _ _ _ _ _ _=>b
 | _=>[]
def av(s:Stmt):Scope:=match s with
 | .FunctionDef _ _ _ _ _ _ sc _ _ _=>sc
 | _=>{ kind:=.function,names:=[],isGenerator:=false,isCoroutine:=false}
structure Fun (K:qab) (x qual:Str) (st:Stmt) (f:Addr) (fd:FuncData):Prop where
 ex:∃(oc:Value) (od:Option Addr) (kV doc pm:Value) (an:Option Addr) (cdv ct:Value) (osl:Array (Option Value)),
  fd=PySem.W.fnOf x qual (gI st) (aK st) (av st) .none kV doc pm an cdv ct/\K.lookup f=some ⟨oc,od,.func fd,osl⟩/\PySem.W.codeIn K cdv qual=true
 kp:PySem.W.keepIn K (.ref f)=true
section
variable {P:Program} {w:World} {K:qab} {mg:Str→Option Value} {base:Heap}
def Fun.binds{x qual:Str}{st:Stmt}{f:Addr}{fd:FuncData}{ps:List Str}(F:Fun K x qual st f fd)
  (h:∀(kV doc pm:Value) (an:Option Addr) (cdv ct:Value) (us:List Value),us.length=ps.length->bindArgs (PySem.W.fnOf x qual (gI st) (aK st) (av st) .none kV doc pm an cdv ct) ⟨us,[]⟩=pure (ps.zip us)):lO K fd ps []:=by
 obtain⟨oc,od,kV,doc,pm,an,cdv,ct,osl,rfl,lk,hcd⟩:=F.ex;exact .all (h kV doc pm an cdv ct)
def fun_mk{x qual:Str}{st:Stmt}{f:Addr}{oc:Value}{od an:Option Addr}{osl:Array (Option Value)}{kV doc pm cdv ct:Value}(l:K.lookup f=some ⟨oc,od,.func (PySem.W.fnOf x qual (gI st) (aK st) (av st) .none kV doc pm an cdv ct),osl⟩)
  (c:PySem.W.codeIn K cdv qual=true) (k:PySem.W.keepIn K (.ref f)=true):Fun K x qual st f (PySem.W.fnOf x qual (gI st) (aK st) (av st) .none kV doc pm an cdv ct):=⟨⟨oc,od,kV,doc,pm,an,cdv,ct,osl,rfl,l,c⟩,k⟩
end
section
variable {X:Cx}
end
end L2
namespace MM
open PySem PySem.Spec PyProof.Rows L2
inductive PV where
 | non | bl (b:Bool) | int (i:Int) | str (x:Str) | tup (xs:List PV) | frl (xs:List PV) | loc (n:Nat)
structure MExc where
 cls:Str
 fs:List (Str × PV):=[]
inductive MO where
 | lst (xs:List PV)
 | dic (fz:Bool) (ks:List Int) (xs:List PV)
 | exc (x:MExc)
def MO.fzd:MO->Bool
 | .dic fz _ _=>fz
 | _=>false
abbrev MH:=List MO
abbrev PSt:=List (Option PV)
inductive Out (α:Type) where
 | ok (a:α) (h:MH)
 | exc (x:MExc) (h:MH)
 | bad
def Out.bind{α β:Type}(o:Out α)(f:α->MH->Out β):Out β:=match o with
 | .ok a h=>f a h
 | .exc x h=>.exc x h
 | .bad=>.bad
@[simp] theorem Out.bind_ok(a:α)(h:MH)(f:α->MH->Out β):(Out.ok a h).bind f=f a h:=rfl
@[simp] theorem Out.bind_exc(x:MExc)(h:MH)(f:α->MH->Out β):(Out.exc x h).bind f=.exc x h:=rfl
@[simp] theorem Out.bind_bad(f:α->MH->Out β):(Out.bad:Out α).bind f=.bad:=rfl
inductive SOut where
 | nx (σ:PSt) (h:MH)
 | rt (v:PV) (h:MH)
 | bk (σ:PSt) (h:MH)
 | ct (σ:PSt) (h:MH)
 | exc (x:MExc) (σ:PSt) (h:MH)
 | rse (x:MExc) (σ:PSt) (h:MH)
 | bad
def Out.ne{α:Type}(o:Out α):Out α:=match o with
 | .exc _ _=>.bad
 | o=>o
@[simp] theorem Out.ne_ok(a:α)(h:MH):(Out.ok a h).ne=.ok a h:=rfl
@[simp] theorem Out.ne_bad:(Out.bad:Out α).ne=.bad:=rfl
@[simp] theorem Out.ne_ne(o:Out α):o.ne.ne=o.ne:=by cases o <;> rfl
def SqF(K:qab)(H:Hp)(a:Addr)(ys:List V):Prop :=
 (∃o,H a=some (.frz o (.lst ys))) \/
  ∃(o:Obj) (its:Array Value) (n:Nat),K.lookup a=some o/\o.cls=.type "list"/\o.dict=none/\o.data=.seq its n/\its.size<=sizeLine/\aI ys its.toList
def SqF.sq{K:qab}{H:Hp}{a:Addr}{ys:List V}(h:SqF K H a ys):SqL K H a ys:=by
 rcases h with h|h
 ·exact .inl (.inr h)
 ·exact .inr h
mutual
inductive RP (K:qab) (ρ:List Addr) (H:Hp):PV->V->Prop where
 | non:RP K ρ H .non .non
 | bl (b:Bool):RP K ρ H (.bl b) (.bl b)
 | int (i:Int):RP K ρ H (.int i) (.int i)
 | str (x:Str):RP K ρ H (.str x) (.str x)
 | tup {xs:List PV} {a:Addr} {ys:List V} (s:SqT K H a ys) (r:RPs K ρ H xs ys):RP K ρ H (.tup xs) (.ref a)
 | frl {xs:List PV} {a:Addr} {ys:List V} (s:SqF K H a ys) (r:RPs K ρ H xs ys):RP K ρ H (.frl xs) (.ref a)
 | loc {n:Nat} {a:Addr} (e:ρ[n]?=some a):RP K ρ H (.loc n) (.ref a)
inductive RPs (K:qab) (ρ:List Addr) (H:Hp):List PV->List V->Prop where
 | nil:RPs K ρ H [] []
 | cons {x:PV} {y:V} {xs:List PV} {ys:List V} (r:RP K ρ H x y) (t:RPs K ρ H xs ys):RPs K ρ H (x::xs) (y::ys)
end
structure Le (ρ:List Addr) (H:Hp) (ρ':List Addr) (H':Hp):Prop where
 pre:∃m,ρ'=ρ++m
 tup:∀a xs,H a=some (.tup xs)->H' a=some (.tup xs)
 frz:∀a o u,H a=some (.frz o u)->H' a=some (.frz o u)
def Le.refl(ρ:List Addr)(H:Hp):Le ρ H ρ H:=⟨⟨[],by simp⟩,fun _ _ h=>h,fun _ _ _ h=>h⟩
def Le.trans(a:Le ρ H ρ1 H1)(b:Le ρ1 H1 ρ2 H2):Le ρ H ρ2 H2:=by
 obtain⟨m,e⟩:=a.pre;obtain⟨m',e'⟩:=b.pre;exact⟨⟨m++m',by rw[e',e,List.append_assoc]⟩,fun c xs h=>b.tup c xs (a.tup c xs h),fun c o u h=>b.frz c o u (a.frz c o u h)⟩
def Le.get{ρ ρ':List Addr}{H H':Hp}(l:Le ρ H ρ' H'){n:Nat}{a:Addr}(e:ρ[n]?=some a):ρ'[n]?=some a:=by
 obtain⟨m,e'⟩:=l.pre;rw[e',qal (qaj.mp e).1];exact e
def Le.sqt{K:qab}{ρ ρ':List Addr}{H H':Hp}(l:Le ρ H ρ' H'){a:Addr}{xs:List V}(h:SqT K H a xs):SqT K H' a xs:=by
 rcases h with (h|⟨o,h⟩)|h
 ·exact .inl (.inl (l.tup _ _ h))
 ·exact .inl (.inr ⟨o,l.frz _ _ _ h⟩)
 ·exact .inr h
def Le.sqf{K:qab}{ρ ρ':List Addr}{H H':Hp}(l:Le ρ H ρ' H'){a:Addr}{xs:List V}(h:SqF K H a xs):SqF K H' a xs:=by
 rcases h with ⟨o,h⟩|h
 ·exact .inl ⟨o,l.frz _ _ _ h⟩
 ·exact .inr h
section
variable {K:qab} {ρ ρ':List Addr} {H H':Hp}
def RP.le(l:Le ρ H ρ' H'){x:PV}{y:V}(r:RP K ρ H x y):RP K ρ' H' x y :=
 RP.rec (motive_1:=fun x y _=>RP K ρ' H' x y) (motive_2:=fun x y _=>RPs K ρ' H' x y) .non .bl .int .str (fun s _ i=>.tup (l.sqt s) i) (fun s _ i=>.frl (l.sqf s) i) (fun e=>.loc (l.get e)) .nil (fun _ _ a b=>.cons a b) r
def RPs.le(l:Le ρ H ρ' H')(r:RPs K ρ H xs ys):RPs K ρ' H' xs ys:=by
 induction xs generalizing ys with
 | nil=>cases r;exact .nil
 | cons x xs ih=>cases r with | cons a t=>exact .cons (a.le l) (ih t)
def RPs.length(r:RPs K ρ H xs ys):xs.length=ys.length:=by
 induction xs generalizing ys with
 | nil=>cases r;rfl
 | cons x xs ih=>cases r with | cons a t=>exact congrArg (·+1) (ih t)
def RPs.get{xs:List PV}{ys:List V}{i:Nat}{x:PV}(r:RPs K ρ H xs ys)(e:xs[i]?=some x):∃y,ys[i]?=some y/\RP K ρ H x y:=by
 induction xs generalizing ys i with
 | nil=>cases e
 | cons x xs ih =>
  cases r with
  | cons a t =>
   cases i with
   | zero=>cases e;exact⟨_,rfl,a⟩
   | succ i=>have z:=@ih _ i t e;exact z
def RPs.set(r:RP K ρ H x u)(i:Nat)(q:RPs K ρ H xs us):RPs K ρ H (xs.set i x) (us.set i u):=by
 induction xs generalizing us i with
 | nil=>cases q;exact .nil
 | cons x xs ih =>
  cases q with
  | cons a t =>
   cases i with
   | zero=>exact .cons r t
   | succ i=>exact .cons a (ih i t)
def RPs.append(r:RPs K ρ H xs us)(s:RPs K ρ H ys ws):RPs K ρ H (xs++ys) (us++ws):=by
 induction xs generalizing us with
 | nil=>cases r;exact s
 | cons x xs ih=>cases r with | cons a t=>exact .cons a (ih t)
def RPs.take(n:Nat)(r:RPs K ρ H xs us):RPs K ρ H (xs.take n) (us.take n):=by
 induction n generalizing xs us with
 | zero=>exact .nil
 | succ n ih =>
  cases xs with
  | nil=>cases r;exact .nil
  | cons x xs=>cases r with | cons a t=>exact .cons a (ih t)
def RPs.drop(n:Nat)(r:RPs K ρ H xs us):RPs K ρ H (xs.drop n) (us.drop n):=by
 induction n generalizing xs us with
 | zero=>exact r
 | succ n ih =>
  cases xs with
  | nil=>cases r;exact .nil
  | cons x xs=>cases r with | cons a t=>exact ih t
def RPs.ints:∀(ns:List Int),RPs K ρ H (ns.map PV.int) (ns.map V.int)
 | []=>.nil
 | n::r=>.cons (.int n) (RPs.ints r)
end
def ExcAt(a C:Addr)(h:Heap):Prop:=∃o vs,h.get? a=some o/\o.cls=.ref C/\o.data=.fields vs
abbrev MGl:=Str->Option Value
def kz(ks:List Int)(ys:List V):List (Key × V):=(ks.map Sum.inl).zip ys
def dO(fz:Bool)(oh:Option HO)(u:HO):Prop:=match fz with
 | false=>oh=some u
 | true=>∃o,oh=some (.frz o u)
def RO(K:qab)(mg:MGl)(ρ:List Addr)(H:Hp)(a:Addr):MO->Option HO->Prop
 | .lst xs,oh=>∃ys,oh=some (.lst ys)/\RPs K ρ H xs ys
 | .dic fz ks xs,oh=>∃ys:List V,ys.length=ks.length/\RPs K ρ H xs ys/\dO fz oh (.dK (kz ks ys))
 | .exc x,oh=>x.fs=[]/\∃C,mg x.cls=some (.ref C)/\oh=some (.ext (ExcAt a C))
def im{fz:Bool}{P:Program}{w:World}{H:Hp}{h:Heap}{a:Addr}{kvs:List (Key × V)}(ok:HOk P w H h)(e:dO fz (H a) (.dK kvs)):kvs.length<=sizeLine/\(a == sysModules)=false/\∃vs,KV kvs vs/\h.DictOf (cM P w) a vs:=by
 cases fz with
 | false=>exact (show ObjOk P w H h a (.dK kvs) from ok a _ e)
 | true =>
  obtain⟨o,e⟩:=e;exact (show ObjOk P w H h a (.frz o (.dK kvs)) from ok a _ e).2
structure RH (K:qab) (mg:MGl) (ρ:List Addr) (H:Hp) (h:MH):Prop where
 len:ρ.length=h.length
 nd:ρ.Nodup
 at':∀(n:Nat) (a:Addr) (o:MO),ρ[n]?=some a->h[n]?=some o->RO K mg ρ H a o (H a)
def RO.le{K:qab}{mg:MGl}{ρ ρ':List Addr}{H H':Hp}{a:Addr}(l:Le ρ H ρ' H'){o:MO}{oh:Option HO}(r:RO K mg ρ H a o oh):RO K mg ρ' H' a o oh:=by
 cases o with
 | lst xs=>obtain⟨ys,e,r⟩:=r;exact⟨ys,e,r.le l⟩
 | dic fz ks xs=>obtain⟨ys,e,r,q⟩:=r;exact⟨ys,e,r.le l,q⟩
 | exc x=>exact r
def RO.some{K:qab}{mg:MGl}{ρ:List Addr}{H:Hp}{a:Addr}{o:MO}{oh:Option HO}(r:RO K mg ρ H a o oh):oh≠none:=by
 cases o with
 | lst xs=>obtain⟨ys,e,_⟩:=r;rw[e];simp
 | dic fz ks xs =>
  obtain⟨ys,_,_,q⟩:=r
  cases fz with
  | false=>rw[show oh=_ from q];simp
  | true=>obtain⟨o,q⟩:=q;rw[q];simp
 | exc x=>obtain⟨_,C,_,e⟩:=r;rw[e];simp
def RO.plain{K:qab}{mg:MGl}{ρ:List Addr}{H:Hp}{a:Addr}{o:MO}{oh:Option HO}(r:RO K mg ρ H a o oh)(hf:o.fzd=false):(∀xs,oh≠Option.some (.tup xs))/\∀p u,oh≠Option.some (.frz p u):=by
 cases o with
 | lst xs=>obtain⟨ys,e,_⟩:=r;rw[e];exact⟨(fun _ z=>nomatch z),(fun _ _ z=>nomatch z)⟩
 | dic fz ks xs =>
  obtain⟨ys,_,_,q⟩:=r
  cases fz with
  | false=>rw[show oh=_ from q];exact⟨(fun _ z=>nomatch z),(fun _ _ z=>nomatch z)⟩
  | true=>cases hf
 | exc x=>obtain⟨_,C,_,e⟩:=r;rw[e];exact⟨(fun _ z=>nomatch z),(fun _ _ z=>nomatch z)⟩
section
variable {K:qab} {mg:MGl} {ρ:List Addr} {H:Hp} {h:MH}
def RH.obj(r:RH K mg ρ H h){n:Nat}{a:Addr}(e:ρ[n]?=some a):∃o,h[n]?=some o/\RO K mg ρ H a o (H a):=by
 have hn:n<h.length:=by rw[<-r.len];exact (qaj.mp e).1
 exact⟨h[n],by simp[hn],r.at' n a _ e (by simp[hn])⟩
def RH.new(r:RH K mg ρ H h){p:Addr}(hp:H p=none){o:MO}{ho:HO}(hn:RO K mg ρ H p o (some ho)):RH K mg (ρ++[p]) (upd H p ho) (h++[o])/\Le ρ H (ρ++[p]) (upd H p ho):=by
 have hne:∀n a,ρ[n]?=some a->a≠p:=fun n a e z=>by
  obtain⟨o',_,q⟩:=r.obj e;rw[z,hp] at q;exact q.some rfl
 have l:Le ρ H (ρ++[p]) (upd H p ho):=⟨⟨[p],rfl⟩,fun a xs e=>by rw[bj (bX e hp)];exact e,fun a ob u e=>by rw[bj (bX e hp)];exact e⟩;refine⟨⟨by simp[r.len],?_,fun n a o' e1 e2=>?_⟩,l⟩
 ·rw[qbR];refine⟨r.nd,by simp,fun a ha b hb=>?_⟩;obtain⟨n,e⟩:=qbv.mp ha;have hb':b=p:=by simpa using hb
  rw[hb'];exact hne n a e
 ·by_cases hlt:n<ρ.length
  ·rw[qal hlt] at e1;rw[qal (by rw[<-r.len];exact hlt)] at e2;rw[bj (hne n a e1)];exact (r.at' n a o' e1 e2).le l
  ·rw[qaF (by lia)] at e1;rw[qaF (by rw[<-r.len];lia)] at e2;have hn0:n - ρ.length=0:=by
    rcases qcd (n - ρ.length) with z|z
    ·exact z
    ·rw[qbH (by simp;lia)] at e1;cases e1
   rw[hn0] at e1;have hn1:n - h.length=0:=by have:=r.len;lia
   rw[hn1] at e2;simp at e1 e2;subst e1;subst e2;rw[cz];exact hn.le l
def RH.put(r:RH K mg ρ H h){n:Nat}{a:Addr}(e:ρ[n]?=some a){o:MO}{ho:HO}(hn:RO K mg ρ H a o (some ho))(hd:∃o0,h[n]?=some o0/\o0.fzd=false:=by exact⟨_,by assumption,rfl⟩):RH K mg ρ (upd H a ho) (h.set n o)/\Le ρ H ρ (upd H a ho):=by
 obtain⟨o0,eo,q⟩:=r.obj e;obtain⟨o1,eo1,hf⟩:=hd;rw[eo1] at eo;cases eo;obtain⟨q1,q2⟩:=q.plain hf
 have l:Le ρ H ρ (upd H a ho):=⟨⟨[],by simp⟩,fun b xs z=>by
   have:b≠a:=by rintro rfl;exact q1 _ z
   rw[bj this];exact z,fun b ob u z=>by
   have:b≠a:=by rintro rfl;exact q2 _ _ z
   rw[bj this];exact z⟩
 refine⟨⟨by simp[r.len],r.nd,fun m b o' e1 e2=>?_⟩,l⟩;by_cases hm:m=n
 ·subst hm;rw[e] at e1;cases e1;rw[cz]
  have:m<h.length:=by rw[<-r.len];exact (qaj.mp e).1
  rw[qaD this] at e2;cases e2;exact hn.le l
 ·rw[qai (fun z=>hm z.symm)] at e2;have hb:b≠a:=by
   rintro rfl;have h1:=qaj.mp e;have h2:=qaj.mp e1;obtain⟨l1,g1⟩:=h1;obtain⟨l2,g2⟩:=h2;exact hm ((List.getElem_inj r.nd).mp (g2.trans g1.symm))
  rw[bj hb];exact (r.at' m b o' e1 e2).le l
def RH.tup(r:RH K mg ρ H h){p:Addr}(hp:H p=none)(ys:List V):RH K mg ρ (upd H p (.tup ys)) h/\Le ρ H ρ (upd H p (.tup ys)):=by
 have hne:∀n a,ρ[n]?=some a->a≠p:=fun n a e z=>by
  obtain⟨o',_,q⟩:=r.obj e;rw[z,hp] at q;exact q.some rfl
 have l:Le ρ H ρ (upd H p (.tup ys)):=⟨⟨[],by simp⟩,fun a xs e=>by rw[bj (bX e hp)];exact e,fun a ob u e=>by rw[bj (bX e hp)];exact e⟩;exact⟨⟨r.len,r.nd,fun n a o e1 e2=>by rw[bj (hne n a e1)];exact (r.at' n a o e1 e2).le l⟩,l⟩
end
def RS(K:qab)(ρ:List Addr)(H:Hp)(σp:PSt)(σ:L2.St):Prop :=
 σ.length=σp.length/\∀(i:Nat) (v:PV),σp[i]?=some (some v)->∃v',σ[i]?=some (some v')/\RP K ρ H v v'
def RS.le{K:qab}{ρ ρ':List Addr}{H H':Hp}{σp:PSt}{σ:L2.St}(l:Le ρ H ρ' H')(r:RS K ρ H σp σ):RS K ρ' H' σp σ :=
 ⟨r.1,fun i v e=>by obtain⟨v',e',q⟩:=r.2 i v e;exact⟨v',e',q.le l⟩⟩
def RS.set{K:qab}{ρ:List Addr}{H:Hp}{σp:PSt}{σ:L2.St}(r:RS K ρ H σp σ)(i:Nat){v:PV}{v':V}(q:RP K ρ H v v'):RS K ρ H (σp.set i (some v)) (σ.set i (some v')):=by
 refine⟨by simp[r.1],fun j u e=>?_⟩;by_cases hj:j=i
 ·subst hj;by_cases hl:j<σp.length
  ·rw[qaD hl] at e;cases e;exact⟨v',qaD (by rw[r.1];exact hl),q⟩
  ·rw[qbH (by simp;lia)] at e;cases e
 ·rw[qai (fun z=>hj z.symm)] at e;obtain⟨u',e',q'⟩:=r.2 j u e;exact⟨u',by rw[qai (fun z=>hj z.symm)];exact e',q'⟩
def Cov(B:Heap)(fs:List Addr)(h:Heap):Prop:=∀b o,h.get? b=some o->b∉fs->∃ob,B.get? b=some ob
def Fly(l:List Env)(H:Hp)(lim:Heap)(C ea:Addr)(h:Heap):Prop :=
 ∃B t,Heap.FlyingW B l ea (.ref C) (.ref t) h/\(∀b o,H b=some o->∃ob,B.get? b=some ob)/\Cov B (frs l) lim/\H ea=none
structure Bears (X:Cx) (h:Heap):Prop where
 old:∀b o,X.s₀.heap.get? b=some o->b∉X.ex->∃o',h.get? b=some o'
 cell:∀x c,X.env.cells.lookup x=some c->∃o,h.get? c=some o
 pin:∀p∈X.pn,∃o,h.get? p.1=some o
def Inv.bears{X:Cx}{Il:List (Addr × Obj)}{σ:L2.St}{H:Hp}{s:Shared}(I:Inv X Il σ H s):Bears X s.heap :=
 ⟨fun b o e n=>I.base.there b o e n,fun x c e=>let ⟨_,o,eo,_⟩:=I.cell x c e;⟨o,eo⟩,fun p hp=>⟨_,(I.pin p (qbn _ hp)).1⟩⟩
def XP(X:Cx)(σp:PSt)(ρ:List Addr)(H:Hp)(x:MExc)(h:MH):Prop:=∀(ea C:Addr) (ρ':List Addr) (H':Hp) (σ':L2.St) (s':Shared) (lim:Heap),x.fs=[]->X.mg x.cls=some (.ref C)->Le ρ H ρ' H'->RH X.K X.mg ρ' H' h->RS X.K ρ' H' σp σ' ->
 Inv X [] σ' H' s'->Bears X lim->Fly X.stack H' lim C ea s'.heap->X.xe (.ref ea) s'
def XM(X:Cx)(σp:PSt)(ρ:List Addr)(H:Hp)(x:MExc)(h:MH):Prop:=∀(ea C:Addr) (ρ':List Addr) (H':Hp) (σ':L2.St) (s':Shared) (h0:Heap) (args:List Value),x.fs=[]->X.mg x.cls=some (.ref C)->Le ρ H ρ' H'->RH X.K X.mg ρ' H' h->RS X.K ρ' H' σp σ' ->
 Inv X [] σ' H' { s' with heap:=h0}->Heap.MadeExcOf h0 s'.heap ea (.ref C) args->X.xe (.ref ea) s'
def XP.le(l:Le ρ H ρ' H')(q:XP X σp ρ H x h):XP X σp ρ' H' x h :=
 fun ea C ρ2 H2 σ2 s2 lim e1 e2 l2=>q ea C ρ2 H2 σ2 s2 lim e1 e2 (l.trans l2)
def XM.le(l:Le ρ H ρ' H')(q:XM X σp ρ H x h):XM X σp ρ' H' x h :=
 fun ea C ρ2 H2 σ2 s2 lim args e1 e2 l2=>q ea C ρ2 H2 σ2 s2 lim args e1 e2 (l.trans l2)
abbrev Rl(α β:Type):=List Addr->Hp->α->β->Prop
def Ful{α β:Type}(X:Cx)(R:Rl α β)(σp:PSt)(ρ:List Addr)(H:Hp)(o:Out α)(Q:β->Hp->Prop):Prop:=match o with
 | .ok v h'=>∀ρ' H' v',Le ρ H ρ' H'->RH X.K X.mg ρ' H' h'->R ρ' H' v v'->Q v' H'
 | .exc x h'=>XP X σp ρ H x h'
 | .bad=>False
def iH{α β:Type}(X:Cx)(R:Rl α β)(ρ:List Addr)(H:Hp)(o:Out α)(Q:β->Hp->Prop):Prop:=match o with
 | .ok v h'=>∀ρ' H' v',Le ρ H ρ' H'->RH X.K X.mg ρ' H' h'->R ρ' H' v v'->Q v' H'
 | _=>False
def Ful.zero(f:Ful X R σp ρ H o.ne Q):iH X R ρ H o Q:=by
 cases o with
 | ok v h=>exact f
 | exc x h=>exact f
 | bad=>exact f
def Ful.le(l:Le ρ H ρ1 H1)(f:Ful X R σp ρ H o Q):Ful X R σp ρ1 H1 o Q:=by
 cases o with
 | ok v h=>exact fun ρ' H' v' l'=>f ρ' H' v' (l.trans l')
 | exc x h=>exact XP.le (X:=X) (σp:=σp) (x:=x) (h:=h) l f
 | bad=>exact f
def Ful.bind{α β γ δ:Type}{X:Cx}{R:Rl α β}{S:Rl γ δ}{σp:PSt}{ρ:List Addr}{H:Hp}{o:Out α}{f:α->MH->Out γ}{Q:δ->Hp->Prop}{Q':β->Hp->Prop}(q:Ful X S σp ρ H (o.bind f) Q)
  (k:∀ρ1 H1 v v' h1,o=.ok v h1->Le ρ H ρ1 H1->RH X.K X.mg ρ1 H1 h1->R ρ1 H1 v v'->Ful X S σp ρ1 H1 (f v h1) Q->Q' v' H1):Ful X R σp ρ H o Q':=by
 cases o with
 | ok v h=>exact fun ρ' H' v' l r w=>k ρ' H' v v' h rfl l r w (Ful.le l q)
 | exc x h=>exact q
 | bad=>exact q
abbrev RV'(X:Cx):Rl PV V:=fun ρ H=>RP X.K ρ H
abbrev RVs'(X:Cx):Rl (List PV) (List V):=fun ρ H=>RPs X.K ρ H
abbrev REq{α:Type}:Rl α α:=fun _ _ x y=>x=y
abbrev Mx(α:Type):=PSt->MH->Out α
inductive tM {α β:Type} (X:Cx) (R:Rl α β) (m:Mx α) (σ:L2.St) (H:Hp) (Q:β->Hp->Prop):Prop
 | mk (ρ:List Addr) (σp:PSt) (h:MH) (rs:RS X.K ρ H σp σ) (rh:RH X.K X.mg ρ H h) (q:Ful X R σp ρ H (m σp h) Q):tM X R m σ H Q
def ME(X:Cx)(e:Expr)(m:Mx PV):Prop:=PE X e (tM X (RV' X) m)
def MT(X:Cx)(e:Expr)(m:Mx Bool):Prop:=PT X e (tM X REq m)
def MW(X:Cx)(e:Expr)(m:Mx Bool):Prop:=PW X e (tM X REq m)
def MA(X:Cx)(es:List Expr)(m:Mx (List PV)):Prop:=PA X es (tM X (RVs' X) m)
def PE.imp(h:PE X e t)(i:∀σ H Q,t' σ H Q->t σ H Q):PE X e t':=fun Il s σ H Q I q=>h Il s σ H Q I (i σ H Q q)
def PT.imp(h:PT X e t)(i:∀σ H Q,t' σ H Q->t σ H Q):PT X e t':=fun Il s σ H Q I q=>h Il s σ H Q I (i σ H Q q)
def PW.imp(h:PW X e t)(i:∀σ H Q,t' σ H Q->t σ H Q):PW X e t':=fun whole Il s σ H Q I q=>h whole Il s σ H Q I (i σ H Q q)
def PA.imp(h:PA X e t)(i:∀σ H Q,t' σ H Q->t σ H Q):PA X e t':=fun pos Il s σ H Q I q=>h pos Il s σ H Q I (i σ H Q q)
def PS.imp(h:PS X e t)(i:∀D σ H,t' D σ H->t D σ H):PS X e t':=fun Il s σ H D I q=>h Il s σ H D I (i D σ H q)
def PSs.imp(h:PSs X e t)(i:∀D σ H,t' D σ H->t D σ H):PSs X e t':=fun Il s σ H D I q=>h Il s σ H D I (i D σ H q)
def bC(X:Cx)(ρ:List Addr)(H:Hp)(o:SOut)(D:Ends):Prop:=match o with
 | .nx σp h'=>∀ρ' H' σ',Le ρ H ρ' H'->RH X.K X.mg ρ' H' h'->RS X.K ρ' H' σp σ'->D.nx σ' H'
 | .bk σp h'=>∀ρ' H' σ',Le ρ H ρ' H'->RH X.K X.mg ρ' H' h'->RS X.K ρ' H' σp σ'->D.bk σ' H'
 | .ct σp h'=>∀ρ' H' σ',Le ρ H ρ' H'->RH X.K X.mg ρ' H' h'->RS X.K ρ' H' σp σ'->D.ct σ' H'
 | .rt v h'=>∀ρ' H' v',Le ρ H ρ' H'->RH X.K X.mg ρ' H' h'->RP X.K ρ' H' v v'->D.rt v' H'
 | .exc x σp h'=>XP X σp ρ H x h'
 | .rse x σp h'=>XM X σp ρ H x h'
 | .bad=>False
def bC.le(l:Le ρ H ρ1 H1)(f:bC X ρ H o D):bC X ρ1 H1 o D:=by
 cases o with
 | nx σp h=>exact fun ρ' H' v' l'=>f ρ' H' v' (l.trans l')
 | bk σp h=>exact fun ρ' H' v' l'=>f ρ' H' v' (l.trans l')
 | ct σp h=>exact fun ρ' H' v' l'=>f ρ' H' v' (l.trans l')
 | rt v h=>exact fun ρ' H' v' l'=>f ρ' H' v' (l.trans l')
 | exc x σp h=>exact XP.le (X:=X) (σp:=σp) (x:=x) (h:=h) l f
 | rse x σp h=>exact XM.le (X:=X) (σp:=σp) (x:=x) (h:=h) l f
 | bad=>exact f
abbrev Mst:=PSt->MH->SOut
inductive tMS (X:Cx) (m:Mst) (D:Ends) (σ:L2.St) (H:Hp):Prop
 | mk (ρ:List Addr) (σp:PSt) (h:MH) (rs:RS X.K ρ H σp σ) (rh:RH X.K X.mg ρ H h) (q:bC X ρ H (m σp h) D):tMS X m D σ H
def MS(X:Cx)(st:Stmt)(m:Mst):Prop:=PS X st (tMS X m)
def MSs(X:Cx)(st:List Stmt)(m:Mst):Prop:=PSs X st (tMS X m)
section
variable {X:Cx} {N W G:List Str} {k:Nat}
structure Good (X:Cx) (N W G:List Str) (k:Nat):Prop where
 hN:X.N=N
 nd:N.Nodup
 loc:∀x∈N,Loc X.env.scope x
 fn:∀x∈W,X.fn x=true\/X.env.scope.names.lookup x=some .local
 gl:∀x∈G,Gl X x
 dbg:∀x∈N++G,(x == ("__debug__":Str))=false/\(x == ("__classdict__":Str))=false/\x≠"__name__"
 calm:X.calm=true
 room:Room k X.A
 po:PassesOwn (model X.prog X.w) X.A X.env X.xe
def Good.x(g:Good X N W G k){i:Nat}{x:Str}(hi:N[i]?=some x):X.N[i]?=some x:=by rw[g.hN];exact hi
def bn{l:List Str}{i:Nat}{x:Str}(hi:l[i]?=some x):x∈l:=qbj hi
def rJ(X:Cx)(g:PV->PV->MH->Out PV):R2:=fun x' y' H Q=>∃ρ h x y,RH X.K X.mg ρ H h/\RP X.K ρ H x x'/\RP X.K ρ H y y'/\iH X (RV' X) ρ H (g x y h) Q
abbrev OpJ(X:Cx)(f:Value->Value->Sem Value)(g:PV->PV->MH->Out PV):Prop:=OpR X f (rJ X g)
def uJ(X:Cx)(g:PV->MH->Out PV):V->Hp->VK->Prop:=fun x' H Q=>∃ρ h x,RH X.K X.mg ρ H h/\RP X.K ρ H x x'/\iH X (RV' X) ρ H (g x h) Q
abbrev UnJ(X:Cx)(f:Value->Sem Value)(g:PV->MH->Out PV):Prop:=UnR X f (uJ X g)
def cJ(X:Cx)(g:List PV->MH->Out PV):List V->Hp->VK->Prop:=fun xs' H Q=>∃ρ h xs,RH X.K X.mg ρ H h/\RPs X.K ρ H xs xs'/\iH X (RV' X) ρ H (g xs h) Q
abbrev cO(X:Cx)(f:Value)(g:List PV->MH->Out PV):Prop:=dY X f (cJ X g)
def ag(i:Nat):Mx PV:=fun σ h=>match σ[i]? with
 | some (some v)=>.ok v h
 | _=>.bad
def mC(v:PV):Mx PV:=fun _ h=>.ok v h
def wo(g:Good X N W G k)(i:Nat){x:Str}{pos:Pos}(hi:N[i]?=some x):ME X (.Name x pos) (ag i):=by
 have d:=g.dbg x (qbn _ (bn hi));have hv:Vis X.env.scope x:=by
  rcases g.loc x (bn hi) with q|q
  ·exact .inl q
  ·exact .inr (.inl q)
 refine PE.imp (pe_var (g.x hi) hv d.1 d.2.1) fun σ H Q ⟨ρ,σp,h,rs,rh,f⟩=>?_;unfold ag at f
 cases e:σp[i]? with
 | none=>rw[e] at f;exact f.elim
 | some o =>
  rw[e] at f
  cases o with
  | none=>exact f.elim
  | some v =>
   obtain⟨v',e',r⟩:=rs.2 i v e;exact⟨v',e',f ρ H v' (Le.refl _ _) rh r⟩
def aG:ME X (.Constant (.int i) j pos) (mC (.int i)):=PE.imp pe_int fun _ H _ ⟨ρ,_,_,_,rh,f⟩=>f ρ H _ (Le.refl _ _) rh (.int i)
def mK:ME X (.Constant (.str i) j pos) (mC (.str i)):=PE.imp pe_str fun _ H _ ⟨ρ,_,_,_,rh,f⟩=>f ρ H _ (Le.refl _ _) rh (.str i)
def ic:ME X (.Constant (.bool i) j pos) (mC (.bl i)):=PE.imp pe_bl fun _ H _ ⟨ρ,_,_,_,rh,f⟩=>f ρ H _ (Le.refl _ _) rh (.bl i)
def aj(f:PV->PV->MH->Out PV)(ma mb:Mx PV):Mx PV:=fun σ h=>(ma σ h).bind fun x h1=>(mb σ h1).bind fun y h2=>(f x y h2).ne
def mUn(f:PV->MH->Out PV)(ma:Mx PV):Mx PV:=fun σ h=>(ma σ h).bind fun x h1=>(f x h1).ne
def qj{f:PV->PV->MH->Out PV}{ma mb:Mx PV}{σ:L2.St}{H:Hp}{Q:VK}(q:tM X (RV' X) (aj f ma mb) σ H Q):tOp (rJ X f) (tM X (RV' X) ma) (tM X (RV' X) mb) σ H Q:=by
 obtain⟨ρ,σp,h,rs,rh,q⟩:=q;refine⟨ρ,σp,h,rs,rh,Ful.bind q fun ρ1 H1 x x' h1 _ l1 rh1 rx q1=>?_⟩;refine⟨ρ1,σp,h1,rs.le l1,rh1,Ful.bind q1 fun ρ2 H2 y y' h2 _ l2 rh2 ry q2=>?_⟩;exact⟨ρ2,h2,x,y,rh2,rx.le l2,ry,q2.zero⟩
def aV(ho:OpJ X (binaryOp op) f)(ha:ME X a ma)(hb:ME X b mb):ME X (.BinOp a op b pos) (aj f ma mb) :=
 PE.imp (pe_op ho ha hb) fun _ _ _ q=>qj q
def me_un(ho:UnJ X (unaryOp op) f)(ha:ME X a ma):ME X (.UnaryOp op a pos) (mUn f ma) :=
 PE.imp (pe_un ho ha) fun _ _ _ ⟨ρ,σp,h,rs,rh,q⟩=>⟨ρ,σp,h,rs,rh,Ful.bind q fun ρ1 H1 x x' h1 _ l1 rh1 rx q1=>⟨ρ1,h1,x,rh1,rx,q1.zero⟩⟩
def me_cmp(ho:OpJ X (compareOp op) f)(ha:ME X a ma)(hb:ME X b mb)(hm:behindInMarks op b=false):ME X (.Compare a [op] [b] pos) (aj f ma mb) :=
 PE.imp (pe_cmpR ho ha hb hm) fun _ _ _ q=>qj q
def mB(m:Mx PV):Mx Bool:=fun σ h=>(m σ h).bind fun v h1=>match v with
 | .bl b=>.ok b h1
 | _=>.bad
def tM_B(q:tM X REq (mB m) σ H Q):tM X (RV' X) m σ H fun x H1=>∃c,x=.bl c/\Q c H1:=by
 obtain⟨ρ,σp,h,rs,rh,q⟩:=q;refine⟨ρ,σp,h,rs,rh,Ful.bind q fun ρ1 H1 x x' h1 _ l1 rh1 rx q1=>?_⟩
 cases rx with
 | bl b=>exact⟨b,rfl,q1 ρ1 H1 b (Le.refl _ _) rh1 rfl⟩
 | _=>exact q1.elim
def u7(ho:OpJ X (compareOp op) f)(ha:ME X a ma)(hb:ME X b mb)(hm:behindInMarks op b=false):MT X (.Compare a [op] [b] pos) (mB (aj f ma mb)) :=
 PT.imp (pt_cmpR ho ha hb hm) fun σ H Q q=>by
  obtain⟨ρ,σp,h,rs,rh,q⟩:=tM_B q;exact qj (Q:=fun x H'=>∃k,x=.bl k/\Q k H') ⟨ρ,σp,h,rs,rh,q⟩
def pc(h:ME X e m)(he:∀whole,isTrue e X.env whole=(do let v <-whole;standAt e.pos;holding [v] (truthy v)):=by intro _;rfl):MT X e (mB m) :=
 PT.imp (pt_val h he) fun _ _ _ q=>tM_B q
def ja(m:Mx Bool):Mx Bool:=fun σ h=>(m σ h).bind fun b h1=>.ok (!b) h1
def o9(h:MT X e m):MT X (.UnaryOp .Not e pos) (ja m) :=
 PT.imp (pt_not h) fun _ _ _ ⟨ρ,σp,h,rs,rh,q⟩=>⟨ρ,σp,h,rs,rh,Ful.bind q fun ρ1 H1 x x' h1 _ l1 rh1 rx q1=>by
  cases rx;exact q1 ρ1 H1 _ (Le.refl _ _) rh1 rfl⟩
def nB(a b:Mx Bool):Mx Bool:=fun σ h=>(a σ h).bind fun x h1=>if x=true then b σ h1 else .ok false h1
def mOr(a b:Mx Bool):Mx Bool:=fun σ h=>(a σ h).bind fun x h1=>if x=true then .ok true h1 else b σ h1
section
variable {a b:Expr} {rest:List Expr} {ma mb:Mx Bool} {pos:Pos}
def mw_and1(ha:MT X a ma):MW X (.BoolOp .And [a] pos) ma:=pw_and1 ha
def u0(ha:MT X a ma):MW X (.BoolOp .Or [a] pos) ma:=pw_or1 ha
def mw_and(ha:MT X a ma)(hb:MW X (.BoolOp .And (b::rest) pos) mb):MW X (.BoolOp .And (a::b::rest) pos) (nB ma mb) :=
 PW.imp (pw_and ha hb) fun σ H Q ⟨ρ,σp,h,rs,rh,q⟩=>⟨ρ,σp,h,rs,rh,Ful.bind q fun ρ1 H1 x x' h1 _ l1 rh1 rx q1=>by
  cases rx
  cases x with
  | true=>rw[qan rfl] at q1 ⊢;exact⟨ρ1,σp,h1,rs.le l1,rh1,q1⟩
  | false=>rw[qaz qaR] at q1 ⊢;exact q1 ρ1 H1 _ (Le.refl _ _) rh1 rfl⟩
def mw_or(ha:MT X a ma)(hb:MW X (.BoolOp .Or (b::rest) pos) mb):MW X (.BoolOp .Or (a::b::rest) pos) (mOr ma mb) :=
 PW.imp (pw_or ha hb) fun σ H Q ⟨ρ,σp,h,rs,rh,q⟩=>⟨ρ,σp,h,rs,rh,Ful.bind q fun ρ1 H1 x x' h1 _ l1 rh1 rx q1=>by
  cases rx
  cases x with
  | true=>rw[qan rfl] at q1 ⊢;exact q1 ρ1 H1 _ (Le.refl _ _) rh1 rfl
  | false=>rw[qaz qaR] at q1 ⊢;exact⟨ρ1,σp,h1,rs.le l1,rh1,q1⟩⟩
def MW.mt(h:MW X e m):MT X e m:=PW.pt h
end
def t5(a b:Mx PV):Mx PV:=fun σ h=>(a σ h).bind fun x h1=>match x with
 | .bl c=>if c=true then b σ h1 else .ok (.bl false) h1
 | _=>.bad
def uG(a:Mx PV):Mx PV:=fun σ h=>(a σ h).bind fun x h1=>match x with
 | .bl c=>.ok (.bl (!c)) h1
 | _=>.bad
section
variable {a b:Expr} {rest:List Expr} {ma mb:Mx PV} {pos:Pos}
def me_one(ha:ME X a ma):ME X (.BoolOp op [a] pos) ma:=pe_one ha
def me_and(ha:ME X a ma)(hb:ME X (.BoolOp .And (b::rest) pos) mb):ME X (.BoolOp .And (a::b::rest) pos) (t5 ma mb) :=
 PE.imp (pe_and ha hb) fun σ H Q ⟨ρ,σp,h,rs,rh,q⟩=>⟨ρ,σp,h,rs,rh,Ful.bind q fun ρ1 H1 x x' h1 _ l1 rh1 rx q1=>by
  cases rx with
  | bl c =>
   refine⟨c,rfl,?_⟩;dsimp only at q1
   cases c with
   | true=>rw[qan rfl] at q1 ⊢;exact⟨ρ1,σp,h1,rs.le l1,rh1,q1⟩
   | false=>rw[qaz qaR] at q1 ⊢;exact q1 ρ1 H1 _ (Le.refl _ _) rh1 (.bl false)
  | _=>exact q1.elim⟩
def me_not(ha:ME X a ma):ME X (.UnaryOp .Not a pos) (uG ma) :=
 PE.imp (pe_not ha) fun σ H Q ⟨ρ,σp,h,rs,rh,q⟩=>⟨ρ,σp,h,rs,rh,Ful.bind q fun ρ1 H1 x x' h1 _ l1 rh1 rx q1=>by
  cases rx with
  | bl c=>exact⟨c,rfl,q1 ρ1 H1 _ (Le.refl _ _) rh1 (.bl _)⟩
  | _=>exact q1.elim⟩
def mIfE(c:Mx Bool)(a b:Mx PV):Mx PV:=fun σ h=>(c σ h).bind fun x h1=>if x=true then a σ h1 else b σ h1
def me_ifE(hc:MT X c mc)(ha:ME X a ma)(hb:ME X b mb):ME X (.IfExp c a b pos) (mIfE mc ma mb) :=
 PE.imp (xU hc ha hb) fun σ H Q ⟨ρ,σp,h,rs,rh,q⟩=>⟨ρ,σp,h,rs,rh,Ful.bind q fun ρ1 H1 x x' h1 _ l1 rh1 rx q1=>by
  cases rx
  cases x with
  | true=>rw[qan rfl] at q1 ⊢;exact⟨ρ1,σp,h1,rs.le l1,rh1,q1⟩
  | false=>rw[qaz qaR] at q1 ⊢;exact⟨ρ1,σp,h1,rs.le l1,rh1,q1⟩⟩
end
def mNil:Mx (List PV):=fun _ h=>.ok [] h
def ae(a:Mx PV)(r:Mx (List PV)):Mx (List PV):=fun σ h=>(a σ h).bind fun x h1=>(r σ h1).bind fun xs h2=>.ok (x::xs) h2
def aQ:MA X [] mNil:=PA.imp rc fun σ H Q ⟨ρ,σp,h,rs,rh,q⟩=>q ρ H _ (Le.refl _ _) rh .nil
def aC(ha:ME X e m)(hr:MA X es ms)(hs:starEach (e::es) X.env=(false,eval e X.env)::starEach es X.env:=by rfl):MA X (e::es) (ae m ms) :=
 PA.imp (ky ha hr hs) fun σ H Q ⟨ρ,σp,h,rs,rh,q⟩=>⟨ρ,σp,h,rs,rh,Ful.bind q fun ρ1 H1 x x' h1 _ l1 rh1 rx q1 =>
  ⟨ρ1,σp,h1,rs.le l1,rh1,Ful.bind q1 fun ρ2 H2 y y' h2 _ l2 rh2 ry q2=>q2 ρ2 H2 _ (Le.refl _ _) rh2 (.cons (rx.le l2) ry)⟩⟩
def newL(xs:List PV)(h:MH):Out PV:=if xs.length<=sizeLine then .ok (.loc h.length) (h++[.lst xs]) else .bad
def newT(xs:List PV)(h:MH):Out PV:=if xs.length<=sizeLine then .ok (.tup xs) h else .bad
def kK{ρ:List Addr}{H:Hp}{h:MH}{xs:List PV}{ys:List V}{Q:VK}(rh:RH X.K X.mg ρ H h)(rs:RPs X.K ρ H xs ys)(f:iH X (RV' X) ρ H (newL xs h) Q):ys.length<=sizeLine/\∀p,H p=none->Q (.ref p) (upd H p (.lst ys)):=by
 unfold newL at f
 split at f
 ·rename_i hl
  refine⟨by rw[<-rs.length];exact hl,fun p hp=>?_⟩;obtain⟨r1,l1⟩:=rh.new hp (o:=.lst xs) (ho:=.lst ys) ⟨ys,rfl,rs⟩;refine f _ _ _ l1 r1 (.loc ?_);rw[<-rh.len];simp
 ·exact f.elim
def tO{ρ:List Addr}{H:Hp}{h:MH}{xs:List PV}{ys:List V}{Q:VK}(rh:RH X.K X.mg ρ H h)(rs:RPs X.K ρ H xs ys)(f:iH X (RV' X) ρ H (newT xs h) Q):ys.length<=sizeLine/\∀p,H p=none->Q (.ref p) (upd H p (.tup ys)):=by
 unfold newT at f
 split at f
 ·rename_i hl
  refine⟨by rw[<-rs.length];exact hl,fun p hp=>?_⟩;obtain⟨r1,l1⟩:=rh.tup hp ys;exact f _ _ _ l1 r1 (.tup (.inl (.inl cz)) (rs.le l1))
 ·exact f.elim
def newL_f{σp:PSt}{ρ:List Addr}{H:Hp}{h:MH}{xs:List PV}{Q:VK}(f:Ful X (RV' X) σp ρ H (newL xs h) Q):iH X (RV' X) ρ H (newL xs h) Q:=by
 unfold newL at f ⊢
 split at f
 ·rw[qan (by assumption)];exact f
 ·exact f.elim
def newT_f{σp:PSt}{ρ:List Addr}{H:Hp}{h:MH}{xs:List PV}{Q:VK}(f:Ful X (RV' X) σp ρ H (newT xs h) Q):iH X (RV' X) ρ H (newT xs h) Q:=by
 unfold newT at f ⊢
 split at f
 ·rw[qan (by assumption)];exact f
 ·exact f.elim
def d7(m:Mx (List PV)):Mx PV:=fun σ h=>(m σ h).bind newL
def fE(m:Mx (List PV)):Mx PV:=fun σ h=>(m σ h).bind newT
def wl(h:MA X es ms):ME X (.List es pos) (d7 ms) :=
 PE.imp (pe_lst h) fun σ H Q ⟨ρ,σp,h,rs,rh,q⟩=>⟨ρ,σp,h,rs,rh,Ful.bind q fun ρ1 H1 x x' h1 _ l1 rh1 rx q1=>kK rh1 rx (newL_f q1)⟩
def me_tup(h:MA X es ms):ME X (.Tuple es j pos) (fE ms) :=
 PE.imp (pe_tup h) fun σ H Q ⟨ρ,σp,h,rs,rh,q⟩=>⟨ρ,σp,h,rs,rh,Ful.bind q fun ρ1 H1 x x' h1 _ l1 rh1 rx q1=>tO rh1 rx (newT_f q1)⟩
def SOut.then(o:SOut)(k:Mst):SOut:=match o with
 | .nx σ h=>k σ h
 | o=>o
def aJ(a b:Mst):Mst:=fun σ h=>(a σ h).then b
def mSkip:Mst:=fun σ h=>.nx σ h
def dh:MSs X [] mSkip:=PSs.imp pss_nil fun D σ H ⟨ρ,σp,h,rs,rh,q⟩=>q ρ H σ (Le.refl _ _) rh rs
def mss_one{st:Stmt}{m:Mst}(h:MS X st m):MSs X [st] m:=pss_one h
def bC.then{ρ:List Addr}{H:Hp}{o:SOut}{k:Mst}{D:Ends}(q:bC X ρ H (o.then k) D):bC X ρ H o { D with nx:=fun σ H=>tMS X k D σ H}:=by
 cases o with
 | nx σp h=>exact fun ρ' H' σ' l r s=>⟨ρ',σp,h,s,r,bC.le l q⟩
 | _=>exact q
def yf{st:Stmt}{rest:List Stmt}{m u:Mst}(h1:MS X st m)(h2:MSs X rest u):MSs X (st::rest) (aJ m u) :=
 PSs.imp (xI h1 h2) fun D σ H ⟨ρ,σp,h,rs,rh,q⟩=>⟨ρ,σp,h,rs,rh,bC.then q⟩
def bB(m:Mx PV):Mst:=fun σ h=>match m σ h with
 | .ok v h'=>.rt v h'
 | .exc x h'=>.exc x σ h'
 | .bad=>.bad
def ms_ret(he:ME X e m):MS X (.Return (some e) pos) (bB m) :=
 PS.imp (ps_ret he) fun D σ H ⟨ρ,σp,h,rs,rh,q⟩=>⟨ρ,σp,h,rs,rh,by
  unfold bB at q
  cases e:m σp h with
  | ok v h'=>rw[e] at q;exact q
  | exc x h'=>rw[e] at q;exact q
  | bad=>rw[e] at q;exact q⟩
def mEx{α:Type}(m:Mx α)(k:α->Mst):Mst:=fun σ h=>match m σ h with
 | .ok v h'=>k v σ h'
 | .exc x h'=>.exc x σ h'
 | .bad=>.bad
def bC.ex{α β:Type}{R:Rl α β}{m:Mx α}{k:α->Mst}{ρ:List Addr}{H:Hp}{σp:PSt}{h:MH}{D:Ends}{Q:β->Hp->Prop}(q:bC X ρ H (mEx m k σp h) D)
  (w:∀ρ1 H1 v v' h1,Le ρ H ρ1 H1->RH X.K X.mg ρ1 H1 h1->R ρ1 H1 v v'->bC X ρ1 H1 (k v σp h1) D->Q v' H1):Ful X R σp ρ H (m σp h) Q:=by
 unfold mEx at q
 cases e:m σp h with
 | ok v h'=>rw[e] at q;exact fun ρ1 H1 v' l r z=>w ρ1 H1 v v' h' l r z (bC.le l q)
 | exc x h'=>rw[e] at q;exact q
 | bad=>rw[e] at q;exact q
def ik(m:Mx PV):Mst:=mEx m fun _=>mSkip
def sy{e:Expr}{m:Mx PV}{pos:Pos}(he:ME X e m)(hs:swapsWith e none pos.line X.env=pure false:=by rfl):MS X (.Expr e pos) (ik m) :=
 PS.imp (ps_expr he hs) fun D σ H ⟨ρ,σp,h,rs,rh,q⟩=>⟨ρ,σp,h,rs,rh,bC.ex q fun ρ1 H1 v v' h1 l r z w=>w ρ1 H1 σ (Le.refl _ _) r (rs.le l)⟩
def mIf(c:Mx Bool)(a b:Mst):Mst:=mEx c fun x=>if x=true then a else b
def eG{c:Expr}{a b:List Stmt}{mc:Mx Bool}{ma mb:Mst}{pos:Pos}(hc:MT X c mc)(ha:MSs X a ma)(hb:MSs X b mb):MS X (.If c a b pos) (mIf mc ma mb) :=
 PS.imp (ps_if hc ha hb) fun D σ H ⟨ρ,σp,h,rs,rh,q⟩=>⟨ρ,σp,h,rs,rh,bC.ex q fun ρ1 H1 v v' h1 l r z w=>by
  cases z
  cases v with
  | true=>rw[qan rfl];exact⟨ρ1,σp,h1,rs.le l,r,w⟩
  | false=>rw[qaz qaR];exact⟨ρ1,σp,h1,rs.le l,r,w⟩⟩
def aP(i:Nat)(m:Mx PV):Mst:=mEx m fun v σ h=>.nx (σ.set i (some v)) h
def jP(g:Good X N W G k)(i:Nat){x:Str}{e:Expr}{m:Mx PV}{pos pos':Pos}(hi:N[i]?=some x)(hw:W[i]?=some x)(he:ME X e m)(hs:swapsWith e (some (.Name x pos')) pos.line X.env=pure false:=by rfl) :
  MS X (.Assign [.Name x pos'] e pos) (aP i m):=by
 refine PS.imp (ps_set (X:=X) (i:=i) (by rw[g.hN];exact g.nd) (g.x hi) (g.loc x (bn hi)) he hs (g.fn x (bn hw))) fun D σ H ⟨ρ,σp,h,rs,rh,q⟩=>?_;exact⟨ρ,σp,h,rs,rh,bC.ex q fun ρ1 H1 v v' h1 l r z w=>w ρ1 H1 _ (Le.refl _ _) r ((rs.le l).set i z)⟩
end
end MM
namespace MM
open PySem PySem.Spec PyProof.Rows L2
local instance (priority:=1) cdec (p:Prop):Decidable p:=Classical.propDecidable p
section
variable {X:Cx} {N W G:List Str} {k:Nat}
abbrev Mg:=PV->Mst
def ly(X:Cx)(ρ:List Addr)(H:Hp)(o:SOut)(Q:L2.St->Hp->Prop):Prop:=match o with
 | .nx σp h'=>∀ρ' H' σ',Le ρ H ρ' H'->RH X.K X.mg ρ' H' h'->RS X.K ρ' H' σp σ'->Q σ' H'
 | .exc x σp h'=>XP X σp ρ H x h'
 | _=>False
def ly.le(l:Le ρ H ρ1 H1)(f:ly X ρ H o Q):ly X ρ1 H1 o Q:=by
 cases o with
 | nx σp h=>exact fun ρ' H' v' l'=>f ρ' H' v' (l.trans l')
 | exc x σp h=>exact XP.le (X:=X) (σp:=σp) (x:=x) (h:=h) l f
 | _=>exact f
inductive tG (X:Cx) (g:Mg) (v':V) (σ:L2.St) (H:Hp) (Q:L2.St->Hp->Prop):Prop
 | mk (ρ:List Addr) (σp:PSt) (h:MH) (v:PV) (rs:RS X.K ρ H σp σ) (rh:RH X.K X.mg ρ H h) (rv:RP X.K ρ H v v') (q:ly X ρ H (g v σp h) Q):tG X g v' σ H Q
def MG(X:Cx)(tg:Expr)(g:Mg):Prop:=PG X tg (tG X g)
def PG.imp(h:PG X e t)(i:∀v σ H Q,t' v σ H Q->t v σ H Q):PG X e t':=fun Il s σ H v u Q I r q=>h Il s σ H v u Q I r (i v σ H Q q)
def gNm(i:Nat):Mg:=fun v σ h=>.nx (σ.set i (some v)) h
def tP(g:Good X N W G k)(i:Nat)(hi:N[i]?=some x)(hw:W[i]?=some x):MG X (.Name x pos) (gNm i) :=
 PG.imp (sE (by rw[g.hN];exact g.nd) (g.x hi) (g.loc x (bn hi)) (g.fn x (bn hw))) fun v' σ H Q ⟨ρ,σp,h,v,rs,rh,rv,q⟩=>q ρ H _ (Le.refl _ _) rh (rs.set i rv)
abbrev Mgs:=List PV->Mst
inductive tGs (X:Cx) (g:Mgs) (v':List V) (σ:L2.St) (H:Hp) (Q:L2.St->Hp->Prop):Prop
 | mk (ρ:List Addr) (σp:PSt) (h:MH) (v:List PV) (rs:RS X.K ρ H σp σ) (rh:RH X.K X.mg ρ H h) (rv:RPs X.K ρ H v v') (q:ly X ρ H (g v σp h) Q):tGs X g v' σ H Q
def MGs(X:Cx)(tg:List Expr)(g:Mgs):Prop:=PGs X tg (tGs X g)
def PGs.imp(h:PGs X e t)(i:∀v σ H Q,t' v σ H Q->t v σ H Q):PGs X e t':=fun Il s σ H v u Q I r q=>h Il s σ H v u Q I r (i v σ H Q q)
def gNl:Mgs:=fun vs σ h=>match vs with
 | []=>.nx σ h
 | _=>.bad
def gCn(a:Mg)(r:Mgs):Mgs:=fun vs σ h=>match vs with
 | v::vr=>(a v σ h).then (r vr)
 | []=>.bad
def ng:MGs X [] gNl:=PGs.imp pgs_nil fun v' σ H Q ⟨ρ,σp,h,v,rs,rh,rv,q⟩=>by
 cases rv with
 | nil=>exact⟨rfl,q ρ H σ (Le.refl _ _) rh rs⟩
 | cons _ _=>exact q.elim
def gS(h1:MG X e a)(h2:MGs X es r)
  (hs:(assignEach (e::es) X.env).map (·.2)=assign e X.env::(assignEach es X.env).map (·.2):=by rfl):MGs X (e::es) (gCn a r) :=
 PGs.imp (wI h1 h2 hs) fun v' σ H Q ⟨ρ,σp,h,v,rs,rh,rv,q⟩=>by
  cases rv with
  | nil=>exact q.elim
  | @cons x y xs ys rx rr =>
   refine⟨_,_,rfl,ρ,σp,h,x,rs,rh,rx,?_⟩;dsimp only[gCn] at q
   cases e:a x σp h with
   | nx σ1 h1=>rw[e] at q;exact fun ρ' H' σ' l r1 s1=>⟨ρ',σ1,h1,xs,s1,r1,rr.le l,ly.le l q⟩
   | exc x1 σ1 h1=>rw[e] at q;exact q
   | _=>rw[e] at q;exact q
def gTp(r:Mgs)(n:Nat):Mg:=fun v σ h=>match v with
 | .tup xs=>if xs.length=n then r xs σ h else .bad
 | _=>.bad
def qW(g:Good X N W G k){es:List Expr}{j:Nat}{r:Mgs}{n:Nat}{pos:Pos}(h:MGs X es r)(hn:(assignEach es X.env).length=n:=by rfl)(hst:(assignEach es X.env).findIdx? (·.1)=none:=by rfl) :
  MG X (.Tuple es j pos) (gTp r n) :=
 PG.imp (pg_tup g.calm h hn hst) fun v' σ H Q ⟨ρ,σp,h,v,rs,rh,rv,q⟩=>by
  cases rv with
  | tup s rr =>
   dsimp only[gTp] at q
   split at q
   ·rename_i hl
    exact⟨_,_,rfl,s,by rw[<-rr.length];exact hl,ρ,σp,h,_,rs,rh,rr,q⟩
   ·exact q.elim
  | _=>exact q.elim
def jG(m:Mx PV)(g:Mg):Mst:=mEx m fun v σ h=>match g v σ h with
 | .nx σ2 h2=>.nx σ2 h2
 | .exc x σ2 h2=>.exc x σ2 h2
 | _=>.bad
def mJ{tg e:Expr}{m:Mx PV}{g:Mg}{pos:Pos}(he:ME X e m)(hg:MG X tg g)(hs:swapsWithSole [tg] e pos.line X.env=pure false:=by rfl)(hw:swappedStores [tg] e X.env=pure none:=by rfl)
  (h1:(assignEach [tg] X.env).map (·.2)=[assign tg X.env]:=by rfl):MS X (.Assign [tg] e pos) (jG m g) :=
 PS.imp (ps_asg he hg hs hw h1) fun D σ H ⟨ρ,σp,h,rs,rh,q⟩=>⟨ρ,σp,h,rs,rh,bC.ex q fun ρ1 H1 v v' h1 l r z w=>⟨ρ1,σp,h1,v,rs.le l,r,z,by
  cases e:g v σp h1 with
  | nx σ2 h2=>rw[e] at w;exact w
  | exc x σ2 h2=>rw[e] at w;exact w
  | _=>rw[e] at w;exact w⟩⟩
def mPar(i j:Nat)(m:Mx (List PV)):Mst:=mEx m fun vs σ h=>match vs with
 | [v,w]=>.nx ((σ.set i (some v)).set j (some w)) h
 | _=>.bad
def ms_par(g:Good X N W G k)(i j:Nat)(hi:N[i]?=some x)(hj:N[j]?=some y)(hij:i≠j)(ha:MA X [a,b] m)
  (hx:X.env.scope.names.lookup x=some .local) (hy:X.env.scope.names.lookup y=some .local)
  (hw:swappedStores [.Tuple [.Name x px,.Name y py] kt pt] (.Tuple [a,b] k2 pt2) X.env=pure (some [x,y]))
  (hs:swapsWithSole [.Tuple [.Name x px,.Name y py] kt pt] (.Tuple [a,b] k2 pt2) pos.line X.env=pure false:=by rfl) :
  MS X (.Assign [.Tuple [.Name x px,.Name y py] kt pt] (.Tuple [a,b] k2 pt2) pos) (mPar i j m) :=
 PS.imp (ps_par g.calm (by rw[g.hN];exact g.nd) (g.x hi) (g.x hj) hij hx hy ha hw hs) fun D σ H ⟨ρ,σp,h,rs,rh,q⟩=>⟨ρ,σp,h,rs,rh,bC.ex q fun ρ1 H1 v v' h1 l r z w=>by
  cases z with
  | nil=>exact w.elim
  | cons z1 z =>
   cases z with
   | nil=>exact w.elim
   | cons z2 z =>
    cases z with
    | nil=>exact⟨_,_,rfl,w ρ1 H1 _ (Le.refl _ _) r (((rs.le l).set i z1).set j z2)⟩
    | cons _ _=>exact w.elim⟩
def lF(o i v:PV)(h:MH):Option MH:=match o,i with
 | .loc n,.int j=>(match h[n]? with
  | some (.lst xs)=>(ixN xs.length j).map fun p=>h.set n (.lst (xs.set p v))
  | _=>none)
 | _,_=>none
def gSb(mo mi:Mx PV):Mg:=fun v=>mEx mo fun o=>mEx mi fun i σ h=>match lF o i v h with
 | some h2=>.nx σ h2
 | none=>.bad
def md(ho:ME X o mo)(hi:ME X i mi)
  (ha:∀v,assign (.Subscript o i pos) X.env v=(do
   let ov <-holding [v] (eval o X.env)
   let iv <-holding [v,ov] (eval i X.env)
   standAt pos
   holding [v,ov,iv] (setItem ov iv v)
   release [v,ov,iv] []):=by intro _;rfl):MG X (.Subscript o i pos) (gSb mo mi) :=
 PG.imp (pg_sub ho hi xD ha) fun v' σ H Q ⟨ρ,σp,h,v,rs,rh,rv,q⟩=>by
  refine⟨ρ,σp,h,rs,rh,?_⟩;unfold gSb mEx at q
  cases e:mo σp h with
  | exc x h1=>rw[e] at q;exact q
  | bad=>rw[e] at q;exact q
  | ok ov h1 =>
   rw[e] at q;intro ρ1 H1 o' l1 rh1 ro;refine⟨ρ1,σp,h1,rs.le l1,rh1,?_⟩;dsimp only at q
   cases e2:mi σp h1 with
   | exc x h2=>rw[e2] at q;exact XP.le (X:=X) (σp:=σp) (x:=x) (h:=h2) l1 q
   | bad=>rw[e2] at q;exact q
   | ok iv h2 =>
    rw[e2] at q;intro ρ2 H2 i' l2 rh2 ri;dsimp only at q;have ro2:=ro.le l2;have rv2:=(rv.le l1).le l2;unfold lF at q
    cases ro2 with
    | @loc n a en =>
     cases ri with
     | int j =>
      dsimp only at q;obtain⟨ob,eo,rob⟩:=rh2.obj en;rw[eo] at q
      cases ob with
      | dic fz ks xs=>exact q.elim
      | exc x=>exact q.elim
      | lst xs =>
       obtain⟨ys,ey,ry⟩:=rob;dsimp only at q
       cases ep:ixN xs.length j with
       | none=>rw[ep] at q;exact q.elim
       | some p =>
        rw[ep] at q;refine⟨a,ys,j,p,rfl,rfl,ey,by rw[<-ry.length];exact ep,?_⟩;obtain⟨r3,l3⟩:=rh2.put en (o:=.lst (xs.set p v)) (ho:=.lst (ys.set p v')) ⟨_,rfl,RPs.set rv2 p ry⟩;exact q ρ2 _ σ (l1.trans (l2.trans l3)) r3 (rs.le (l1.trans (l2.trans l3)))
     | _=>exact q.elim
    | _=>exact q.elim
structure MIt where
 xs:List PV
 gd:List (Nat × List PV):=[]
def MIt.ok(it:MIt)(h:MH):Prop:=∀p∈it.gd,h[p.1]?=some (.lst p.2)
def lg(X:Cx):Rl MIt It:=fun ρ0 H0 it J=>∀ρ H h (i:Nat),Le ρ0 H0 ρ H->RH X.K X.mg ρ H h->it.ok h ->
 (i<it.xs.length->J.go i H/\∀x' H',J.yld i H x' H'->∃ρ' x,Le ρ H ρ' H'/\RH X.K X.mg ρ' H' h/\it.xs[i]?=some x/\RP X.K ρ' H' x x')/\(it.xs.length<=i->J.stop i H)
def MI(X:Cx)(tg iter:Expr)(m:Mx MIt):Prop:=PI X tg iter (tM X (lg X) m)
def PI.imp(h:PI X tg e t)(i:∀σ H Q,t' σ H Q->t σ H Q):PI X tg e t':=fun Il s σ H Q I q=>h Il s σ H Q I (i σ H Q q)
def mGo(it:MIt)(g:Mg)(b:Mst):List PV->Mst
 | []=>fun σ h=>if it.ok h then .nx σ h else .bad
 | x::r=>fun σ h=>if it.ok h then (match g x σ h with
   | .nx σ1 h1=>(match b σ1 h1 with
    | .nx σ2 h2=>mGo it g b r σ2 h2
    | .ct σ2 h2=>mGo it g b r σ2 h2
    | .bk σ2 h2=>.nx σ2 h2
    | .rt v h2=>.rt v h2
    | .exc e σ2 h2=>.exc e σ2 h2
    | .rse e σ2 h2=>.rse e σ2 h2
    | .bad=>.bad)
   | .exc e σ1 h1=>.exc e σ1 h1
   | _=>.bad) else .bad
def gh(mi:Mx MIt)(g:Mg)(b:Mst):Mst:=mEx mi fun it=>mGo it g b it.xs
def lM(gd:Good X N W G k)(hi:MI X tg iter mi)(hg:MG X tg g)(hb:MSs X body mb)
  (hs:∀x,foldedSetIterable iter X.env x=pure x:=by intro _;rfl):MS X (.For tg iter body [] pos) (gh mi g mb):=by
 refine PS.imp (ps_for gd.po gd.calm hi hg hb hs) fun D σ H ⟨ρ,σp,h,rs,rh,q⟩=>⟨ρ,σp,h,rs,rh,bC.ex q fun ρ1 H1 it J h1 l1 rh1 jr w=>?_⟩;refine⟨fun i m σ H=>m=it.xs.length - i/\i<=it.xs.length/\∃ρ σp h,Le ρ1 H1 ρ H/\RS X.K ρ H σp σ/\RH X.K X.mg ρ H h/\bC X ρ H (mGo it g mb (it.xs.drop i) σp h) D,⟨_,rfl,qbl _,ρ1,σp,h1,Le.refl _ _,rs.le l1,rh1,w⟩,?_⟩;rintro i m σ2 H2 ⟨rfl,hi,ρ2,σp2,h2,l2,rs2,rh2,w2⟩;by_cases hlt:i<it.xs.length
 ·have ed:it.xs.drop i=it.xs[i]::it.xs.drop (i+1):=qcf hlt;rw[ed] at w2;unfold mGo at w2
  split at w2
  ·rename_i hok
   obtain⟨j1,j2⟩:=jr ρ2 H2 h2 i l2 rh2 hok;obtain⟨go,yl⟩:=j1 hlt;refine .inr ⟨go,fun σ3 H3=>∃ρ3 σp3 h3,Le ρ1 H1 ρ3 H3/\RS X.K ρ3 H3 σp3 σ3/\RH X.K X.mg ρ3 H3 h3/\bC X ρ3 H3 (mGo it g mb (it.xs.drop (i+1)) σp3 h3) D,fun σ3 H3 z=>⟨_,by ext,rfl,hlt,z⟩,fun x' H' y=>?_⟩;obtain⟨ρ',x,l',rh',ex,rx⟩:=yl x' H' y;have ex':x=it.xs[i]:=by rw[qae hlt] at ex;exact (Option.some.inj ex).symm
   subst ex';refine⟨ρ',σp2,h2,_,rs2.le l',rh',rx,?_⟩;have w2':=bC.le l' w2
   cases eg:g it.xs[i] σp2 h2 with
   | nx σ4 h4 =>
    rw[eg] at w2';intro ρ5 H5 σ5 l5 r5 s5;refine⟨ρ5,σ4,h4,s5,r5,?_⟩;have w3:=bC.le l5 w2';have l6:Le ρ1 H1 ρ5 H5:=l2.trans (l'.trans l5);dsimp only at w3
    cases em:mb σ4 h4 with
    | nx σ6 h6=>rw[em] at w3;exact fun ρ7 H7 σ7 l7 r7 s7=>⟨ρ7,σ6,h6,l6.trans l7,s7,r7,bC.le l7 w3⟩
    | ct σ6 h6=>rw[em] at w3;exact fun ρ7 H7 σ7 l7 r7 s7=>⟨ρ7,σ6,h6,l6.trans l7,s7,r7,bC.le l7 w3⟩
    | bk σ6 h6=>rw[em] at w3;exact w3
    | rt v h6=>rw[em] at w3;exact w3
    | exc e σ6 h6=>rw[em] at w3;exact w3
    | rse e σ6 h6=>rw[em] at w3;exact w3
    | bad=>rw[em] at w3;exact w3
   | exc e σ4 h4=>rw[eg] at w2';exact w2'
   | _=>rw[eg] at w2';exact w2'.elim
  ·exact w2.elim
 ·have e:i=it.xs.length:=by ext
  rw[e,List.drop_length] at w2;unfold mGo at w2
  split at w2
  ·rename_i hok
   obtain⟨j1,j2⟩:=jr ρ2 H2 h2 i l2 rh2 hok;exact .inl ⟨j2 (by ext),w2 ρ2 H2 σ2 (Le.refl _ _) rh2 rs2⟩
  ·exact w2.elim
def itSeq(v:PV)(h:MH):Out MIt:=match v with
 | .loc n=>(match h[n]? with
  | some (.lst xs)=>.ok ⟨xs,[(n,xs)]⟩ h
  | _=>.bad)
 | .frl xs=>.ok ⟨xs,[]⟩ h
 | _=>.bad
def mItL(m:Mx PV):Mx MIt:=fun σ h=>(m σ h).bind itSeq
def sO(hS:∀ρ' H' h,Le ρ H ρ' H'->RH X.K X.mg ρ' H' h->(⟨xs,gd⟩:MIt).ok h->∃ys,SqL X.K H' a ys/\RPs X.K ρ' H' xs ys):lg X ρ H ⟨xs,gd⟩ (Itl X.K a):=by
 intro ρ' H' h i l rh ok;obtain⟨ys,hs,rs⟩:=hS ρ' H' h l rh ok;refine⟨fun hi=>?_,fun hi=>⟨ys,hs,by rw[<-rs.length];exact hi⟩⟩;have hx:xs[i]?=some (xs[i]'hi):=qae hi;obtain⟨y,ey,ry⟩:=rs.get hx;refine⟨⟨ys,y,hs,ey⟩,fun x' H2 ⟨e,z⟩=>?_⟩;subst e
 have:ys[i]?=some x':=z ys hs
 rw[ey] at this;cases this;exact⟨ρ',_,Le.refl _ _,rh,hx,ry⟩
def mi_list(hl:ME X l m):MI X tg l (mItL m) :=
 PI.imp (pi_list hl) fun σ H Q ⟨ρ,σp,h,rs,rh,q⟩=>⟨ρ,σp,h,rs,rh,Ful.bind q fun ρ1 H1 x x' h1 _ l1 rh1 rx q1=>by
  cases rx with
  | @loc n a e =>
   obtain⟨ob,eo,rob⟩:=rh1.obj e;dsimp only[itSeq] at q1;rw[eo] at q1
   cases ob with
   | dic fz ks xs=>exact q1.elim
   | exc x=>exact q1.elim
   | lst xs =>
    obtain⟨ys,ey,ry⟩:=rob;refine⟨a,rfl,⟨ys,SqL.of ey⟩,q1 ρ1 H1 _ (Le.refl _ _) rh1 (sO fun ρ' H' h' l rh' ok=>?_)⟩;obtain⟨ys',ey',ry'⟩:=rh'.at' n a _ (l.get e) (ok (n,xs) (by simp));exact⟨ys',SqL.of ey',ry'⟩
  | frl s r =>
   exact⟨_,rfl,⟨_,s.sq⟩,q1 ρ1 H1 _ (Le.refl _ _) rh1 (sO fun ρ' H' h' l rh' ok=>⟨_,(l.sqf s).sq,r.le l⟩)⟩
  | _=>exact q1.elim⟩
def mItT(m:Mx PV):Mx MIt:=fun σ h=>(m σ h).bind fun v h1=>match v with
 | .tup xs=>.ok ⟨xs,[]⟩ h1
 | _=>.bad
def mi_tup(hl:ME X l m):MI X tg l (mItT m) :=
 PI.imp (pi_tup hl) fun σ H Q ⟨ρ,σp,h,rs,rh,q⟩=>⟨ρ,σp,h,rs,rh,Ful.bind q fun ρ1 H1 x x' h1 _ l1 rh1 rx q1=>by
  cases rx with
  | @tup xs a ys s r =>
   refine⟨_,rfl,⟨_,s⟩,q1 ρ1 H1 _ (Le.refl _ _) rh1 ?_⟩;intro ρ' H' h' i l rh' ok;have s':=l.sqt s;have r':=r.le l;refine⟨fun hi=>?_,fun hi=>⟨ys,s',by rw[<-r.length];exact hi⟩⟩;have hx:xs[i]?=some (xs[i]'hi):=qae hi;obtain⟨y,ey,ry⟩:=r'.get hx;refine⟨⟨ys,y,s',ey⟩,fun x' H2 ⟨e,z⟩=>?_⟩;subst e
   have:ys[i]?=some x':=z ys s'
   rw[ey] at this;cases this;exact⟨ρ',_,Le.refl _ _,rh',hx,ry⟩
  | _=>exact q1.elim⟩
def bQ(lo:Int)(n:Nat):List PV:=(List.range n).map fun (i:Nat)=>PV.int (lo+(i:Int))
def uH(lo:Int)(n:Nat):(bQ lo n).length=n:=by simp[bQ]
def Itr_rel(lo:Int)(n:Nat):lg X ρ H ⟨bQ lo n,[]⟩ (Itr lo n):=by
 intro ρ' H' h i l rh ok;have hl:(bQ lo n).length=n:=uH lo n;refine⟨fun hi=>⟨by rw[hl] at hi;exact hi,fun x' H2 ⟨e1,e2⟩=>?_⟩,fun hi=>by rw[hl] at hi;exact hi⟩;subst e1;subst e2;rw[hl] at hi;exact⟨ρ',.int (lo+i),Le.refl _ _,rh,by simp[bQ,hi],.int _⟩
def fj(m:Mx (List PV)):Mx MIt:=fun σ h=>(m σ h).bind fun vs h1=>match vs with
 | [.int j]=>if -(2 ^ 62)<=j/\j<2 ^ 62 then .ok ⟨bQ 0 j.toNat,[]⟩ h1 else .bad
 | _=>.bad
def nP(hg:Gl X "range")(hm:X.mg "range"=none)(ha:MA X [a] m)(hs:starEach [a] X.env=[(false,eval a X.env)]:=by rfl):MI X tg (.Call (.Name "range" p) [a] [] pos) (fj m):=by
 refine PI.imp (wv hg hm ha hs) fun σ H Q ⟨ρ,σp,h,rs,rh,q⟩=>⟨ρ,σp,h,rs,rh,Ful.bind q fun ρ1 H1 x x' h1 _ l1 rh1 rx q1=>?_⟩
 cases rx with
 | nil=>exact q1.elim
 | cons r1 t1 =>
  cases t1 with
  | nil =>
   cases r1 with
   | int j =>
    dsimp only at q1
    split at q1
    ·rename_i hj
     exact⟨j,rfl,hj.1,hj.2,q1 ρ1 H1 _ (Le.refl _ _) rh1 (Itr_rel 0 j.toNat)⟩
    ·exact q1.elim
   | _=>exact q1.elim
  | cons r2 t2=>cases r1 <;> exact q1.elim
def cj(c:Mx Bool)(b:Mst):Nat->Mst
 | 0=>fun _ _=>.bad
 | n+1=>mEx c fun x=>if x=true then (fun σ h=>match b σ h with
   | .nx σ2 h2=>cj c b n σ2 h2
   | .ct σ2 h2=>cj c b n σ2 h2
   | .bk σ2 h2=>.nx σ2 h2
   | .rt v h2=>.rt v h2
   | .exc e σ2 h2=>.exc e σ2 h2
   | .rse e σ2 h2=>.rse e σ2 h2
   | .bad=>.bad) else mSkip
def mWh(c:Mx Bool)(b:Mst):Mst:=fun σ h=>if z:∃n,cj c b n σ h≠.bad then cj c b (Classical.choose z) σ h else .bad
def jS:∀{n:Nat} {σ:PSt} {h:MH},cj c b n σ h≠.bad->cj c b (n+1) σ h=cj c b n σ h
 | 0,_,_,q=>absurd rfl q
 | n+1,σ,h,q=>by
  rw[cj] at q
  conv=>lhs;rw[cj]
  conv=>rhs;rw[cj]
  unfold mEx at q ⊢
  cases e:c σ h with
  | exc x h1=>rfl
  | bad=>rfl
  | ok x h1 =>
   rw[e] at q;dsimp only at q ⊢
   cases x with
   | false=>rfl
   | true =>
    simp only[if_true] at q ⊢
    cases em:b σ h1 with
    | nx σ2 h2=>rw[em] at q;exact jS q
    | ct σ2 h2=>rw[em] at q;exact jS q
    | _=>rfl
def tJ(q:cj c b n σ h≠.bad)(l:n<=m):cj c b m σ h=cj c b n σ h:=by
 induction l with
 | refl=>rfl
 | step l ih=>rw[jS (by rw[ih];exact q),ih]
def lS(q:cj c b n σ h≠.bad):mWh c b σ h=cj c b n σ h:=by
 have z:∃n,cj c b n σ h≠.bad:=⟨n,q⟩;unfold mWh;rw[dif_pos z];have q2:=Classical.choose_spec z;rcases Nat.le_total n (Classical.choose z) with l|l
 ·exact tJ q l
 ·exact (tJ q2 l).symm
def xn(gd:Good X N W G k)(hc:MT X c mc)(hb:MSs X body mb):MS X (.While c body [] pos) (mWh mc mb):=by
 refine PS.imp (yr gd.po hc hb) fun D σ H ⟨ρ,σp,h,rs,rh,q⟩=>?_;refine⟨fun m σ H=>∃ρ σp h,RS X.K ρ H σp σ/\RH X.K X.mg ρ H h/\bC X ρ H (cj mc mb m σp h) D,?_,?_⟩
 ·unfold mWh at q
  split at q
  ·exact⟨_,ρ,σp,h,rs,rh,q⟩
  ·exact q.elim
 ·rintro m σ1 H1 ⟨ρ1,σp1,h1,rs1,rh1,q1⟩
  cases m with
  | zero=>exact q1.elim
  | succ m =>
   rw[cj] at q1;refine⟨ρ1,σp1,h1,rs1,rh1,bC.ex q1 fun ρ2 H2 v v' h2 l2 r2 z w=>?_⟩;cases z
   cases v with
   | false=>rw[qaz qaR] at w ⊢;exact w ρ2 H2 σ1 (Le.refl _ _) r2 (rs1.le l2)
   | true =>
    rw[qan rfl] at w ⊢;refine⟨fun σ H=>∃ρ σp h,RS X.K ρ H σp σ/\RH X.K X.mg ρ H h/\bC X ρ H (cj mc mb m σp h) D,fun σ' H' z=>⟨m,qcp _,z⟩,ρ2,σp1,h2,rs1.le l2,r2,?_⟩
    cases em:mb σp1 h2 with
    | nx σ6 h6=>rw[em] at w;exact fun ρ7 H7 σ7 l7 r7 s7=>⟨ρ7,σ6,h6,s7,r7,bC.le l7 w⟩
    | ct σ6 h6=>rw[em] at w;exact fun ρ7 H7 σ7 l7 r7 s7=>⟨ρ7,σ6,h6,s7,r7,bC.le l7 w⟩
    | bk σ6 h6=>rw[em] at w;exact w
    | rt v h6=>rw[em] at w;exact w
    | exc e σ6 h6=>rw[em] at w;exact w
    | rse e σ6 h6=>rw[em] at w;exact w
    | bad=>rw[em] at w;exact w
def dE(f:PV->Option PyData):List PV->Option (List PyData)
 | []=>some []
 | x::r=>match f x,dE f r with
  | some d,some ds=>some (d::ds)
  | _,_=>none
def rd:Nat->MH->PV->Option PyData
 | 0,_,v=>(match v with
  | .non=>some .none
  | .bl b=>some (.bool b)
  | .int i=>some (.int i)
  | .str x=>some (.str x)
  | _=>none)
 | n+1,h,v=>(match v with
  | .non=>some .none
  | .bl b=>some (.bool b)
  | .int i=>some (.int i)
  | .str x=>some (.str x)
  | .tup xs=>(dE (rd n h) xs).map PyData.tuple
  | .frl xs=>(dE (rd n h) xs).map PyData.list
  | .loc m=>(match h[m]? with
   | some (.lst xs)=>(dE (rd n h) xs).map PyData.list
   | _=>none))
def iC{hp:Heap}{f:PV->Option PyData}{K:qab}{ρ:List Addr}{H:Hp}(hf:∀v v' u d,RP K ρ H v v'->aR v' u->f v=some d->∃as,Reads hp u d as) :
  ∀{xs:List PV} {ys:List V} {us:List Value} {ds:List PyData},RPs K ρ H xs ys->aI ys us->dE f xs=some ds->∃as,ReadsAll hp us ds as:=by
 intro xs
 induction xs with
 | nil =>
  intro ys us ds r v e;cases r;cases v;cases e;exact⟨_,.nil⟩
 | cons x xs ih =>
  intro ys us ds r v e;cases r with|cons r t=>cases v with|cons v w =>
  simp only[dE] at e
  split at e
  ·rename_i d ds' e1 e2
   cases e;obtain⟨a1,q1⟩:=hf _ _ _ _ r v e1;obtain⟨a2,q2⟩:=ih t w e2;exact⟨_,.cons q1 q2⟩
  ·cases e
def jt{Il:List (Addr × Obj)}{σ:L2.St}{H:Hp}{s:Shared}{ρ:List Addr}{h:MH}(I:Inv X Il σ H s)(rh:RH X.K X.mg ρ H h) :
  ∀(n:Nat) (v:PV) (v':V) (u:Value) (d:PyData),RP X.K ρ H v v'->aR v' u->rd n h v=some d->∃as,Reads s.heap u d as:=by
 intro n
 induction n with
 | zero =>
  intro v v' u d rp r e
  cases rp with
  | non=>cases e;cases r;exact⟨_,.none⟩
  | bl b=>cases e;cases r;exact⟨_,.bool b⟩
  | int i=>cases e;obtain⟨t,rfl⟩:=r;exact⟨_,.int i t⟩
  | str i=>cases e;obtain⟨t,rfl⟩:=r;exact⟨_,.str i t⟩
  | _=>cases e
 | succ n ih =>
  intro v v' u d rp r e
  cases rp with
  | non=>cases e;cases r;exact⟨_,.none⟩
  | bl b=>cases e;cases r;exact⟨_,.bool b⟩
  | int i=>cases e;obtain⟨t,rfl⟩:=r;exact⟨_,.int i t⟩
  | str i=>cases e;obtain⟨t,rfl⟩:=r;exact⟨_,.str i t⟩
  | @tup xs a ys s rr =>
   cases r;simp only[rd] at e
   cases q:dE (rd n h) xs with
   | none=>rw[q] at e;cases e
   | some ds =>
    rw[q] at e;cases e;obtain⟨its,rv,⟨o,e1,e2,m,e3⟩,_⟩:=I.tuple s;obtain⟨as,ra⟩:=iC (ih) rr rv q;exact⟨_,.tuple e1 e2 e3 (by simpa using ra)⟩
  | @frl xs a ys s rr =>
   cases r;simp only[rd] at e
   cases q:dE (rd n h) xs with
   | none=>rw[q] at e;cases e
   | some ds =>
    rw[q] at e;cases e;obtain⟨its,rv,⟨o,m,e1,e2,_,e3⟩,_⟩:=I.list s.sq;obtain⟨as,ra⟩:=iC (ih) rr rv q;exact⟨_,.list e1 e2 e3 (by simpa using ra)⟩
  | loc en =>
   cases r;simp only[rd] at e;obtain⟨ob,eo,rob⟩:=rh.obj en;rw[eo] at e
   cases ob with
   | dic fz ks xs=>cases e
   | exc x=>cases e
   | lst xs =>
    obtain⟨ys,ey,ry⟩:=rob;dsimp only at e
    cases q:dE (rd n h) xs with
    | none=>rw[q] at e;cases e
    | some ds =>
     rw[q] at e;cases e;obtain⟨its,rv,⟨o,m',e1,e2,_,e3⟩,_⟩:=I.list (SqL.of (K:=X.K) ey);obtain⟨as,ra⟩:=iC (ih) ry rv q;exact⟨_,.list e1 e2 e3 (by simpa using ra)⟩
def opEq(x y:PV)(h:MH):Out PV:=match rd 60 h x,rd 60 h y with
 | some a,some b=>if SeqAt.shaped a=true/\SeqAt.shaped b=true then .ok (.bl (PyData.eqv a b)) h else .bad
 | _,_=>.bad
def opNe(x y:PV)(h:MH):Out PV:=match rd 60 h x,rd 60 h y with
 | some a,some b=>if SeqAt.shaped a=true/\SeqAt.shaped b=true then .ok (.bl (!PyData.eqv a b)) h else .bad
 | _,_=>.bad
def mN(hr:Room k X.A):OpJ X (compareOp .Eq) opEq:=by
 intro Il s σ H x' y' u v Q I rx' ry' ⟨ρ,h,x,y,rh,rx,ry,q⟩;unfold opEq at q
 split at q
 ·rename_i a b ea eb
  split at q
  ·rename_i hs
   obtain⟨_,ra⟩:=jt I rh 60 x x' u a rx rx' ea;obtain⟨_,rb⟩:=jt I rh 60 y y' v b ry ry' eb;exact eq_dataH ra rb hs.1 hs.2 hr.units ⟨.bl _,H,I,rfl,q ρ H _ (Le.refl _ _) rh (.bl _)⟩
  ·exact q.elim
 ·exact q.elim
def o8(hr:Room k X.A):OpJ X (compareOp .NotEq) opNe:=by
 intro Il s σ H x' y' u v Q I rx' ry' ⟨ρ,h,x,y,rh,rx,ry,q⟩;unfold opNe at q
 split at q
 ·rename_i a b ea eb
  split at q
  ·rename_i hs
   obtain⟨_,ra⟩:=jt I rh 60 x x' u a rx rx' ea;obtain⟨_,rb⟩:=jt I rh 60 y y' v b ry ry' eb;exact ne_dataH ra rb hs.1 hs.2 hr.units ⟨.bl _,H,I,rfl,q ρ H _ (Le.refl _ _) rh (.bl _)⟩
  ·exact q.elim
 ·exact q.elim
def nt(f:Int->Int->PV):PV->PV->MH->Out PV:=fun x y h=>match x,y with
 | .int i,.int j=>.ok (f i j) h
 | _,_=>.bad
def oT(ho:OpR X F (rI0 f))(hfg:∀ρ H i j,RP X.K ρ H (g i j) (f i j)):OpJ X F (nt g):=by
 intro Il s σ H x' y' u v Q I rx' ry' ⟨ρ,h,x,y,rh,rx,ry,q⟩;unfold nt at q
 split at q
 ·cases rx;cases ry;exact ho Il s σ H _ _ u v Q I rx' ry' ⟨_,_,rfl,rfl,q ρ H _ (Le.refl _ _) rh (hfg ρ H _ _)⟩
 ·exact q.elim
def opLt:=nt fun i j=>.bl (decide (i<j))
def opGt:=nt fun i j=>.bl (decide (j<i))
def opGe:=nt fun i j=>.bl (decide (j<=i))
def oj_lt:OpJ X (compareOp .Lt) opLt:=oT op_lt fun _ _ _ _=>.bl _
def oj_gt:OpJ X (compareOp .Gt) opGt:=oT op_gt fun _ _ _ _=>.bl _
def oj_ge:OpJ X (compareOp .GtE) opGe:=oT op_ge fun _ _ _ _=>.bl _
def qY(neg:Bool):PV->PV->MH->Out PV:=fun x y h=>match y with
 | .non=>(match x with
  | .non=>.ok (.bl (!neg)) h
  | _=>.ok (.bl neg) h)
 | .bl b=>(match x with
  | .bl c=>.ok (.bl (if neg then !(c == b) else c == b)) h
  | .non=>.ok (.bl neg) h
  | .int _=>.ok (.bl neg) h
  | .str _=>.ok (.bl neg) h
  | .tup _=>.ok (.bl neg) h
  | _=>.bad)
 | _=>.bad
def opMul(x y:PV)(h:MH):Out PV:=match x,y with
 | .int i,.int j=>if IntMulOk i j then .ok (.int (i * j)) h else .bad
 | .loc n,.int j=>(match h[n]? with
  | some (.lst xs)=>if -(2 ^ 63)<=j/\j<2 ^ 63 then newL (List.flatten (List.replicate j.toNat xs)) h else .bad
  | _=>.bad)
 | _,_=>.bad
def opFd(x y:PV)(h:MH):Out PV:=match x,y with
 | .int i,.int j=>if j≠0 then .ok (.int (i.fdiv j)) h else .bad
 | _,_=>.bad
def opMod(x y:PV)(h:MH):Out PV:=match x,y with
 | .int i,.int j=>if j≠0 then .ok (.int (i.fmod j)) h else .bad
 | _,_=>.bad
def opPow(x y:PV)(h:MH):Out PV:=match x,y with
 | .int i,.int j=>if fH i j then .ok (.int (i ^ j.toNat)) h else .bad
 | _,_=>.bad
def opAdd(x y:PV)(h:MH):Out PV:=match x,y with
 | .int i,.int j=>.ok (.int (i+j)) h
 | .str a,.str b=>if a.length+b.length<=sizeLine then .ok (.str (a++b)) h else .bad
 | .loc n,.loc m=>(match h[n]?,h[m]? with
  | some (.lst xs),some (.lst ys)=>newL (xs++ys) h
  | _,_=>.bad)
 | .tup xs,.tup ys=>if xs≠[] then newT (xs++ys) h else .bad
 | _,_=>.bad
def opSub:=nt fun i j=>.int (i - j)
def opNeg(x:PV)(h:MH):Out PV:=match x with
 | .int i=>.ok (.int (-i)) h
 | _=>.bad
def oj_sub:OpJ X (binaryOp .Sub) opSub:=oT op_sub fun _ _ _ _=>.int _
def uj_neg:UnJ X (unaryOp .USub) opNeg:=by
 intro Il s σ H x' u Q I rx' ⟨ρ,h,x,rh,rx,q⟩
 cases rx with
 | int i=>exact un_neg Il s σ H _ u Q I rx' ⟨i,rfl,q ρ H _ (Le.refl _ _) rh (.int _)⟩
 | _=>exact q.elim
def pyl{Il:List (Addr × Obj)}{σ:L2.St}{H:Hp}{s:Shared}(hr:Room k X.A)(I:Inv X Il σ H s):PylongRoom (model X.prog X.w) X.A s:=by
 obtain⟨e,l,h1,h2,h3,h4,h5⟩:=I.ok.top;exact PylongRoom.of I.nolimit (by have:=hr.dp;show X.A.depth+100<_;ext) (SeerAt.of (I.ok.mod.seer.keeps I.bk) I.ok.tree (I.ok.frames.trans (congrArg some h1)) h2 h3 h4 h5)
def ue(hr:Room k X.A):OpJ X (binaryOp .FloorDiv) opFd:=by
 intro Il s σ H x' y' u v Q I rx' ry' ⟨ρ,h,x,y,rh,rx,ry,q⟩;unfold opFd at q
 split at q
 ·rename_i i j
  cases rx;cases ry;obtain⟨t,rfl⟩:=rx';obtain⟨t',rfl⟩:=ry';by_cases z:j≠0
  ·rw[qan z] at q;exact floordiv_int z ⟨.int _,H,I.tok _,⟨_,rfl⟩,q ρ H _ (Le.refl _ _) rh (.int _)⟩ (.inr (pyl hr I))
  ·rw[qaz z] at q;exact q.elim
 ·exact q.elim
def dP:OpJ X (binaryOp .Mod) opMod:=by
 intro Il s σ H x' y' u v Q I rx' ry' ⟨ρ,h,x,y,rh,rx,ry,q⟩;unfold opMod at q
 split at q
 ·rename_i i j
  cases rx;cases ry
  split at q
  ·rename_i hc
   obtain⟨t,rfl⟩:=rx';obtain⟨t',rfl⟩:=ry';exact mod_int' hc ⟨.int _,H,I.tok _,⟨_,rfl⟩,q ρ H _ (Le.refl _ _) rh (.int _)⟩
  ·exact q.elim
 ·exact q.elim
def qA:OpJ X (binaryOp .Pow) opPow:=by
 intro Il s σ H x' y' u v Q I rx' ry' ⟨ρ,h,x,y,rh,rx,ry,q⟩;unfold opPow at q
 split at q
 ·rename_i i j
  cases rx;cases ry
  split at q
  ·rename_i hc
   exact op_pow Il s σ H _ _ u v Q I rx' ry' ⟨i,j,rfl,rfl,hc,q ρ H _ (Le.refl _ _) rh (.int _)⟩
  ·exact q.elim
 ·exact q.elim
def dN:OpJ X (binaryOp .Add) opAdd:=by
 intro Il s σ H x' y' u v Q I rx' ry' ⟨ρ,h,x,y,rh,rx,ry,q⟩
 cases rx with
 | int i =>
  cases ry with
  | int j=>exact op_add Il s σ H _ _ u v Q I rx' ry' ⟨i,j,rfl,rfl,q ρ H _ (Le.refl _ _) rh (.int _)⟩
  | _=>exact q.elim
 | str a =>
  cases ry with
  | str b =>
   dsimp only[opAdd] at q
   split at q
   ·rename_i hl
    exact tZ Il s σ H _ _ u v Q I rx' ry' ⟨a,b,rfl,rfl,hl,q ρ H _ (Le.refl _ _) rh (.str _)⟩
   ·exact q.elim
  | _=>exact q.elim
 | @loc n a e =>
  cases ry with
  | @loc m b e2 =>
   dsimp only[opAdd] at q;obtain⟨o1,h1,r1⟩:=rh.obj e;obtain⟨o2,h2,r2⟩:=rh.obj e2;rw[h1,h2] at q
   cases o1 with
   | dic fz ks xs=>exact q.elim
   | exc x=>exact q.elim
   | lst xs =>
    cases o2 with
    | dic fz ks xs=>exact q.elim
    | exc x=>exact q.elim
    | lst ys =>
     obtain⟨xs',ex,rx1⟩:=r1;obtain⟨ys',ey,ry1⟩:=r2;obtain⟨z1,z2⟩:=kK rh (rx1.append ry1) q;exact op_cat Il s σ H _ _ u v Q I rx' ry' ⟨a,b,xs',ys',rfl,rfl,ex,ey,by rw[<-qbg];exact z1,z2⟩
  | _=>exact q.elim
 | tup s1 r1 =>
  cases ry with
  | tup s2 r2 =>
   dsimp only[opAdd] at q
   split at q
   ·rename_i hne
    obtain⟨z1,z2⟩:=tO rh (r1.append r2) q;refine op_catT Il s σ H _ _ u v Q I rx' ry' ⟨_,_,_,_,rfl,rfl,s1,s2,?_,by rw[<-qbg];exact z1,fun z=>?_,fun _=>z2⟩
    ·rintro rfl;cases r1;exact hne rfl
    ·subst z;cases r2;unfold newT at q
     split at q
     ·exact q ρ H _ (Le.refl _ _) rh (by rw[qbG];exact .tup s1 r1)
     ·exact q.elim
   ·exact q.elim
  | _=>exact q.elim
 | _=>cases ry <;> exact q.elim
def RPs.rep{K:qab}{ρ:List Addr}{H:Hp}{xs:List PV}{ys:List V}(r:RPs K ρ H xs ys):∀n:Nat,RPs K ρ H (List.replicate n xs).flatten (List.replicate n ys).flatten
 | 0=>.nil
 | n+1=>by rw[qaS,qaS,qbc,qbc];exact r.append (RPs.rep r n)
def eY:OpJ X (binaryOp .Mult) opMul:=by
 intro Il s σ H x' y' u v Q I rx' ry' ⟨ρ,h,x,y,rh,rx,ry,q⟩
 cases rx with
 | int i =>
  cases ry with
  | int j =>
   dsimp only[opMul] at q
   split at q
   ·rename_i hc
    obtain⟨t,rfl⟩:=rx';obtain⟨t',rfl⟩:=ry';exact PyProof.Rows.mul_int ⟨.int _,H,I.tok _,⟨_,rfl⟩,q ρ H _ (Le.refl _ _) rh (.int _)⟩ hc
   ·exact q.elim
  | _=>exact q.elim
 | @loc n a e =>
  cases ry with
  | int j =>
   dsimp only[opMul] at q;obtain⟨o1,h1,r1⟩:=rh.obj e;rw[h1] at q
   cases o1 with
   | dic fz ks xs=>exact q.elim
   | exc x=>exact q.elim
   | lst xs =>
    dsimp only at q
    split at q
    ·rename_i hj
     obtain⟨xs',ex,rx1⟩:=r1;obtain⟨z1,z2⟩:=kK rh (rx1.rep j.toNat) q;refine op_rep Il s σ H _ _ u v Q I rx' ry' ⟨a,j,xs',rfl,rfl,ex,hj.1,hj.2,?_,z2⟩;rw[sk] at z1;rw[qcB];exact z1
    ·exact q.elim
  | _=>exact q.elim
 | _=>cases ry <;> exact q.elim
def j8{Il:List (Addr × Obj)}{σ:L2.St}{H:Hp}{s:Shared}{Q:VK}{x':V}{u:Value}{b c:Bool}(I:Inv X Il σ H s)(r:aR x' u)(hp:plainIs u (.bool b)=true)(hc:(!(u == .bool b))=c)(q:Q (.bl c) H) :
  wpAny (model X.prog X.w) X.A (compareOp .IsNot u (.bool b)) (EP X Il σ Q) X.xe s:=by
 show wpAny _ _ (do return Value.bool (!(<-isSame u (.bool b)))) _ _ _;exact qad (wpAny_isSame_plain hp (qat (by rw[hc];exact⟨.bl c,H,I,rfl,q⟩)))
def oj_isn:OpJ X (compareOp .IsNot) (qY true):=by
 intro Il s σ H x' y' u v Q I rx' ry' ⟨ρ,h,x,y,rh,rx,ry,q⟩
 cases ry with
 | non =>
  refine op_notN Il s σ H _ _ u v Q I rx' ry' ⟨rfl,?_⟩;cases rx <;> exact q ρ H _ (Le.refl _ _) rh (by first | exact .bl true | exact .bl false)
 | bl b =>
  cases ry'
  cases rx with
  | non=>cases rx';exact j8 (x':=.non) (c:=true) I rfl (by cases b <;> rfl) (by cases b <;> rfl) (q ρ H _ (Le.refl _ _) rh (.bl true))
  | bl c=>cases rx';exact j8 (x':=.bl c) (c:=!(c == b)) I rfl (by cases b <;> cases c <;> rfl) (by cases b <;> cases c <;> rfl) (q ρ H _ (Le.refl _ _) rh (.bl _))
  | int i=>obtain⟨t,rfl⟩:=rx';exact j8 (x':=.int i) (c:=true) I ⟨_,rfl⟩ (by cases b <;> rfl) (by cases b <;> rfl) (q ρ H _ (Le.refl _ _) rh (.bl true))
  | str i=>obtain⟨t,rfl⟩:=rx';exact j8 (x':=.str i) (c:=true) I ⟨_,rfl⟩ (by cases b <;> rfl) (by cases b <;> rfl) (q ρ H _ (Le.refl _ _) rh (.bl true))
  | tup s1 r1=>cases rx';exact j8 (x':=.ref _) (c:=true) I rfl (by cases b <;> rfl) (by cases b <;> rfl) (q ρ H _ (Le.refl _ _) rh (.bl true))
  | _=>exact q.elim
 | _=>exact q.elim
def aH(x y:PV)(h:MH):Out PV:=match y with
 | .int i=>(match x with
  | .loc n=>(match h[n]? with
   | some (.lst xs)=>(match atI xs i with
    | some v=>.ok v h
    | none=>.bad)
   | _=>.bad)
  | .tup xs=>(match atI xs i with
   | some v=>.ok v h
   | none=>.bad)
  | .frl xs=>(match atI xs i with
   | some v=>.ok v h
   | none=>.bad)
  | .str z=>(match atI z.cps.toList i with
   | some c=>if z.length<=sizeLine then .ok (.str ⟨#[c]⟩) h else .bad
   | none=>.bad)
  | _=>.bad)
 | _=>.bad
def nc{K:qab}{ρ:List Addr}{H:Hp}{xs:List PV}{ys:List V}{i:Int}{v:PV}(r:RPs K ρ H xs ys)(e:atI xs i=some v):∃v',atI ys i=some v'/\RP K ρ H v v':=by
 unfold atI at e ⊢;rw[<-r.length]
 cases q:ixN xs.length i with
 | none=>rw[q] at e;cases e
 | some j =>
  rw[q] at e;exact r.get e
def me_ix{a b:Expr}{ma mb:Mx PV}{pos:Pos}(ha:ME X a ma)(hb:ME X b mb)(hs:iS b):ME X (.Subscript a b pos) (aj aH ma mb):=by
 refine PE.imp (pe_ix ix_seq ha hb hs) fun σ H Q q=>?_;obtain⟨ρ,σp,h,rs,rh,q⟩:=q;refine⟨ρ,σp,h,rs,rh,Ful.bind q fun ρ1 H1 x x' h1 _ l1 rh1 rx q1=>⟨ρ1,σp,h1,rs.le l1,rh1,Ful.bind q1 fun ρ2 H2 y y' h2 _ l2 rh2 ry q2=>?_⟩⟩;have rx2:=rx.le l2
 cases ry with
 | int i =>
  cases rx2 with
  | @loc n a e =>
   obtain⟨ob,eo,rob⟩:=rh2.obj e;dsimp only[aH] at q2;rw[eo] at q2
   cases ob with
   | dic fz ks xs=>exact q2.elim
   | exc x=>exact q2.elim
   | lst xs =>
    obtain⟨ys,ey,rr⟩:=rob;dsimp only at q2
    cases ea:atI xs i with
    | none=>rw[ea] at q2;exact q2.elim
    | some v =>
     rw[ea] at q2;obtain⟨v',e',rv⟩:=nc rr ea;exact .inl ⟨a,ys,i,v',rfl,rfl,SqL.of ey,e',q2 ρ2 H2 _ (Le.refl _ _) rh2 rv⟩
  | @tup xs a ys s1 rr =>
   dsimp only[aH] at q2
   cases ea:atI xs i with
   | none=>rw[ea] at q2;exact q2.elim
   | some v =>
    rw[ea] at q2;obtain⟨v',e',rv⟩:=nc rr ea;exact .inr (.inl ⟨_,_,i,v',rfl,rfl,s1,e',q2 ρ2 H2 _ (Le.refl _ _) rh2 rv⟩)
  | @frl xs a ys s1 rr =>
   dsimp only[aH] at q2
   cases ea:atI xs i with
   | none=>rw[ea] at q2;exact q2.elim
   | some v =>
    rw[ea] at q2;obtain⟨v',e',rv⟩:=nc rr ea;exact .inl ⟨_,_,i,v',rfl,rfl,s1.sq,e',q2 ρ2 H2 _ (Le.refl _ _) rh2 rv⟩
  | str z =>
   dsimp only[aH] at q2
   cases ea:atI z.cps.toList i with
   | none=>rw[ea] at q2;exact q2.elim
   | some c =>
    rw[ea] at q2;dsimp only at q2
    split at q2
    ·rename_i hz
     exact .inr (.inr ⟨z,i,c,rfl,rfl,hz,ea,q2 ρ2 H2 _ (Le.refl _ _) rh2 (.str _)⟩)
    ·exact q2.elim
  | _=>exact q2.elim
 | _=>exact q2.elim
def mCB(f:List PV->MH->Out PV)(m:Mx (List PV)):Mx PV:=fun σ h=>(m σ h).bind fun xs h1=>(f xs h1).ne
section
variable {x:Str} {id T:String} {e:Expr} {es:List Expr} {f:List PV→MH→Out PV} {m:Mx (List PV)} {p pos:Pos}
def tM_cb{σ:L2.St}{H:Hp}{Q:VK}(q:tM X (RV' X) (mCB f m) σ H Q):tCB (cJ X f) (tM X (RVs' X) m) σ H Q:=by
 obtain⟨ρ,σp,h,rs,rh,q⟩:=q;exact⟨ρ,σp,h,rs,rh,Ful.bind q fun ρ1 H1 x x' h1 _ l1 rh1 rx q1=>⟨ρ1,h1,x,rh1,rx,q1.zero⟩⟩
def pE(g:Good X N W G k)(j:Nat)(hj:G[j]?=some x)(hc:cO X (.builtin id) f)(hm:X.mg x=none)(hv:bootBuiltins x=some (.builtin id))(ha:MA X (e::es) m)
  (he:starEach (e::es) X.env=(false,eval e X.env)::starEach es X.env:=by rfl) (hpl:(backTo pos (starEach es X.env)).any (·.1)=false:=by rfl):ME X (.Call (.Name x p) (e::es) [] pos) (mCB f m) :=
 have d:=g.dbg x (qay _ (bn hj))
 PE.imp (qV hc (g.gl x (bn hj)) hm hv ha d.2.2 d.1 he hpl) fun _ _ _ q=>tM_cb q
def nW(g:Good X N W G k)(j:Nat)(hj:G[j]?=some x)(hc:cO X (.type T) f)(hm:X.mg x=none)(hv:bootBuiltins x=some (.type T))(ha:MA X (e::es) m)
  (he:starEach (e::es) X.env=(false,eval e X.env)::starEach es X.env:=by rfl) (hpl:(backTo pos (starEach es X.env)).any (·.1)=false:=by rfl):ME X (.Call (.Name x p) (e::es) [] pos) (mCB f m) :=
 have d:=g.dbg x (qay _ (bn hj))
 PE.imp (oI hc (g.gl x (bn hj)) hm hv ha d.2.2 d.1 he hpl) fun _ _ _ q=>tM_cb q
end
def fAbs(xs:List PV)(h:MH):Out PV:=match xs with
 | [.int i]=>.ok (.int (if i<0 then -i else i)) h
 | _=>.bad
def fMin(xs:List PV)(h:MH):Out PV:=match xs with
 | [.int i,.int j]=>.ok (.int (if j<i then j else i)) h
 | _=>.bad
def fInt(xs:List PV)(h:MH):Out PV:=match xs with
 | [.int i]=>.ok (.int i) h
 | [.bl b]=>.ok (.int (if b then 1 else 0)) h
 | _=>.bad
def fLen(xs:List PV)(h:MH):Out PV:=match xs with
 | [.loc n]=>(match h[n]? with
  | some (.lst ys)=>.ok (.int ys.length) h
  | _=>.bad)
 | [.tup ys]=>.ok (.int ys.length) h
 | [.frl ys]=>.ok (.int ys.length) h
 | [.str z]=>if z.length<=sizeLine then .ok (.int z.length) h else .bad
 | _=>.bad
def qO:cO X (.builtin "abs") fAbs:=by
 intro Il s σ H xs us Q I r ⟨ρ,h,ps,rh,rp,q⟩
 cases rp with
 | nil=>exact q.elim
 | cons r1 t1 =>
  cases t1 with
  | cons _ _=>cases r1 <;> exact q.elim
  | nil =>
   cases r1 with
   | int i=>exact xJ Il s σ H _ us Q I r ⟨i,rfl,q ρ H _ (Le.refl _ _) rh (.int _)⟩
   | _=>exact q.elim
def yu{f:List PV->MH->Out PV}{F:Int->Int->Int}{r:List V->Hp->VK->Prop}{V0:Value}(hf:∀i j h,f [.int i,.int j] h=.ok (.int (F i j)) h)(hb:∀xs h,(∀i j,xs≠[.int i,.int j])->f xs h=.bad)
  (hc:dY X V0 (fun xs H Q=>∃i j,xs=[.int i,.int j]/\Q (.int (F i j)) H)):cO X V0 f:=by
 intro Il s σ H xs us Q I r ⟨ρ,h,ps,rh,rp,q⟩;by_cases z:∃i j,ps=[.int i,.int j]
 ·obtain⟨i,j,rfl⟩:=z
  cases rp with
  | cons r1 t1=>cases t1 with
   | cons r2 t2 =>
    cases t2;cases r1;cases r2;rw[hf] at q;exact hc Il s σ H _ us Q I r ⟨i,j,rfl,q ρ H _ (Le.refl _ _) rh (.int _)⟩
 ·rw[hb ps h fun i j e=>z ⟨i,j,e⟩] at q;exact q.elim
def vO(g:Good X N W G k):cO X (.builtin "min") fMin:=yu (r:=fun _ _ _=>True) (F:=fun i j=>if j<i then j else i) (fun _ _ _=>rfl) (fun xs h z=>by unfold fMin;split <;> first | rfl | exact absurd rfl (z _ _)) (wA g.calm)
def cj_int:cO X (.type "int") fInt:=by
 intro Il s σ H xs us Q I r ⟨ρ,h,ps,rh,rp,q⟩
 cases rp with
 | nil=>exact q.elim
 | cons r1 t1 =>
  cases t1 with
  | cons _ _=>cases r1 <;> exact q.elim
  | nil =>
   cases r1 with
   | int i=>exact oG Il s σ H _ us Q I r (.inl ⟨i,rfl,q ρ H _ (Le.refl _ _) rh (.int _)⟩)
   | bl b=>exact oG Il s σ H _ us Q I r (.inr ⟨b,rfl,q ρ H _ (Le.refl _ _) rh (.int _)⟩)
   | _=>exact q.elim
def fU:cO X (.builtin "len") fLen:=by
 intro Il s σ H xs us Q I r ⟨ρ,h,ps,rh,rp,q⟩
 cases rp with
 | nil=>exact q.elim
 | cons r1 t1 =>
  cases t1 with
  | cons _ _=>cases r1 <;> exact q.elim
  | nil =>
   cases r1 with
   | @loc n a e =>
    obtain⟨ob,eo,rob⟩:=rh.obj e;dsimp only[fLen] at q;rw[eo] at q
    cases ob with
    | dic fz ks xs=>exact q.elim
    | exc x=>exact q.elim
    | lst xs =>
     obtain⟨ys,ey,rr⟩:=rob;exact jo Il s σ H _ us Q I r ⟨_,_,rfl,.inl ⟨ys,SqL.of ey,rfl⟩,by rw[<-rr.length];exact q ρ H _ (Le.refl _ _) rh (.int _)⟩
   | tup s1 rr=>exact jo Il s σ H _ us Q I r ⟨_,_,rfl,.inr ⟨_,s1,rfl⟩,by rw[<-rr.length];exact q ρ H _ (Le.refl _ _) rh (.int _)⟩
   | frl s1 rr=>exact jo Il s σ H _ us Q I r ⟨_,_,rfl,.inl ⟨_,s1.sq,rfl⟩,by rw[<-rr.length];exact q ρ H _ (Le.refl _ _) rh (.int _)⟩
   | str z =>
    dsimp only[fLen] at q
    split at q
    ·rename_i hz
     exact jo Il s σ H _ us Q I r ⟨_,_,rfl,⟨hz,rfl⟩,q ρ H _ (Le.refl _ _) rh (.int _)⟩
    ·exact q.elim
   | _=>exact q.elim
def tyP(h:MH):PV->Option String
 | .non=>some "NoneType"
 | .bl _=>some "bool"
 | .int _=>some "int"
 | .str _=>some "str"
 | .tup _=>some "tuple"
 | .frl _=>some "list"
 | .loc n=>match h[n]? with
  | some (.lst _)=>some "list"
  | some (.dic _ _ _)=>some "dict"
  | _=>none
def g9(t:String)(T:String):Bool:=t == T || (t == "bool" && T == "int")
def qZ(Ts:List String)(x:PV)(h:MH):Out PV:=match tyP h x with
 | some t=>.ok (.bl (Ts.any (g9 t))) h
 | none=>.bad
def okT(T:String):Prop:=∀K:qab,∀t∈["NoneType","bool","int","str","tuple","list","dict"],PySem.W.kitOne K (.type t) (.type T)=some (g9 t T)
def vw(h1:∀K,PySem.W.kitOne K (.type "NoneType") (.type T)=some (g9 "NoneType" T))(h2:∀K,PySem.W.kitOne K (.type "bool") (.type T)=some (g9 "bool" T))(h3:∀K,PySem.W.kitOne K (.type "int") (.type T)=some (g9 "int" T))
  (h4:∀K,PySem.W.kitOne K (.type "str") (.type T)=some (g9 "str" T)) (h5:∀K,PySem.W.kitOne K (.type "tuple") (.type T)=some (g9 "tuple" T)) (h6:∀K,PySem.W.kitOne K (.type "list") (.type T)=some (g9 "list" T))
  (h7:∀K,PySem.W.kitOne K (.type "dict") (.type T)=some (g9 "dict" T)):okT T:=by
 intro K t ht;simp only[qam,qbC,or_false] at ht;rcases ht with rfl|rfl|rfl|rfl|rfl|rfl|rfl
 ·exact h1 K
 ·exact h2 K
 ·exact h3 K
 ·exact h4 K
 ·exact h5 K
 ·exact h6 K
 ·exact h7 K
def okT_int:okT "int":=vw (fun _=>rfl) (fun _=>rfl) (fun _=>rfl) (fun _=>rfl) (fun _=>rfl) (fun _=>rfl) (fun _=>rfl)
def xm:okT "bool":=vw (fun _=>rfl) (fun _=>rfl) (fun _=>rfl) (fun _=>rfl) (fun _=>rfl) (fun _=>rfl) (fun _=>rfl)
def kitx_of{Il:List (Addr × Obj)}{σ:L2.St}{H:Hp}{s:Shared}{ρ:List Addr}{h:MH}{x:PV}{x':V}{u:Value}{t:String}(I:Inv X Il σ H s)(rh:RH X.K X.mg ρ H h)(rx:RP X.K ρ H x x')(ru:aR x' u)(e:tyP h x=some t) :
  t∈["NoneType","bool","int","str","tuple","list","dict"]/\u≠.builtin "__main__.__loader__#opaque"/\∃Hq,PySem.W.KitX X.K u (.type t) Hq/\Hq s.heap:=by
 cases rx with
 | non=>cases e;cases ru;exact⟨by simp,(fun z=>nomatch z),_,PySem.W.kitx_none,trivial⟩
 | bl b=>cases e;cases ru;exact⟨by simp,(fun z=>nomatch z),_,PySem.W.kitx_bool,trivial⟩
 | int i=>cases e;obtain⟨t,rfl⟩:=ru;exact⟨by simp,(fun z=>nomatch z),_,PySem.W.kitx_int,trivial⟩
 | str i=>cases e;obtain⟨t,rfl⟩:=ru;exact⟨by simp,(fun z=>nomatch z),_,PySem.W.kitx_str,trivial⟩
 | tup s1 r1 =>
  cases e;cases ru;obtain⟨its,rv,⟨o,e1,e2,_⟩,_⟩:=I.tuple s1;exact⟨by simp,(fun z=>nomatch z),_,PySem.W.kitx_tuple,⟨o,e1,e2⟩⟩
 | frl s1 r1 =>
  cases e;cases ru;obtain⟨its,rv,⟨o,m,e1,e2,_,e3⟩,_⟩:=I.list s1.sq;exact⟨by simp,(fun z=>nomatch z),_,PySem.W.kitx_list,⟨o,e1,e2⟩⟩
 | @loc n a en =>
  obtain⟨ob,eo,rob⟩:=rh.obj en;dsimp only[tyP] at e;rw[eo] at e;cases ru
  cases ob with
  | lst xs =>
   cases e;obtain⟨ys,ey,_⟩:=rob;obtain⟨its,rv,⟨o,m,e1,e2,_,e3⟩,_⟩:=I.list (SqL.of (K:=X.K) ey);exact⟨by simp,(fun z=>nomatch z),_,PySem.W.kitx_list,⟨o,e1,e2⟩⟩
  | dic fz ks xs =>
   cases e;obtain⟨zs,_,_,ey⟩:=rob;obtain⟨_,_,vs,_,p⟩:=im I.hok ey;obtain⟨o,es,ep,h1,h2,_⟩:=p;exact⟨by simp,(fun z=>nomatch z),_,PySem.W.kitx_dict,⟨o,h1,h2.1⟩⟩
  | exc x=>cases e
def me_isi(g:Good X N W G k){a:Expr}{m:Mx PV}{T:String}{c:Str}{i j:Nat}{p q pos:Pos}(hi:G[i]?=some "isinstance")(hm:X.mg "isinstance"=none)(hj:G[j]?=some c)(hc:X.mg c=none)(hv:bootBuiltins c=some (.type T))(hT:okT T)(ha:ME X a m)
  (he:starEach [a,.Name c q] X.env=(false,eval a X.env)::starEach [.Name c q] X.env:=by rfl) (he2:starEach [.Name c q] X.env=[(false,eval (.Name c q) X.env)]:=by rfl) (hpl:(backTo pos (starEach [.Name c q] X.env)).any (·.1)=false:=by rfl) :
  ME X (.Call (.Name "isinstance" p) [a,.Name c q] [] pos) (mUn (qZ [T]) m):=by
 have d1:=g.dbg _ (qay _ (bn hi));have d:=g.dbg c (qay _ (bn hj));have hcall:dY X (.builtin "isinstance") (fun xs H Q=>∃x',xs=[x',.ty T]/\uJ X (qZ [T]) x' H Q):=by
  intro Il s σ H xs us Q I r ⟨x',e,ρ,h,x,rh,rx,q⟩;subst e
  cases r with
  | cons r1 t1=>cases t1 with
   | cons r2 t2 =>
    cases t2;obtain rfl:=(show _=Value.type T from r2);unfold qZ at q
    cases et:tyP h x with
    | none=>rw[et] at q;exact q.elim
    | some t =>
     rw[et] at q;obtain⟨ht,hne,Hq,Z,hz⟩:=kitx_of I rh rx r1 et
     exact PySem.W.kia_one Z I.kIn hz (hT X.K t ht) hne fun tk=>⟨.bl _,H,I.tok _,rfl,by
      have q':=q ρ H _ (Le.refl _ _) rh (.bl _)
      simpa using q'⟩
 refine PE.imp (qV hcall (g.gl _ (bn hi)) hm PyProof.Rows.Boot.«isinstance» (ky ha (ky (pe_bltn (v:=.ty T) (u:=.type T) (g.gl c (bn hj)) hc hv rfl d.2.2 d.1) rc he2) he) d1.2.2 d1.1 he hpl) fun σ H Q ⟨ρ,σp,h,rs,rh,q⟩=>?_;exact⟨ρ,σp,h,rs,rh,Ful.bind q fun ρ1 H1 x x' h1 _ l1 rh1 rx q1=>⟨x',rfl,ρ1,h1,x,rh1,rx,q1.zero⟩⟩
def spM(K:qab)(mg:MGl)(F:List PV->MH->Out PV):Sp:=fun vs H Q E=>∃ρ ps h,RPs K ρ H ps vs/\RH K mg ρ H h/\match F ps h with
 | .ok v h'=>∀ρ' H' v',Le ρ H ρ' H'->RH K mg ρ' H' h'->RP K ρ' H' v v'->Q v' H'
 | .exc x h'=>∀C ρ' H',x.fs=[]->mg x.cls=some (.ref C)->Le ρ H ρ' H'->RH K mg ρ' H' h'->E (.ref C) none H'
 | .bad=>False
def CXm(P:Program)(w:World):CXT:=fun outer H s E e s'=>∃ea C H',e=.ref ea/\s'.os=s.os/\AllBare s'.gens/\Un (frs outer) [] H H' s.heap s'.heap/\HOk P w H' s'.heap/\Fly outer H' s.heap C ea s'.heap/\E (.ref C) none H'
structure Cal (X:Cx) (x:Str) (ps:List Str) (F:List PV->MH->Out PV) (k:Nat):Prop where
 ex:∃f fd,X.mg x=some (.ref f)/\PySem.W.keepIn X.K (.ref f)=true/\lO X.K fd ps []/\FnOk X.prog X.w X.K X.mg X.base (CXm X.prog X.w) k f fd ps (spM X.K X.mg F)
def Cal.to(c:Cal X x ps F i)(e1:Y.prog=X.prog)(e2:Y.w=X.w)(e3:Y.K=X.K)(e4:Y.mg=X.mg)(e5:Y.base=X.base):Cal Y x ps F i:=by
 obtain⟨f,fd,a,b,d,e⟩:=c.ex;refine⟨f,fd,by rw[e4];exact a,by rw[e3];exact b,by rw[e3];exact d,?_⟩;rw[e1,e2,e3,e4,e5];exact e
def aM(F:List PV->MH->Out PV)(m:Mx (List PV)):Mx PV:=fun σ h=>(m σ h).bind F
def tE(g:Good X N W G k){x:Str}{j:Nat}(hj:G[j]?=some x){ps:List Str}{F:List PV->MH->Out PV}(C:Cal X x ps F k){e:Expr}{es:List Expr}{m:Mx (List PV)}{p pos:Pos}(ha:MA X (e::es) m)
  (he:starEach (e::es) X.env=(false,eval e X.env)::starEach es X.env:=by rfl) (hpl:(backTo pos (starEach es X.env)).any (·.1)=false:=by rfl):ME X (.Call (.Name x p) (e::es) [] pos) (aM F m):=by
 obtain⟨f,fd,hm,hk,hb,F'⟩:=C.ex;have d:=g.dbg x (qay _ (bn hj));intro Il s σ H Q I ⟨ρ,σp,h,rs,rh,q⟩;refine wpAny_Call_Name_kw (sx I (g.gl x (bn hj)) hm ?_ d.1)
 refine PySem.W.callWith_K (h₀:=X.base) I.ok.mod.kin hk (thn (ha pos Il s σ H (fun vs H1=>∃ρ1 xs h1,Le ρ H ρ1 H1/\RH X.K X.mg ρ1 H1 h1/\RPs X.K ρ1 H1 xs vs/\Ful X (RV' X) σp ρ1 H1 (F xs h1) Q) I
  ⟨ρ,σp,h,rs,rh,Ful.bind q fun ρ1 H1 xs vs h1 _ l1 rh1 rx q1=>⟨ρ1,xs,h1,l1,rh1,rx,q1⟩⟩) fun us s1 ⟨vs,H1,I1,r,ρ1,xs,h1,l1,rh1,rx,q1⟩=>⟨I1.kIn,?_⟩) he hpl
 have run:∀E:XK,spM X.K X.mg F vs H1 Q E->(∀ea C H' s',s'.os=s1.os->AllBare s'.gens->Un (frs X.stack) [] H1 H' s1.heap s'.heap->HOk X.prog X.w H' s'.heap->Fly X.stack H' s1.heap C ea s'.heap->E (.ref C) none H'->X.xe (.ref ea) s') ->
   wpAny (model X.prog X.w) X.A (call (.ref f) us) (EP X Il σ Q) X.xe s1:=fun E hsp hE=>by
  have hl:(us++[]).length=ps.length:=by rw[qbG,<-r.length];exact F'.len _ _ _ _ hsp
  have hb1:=hb s1 us I1.kIn hl;rw[qbG] at hb1;refine wpAny_call (codeAny_mono (F'.run X.A X.stack s1 H1 ⟨us,[]⟩ us vs Q E g.room I1.env0 hb1 r hsp) fun r s' hq=>?_)
  cases r with
  | error e =>
   obtain⟨ea,C,H',rfl,a1,a2,a3,a4,a5,a6⟩:=hq;exact hE ea C H' s' a1 a2 a3 a4 a5 a6
  | ok fl =>
   cases fl with
   | ret u=>exact I1.after hq
   | next=>exact False.elim hq
   | brk=>exact False.elim hq
   | cont=>exact False.elim hq
 cases eF:F xs h1 with
 | bad=>rw[eF] at q1;exact q1.elim
 | ok v h' =>
  rw[eF] at q1;exact run (fun _ _ _=>False) ⟨ρ1,xs,h1,rx,rh1,by rw[eF];exact q1⟩ fun _ _ _ _ _ _ _ _ _ z=>z.elim
 | exc x' h' =>
  rw[eF] at q1;refine run (fun c _ H'=>∃C ρ',c=.ref C/\x'.fs=[]/\X.mg x'.cls=some (.ref C)/\Le ρ1 H1 ρ' H'/\RH X.K X.mg ρ' H' h') ⟨ρ1,xs,h1,rx,rh1,by rw[eF];exact fun C ρ' H' a b c d=>⟨C,ρ',rfl,a,b,c,d⟩⟩ fun ea C H' s' a1 a2 a3 a4 a5 a6=>?_;obtain⟨C',ρ',eC,b1,b2,b3,b4⟩:=a6;cases eC;have IX:=I1.call' (s':=s') (ch:=[]) a1 a3 a4 a2 (fun b z=>absurd z (by simp));have IX0:Inv X [] σ H' s':=Inv.unpinned (Il:=[]) (pl:=Il) IX;exact q1 ea C ρ' H' σ s' s1.heap b1 b2 b3 b4 (rs.le (l1.trans b3)) IX0 (Inv.bears I1) a5
def cD(n:Nat)(ps:List PV):PSt:=ps.map some++List.replicate (n - ps.length) none
def eM(n np:Nat)(m:Mst):List PV->MH->Out PV:=fun ps h=>if ps.length=np then (match m (cD n ps) h with
 | .nx _ h'=>.ok .non h'
 | .rt v h'=>.ok v h'
 | .exc x _ h'=>.exc x h'
 | .rse x _ h'=>.exc x h'
 | _=>.bad) else .bad
def wY{K:qab}{ρ:List Addr}{H:Hp}{N:List Str}{ps:List PV}{vs:List V}(r:RPs K ρ H ps vs):RS K ρ H (cD N.length ps) (L2.start N vs):=by
 have hl:=r.length;refine⟨by simp[cD,L2.start,hl],fun i v e=>?_⟩;unfold cD at e;by_cases hi:i<ps.length
 ·rw[qal (by simpa using hi),qap] at e
  cases q:ps[i]? with
  | none=>rw[q] at e;cases e
  | some x =>
   rw[q] at e;cases e;obtain⟨v',e',rv⟩:=r.get q;refine⟨v',?_,rv⟩;unfold L2.start;rw[qal (by simp;lia),qap,e'];rfl
 ·rw[qaF (by simpa using hi),qaZ] at e
  split at e <;> cases e
def wP{B h:Heap}(k:B.StaysIn h){b:Addr}{o ob:Obj}(e1:B.get? b=some ob)(e2:h.get? b=some o):ob=o:=by
 have:=k b ob e1
 rw[e2] at this;exact (Option.some.inj this).symm
def r9{X:Cx}{σ':L2.St}{H':Hp}{s':Shared}{h' B:Heap}(I:Inv X [] σ' H' s')(hex:X.ex=[])(hB:B.StaysIn s'.heap)(hB':B.StaysIn h')(sm:s'.heap.UpToSlots h')
  (cov:∀b o,X.s₀.heap.get? b=some o->b∉X.fs->∃ob,B.get? b=some ob) (cvH:∀b o,H' b=some o->∃ob,B.get? b=some ob):Un X.fs [] X.H₀ H' X.s₀.heap h'/\HOk X.prog X.w H' h':=by
 have nex:∀b:Addr,b∉X.ex:=fun b=>by rw[hex];simp
 have kp:∀b o ob,B.get? b=some ob->s'.heap.get? b=some o->h'.get? b=some o:=fun b o ob e1 e2=>by
  have:=wP hB e1 e2
  subst this;exact hB' b ob e1
 refine⟨⟨fun b o e n hf _=>?_,fun b o e n hf _=>?_,fun b o e n _=>I.base.free b o e n (nex b),fun b o e _=>?_,I.base.tups,I.base.frzs,I.base.tbls⟩,fun a o e=>?_⟩
 ·obtain⟨ob,eb⟩:=cov b o e hf;exact kp b o ob eb (I.base.keep b o e n hf (nex b))
 ·obtain⟨sl,e1⟩:=I.base.slot b o e n hf (nex b);obtain⟨_,oF,eF,dF⟩:=I.ok.funs.mem hf;rw[e] at eF;cases eF;obtain⟨sl',e2⟩:=sm b _ e1 (fun vs z=>dF vs z);exact⟨sl',e2⟩
 ·by_cases hf:b∈X.fs
  ·obtain⟨_,oF,eF,dF⟩:=I.ok.funs.mem hf;rw[e] at eF;cases eF;obtain⟨sl,e1⟩:=I.base.slot b o e (I.ok.frf b hf) hf (nex b);obtain⟨sl',e2⟩:=sm b _ e1 (fun vs z=>dF vs z);exact⟨_,e2⟩
  ·obtain⟨ob,eb⟩:=cov b o e hf;exact⟨ob,hB' b ob eb⟩
 ·refine (I.hok a o e).stay (fun b u hb z=>?_) (fun _ z=>z) fun _ _ z=>z;rcases hb with rfl|hb
  ·obtain⟨ob,eb⟩:=cvH _ _ e;exact kp _ u ob eb z
  ·obtain⟨ob,eb⟩:=cvH _ _ hb;exact kp _ u ob eb z
def _root_.L2.ObjOk.has(x:ObjOk P w H h a o):∃u,h.get? a=some u:=by
 cases o with
 | lst xs=>obtain⟨_,_,_,_,e⟩:=x;exact⟨_,e⟩
 | tup xs=>obtain⟨_,_,_,o,e,_⟩:=x;exact⟨o,e⟩
 | dK kvs=>obtain⟨_,_,_,_,o,_,_,e,_⟩:=x;exact⟨o,e⟩
 | dT kvs=>obtain⟨_,_,_,_,o,_,_,e,_⟩:=x;exact⟨o,e⟩
 | set S n=>obtain⟨o,_,_,_,e,_⟩:=x;exact⟨o,e⟩
 | ins C dx fs=>obtain⟨_,_,_,e,_⟩:=x;exact⟨_,e⟩
 | own y=>obtain⟨o,e⟩:=x;exact⟨o,e⟩
 | xd fs=>obtain⟨_,⟨o,_,_,e,_⟩,_⟩:=x;exact⟨o,e⟩
 | rng lo hi=>obtain⟨_,_,_,e⟩:=x;exact⟨_,e⟩
 | frz ob u=>obtain⟨e,_⟩:=x;exact⟨_,e⟩
 | tbl ps=>exact⟨_,(show h.get? a=some _ from x)⟩
 | met f y=>exact⟨_,(show h.get? a=some _ from x)⟩
 | ext φ=>obtain⟨_,⟨o,e⟩,_⟩:=x;exact⟨o,e⟩
structure DefCx (X:Cx):Prop where
 stk:X.stack=X.env::X.outer
 fr:X.env.frame=some X.env.locals
 ex:X.ex=[]
def fn_M{P:Program}{w:World}{K:qab}{mg:Str->Option Value}{base:Heap}{x qual:Str}{st:Stmt}{f:Addr}{fd:FuncData}{ps:List Str}{m:Mst}(Fu:Fun K x qual st f fd)(S:FnScope N ps (av st))
  (hl:∀y∈N,Loc (av st) y) (hgl:∀y∈G,(av st).names.lookup y=some .globalImplicit)
  (dbg:∀x∈N++G,(x == ("__debug__":Str))=false/\(x == ("__classdict__":Str))=false/\x≠"__name__")
  (hb:∀X:Cx,X.prog=P->X.w=w->X.K=K->X.mg=mg->X.base=base->X.env.scope=av st->Good X N N G k->DefCx X->MSs X (aK st) m) :
  FnOk P w K mg base (CXm P w) (k+1) f fd ps (spM K mg (eM N.length ps.length m)):=by
 have len:∀vs H Q E,spM K mg (eM N.length ps.length m) vs H Q E->vs.length=ps.length:=by
  rintro vs H Q E ⟨ρ,zs,h,r,rh,q⟩;rw[<-r.length];unfold eM at q;by_cases hp:zs.length=ps.length
  ·exact hp
  ·rw[qaz hp] at q;exact q.elim
 obtain⟨oc,od,kV,doc,pm,an,cdv,ct,osl,rfl,lk,hcd⟩:=Fu.ex;refine fn_of lk hcd S len fun A outer s H vs Q E hr hsp=>?_;obtain⟨ρ,zs,h,r,rh,q⟩:=hsp;refine⟨_,hb _ rfl rfl rfl rfl rfl rfl ⟨rfl,S.nd,hl,fun _ _=>.inl rfl,hgl,dbg,rfl,hr,PassesOwn.leaving⟩ ⟨rfl,rfl,rfl⟩,ρ,cD N.length zs,h,wY r,rh,?_⟩;unfold eM at q;by_cases hp:zs.length=ps.length
 ·rw[qan hp] at q
  cases e:m (cD N.length zs) h with
  | nx σ' h'=>rw[e] at q;exact fun ρ' H' σ' l r' s'=>q ρ' H' .non l r' .non
  | rt v h'=>rw[e] at q;exact q
  | bk σ h'=>rw[e] at q;exact q.elim
  | ct σ h'=>rw[e] at q;exact q.elim
  | bad=>rw[e] at q;exact q.elim
  | exc x σ h' =>
   rw[e] at q;intro ea C ρ' H' σ' s' lim hfs hmg l rh' rs' I' brs fly;obtain⟨B,t,hfl,hBH,hcov,hea⟩:=fly;refine wpAny_leaves_onW (base:=B) (env:=envOfC qual (av st) s.heap.objs.size f cdv) (outer:=outer) I'.ok.frames rfl hfl fun h'' hfl' sm=>?_;have hb1:∀b o,s.heap.get? b=some o->b∉frs outer->∃ob,B.get? b=some ob:=fun b o eb hf=>by
    obtain⟨o',e'⟩:=brs.old b o eb (by show b∉([]:List Addr);simp);refine hcov b o' e' fun hm=>?_;rcases qam.mp (I'.stkSub b hm) with z|z
    ·exact absurd (qaq eb) (by rw[z];exact qaY _)
    ·exact hf z
   obtain⟨un,hk'⟩:=r9 (B:=B) I' rfl hfl.1 hfl'.1 sm hb1 hBH;exact⟨ea,C,H',rfl,I'.os,I'.bare,un,hk',⟨B,t,hfl',hBH,hb1,hea⟩,q C ρ' H' hfs hmg l rh'⟩
  | rse x σ h' =>
   rw[e] at q;intro ea C ρ' H' σ' s' h0 args hfs hmg l rh' rs' I' made;have hst:=I'.stack;have hin:∀env∈(envOfC qual (av st) s.heap.objs.size f cdv::outer),∀b,env.frame=some b->b∈frs (envOfC qual (av st) s.heap.objs.size f cdv::outer):=fun env he b hb=>qcb.mpr ⟨env,he,hb⟩;refine wpAny_leaves_madeW (base:=PySem.W.hideAll h0 (frs (envOfC qual (av st) s.heap.objs.size f cdv::outer))) (h:=h0) (env:=envOfC qual (av st) s.heap.objs.size f cdv) (outer:=outer) I'.ok.frames rfl (fun b o z=>PySem.W.of_hideAll _ z)
    (PySem.W.funFrames_hide (base:=base) hst hin) made fun h'' t hfl' _ _ sm=>?_
   have sub:∀b,b∈frs (envOfC qual (av st) s.heap.objs.size f cdv::outer)->b=s.heap.objs.size\/b∈frs outer:=fun b hm=>qam.mp (I'.stkSub b hm);have hb1:∀b o,s.heap.get? b=some o->b∉frs outer->∃ob,(PySem.W.hideAll h0 (frs (envOfC qual (av st) s.heap.objs.size f cdv::outer))).get? b=some ob:=fun b o eb hf=>by
    obtain⟨o',e'⟩:=I'.base.there b o eb (by show b∉([]:List Addr);simp);refine⟨o',PySem.W.hideAll_get _ e' fun hm=>?_⟩;rcases sub b hm with z|z
    ·exact absurd (qaq eb) (by rw[z];exact qaY _)
    ·exact hf z
   have hBH:∀b o,H' b=some o->∃ob,(PySem.W.hideAll h0 (frs (envOfC qual (av st) s.heap.objs.size f cdv::outer))).get? b=some ob:=fun b o eb=>by
    have hlt:=I'.hok.lt eb;obtain⟨u,eu⟩:∃u,h0.get? b=some u:=(I'.hok b o eb).has;refine⟨u,PySem.W.hideAll_get _ eu fun hm=>?_⟩
    have:=I'.stkFree b hm
    rw[eb] at this;cases this
   have sm0:h0.UpToSlots h'':=(Heap.UpToSlots.of_keeps made.keeps).trans sm;obtain⟨un,hk'⟩:=r9 (B:=PySem.W.hideAll h0 (frs (envOfC qual (av st) s.heap.objs.size f cdv::outer))) I' rfl (fun b o z=>PySem.W.of_hideAll _ z) hfl'.1 sm0 hb1 hBH;have hea:H' ea=none:=by
    cases z:H' ea with
    | none=>rfl
    | some o =>
     obtain⟨u,eu⟩:=(I'.hok ea o z).has;rw[made.new] at eu;cases eu
   exact⟨ea,C,H',rfl,I'.os,I'.bare,un,hk',⟨_,t,hfl',hBH,hb1,hea⟩,q C ρ' H' hfs hmg l rh'⟩
 ·rw[qaz hp] at q;exact q.elim
def itAny(v:PV)(h:MH):Out MIt:=match v with
 | .loc n=>(match h[n]? with
  | some (.lst xs)=>.ok ⟨xs,[(n,xs)]⟩ h
  | _=>.bad)
 | .frl xs=>.ok ⟨xs,[]⟩ h
 | .tup xs=>.ok ⟨xs,[]⟩ h
 | _=>.bad
def fo(m:Mx PV):Mx MIt:=fun σ h=>(m σ h).bind itAny
def lZ(hl:ME X l m):MI X tg l (fo m):=by
 intro Il s σ H R I ⟨ρ,σp,h,rs,rh,q⟩;by_cases z:∃xs h1,m σp h=.ok (.tup xs) h1
 ·obtain⟨xs,h1,e⟩:=z;refine mi_tup (tg:=tg) hl Il s σ H R I ⟨ρ,σp,h,rs,rh,?_⟩;unfold fo at q;unfold mItT;rw[e] at q ⊢;exact q
 ·refine mi_list (tg:=tg) hl Il s σ H R I ⟨ρ,σp,h,rs,rh,?_⟩;unfold fo at q;unfold mItL
  cases e:m σp h with
  | ok v h1 =>
   rw[e] at q
   cases v with
   | tup xs=>exact absurd ⟨xs,h1,e⟩ z
   | _=>exact q
  | exc x h1=>rw[e] at q;exact q
  | bad=>rw[e] at q;exact q
def Inv.bigM{Il:List (Addr × Obj)}{σ:L2.St}{H:Hp}{s:Shared}(I:Inv X Il σ H s):sysModules<s.heap.objs.size:=by
 have h:mainGlobals<s.heap.objs.size:=(I.mod.glob.keeps I.bk).lt;exact qcC (by decide) h
def mDic:Mx PV:=fun _ h=>.ok (.loc h.length) (h++[.dic false [] []])
def me_dic0:ME X (.Dict [] [] pos) mDic:=fun Il s σ H Q I ⟨ρ,σp,h,rs,rh,q⟩=>by
 have hf:H s.heap.objs.size=none:=I.hok.fresh (qak _);obtain⟨r1,l1⟩:=rh.new hf (o:=.dic false [] []) (ho:=.dK []) ⟨[],rfl,.nil,rfl⟩;refine wpAny_Dict_empty ⟨.ref s.heap.objs.size,_,I.laid (a:=s.heap.objs.size) (o:=.dK []) (t':=s.toks) (fun _ _ q=>qac _ q) (qak _) ?_,rfl,q _ _ _ l1 r1 (.loc (by rw[<-rh.len];simp))⟩;exact⟨qbl _,beq_eq_false_iff_ne.mpr (Ne.symm (qaM (Inv.bigM I))),[],.nil,Heap.DictOf.new s.heap⟩
structure FnAt (P:Program) (w:World) (K:qab) (mg:Str->Option Value) (base:Heap) (x:Str) (ps:List Str) (F:List PV->MH->Out PV) (k:Nat):Prop where
 ex:∃f fd,mg x=some (.ref f)/\PySem.W.keepIn K (.ref f)=true/\lO K fd ps []/\FnOk P w K mg base (CXm P w) k f fd ps (spM K mg F)/\∃oc od osl,K.lookup f=some ⟨oc,od,.func fd,osl⟩
def FnAt.mono{P:Program}{w:World}{K:qab}{mg:Str->Option Value}{base:Heap}{x:Str}{ps:List Str}{F:List PV->MH->Out PV}{i j:Nat}(c:FnAt P w K mg base x ps F i)(h:i<=j):FnAt P w K mg base x ps F j :=
 let ⟨f,fd,a,b,d,e,z⟩:=c.ex;⟨f,fd,a,b,d,e.mono h,z⟩
def FnAt.cal{P:Program}{w:World}{K:qab}{mg:Str->Option Value}{base:Heap}{x:Str}{ps:List Str}{F:List PV->MH->Out PV}{i:Nat}(c:FnAt P w K mg base x ps F i){X:Cx}(e1:X.prog=P)(e2:X.w=w)(e3:X.K=K)(e4:X.mg=mg)(e5:X.base=base):Cal X x ps F i:=by
 subst e1;subst e2;subst e3;subst e4;subst e5;obtain⟨f,fd,a,b,d,e,_⟩:=c.ex;exact⟨f,fd,a,b,d,e⟩
structure DefAt (K:qab) (x:Str) (st:Stmt):Prop where
 ex:∃f fd,PySem.W.nsIn K mainGlobals x=some (some (.ref f))/\Fun K x x st f fd
def defAt_mk{K:qab}{x:Str}{st:Stmt}{f:Addr}{oc:Value}{od an:Option Addr}{sl:Array (Option Value)}{kV dc pm cd ct:Value}
  (a:PySem.W.nsIn K mainGlobals x=some (some (.ref f))) (l:K.lookup f=some ⟨oc,od,.func (PySem.W.fnOf x x (gI st) (aK st) (av st) .none kV dc pm an cd ct),sl⟩) (c:PySem.W.codeIn K cd x=true) (kp:PySem.W.keepIn K (.ref f)=true):DefAt K x st :=
 ⟨f,_,a,fun_mk l c kp⟩
def iY(x:Str)(st:Stmt)(ps:List Str):Prop:=∀(kV doc pm:Value) (an:Option Addr) (cdv ct:Value) (us:List Value),us.length=ps.length->bindArgs (PySem.W.fnOf x x (gI st) (aK st) (av st) .none kV doc pm an cdv ct) ⟨us,[]⟩=pure (ps.zip us)
def uV{P:Program}{w:World}{K:qab}{mg:Str->Option Value}{base:Heap}{x:Str}{st:Stmt}{ps:List Str}{m:Mst}(kin:K.In base)(ns:base.Ns mainGlobals mg)(D:DefAt K x st)(S:FnScope N ps (av st))(B:iY x st ps)
  (hl:∀y∈N,(av st).names.lookup y=some .local\/(av st).names.lookup y=some .cell) (hgl:∀y∈G,(av st).names.lookup y=some .globalImplicit)
  (dbg:∀x∈N++G,(x == ("__debug__":Str))=false/\(x == ("__classdict__":Str))=false/\x≠"__name__")
  (hb:∀X:Cx,X.prog=P->X.w=w->X.K=K->X.mg=mg->X.base=base->X.env.scope=av st->Good X N N G k->DefCx X->MSs X (aK st) m) :
  FnAt P w K mg base x ps (eM N.length ps.length m) (k+1):=by
 obtain⟨f,fd,a,Fu⟩:=D.ex;have Fx:=Fu.ex;obtain⟨oc,od,kV,doc,pm,an,cdv,ct,osl,e1,e2,_⟩:=Fx;exact⟨f,fd,PySem.W.mg_of kin ns a,Fu.kp,Fu.binds B,fn_M Fu S hl hgl dbg hb,oc,od,osl,e2⟩
def head_M{P:Program}{w:World}{K:qab}{mg:Str->Option Value}{h:Heap}{x y:Str}{st:Stmt}{F:List PV->MH->Out PV}{fa:Addr}(D:DefAt K x st)(B:iY x st [y])(hmg:mg x=some (.ref fa))(kin:K.In h)(ns:h.Ns mainGlobals mg)
  (H:∀base:Heap,K.In base->base.Ns mainGlobals mg->FnAt P w K mg base x [y] F k) :
  ∃fd:FuncData,(∀(s:Shared) (u:Value),BindsTo s fd ⟨[u],[]⟩ [(y,u)])/\∀base:Heap,K.In base->base.Ns mainGlobals mg->FnOk P w K mg base (CXm P w) k fa fd [y] (spM K mg F):=by
 obtain⟨f,fd,a,Fu⟩:=D.ex;have e:=hmg.symm.trans (PySem.W.mg_of kin ns a);cases e;obtain⟨oc,od,kV,doc,pm,an,cdv,ct,osl,e1,e2,e3⟩:=Fu.ex;refine⟨fd,fun s u=>.of_eq ?_,fun base kb nb=>?_⟩
 ·rw[e1];exact B kV doc pm an cdv ct [u] rfl
 ·obtain⟨f',fd',g1,g2,g3,g4,oc',od',osl',g5⟩:=(H base kb nb).ex;rw[hmg] at g1;cases g1;rw[e2] at g5;cases g5;exact g4
def spLaw(K:qab):Sp:=fun vs H Q _=>∃(a:Addr) (ns:List Int),vs=[.ref a]/\SqF K H a (ns.map V.int)/\ns.length<=63/\∀H',Q (.bl true) H'
def walk_M{l:PySem.W.OpenLaw}{q:Program}{loose:List Str}{XP:(Str->Option Value)->Heap->Prop}{YP:World->Heap->Prop}{d:DefRec}{K:Params->qab}{x:Str}{F:List PV->MH->Out PV}(hn:l.most=some 63)(hdf:d.params.defaults=[])(hr:Room k callerA)(hi:PyProof.Rows.importsNone q=true)(htr:l.prog.given.tree=none)
  (hY:∀(w:World) (h:Heap),YP w h->(K w.params).In h)
  (HF:∀(w:World) (mg:Str->Option Value) (fa:Addr) (h:Heap),(K w.params).In h->h.Ns mainGlobals mg->mg d.name=some (.ref fa) ->
   ∃fd:FuncData,(∀(s:Shared) (u:Value),BindsTo s fd ⟨[u],[]⟩ [(x,u)])/\∀base:Heap,(K w.params).In base->base.Ns mainGlobals mg->FnOk l.prog w (K w.params) mg base (CXm l.prog w) k fa fd [x] (spM (K w.params) mg F))
  (ht:∀ns:List Int,ns.length<=63->∃h',F [.frl (ns.map .int)] []=.ok (.bl true) h') :
  PySem.W.WalkO q loose XP YP l.row.toRowW d [] (fun f vs=>PySem.call f vs):=by
 refine L2.walk_of (n:=63) (k:=k) (x:=x) (CX:=fun w=>CXm l.prog w) (sp:=fun w=>spLaw (K w.params)) hn (by decide) hdf hr hi htr hY (fun w mg fa h hK hns hmg=>?_) (fun w H a ns hl hO hS=>?_) fun w H s e s' z=>?_
 ·obtain⟨fd,hb,hF⟩:=HF w mg fa h hK hns hmg;refine⟨fd,hb,fun base kb nb=>(hF base kb nb).imp fun vs H Q E z=>?_⟩;obtain⟨a,ns,rfl,sf,hl,hq⟩:=z;obtain⟨h',e⟩:=ht ns hl;refine⟨[],[.frl (ns.map .int)],[],.cons (.frl sf (RPs.ints ns)) .nil,⟨rfl,List.nodup_nil,fun n a o z _=>by simp at z⟩,?_⟩;rw[e];intro ρ' H' v' _ _ r;cases r;exact hq H'
 ·have sf:SqF (K w.params) H a (ns.map V.int):=by
   rcases hS with (z|z)|z
   ·rcases hO a with y|⟨o,xs,y⟩
    ·rw[y] at z;cases z
    ·rw[y] at z;cases z
   ·exact .inl z
   ·exact .inr z
  exact⟨a,ns,rfl,sf,hl,fun _=>rfl⟩
 ·obtain⟨_,_,_,_,_,_,_,_,_,z⟩:=z;exact z
end
section
variable {α:Type} {σ:PSt} {h:MH}
@[simp] theorem mC_ap:mC v σ h=.ok v h:=rfl
@[simp] theorem mVar_0{v:PV}{r:PSt}:ag 0 (some v::r) h=.ok v h:=rfl
@[simp] theorem mVar_s{i:Nat}{o:Option PV}{r:PSt}:ag (i+1) (o::r) h=ag i r h:=by simp[ag]
@[simp] theorem mBin_ap:aj f a b σ h=(a σ h).bind fun x h1=>(b σ h1).bind fun y h2=>(f x y h2).ne:=rfl
@[simp] theorem mUn_ap:mUn f a σ h=(a σ h).bind fun x h1=>(f x h1).ne:=rfl
@[simp] theorem mCB_ap:mCB f a σ h=(a σ h).bind fun x h1=>(f x h1).ne:=rfl
@[simp] theorem mCall_ap:aM f a σ h=(a σ h).bind f:=rfl
@[simp] theorem mNil_ap:mNil σ h=.ok [] h:=rfl
@[simp] theorem mCons_ap:ae a r σ h=(a σ h).bind fun x h1=>(r σ h1).bind fun xs h2=>.ok (x::xs) h2:=rfl
@[simp] theorem mLst_ap:d7 a σ h=(a σ h).bind newL:=rfl
@[simp] theorem mTup_ap:fE a σ h=(a σ h).bind newT:=rfl
@[simp] theorem mDic_ap:mDic σ h=.ok (.loc h.length) (h++[.dic false [] []]):=rfl
@[simp] theorem mB_ap:mB a σ h=(a σ h).bind fun v h1=>match v with | .bl b=>.ok b h1 | _=>.bad:=rfl
@[simp] theorem mNot_ap:ja a σ h=(a σ h).bind fun b h1=>.ok (!b) h1:=rfl
@[simp] theorem mAnd_ap:nB a b σ h=(a σ h).bind fun x h1=>if x=true then b σ h1 else .ok false h1:=rfl
@[simp] theorem mOr_ap:mOr a b σ h=(a σ h).bind fun x h1=>if x=true then .ok true h1 else b σ h1:=rfl
@[simp] theorem mAndV_ap:t5 a b σ h=(a σ h).bind fun x h1=>match x with | .bl c=>if c=true then b σ h1 else .ok (.bl false) h1 | _=>.bad:=rfl
@[simp] theorem mNotV_ap:uG a σ h=(a σ h).bind fun x h1=>match x with | .bl c=>.ok (.bl (!c)) h1 | _=>.bad:=rfl
@[simp] theorem mIfE_ap:mIfE c a b σ h=(c σ h).bind fun x h1=>if x=true then a σ h1 else b σ h1:=rfl
@[simp] theorem mSkip_ap:mSkip σ h=.nx σ h:=rfl
@[simp] theorem kI:aJ a b σ h=(a σ h).then b:=rfl
@[simp] theorem au:(SOut.nx σ h).then k=k σ h:=rfl
@[simp] theorem kj:(SOut.rt v h).then k=.rt v h:=rfl
@[simp] theorem then_bk:(SOut.bk σ h).then k=.bk σ h:=rfl
@[simp] theorem then_ct:(SOut.ct σ h).then k=.ct σ h:=rfl
@[simp] theorem ya:(SOut.rse x σ h).then k=.rse x σ h:=rfl
@[simp] theorem xo:(SOut.exc x σ h).then k=.exc x σ h:=rfl
@[simp] theorem xc:SOut.bad.then k=.bad:=rfl
def Out.rt(o:Out PV)(σ:PSt):SOut:=match o with
 | .ok v h'=>.rt v h'
 | .exc x h'=>.exc x σ h'
 | .bad=>.bad
@[simp] theorem rt_ok:(Out.ok v h).rt σ=.rt v h:=rfl
@[simp] theorem rt_exc:(Out.exc x h:Out PV).rt σ=.exc x σ h:=rfl
@[simp] theorem rt_bad:(Out.bad:Out PV).rt σ=.bad:=rfl
@[simp] theorem mRet_ap:bB m σ h=(m σ h).rt σ:=rfl
def Out.go{α:Type}(o:Out α)(σ:PSt)(k:α->Mst):SOut:=match o with
 | .ok v h'=>k v σ h'
 | .exc x h'=>.exc x σ h'
 | .bad=>.bad
@[simp] theorem aw:(Out.ok v h).go σ k=k v σ h:=rfl
@[simp] theorem go_exc:(Out.exc x h:Out α).go σ k=.exc x σ h:=rfl
@[simp] theorem go_bad:(Out.bad:Out α).go σ k=.bad:=rfl
@[simp] theorem mEx_ap:mEx m k σ h=(m σ h).go σ k:=rfl
@[simp] theorem mDrop_ap:ik m σ h=(m σ h).go σ fun _=>mSkip:=rfl
@[simp] theorem mIf_ap:mIf c a b σ h=(c σ h).go σ fun x=>if x=true then a else b:=rfl
@[simp] theorem mSet_ap:aP i m σ h=(m σ h).go σ fun v σ h=>.nx (σ.set i (some v)) h:=rfl
@[simp] theorem mPar_ap:mPar i j m σ h=(m σ h).go σ fun vs σ h=>match vs with | [v,w]=>.nx ((σ.set i (some v)).set j (some w)) h | _=>.bad:=rfl
@[simp] theorem mAsg_ap:jG m g σ h=(m σ h).go σ fun v σ h=>match g v σ h with | .nx σ2 h2=>.nx σ2 h2 | .exc x σ2 h2=>.exc x σ2 h2 | _=>.bad:=rfl
@[simp] theorem gNm_ap:gNm i v σ h=.nx (σ.set i (some v)) h:=rfl
@[simp] theorem gNl_ap:gNl [] σ h=.nx σ h:=rfl
@[simp] theorem gCn_ap:gCn a r (v::vs) σ h=(a v σ h).then (r vs):=rfl
@[simp] theorem gTp_ap:gTp r n (.tup xs) σ h=if xs.length=n then r xs σ h else .bad:=rfl
@[simp] theorem mFor_ap:gh mi g b σ h=(mi σ h).go σ fun it=>mGo it g b it.xs:=rfl
@[simp] theorem mItS_ap:fo m σ h=(m σ h).bind itAny:=rfl
@[simp] theorem xK:fj m σ h=(m σ h).bind fun vs h1=>match vs with
 | [.int j]=>if -(2 ^ 62)<=j/\j<2 ^ 62 then .ok ⟨bQ 0 j.toNat,[]⟩ h1 else .bad
 | _=>.bad:=rfl
@[simp] theorem gSb_ap:gSb mo mi v σ h=(mo σ h).go σ fun o=>mEx mi fun i σ h=>match lF o i v h with
 | some h2=>.nx σ h2
 | none=>.bad:=rfl
def SOut.fin(o:SOut):Out PV:=match o with
 | .nx _ h'=>.ok .non h'
 | .rt v h'=>.ok v h'
 | .exc x _ h'=>.exc x h'
 | .rse x _ h'=>.exc x h'
 | _=>.bad
@[simp] theorem fin_exc:(SOut.exc x σ h).fin=.exc x h:=rfl
@[simp] theorem fin_rse:(SOut.rse x σ h).fin=.exc x h:=rfl
@[simp] theorem bw:(SOut.rt v h).fin=.ok v h:=rfl
@[simp] theorem fin_nx:(SOut.nx σ h).fin=.ok .non h:=rfl
theorem kw(e:ps.length=np):eM n np m ps h=(m (cD n ps) h).fin:=by unfold eM;rw[qan e];rfl
end
section
variable {h:MH} {i j:Int}
@[simp] theorem opAdd_ii:opAdd (.int i) (.int j) h=.ok (.int (i+j)) h:=rfl
@[simp] theorem opSub_ii:opSub (.int i) (.int j) h=.ok (.int (i - j)) h:=rfl
@[simp] theorem opNeg_i:opNeg (.int i) h=.ok (.int (-i)) h:=rfl
@[simp] theorem opLt_ii:opLt (.int i) (.int j) h=.ok (.bl (decide (i<j))) h:=rfl
@[simp] theorem opGt_ii:opGt (.int i) (.int j) h=.ok (.bl (decide (j<i))) h:=rfl
@[simp] theorem opGe_ii:opGe (.int i) (.int j) h=.ok (.bl (decide (j<=i))) h:=rfl
@[simp] theorem opEq_ii:opEq (.int i) (.int j) h=.ok (.bl (decide (i=j))) h:=by simp[opEq,rd,SeqAt.shaped,PyData.canLay0,PyData.depth,PyData.eqv,qbw]
@[simp] theorem opNe_ii:opNe (.int i) (.int j) h=.ok (.bl (!decide (i=j))) h:=by simp[opNe,rd,SeqAt.shaped,PyData.canLay0,PyData.depth,PyData.eqv,qbw]
@[simp] theorem opEq_bb:opEq (.bl a) (.bl b) h=.ok (.bl (a == b)) h:=by simp[opEq,rd,SeqAt.shaped,PyData.canLay0,PyData.depth,PyData.eqv]
@[simp] theorem opNe_bb:opNe (.bl a) (.bl b) h=.ok (.bl (!(a == b))) h:=by simp[opNe,rd,SeqAt.shaped,PyData.canLay0,PyData.depth,PyData.eqv]
theorem fJ(hj:j≠0):opMod (.int i) (.int j) h=.ok (.int (i.fmod j)) h:=by simp[opMod,hj]
def tL(hj:j≠0):opFd (.int i) (.int j) h=.ok (.int (i.fdiv j)) h:=by simp[opFd,hj]
def gK(hl:-(2 ^ 64)<i/\i<2 ^ 64):opMul (.int i) (.int j) h=.ok (.int (i * j)) h:=by simp[opMul,IntMulOk.of_left (intBits_le_64 hl.1 hl.2)]
def opMul_r(hl:-(2 ^ 64)<j/\j<2 ^ 64):opMul (.int i) (.int j) h=.ok (.int (i * j)) h:=by simp[opMul,IntMulOk.of_right (intBits_le_64 hl.1 hl.2)]
def ph(hj:0<=j/\j<=1000000/\i.natAbs<2 ^ 64):opPow (.int i) (.int j) h=.ok (.int (i ^ j.toNat)) h:=by simp[opPow,fH,hj]
@[simp] theorem fAbs_i:fAbs [.int i] h=.ok (.int (if i<0 then -i else i)) h:=rfl
@[simp] theorem fMin_ii:fMin [.int i,.int j] h=.ok (.int (if j<i then j else i)) h:=rfl
@[simp] theorem fInt_i:fInt [.int i] h=.ok (.int i) h:=rfl
@[simp] theorem fInt_b:fInt [.bl b] h=.ok (.int (if b then 1 else 0)) h:=rfl
@[simp] theorem fLen_frl:fLen [.frl xs] h=.ok (.int xs.length) h:=rfl
@[simp] theorem fLen_tup:fLen [.tup xs] h=.ok (.int xs.length) h:=rfl
theorem t7(hl:xs.length<=1000):newL xs h=.ok (.loc h.length) (h++[.lst xs]):=by
 unfold newL;rw[qan (qaJ hl (by decide))]
def iL(hl:m<n):ixN n (m:Int)=some m:=by unfold ixN;rw[qan (by lia),qan (by lia)];simp
@[simp] theorem atI_0:atI (a::r) 0=some a:=dB (j:=0) rfl
@[simp] theorem atI_1:atI (a::b::r) 1=some b:=dB (j:=1) rfl
@[simp] theorem atI_2:atI (a::b::c::r) 2=some c:=dB (j:=2) rfl
@[simp] theorem atI_3:atI (a::b::c::d::r) 3=some d:=dB (j:=3) rfl
def Out.ofO(o:Option PV)(h:MH):Out PV:=match o with
 | some v=>.ok v h
 | none=>.bad
@[simp] theorem ofO_some:Out.ofO (some v) h=.ok v h:=rfl
@[simp] theorem opIx_tup:aH (.tup xs) (.int i) h=Out.ofO (atI xs i) h:=rfl
@[simp] theorem opIx_frl:aH (.frl xs) (.int i) h=Out.ofO (atI xs i) h:=rfl
theorem jn(e:h[n]?=some (.lst xs)):aH (.loc n) (.int i) h=Out.ofO (atI xs i) h:=by
 simp only[aH,e];rfl
def lC(e:h[n]?=some (.lst xs)):lF (.loc n) (.int i) v h=(ixN xs.length i).map fun p=>h.set n (.lst (xs.set p v)):=by simp only[lF,e]
@[simp] theorem itAny_tup:itAny (.tup xs) h=.ok ⟨xs,[]⟩ h:=rfl
@[simp] theorem itAny_frl:itAny (.frl xs) h=.ok ⟨xs,[]⟩ h:=rfl
@[simp] theorem ok_none:(⟨xs,[]⟩:MIt).ok h↔True:=⟨fun _=>trivial,fun _ p hp=>nomatch hp⟩
@[simp] theorem ok_some:(⟨xs,[(n,zs)]⟩:MIt).ok h↔h[n]?=some (.lst zs):=by
 constructor
 ·intro q;exact q (n,zs) (by simp)
 ·intro q p hp;have e:p=(n,zs):=List.mem_singleton.mp hp;subst e;exact q
end
def SOut.turn(o:SOut)(k:Mst):SOut:=match o with
 | .nx σ2 h2=>k σ2 h2
 | .ct σ2 h2=>k σ2 h2
 | .bk σ2 h2=>.nx σ2 h2
 | .rt v h2=>.rt v h2
 | .exc e σ2 h2=>.exc e σ2 h2
 | .rse e σ2 h2=>.rse e σ2 h2
 | .bad=>.bad
@[simp] theorem yv:(SOut.rse x σ h).turn k=.rse x σ h:=rfl
@[simp] theorem yi:(SOut.exc x σ h).turn k=.exc x σ h:=rfl
@[simp] theorem turn_nx:(SOut.nx σ h).turn k=k σ h:=rfl
@[simp] theorem turn_ct:(SOut.ct σ h).turn k=k σ h:=rfl
@[simp] theorem turn_bk:(SOut.bk σ h).turn k=.nx σ h:=rfl
@[simp] theorem turn_rt:(SOut.rt v h).turn k=.rt v h:=rfl
theorem mGo_nil(e:it.ok h):mGo it g b [] σ h=.nx σ h:=by
 rw[mGo];dsimp only;rw[qan e]
def ye(e:it.ok h)(eg:g x σ h=.nx σ1 h1):mGo it g b (x::r) σ h=(b σ1 h1).turn (mGo it g b r):=by
 rw[mGo];dsimp only;rw[qan e,eg];rfl
def pd(I:Nat->Shared->Prop)
  (turn:∀n s,I n s->wpAny (model prog w) A (pyNext it) (fun r s₁=>match r with
   | none=>R (.ok .next) s₁
   | some v=>wpAny (model prog w) A (letOwnedTupleGo target it v) (fun _ s₂'=>wpAny (model prog w) A (assign target env v) (fun _ s₂ =>
     wpAny (model prog w) A (forIn ifs true fun c r=>if r=true then do let ok <-isTrue c env (eval c env);pure (ForInStep.yield ok) else pure (ForInStep.yield r)) (fun ok s₃ =>
      if ok=true then wpAny (model prog w) A (eval elt env) (fun x s₄ =>
       wpAny (model prog w) A (call (.builtin "list.append") [acc,x]) (fun _ s₅=>∃m,m<n/\I m s₅) (fun _ _=>False) s₄) (fun _ _=>False) s₃
      else ∃m,m<n/\I m s₃) (fun _ _=>False) s₂) (fun _ _=>False) s₂') (fun _ _=>False) s₁) (fun _ _=>False) s)
  (n:Nat) (h:I n s) :
  codeAny (model prog w) A (.compLoop (.ListComp elt [⟨target,iter,ifs,0⟩] scope pos) 0 it acc env) R s:=by
 refine codeAny_loop rfl I (fun n s hI=>?_) n h;show wpAny _ A ((compTurn (.ListComp elt [⟨target,iter,ifs,0⟩] scope pos) 0 it acc env).onRaise (fun x=>do noteFrame x env;theTreesLotGoes x)) _ _ s;refine wpAny_noted ?_;rw[compTurn_list];have no:∀(e:Value) (s':Shared),False->notedBy (model prog w) A env (fun e s'=>R (.error e) s') e s':=fun _ _ z=>z.elim;refine qad (wpAny_standAt (qad (wpAny_mono (turn n s hI) (fun r s₁ h₁=>?_) fun _ _ h'=>h'.elim)))
 cases r with
 | none=>exact qat h₁
 | some v =>
  refine qad (wpAny_mono h₁ (fun _ s₂' h₂'=>?_) fun _ _ h'=>h'.elim);refine qad (wpAny_mono h₂' (fun _ s₂ h₂=>qad (wpAny_mono h₂ (fun ok s₃ h₃=>?_) fun _ _ h'=>h'.elim)) fun _ _ h'=>h'.elim)
  cases ok with
  | false=>exact qat ⟨rfl,h₃⟩
  | true =>
   exact qad (qad (wpAny_mono h₃ (fun x s₄ h₄=>qad (wpAny_mono h₄ (fun _ s₅ h₅=>qat (qat ⟨rfl,h₅⟩)) fun _ _ h'=>h'.elim)) fun _ _ h'=>h'.elim))
def i9(env:Env):List (Str × NameKind)->List (Str × Addr)->List (Str × Addr)
 | [],cs=>cs
 | (n,k)::r,cs=>i9 env r (if (k == NameKind.free)=true then (n,(env.cells.lookup n).getD 0)::cs else cs)
def oQ(h:∀y∈scope.names,y.2=.free->∃c,env.cells.lookup y.1=some c):closureFor scope env=pure (i9 env scope.names []):=by
 have key:∀(l:List (Str × NameKind)) (cs:List (Str × Addr)),(∀y∈l,y.2=.free->∃c,env.cells.lookup y.1=some c) ->
   (forIn l cs fun (x:Str × NameKind) (r:List (Str × Addr))=>if (x.2 == NameKind.free)=true then (do let a <-cellOf env x.1;pure (ForInStep.yield ((x.1,a)::r)):Sem _) else pure (ForInStep.yield r))=(pure (i9 env l cs):Sem _):=by
  intro l
  induction l with
  | nil=>intro cs _;rfl
  | cons y l ih =>
   intro cs hh;obtain⟨n,k⟩:=y;rw[qcD];have hl:=fun z hz=>hh z (qaf _ hz);by_cases hk:(k == NameKind.free)=true
   ·obtain⟨c,hc⟩:=hh (n,k) qaI (by simpa using hk);dsimp only at hc ⊢;rw[qan hk];have hco:cellOf env n=pure c:=by unfold cellOf;rw[hc]
    rw[hco];refine (ih ((n,c)::cs) hl).trans ?_;simp only[i9,hk,if_true,hc,qaO]
   ·dsimp only;rw[qaz hk];refine (ih cs hl).trans ?_;simp[i9,hk]
 unfold closureFor;exact (congrArg (fun z=>z >>= fun r=>pure r) (key scope.names [] h)).trans rfl
def kR:∀(l:List (Str × NameKind)) (cs:List (Str × Addr)),(∀a,cs.lookup x=some a->a=(env.cells.lookup x).getD 0)->(∀a,(i9 env l cs).lookup x=some a->a=(env.cells.lookup x).getD 0)/\((∃k,(x,k)∈l/\k=.free)\/(∃a,cs.lookup x=some a)->∃a,(i9 env l cs).lookup x=some a):=by
 intro l
 induction l with
 | nil =>
  intro cs h;refine⟨h,fun z=>?_⟩;rcases z with ⟨k,z,_⟩|z
  ·cases z
  ·exact z
 | cons y r ih =>
  intro cs h;obtain⟨n,k⟩:=y;have h':∀a,(if (k == NameKind.free)=true then (n,(env.cells.lookup n).getD 0)::cs else cs).lookup x=some a->a=(env.cells.lookup x).getD 0:=fun a ha=>by
   split at ha
   ·rw[qaP] at ha
    split at ha
    ·rename_i e
     have:x=n:=by simpa using e
     subst this;exact (Option.some.inj ha).symm
    ·exact h a ha
   ·exact h a ha
  obtain⟨i1,i2⟩:=ih _ h';refine⟨i1,fun z=>i2 ?_⟩;rcases z with ⟨k',z,hk⟩|⟨a,z⟩
  ·rcases qam.mp z with e|e
   ·cases e;right;subst hk;exact⟨(env.cells.lookup x).getD 0,by simp⟩
   ·exact .inl ⟨k',e,hk⟩
  ·right;split
   ·rw[qaP];split
    ·exact⟨_,rfl⟩
    ·exact⟨a,z⟩
   ·exact⟨a,z⟩
def cI{env:Env}(hk:env.scope.kind=.function):∀{names:List (Str × NameKind)} {x:Str} {k:NameKind},names.lookup x=some k ->
  (names.map fun (n,k)=>if (k == NameKind.free && env.scope.kind == .function && env.kindOf n == some .cell) then (n,NameKind.cell) else (n,k)).lookup x=some (if k=.free/\env.kindOf x=some .cell then .cell else k):=by
 intro names
 induction names with
 | nil=>intro x k h;simp at h
 | cons y r ih0 =>
  intro x k h;obtain⟨n,k'⟩:=y;have ih:=@ih0 x k;show List.lookup x ((if (k' == NameKind.free && env.scope.kind == .function && env.kindOf n == some .cell)=true then (n,NameKind.cell) else (n,k'))::_)=_
  cases hx:x == n with
  | true =>
   have e:x=n:=by simpa using hx
   subst e;simp only[qaP,hx] at h;cases h;by_cases z:k=.free/\env.kindOf x=some .cell
   ·rw[qan (by simp[z.1,z.2,hk]),qan z];simp[qaP]
   ·rw[qaz (by simp[hk];intro q1 q2;exact z ⟨q1,q2⟩),qaz z];simp[qaP]
  | false =>
   simp only[qaP,hx] at h;by_cases hc:(k' == NameKind.free && env.scope.kind == .function && env.kindOf n == some .cell)=true
   ·rw[qan hc];simp only[qaP,hx];exact ih h
   ·rw[qaz hc];simp only[qaP,hx];exact ih h
def dJ(X:Cx)(scope:Scope)(cl:List (Str × Addr))(s₃:Shared)(H₃:Hp)(fp:List Addr)(N':List Str):Cx :=
 { X with N:=N',s₀:=s₃,H₀:=H₃,env:=compEnvC scope cl s₃.heap.objs.size X.env,outer:=X.stack,ex:=fp,fn:=fun x=>decide (scope.names.lookup x=some .cell),pn:=[],xe:=fun _ _=>False}
structure CompOk (X:Cx) (N:List Str) (scope:Scope) (vars frees:List Str) (fm:List Nat):Prop where
 kind:scope.kind=.function
 cell:∀y∈scope.names,y.2=.cell->scope.names.lookup y.1=some .cell
 names:∀y∈scope.names,y.2=.local->scope.names.lookup y.1=some .local
 hv:∀x∈vars,scope.names.lookup x=some .local\/scope.names.lookup x=some .cell
 hf:∀x∈frees,scope.names.lookup x=some .free
 all:∀y∈scope.names,y.2=.free->y.1∈frees
 fm:fm.map (fun i=>N[i]?)=frees.map some
 cl:∀x∈frees,X.env.kindOf x=some .cell
def cSt(nv:Nat)(fm:List Nat)(σ:PSt):PSt:=List.replicate nv none++fm.map fun i=>(σ[i]?).getD none
def cGo(it:MIt)(n:Nat)(gt:Mg)(mt:Mx Bool)(me:Mx PV):List PV->PSt->MH->Out Unit
 | [],_,h=>if it.ok h then .ok () h else .bad
 | x::r,σ,h=>if it.ok h then (match gt x σ h with
  | .nx σ1 h1=>(mt σ1 h1).ne.bind fun b h2=>if b=true then (me σ1 h2).ne.bind fun v h3=>(match h3[n]? with
    | some (.lst ys)=>if ys.length<sizeLine then cGo it n gt mt me r σ1 (h3.set n (.lst (ys++[v]))) else .bad
    | _=>.bad) else cGo it n gt mt me r σ1 h2
  | _=>.bad) else .bad
def cU(nv:Nat)(fm:List Nat)(mi:Mx MIt)(gt:Mg)(mt:Mx Bool)(me:Mx PV):Mx PV:=fun σ h =>
 (mi σ h).bind fun it h1=>(cGo it h1.length gt mt me it.xs (cSt nv fm σ) (h1++[.lst []])).bind fun _ h3=>.ok (.loc h1.length) h3
def MTs(X:Cx)(ifs:List Expr)(m:Mx Bool):Prop :=
 ∀(Il:List (Addr × Obj)) (s:Shared) (σ:L2.St) (H:Hp) (Q:Bool->Hp->Prop),Inv X Il σ H s->tM X REq m σ H Q ->
  wpAny (model X.prog X.w) X.A (forIn ifs true fun c r=>if r=true then do let ok <-isTrue c X.env (eval c X.env);pure (ForInStep.yield ok) else pure (ForInStep.yield r)) (TP X Il σ Q) X.xe s
def mTrue:Mx Bool:=fun _ h=>.ok true h
def kM:MTs X [] mTrue:=fun Il s σ H Q I ⟨ρ,σp,h,rs,rh,q⟩=>wpAny_tests_nil ⟨H,I,q ρ H true (Le.refl _ _) rh rfl⟩
def mts_one(h:MT X c m):MTs X [c] m:=fun Il s σ H Q I q=>wpAny_tests_one (h Il s σ H Q I q)
inductive CS (X:Cx) (ρ:List Addr) (H:Hp) (σp:PSt) (gt:Mg) (mt:Mx Bool) (me:Mx PV) (σ0:PSt) (Q:VK) (J:It) (H1:Hp):Prop
 | mk (ρ1:List Addr) (it:MIt) (h1:MH) (l:Le ρ H ρ1 H1) (rh:RH X.K X.mg ρ1 H1 h1) (j:lg X ρ1 H1 it J) (q:Ful X (RV' X) σp ρ1 H1 ((cGo it h1.length gt mt me it.xs σ0 (h1++[.lst []])).bind fun _ h3=>.ok (.loc h1.length) h3) Q):CS X ρ H σp gt mt me σ0 Q J H1
inductive CI (X Y:Cx) (it:MIt) (tn:Nat->Heap->Prop) (fp ρ0:List Addr) (H0:Hp) (σp:PSt) (n1:Nat) (gt:Mg) (mt:Mx Bool) (me:Mx PV) (Q:VK) (n:Nat) (s6:Shared):Prop
 | mk (i:Nat) (σ6:L2.St) (H6:Hp) (ρ6:List Addr) (σp6:PSt) (h6:MH) (e:n=it.xs.length - i) (l:i<=it.xs.length) (v:Inv Y [] σ6 H6 s6) (t:tn i s6.heap) (f:∀b∈fp,H6 b=none) (le:Le ρ0 H0 ρ6 H6) (rs:RS X.K ρ6 H6 σp6 σ6) (rh:RH X.K X.mg ρ6 H6 h6)
   (q:Ful X (RV' X) σp ρ6 H6 ((cGo it n1 gt mt me (it.xs.drop i) σp6 h6).bind fun _ h3=>.ok (.loc n1) h3) Q):CI X Y it tn fp ρ0 H0 σp n1 gt mt me Q n s6
def oM
  (hQ:Q (newEnv scope s.heap.objs.size globals (cellsFrom (s.heap.objs.size+1) scope.names closure) qual none .none (some env) builtinsNs) { s with heap:=pushCells (s.heap.push { cls:=.type "dict",data:=.dict #[]}) scope.names}) :
  wpAny M A (newFunctionEnv scope globals closure [] qual none .none (some env)) Q E s:=by
 simp only[newFunctionEnv,Option.isSome_some,if_true];refine qad (wpAny_alloc ?_);refine qad (wpAny_layCells _ (fun name kind cells=>by cases hkc:kind == NameKind.cell <;> simp[hkc]) _ _ _ _ ?_);rw[show ({ s with heap:=s.heap.push { cls:=.type "dict",data:=.dict #[]}}:Shared).heap.objs.size=s.heap.objs.size+1 from qaX ..];rw[qcH];exact qad (qat (qat hQ))
def dw:∀(names:List (Str × NameKind)) (n:Nat) (acc:List (Str × Addr)),cellsFrom n names acc=cellsFrom n names []++acc
 | [],n,acc=>rfl
 | (x,k)::r,n,acc=>by
  unfold cellsFrom;split
  ·rw[dw r (n+1) ((x,n)::acc),dw r (n+1) [(x,n)]];simp
  ·exact dw r n acc
def fA:∀(names:List (Str × NameKind)) (n:Nat) (x:Str),(∃c,(x,c)∈cellsFrom n names [])↔(x,NameKind.cell)∈names
 | [],n,x=>by simp[cellsFrom]
 | (y,k)::r,n,x=>by
  unfold cellsFrom;split
  ·rename_i hk
   have hk':k=NameKind.cell:=by simpa using hk
   subst hk';rw[dw];constructor
   ·rintro⟨c,hc⟩;rcases qbf.mp hc with hc|hc
    ·exact qaf _ ((fA r (n+1) x).mp ⟨c,hc⟩)
    ·have:x=y:=by simp at hc;exact hc.1
     rw[this];exact qaI
   ·intro h;rcases qam.mp h with e|h
    ·have:x=y:=by simpa using e
     subst this;exact⟨n,qay _ (by simp)⟩
    ·obtain⟨c,hc⟩:=(fA r (n+1) x).mpr h;exact⟨c,qbn _ hc⟩
  ·rename_i hk
   rw[fA r n x];constructor
   ·exact qaf _
   ·intro h;rcases qam.mp h with e|h
    ·exfalso
     have:NameKind.cell=k:=by simpa using (Prod.mk.inj e).2
     rw[<-this] at hk;exact hk rfl
    ·exact h
def jl{α:Type}:∀(a b:List (Str × α)) (x:Str),(a++b).lookup x=(a.lookup x).or (b.lookup x)
 | [],b,x=>rfl
 | (y,v)::a,b,x=>by
  rw[qcq,qaP,qaP]
  cases x == y with
  | true=>rfl
  | false=>exact jl a b x
def p4{α:Type}:∀(a:List (Str × α)) (x:Str),a.lookup x=none->∀c,(x,c)∉a
 | [],x,_,c,h=>nomatch h
 | (y,v)::a,x,e,c,h=>by
  rw[qaP] at e
  cases z:x == y with
  | true=>rw[z] at e;cases e
  | false =>
   rw[z] at e;rcases qam.mp h with q|q
   ·have:x=y:=(Prod.mk.inj q).1
    rw[this] at z;simp at z
   ·exact p4 a x e c q
section
variable {X:Cx} {N W G:List Str} {k:Nat}
def og(g:Good X N W G k){tg iter elt:Expr}{ifs:List Expr}{scope:Scope}{pos:Pos}{vars frees G':List Str}{fm:List Nat}{mi:Mx MIt}{gt:Mg}{mt:Mx Bool}{me:Mx PV}(C:CompOk X N scope vars frees fm)
  (nd:(vars++frees).Nodup) (hgl:∀x∈G',scope.names.lookup x=some .globalImplicit) (dbg:∀x∈(vars++frees)++G',(x == ("__debug__":Str))=false/\(x == ("__classdict__":Str))=false/\x≠"__name__")
  (hi:MI X tg iter mi)
  (hY:∀Y:Cx,Y.prog=X.prog->Y.w=X.w->Y.K=X.K->Y.mg=X.mg->Y.base=X.base->Y.env.scope=relabel scope X.env->Good Y (vars++frees) vars G' k->MG Y tg gt/\MTs Y ifs mt/\ME Y elt me)
  (hs:∀x,foldedSetIterable iter X.env x=pure x) {use:Option (Value->Sem Unit)} {Qv:Value->Shared->Prop} {pp:Pos} {Il:List (Addr × Obj)} {s:Shared} {σ:L2.St} {H:Hp} {Q:VK} (I:Inv X Il σ H s) (tm:tM X (RV' X) (cU vars.length fm mi gt mt me) σ H Q)
  (fin:∀(acc C:Addr) (H6:Hp) (s7:Shared) (m7:Str->Option Value),Inv X Il σ H6 s7->H6 C=none->s7.heap.Ns C m7->C≠X.env.locals->X.s₀.heap.objs.size<=C->C∉X.fs->(∀x c,X.env.cells.lookup x=some c->c≠C)->(∀p∈X.pn++Il,p.1≠C)->Q (.ref acc) H6 ->
   compPost (model X.prog X.w) X.A X.xe use Qv (.ref acc) C (.ok .next) s7) :
  wpAny (model X.prog X.w) X.A (comprehension (.ListComp elt [⟨tg,iter,ifs,0⟩] scope pos) scope X.env pp (newList []) false (eval iter X.env) use) Qv X.xe s:=by
 obtain⟨ρ,σp,h,rs,rh,q⟩:=tm;have hfree:∀y∈scope.names,y.2=.free->∃c,X.env.cells.lookup y.1=some c:=fun y hy e=>I.ok.has y.1 (.inl (C.cl _ (C.all y hy e)));refine wpAny_comprehension_free (use:=use) rfl hs (oQ hfree) C.kind C.names ?_;generalize hcl:i9 X.env scope.names []=cl;have clk:∀x a,cl.lookup x=some a->X.env.cells.lookup x=some a\/((X.env.cells.lookup x)=none/\a=0):=fun x a e=>by
  rw[<-hcl] at e
  have:=(kR (env:=X.env) (x:=x) scope.names [] (fun a z=>by simp at z)).1 a e
  cases z:X.env.cells.lookup x with
  | none=>right;rw[z] at this;exact⟨rfl,this⟩
  | some c=>left;rw[z] at this;rw[this];rfl
 have clf:∀x∈frees,∃c,cl.lookup x=some c/\X.env.cells.lookup x=some c:=fun x hx=>by
  obtain⟨c,hc⟩:=I.ok.has x (.inl (C.cl x hx));have hm:(∃kk,(x,kk)∈scope.names/\kk=.free):=⟨.free,PySem.mem_of_lookup (C.hf x hx),rfl⟩;obtain⟨a,ha⟩:=(kR (env:=X.env) (x:=x) scope.names [] (fun a z=>by simp at z)).2 (.inl hm);rw[hcl] at ha;rcases clk x a ha with z|⟨z,_⟩
  ·rw[hc] at z;cases z;exact⟨c,ha,hc⟩
  ·rw[hc] at z;cases z
 have clin:∀x a,cl.lookup x=some a->X.env.cells.lookup x=some a/\x∈frees:=fun x a e=>by
   have only:∀(l:List (Str × NameKind)) (cs:List (Str × Addr)) (x:Str) (a:Addr),(i9 X.env l cs).lookup x=some a->(x,NameKind.free)∈l\/cs.lookup x=some a:=by
    intro l
    induction l with
    | nil=>intro cs x a e;exact .inr e
    | cons y l ih =>
     intro cs x a e;obtain⟨n,kk⟩:=y;rcases ih _ x a e with z|z
     ·exact .inl (qaf _ z)
     ·split at z
      ·rename_i hk
       have hk':kk=NameKind.free:=by simpa using hk
       rw[qaP] at z
       split at z
       ·rename_i e'
        have:x=n:=by simpa using e'
        subst this;subst hk';exact .inl qaI
       ·exact .inr z
      ·exact .inr z
   have e':=e;rw[<-hcl] at e';rcases only _ _ x a e' with z'|z'
   ·refine⟨?_,C.all _ z' rfl⟩;rcases clk x a e with z|⟨z,_⟩
    ·exact z
    ·obtain⟨c,hc⟩:=hfree _ z' rfl;rw[z] at hc;cases hc
   ·simp at z'
 have start:=hi Il s σ H (CS X ρ H σp gt mt me (cSt vars.length fm σp) Q) I
  ⟨ρ,σp,h,rs,rh,Ful.bind q fun ρ1 H1 it J h1 _ l1 rh1 jr q1=>⟨ρ1,it,h1,l1,rh1,jr,q1⟩⟩
 refine wpAny_mono start (fun x s₁ h₁=>wpAny_mono h₁ (fun itv s₂ h₂=>?_) fun _ _ e=>e) fun _ _ e=>e;obtain⟨ita,fp,tn,J,H2,rfl,I2,T,st2,f2,ρ1,it,h1,l1,rh1,jr,q1⟩:=h₂;refine wpAny_newObj_type ?_;have hf2:H2 s₂.heap.objs.size=none:=I2.hok.fresh (qak _);have I3:=I2.lnew (ys:=[]) (its:=[]) (t':=s₂.toks) .nil (qbl _);obtain⟨rh3,l3⟩:=rh1.new hf2 (o:=.lst []) (ho:=.lst []) ⟨[],rfl,.nil⟩;generalize hs3:({ s₂ with heap:=s₂.heap.push { cls:=.type "list",data:=.seq ([]:List Value).toArray},toks:=s₂.toks}:Shared)=s₃ at I3;generalize hH3:upd H2 s₂.heap.objs.size (.lst [])=H₃ at I3 rh3 l3;have hacc:H₃ s₂.heap.objs.size=some (.lst []):=by rw[<-hH3];exact cz
 have es3:s₃.heap=s₂.heap.push { cls:=.type "list",data:=.seq ([]:List Value).toArray}:=by rw[<-hs3]
 have st3:tn 0 s₃.heap:=T.keep _ _ _ st2 fun b _ o e=>by rw[es3];exact qac _ e
 have fp3:∀b∈fp,gQ X Il H₃ b:=fun b hb=>by
  obtain⟨a0,a1⟩:=f2 b hb;refine⟨?_,a1⟩;obtain⟨o,eo,_⟩:=T.obj _ _ st2 b hb;rw[<-hH3,bj (qaM (qaq eo))];exact a0
 have goal3:wpAny (model X.prog X.w) X.A (newFunctionEnv scope X.env.globals cl [] X.env.qual none .none (some X.env)) (fun cenv s₄ =>
    codeAny (model X.prog X.w) X.A (.compStart (.ListComp elt [⟨tg,iter,ifs,0⟩] scope pos) 0 (.ref ita) (.ref s₂.heap.objs.size) { cenv with scope:=relabel scope X.env}) (compPost (model X.prog X.w) X.A X.xe use Qv (.ref s₂.heap.objs.size) cenv.locals) s₄) X.xe s₃:=by
  refine oM ?_;have keep4:∀b o,s₃.heap.get? b=some o->(pushCells (s₃.heap.push { cls:=.type "dict",data:=.dict #[]}) scope.names).get? b=some o:=fun b o e=>pushCells_keeps _ _ b o (qac _ e);have hns:=(Heap.Ns.new s₃.heap (.type "dict")).keeps (pushCells_keeps scope.names _);have okc:=cellsFrom_ok scope.names (s₃.heap.push { cls:=.type "dict",data:=.dict #[]}) (s₃.heap.objs.size+1) [] ⟨fun _ _ hm=>(nomatch hm),List.Pairwise.nil⟩ (by rw[qaX];exact qak _);rw[qaX] at okc;rw[dw];have hin:=fA scope.names (s₃.heap.objs.size+1);generalize cellsFrom (s₃.heap.objs.size+1) scope.names []=cn at okc hin ⊢;generalize pushCells (s₃.heap.push { cls:=.type "dict",data:=.dict #[]}) scope.names=h' at keep4 hns okc ⊢;dsimp only[newEnv];have csl:∀x c,(cn++cl).lookup x=some c->((x,c)∈cn/\scope.names.lookup x=some .cell/\s₃.heap.objs.size<c/\h'.IsCell c none)\/(X.env.cells.lookup x=some c/\scope.names.lookup x=some .free):=fun x c e=>by
   rw[jl] at e
   cases z:cn.lookup x with
   | some c' =>
    rw[z] at e
    have:c'=c:=by simpa using e
    subst this;have m:=PySem.mem_of_lookup z;obtain⟨q1,q2⟩:=okc.empty x c' m;exact .inl ⟨m,C.cell _ ((hin x).mp ⟨c',m⟩) rfl,q2,q1⟩
   | none =>
    rw[z] at e;obtain⟨q1,q2⟩:=clin x c (by simpa using e);exact .inr ⟨q1,C.hf x q2⟩
  have csf:∀x c,x∈frees->cl.lookup x=some c->(cn++cl).lookup x=some c:=fun x c hx e=>by
   rw[jl]
   cases z:cn.lookup x with
   | none=>simpa using e
   | some c' =>
    have:=C.cell _ ((hin x).mp ⟨c',PySem.mem_of_lookup z⟩) rfl
    rw[C.hf x hx] at this;cases this
  have old:∀x c,X.env.cells.lookup x=some c->c<s₃.heap.objs.size:=fun x c e=>by
   obtain⟨v,qc⟩:=I3.cell x c e;exact qc.lt
  have ok:(dJ X scope (cn++cl) s₃ H₃ fp (vars++frees)).Ok:=by
   refine⟨I3.ok.mod,C.kind,I3.ok.glob,I3.ok.blt,qak _,fun x y c h1 h2=>?_,fun x hx=>?_,fun x c hx e=>?_,I3.ok.hd,I3.ok.frames,.inl rfl,
    fun b hb=>⟨?_,fun x c e z=>?_⟩,I3.bs,qaJ I3.ok.bsz I3.sz,fun b o e hb=>?_,fun b hb z=>?_,I3.stack,I3.stkFree,I3.ok.tree,I3.ok.top⟩
   ·rcases csl x c h1 with ⟨a1,_,a2,_⟩|⟨a1,_⟩ <;> rcases csl y c h2 with ⟨b1,_,b2,_⟩|⟨b1,_⟩
    ·exact PySem.name_of_addr okc.apart a1 b1
    ·exact absurd (qcC a2 (old y c b1)) (qaY _)
    ·exact absurd (qcC b2 (old x c a1)) (qaY _)
    ·exact I3.ok.inj x y c a1 b1
   ·
    have hx':(relabel scope X.env).names.lookup x=some .cell\/(relabel scope X.env).names.lookup x=some .free:=hx
    cases e:scope.names.lookup x with
    | none =>
     exfalso;have nn:∀(l:List (Str × NameKind)),l.lookup x=none->(l.map fun (n,k)=>if (k == NameKind.free && X.env.scope.kind == .function && X.env.kindOf n == some .cell) then (n,NameKind.cell) else (n,k)).lookup x=none:=by
      intro l
      induction l with
      | nil=>intro _;rfl
      | cons y l ih =>
       intro hl;obtain⟨n,kk⟩:=y;rw[qaP] at hl
       split at hl
       ·cases hl
       ·rename_i hx2
        rw[qao];dsimp only
        split <;> (rw[qaP];simp only[hx2];exact ih hl)
     have e2:=nn scope.names e;rcases hx' with z|z
     ·rw[show (relabel scope X.env).names.lookup x=none from e2] at z;cases z
     ·rw[show (relabel scope X.env).names.lookup x=none from e2] at z;cases z
    | some kk =>
     have e2:=cI (env:=X.env) I3.ok.kind e;have hk:kk=.free\/kk=.cell:=by
      rcases hx' with z|z
      ·rw[show (relabel scope X.env).names.lookup x=_ from e2] at z;have z':=Option.some.inj z;by_cases zz:kk=.free/\X.env.kindOf x=some .cell
       ·exact .inl zz.1
       ·rw[qaz zz] at z';exact .inr z'
      ·rw[show (relabel scope X.env).names.lookup x=_ from e2] at z;have z':=Option.some.inj z;by_cases zz:kk=.free/\X.env.kindOf x=some .cell
       ·exact .inl zz.1
       ·rw[qaz zz] at z';exact .inl z'
     rcases hk with hk|hk
     ·subst hk;have hf:=C.all _ (PySem.mem_of_lookup e) rfl;obtain⟨c,h1,_⟩:=clf x hf;exact⟨c,csf x c hf h1⟩
     ·subst hk;obtain⟨c,hc⟩:=(hin x).mpr (PySem.mem_of_lookup e);show ∃c,(cn++cl).lookup x=some c;rw[jl]
      cases z:cn.lookup x with
      | some c'=>exact⟨c',rfl⟩
      | none=>exact absurd hc (p4 cn x z c)
   ·have hx':=of_decide_eq_true hx;rcases csl x c e with ⟨_,_,q,_⟩|⟨_,q⟩
    ·exact qbp q
    ·rw[q] at hx';cases hx'
   ·obtain⟨o,eo,_⟩:=T.obj _ _ st3 b hb;exact qaM (qaq eo)
   ·rcases csl x c e with ⟨_,_,q,_⟩|⟨q,_⟩
    ·obtain⟨o,eo,_⟩:=T.obj _ _ st3 b hb;exact absurd (qcC q (z▸qaq eo)) (qaY _)
    ·exact (fp3 b hb).2.2.2.2.1 x c q z
   ·obtain⟨_,_,_,h4,_⟩:=fp3 b hb;rcases h4 with h4|h4
    ·exact I3.ok.noex b o e h4
    ·exact absurd (qaw (qaq e) (qaJ I3.ok.bsz h4)) (qaY _)
   ·obtain⟨_,h2,h3,_⟩:=fp3 b hb;rcases qam.mp (I3.stkSub b z) with e|e
    ·exact h2 e
    ·exact h3 e
  obtain⟨mX,nsX,lX⟩:=I3.loc;have l13:Le ρ H (ρ1++[s₂.heap.objs.size]) H₃:=l1.trans l3
  let σY:L2.St:=List.replicate vars.length none++fm.map fun i=>(σ[i]?).getD none
  have fml:fm.length=frees.length:=by have:=congrArg List.length C.fm;simpa using this
  have invY:Inv (dJ X scope (cn++cl) s₃ H₃ fp (vars++frees)) [] σY H₃ { s₃ with heap:=h',toks:=s₃.toks}:=by
   refine⟨ok,rfl,I3.bare,Un.kept keep4,⟨_,hns,fun i x v hN hv hvis=>?_⟩,fun x c e=>?_,?_,fun x c e=>?_,fun p hp=>absurd (show p∈([]:List (Addr × Obj)) from hp) (by simp),I3.hok.kept keep4,?_⟩
   ·have hN':(vars++frees)[i]?=some x:=hN;have hiv:vars.length<=i:=by
     by_cases z:vars.length<=i
     ·exact z
     ·exfalso;have hv':σY[i]?=some (some v):=hv;rw[qal (by simp;ext),qaZ] at hv'
      split at hv' <;> cases hv'
    have hv':σY[i]?=some (some v):=hv;rw[qaF (by simpa using hiv),qbu,qap] at hv';rw[qaF hiv] at hN'
    cases ej:fm[i - vars.length]? with
    | none=>rw[ej] at hv';cases hv'
    | some j =>
     rw[ej] at hv';have ef:=congrArg (fun l=>l[i - vars.length]?) C.fm;simp only[qap,ej,hN',qcE] at ef;have ef':N[j]?=some x:=by simpa using ef
     have ev:σ[j]?=some (some v):=by
      have:(σ[j]?).getD none=some v:=by simpa using hv'
      cases z:σ[j]? with
      | none=>rw[z] at this;cases this
      | some o=>rw[z] at this;simp at this;rw[this]
     have hx:x∈frees:=qbj hN';have vis:Vis X.env.scope x:=.inr (.inl (C.cl x hx));obtain⟨u,ru,look⟩:=lX j x v (by rw[g.hN];exact ef') ev vis;refine⟨u,ru,.inr ⟨?_,?_⟩⟩
     ·left;show (relabel scope X.env).names.lookup x=some .cell
      have:=cI (env:=X.env) I3.ok.kind (C.hf x hx)
      rw[qan ⟨rfl,C.cl x hx⟩] at this;exact this
     ·rcases look with ⟨hk,_⟩|⟨_,c,hc,hcell⟩
      ·rw[C.cl x hx] at hk;cases hk
      ·obtain⟨c',h1,h2⟩:=clf x hx;rw[hc] at h2;cases h2;obtain⟨o,eo,ed⟩:=hcell;exact⟨c,csf x c hx h1,o,keep4 _ _ eo,ed⟩
   ·rcases csl x c e with ⟨_,_,_,q⟩|⟨q,_⟩
    ·exact⟨none,q⟩
    ·obtain⟨v,o,eo,ed⟩:=I3.cell x c q;exact⟨v,o,keep4 _ _ eo,ed⟩
   ·exact I3.hok.fresh (qak _)
   ·rcases csl x c e with ⟨_,_,q,_⟩|⟨q,_⟩
    ·exact I3.hok.fresh (qbp q)
    ·exact I3.freeC x c q
   ·show σY.length=(vars++frees).length;simp[σY,fml]
  have gY:Good (dJ X scope (cn++cl) s₃ H₃ fp (vars++frees)) (vars++frees) vars G' k:=by
   refine⟨rfl,nd,fun x hx=>?_,fun x hx=>?_,fun x hx=>?_,dbg,g.calm,g.room,PassesOwn.never⟩
   ·rcases qbf.mp hx with z|z
    ·rcases C.hv x z with z|z
     ·left
      have:=cI (env:=X.env) I3.ok.kind z
      rw[qaz (fun q=>nomatch q.1)] at this;exact this
     ·right
      have:=cI (env:=X.env) I3.ok.kind z
      rw[qaz (fun q=>nomatch q.1)] at this;exact this
    ·right
     have:=cI (env:=X.env) I3.ok.kind (C.hf x z)
     rw[qan ⟨rfl,C.cl x z⟩] at this;exact this
   ·rcases C.hv x hx with z|z
    ·right
     have:=cI (env:=X.env) I3.ok.kind z
     rw[qaz (fun q=>nomatch q.1)] at this;exact this
    ·exact .inl (decide_eq_true z)
   ·have:=cI (env:=X.env) I3.ok.kind (hgl x hx)
    rw[qaz (fun q=>nomatch q.1)] at this;exact this
  obtain⟨hg,ht,he⟩:=hY (dJ X scope (cn++cl) s₃ H₃ fp (vars++frees)) rfl rfl rfl rfl rfl rfl gY;have rsY:RS X.K (ρ1++[s₂.heap.objs.size]) H₃ (cSt vars.length fm σp) σY:=by
   refine⟨by simp[σY,cSt],fun i v e=>?_⟩;unfold cSt at e;by_cases z:vars.length<=i
   ·rw[qaF (by simpa using z),qbu,qap] at e
    cases ej:fm[i - vars.length]? with
    | none=>rw[ej] at e;cases e
    | some j =>
     rw[ej] at e;have ev:σp[j]?=some (some v):=by
      have:(σp[j]?).getD none=some v:=by simpa using e
      cases z:σp[j]? with
      | none=>rw[z] at this;cases this
      | some o=>rw[z] at this;simp at this;rw[this]
     obtain⟨v',e',rv⟩:=rs.2 j v ev;refine⟨v',?_,rv.le l13⟩;show σY[i]?=_;rw[qaF (by simpa using z),qbu,qap,ej];simp[e']
   ·rw[qal (by simp;ext),qaZ] at e
    split at e <;> cases e
  have q3:Ful X (RV' X) σp (ρ1++[s₂.heap.objs.size]) H₃ ((cGo it h1.length gt mt me it.xs (cSt vars.length fm σp) (h1++[.lst []])).bind fun _ h3=>.ok (.loc h1.length) h3) Q:=Ful.le l3 q1;have hrho:(ρ1++[s₂.heap.objs.size])[h1.length]?=some s₂.heap.objs.size:=by rw[<-rh1.len];simp
  have loop:∀s₅:Shared,s₅={ s₃ with heap:=h',toks:=s₃.toks}->codeAny (model X.prog X.w) X.A (.compLoop (.ListComp elt [⟨tg,iter,ifs,0⟩] scope pos) 0 (.ref ita) (.ref s₂.heap.objs.size) (compEnvC scope (cn++cl) s₃.heap.objs.size X.env))
    (compPost (model X.prog X.w) X.A X.xe use Qv (.ref s₂.heap.objs.size) s₃.heap.objs.size) s₅:=by
   rintro s₅ rfl;refine pd (CI X (dJ X scope (cn++cl) s₃ H₃ fp (vars++frees)) it tn fp (ρ1++[s₂.heap.objs.size]) H₃ σp h1.length gt mt me Q) ?_ it.xs.length
    ⟨0,σY,H₃,_,_,_,rfl,qbl _,invY,T.keep _ _ _ st3 (fun b _ o e=>keep4 b o e),fun b hb=>(fp3 b hb).1,Le.refl _ _,rsY,rh3,by simpa using q3⟩
   rintro n s6 ⟨i,σ6,H6,ρ6,σp6,h6,rfl,hi6,I6,st6,fr6,l6,rs6,rh6,q6⟩;have stat:∀{H':Hp},(∀b∈fp,H' b=none)->∀b∈fp,gQ (dJ X scope (cn++cl) s₃ H₃ fp (vars++frees)) [] H' b:=fun {H'} hn b hb =>
    ⟨hn b hb,(ok.exf b hb).1,ok.exfs b hb,.inl hb,(ok.exf b hb).2,fun p hp=>absurd (show p∈([]:List (Addr × Obj)) from hp) (by simp)⟩
   by_cases hlt:i<it.xs.length
   ·have ed:it.xs.drop i=it.xs[i]::it.xs.drop (i+1):=qcf hlt;rw[ed] at q6;simp only[cGo] at q6;by_cases hok:it.ok h6
    ·rw[qan hok] at q6;obtain⟨j1,_⟩:=jr ρ6 H6 h6 i (l3.trans l6) rh6 hok;obtain⟨go,yl⟩:=j1 hlt;refine thn (T.item (dJ X scope (cn++cl) s₃ H₃ fp (vars++frees)) rfl rfl rfl g.calm i [] s6 σ6 H6 (fun _ _=>False) I6 (stat fr6) st6 go) fun r s7 ⟨u,hr,h7⟩=>?_;subst hr;refine thn h7 fun _ s8 ⟨x8,H8,I8,r8,y8,st8,fr8⟩=>?_;obtain⟨ρ8,x,l8,rh8,ex,rx⟩:=yl x8 H8 y8;have ex':x=it.xs[i]:=by rw[qae hlt] at ex;exact (Option.some.inj ex).symm
     subst ex';have I8p:=I8.pinned (stat fr8) (T.obj _ _ st8);have q8:=Ful.le l8 q6;have back:∀{σ9:L2.St} {H9:Hp} {s9:Shared},Inv (dJ X scope (cn++cl) s₃ H₃ fp (vars++frees)) ([]++jW fp s8.heap) σ9 H9 s9->Inv (dJ X scope (cn++cl) s₃ H₃ fp (vars++frees)) [] σ9 H9 s9/\tn (i+1) s9.heap/\∀b∈fp,H9 b=none:=fun {σ9 H9 s9} I9=>by
      refine⟨I9.unpinned,T.keep _ _ _ st8 fun b hb o e=>(I9.pin (b,o) (qay _ (qay _ (gz hb e)))).1,fun b hb=>?_⟩;obtain⟨o,e,d⟩:=T.obj _ _ st8 b hb;exact (I9.pin (b,o) (qay _ (qay _ (gz hb e)))).2.1
     cases eg:gt it.xs[i] σp6 h6 with
     | nx σp9 h9 =>
      rw[eg] at q8;dsimp only at q8
      refine thn (hg _ s8 σ6 H8 x8 u (fun σ' H'=>∃ρ',Le ρ8 H8 ρ' H'/\RH X.K X.mg ρ' H' h9/\RS X.K ρ' H' σp9 σ') I8p r8 ⟨ρ8,σp6,h6,_,rs6.le l8,rh8,rx,by
       show ly _ _ _ (gt it.xs[i] σp6 h6) _
       rw[eg];exact fun ρ' H' σ' l r s=>⟨ρ',l,r,s⟩⟩) fun _ s9 ⟨σ9,H9,I9,ρ9,l9,rh9,rs9⟩=>?_
      have q9:=Ful.le l9 q8
      cases em:mt σp9 h9 with
      | ok b h10 =>
       rw[em,Out.ne_ok] at q9;rw[Out.bind_ok] at q9
       refine thn (ht _ s9 σ9 H9 (fun b' H'=>b'=b/\∃ρ',Le ρ9 H9 ρ' H'/\RH X.K X.mg ρ' H' h10) I9 ⟨ρ9,σp9,h9,rs9,rh9,by
        show Ful _ _ _ _ _ (mt σp9 h9) _
        rw[em];exact fun ρ' H' v' l r e=>⟨e.symm,ρ',l,r⟩⟩) fun b' s10 ⟨H10,I10,eb,ρ10,l10,rh10⟩=>?_
       subst eb;have q10:=Ful.le l10 q9
       cases b' with
       | false =>
        rw[qaz qaR] at q10 ⊢;obtain⟨I10',st10,fr10⟩:=back I10;exact⟨_,by ext,i+1,σ9,H10,ρ10,σp9,h10,rfl,hlt,I10',st10,fr10,l6.trans (l8.trans (l9.trans l10)),rs9.le l10,rh10,q10⟩
       | true =>
        rw[qan rfl] at q10 ⊢
        cases ee:me σp9 h10 with
        | ok v h11 =>
         rw[ee,Out.ne_ok] at q10;rw[Out.bind_ok] at q10
         refine thn (he _ s10 σ9 H10 (fun v' H'=>∃ρ',Le ρ10 H10 ρ' H'/\RH X.K X.mg ρ' H' h11/\RP X.K ρ' H' v v') I10 ⟨ρ10,σp9,h10,rs9.le l10,rh10,by
          show Ful _ _ _ _ _ (me σp9 h10) _
          rw[ee];exact fun ρ' H' v' l r e=>⟨ρ',l,r,e⟩⟩) fun u11 s11 ⟨v',H11,I11,ru11,ρ11,l11,rh11,rv11⟩=>?_
         have q11:=Ful.le l11 q10;have lall:Le (ρ1++[s₂.heap.objs.size]) H₃ ρ11 H11:=l6.trans (l8.trans (l9.trans (l10.trans l11)));obtain⟨oa,eoa,roa⟩:=rh11.obj (lall.get hrho);rw[eoa] at q11
         cases oa with
         | dic fz ks xs=>exact q11.elim
         | exc x=>exact q11.elim
         | lst ys =>
          dsimp only at q11;by_cases hl11:ys.length<sizeLine
          ·rw[qan hl11] at q11;obtain⟨ys',ey',ry⟩:=roa;obtain⟨rh12,l12⟩:=rh11.put (lall.get hrho) (o:=.lst (ys++[v])) (ho:=.lst (ys'++[v'])) ⟨_,rfl,ry.append (.cons rv11 .nil)⟩;have ap:=nU (X:=dJ X scope (cn++cl) s₃ H₃ fp (vars++frees)) _ s11 σ9 H11 (.ref s₂.heap.objs.size) [v'] (.ref s₂.heap.objs.size) [u11] (fun _ H'=>H'=upd H11 s₂.heap.objs.size (.lst (ys'++[v']))) I11 rfl (.cons ru11 .nil) ⟨s₂.heap.objs.size,ys',v',rfl,rfl,ey',by rw[<-ry.length];exact hl11,rfl⟩;refine thn ap fun _ s12 ⟨_,H12,I12,_,eH⟩=>?_;subst eH;obtain⟨I12',st12,fr12⟩:=back I12;exact⟨_,by ext,i+1,σ9,_,ρ11,σp9,_,rfl,hlt,I12',st12,fr12,lall.trans l12,(rs9.le l10).le (l11.trans l12),rh12,Ful.le l12 q11⟩
          ·rw[qaz hl11] at q11;exact q11.elim
        | exc x h11=>rw[ee] at q10;exact q10.elim
        | bad=>rw[ee] at q10;exact q10.elim
      | exc x h10=>rw[em] at q9;exact q9.elim
      | bad=>rw[em] at q9;exact q9.elim
     | _=>rw[eg] at q8;exact q8.elim
    ·rw[qaz hok] at q6;exact q6.elim
   ·have e:i=it.xs.length:=by ext
    rw[e,List.drop_length] at q6;simp only[cGo] at q6;by_cases hok:it.ok h6
    ·rw[qan hok] at q6;obtain⟨_,j2⟩:=jr ρ6 H6 h6 i (l3.trans l6) rh6 hok;refine thn (T.done (dJ X scope (cn++cl) s₃ H₃ fp (vars++frees)) rfl rfl rfl g.calm i [] s6 σ6 H6 (fun _ _=>False) I6 (stat fr6) st6 (j2 (by ext))) fun r s7 ⟨hr,I7⟩=>?_;subst hr;obtain⟨m7,ns7,_⟩:=I7.loc;have IX:=I3.call' (s':=s7) (ch:=fp) I7.os I7.base I7.hok I7.bare fun b hb=>by
      obtain⟨_,a2,_,a4,a5,a6⟩:=fp3 b hb;exact⟨a4,a2,a5,a6⟩
     exact fin _ _ H6 s7 m7 IX I7.free ns7 (qaT I3.lt) I3.sz (I3.nofs (qak _)) (fun x c e z=>by
      obtain⟨v,qc⟩:=I3.cell x c e
      exact absurd qc.lt (by rw[z];exact qaY _)) (fun p hp z=>absurd (qaq (I3.pin p hp).1) (by rw[z];exact qaY _)) (q6 ρ6 H6 _ (Le.refl _ _) rh6 (.loc (l6.get hrho)))
    ·rw[qaz hok] at q6;exact q6.elim
  exact codeAny_compStart_list (loop _ rfl) (T.self X.A 0 _ _ _ (T.keep _ _ _ st3 (fun b _ o e=>keep4 b o e)) (loop _ rfl))
 exact goal3
def sG(g:Good X N W G k){tg iter elt:Expr}{ifs:List Expr}{scope:Scope}{pos:Pos}{vars frees G':List Str}{fm:List Nat}{mi:Mx MIt}{gt:Mg}{mt:Mx Bool}{me:Mx PV}(C:CompOk X N scope vars frees fm)
  (nd:(vars++frees).Nodup) (hgl:∀x∈G',scope.names.lookup x=some .globalImplicit) (dbg:∀x∈(vars++frees)++G',(x == ("__debug__":Str))=false/\(x == ("__classdict__":Str))=false/\x≠"__name__")
  (hi:MI X tg iter mi)
  (hY:∀Y:Cx,Y.prog=X.prog->Y.w=X.w->Y.K=X.K->Y.mg=X.mg->Y.base=X.base->Y.env.scope=relabel scope X.env->Good Y (vars++frees) vars G' k->MG Y tg gt/\MTs Y ifs mt/\ME Y elt me)
  (hs:∀x,foldedSetIterable iter X.env x=pure x:=by intro _;rfl):ME X (.ListComp elt [⟨tg,iter,ifs,0⟩] scope pos) (cU vars.length fm mi gt mt me):=by
 intro Il s σ H Q I tm;rw[eval_ListComp];refine og g C nd hgl dbg hi hY hs I tm fun acc D H6 s7 m7 IX hC ns hL hz hfs hcl hp q=>?_;refine⟨m7,ns,fun h'' hsb=>⟨.ref acc,H6,?_,rfl,q⟩⟩;exact IX.turned (it:=D) (t':=s7.toks) (fun b o hb e=>hsb.extBut b o hb e) hC hL (.inr hz) hcl hp
def sA(g:Good X N W G k)(i:Nat){y:Str}{py spos:Pos}{tg iter elt:Expr}{ifs:List Expr}{scope:Scope}{pos:Pos}{vars frees G':List Str}{fm:List Nat}{mi:Mx MIt}{gt:Mg}{mt:Mx Bool}{me:Mx PV}(hyi:N[i]?=some y)(hw:W[i]?=some y)
  (hsw:swapsWith (.ListComp elt [⟨tg,iter,ifs,0⟩] scope pos) (some (.Name y py)) spos.line X.env=pure true) (C:CompOk X N scope vars frees fm)
  (nd:(vars++frees).Nodup) (hgl:∀x∈G',scope.names.lookup x=some .globalImplicit) (dbg:∀x∈(vars++frees)++G',(x == ("__debug__":Str))=false/\(x == ("__classdict__":Str))=false/\x≠"__name__")
  (hi:MI X tg iter mi)
  (hY:∀Y:Cx,Y.prog=X.prog->Y.w=X.w->Y.K=X.K->Y.mg=X.mg->Y.base=X.base->Y.env.scope=relabel scope X.env->Good Y (vars++frees) vars G' k->MG Y tg gt/\MTs Y ifs mt/\ME Y elt me)
  (hs:∀x,foldedSetIterable iter X.env x=pure x:=by intro _;rfl):MS X (.Assign [.Name y py] (.ListComp elt [⟨tg,iter,ifs,0⟩] scope pos) spos) (aP i (cU vars.length fm mi gt mt me)):=by
 intro Il s σ H D I tm;obtain⟨ρ,σp,h,rs,rh,q⟩:=tm;rw[exec_Assign_Name_used _ _ _ _ hsw];refine qad (wpAny_standAt (qad ?_));show wpAny _ X.A (do let _ <-comprehension (.ListComp elt [⟨tg,iter,ifs,0⟩] scope pos) scope X.env _ (newList []) false (eval iter X.env) (some (assign (.Name y py) X.env))) _ _ s
 refine qad (wpAny_mono (og (pos:=pos) g C nd hgl dbg hi hY hs (use:=some (assign (.Name y py) X.env)) (Qv:=fun _ s'=>SP X Il D .next s') (pp:=firstIterPos [⟨tg,iter,ifs,0⟩] pos) (Q:=fun v H'=>D.nx (σ.set i (some v)) H') I
  ⟨ρ,σp,h,rs,rh,bC.ex q fun ρ1 H1 v v' h1 l r z w=>w ρ1 H1 _ (Le.refl _ _) r ((rs.le l).set i z)⟩ fun acc D' H6 s7 m7 IX hC ns hL hz hfs hcl hp q6=>?_) (fun _ s' hq=>qat (qat hq)) fun _ _ e=>e)
 ·obtain⟨o,es,ep,ho,hd,hr⟩:=id ns;have IP:Inv X (Il++[(D',o)]) σ H6 s7:=IX.pins_of fun p hp'=>(qbf.mp hp').elim (fun z=>IX.pin p (qay _ z)) fun z=>by
   have e:p=(D',o):=by simpa using z
   subst e;exact⟨ho,hC,hL,hfs,fun v z=>by rw[hd] at z;cases z⟩
  have st:=sE (X:=X) (pos:=py) (by rw[g.hN];exact g.nd) (g.x hyi) (g.loc y (bn hyi)) (g.fn y (bn hw)) (Il++[(D',o)]) s7 σ H6 (.ref acc) (.ref acc) (fun σ' H'=>σ'=σ.set i (some (.ref acc))/\H'=H6) IP rfl ⟨rfl,rfl⟩;refine thn st fun _ s8 ⟨σ8,H8,I8,e1,e2⟩=>?_;subst e1;subst e2;have pn:=I8.pin (D',o) (qay _ (qay _ (by simp)));refine⟨m7,⟨o,es,ep,pn.1,hd,hr⟩,fun h'' hsb=>⟨_,_,?_,q6⟩⟩;exact (I8.unpinned).turned (it:=D') (t':=s8.toks) (fun b o hb e=>hsb.extBut b o hb e) hC hL (.inr hz) hcl hp
end
section
variable {X:Cx} {N W G:List Str} {k:Nat} {σ:L2.St} {H:Hp} {s:Shared}
end
section
variable {prog:Program} {w:World} {A:Around} {E:Value→Shared→Prop} {h:Heap} {g:Array GenState} {d:Drawn} {t:Nat} {os:OsState} {a C:Addr} {o:Obj} {K:qab}
end
section
variable {X:Cx} {N W G:List Str} {k:Nat}
end
def qu{p:Str->Prop}{a:Str}{l:List Str}(h:p a)(t:∀x∈l,p x):∀x∈a::l,p x:=fun x hx=>by
 rcases qam.mp hx with rfl|z
 ·exact h
 ·exact t x z
section
variable {X:Cx} {N W G:List Str} {k:Nat}
def Cal.at(e1:Y.prog=X.prog)(e2:Y.w=X.w)(e3:Y.K=X.K)(e4:Y.mg=X.mg)(e5:Y.base=X.base)(c:Cal X x ps F i):Cal Y x ps F i:=c.to e1 e2 e3 e4 e5
end
end MM
namespace MM
open PySem PySem.Spec PyProof.Rows L2
def compOk(hsc:X.env.scope=sc)(h1:scope.kind=.function)(h2:∀y∈scope.names,y.2=.cell->scope.names.lookup y.1=some .cell)(h3:∀y∈scope.names,y.2=.local->scope.names.lookup y.1=some .local)(h4:∀x∈vars,scope.names.lookup x=some .local\/scope.names.lookup x=some .cell)
  (h5:∀x∈frees,scope.names.lookup x=some .free) (h6:∀y∈scope.names,y.2=.free->y.1∈frees) (h7:fm.map (fun i=>N[i]?)=frees.map some) (h8:∀x∈frees,sc.names.lookup x=some .cell):CompOk X N scope vars frees fm :=
 ⟨h1,h2,h3,h4,h5,h6,h7,fun x hx=>by rw[<-hsc] at h8;exact h8 x hx⟩
end MM
namespace MM
open PySem PySem.Spec PyProof.Rows L2
local instance (priority:=1) cdec16 (p:Prop):Decidable p:=Classical.propDecidable p
section
variable {σ:PSt} {h:MH}
@[simp] theorem mComp_ap{nv:Nat}{fm:List Nat}{mi:Mx MIt}{gt:Mg}{mt:Mx Bool}{me:Mx PV}:cU nv fm mi gt mt me σ h =
 (mi σ h).bind fun it h1=>(cGo it h1.length gt mt me it.xs (cSt nv fm σ) (h1++[.lst []])).bind fun _ h3=>.ok (.loc h1.length) h3:=rfl
def app_0{o:MO}{g:MH}:(h++o::g)[h.length]?=some o:=by simp
end
end MM
namespace MM
open PySem PySem.Spec PyProof.Rows L2
end MM
namespace MM
open PySem PySem.Spec PyProof.Rows L2
local instance (priority:=1) cdec18 (p:Prop):Decidable p:=Classical.propDecidable p
def mMt(f:Nat->List PV->MH->Out PV)(m:Mx PV)(ma:Mx (List PV)):Mx PV:=fun σ h=>(m σ h).bind fun o h1=>match o with
 | .loc n=>(match h1[n]? with
  | some (.lst _)=>(ma σ h1).bind fun vs h2=>(f n vs h2).ne
  | _=>.bad)
 | _=>.bad
def fG(n:Nat)(vs:List PV)(h:MH):Out PV:=match vs,h[n]? with
 | [v],some (.lst xs)=>if xs.length<sizeLine then .ok .non (h.set n (.lst (xs++[v]))) else .bad
 | _,_=>.bad
section
variable {X:Cx} {N W G:List Str} {k:Nat}
def mtJ(X:Cx)(f:Nat->List PV->MH->Out PV):V->List V->Hp->VK->Prop:=fun x vs H Q=>∃ρ h n a ps,x=.ref a/\ρ[n]?=some a/\RH X.K X.mg ρ H h/\RPs X.K ρ H ps vs/\iH X (RV' X) ρ H (f n ps h) Q
def oB:MtR X "list.append" (mtJ X fG):=by
 intro Il s σ H x vs v us Q I rx rv ⟨ρ,h,n,a,ps,e,en,rh,rp,q⟩;subst e;obtain⟨o,eo,ro⟩:=rh.obj en;unfold fG at q
 cases rp with
 | nil=>rw[eo] at q;exact q.elim
 | cons r1 t1 =>
  cases t1 with
  | cons _ _=>rw[eo] at q;exact q.elim
  | nil =>
   rw[eo] at q
   cases o with
   | lst xs =>
    dsimp only at q;by_cases hl:xs.length<sizeLine
    ·rw[qan hl] at q;obtain⟨ys,ey,ry⟩:=ro;obtain⟨rh',l'⟩:=rh.put en (o:=.lst (xs++[_])) (ho:=.lst (ys++[_])) ⟨_,rfl,ry.append (.cons r1 .nil)⟩;exact nU Il s σ H _ _ v us Q I rx rv ⟨a,ys,_,rfl,rfl,ey,by rw[<-ry.length];exact hl,q ρ _ .non l' rh' .non⟩
    ·rw[qaz hl] at q;exact q.elim
   | _=>exact q.elim
variable {o e:Expr} {es:List Expr} {name:Str} {apos cpos:Pos} {id:String} {f:Nat→List PV→MH→Out PV} {m:Mx PV} {ma:Mx (List PV)}
def tM_mt{ta:TA}(hna:∀σ H Q,tM X (RVs' X) ma σ H Q->ta σ H Q){σ:L2.St}{H:Hp}{Q:VK}(tm:tM X (RV' X) (mMt f m ma) σ H Q):tM X (RV' X) m σ H (fun x H1=>tyV X.K "list" x H1/\ta σ H1 fun xs H2=>mtJ X f x xs H2 Q):=by
 obtain⟨ρ,σp,h,rs,rh,q⟩:=tm;refine⟨ρ,σp,h,rs,rh,?_⟩;unfold mMt at q;refine Ful.bind q fun ρ1 H1 x x' h1 _ l1 rh1 rx q1=>?_
 cases rx with
 | @loc n a en =>
  obtain⟨ob,eo,ro⟩:=rh1.obj en;dsimp only at q1;rw[eo] at q1
  cases ob with
  | lst xs =>
   obtain⟨ys,ey,ry⟩:=ro;refine⟨.inl ⟨rfl,ys,SqL.of ey⟩,hna σ H1 _ ⟨ρ1,σp,h1,rs.le l1,rh1,?_⟩⟩;exact Ful.bind q1 fun ρ2 H2 vs vs' h2 _ l2 rh2 rvs q2=>⟨ρ2,h2,n,a,vs,rfl,l2.get en,rh2,rvs,q2.zero⟩
  | _=>exact q1.elim
 | _=>exact q1.elim
def uP(slot:Slot "list" name id)(hty:typeOf (.builtin id)=pure (.type "method_descriptor"))(hm:MtR X id (mtJ X f))(ho:ME X o m)(ha:MA X (e::es) ma)
  (hbase:attributeBase o name X.env (eval o X.env)=eval o X.env:=by rfl)
  (hfew:((backTo cpos (starEach (e::es) X.env)).all (fun x=>!x.1) && (backToKw cpos (keywordEach [] X.env)).all (fun x=>x.1.isSome)
   && decide ((e::es).length+([]:List Keyword).length+(if ([]:List Keyword).isEmpty then 0 else 1)<30))=true:=by rfl)
  (hline:(apos.endLine == cpos.line)=true:=by rfl) (hs:starEach (e::es) X.env=(false,eval e X.env)::starEach es X.env:=by rfl) (hplain:(backTo cpos (starEach es X.env)).any (·.1)=false:=by rfl) :
  ME X (.Call (.Attribute o name apos) (e::es) [] cpos) (mMt f m ma) :=
 PE.imp (pe_bm PySem.F.plainAttrs_list slot hty hm ho ha hbase hfew hline hs hplain) fun σ H Q q=>tM_mt (fun _ _ _ z=>z) q
@[simp] theorem mMt_ap:mMt f m ma σ h=(m σ h).bind fun o h1=>match o with
 | .loc n=>(match h1[n]? with
  | some (.lst _)=>(ma σ h1).bind fun vs h2=>(f n vs h2).ne
  | _=>.bad)
 | _=>.bad:=rfl
end
end MM
namespace MM
open PySem PySem.Spec PyProof.Rows L2
end MM
namespace MM
open PySem PySem.Spec PyProof.Rows L2
local instance (priority:=1) cdec20 (p:Prop):Decidable p:=Classical.propDecidable p
def cT(h:MH):PV->Option (List PV)
 | .tup xs=>some xs
 | .frl xs=>some xs
 | .loc n=>(match h[n]? with
  | some (.lst xs)=>some xs
  | _=>none)
 | _=>none
section
variable {X:Cx} {N W G:List Str} {k:Nat}
def kf(rh:RH X.K X.mg ρ H h)(rx:RP X.K ρ H x x')(e:cT h x=some xs):∃a ys,x'=.ref a/\(SqL X.K H a ys\/SqT X.K H a ys)/\RPs X.K ρ H xs ys:=by
 cases rx with
 | tup s r=>cases e;exact⟨_,_,rfl,.inr s,r⟩
 | frl s r=>cases e;exact⟨_,_,rfl,.inl s.sq,r⟩
 | @loc n a en =>
  obtain⟨o,eo,ro⟩:=rh.obj en;simp only[cT,eo] at e
  cases o with
  | lst ys =>
   cases e;obtain⟨zs,ez,rz⟩:=ro;exact⟨a,zs,rfl,.inl (SqL.of ez),rz⟩
  | _=>cases e
 | _=>cases e
variable {a b c:Expr} {ma mb mc:Mx PV} {f g':PV→PV→MH→Out PV} {op op':CmpOp} {pos:Pos}
def fList(xs:List PV)(h:MH):Out PV:=match xs with
 | [x]=>(match cT h x with
  | some ys=>newL ys h
  | none=>.bad)
 | _=>.bad
def fTuple(xs:List PV)(h:MH):Out PV:=match xs with
 | [x]=>(match cT h x with
  | some ys=>.ok (.tup ys) h
  | none=>.bad)
 | _=>.bad
def m6:cO X (.type "list") fList:=by
 intro Il s σ H xs us Q I r ⟨ρ,h,ps,rh,rp,q⟩
 cases rp with
 | nil=>exact q.elim
 | cons r1 t1 =>
  cases t1 with
  | cons _ _=>exact q.elim
  | nil =>
   rename_i x y
   unfold fList at q
   cases es:cT h x with
   | none=>simp only[es] at q;exact q.elim
   | some ys =>
    simp only[es] at q;obtain⟨a,zs,rfl,hsq,rzs⟩:=kf rh r1 es;obtain⟨_,q'⟩:=kK rh rzs q;exact pN Il s σ H _ us Q I r ⟨a,zs,rfl,hsq,q'⟩
def pX:cO X (.type "tuple") fTuple:=by
 intro Il s σ H xs us Q I r ⟨ρ,h,ps,rh,rp,q⟩
 cases rp with
 | nil=>exact q.elim
 | cons r1 t1 =>
  cases t1 with
  | cons _ _=>exact q.elim
  | nil =>
   rename_i x y
   unfold fTuple at q
   cases es:cT h x with
   | none=>simp only[es] at q;exact q.elim
   | some ys =>
    simp only[es] at q;obtain⟨a,zs,rfl,hsq,rzs⟩:=kf rh r1 es;rcases hsq with hq|hq
    ·refine jI Il s σ H _ us Q I r ⟨a,zs,rfl,.inl ⟨hq,fun l hl=>?_⟩⟩;obtain⟨r',l'⟩:=rh.tup hl zs;exact q ρ _ _ l' r' (.tup (SqT.of cz) (rzs.le l'))
    ·exact jI Il s σ H _ us Q I r ⟨a,zs,rfl,.inr ⟨hq,q ρ H _ (Le.refl _ _) rh (.tup hq rzs)⟩⟩
def fK(xs:List PV)(lo hi:Option Int):List PV:=(xs.drop (HT.sIx xs.length 0 lo)).take (HT.sIx xs.length xs.length hi - HT.sIx xs.length 0 lo)
def fSl(x:PV)(lo hi:Option Int)(h:MH):Out PV:=match x with
 | .tup xs=>if HT.sIx xs.length 0 lo=0/\HT.sIx xs.length xs.length hi=xs.length then .bad else .ok (.tup (fK xs lo hi)) h
 | .frl xs=>.ok (.loc h.length) (h++[.lst (fK xs lo hi)])
 | .loc n=>(match h[n]? with
  | some (.lst xs)=>.ok (.loc h.length) (h++[.lst (fK xs lo hi)])
  | _=>.bad)
 | _=>.bad
def slJ(X:Cx)(f:PV->Option Int->Option Int->MH->Out PV):V->Option Int->Option Int->Hp->VK->Prop:=fun x' lo hi H Q=>∃ρ h x,RH X.K X.mg ρ H h/\RP X.K ρ H x x'/\iH X (RV' X) ρ H (f x lo hi h) Q
def nC{K:qab}{ρ:List Addr}{H:Hp}{xs:List PV}{ys:List V}(r:RPs K ρ H xs ys)(lo hi:Option Int):RPs K ρ H (fK xs lo hi) (gP ys lo hi):=by
 unfold fK gP;rw[r.length];exact (r.drop _).take _
def sj_sl:SlR X (slJ X fSl):=by
 intro Il s σ H x' v vl vu lo hi sl Q I rx hs pl pu ⟨ρ,h,x,rh,rxx,q⟩
 cases rxx with
 | tup s1 r1 =>
  unfold fSl at q;dsimp only at q
  rename_i xs a ys
  by_cases z:HT.sIx xs.length 0 lo=0/\HT.sIx xs.length xs.length hi=xs.length
  ·rw[qan z] at q;exact q.elim
  ·rw[qaz z] at q;refine sl_tup Il s σ H _ v vl vu lo hi sl Q I rx hs pl pu ⟨a,ys,rfl,s1,by rw[<-r1.length];exact z,fun p hp=>?_⟩;obtain⟨r',l'⟩:=rh.tup hp (gP ys lo hi);exact q ρ _ _ l' r' (.tup (SqT.of cz) ((nC r1 lo hi).le l'))
 | frl s1 r1 =>
  rename_i xs a ys
  refine sK Il s σ H _ v vl vu lo hi sl Q I rx hs pl pu ⟨a,ys,rfl,s1.sq,fun p hp=>?_⟩;obtain⟨r',l'⟩:=rh.new hp (o:=.lst (fK xs lo hi)) (ho:=.lst (gP ys lo hi)) ⟨_,rfl,nC r1 lo hi⟩;exact q _ _ _ l' r' (.loc (by rw[<-rh.len];simp))
 | @loc n a en =>
  obtain⟨o,eo,ro⟩:=rh.obj en;unfold fSl at q;dsimp only at q;rw[eo] at q
  cases o with
  | lst xs =>
   obtain⟨ys,ey,ry⟩:=ro;refine sK Il s σ H _ v vl vu lo hi sl Q I rx hs pl pu ⟨a,ys,rfl,SqL.of ey,fun p hp=>?_⟩;obtain⟨r',l'⟩:=rh.new hp (o:=.lst (fK xs lo hi)) (ho:=.lst (gP ys lo hi)) ⟨_,rfl,nC ry lo hi⟩;exact q _ _ _ l' r' (.loc (by rw[<-rh.len];simp))
  | _=>exact q.elim
 | _=>exact q.elim
def MO'(X:Cx)(e:Option Expr)(m:Mx (Option Int)):Prop:=PO X e (tM X REq m)
def mNo:Mx (Option Int):=fun _ h=>.ok none h
def mPt(m:Mx PV):Mx (Option Int):=fun σ h=>(m σ h).bind fun v h1=>match v with
 | .int i=>.ok (some i) h1
 | _=>.bad
def mo_none:MO' X none mNo:=fun Il s σ H Q I ⟨ρ,σp,h,rs,rh,q⟩=>po_none Il s σ H Q I (q ρ H none (Le.refl _ _) rh rfl)
def mo_some(h:ME X e m):MO' X (some e) (mPt m):=fun Il s σ H Q I ⟨ρ,σp,hh,rs,rh,q⟩=>po_some h Il s σ H Q I ⟨ρ,σp,hh,rs,rh,Ful.bind q fun ρ1 H1 v v' h1 _ l1 rh1 rv q1=>by
 cases rv with
 | int i=>exact⟨i,rfl,q1 ρ1 H1 (some i) (Le.refl _ _) rh1 rfl⟩
 | _=>exact q1.elim⟩
def mSl(m:Mx PV)(ml mh:Mx (Option Int)):Mx PV:=fun σ h=>(m σ h).bind fun x h1=>(ml σ h1).bind fun lo h2=>(mh σ h2).bind fun hi h3=>(fSl x lo hi h3).ne
def me_sl{e:Expr}{lo hi:Option Expr}{m:Mx PV}{ml mh:Mx (Option Int)}{p2:Pos}(he:ME X e m)(hl:MO' X lo ml)(hu:MO' X hi mh):ME X (.Subscript e (.Slice lo hi none p2) pos) (mSl m ml mh) :=
 PE.imp (wZ sj_sl he hl hu) fun σ H Q ⟨ρ,σp,h,rs,rh,q⟩=>⟨ρ,σp,h,rs,rh,Ful.bind q fun ρ1 H1 x x' h1 _ l1 rh1 rx q1=>⟨ρ1,σp,h1,rs.le l1,rh1,Ful.bind q1 fun ρ2 H2 lo lo' h2 _ l2 rh2 el q2=>by
  subst el
  exact⟨ρ2,σp,h2,rs.le (l1.trans l2),rh2,Ful.bind q2 fun ρ3 H3 hi hi' h3 _ l3 rh3 eh q3=>by
   subst eh
   exact⟨ρ3,h3,x,rh3,(rx.le l2).le l3,q3.zero⟩⟩⟩⟩
end
section
variable {X:Cx} {N W G:List Str} {k:Nat}
def ym{A:Around}{E:Value->Shared->Prop}{Il:List (Addr × Obj)}{σ:L2.St}{H:Hp}{s:Shared}{a:Addr}{ys:List V}{Q:Value->Shared->Prop}(hh:A.handled=none)(I:Inv X Il σ H s)(hq:SqL X.K H a ys\/SqT X.K H a ys)
  (h:∀(its:List Value) (h2:Heap) (It:Addr) (St:Nat->Heap->Prop),aI ys its->Walks X.prog X.w A It [It,a] [It] its.toArray.size (fun i v=>its.toArray[i]?=some v) St->St 0 h2->(∀b∈[It,a],b<h2.objs.size)->(∀b o,s.heap.get? b=some o->h2.get? b=some o)->s.heap.objs.size=It->Q (.ref It) { s with heap:=h2}) :
  wpAny (model X.prog X.w) A (pyIter (.ref a)) Q E s:=by
 have sz:∀(o:Obj),a<s.heap.objs.size->∀b∈[s.heap.objs.size,a],b<(s.heap.push o).objs.size:=fun o hlt b hb=>by
  rw[qaX];rcases qam.mp hb with rfl|hb
  ·exact qcp _
  ·rcases qam.mp hb with rfl|hb
   ·exact qci hlt
   ·cases hb
 rcases hq with hq|hq
 ·obtain⟨its,rv,pl,_⟩:=I.list hq;have hl:=pl.isList;have hlt:a<s.heap.objs.size:=by obtain⟨_,e,_⟩:=hl;exact qaq e
  exact wpAny_pyIter_list hl (h its _ _ _ rv (Walks.list hh _ a (qaM hlt) its.toArray) ⟨⟨_,qax _ rfl,rfl,rfl⟩,hl.push _⟩ (sz _ hlt) (fun b o e=>qac _ e) rfl)
 ·obtain⟨its,rv,hl,_⟩:=I.tuple hq;have hlt:a<s.heap.objs.size:=by obtain⟨_,e,_⟩:=hl;exact qaq e
  exact wpAny_pyIter_tuple hl (h its _ _ _ rv (Walks.tuple hh _ a (qaM hlt) its.toArray) ⟨⟨_,qax _ rfl,rfl,rfl⟩,hl.push _⟩ (sz _ hlt) (fun b o e=>qac _ e) rfl)
def kept2{s:Shared}{h2 h':Heap}{It:Addr}(k1:∀b o,s.heap.get? b=some o->h2.get? b=some o)(e:s.heap.objs.size=It)(k2:∀b o,b∉[It]->h2.get? b=some o->h'.get? b=some o):∀b o,s.heap.get? b=some o->h'.get? b=some o:=fun b o q=>by
 refine k2 b o (fun hm=>?_) (k1 b o q)
 have:b=It:=by simpa using hm
 exact absurd (qaq q) (by rw[this,e];exact qaY _)
def lA:List PV->Option (List Bool)
 | []=>some []
 | .bl b::r=>(lA r).map (b::·)
 | _=>none
def bls_rel{K:qab}{ρ:List Addr}{H:Hp}:∀{xs:List PV} {ys:List V} {bs:List Bool} {us:List Value},RPs K ρ H xs ys->aI ys us->lA xs=some bs->us=bs.map Value.bool:=by
 intro xs
 induction xs with
 | nil=>intro ys bs us r v e;cases r;cases v;cases e;rfl
 | cons x xs ih =>
  intro ys bs us r v e
  cases r with
  | cons r1 r2 =>
   cases v with
   | cons v1 v2 =>
    cases r1 with
    | bl b =>
     simp only[lA,qas] at e;obtain⟨bs',e',rfl⟩:=e;rw[ih r2 v2 e',show _=Value.bool b from v1];rfl
    | _=>cases e
def rm(bs:List Bool):TruthOf X.prog X.w A (fun i v=>(bs.map Value.bool).toArray[i]?=some v) (fun i=>bs.getD i false):=fun i v s Q E hP hQ=>by
 have:v=.bool (bs.getD i false):=by
  have hP:(List.map Value.bool bs).toArray[i]?=some v:=hP;rw[List.getElem?_toArray,qap,qas] at hP;obtain⟨b,e,rfl⟩:=hP;rw[qaa,e];rfl
 subst this;exact wpAny_truthy_bool hQ
def v6(bs:List Bool):(List.range bs.length).all (fun i=>bs.getD i false)=bs.all id:=by
 induction bs with
 | nil=>rfl
 | cons b r ih =>
  rw[qaA,qcv,List.all_cons,List.all_map,List.all_cons,<-ih];rfl
def fAll(xs:List PV)(h:MH):Out PV:=match xs with
 | [x]=>(match (cT h x).bind lA with
  | some bs=>.ok (.bl (bs.all id)) h
  | none=>.bad)
 | _=>.bad
def cj_all(g:Good X N W G k):cO X (.builtin "all") fAll:=by
 intro Il s σ H xs us Q I r ⟨ρ,h,ps,rh,rp,q⟩
 cases rp with
 | nil=>exact q.elim
 | cons r1 t1 =>
  cases t1 with
  | cons _ _=>exact q.elim
  | nil =>
   rename_i x y
   unfold fAll at q
   cases es:(cT h x).bind lA with
   | none=>simp only[es] at q;exact q.elim
   | some bs =>
    simp only[es] at q;obtain⟨ys,e1,e2⟩:=qbh.mp es;obtain⟨a,zs,rfl,hsq,rzs⟩:=kf rh r1 e1
    cases r with
    | cons ru tu =>
     cases tu;cases ru;refine call_all_walk (ym (A:=X.A.in1) g.room.hd I hsq fun its h2 It St rv Wk st fp kp esz=>?_);have ei:=bls_rel rzs rv e2;refine⟨It,_,_,_,_,St,_,rfl,Wk,st,by rw[ei];exact rm bs,fun h' tk kk=>?_⟩;have el:its.toArray.size=bs.length:=by rw[ei];simp
     rw[el,v6];exact⟨.bl _,H,I.kept (kept2 kp esz kk),rfl,q ρ H _ (Le.refl _ _) rh (.bl _)⟩
end
def RH.loose{K:qab}{mg:MGl}{ρ:List Addr}{H:Hp}{h:MH}(r:RH K mg ρ H h){p:Addr}(hp:H p=none)(ho:HO):RH K mg ρ (upd H p ho) h/\Le ρ H ρ (upd H p ho):=by
 have hne:∀n a,ρ[n]?=some a->a≠p:=fun n a e z=>by
  obtain⟨o',_,q⟩:=r.obj e;rw[z,hp] at q;exact q.some rfl
 have l:Le ρ H ρ (upd H p ho):=⟨⟨[],by simp⟩,fun a xs e=>by rw[bj (bX e hp)];exact e,fun a ob u e=>by rw[bj (bX e hp)];exact e⟩;exact⟨⟨r.len,r.nd,fun n a o e1 e2=>by rw[bj (hne n a e1)];exact (r.at' n a o e1 e2).le l⟩,l⟩
section
variable {X:Cx} {N W G:List Str} {k:Nat}
def j9(xs:List PV)(i:Int)(v:PV):List PV :=
 let k:=if i<0 then (i+(xs.length:Int)).toNat else min i.toNat xs.length
 xs.take k++v::xs.drop k
def kJ(n:Nat)(vs:List PV)(h:MH):Out PV:=match vs with
 | [.int i,v]=>(match h[n]? with
  | some (.lst xs)=>if (-(2 ^ 63)<=i/\i<2 ^ 63)/\xs.length<sizeLine then .ok .non (h.set n (.lst (j9 xs i v))) else .bad
  | _=>.bad)
 | _=>.bad
def uR:MtR X "list.insert" (mtJ X kJ):=by
 intro Il s σ H x vs v us Q I rx rv ⟨ρ,h,n,a,ps,e,en,rh,rp,q⟩;subst e;obtain⟨o,eo,ro⟩:=rh.obj en;unfold kJ at q
 split at q
 ·rename_i i vv
  cases rp with
  | cons r1 t1 =>
   cases t1 with
   | cons r2 t2 =>
    cases t2;cases r1;rw[eo] at q
    cases o with
    | lst xs =>
     dsimp only at q;by_cases hl:(-(2 ^ 63)<=i/\i<2 ^ 63)/\xs.length<sizeLine
     ·rw[qan hl] at q;obtain⟨ys,ey,ry⟩:=ro;cases rx
      cases rv with
      | cons rv1 tv1=>cases tv1 with
       | cons rv2 tv2 =>
        cases tv2
        rename_i v' u1 u2
        obtain⟨t,rfl⟩:=rv1;obtain⟨z,its,nn,r,hlen,e⟩:=I.lstM ey
        let kk:=if i<0 then (i+(its.length:Int)).toNat else min i.toNat its.length
        have rel:RPs X.K ρ H (j9 xs i vv) (ys.take kk++v'::ys.drop kk):=by
         have:(if i<0 then (i+(xs.length:Int)).toNat else min i.toNat xs.length)=kk:=by
          show _=(if i<0 then (i+(its.length:Int)).toNat else min i.toNat its.length);rw[ry.length,hlen]
         unfold j9;rw[this];exact (ry.take kk).append (.cons r2 (ry.drop kk))
        obtain⟨rh',l'⟩:=rh.put en (o:=.lst (j9 xs i vv)) (ho:=.lst (ys.take kk++v'::ys.drop kk)) ⟨_,rfl,rel⟩;refine call_meets PySem.F.slot_list_insert ⟨_,e,rfl⟩ PySem.F.entry_list_insert (PySem.F.args_list_insert_3 _ _ _) (AutoListH.list_insert_list_int_val_1 a its.toArray nn i t u2 (by rw[fitsIndex_both hl.1.1 hl.1.2];simp) (by rw[qav];ext)) ⟨e,?_⟩;have vals:aI (ys.take kk++v'::ys.drop kk) (its.take kk++u2::its.drop kk):=(r.take kk).append (.cons rv2 (r.drop kk));have hlz:(ys.take kk++v'::ys.drop kk).length<=sizeLine:=by
         rw[<-rel.length];have e1:(j9 xs i vv).length=xs.length+1:=by
          unfold j9;simp only[qbg,qaA,qbt,qbS];ext
         ext
        refine⟨.non,_,I.lset (its':=its.take kk++u2::its.drop kk) ey e ?_ vals hlz,rfl,q ρ _ .non l' rh' .non⟩;apply Array.ext';simp only[Array.toList_append,Array.toList_push,Array.toList_extract,qav];simp[kk,List.extract];refine qcw ?_;rw[qbS];exact qak _
     ·rw[qaz hl] at q;exact q.elim
    | _=>exact q.elim
 ·exact q.elim
def tRng1(ta:TA):TE:=fun σ H Q=>ta σ H fun vs H1=>∃j:Int,vs=[.int j] /\ -(2 ^ 62)<=j/\j<2 ^ 62/\∀p,H1 p=none->Q (.ref p) (upd H1 p (.rng 0 j))
def vt(hg:Gl X "range")(hm:X.mg "range"=none)(ha:PA X [a] ta)(hs:starEach [a] X.env=[(false,eval a X.env)]:=by rfl):PE X (.Call (.Name "range" p) [a] [] pos) (tRng1 ta):=by
 intro Il s σ H R I h;refine Call_ (gX I hg hm boot_range (PyProof.Rows.callWith_type1 (thn (ha pos Il s σ H _ I h) fun us s1 ⟨vs,H1,I1,r1,q1⟩=>?_) hs rfl));obtain⟨j,e,q1,q2,q⟩:=q1;subst e
 cases r1 with
 | cons r rr =>
  cases rr;obtain⟨t,rfl⟩:=r;refine call_range_1 ⟨.ref s1.heap.objs.size,_,I1.laid (o:=.rng 0 j) (fun b o e=>qac _ e) (qak _) ?_,rfl,q _ (I1.hok.fresh (qak _))⟩;exact⟨_,_,_,qax _ rfl⟩
def lN:∀(n:Nat) (lo:Int) (us:List Value),us.length=n->(∀(i:Nat) (v:Value),us[i]?=some v->∃t,v=.int (lo+i) t)->aI ((List.range n).map fun i=>V.int (lo+(i:Nat))) us
 | 0,lo,us,hl,_=>by cases us with | nil=>exact .nil | cons _ _=>simp at hl
 | n+1,lo,us,hl,h=>by
  cases us with
  | nil=>simp at hl
  | cons u us =>
   rw[qcv,qao,qaE];obtain⟨t,e⟩:=h 0 u rfl;refine .cons ⟨t,e⟩ ?_;have ih:=lN n (lo+1) us (by simpa using hl) fun i v hv=>by
    obtain⟨t,e⟩:=h (i+1) v (by simpa using hv);exact⟨t,by rw[e];congr 1;push_cast;ext⟩
   have e2:((fun i=>V.int (lo+((i:Nat):Int)))∘Nat.succ)=fun i=>V.int (lo+1+((i:Nat):Int)):=by
    funext i;simp only[Function.comp];congr 1;push_cast;ext
   rw[e2];exact ih
def oN(hh:X.calm=true):dY X (.type "list") (fun xs H Q=>∃r j,xs=[.ref r]/\H r=some (.rng 0 j) /\ -(2 ^ 62)<=j/\j<2 ^ 62/\j.toNat<=sizeLine/\∀l,H l=none->Q (.ref l) (upd H l (.lst ((List.range j.toNat).map fun i=>V.int (0+(i:Nat)))))):=by
 intro Il s σ H xs us Q I r ⟨ra,j,e,hr,h1,h2,h3,q⟩;subst e
 cases r with
 | cons r1 t1 =>
  cases t1;cases r1;obtain⟨t,u,v,ho⟩:=(show ObjOk X.prog X.w H s.heap ra (.rng 0 j) from I.hok ra _ hr);refine call_list_range (n:=j.toNat) (I.ok.hd hh) ho (small_one (by ext) (by ext) h1 h2) (by rw[rangeSize_one];split <;> ext) h3 fun h' tk acc' c' kp e it=>?_;have va:aI ((List.range j.toNat).map fun i=>V.int (0+(i:Nat))) acc'.toList:=lN _ 0 _ (by rw[qby];exact it.1) fun i v hv=>by
   obtain⟨t,e⟩:=it.2 i v (by rw[<-qbd];exact hv);exact⟨t,by rw[e];congr 1;ext⟩
  refine⟨.ref s.heap.objs.size,_,I.laid (o:=.lst _) kp (qak _) (show ObjOk X.prog X.w _ h' _ (.lst _) from⟨by simpa using h3,acc'.toList,c',va,by simpa using e⟩),rfl,q _ (I.hok.fresh (qak _))⟩
def mLR(m:Mx (List PV)):Mx PV:=fun σ h=>(m σ h).bind fun vs h1=>match vs with
 | [.int j]=>if -(2 ^ 62)<=j/\j<2 ^ 62/\j.toNat<=sizeLine then .ok (.loc h1.length) (h1++[.lst (bQ 0 j.toNat)]) else .bad
 | _=>.bad
def oj{K:qab}{ρ:List Addr}{H:Hp}{lo:Int}:∀(l:List Nat),RPs K ρ H (l.map fun (i:Nat)=>PV.int (lo+(i:Int))) (l.map fun (i:Nat)=>V.int (lo+(i:Int)))
 | []=>.nil
 | i::l=>.cons (.int _) (oj l)
def pQ(g:Good X N W G k){a:Expr}{m:Mx (List PV)}{i j:Nat}{p p' pos pos':Pos}(hi:G[i]?=some "list")(hm:X.mg "list"=none)(hj:G[j]?=some "range")(hm':X.mg "range"=none)(ha:MA X [a] m)
  (hs:starEach [a] X.env=[(false,eval a X.env)]:=by rfl) (he:starEach [.Call (.Name "range" p') [a] [] pos'] X.env=[(false,eval (.Call (.Name "range" p') [a] [] pos') X.env)]:=by rfl):ME X (.Call (.Name "list" p) [.Call (.Name "range" p') [a] [] pos'] [] pos) (mLR m):=by
 have d:=g.dbg _ (qay _ (bn hi));refine PE.imp (oI (oN g.calm) (g.gl _ (bn hi)) hm PyProof.Rows.Boot.«list» (ky (vt (g.gl _ (bn hj)) hm' ha hs) rc he) d.2.2 d.1 he rfl) fun σ H Q ⟨ρ,σp,h,rs,rh,q⟩=>?_;refine⟨ρ,σp,h,rs,rh,Ful.bind q fun ρ1 H1 x x' h1 _ l1 rh1 rx q1=>?_⟩
 cases rx with
 | nil=>exact q1.elim
 | cons r1 t1 =>
  cases t1 with
  | cons _ _=>cases r1 <;> exact q1.elim
  | nil =>
   cases r1 with
   | int jj =>
    dsimp only at q1;by_cases z:-(2 ^ 62)<=jj/\jj<2 ^ 62/\jj.toNat<=sizeLine
    ·rw[qan z] at q1;refine⟨jj,rfl,z.1,z.2.1,fun r hr=>?_⟩;obtain⟨rh2,l2⟩:=rh1.loose hr (.rng 0 jj);refine⟨r,jj,rfl,cz,z.1,z.2.1,z.2.2,fun l hl=>?_⟩;obtain⟨rh3,l3⟩:=rh2.new hl (o:=.lst (bQ 0 jj.toNat)) (ho:=.lst _) ⟨_,rfl,oj _⟩;exact q1 _ _ _ (l2.trans l3) rh3 (.loc (by rw[<-rh1.len];simp))
    ·rw[qaz z] at q1;exact q1.elim
   | _=>exact q1.elim
end
end MM
namespace SetT
open PySem PySem.SetTable
def base(M:Nat)(h:Int):Nat->Nat × Nat
 | 0=>(bits h % (M+1),bits h)
 | b+1=>leap M (base M h b).1 (base M h b).2
section
variable {prog:Program} {w:World} {A:Around} {E:Value→Shared→Prop} {s:Shared}
end
end SetT
namespace SetT
open PySem PySem.SetTable PyProof.Rows
section
variable {prog:Program} {w:World} {A:Around} {E:Value→Shared→Prop} {s:Shared}
end
section
variable {prog:Program} {w:World} {A:Around} {E:Value→Shared→Prop} {s:Shared} {S it:Addr} {o:Obj} {es:Array (Int × Value)} {ep:Nat} {t:SetTable} {ks:List (List Int)}
end
section
variable {prog:Program} {w:World} {A:Around} {E:Value→Shared→Prop} {s:Shared} {S:Addr} {o:Obj} {es:Array (Int × Value)} {ep:Nat} {t:SetTable}
end
end SetT
namespace SortT
open PySem PyProof.Rows
structure Cmp (prog:Program) (w:World) (A:Around) (E:Value->Shared->Prop) (s:Shared) (kd:SortKind) (O:KeyOrd) where
 key:Keyed->O.α
 dflt:O.α
 good:Keyed->Prop
 ask:∀(x y:Keyed) (st:SortSt) (Q:Option Bool->SortSt->Prop),good x->good y->kindOf st=kd->Q (some (O.blt (key x) (key y))) st->wpS (model prog w) A E s (lt' x y) Q st
section
variable {prog:Program} {w:World} {A:Around} {E:Value→Shared→Prop} {s:Shared} {kd:SortKind} {O:KeyOrd} (C:Cmp prog w A E s kd O) {C} {a₀:Array Keyed} {st:SortSt}
end
section
variable {prog:Program} {w:World} {A:Around} {E:Value→Shared→Prop} {s:Shared} {kd:SortKind} {O:KeyOrd} {C:Cmp prog w A E s kd O} {a₀:Array Keyed} {st:SortSt}
section
variable {left:Bool} {key:Keyed} {arr:Array Keyed} {base n:Nat}
end
end
section
variable {prog:Program} {w:World} {A:Around} {E:Value→Shared→Prop} {s:Shared} {kd:SortKind} {O:KeyOrd} (C:Cmp prog w A E s kd O) {C} {a b ou:Array Keyed} {i j:Nat}
end
section
variable {prog:Program} {w:World} {A:Around} {E:Value→Shared→Prop} {s:Shared} {kd:SortKind} {O:KeyOrd} {C:Cmp prog w A E s kd O} {st:SortSt} {a b:Array Keyed}
end
section
variable {prog:Program} {w:World} {A:Around} {E:Value→Shared→Prop} {s:Shared} {kd:SortKind} {O:KeyOrd} {C:Cmp prog w A E s kd O} {a b ou:Array Keyed} {m n:Nat} {st:SortSt}
end
section
variable {prog:Program} {w:World} {A:Around} {E:Value→Shared→Prop} {s:Shared} {kd:SortKind} {O:KeyOrd} {C:Cmp prog w A E s kd O} {st:SortSt} {a b:Array Keyed}
end
section
variable {prog:Program} {w:World} {A:Around} {E:Value→Shared→Prop} {s:Shared} {kd:SortKind} {O:KeyOrd} {C:Cmp prog w A E s kd O} {a₀:Array Keyed} {st:SortSt}
end
end SortT
namespace SortT
open PySem PyProof.Rows SetT PySem.W
section
variable {prog:Program} {w:World} {A:Around} {E:Value→Shared→Prop} {s:Shared}
def lQ(ho:h.get? a=some (seqObj "list" vs.toArray n))(out:Array Value):∃c,(sortedHeap h a vs out).get? a=some (seqObj "list" out c):=by
 unfold sortedHeap;obtain⟨e1,ho1⟩:∃e1,(h.update a (Obj.mapSeq fun _=>(#[]:Array Value))).get? a=some (seqObj "list" #[] e1):=⟨_,get?_update_seq ho fun _=>#[]⟩;exact⟨_,get?_update_seq (qac _ (qac _ ho1)) fun _=>out⟩
def ld(hb:b≠a)(ho:h.get? b=some o)(out:Array Value):(sortedHeap h a vs out).get? b=some o:=by
 unfold sortedHeap;rw[qbL _ _ _ _ hb];exact qac _ (qac _ ((qbL _ _ _ _ hb).trans ho))
end
end SortT
namespace MM
open PySem PySem.Spec PyProof.Rows L2 SetT SortT
section
variable {X:Cx} {Il:List (Addr × Obj)} {σ:L2.St} {H:Hp} {s:Shared}
end
section
variable {X:Cx} {N W G:List Str} {k:Nat}
end
end MM
namespace SeqT
open PySem
abbrev itN(tp:Bool):String:=if tp then "tuple_iterator" else "list_iterator"
abbrev sqN(tp:Bool):String:=if tp then "tuple" else "list"
def SqI(tp:Bool)(h:Heap)(it a:Addr)(i:Nat):Prop:=∃o,h.get? it=some o/\o.cls=.type (itN tp)/\o.data=.fields #[.ref a,.int i 0]
def SqO(tp:Bool)(h:Heap)(a:Addr)(xs:Array Value):Prop:=∃o,h.get? a=some o/\o.cls=.type (sqN tp)/\∃n,o.data=.seq xs n
def SqI.at'(x:SqI tp h it a i)(k:∀o,h.get? it=some o->h'.get? it=some o):SqI tp h' it a i:=let ⟨o,e,r⟩:=x;⟨o,k o e,r⟩
def SqO.at'(x:SqO tp h a xs)(k:∀o,h.get? a=some o->h'.get? a=some o):SqO tp h' a xs:=let ⟨o,e,r⟩:=x;⟨o,k o e,r⟩
def SqI.lt(x:SqI tp h it a i):it<h.objs.size:=let ⟨_,e,_⟩:=x;qaq e
section
variable {prog:Program} {w:World} {A:Around} {E:Value→Shared→Prop} {s:Shared}
def ij(hi:SqI tp s.heap it a i)(ho:SqO tp s.heap a xs)(hx:xs[i]?=some x)
  (hQ:∀h',SqI tp h' it a (i+1)->Heap.SameBut it s.heap h'->Q x { s with heap:=h'}):wpAny (model prog w) A (Builtin.SmallTypes.nextOf (.ref it)) Q E s:=by
 cases tp with
 | false=>exact wpAny_nextOf_list_item (show s.heap.IsListIter it a i from hi) (show s.heap.IsList a xs from ho) hx hQ
 | true =>
  obtain⟨o,e,hc,hd⟩:=id hi;obtain⟨ol,hol,_,nl,hdl⟩:=ho;have hT:s.TypeIs (.ref it) "tuple_iterator":=⟨o,e,hc⟩;unfold Builtin.SmallTypes.nextOf;refine qad (wpAny_callSpecial?_slot (name:=Str.ofString "__next__") hT F.slot_tuple_iterator_next (wpAny_call_entry F.slot_tuple_iterator_next hT F.entry_tuple_iterator_next ?_ (F.args_tuple_iterator_next_1 _)));show wpAny _ _ (field (.ref it) 0 >>= _) _ _ s;refine qad (wpAny_field e hd (x:=.ref a) rfl ?_);show wpAny _ _ (if (Value.ref a == Value.none)=true then _ else _) _ _ s;rw[qaz (show ¬((Value.ref a == Value.none)=true) from qaR)];show wpAny _ _ (field (.ref it) 1 >>= _) _ _ s;refine qad (wpAny_field e hd (x:=.int i 0) rfl ?_);show wpAny _ _ (seqItems? (.ref a) >>= _) _ _ s;refine qad (wpAny_seqItems hol hdl ?_);simp only[qaG,hx];refine qad (wpAny_setField e hd (by simp) (qat ⟨x,rfl,qat (hQ _ ?_ (Heap.SameBut.update ..))⟩));exact⟨_,qcy _ e (Obj.isFreed_of_fields (Obj.data_mapFields hd _)),(Obj.cls_mapFields ..).trans hc,by rw[Obj.data_mapFields hd];simp[rawInt]⟩
def jc(hh:A.handled=none)(hi:SqI tp s.heap it a i)(ho:SqO tp s.heap a xs)(hx:xs[i]?=none)
  (hE:∀h' e,Heap.ExtBut it s.heap h'->(∃o,h'.get? e=some o/\o.cls=.type "StopIteration")->E (.ref e) { s with heap:=h'}):wpAny (model prog w) A (Builtin.SmallTypes.nextOf (.ref it)) Q E s:=by
 cases tp with
 | false=>exact wpAny_nextOf_list_end hh (show s.heap.IsListIter it a i from hi) (show s.heap.IsList a xs from ho) hx hE
 | true =>
  obtain⟨o,e,hc,hd⟩:=id hi;obtain⟨ol,hol,_,nl,hdl⟩:=ho;have hT:s.TypeIs (.ref it) "tuple_iterator":=⟨o,e,hc⟩;unfold Builtin.SmallTypes.nextOf;refine qad (wpAny_callSpecial?_slot (name:=Str.ofString "__next__") hT F.slot_tuple_iterator_next (wpAny_call_entry F.slot_tuple_iterator_next hT F.entry_tuple_iterator_next ?_ (F.args_tuple_iterator_next_1 _)));show wpAny _ _ (field (.ref it) 0 >>= _) _ _ s;refine qad (wpAny_field e hd (x:=.ref a) rfl ?_);show wpAny _ _ (if (Value.ref a == Value.none)=true then _ else _) _ _ s;rw[qaz (show ¬((Value.ref a == Value.none)=true) from qaR)];show wpAny _ _ (field (.ref it) 1 >>= _) _ _ s;refine qad (wpAny_field e hd (x:=.int i 0) rfl ?_);show wpAny _ _ (seqItems? (.ref a) >>= _) _ _ s;refine qad (wpAny_seqItems hol hdl ?_);simp only[qaG,hx];refine qad (wpAny_rule (qad (wpAny_setField e hd (by simp) ?_)));show wpAny _ _ (newExc (.type "StopIteration") [] >>= _) _ _ _;refine qad ?_;simp only[newExc,newTuple];refine qad (wpAny_newObj_type ?_ (by size_fits));refine qad (m:=firstArgMember _ _) (wpAny_of_eq (a:=Value.none) (by first | rfl | (simp only[firstArgMember];rfl)) ?_);refine wpAny_newObj_type ?_ (by size_fits);simp only[raiseNew];refine qad (wpAny_handled ?_);rw[show A.in1.handled=none from hh];refine qad (qat (wpAny_throw ?_));exact hE _ _ (((Heap.SameBut.update ..).extBut.push _).push _) ⟨_,qax _ rfl,rfl⟩
def iR(ho:SqO tp s.heap a xs)
  (hQ:Q (.ref s.heap.objs.size) { s with heap:=s.heap.push { cls:=.type (itN tp),data:=.fields #[.ref a,.int 0 0]}}):wpAny (model prog w) A (pyIter (.ref a)) Q E s:=by
 cases tp with
 | false=>exact wpAny_pyIter_list (show s.heap.IsList a xs from ho) hQ
 | true=>exact wpAny_pyIter_tuple (show s.heap.IsTuple a xs from ho) hQ
end
def draws(hh:A.handled=none)(tp:Bool)(it a:Addr)(hne:a≠it)(xs:Array Value) :
  Draws prog w A it [it,a] xs.size (fun i v=>xs[i]?=some v) (fun i h=>SqI tp h it a i/\SqO tp h a xs) where
 live:=fun _ _ st=>let ⟨o,ho,_⟩:=st.1;⟨o,ho⟩
 frame:=fun _ _ _ st hk=>⟨st.1.at' fun o e=>hk it (by simp) o e,st.2.at' fun o e=>hk a (by simp) o e⟩
 item:=fun i s Q E hi st hQ=>by
  refine ij st.1 st.2 (x:=xs[i]) (by simp[hi]) fun h' hit' hs'=>?_;exact hQ _ h' s.toks (by simp[hi]) ⟨hit',st.2.at' fun o e=>(hs'.2 a hne).trans e⟩ hs'
 done:=fun s Q E st hE=>jc hh st.1 st.2 (by simp) hE
def yo(tp:Bool)(a:Addr)(xs:Array Value)(n:Nat)(dct:Option Addr)(sl:Array (Option Value)) :
  Meets (Builtin.«enumerate.__new__» ⟨[.type "enumerate",.ref a],[]⟩) (fun _ R s=>s.heap.get? a=some { cls:=.type (sqN tp),dict:=dct,data:=.seq xs n,slots:=sl} /\
   R (.ok (.ret (.ref (s.heap.push { cls:=.type (itN tp),data:=.fields #[.ref a,.int 0 0]}).objs.size)))
    { s with heap:=(s.heap.push { cls:=.type (itN tp),data:=.fields #[.ref a,.int 0 0]}).push { cls:=.type "enumerate",data:=.fields #[.none,.bool false,.ref s.heap.objs.size,rawInt 0,.none,.none]}}) :=
 .of_wp fun prog w A R s h=>by
  obtain⟨hp,g,d,tk,os⟩:=s;obtain⟨hl,h⟩:=h;have hsub:=sub_enumerate;have hL:SqO tp (Shared.heap ⟨hp,g,d,tk,os⟩) a xs:=⟨_,hl,rfl,n,rfl⟩
  wp_walk using AutoSeq1.wpAny_loadPart' hl
  refine wpAny_stack_any fun st=>qat ?_;split
  ·rename_i c _ _ _ _ _
   cases (c == Value.type "enumerate")
   ·wp_walk using AutoSeq1.wpAny_loadPart' hl,iR hL
    exact⟨_,rfl,h⟩
   ·wp_walk using AutoSeq1.wpAny_loadPart' hl,iR hL
    exact⟨_,rfl,h⟩
  ·wp_walk using AutoSeq1.wpAny_loadPart' hl,iR hL
   exact⟨_,rfl,h⟩
section
variable {prog:Program} {w:World} {A:Around} {E:Value→Shared→Prop} {s:Shared}
def v8(hL:SqO tp s.heap a xs)
  (h:∀h',IsEnum h' (s.heap.objs.size+1) s.heap.objs.size 0 .none->SqI tp h' s.heap.objs.size a 0->h'.objs.size=s.heap.objs.size+2 ->
   (∀b o,s.heap.get? b=some o->h'.get? b=some o)->Q (.ref (s.heap.objs.size+1)) { s with heap:=h'}) :
  wpAny (model prog w) A (call (.type "enumerate") [.ref a]) Q E s:=by
 obtain⟨⟨c,dct,dt,sl⟩,hl,hc,n,hd⟩:=hL;replace hc:c=.type (sqN tp):=hc;replace hd:dt=.seq xs n:=hd;subst hc hd;refine callType_new F.called_enumerate (by decide) (F.typeCall_enumerate_1 _) (F.newCall_enumerate_1 _) (fun obj=>F.args_object_init_2 obj _) F.entry_enumerate_new (yo tp a xs n dct sl) ⟨hl,?_⟩;have hz:(s.heap.push { cls:=.type (itN tp),data:=.fields #[.ref a,.int 0 0]}).objs.size=s.heap.objs.size+1:=qaX ..;show _/\_;rw[hz]
 have he:IsEnum ((s.heap.push { cls:=.type (itN tp),data:=.fields #[.ref a,.int 0 0]}).push
   { cls:=.type "enumerate",data:=.fields #[.none,.bool false,.ref s.heap.objs.size,rawInt 0,.none,.none]}) (s.heap.objs.size+1) s.heap.objs.size 0 .none:=by
  have:=qax (s.heap.push { cls:=.type (itN tp),data:=.fields #[.ref a,.int 0 0]})
   (o:={ cls:=.type "enumerate",data:=.fields #[.none,.bool false,.ref s.heap.objs.size,rawInt 0,.none,.none]}) rfl
  rw[hz] at this;exact this
 exact⟨⟨_,he,rfl⟩,h _ he ⟨_,qac _ (qax _ rfl),rfl,rfl⟩ (by rw[qaX,hz]) fun b o x=>qac _ (qac _ x)⟩
end
section
variable {prog:Program} {w:World} {A:Around} {E:Value→Shared→Prop} {s:Shared} {z TI TO i1 i2 l1 l2:Addr} {t1 t2:Bool} {k1 k2:Nat} {xs ys:Array Value}
def vZ{x y a b:Value}{Q:Value->Shared->Prop}(D:ZipApart z TI TO i1 i2 l1 l2)
  (hz:IsZip s.heap z TI TO .none) (hTI:IsPair s.heap TI (.ref i1) (.ref i2)) (hTO:IsPair s.heap TO a b)
  (h1:SqI t1 s.heap i1 l1 k1) (h2:SqI t2 s.heap i2 l2 k2) (hl1:SqO t1 s.heap l1 xs) (hl2:SqO t2 s.heap l2 ys) (hx:xs[k1]?=some x) (hy:ys[k2]?=some y)
  (hQ:∀h',IsZip h' z TI TO (rawInt s.heap.objs.size)->IsPair h' TO x y->SqI t1 h' i1 l1 (k1+1)->SqI t2 h' i2 l2 (k2+1)->IsPair h' s.heap.objs.size x y->h'.objs.size=s.heap.objs.size+1 ->
   (∀c o,c≠z->c≠TO->c≠i1->c≠i2->s.heap.get? c=some o->h'.get? c=some o)->Q (.ref s.heap.objs.size) { s with heap:=h'}) :
  wpAny (model prog w) A (Builtin.«zip.__next__» ⟨[.ref z],[]⟩) (fun fin s'=>∃v,fin=.done (.ret v)/\Q v s') E s:=by
 show wpAny _ _ (field (.ref z) 2 >>= _) _ _ _;refine qad (wpAny_field hz rfl (x:=.bool false) rfl ?_);show wpAny _ _ (field (.ref z) 3 >>= _) _ _ _;refine qad (wpAny_field hz rfl (x:=.ref TI) rfl ?_);refine qad (wpAny_seqItems hTI rfl ?_);show wpAny _ _ (Builtin.SmallTypes.ownedTupleIsFree (.ref z) >>= _) _ _ _;refine qad ?_;unfold Builtin.SmallTypes.ownedTupleIsFree;refine qad (wpAny_field hz rfl (x:=.none) rfl (qat ?_));simp only[if_true];refine qad (wpAny_rule ?_);refine qad (wpAny_field hz rfl (x:=.ref TO) rfl ?_);refine qad (wpAny_setField_rec hz (by simp) fun ha hza sa=>?_);replace hza:IsZip ha z TI TO .ellipsis:=hza;replace sa:Heap.SameBut z s.heap ha:=sa;refine qad ?_;simp only[List.zipIdx_cons,List.zipIdx_nil,qcD,qcH];refine qad (qad (wpAny_onRaise ?_));show wpAny _ _ (Builtin.SmallTypes.nextOf (.ref i1) >>= _) _ _ _;refine qad (ij (s:={ s with heap:=ha}) (h1.at' fun o e=>(sa.2 _ D.i1z).trans e) (hl1.at' fun o e=>(sa.2 _ D.l1z).trans e) hx fun hb h1b sb=>qat ?_);replace sb:Heap.SameBut i1 ha hb:=sb;have TOb:IsPair hb TO a b:=(sb.2 _ D.TOi1).trans ((sa.2 _ D.TOz).trans hTO);refine qad (wpAny_seqItems TOb rfl ?_);refine qad (wpAny_updateSeq_pair TOb fun hc TOc sc=>?_);replace TOc:IsPair hc TO x b:=TOc;replace sc:Heap.SameBut TO hb hc:=sc;refine qad (wpAny_letGo (qat ?_));refine qad (qad (wpAny_onRaise ?_));show wpAny _ _ (Builtin.SmallTypes.nextOf (.ref i2) >>= _) _ _ _
 refine qad (ij (s:={ s with heap:=hc}) (h2.at' fun o e=>(sc.2 _ D.TOi2.symm).trans ((sb.2 _ D.i12.symm).trans ((sa.2 _ D.i2z).trans e)))
  (hl2.at' fun o e=>(sc.2 _ D.l2TO).trans ((sb.2 _ D.l2i1).trans ((sa.2 _ D.l2z).trans e))) hy fun hd h2d sd=>qat ?_)
 replace sd:Heap.SameBut i2 hc hd:=sd;have TOd:IsPair hd TO x b:=(sd.2 _ D.TOi2).trans TOc;refine qad (wpAny_seqItems TOd rfl ?_);refine qad (wpAny_updateSeq_pair TOd fun he TOe se=>?_);replace TOe:IsPair he TO x y:=TOe;replace se:Heap.SameBut TO hd he:=se;refine qad (wpAny_letGo (qat (qat ?_)));refine qad (wpAny_seqItems TOe rfl ?_);refine qad (wpAny_newTuple ?_);have hsz:he.objs.size=s.heap.objs.size:=by rw[se.1,sd.1,sc.1,sb.1,sa.1]
 have hze:IsZip he z TI TO .ellipsis:=(se.2 _ D.TOz.symm).trans ((sd.2 _ D.i2z.symm).trans ((sc.2 _ D.TOz.symm).trans ((sb.2 _ D.i1z.symm).trans hza)));have hke:∀c o,c≠z->c≠TO->c≠i1->c≠i2->s.heap.get? c=some o->he.get? c=some o:=fun c o c1 c2 c3 c4 e =>
  (se.2 _ c2).trans ((sd.2 _ c4).trans ((sc.2 _ c2).trans ((sb.2 _ c3).trans ((sa.2 _ c1).trans e))))
 have h1e:SqI t1 he i1 l1 (k1+1):=h1b.at' fun o e=>(se.2 _ D.TOi1.symm).trans ((sd.2 _ D.i12).trans ((sc.2 _ D.TOi1.symm).trans e));have h2e:SqI t2 he i2 l2 (k2+1):=h2d.at' fun o e=>(se.2 _ D.TOi2.symm).trans e;have hzlt:z<he.objs.size:=qaq hze;show wpAny _ _ (Builtin.SmallTypes.ownedTupleHandOut (.ref z) (.ref he.objs.size) >>= _) _ _ _;refine qad ?_;unfold Builtin.SmallTypes.ownedTupleHandOut;have hzf:IsZip (he.push { cls:=.type "tuple",data:=.seq #[x,y]}) z TI TO .ellipsis:=qac _ hze;refine qad (wpAny_setField_rec hzf (by simp) fun hg hzg sg=>?_);replace hzg:IsZip hg z TI TO (rawInt he.objs.size):=hzg;refine wpAny_setField_rec hzg (by simp) fun hh hzh sh=>?_;replace hzh:IsZip hh z TI TO (rawInt he.objs.size):=hzh;have up:∀c o,c≠z->he.get? c=some o->hh.get? c=some o:=fun c o c1 e=>(sh.2 _ c1).trans ((sg.2 _ c1).trans (qac _ e));have hTh:IsPair hh he.objs.size x y:=(sh.2 _ (qaT hzlt)).trans ((sg.2 _ (qaT hzlt)).trans (qax _ rfl));have hzs:hh.objs.size=he.objs.size+1:=by rw[sh.1,sg.1,qaX]
 rw[hsz] at hzh hTh hzs;refine qat ⟨_,rfl,?_⟩;show Q (.ref he.objs.size) _;rw[hsz];exact hQ hh hzh (up _ _ D.TOz TOe) (h1e.at' fun o e=>up _ o D.i1z e) (h2e.at' fun o e=>up _ o D.i2z e) hTh hzs fun c o c1 c2 c3 c4 e=>up c o c1 (hke c o c1 c2 c3 c4 e)
def xZ(hh:A.handled=none)(D:ZipApart z TI TO i1 i2 l1 l2)
  (hz:IsZip s.heap z TI TO .none) (hTI:IsPair s.heap TI (.ref i1) (.ref i2)) (hTO:IsPair s.heap TO a b)
  (h1:SqI t1 s.heap i1 l1 k1) (h2:SqI t2 s.heap i2 l2 k2) (hl1:SqO t1 s.heap l1 xs) (hl2:SqO t2 s.heap l2 ys) (hend:xs[k1]?=none\/ys[k2]?=none)
  (hE:∀h' e,(∀c o,c≠z->c≠TO->c≠i1->c≠i2->s.heap.get? c=some o->h'.get? c=some o)->(∃o,h'.get? e=some o/\o.cls=.type "StopIteration")->E (.ref e) { s with heap:=h'}) :
  wpAny (model prog w) A (Builtin.«zip.__next__» ⟨[.ref z],[]⟩) Q E s:=by
 show wpAny _ _ (field (.ref z) 2 >>= _) _ _ _;refine qad (wpAny_field hz rfl (x:=.bool false) rfl ?_);show wpAny _ _ (field (.ref z) 3 >>= _) _ _ _;refine qad (wpAny_field hz rfl (x:=.ref TI) rfl ?_);refine qad (wpAny_seqItems hTI rfl ?_);show wpAny _ _ (Builtin.SmallTypes.ownedTupleIsFree (.ref z) >>= _) _ _ _;refine qad ?_;unfold Builtin.SmallTypes.ownedTupleIsFree;refine qad (wpAny_field hz rfl (x:=.none) rfl (qat ?_));simp only[if_true];refine qad (wpAny_rule ?_);refine qad (wpAny_field hz rfl (x:=.ref TO) rfl ?_);refine qad (wpAny_setField_rec hz (by simp) fun ha hza sa=>?_);replace hza:IsZip ha z TI TO .ellipsis:=hza;replace sa:Heap.SameBut z s.heap ha:=sa;refine qad ?_;simp only[List.zipIdx_cons,List.zipIdx_nil,qcD,qcH];refine qad (qad (wpAny_onRaise ?_));show wpAny _ _ (Builtin.SmallTypes.nextOf (.ref i1) >>= _) _ _ _
 cases hx:xs[k1]? with
 | none =>
  refine qad (jc (s:={ s with heap:=ha}) hh (h1.at' fun o e=>(sa.2 _ D.i1z).trans e) (hl1.at' fun o e=>(sa.2 _ D.l1z).trans e) hx fun hb e sb he=>?_);obtain⟨oe,hoe,hce⟩:=he;have hzb:IsZip hb z TI TO .ellipsis:=sb _ _ D.i1z.symm hza;have hez:e≠z:=fun q=>by subst q;rw[hzb] at hoe;cases hoe;simp at hce
  exact wpAny_setField_rec hzb (by simp) fun hc _ sc=>hE hc e (fun c o c1 _ c3 _ q=>(sc.2 _ c1).trans (sb _ _ c3 ((sa.2 _ c1).trans q))) ⟨oe,(sc.2 _ hez).trans hoe,hce⟩
 | some x =>
  have hy:ys[k2]?=none:=by
   rcases hend with q|q
   ·rw[hx] at q;cases q
   ·exact q
  refine qad (ij (s:={ s with heap:=ha}) (h1.at' fun o e=>(sa.2 _ D.i1z).trans e) (hl1.at' fun o e=>(sa.2 _ D.l1z).trans e) hx fun hb h1b sb=>qat ?_);replace sb:Heap.SameBut i1 ha hb:=sb;have TOb:IsPair hb TO a b:=(sb.2 _ D.TOi1).trans ((sa.2 _ D.TOz).trans hTO);refine qad (wpAny_seqItems TOb rfl ?_);refine qad (wpAny_updateSeq_pair TOb fun hc TOc sc=>?_);replace sc:Heap.SameBut TO hb hc:=sc;refine qad (wpAny_letGo (qat ?_));refine qad (qad (wpAny_onRaise ?_));show wpAny _ _ (Builtin.SmallTypes.nextOf (.ref i2) >>= _) _ _ _
  refine qad (jc (s:={ s with heap:=hc}) hh (h2.at' fun o e=>(sc.2 _ D.TOi2.symm).trans ((sb.2 _ D.i12.symm).trans ((sa.2 _ D.i2z).trans e)))
   (hl2.at' fun o e=>(sc.2 _ D.l2TO).trans ((sb.2 _ D.l2i1).trans ((sa.2 _ D.l2z).trans e))) hy fun hd e sd he=>?_)
  obtain⟨oe,hoe,hce⟩:=he;have hzd:IsZip hd z TI TO .ellipsis:=sd _ _ D.i2z.symm ((sc.2 _ D.TOz.symm).trans ((sb.2 _ D.i1z.symm).trans hza));have hez:e≠z:=fun q=>by subst q;rw[hzd] at hoe;cases hoe;simp at hce
  exact wpAny_setField_rec hzd (by simp) fun hf _ sf=>hE hf e (fun c o c1 c2 c3 c4 q=>(sf.2 _ c1).trans (sd _ _ c4 ((sc.2 _ c2).trans ((sb.2 _ c3).trans ((sa.2 _ c1).trans q))))) ⟨oe,(sf.2 _ hez).trans hoe,hce⟩
def xM(D:ZipApart z TI TO i1 i2 l1 l2)
  (hz:IsZip s.heap z TI TO .none) (hTI:IsPair s.heap TI (.ref i1) (.ref i2)) (hTO:IsPair s.heap TO a b)
  (h1:SqI t1 s.heap i1 l1 k1) (h2:SqI t2 s.heap i2 l2 k2) (hl1:SqO t1 s.heap l1 xs) (hl2:SqO t2 s.heap l2 ys) (hx:xs[k1]?=some x) (hy:ys[k2]?=some y)
  (hQ:∀h',IsZip h' z TI TO (rawInt s.heap.objs.size)->IsPair h' TO x y->SqI t1 h' i1 l1 (k1+1)->SqI t2 h' i2 l2 (k2+1)->IsPair h' s.heap.objs.size x y->h'.objs.size=s.heap.objs.size+1 ->
   (∀c o,c≠z->c≠TO->c≠i1->c≠i2->s.heap.get? c=some o->h'.get? c=some o)->Q (some (.ref s.heap.objs.size)) { s with heap:=h'}) :
  wpAny (model prog w) A (pyNext (.ref z)) Q E s:=by
 have hT:s.TypeIs (.ref z) "zip":=⟨_,hz,rfl⟩;unfold pyNext
 exact qad (wpAny_attempt (wpAny_callSpecial?_slot (name:=Str.ofString "__next__") hT F.slot_zip_next
  (wpAny_call_entry F.slot_zip_next hT F.entry_zip_next (vZ D hz hTI hTO h1 h2 hl1 hl2 hx hy fun h' q1 q2 q3 q4 q5 q6 q7=>qat (hQ h' q1 q2 q3 q4 q5 q6 q7)) (F.args_zip_next_1 _))))
def zip_end(hh:A.handled=none)(D:ZipApart z TI TO i1 i2 l1 l2)
  (hz:IsZip s.heap z TI TO .none) (hTI:IsPair s.heap TI (.ref i1) (.ref i2)) (hTO:IsPair s.heap TO a b)
  (h1:SqI t1 s.heap i1 l1 k1) (h2:SqI t2 s.heap i2 l2 k2) (hl1:SqO t1 s.heap l1 xs) (hl2:SqO t2 s.heap l2 ys) (hend:xs[k1]?=none\/ys[k2]?=none)
  (hQ:∀h',(∀c o,c≠z->c≠TO->c≠i1->c≠i2->s.heap.get? c=some o->h'.get? c=some o)->Q none { s with heap:=h'}):wpAny (model prog w) A (pyNext (.ref z)) Q E s:=by
 have hT:s.TypeIs (.ref z) "zip":=⟨_,hz,rfl⟩;unfold pyNext
 refine qad (wpAny_attempt (wpAny_callSpecial?_slot (name:=Str.ofString "__next__") hT F.slot_zip_next
  (wpAny_call_entry F.slot_zip_next hT F.entry_zip_next (xZ hh D hz hTI hTO h1 h2 hl1 hl2 hend fun h' e hk he=>?_) (F.args_zip_next_1 _))))
 obtain⟨o,ho,hc⟩:=he;refine qad (wpAny_isInstance (T:="StopIteration") (b:=true) ⟨o,ho,hc⟩ isSubtype_stop ?_);exact qat (hQ _ hk)
end
abbrev zA(t1:Bool)(h:Heap)(l1:Addr):Heap:=h.push { cls:=.type (itN t1),data:=.fields #[.ref l1,.int 0 0]}
abbrev zB(t1 t2:Bool)(h:Heap)(l1 l2:Addr):Heap:=(zA t1 h l1).push { cls:=.type (itN t2),data:=.fields #[.ref l2,.int 0 0]}
abbrev zC(t1 t2:Bool)(h:Heap)(l1 l2:Addr):Heap:=(zB t1 t2 h l1 l2).push { cls:=.type "tuple",data:=.seq #[.ref h.objs.size,.ref (zA t1 h l1).objs.size]}
abbrev zD(t1 t2:Bool)(h:Heap)(l1 l2:Addr):Heap:=(zC t1 t2 h l1 l2).push { cls:=.type "tuple",data:=.seq #[.none,.none]}
abbrev zE(t1 t2:Bool)(h:Heap)(l1 l2:Addr):Heap:=(zD t1 t2 h l1 l2).push { cls:=.type "zip",data:=.fields #[.none,.bool false,.bool false,.ref (zB t1 t2 h l1 l2).objs.size,.ref (zC t1 t2 h l1 l2).objs.size]}
def zip_new(t1 t2:Bool)(l1 l2:Addr)(xs ys:Array Value) :
  Meets (Builtin.«zip.__new__» ⟨[.type "zip",.ref l1,.ref l2],[]⟩) (fun _ R s=>SqO t1 s.heap l1 xs/\SqO t2 s.heap l2 ys/\R (.ok (.ret (.ref (zD t1 t2 s.heap l1 l2).objs.size))) { s with heap:=zE t1 t2 s.heap l1 l2}) :=
 .of_wp fun prog w A R s h=>by
  obtain⟨hp,g,d,tk,os⟩:=s;obtain⟨hl1,hl2,h⟩:=h;have hsub:=sub_zip;have hL1:SqO t1 (Shared.heap ⟨hp,g,d,tk,os⟩) l1 xs:=hl1;have hL2:SqO t2 (Shared.heap ⟨hp.push { cls:=.type (itN t1),data:=.fields #[.ref l1,.int 0 0]},g,d,tk,os⟩) l2 ys:=hl2.at' fun o e=>qac _ e
  wp_walk using iR hL1,iR hL2
  exact⟨_,rfl,h⟩
section
variable {prog:Program} {w:World} {A:Around} {E:Value→Shared→Prop} {s:Shared}
def xL(hl1:SqO t1 s.heap l1 xs)(hl2:SqO t2 s.heap l2 ys)
  (h:∀h',IsZip h' (s.heap.objs.size+4) (s.heap.objs.size+2) (s.heap.objs.size+3) .none->IsPair h' (s.heap.objs.size+2) (.ref s.heap.objs.size) (.ref (s.heap.objs.size+1)) ->
   IsPair h' (s.heap.objs.size+3) .none .none->SqI t1 h' s.heap.objs.size l1 0->SqI t2 h' (s.heap.objs.size+1) l2 0->h'.objs.size=s.heap.objs.size+5 ->
   (∀c o,s.heap.get? c=some o->h'.get? c=some o)->Q (.ref (s.heap.objs.size+4)) { s with heap:=h'}) :
  wpAny (model prog w) A (call (.type "zip") [.ref l1,.ref l2]) Q E s:=by
 refine callType_new F.called_zip (by decide) (F.typeCall_zip_2 _ _) (F.newCall_zip_2 _ _) (fun obj=>F.args_object_init_3 obj _ _) F.entry_zip_new (zip_new t1 t2 l1 l2 xs ys) ⟨hl1,hl2,?_⟩;have z1:(zA t1 s.heap l1).objs.size=s.heap.objs.size+1:=qaX ..;have z2:(zB t1 t2 s.heap l1 l2).objs.size=s.heap.objs.size+2:=by rw[qaX,z1]
 have z3:(zC t1 t2 s.heap l1 l2).objs.size=s.heap.objs.size+3:=by rw[qaX,z2]
 have z4:(zD t1 t2 s.heap l1 l2).objs.size=s.heap.objs.size+4:=by rw[qaX,z3]
 have z5:(zE t1 t2 s.heap l1 l2).objs.size=s.heap.objs.size+5:=by rw[qaX,z4]
 have g5:(zE t1 t2 s.heap l1 l2).get? (zD t1 t2 s.heap l1 l2).objs.size=some _:=qax _ rfl;have g4:(zE t1 t2 s.heap l1 l2).get? (zC t1 t2 s.heap l1 l2).objs.size=some _:=qac _ (qax _ rfl);have g3:(zE t1 t2 s.heap l1 l2).get? (zB t1 t2 s.heap l1 l2).objs.size=some _:=qac _ (qac _ (qax _ rfl));have g2:(zE t1 t2 s.heap l1 l2).get? (zA t1 s.heap l1).objs.size=some _:=qac _ (qac _ (qac _ (qax _ rfl)));have g1:(zE t1 t2 s.heap l1 l2).get? s.heap.objs.size=some _:=qac _ (qac _ (qac _ (qac _ (qax _ rfl))));show _/\_;rw[z2,z3,z4] at g5;rw[z1,z2] at g3;rw[z3] at g4;rw[z1] at g2;rw[z4]
 exact⟨⟨_,g5,rfl⟩,h _ g5 g3 g4 ⟨_,g1,rfl,rfl⟩ ⟨_,g2,rfl,rfl⟩ z5 fun c o x =>
  qac _ (qac _ (qac _ (qac _ (qac _ x))))⟩
end
end SeqT
namespace MM
open PySem PySem.Spec PyProof.Rows L2 SeqT
def SqB(tp:Bool)(K:qab)(H:Hp)(a:Addr)(ys:List V):Prop:=match tp with
 | true=>SqT K H a ys
 | false=>SqL K H a ys
section
variable {X:Cx} {Il:List (Addr × Obj)} {σ:L2.St} {H:Hp} {s:Shared}
def fh(I:Inv X Il σ H s)(h:SqB tp X.K H a ys):∃its:List Value,aI ys its/\SqO tp s.heap a its.toArray/\ys.length<=sizeLine:=by
 cases tp with
 | true =>
  obtain⟨its,rv,pl,hz⟩:=I.tuple h;exact⟨its,rv,pl,hz⟩
 | false =>
  obtain⟨its,rv,pl,hz⟩:=I.list h;exact⟨its,rv,pl.isList,hz⟩
def nE(I:Inv X Il σ H s)(h:SqB tp X.K H a xs)(h':SqB tp X.K H a ys):xs=ys:=by
 cases tp with
 | true=>exact I.tuple_inj h h'
 | false=>exact I.list_inj h h'
def gF(I:Inv X Il σ H s){h':Heap}{t':Nat}{ch:List Addr}(hf:∀b∈ch,gQ X Il H b)(k:∀b o,b∉ch->s.heap.get? b=some o->h'.get? b=some o) :
  Inv X Il σ H { s with heap:=h',toks:=t'}:=by
 have nit:∀b u,H b=some u->b∉ch:=fun b u e z=>by rw[(hf b z).1] at e;cases e
 refine I.step (g':=s.gens) (d':=s.drawn) (ch:=ch) (fun b hb=>?_) (fun b o _ _ hc e _=>k b o hc e) (fun b o _ _ hc e _=>⟨o.slots,k b o hc e⟩) (fun _ _ _ _ n=>n)
  (fun b o hc e=>⟨o,k b o hc e⟩) (fun _ _ e=>e) (fun _ _ _ e=>e) (fun b ps e=>⟨#[],by rw[e];simp⟩) (fun m hm=>?_) (fun b u e=>?_) I.bare
 ·obtain⟨f0,f1,f2,f3,f4,f5⟩:=hf b hb;exact⟨f3,f1,f4,f5⟩
 ·obtain⟨o,es,ep,ho,r⟩:=hm;exact⟨o,es,ep,k _ o (fun z=>(hf _ z).2.1 rfl) ho,r⟩
 ·refine (I.hok b u e).stay (fun c v hc q=>k c v ?_ q) (fun _ q=>q) fun _ _ q=>q;rcases hc with z|z
  ·rw[z];exact nit b u e
  ·exact nit c _ z
def m8(I:Inv X Il σ H s){h':Heap}{t':Nat}{ch:List Addr}{ys:List V}{its:List Value}(hf:∀b∈ch,gQ X Il H b)(rv:aI ys its)(hz:ys.length<=sizeLine)(hch:s.heap.objs.size∉ch)
  (ht:h'.get? s.heap.objs.size=some { cls:=.type "tuple",data:=.seq its.toArray}) (k:∀b o,b∉ch->s.heap.get? b=some o->h'.get? b=some o) :
  Inv X Il σ (upd H s.heap.objs.size (.tup ys)) { s with heap:=h',toks:=t'}/\(∀b∈ch,(upd H s.heap.objs.size (.tup ys)) b=none)/\H s.heap.objs.size=none:=by
 have hfr:=I.hok.fresh (qak s.heap.objs.size);have hne:∀b∈ch,b≠s.heap.objs.size:=fun b hb z=>hch (by rw[<-z];exact hb);have I1:Inv X Il σ (upd H s.heap.objs.size (.tup ys)) { s with heap:=s.heap.push { cls:=.type "tuple",data:=.seq its.toArray},toks:=s.toks} :=
  I.laid (o:=.tup ys) (fun b u q=>qac _ q) (qak _) ⟨hz,its,rv,_,qax _ rfl,rfl,⟨_,rfl⟩,rfl⟩
 have hup:∀b∈ch,(upd H s.heap.objs.size (.tup ys)) b=none:=fun b hb=>by rw[bj (hne b hb)];exact (hf b hb).1
 refine⟨?_,hup,hfr⟩;refine gF (t':=t') I1 (ch:=ch) (fun b hb=>⟨hup b hb,(hf b hb).2⟩) fun b o hb e=>?_;by_cases z:b=s.heap.objs.size
 ·subst z;have e':(s.heap.push { cls:=.type "tuple",data:=.seq its.toArray}).get? s.heap.objs.size=some { cls:=.type "tuple",data:=.seq its.toArray}:=qax _ rfl;rw[show ({ s with heap:=s.heap.push { cls:=.type "tuple",data:=.seq its.toArray},toks:=s.toks}:Shared).heap=s.heap.push { cls:=.type "tuple",data:=.seq its.toArray} from rfl,e'] at e;cases e;exact ht
 ·have e':(s.heap.push { cls:=.type "tuple",data:=.seq its.toArray}).get? b=some o:=e;rw[Heap.get?_push_ne _ _ _ z] at e';exact k b o hb e'
end
def Ite(K:qab)(tp:Bool)(a:Addr):It :=
 ⟨fun i H=>∃ys y,SqB tp K H a ys/\ys[i]?=some y,fun i H x H'=>∃p y,H p=none/\x=.ref p/\H'=upd H p (.tup [.int i,y])/\∀ys,SqB tp K H a ys->ys[i]?=some y,fun i H=>∃ys,SqB tp K H a ys/\ys.length<=i⟩
def vn{P:Program}{w:World}{K:qab}{elts:List Expr}{x1:Nat}{pos:Pos}(tp:Bool)(a e it:Addr)(hei:e≠it)(hae:a≠e)(hai:a≠it) :
  Turn P w K (.Tuple elts x1 pos) (Ite K tp a) [e,it] e (fun i h=>(∃old,IsEnum h e it i old)/\SqI tp h it a i) where
 mem:=by simp
 obj:=fun i h st b hb=>by
  obtain⟨⟨old,he⟩,hi⟩:=st
  have:b=e\/b=it:=by simpa using hb
  rcases this with rfl|rfl
  ·exact⟨_,he,fun v z=>nomatch z⟩
  ·obtain⟨o,ho,hc,hd⟩:=hi;exact⟨o,ho,fun v z=>by rw[hd] at z;cases z⟩
 keep:=fun i h h' st k=>let ⟨⟨old,he⟩,hi⟩:=st;⟨⟨old,k e (by simp) _ he⟩,hi.at' fun o q=>k it (by simp) o q⟩
 item:=by
  intro X hP hw hK hc i Il s σ H E I hf st hg;subst hP hw hK;obtain⟨⟨old,he⟩,hi⟩:=st;obtain⟨ys,y,hq,hy⟩:=hg;obtain⟨its,rv,so,hz⟩:=fh I hq;obtain⟨u,hu,ru⟩:=rv.get hy;have hlt:i<its.toArray.size:=by
   have:=(qaj.mp hu).1
   simpa using this
  have hin:(X.A.in1).handled=none:=by have:=I.ok.hd hc;simpa using this
  refine wpAny_pyNext_enum_itemD (draws hin tp it a hai its.toArray) he ⟨hi,so⟩ hlt hei (by simp[hei,Ne.symm hae]) fun x h1 tk hx ho1 st1 ht1 hz1 hk1=>⟨_,rfl,?_⟩;have hxu:x=u:=by
   have:its.toArray[i]?=some u:=by simpa using hu
   rw[this] at hx;exact (Option.some.inj hx).symm
  subst hxu;refine wpAny_letOwnedTupleGo_enum (s:={ s with heap:=h1,toks:=tk+1}) ho1 fun h2 he2 sb2=>?_;replace sb2:Heap.SameBut e h1 h2:=sb2;have hlte:e<s.heap.objs.size:=qaq he;have hlti:it<s.heap.objs.size:=hi.lt;obtain⟨I2,hup,hfr⟩:=m8 (t':=tk+1) (h':=h2) I (ch:=[e,it]) (ys:=[.int i,y]) (its:=[.int i tk,x]) hf (.cons ⟨tk,rfl⟩ (.cons ru .nil)) (by rw[sizeLine_eq];show 2<=_;decide)
   (by simp only[qam,qbC,or_false,not_or];exact⟨qaT hlte,qaT hlti⟩)
   ((sb2.2 _ (qaT hlte)).trans ht1)
   (fun b o hb q=>by
    have h1':b≠e:=fun z=>hb (by simp[z]);have h2':b≠it:=fun z=>hb (by simp[z])
    exact (sb2.2 b h1').trans (hk1 b o h1' h2' q))
  refine⟨.ref s.heap.objs.size,_,I2,rfl,⟨_,y,hfr,rfl,rfl,fun zs hzs=>by rw[nE I hzs hq];exact hy⟩,⟨⟨x,by simpa using he2⟩,?_⟩,hup⟩;exact st1.1.at' fun o q=>(sb2.2 it (Ne.symm hei)).trans q
 done:=by
  intro X hP hw hK hc i Il s σ H E I hf st hg;subst hP hw hK;obtain⟨⟨old,he⟩,hi⟩:=st;obtain⟨ys,hq,hy⟩:=hg;obtain⟨its,rv,so,hz⟩:=fh I hq;have hin:(X.A.in1).handled=none:=by have:=I.ok.hd hc;simpa using this
  have hlen:=rv.length;have hT:s.TypeIs (.ref e) "enumerate":=⟨_,he,rfl⟩;unfold pyNext;refine qad (wpAny_attempt (wpAny_callSpecial?_slot (name:=Str.ofString "__next__") hT PySem.F.slot_enumerate_next (wpAny_call_entry PySem.F.slot_enumerate_next hT PySem.F.entry_enumerate_next ?_ (PySem.F.args_enumerate_next_1 _))));show wpAny _ _ (field (.ref e) 2 >>= _) _ _ _;refine qad (wpAny_field he rfl (x:=.ref it) rfl ?_);refine qad (jc hin hi so (by simp;ext) fun h1 x he' hx'=>?_);obtain⟨o,ho,hcx⟩:=hx';refine qad (wpAny_isInstance (T:="StopIteration") (b:=true) ⟨o,ho,hcx⟩ isSubtype_stop ?_);refine qat ⟨rfl,gF (t':=s.toks) I hf fun b o hb q=>he' b o (fun z=>hb (by simp[z])) q⟩
 self:=fun A i s Q E st h=>let ⟨⟨old,he⟩,_⟩:=st;wpAny_pyIter_enum he h
def Itz(K:qab)(t1 t2:Bool)(a b:Addr):It :=
 ⟨fun i H=>∃xs ys x y,SqB t1 K H a xs/\SqB t2 K H b ys/\xs[i]?=some x/\ys[i]?=some y,
   fun i H v H'=>∃p x y,H p=none/\v=.ref p/\H'=upd H p (.tup [x,y])/\(∀xs,SqB t1 K H a xs->xs[i]?=some x)/\∀ys,SqB t2 K H b ys->ys[i]?=some y,
   fun i H=>∃xs ys,SqB t1 K H a xs/\SqB t2 K H b ys/\(xs.length<=i\/ys.length<=i)⟩
def yp{P:Program}{w:World}{K:qab}{elts:List Expr}{x1:Nat}{pos:Pos}(t1 t2:Bool)(a b z TI TO i1 i2:Addr)(D:ZipApart z TI TO i1 i2 a b) :
  Turn P w K (.Tuple elts x1 pos) (Itz K t1 t2 a b) [z,TI,TO,i1,i2] z (fun i h=>IsZip h z TI TO .none/\IsPair h TI (.ref i1) (.ref i2)/\(∃u v,IsPair h TO u v)/\SqI t1 h i1 a i/\SqI t2 h i2 b i) where
 mem:=by simp
 obj:=fun i h st c hc=>by
  obtain⟨hz,hTI,⟨u,v,hTO⟩,⟨o1,e1,_,d1⟩,⟨o2,e2,_,d2⟩⟩:=st
  have:c=z\/c=TI\/c=TO\/c=i1\/c=i2:=by simpa using hc
  rcases this with rfl|rfl|rfl|rfl|rfl
  ·exact⟨_,hz,fun v z=>nomatch z⟩
  ·exact⟨_,hTI,fun v z=>nomatch z⟩
  ·exact⟨_,hTO,fun v z=>nomatch z⟩
  ·exact⟨o1,e1,fun v z=>by rw[d1] at z;cases z⟩
  ·exact⟨o2,e2,fun v z=>by rw[d2] at z;cases z⟩
 keep:=fun i h h' st k=>let ⟨hz,hTI,⟨u,v,hTO⟩,h1,h2⟩:=st
  ⟨k z (by simp) _ hz,k TI (by simp) _ hTI,⟨u,v,k TO (by simp) _ hTO⟩,h1.at' fun o q=>k i1 (by simp) o q,h2.at' fun o q=>k i2 (by simp) o q⟩
 item:=by
  intro X hP hw hK hc i Il s σ H E I hf st hg;subst hP hw hK;obtain⟨hz,hTI,⟨u,v,hTO⟩,h1,h2⟩:=st;obtain⟨xs,ys,x,y,hq1,hq2,hx,hy⟩:=hg;obtain⟨its1,rv1,so1,hz1⟩:=fh I hq1;obtain⟨its2,rv2,so2,hz2⟩:=fh I hq2;obtain⟨u1,hu1,ru1⟩:=rv1.get hx;obtain⟨u2,hu2,ru2⟩:=rv2.get hy;refine xM D hz hTI hTO h1 h2 so1 so2 (x:=u1) (y:=u2) (by simpa using hu1) (by simpa using hu2) fun ha hza hTOa h1a h2a hTa hsa hka=>⟨_,rfl,?_⟩;refine wpAny_letOwnedTupleGo_zip (s:={ s with heap:=ha}) hza fun hb hzb sb=>?_;replace sb:Heap.SameBut z ha hb:=sb;have l1:z<s.heap.objs.size:=qaq hz;have l2:TI<s.heap.objs.size:=qaq hTI;have l3:TO<s.heap.objs.size:=qaq hTO;have l4:i1<s.heap.objs.size:=h1.lt;have l5:i2<s.heap.objs.size:=h2.lt;have up:∀c o,c≠z->ha.get? c=some o->hb.get? c=some o:=fun c o hc q=>(sb.2 c hc).trans q;obtain⟨I2,hup,hfr⟩:=m8 (t':=s.toks) (h':=hb) I (ch:=[z,TI,TO,i1,i2]) (ys:=[x,y]) (its:=[u1,u2]) hf (.cons ru1 (.cons ru2 .nil)) (by rw[sizeLine_eq];show 2<=_;decide)
   (by simp only[qam,qbC,or_false,not_or];exact⟨qaT l1,qaT l2,qaT l3,qaT l4,qaT l5⟩)
   (up _ _ (qaT l1) hTa)
   (fun c o hc q=>up c o (fun e=>hc (by simp[e])) (hka c o (fun e=>hc (by simp[e])) (fun e=>hc (by simp[e])) (fun e=>hc (by simp[e])) (fun e=>hc (by simp[e])) q))
  refine⟨.ref s.heap.objs.size,_,I2,rfl,⟨_,x,y,hfr,rfl,rfl,fun zs hzs=>by rw[nE I hzs hq1];exact hx,fun zs hzs=>by rw[nE I hzs hq2];exact hy⟩,⟨hzb,?_,⟨_,_,up _ _ D.TOz hTOa⟩,h1a.at' fun o q=>up _ o D.i1z q,h2a.at' fun o q=>up _ o D.i2z q⟩,hup⟩;exact up _ _ D.TIz (hka _ _ D.TIz D.TITO D.TIi1 D.TIi2 hTI)
 done:=by
  intro X hP hw hK hc i Il s σ H E I hf st hg;subst hP hw hK;obtain⟨hz,hTI,⟨u,v,hTO⟩,h1,h2⟩:=st;obtain⟨xs,ys,hq1,hq2,hend⟩:=hg;obtain⟨its1,rv1,so1,hz1⟩:=fh I hq1;obtain⟨its2,rv2,so2,hz2⟩:=fh I hq2;have e1:=rv1.length;have e2:=rv2.length;have hT:s.TypeIs (.ref z) "zip":=⟨_,hz,rfl⟩;have hin:(X.A.in1).handled=none:=by have:=I.ok.hd hc;simpa using this
  refine zip_end (I.ok.hd hc) D hz hTI hTO h1 h2 so1 so2 ?_ fun h' hk=>⟨rfl,gF (t':=s.toks) I hf fun c o hc q=>hk c o (fun e=>hc (by simp[e])) (fun e=>hc (by simp[e])) (fun e=>hc (by simp[e])) (fun e=>hc (by simp[e])) q⟩;rcases hend with q|q
  ·exact .inl (by simp;ext)
  ·exact .inr (by simp;ext)
 self:=fun A i s Q E st h=>wpAny_pyIter_zip st.1 h
def cy(v:PV)(h:MH):Option (Bool × List PV × List (Nat × List PV)):=match v with
 | .loc n=>(match h[n]? with
  | some (.lst xs)=>some (false,xs,[(n,xs)])
  | _=>none)
 | .frl xs=>some (false,xs,[])
 | .tup xs=>some (true,xs,[])
 | _=>none
def qH{X:Cx}{ρ:List Addr}{H:Hp}{h:MH}{x:PV}{y:V}{tp:Bool}{xs:List PV}{gd:List (Nat × List PV)}(rh:RH X.K X.mg ρ H h)(r:RP X.K ρ H x y)(e:cy x h=some (tp,xs,gd)) :
  ∃a,y=.ref a/\(∃ys,SqB tp X.K H a ys)/\∀ρ' H' h',Le ρ H ρ' H'->RH X.K X.mg ρ' H' h'->(∀p∈gd,h'[p.1]?=some (.lst p.2))->∃ys,SqB tp X.K H' a ys/\RPs X.K ρ' H' xs ys:=by
 cases r with
 | frl s r=>cases e;exact⟨_,rfl,⟨_,s.sq⟩,fun ρ' H' h' l _ _=>⟨_,(l.sqf s).sq,r.le l⟩⟩
 | tup s r=>cases e;exact⟨_,rfl,⟨_,s⟩,fun ρ' H' h' l _ _=>⟨_,l.sqt s,r.le l⟩⟩
 | @loc n a en =>
  obtain⟨o,eo,ro⟩:=rh.obj en;unfold cy at e;dsimp only at e;rw[eo] at e
  cases o with
  | lst zs =>
   cases e;obtain⟨ys,ey,ry⟩:=ro;refine⟨a,rfl,⟨ys,SqL.of ey⟩,fun ρ' H' h' l rh' ok=>?_⟩;obtain⟨ys',ey',ry'⟩:=rh'.at' n a _ (l.get en) (ok (n,xs) (by simp));exact⟨ys',SqL.of ey',ry'⟩
  | _=>cases e
 | _=>cases e
def ia(xs:List PV):List PV:=xs.zipIdx.map fun p=>.tup [.int (p.2:Int),p.1]
def eZ(xs ys:List PV):List PV:=(xs.zip ys).map fun p=>.tup [p.1,p.2]
def vG{xs:List PV}{i:Nat}{x:PV}(h:xs[i]?=some x):(ia xs)[i]?=some (.tup [.int (i:Int),x]):=by
 unfold ia;rw[qap,List.getElem?_zipIdx,h];simp
def oH(xs:List PV):(ia xs).length=xs.length:=by simp[ia]
def lh(xs ys:List PV):(eZ xs ys).length=min xs.length ys.length:=by simp[eZ]
def pe{xs ys:List PV}{i:Nat}{x y:PV}(h1:xs[i]?=some x)(h2:ys[i]?=some y):(eZ xs ys)[i]?=some (.tup [x,y]):=by
 unfold eZ;rw[qap]
 have:(xs.zip ys)[i]?=some (x,y):=by rw[qcg];exact⟨h1,h2⟩
 rw[this];rfl
def mItE(m:Mx (List PV)):Mx MIt:=fun σ h=>(m σ h).bind fun vs h1=>match vs with
 | [x]=>(match cy x h1 with
  | some (_,xs,gd)=>.ok ⟨ia xs,gd⟩ h1
  | none=>.bad)
 | _=>.bad
def mItZ(m:Mx (List PV)):Mx MIt:=fun σ h=>(m σ h).bind fun vs h1=>match vs with
 | [x,y]=>(match cy x h1,cy y h1 with
  | some (_,xs,g1),some (_,ys,g2)=>.ok ⟨eZ xs ys,g1++g2⟩ h1
  | _,_=>.bad)
 | _=>.bad
section
variable {X:Cx} {N W G:List Str} {k:Nat}
def mi_enum(g:Good X N W G k){elts:List Expr}{x1:Nat}{tp:Pos}{a:Expr}{m:Mx (List PV)}{p pos:Pos}{j:Nat}(hj:G[j]?=some "enumerate")(hm:X.mg "enumerate"=none)(ha:MA X [a] m)
  (hs:starEach [a] X.env=[(false,eval a X.env)]:=by rfl):MI X (.Tuple elts x1 tp) (.Call (.Name "enumerate" p) [a] [] pos) (mItE m):=by
 have d:=g.dbg _ (qay _ (bn hj));intro Il s σ H R I ⟨ρ,σp,h,rs,rh,q⟩;refine wpAny_Call_Name_kw (gX I (g.gl _ (bn hj)) hm PyProof.Rows.Boot.«enumerate» ?_ d.2.2 d.1)
 refine PyProof.Rows.callWith_type1 (thn (ha pos Il s σ H (fun vs H1=>∃ρ1 h1 xs,Le ρ H ρ1 H1/\RH X.K X.mg ρ1 H1 h1/\RPs X.K ρ1 H1 xs vs/\Ful X (lg X) σp ρ1 H1 ((match xs with
   | [x]=>(match cy x h1 with | some (_,xs,gd)=>.ok ⟨ia xs,gd⟩ h1 | none=>.bad)
   | _=>.bad:Out MIt)) R) I ⟨ρ,σp,h,rs,rh,Ful.bind q fun ρ1 H1 v v' h1 _ l1 rh1 rv q1=>⟨ρ1,h1,v,l1,rh1,rv,q1⟩⟩) fun us s1 ⟨vs,H1,I1,r1,ρ1,h1,xs,l1,rh1,rv,q1⟩=>?_) hs rfl
 cases rv with
 | nil=>exact q1.elim
 | @cons y y' ys ys' ry t1 =>
  cases t1 with
  | cons _ _=>exact q1.elim
  | nil =>
   dsimp only at q1
   cases hsq:cy y h1 with
   | none=>rw[hsq] at q1;exact q1.elim
   | some z =>
    obtain⟨b,zs,gd⟩:=z;rw[hsq] at q1;obtain⟨ad,rfl,⟨ws,hws⟩,rel⟩:=qH rh1 ry hsq;obtain⟨u,rfl,rx⟩:=iz r1;cases rx;obtain⟨its,rvv,so,hz⟩:=fh I1 hws;refine v8 so fun h' he hi hsz hk=>?_;have hT:Shared.TypeIs { s1 with heap:=h'} (.ref (s1.heap.objs.size+1)) "enumerate":=⟨_,he,rfl⟩;refine wpAny_pyIter_enum he ?_;have I2:Inv X Il σ H1 { s1 with heap:=h',toks:=s1.toks}:=I1.kept hk;obtain⟨oa,hoa,hca,_⟩:=id so;have hlt:ad<s1.heap.objs.size:=qaq hoa;have hfr0:=I1.hok.fresh (qak s1.heap.objs.size);have hfr1:=I1.hok.fresh (qbZ s1.heap.objs.size);refine⟨s1.heap.objs.size+1,_,_,_,H1,rfl,I2,vn b ad _ s1.heap.objs.size (qaT (qcp _)) (qaM (qci hlt)) (qaM hlt),⟨⟨_,he⟩,hi⟩,fun c hc=>?_,?_⟩
    ·have:c=s1.heap.objs.size+1\/c=s1.heap.objs.size:=by simpa using hc
     rcases this with rfl|rfl
     ·have F:=Inv.fpOk I1 (H':=H1) (b:=s1.heap.objs.size+1) (qbZ _) hfr1;exact F
     ·exact Inv.fpOk I1 (H':=H1) (qak _) hfr0
    ·refine q1 ρ1 H1 _ (Le.refl _ _) rh1 ?_;intro ρ' H' h2 i l rh' ok;obtain⟨ws',hws',rws⟩:=rel ρ' H' h2 l rh' ok;refine⟨fun hi'=>?_,fun hi'=>⟨ws',hws',by rw[<-rws.length];rw[oH] at hi';exact hi'⟩⟩;rw[oH] at hi';have hx:zs[i]?=some (zs[i]'hi'):=qae hi';obtain⟨w',ew,rw'⟩:=rws.get hx;refine⟨⟨ws',w',hws',ew⟩,fun x' H3 ⟨pp,y2,hp,e1,e2,hall⟩=>?_⟩;subst e1;subst e2;have ey:y2=w':=by
      have:=hall ws' hws'
      rw[ew] at this;exact (Option.some.inj this).symm
     subst ey;obtain⟨rh3,l3⟩:=rh'.tup hp [.int i,y2];exact⟨ρ',_,l3,rh3,vG hx,.tup (SqT.of cz) (.cons (.int _) (.cons (rw'.le l3) .nil))⟩
def vJ(g:Good X N W G k){elts:List Expr}{x1:Nat}{tp:Pos}{a b:Expr}{m:Mx (List PV)}{p pos:Pos}{j:Nat}(hj:G[j]?=some "zip")(hm:X.mg "zip"=none)(ha:MA X [a,b] m)
  (hs:starEach [a,b] X.env=(false,eval a X.env)::starEach [b] X.env:=by rfl) (hpl:(backTo pos (starEach [b] X.env)).any (·.1)=false:=by rfl):MI X (.Tuple elts x1 tp) (.Call (.Name "zip" p) [a,b] [] pos) (mItZ m):=by
 have d:=g.dbg _ (qay _ (bn hj));intro Il s σ H R I ⟨ρ,σp,h,rs,rh,q⟩;refine wpAny_Call_Name_kw (gX I (g.gl _ (bn hj)) hm PyProof.Rows.Boot.«zip» ?_ d.2.2 d.1)
 refine PyProof.Rows.callWith_type1 (thn (ha pos Il s σ H (fun vs H1=>∃ρ1 h1 xs,Le ρ H ρ1 H1/\RH X.K X.mg ρ1 H1 h1/\RPs X.K ρ1 H1 xs vs/\Ful X (lg X) σp ρ1 H1 ((match xs with
   | [x,y]=>(match cy x h1,cy y h1 with | some (_,xs,g1),some (_,ys,g2)=>.ok ⟨eZ xs ys,g1++g2⟩ h1 | _,_=>.bad)
   | _=>.bad:Out MIt)) R) I ⟨ρ,σp,h,rs,rh,Ful.bind q fun ρ1 H1 v v' h1 _ l1 rh1 rv q1=>⟨ρ1,h1,v,l1,rh1,rv,q1⟩⟩) fun us s1 ⟨vs,H1,I1,r1,ρ1,h1,xs,l1,rh1,rv,q1⟩=>?_) hs hpl
 cases rv with
 | nil=>exact q1.elim
 | @cons y y' ys ys' ry t1 =>
  cases t1 with
  | nil=>exact q1.elim
  | @cons v v' vs2 vs2' rv t2 =>
   cases t2 with
   | cons _ _=>exact q1.elim
   | nil =>
    dsimp only at q1
    cases hsq:cy y h1 with
    | none=>rw[hsq] at q1;exact q1.elim
    | some z =>
     obtain⟨b1,zs1,gd1⟩:=z
     cases hsq2:cy v h1 with
     | none=>rw[hsq,hsq2] at q1;exact q1.elim
     | some z2 =>
      obtain⟨b2,zs2,gd2⟩:=z2;rw[hsq,hsq2] at q1;obtain⟨ad1,rfl,⟨ws1,hws1⟩,rel1⟩:=qH rh1 ry hsq;obtain⟨ad2,rfl,⟨ws2,hws2⟩,rel2⟩:=qH rh1 rv hsq2
      cases r1 with
      | @cons _ u1 _ us1 ru1 tu1 =>
       cases tu1 with
       | @cons _ u2 _ us2 ru2 tu2 =>
        cases tu2;cases ru1;cases ru2;obtain⟨its1,rvv1,so1,hz1⟩:=fh I1 hws1;obtain⟨its2,rvv2,so2,hz2⟩:=fh I1 hws2;refine xL so1 so2 fun h' hz hTI hTO hi1 hi2 hsz hk=>?_;refine wpAny_pyIter_zip hz ?_;have I2:Inv X Il σ H1 { s1 with heap:=h',toks:=s1.toks}:=I1.kept hk;obtain⟨oa1,hoa1,_,_⟩:=id so1;obtain⟨oa2,hoa2,_,_⟩:=id so2;have lt1:ad1<s1.heap.objs.size:=qaq hoa1;have lt2:ad2<s1.heap.objs.size:=qaq hoa2;have sN:∀(n:Nat),s1.heap.objs.size<=s1.heap.objs.size+n:=fun n=>Nat.le_add_right _ _;have ap:∀(c:Addr) (n:Nat),c<s1.heap.objs.size->c≠s1.heap.objs.size+n:=fun c n hc=>qaM (qaw hc (sN n));have ne':∀(m n:Nat),m≠n->s1.heap.objs.size+m≠s1.heap.objs.size+n:=fun m n hmn e=>hmn (Nat.add_left_cancel e);have D:ZipApart (s1.heap.objs.size+4) (s1.heap.objs.size+2) (s1.heap.objs.size+3) s1.heap.objs.size (s1.heap.objs.size+1) ad1 ad2 :=
         ⟨ne' 2 4 (by decide),ne' 3 4 (by decide),ne' 0 4 (by decide),ne' 1 4 (by decide),ne' 2 3 (by decide),ne' 2 0 (by decide),ne' 2 1 (by decide),ne' 3 0 (by decide),ne' 3 1 (by decide),ne' 0 1 (by decide),
          ap ad1 4 lt1,ap ad1 3 lt1,ap ad1 0 lt1,ap ad1 1 lt1,ap ad2 4 lt2,ap ad2 3 lt2,ap ad2 0 lt2,ap ad2 1 lt2⟩
        refine⟨s1.heap.objs.size+4,_,_,_,H1,rfl,I2,yp b1 b2 ad1 ad2 _ _ _ _ _ D,⟨hz,hTI,⟨_,_,hTO⟩,hi1,hi2⟩,fun c hc=>?_,?_⟩
        ·have F:∀n:Nat,gQ X Il H1 (s1.heap.objs.size+n):=fun n=>Inv.fpOk I1 (H':=H1) (sN n) (I1.hok.fresh (sN n))
         have:c=s1.heap.objs.size+4\/c=s1.heap.objs.size+2\/c=s1.heap.objs.size+3\/c=s1.heap.objs.size\/c=s1.heap.objs.size+1:=by simpa using hc
         rcases this with rfl|rfl|rfl|rfl|rfl
         ·exact F 4
         ·exact F 2
         ·exact F 3
         ·exact F 0
         ·exact F 1
        ·refine q1 ρ1 H1 _ (Le.refl _ _) rh1 ?_;intro ρ' H' h2 i l rh' ok;obtain⟨ws1',hws1',rws1⟩:=rel1 ρ' H' h2 l rh' (fun p hp=>ok p (qbn _ hp));obtain⟨ws2',hws2',rws2⟩:=rel2 ρ' H' h2 l rh' (fun p hp=>ok p (qay _ hp));refine⟨fun hi'=>?_,fun hi'=>⟨ws1',ws2',hws1',hws2',?_⟩⟩
         ·rw[lh] at hi';have hx1:zs1[i]?=some (zs1[i]'(by ext)):=qae (by ext);have hx2:zs2[i]?=some (zs2[i]'(by ext)):=qae (by ext);obtain⟨w1,ew1,rw1⟩:=rws1.get hx1;obtain⟨w2,ew2,rw2⟩:=rws2.get hx2;refine⟨⟨ws1',ws2',w1,w2,hws1',hws2',ew1,ew2⟩,fun x' H3 ⟨pp,y1,y2,hp,e1,e2,hall1,hall2⟩=>?_⟩;subst e1;subst e2;have ey1:y1=w1:=by
           have:=hall1 ws1' hws1'
           rw[ew1] at this;exact (Option.some.inj this).symm
          have ey2:y2=w2:=by
           have:=hall2 ws2' hws2'
           rw[ew2] at this;exact (Option.some.inj this).symm
          subst ey1;subst ey2;obtain⟨rh3,l3⟩:=rh'.tup hp [y1,y2];exact⟨ρ',_,l3,rh3,pe hx1 hx2,.tup (SqT.of cz) (.cons (rw1.le l3) (.cons (rw2.le l3) .nil))⟩
         ·rw[lh] at hi';have a1:=rws1.length;have a2:=rws2.length;ext
end
end MM
namespace MM
open PySem PySem.Spec PyProof.Rows L2 SetT SortT
def li:List PV->Option (List Int)
 | []=>some []
 | .int i::r=>(li r).map (i::·)
 | _=>none
section
variable {X:Cx} {N W G:List Str} {k:Nat}
end
end MM
namespace MM
open PySem PySem.Spec PyProof.Rows L2
local instance (priority:=1) cdec26 (p:Prop):Decidable p:=Classical.propDecidable p
def sV(I:Nat->PSt->MH->Prop):∀(xs:List PV) (j:Nat) (σ:PSt) (h:MH),I j σ h->(∀j σ h,I j σ h->it.ok h) ->
  (∀m σ h x,I (j+m) σ h->xs[m]?=some x->∃σ1 h1 σ' h',g x σ h=.nx σ1 h1/\b σ1 h1=.nx σ' h'/\I (j+m+1) σ' h') ->
  ∃σ' h',mGo it g b xs σ h=.nx σ' h'/\I (j+xs.length) σ' h'
 | [],j,σ,h,hI,hok,_=>⟨σ,h,mGo_nil (hok _ _ _ hI),hI⟩
 | x::r,j,σ,h,hI,hok,st=>by
  obtain⟨σ1,h1,σ2,h2,e1,e2,I1⟩:=st 0 σ h x hI rfl;obtain⟨σ3,h3,e3,I3⟩:=sV I r (j+1) σ2 h2 I1 hok fun m σ' h' y q z=>by
   have:=st (m+1) σ' h' y (by rw[show j+(m+1)=j+1+m by lia];exact q) (by simpa using z)
   rw[show j+(m+1)+1=j+1+m+1 by lia] at this;exact this
  refine⟨σ3,h3,?_,by rw[qaA,show j+(r.length+1)=j+1+r.length by lia];exact I3⟩;rw[ye (hok _ _ _ hI) e1,e2];exact e3
end MM
namespace MM
open PySem PySem.Spec PyProof.Rows L2 SetT SortT
section
variable {h:MH} {i:Int} {xs:List PV} {n:Nat}
end
def itR1'(em:m σ h=.ok [.int j] h1)(z:-(2 ^ 62)<=j/\j<2 ^ 62):fj m σ h=.ok ⟨bQ 0 j.toNat,[]⟩ h1:=by
 rw[xK,em];simp only[Out.bind_ok];rw[qan z]
def itR1(em:m σ h=.ok [.int (n:Int)] h1)(hn:n<=100000):fj m σ h=.ok ⟨bQ 0 n,[]⟩ h1:=by
 have z1:-(2 ^ 62)<=(n:Int):=Int.le_trans (by decide) (Int.natCast_nonneg n);have z2:(n:Int)<2 ^ 62:=Int.lt_of_le_of_lt (Int.ofNat_le.mpr hn) (by decide)
 have:=itR1' em ⟨z1,z2⟩
 rwa [qaG] at this
end MM
namespace MM
open PySem PySem.Spec PyProof.Rows L2
local instance (priority:=1) cdec28 (p:Prop):Decidable p:=Classical.propDecidable p
def ln(h:MH):PV->Option Bool
 | .non=>some false
 | .bl b=>some b
 | .int i=>some (i != 0)
 | .str _=>none
 | .tup xs=>some (!xs.isEmpty)
 | .frl xs=>some (!xs.isEmpty)
 | .loc n=>match h[n]? with
  | some (.lst xs)=>some (!xs.isEmpty)
  | _=>none
def mTr(m:Mx PV):Mx Bool:=fun σ h=>(m σ h).bind fun v h1=>match ln h1 v with
 | some b=>.ok b h1
 | none=>.bad
section
variable {X:Cx} {N W G:List Str} {k:Nat}
def jJ{K:qab}{ρ:List Addr}{H:Hp}{xs:List PV}{ys:List V}(r:RPs K ρ H xs ys):(!xs.isEmpty)=!ys.isEmpty:=by
 cases r <;> rfl
def mt_tru{e:Expr}{m:Mx PV}(h:ME X e m)(he:∀whole,isTrue e X.env whole=(do let v <-whole;standAt e.pos;holding [v] (truthy v)):=by intro _;rfl):MT X e (mTr m):=by
 refine PT.imp (w6 h he) fun σ H Q ⟨ρ,σp,h,rs,rh,q⟩=>⟨ρ,σp,h,rs,rh,Ful.bind q fun ρ1 H1 x x' h1 _ l1 rh1 rx q1=>?_⟩
 cases rx with
 | non=>exact⟨false,rfl,q1 ρ1 H1 _ (Le.refl _ _) rh1 rfl⟩
 | bl b=>exact⟨b,rfl,q1 ρ1 H1 _ (Le.refl _ _) rh1 rfl⟩
 | int i=>exact⟨_,rfl,q1 ρ1 H1 _ (Le.refl _ _) rh1 rfl⟩
 | str i=>exact q1.elim
 | @tup xs a ys s r=>exact⟨_,.inr (.inl ⟨ys,s,rfl⟩),by rw[<-jJ r];exact q1 ρ1 H1 _ (Le.refl _ _) rh1 rfl⟩
 | @frl xs a ys s r=>exact⟨_,.inl ⟨ys,s.sq,rfl⟩,by rw[<-jJ r];exact q1 ρ1 H1 _ (Le.refl _ _) rh1 rfl⟩
 | @loc n a e =>
  obtain⟨o,eo,ro⟩:=rh1.obj e
  cases o with
  | lst xs =>
   obtain⟨ys,ey,ry⟩:=ro;simp only[ln,eo] at q1;exact⟨_,.inl ⟨ys,.inl (.inl ey),rfl⟩,by rw[<-jJ ry];exact q1 ρ1 H1 _ (Le.refl _ _) rh1 rfl⟩
  | dic fz ks xs=>simp only[ln,eo] at q1;exact q1.elim
  | exc z=>simp only[ln,eo] at q1;exact q1.elim
end
end MM
namespace MM
open PySem PySem.Spec PyProof.Rows L2 PySem.W
local instance (priority:=1) cdec29 (p:Prop):Decidable p:=Classical.propDecidable p
def jk(k:Int):List Int->Option Nat
 | []=>none
 | x::r=>if x=k then some 0 else (jk k r).map (·+1)
def uT:isInt k (.int a t)=decide (a=k):=by
 simp[isInt,qbw]
def kf_of:∀{ns:List Int} {its:List Value},aI (ns.map V.int) its->kf_ints its=true/\kf_at k its=jk k ns
 | [],_,r=>by cases r;exact⟨rfl,rfl⟩
 | n::ns,_,r=>by
  cases r with
  | cons r1 r2 =>
   obtain⟨t,rfl⟩:=r1;obtain⟨a,b⟩:=kf_of (k:=k) r2;refine⟨a,?_⟩;unfold kf_at jk;rw[uT,b];by_cases z:n=k
   ·simp[z]
   ·simp only[z,decide_false,cond_false,if_false];cases jk k ns <;> rfl
def gN(n:Nat)(vs:List PV)(h:MH):Out PV:=match vs with
 | [.int k]=>(match h[n]? with
  | some (.lst xs)=>(match li xs with
   | some ns=>(match jk k ns with
    | some j=>.ok (.int j) h
    | none=>.bad)
   | none=>.bad)
  | _=>.bad)
 | _=>.bad
def qw:∀{xs:List PV} {ns:List Int},li xs=some ns->xs=ns.map .int
 | [],ns,e=>by cases e;rfl
 | x::xs,ns,e=>by
  cases x with
  | int i =>
   rw[li,qas] at e;obtain⟨ms,e1,rfl⟩:=e;rw[qw e1];rfl
  | _=>cases e
def kZ{K:qab}{ρ:List Addr}{H:Hp}:∀{ns:List Int} {ys:List V},RPs K ρ H (ns.map .int) ys->ys=ns.map V.int
 | [],_,r=>by cases r;rfl
 | n::ns,_,r=>by cases r with | cons r1 r2=>cases r1;rw[kZ r2];rfl
section
variable {X:Cx}
def yn:MtR X "list.index" (mtJ X gN):=by
 intro Il s σ H x vs v us Q I rx rv ⟨ρ,h,n,a,ps,e,en,rh,rp,q⟩;subst e;obtain⟨o,eo,ro⟩:=rh.obj en;unfold gN at q
 cases rp with
 | nil=>exact q.elim
 | cons r1 t1 =>
  cases t1 with
  | cons _ _=>cases r1 <;> exact q.elim
  | nil =>
   cases r1 with
   | int k =>
    dsimp only at q;rw[eo] at q
    cases o with
    | lst xs =>
     dsimp only at q
     cases ei:li xs with
     | none=>rw[ei] at q;exact q.elim
     | some ns =>
      rw[ei] at q;dsimp only at q
      cases ej:jk k ns with
      | none=>rw[ej] at q;exact q.elim
      | some j =>
       rw[ej] at q;obtain⟨ys,ey,ry⟩:=ro;rw[qw ei] at ry
       have:=kZ ry
       subst this;cases rx
       cases rv with
       | cons rv1 tv1 =>
        cases tv1;obtain⟨t,rfl⟩:=rv1;obtain⟨z,its,nn,r,hlen,e⟩:=I.lstM ey;obtain⟨k1,k2⟩:=kf_of (k:=k) r;rw[ej] at k2;obtain⟨hj,hit,hno⟩:=kf_at_spec k2;have hs:=sizeLine_eq;refine call_meets PySem.F.slot_list_index ⟨_,e,rfl⟩ PySem.F.entry_list_index (PySem.F.args_list_index_2 _ _)
         (MeetsSeq.list_index a its.toArray nn (.int k t) (isInt k) (fun y hy=>kf_eq k1 y (by simpa using hy)) j (by simpa using hj) (by lia) (by simpa using hit) (fun i hi hlt=>by simpa using hno i (by simpa using hi) hlt)) ⟨e,?_⟩
        exact⟨.int j,H,I.tok _,⟨_,rfl⟩,q ρ H _ (Le.refl _ _) rh (.int _)⟩
    | _=>exact q.elim
   | _=>exact q.elim
end
end MM
namespace MM
open PySem PySem.Spec PyProof.Rows L2
section
variable {X:Cx} {o e:Expr} {es:List Expr} {name:Str} {apos cpos:Pos} {id:String} {f:Str→List PV→MH→Out PV} {m:Mx PV} {ma:Mx (List PV)}
end
end MM
namespace DcT
open PySem PyProof.Rows
section
variable {prog:Program} {w:World} {A:Around} {E:Value→Shared→Prop} {s:Shared}
def uO:typeLookup (.type "tuple") "keys"=pure none:=by rw[typeLookup_type,builtinLookup_eq_fast];kernel_rfl
def uQ(hx:s.heap.get? a=some o)(hc:o.cls=.type "tuple")(hdat:o.data=.seq xs k)(hd:o.dict=none)(hA:A.handled=none)
  (h:∀h' tk e,Heap.NewExcOf s.heap h' e "AttributeError"->Q none { s with heap:=h',toks:=tk}):wpAny (model prog w) A (getAttr? (.ref a) "keys") Q E s:=by
 obtain⟨c,dct,dat,sl⟩:=o;simp only at hc hdat hd;subst hc hdat hd;obtain⟨hp,g,d,tk,os⟩:=s;have hT:∀tk',(⟨hp,g,d,tk',os⟩:Shared).TypeIs (.ref a) "tuple":=fun _=>⟨_,hx,rfl⟩;have f1:=sub_AttributeError;have f3:=F.slot_tuple_getattribute.lookup;have f4:=F.slot_tuple_getattribute.bind (.ref a);have f5:=am_tuple_getattr_none;unfold getAttr? getAttrBy? getAttrBy
 repeat (any_goals (first | assumption | exact hT _ | ((with_reducible show wpAny _ _ (call (Value.builtin "tuple.__getattribute__") _ _) _ _ _);refine call_meets F.slot_tuple_getattribute (hT _) am_entry_tuple_getattribute (F.args_tuple_getattribute_2 _ _) (meets_getattribute_miss_tuple a xs k sl "keys" _ uO (by decide +kernel) (by decide)) ⟨hx,hA,fun h' tk' e hx'=>?_⟩)|wp_step))
 obtain⟨t',u',he⟩:=hx'.there;show wpAny _ _ (getattributeRaised _ _ _ _ _ _ _) _ _ _;unfold getattributeRaised
 repeat (any_goals (first | assumption | wp_step))
 exact h _ _ _ hx'.of
def kU:entryFor table "dict.update.loop"=some Builtin.«dict.update.loop»:=entryFor_of_tree (by kernel_rfl)
def fO:plainId "dict.update.loop"=true:=by decide +kernel
def Ext(H0 h:Heap):Prop:=∀b o,H0.get? b=some o->h.get? b=some o
def io{h h':Heap}{d:Addr}{kvs:List (Int × Value)}(T:h.DictOf (intKind prog w) d kvs)(hd:∀o,h.get? d=some o->h'.get? d=some o):h'.DictOf (intKind prog w) d kvs:=by
 obtain⟨o,es,ep,ho,r⟩:=T;exact⟨o,es,ep,hd o ho,r⟩
def ux{kvs:List (Int × Value)}{k:Int}{v:Value}(h:k∉kvs.map (·.1)):stored kvs k v=kvs++[(k,v)]:=by
 unfold stored;rw[qaz];intro z;rw[List.any_eq_true] at z;obtain⟨x,hx,e⟩:=z;exact h (qaB.mpr ⟨x,hx,by simpa using e⟩)
def dloop{R:Result->Shared->Prop}{I:Addr}{fp wr:List Addr}{G:Array GenState->Array GenState->Prop}{n:Nat}{P:Nat->Value->Prop}{St:Nat->Shared->Prop}
  (W:WalksS prog w A.in1 I fp wr G n P St) (d:Addr) (hdf:d∉fp) {H0:Heap} (h0d:H0.get? d=none) (h0w:∀b∈wr,H0.get? b=none) (kvs:List (Int × Value)) (hn:kvs.length=n) (hsz:n<=sizeLine) (nd:(kvs.map (·.1)).Nodup)
  (hval:∀i v kv,P i v->kvs[i]?=some kv->∃a t,v=.ref a/\H0.IsTuple a #[.int kv.1 t,kv.2]) :
  ∀(c i:Nat) (s:Shared) (j:Int) (tj:Tok),n - i=c->i<=n->St i s->Ext H0 s.heap->s.heap.DictOf (intKind prog w) d (kvs.take i) ->
   (∀s',Moved (d::wr) G s s'->Ext H0 s'.heap->s'.heap.DictOf (intKind prog w) d kvs->R (.ok (.ret .none)) s') ->
   codeAny (model prog w) A (.builtin "dict.update.loop" ⟨[.ref d,.ref I,.int j tj,.none],[]⟩) R s:=by
 have hdw:d∉wr:=fun h=>hdf (W.sub _ h);have hsub:∀b∈wr,b∈d::wr:=fun b hb=>qaf _ hb;have extM:∀{s s':Shared},Moved wr G s s'->Ext H0 s.heap->Ext H0 s'.heap:=fun {s s'} hm x b o e =>
  hm.heap b o (fun hb=>by rw[h0w b hb] at e;cases e) (x b o e)
 intro c
 induction c with
 | zero =>
  intro i s j tj hc hi hst hx hT hRR;have e:i=n:=by ext
  subst e;refine codeAny_builtin kU ?_;rw[Around.under_plainId fO _];show wpAny _ A.in1 (pyNext (.ref I) >>= _) _ _ s;refine qad (W.done s _ _ hst fun s' hm=>?_);show wpAny _ A.in1 (Builtin.Dict.addKeywords d [] >>= fun _=>ret Value.none) _ _ s';rw[<-hn,qcr] at hT;refine qad ?_;show wpAny _ A.in1 (pure ()) _ _ s';exact qat (qat (hRR s' (hm.mono hsub) (extM hm hx) (io hT fun o e=>hm.heap d o hdw e)))
 | succ c ih =>
  intro i s j tj hc hi hst hx hT hRR;have hlt:i<n:=by ext
  refine codeAny_builtin kU ?_;rw[Around.under_plainId fO _];show wpAny _ A.in1 (pyNext (.ref I) >>= _) _ _ s;refine qad (W.item i s _ _ hlt hst fun v s' hP hst' hm=>?_);obtain⟨kv,hk⟩:∃k,kvs[i]?=some k:=⟨_,qae (by ext)⟩;obtain⟨a,t,rfl,ha⟩:=hval i v kv hP hk;have hx':=extM hm hx;have hT':=io hT (fun o e=>hm.heap d o hdw e);obtain⟨oa,hoa,hca,na,hda⟩:=ha;have hoa':=hx' a oa hoa;have tya:s'.TypeIs (.ref a) "tuple":=⟨oa,hoa',hca⟩;dsimp only;refine qad (wpAny_holding (qad ?_));have hpair:∀(Q:List Value->Shared->Prop) (E:Value->Shared->Prop),Q [.int kv.1 t,kv.2] s'->wpAny (model prog w) A.in1 (Builtin.Dict.pairItems (.ref a)) Q E s':=fun Q E q=>by
   unfold Builtin.Dict.pairItems;refine qad (wpAny_typeOf tya ?_);obtain⟨hp',g',d',tk',os'⟩:=s';obtain⟨oc,od,oda,osl⟩:=oa;simp only at hca hda;subst hca hda;rw[qan (by decide)]
   repeat (any_goals (first | assumption | wp_step))
  refine wpAny_tryCatch (hpair _ _ ?_);dsimp only;have hlen:(kvs.take i).length<=sizeLine:=by rw[qbt];ext
  have hnew:kv.1∉(kvs.take i).map (·.1):=fun z=>by
   obtain⟨x,hx1,ex⟩:=qaB.mp z;obtain⟨q,hq⟩:=qbv.mp hx1;rw[List.getElem?_take] at hq
   split at hq
   ·rename_i hqi
    have e1:(kvs.map (·.1))[q]?=some kv.1:=by rw[qap,hq];simp[ex]
    have e2:(kvs.map (·.1))[i]?=some kv.1:=by rw[qap,hk];rfl
    have l1:q<(kvs.map (·.1)).length:=(qaj.mp e1).1
    have:=(List.getElem?_inj l1 nd).mp (e1.trans e2.symm)
    ext
   ·cases hq
  have htk:kvs.take (i+1)=kvs.take i++[kv]:=by rw[qcI,hk];rfl
  refine wpAny_holding (wpAny_dictSet_pairs (knd:=intKind prog w) (k:=kv.1) (intKind_is prog w kv.1 t) hT' (fun h' hD sb=>?_) hlen);rw[ux hnew,show kvs.take i++[(kv.1,kv.2)]=kvs.take (i+1) from htk.symm] at hD;have hx2:Ext H0 h':=fun q o e=>by
   have hq:q≠d:=by rintro rfl;rw[h0d] at e;cases e
   exact (sb.2 q hq).trans (hx' q o e)
  refine qat ⟨plainId_quiet fO _,ih (i+1) _ _ _ (by ext) hlt (W.frame _ s' _ _ hst' (qbZ _) fun b hb o e=>(sb.2 b (fun q:b=d=>hdf (by rw[<-q];exact hb))).trans e) hx2 hD fun s'' hm'' hx3 hT4=>?_⟩;refine hRR s'' (Moved.trans W.gtrans ((hm.mono hsub).then_heap (qbZ _) fun b o hb e=>?_) hm'') hx3 hT4;exact (sb.2 b (fun q:b=d=>hb (by rw[q];exact qaI))).trans e
set_option maxHeartbeats 3200000 in
theorem lU{a:Addr}{items:Array Value}{kvs:List (Int × Value)}{Q:Value->Shared->Prop}(hh:A.handled=none)(ha:∃o k,s.heap.get? a=some o/\o.cls=.type "tuple"/\o.data=.seq items k/\o.dict=none)
  (hn:kvs.length=items.size) (hsz:items.size<=sizeLine) (nd:(kvs.map (·.1)).Nodup)
  (hval:∀(i:Nat) v kv,items[i]?=some v->kvs[i]?=some kv->∃b t,v=.ref b/\s.heap.IsTuple b #[.int kv.1 t,kv.2])
  (h:∀(h':Heap) (tk:Nat),h'.DictOf (intKind prog w) s.heap.objs.size kvs->Ext s.heap h'->Q (.ref s.heap.objs.size) { s with heap:=h',toks:=tk}) :
  wpAny (model prog w) A (call (.type "dict") [.ref a]) Q E s:=by
 refine callType_codes (Q₁:=fun obj s₁=>obj=.ref s.heap.objs.size/\s₁={ s with heap:=s.heap.push { cls:=.type "dict",data:=.dict #[]}}) F.kt_called_dict (F.kt_typeCall_dict_1 _) F.entry_dict_init (kt_code_dict_new _ ⟨rfl,rfl⟩) ?_;rintro obj s₁ ⟨rfl,rfl⟩;have hnew:(s.heap.push { cls:=.type "dict",data:=.dict #[]}).DictOf (intKind prog w) s.heap.objs.size []:=Heap.DictOf.new s.heap;refine⟨hnew.typeIs,F.args_dict_init_2 _ _,?_⟩;unfold Builtin.«dict.__init__»;refine qad ?_;unfold Builtin.Dict.selfAndRest;refine qad (wpAny_notOrdered_dict hnew.typeIs ?_);show wpAny _ _ (pure (s.heap.objs.size,[Value.ref a])) _ _ _;refine qat ?_;show wpAny _ _ (Builtin.Dict.updateFrom "dict.__init__" s.heap.objs.size (.ref a) [] .none) _ _ _;unfold Builtin.Dict.updateFrom;obtain⟨oa,ka,hoa,hca,hda,hdi⟩:=ha;have hoa1:(s.heap.push { cls:=.type "dict",data:=.dict #[]}).get? a=some oa:=qac _ hoa;have hh2:A.in1.in1.handled=none:=by simp[hh]
 refine qad (wpAny_typeOf (T:="tuple") ⟨oa,hoa1,hca⟩ ?_);rw[qan (by decide)];refine qad (uQ hoa1 hca hda hdi hh2 fun h1 tk1 e hx=>?_);rw[qan (by rfl)];have x1:Ext s.heap h1:=fun b o eb=>hx.keeps b o (qac _ eb);have hD1:h1.DictOf (intKind prog w) s.heap.objs.size []:=io hnew fun o eo=>hx.keeps _ o eo;have ht1:h1.IsTuple a items:=⟨oa,x1 a oa hoa,hca,ka,hda⟩;refine qad (wpAny_rule (qad (wpAny_pyIter_tuple (s:={ s with heap:=h1,toks:=tk1}) ht1 ?_)));have hd1:s.heap.objs.size<h1.objs.size:=by
  obtain⟨o,_,_,ho,_⟩:=hD1;exact qaq ho
 have ha1:a<h1.objs.size:=qaq (x1 a oa hoa);have has:a<s.heap.objs.size:=qaq hoa;have hnone:∀b,s.heap.objs.size<=b->s.heap.get? b=none:=fun b hb=>by
  cases e:s.heap.get? b with
  | none=>rfl
  | some o=>exact absurd (qaq e) (Nat.not_lt.mpr hb)
 refine qat ⟨plainId_quiet fO _,?_⟩
 refine dloop (A:=A.in1) (H0:=s.heap) ((Walks.tuple (A:=A.in1.in1) hh2 h1.objs.size a (qaM ha1) items).toS) s.heap.objs.size (by simp only[qam,qbC,or_false,not_or];exact⟨qaM hd1,qaT has⟩) (hnone _ (qak _)) (fun b hb=>by
   have:b=h1.objs.size:=by simpa using hb
   rw[this];exact hnone _ (qbp hd1)) kvs hn hsz nd hval items.size 0 _ 0 0 (by ext) (qbl _) ⟨⟨_,qax _ rfl,rfl,rfl⟩,ht1.push _⟩ (fun b o e=>qac _ (x1 b o e)) (io hD1 fun o e=>qac _ e) ?_
 intro s' hm hx' hT';obtain⟨h',g',d',tk',os'⟩:=s';have eg:g'=s.gens:=hm.gens;have ed:d'=s.drawn:=hm.drawn;have eo:os'=s.os:=hm.os;subst eg;subst ed;subst eo;exact⟨rfl,h h' tk' hT' hx'⟩
end
end DcT
namespace MM
open PySem PySem.Spec PyProof.Rows L2 DcT
local instance (priority:=1) cdec31 (p:Prop):Decidable p:=Classical.propDecidable p
section
variable {X:Cx} {N W G:List Str} {k:Nat}
local instance inhPV:Inhabited PV:=⟨.non⟩
def g7:List PV->Option (List (Int × PV))
 | []=>some []
 | .tup [.int k,v]::r=>(g7 r).map ((k,v)::·)
 | _=>none
def dgP(x:PV):Option (List (Int × PV)):=match x with
 | .tup ps=>(match g7 ps with
  | some kvs=>if (kvs.map (·.1)).Nodup then some kvs else none
  | none=>none)
 | _=>none
def um{K:qab}{ρ:List Addr}{H:Hp}:∀{xs:List PV} {ys:List V} {us:List Value} {kvs:List (Int × PV)},RPs K ρ H xs ys->aI ys us->g7 xs=some kvs ->
  xs.length=kvs.length/\∀(i:Nat) u kv,us[i]?=some u->kvs[i]?=some kv->∃b w,u=.ref b/\SqT K H b [.int kv.1,w]/\RP K ρ H kv.2 w:=by
 intro xs
 induction xs with
 | nil =>
  intro ys us kvs r v e;cases r;cases v;cases e;exact⟨rfl,fun i u kv h=>by simp at h⟩
 | cons x xs ih =>
  intro ys us kvs r v e
  cases r with
  | cons r1 r2 =>
   cases v with
   | cons v1 v2 =>
    unfold g7 at e
    split at e
    ·rename_i h;cases h
    ·rename_i k0 v0 r0 h
     injection h with h1 h2
     subst h1 h2;rw[qas] at e;obtain⟨kvs',e1,rfl⟩:=e;obtain⟨hl,hv⟩:=ih r2 v2 e1;refine⟨by simp[hl],fun i u kv h1 h2=>?_⟩
     cases i with
     | zero =>
      simp at h1 h2;subst h1 h2
      cases r1 with
      | tup sq rp =>
       cases rp with
       | cons q1 q2=>cases q2 with
        | cons q3 q4 =>
         cases q4;cases q1;exact⟨_,_,v1,sq,q3⟩
     | succ i =>
      simp at h1 h2;exact hv i u kv h1 h2
    ·cases e
def jC(K:qab)(x:Str)(i j:Int):Prop:=∃(a:Addr) (t t':Tok) (n:Nat) (sl:Array (Option Value)),PySem.W.nsIn K mainGlobals x=some (some (.ref a))/\K.lookup a=some ⟨.type "tuple",none,.seq #[.int i t,.int j t'] n,sl⟩
def iG(K:qab)(mg:MGl)(x:Str)(i j:Int):Prop:=∃(a:Addr) (t t':Tok) (n:Nat) (sl:Array (Option Value)),mg x=some (.ref a)/\K.lookup a=some ⟨.type "tuple",none,.seq #[.int i t,.int j t'] n,sl⟩
def sP{K:qab}{x:Str}{i j:Int}{a:Addr}{t t':Tok}{n:Nat}{sl:Array (Option Value)}(h:PySem.W.nsIn K mainGlobals x=some (some (.ref a)))(l:K.lookup a=some ⟨.type "tuple",none,.seq #[.int i t,.int j t'] n,sl⟩):jC K x i j:=⟨a,t,t',n,sl,h,l⟩
def jC.mg{K:qab}{mg:MGl}{base:Heap}{x:Str}{i j:Int}(z:jC K x i j)(kin:K.In base)(ns:base.Ns mainGlobals mg):iG K mg x i j:=by
 obtain⟨a,t,t',n,sl,h,l⟩:=z;exact⟨a,t,t',n,sl,PySem.W.mg_of kin ns h,l⟩
def me_glT(g:Good X N W G k){x:Str}{q:Nat}{i j:Int}{pos:Pos}(hj:G[q]?=some x)(hm:iG X.K X.mg x i j):ME X (.Name x pos) (mC (.tup [.int i,.int j])):=by
 obtain⟨a,t,t',n,sl,hm,hl⟩:=hm;have d:=g.dbg x (qay _ (bn hj));exact PE.imp (pe_glob (v:=.ref a) (g.gl x (bn hj)) hm rfl d.1) fun σ H Q ⟨ρ,σp,h,rs,rh,q⟩=>q ρ H _ (Le.refl _ _) rh (.tup (ys:=[.int i,.int j]) (.inr ⟨_,_,n,hl,rfl,⟨rfl,rfl⟩,by show 2<=sizeLine;decide,.cons ⟨t,rfl⟩ (.cons ⟨t',rfl⟩ .nil)⟩) (.cons (.int _) (.cons (.int _) .nil)))
end
end MM
namespace L2
open PySem PySem.Spec PyProof.Rows
section
variable {X:Cx} {e st:Expr} {te:TE} {hi:Option Expr} {th ts:TO} {pos p2:Pos}
end
end L2
namespace MM
open PySem PySem.Spec PyProof.Rows L2
local instance (priority:=1) cdec32 (p:Prop):Decidable p:=Classical.propDecidable p
section
variable {X:Cx} {pos p2:Pos}
end
section
variable {X:Cx} {k:Nat}
end
end MM
namespace MM
open PySem PySem.Spec PyProof.Rows L2 SetT SortT
local instance (priority:=1) cdec34 (p:Prop):Decidable p:=Classical.propDecidable p
section
variable {X:Cx} {N W G:List Str} {k:Nat}
end
end MM
namespace L2
open PySem PySem.Spec PyProof.Rows
section
variable {X:Cx} {a:Expr} {ta:TE} {pos:Pos}
end
end L2
namespace MM
open PySem PySem.Spec PyProof.Rows L2
section
variable {X:Cx} {pos:Pos}
end
section
variable {X:Cx}
end
end MM
namespace MM
open PySem PySem.Spec PyProof.Rows L2 DcT
def valV(kvs:List (Key × V))(k:Key):Option V:=(kvs.find? fun kv=>decide (kv.1=k)).map (·.2)
def KV.val{kvs:List (Key × V)}{vs:List (Key × Value)}(r:KV kvs vs)(k:Key):gn (valV kvs k) (valueAt vs k):=by
 unfold KV at r
 induction r with
 | nil=>exact True.intro
 | @cons p q ps qs h t ih =>
  obtain⟨h1,h2⟩:=h;unfold valV valueAt at *;rw[qca,qca,<-h1];by_cases e:p.1=k
  ·simp only[e,decide_true];exact h2
  ·simp only[e,decide_false];exact ih
def jO{kvs:List (Key × V)}{vs:List (Key × Value)}(r:KV kvs vs):kvs.length=vs.length:=by
 unfold KV at r
 induction r with
 | nil=>rfl
 | cons h t ih=>simp[ih]
def kv_get{kvs:List (Key × V)}{vs:List (Key × Value)}{i:Nat}{p:Key × Value}(r:KV kvs vs)(e:vs[i]?=some p):∃v,kvs[i]?=some (p.1,v)/\aR v p.2:=by
 unfold KV at r
 induction r generalizing i with
 | nil=>simp at e
 | @cons a b ps qs h t ih =>
  cases i with
  | zero=>simp at e;subst e;exact⟨a.2,by simp[<-h.1],h.2⟩
  | succ i=>simp at e;simpa using ih e
def dix(ks:List Int)(xs:List α)(i:Int):Option α:=match ks,xs with
 | k::ks,x::xs=>if k=i then some x else dix ks xs i
 | _,_=>none
def dput(ks:List Int)(xs:List α)(i:Int)(v:α):List Int × List α:=match ks,xs with
 | k::ks,x::xs=>if k=i then (k::ks,v::xs) else (k::(dput ks xs i v).1,x::(dput ks xs i v).2)
 | _,_=>([i],[v])
def yk{ks:List Int}{xs:List α}{i:Int}{v:α}(h:xs.length=ks.length):(dput ks xs i v).2.length=(dput ks xs i v).1.length/\(dput ks xs i v).1.length<=ks.length+1:=by
 induction ks generalizing xs with
 | nil=>simp[dput]
 | cons k ks ih =>
  cases xs with
  | nil=>simp at h
  | cons x xs =>
   simp at h;unfold dput;split
   ·simp[h]
   ·have:=ih h
    simp only[qaA];lia
def pf{ks:List Int}{ys:List V}{i:Int}(h:ys.length=ks.length):valV (kz ks ys) (.inl i)=dix ks ys i:=by
 induction ks generalizing ys with
 | nil=>cases ys <;> rfl
 | cons k ks ih =>
  cases ys with
  | nil=>simp at h
  | cons y ys =>
   have:=ih (ys:=ys) (by simpa using h)
   unfold kz valV at *;rw[qao,qbD,qca,dix];by_cases e:k=i
   ·simp[e]
   ·simp only[show ¬(Sum.inl k:Key)=.inl i from fun z=>e (by cases z;rfl),decide_false,qaz e];exact this
def fc{vs:List (Key × Value)}{i:Key}:vs.any (fun kv=>decide (kv.1=i))=true↔i∈vs.map Prod.fst:=by
 rw[List.any_eq_true,qaB];exact⟨fun ⟨x,h,e⟩=>⟨x,h,by simpa using e⟩,fun ⟨x,h,e⟩=>⟨x,h,by simpa using e⟩⟩
def kv_put{ks:List Int}{ys:List V}{vs:List (Key × Value)}{i:Int}{y:V}{u:Value}(h:ys.length=ks.length)(nd:(vs.map (·.1)).Nodup)(r:KV (kz ks ys) vs)(ry:aR y u) :
  KV (kz (dput ks ys i y).1 (dput ks ys i y).2) (stored vs (.inl i) u):=by
 induction ks generalizing ys vs with
 | nil =>
  have:vs=[]:=by
   unfold KV at r;cases ys <;> cases r <;> rfl
  subst this;exact .cons ⟨rfl,ry⟩ .nil
 | cons k ks ih =>
  cases ys with
  | nil=>simp at h
  | cons z ys =>
   have h':ys.length=ks.length:=by simpa using h
   unfold KV at r
   cases r with
   | @cons _ q _ qs hq t =>
    obtain⟨q1,q2⟩:=q;obtain⟨e1,e2⟩:=hq;cases e1;rw[qao,qaN] at nd;have ih:=ih h' nd.2 t;unfold stored at *;unfold dput;by_cases e:k=i
    ·subst e;rw[qan rfl,qan (fc.mpr (by simp))];refine .cons ⟨by simp,by simp[ry]⟩ ?_
     have:(qs.map fun kv=>if kv.1=(Sum.inl k:Key) then (kv.1,u) else kv)=qs:=by
      conv=>rhs;rw[<-List.map_id qs]
      refine qaK fun x hx=>?_;rw[qaz]
      ·rfl
      ·intro z;exact nd.1 (qaB.mpr ⟨x,hx,z⟩)
     show KV _ (qs.map fun kv=>if kv.1=(Sum.inl k:Key) then (kv.1,u) else kv);rw[this];exact t
    ·have e':¬(Sum.inl k:Key)=.inl i:=fun z=>e (by cases z;rfl);rw[qaz e];by_cases m:(Sum.inl i:Key)∈qs.map Prod.fst
     ·rw[qan (fc.mpr m)] at ih;rw[qan (fc.mpr (qaf _ m))];exact .cons ⟨by simp[e'],by simp[e',e2]⟩ ih
     ·rw[qaz (fun z=>m (fc.mp z))] at ih;rw[qaz (fun z=>(qam.mp (fc.mp z)).elim (fun z=>e' z.symm) m)];exact .cons ⟨rfl,e2⟩ ih
section
variable {K:qab} {ρ:List Addr} {H:Hp}
def nI{ks:List Int}{xs:List PV}{ys:List V}(r:RPs K ρ H xs ys)(i:Int):match dix ks xs i with
  | some x=>∃y,dix ks ys i=some y/\RP K ρ H x y
  | none=>dix ks ys i=none:=by
 induction ks generalizing xs ys with
 | nil=>cases xs <;> cases ys <;> rfl
 | cons k ks ih =>
  cases r with
  | nil=>rfl
  | cons a t =>
   unfold dix;by_cases e:k=i
   ·simp only[qan e];exact⟨_,rfl,a⟩
   ·simp only[qaz e];exact ih t
def wF{ks:List Int}{xs:List PV}{ys:List V}{v:PV}{y:V}(r:RPs K ρ H xs ys)(q:RP K ρ H v y)(i:Int):(dput ks xs i v).1=(dput ks ys i y).1/\RPs K ρ H (dput ks xs i v).2 (dput ks ys i y).2:=by
 induction ks generalizing xs ys with
 | nil=>exact⟨by simp[dput],by simpa [dput] using .cons q .nil⟩
 | cons k ks ih =>
  cases r with
  | nil=>exact⟨rfl,.cons q .nil⟩
  | cons a t =>
   unfold dput;by_cases e:k=i
   ·simp only[qan e];exact⟨trivial,.cons q t⟩
   ·simp only[qaz e];obtain⟨i1,i2⟩:=ih t;exact⟨by rw[i1],.cons a i2⟩
end
def cf(h:MH)(y:PV):Option (Bool × List Int × List PV):=match y with
 | .loc n=>(match h[n]? with
  | some (.dic fz ks xs)=>some (fz,ks,xs)
  | _=>none)
 | _=>none
def fF{X:Cx}{ρ:List Addr}{H:Hp}{h:MH}{x:PV}{y:V}{fz:Bool}{ks:List Int}{xs:List PV}(rh:RH X.K X.mg ρ H h)(r:RP X.K ρ H x y)(e:cf h x=some (fz,ks,xs)) :
  ∃n a ys,x=.loc n/\ρ[n]?=some a/\y=.ref a/\h[n]?=some (.dic fz ks xs)/\ys.length=ks.length/\RPs X.K ρ H xs ys/\dO fz (H a) (.dK (kz ks ys)):=by
 cases r with
 | @loc n a en =>
  obtain⟨o,eo,ro⟩:=rh.obj en;unfold cf at e;dsimp only at e;rw[eo] at e
  cases o with
  | dic f k z =>
   cases e;obtain⟨ys,e1,e2,e3⟩:=ro;exact⟨n,a,ys,rfl,en,rfl,eo,e1,e2,e3⟩
  | _=>cases e
 | _=>cases e
def oY(neg:Bool)(x y:PV)(h:MH):Out PV:=match x,cf h y with
 | .int i,some (_,ks,xs)=>.ok (.bl (if neg then !(dix ks xs i).isSome else (dix ks xs i).isSome)) h
 | _,_=>.bad
def kG(x y:PV)(h:MH):Out PV:=match y,cf h x with
 | .int i,some (_,ks,xs)=>Out.ofO (dix ks xs i) h
 | _,_=>.bad
section
variable {X:Cx} {N W G:List Str} {k:Nat}
def yg{K:qab}{ρ:List Addr}{H:Hp}{ks:List Int}{xs:List PV}{ys:List V}{vs:List (Key × Value)}{i:Int}(hl:ys.length=ks.length)(r:RPs K ρ H xs ys)(rel:KV (kz ks ys) vs):(dix ks xs i).isSome=(valueAt vs (.inl i)).isSome:=by
 have a:=KV.val rel (.inl i);rw[pf hl] at a;have b:=nI (ks:=ks) r i
 cases e:dix ks xs i with
 | none =>
  rw[e] at b;dsimp only at b;rw[b] at a;rw[gn.none_of a];rfl
 | some x =>
  rw[e] at b;obtain⟨y,e1,_⟩:=b;rw[e1] at a;obtain⟨u,e2,_⟩:=gn.some_of a;rw[e2];rfl
def oj_inD(neg:Bool):OpJ X (compareOp (if neg then .NotIn else .In)) (oY neg):=by
 intro Il s σ H x' y' u v Q I rx' ry' ⟨ρ,h,x,y,rh,rx,ry,q⟩;unfold oY at q
 split at q
 ·rename_i i fz ks xs ed
  obtain⟨n,a,ys,rfl,en,rfl,eo,hl,rps,d⟩:=fF rh ry ed;cases rx;obtain⟨t,rfl⟩:=rx';cases ry';obtain⟨z,hd,vs,rel,dd⟩:=im I.hok d;have e:=yg (i:=i) hl rps rel
  cases neg with
  | false =>
   refine wpAny_in_of (d8 _ _ i t) hd dd.mapOf ⟨.bl _,H,I.tok _,rfl,?_⟩;rw[<-e];exact q ρ H _ (Le.refl _ _) rh (.bl _)
  | true =>
   refine wpAny_notIn_of (d8 _ _ i t) hd dd.mapOf ⟨.bl _,H,I.tok _,rfl,?_⟩;rw[<-e];exact q ρ H _ (Le.refl _ _) rh (.bl _)
 ·exact q.elim
def me_ixD{ea b:Expr}{ma mb:Mx PV}{pos:Pos}(ha:ME X ea ma)(hb:ME X b mb)(hs:∀ov iv,subscripted b false ov iv=operate [ov,iv] (getItem ov iv):=by exact fun _ _=>rfl):ME X (.Subscript ea b pos) (aj kG ma mb):=by
 intro Il s σ H Q I ⟨ρ,σp,h,rs,rh,q⟩;refine Subscript_ (thn (ha Il s σ H (fun x' H1=>∃ρ1 h1 x,Le ρ H ρ1 H1/\RH X.K X.mg ρ1 H1 h1/\RP X.K ρ1 H1 x x'/\Ful X (RV' X) σp ρ1 H1 ((mb σp h1).bind fun y h2=>(kG x y h2).ne) Q) I ⟨ρ,σp,h,rs,rh,Ful.bind q fun ρ1 H1 x x' h1 _ l1 rh1 rx q1=>⟨ρ1,h1,x,l1,rh1,rx,q1⟩⟩) fun u s1 ⟨x',H1,I1,r1,ρ1,h1,x,l1,rh1,rx,q1⟩=>thn (hb Il s1 σ H1 (fun y' H2=>∃ρ2 h2 y,Le ρ1 H1 ρ2 H2/\RH X.K X.mg ρ2 H2 h2/\RP X.K ρ2 H2 y y'/\Ful X (RV' X) σp ρ2 H2 (kG x y h2).ne Q) I1 ⟨ρ1,σp,h1,rs.le l1,rh1,Ful.bind q1 fun ρ2 H2 y y' h2 _ l2 rh2 ry q2=>⟨ρ2,h2,y,l2,rh2,ry,q2⟩⟩) fun iv s2 ⟨y',H2,I2,r2,ρ2,h2,y,l2,rh2,ry,q2⟩=>?_);unfold kG at q2
 split at q2
 ·rename_i i fz ks xs ed
  obtain⟨n,a,ys,rfl,en,rfl,eo,hl,rps,d⟩:=fF rh2 (rx.le l2) ed;cases ry;obtain⟨t,rfl⟩:=r2;cases r1;obtain⟨z,hd,vs,rel,dd⟩:=im I2.hok d
  cases ex:dix ks xs i with
  | none=>rw[ex] at q2;exact q2.elim
  | some x =>
   rw[ex] at q2;have b:=nI (ks:=ks) rps i;rw[ex] at b;obtain⟨y,e1,ry⟩:=b;have ra:=KV.val rel (.inl i);rw[pf hl,e1] at ra;obtain⟨w',hw,rw'⟩:=gn.some_of ra;have hT:=dd.typeIs (s:=s2);unfold subscriptTail;refine qad ?_;rw[getitemInPython_of_ne hT.not_modules];refine qad (wpAny_specialOf hT PySem.F.slot_dict_getitem.lookup ?_);have fin:wpAny (model X.prog X.w) X.A (subscripted b false (.ref a) (.int i t)) (fun r s₃=>wpAny (model X.prog X.w) X.A (letTemporaryGo ea (.ref a) r >>= fun _=>pure r) (EP X Il σ Q) X.xe s₃) X.xe s2:=by
    rw[hs (.ref a) (.int i t)];exact wpAny_operating (wpAny_getItem_of (d8 _ _ i t) dd.mapOf hw (qad (wpAny_letTemporaryGo (qat ⟨y,H2,I2.tok _,rw',q2 ρ2 H2 _ (Le.refl _ _) rh2 ry⟩))))
   first
    | exact qat (qad fin)
    | exact qad (qat (qad fin))
    | exact qad fin
 ·exact q2.elim
def mDG(m:Mx PV)(ma:Mx (List PV)):Mx PV:=fun σ h=>(m σ h).bind fun x h1=>match x,cf h1 x with
 | .loc n,some _=>(ma σ h1).bind fun vs h2=>match vs,cf h2 (.loc n) with
  | [.int i,d],some (_,ks,xs)=>.ok ((dix ks xs i).getD d) h2
  | _,_=>.bad
 | _,_=>.bad
def sj{Il:List (Addr × Obj)}{σ:L2.St}{H:Hp}{s:Shared}{fz:Bool}{a:Addr}{kvs:List (Key × V)}(I:Inv X Il σ H s)(d:dO fz (H a) (.dK kvs)) :
  s.TypeIs (.ref a) "dict"/\(∀b,Value.ref a=.ref b->∃ob,s.heap.get? b=some ob/\ob.dict=none)/\(a == sysModules)=false:=by
 obtain⟨_,hd,vs,_,dd⟩:=im I.hok d;refine⟨dd.typeIs,fun b q=>?_,hd⟩;cases q;obtain⟨ob,_,_,h1,h2,_⟩:=dd;exact⟨ob,h1,h2.2.1⟩
def me_dG{o a b:Expr}{m:Mx PV}{ma:Mx (List PV)}{apos cpos:Pos}(he:ME X o m)(ha:MA X [a,b] ma)
  (hbase:attributeBase o "get" X.env (eval o X.env)=eval o X.env:=by rfl)
  (hfew:((backTo cpos (starEach [a,b] X.env)).all (fun x=>!x.1) && (backToKw cpos (keywordEach [] X.env)).all (fun x=>x.1.isSome)
   && decide ([a,b].length+([]:List Keyword).length+(if ([]:List Keyword).isEmpty then 0 else 1)<30))=true:=by rfl)
  (hline:(apos.endLine == cpos.line)=true:=by rfl) (hs:starEach [a,b] X.env=(false,eval a X.env)::starEach [b] X.env:=by rfl) (hplain:(backTo cpos (starEach [b] X.env)).any (·.1)=false:=by rfl) :
  ME X (.Call (.Attribute o "get" apos) [a,b] [] cpos) (mDG m ma):=by
 intro Il s σ H Q I ⟨ρ,σp,h,rs,rh,q⟩
 refine wpAny_Call_method_late hbase hfew hline rfl (thn (he Il s σ H (fun x' H1=>∃ρ1 h1 x,Le ρ H ρ1 H1/\RH X.K X.mg ρ1 H1 h1/\RP X.K ρ1 H1 x x'/\Ful X (RV' X) σp ρ1 H1 (match x,cf h1 x with
 | .loc n,some _=>(ma σp h1).bind fun vs h2=>match vs,cf h2 (.loc n) with
  | [.int i,d],some (_,ks,xs)=>.ok ((dix ks xs i).getD d) h2
  | _,_=>.bad
 | _,_=>.bad) Q) I ⟨ρ,σp,h,rs,rh,Ful.bind q fun ρ1 H1 x x' h1 _ l1 rh1 rx q1=>⟨ρ1,h1,x,l1,rh1,rx,q1⟩⟩) fun v s1 ⟨x',H1,I1,r1,ρ1,h1,x,l1,rh1,rx,q1⟩=>?_)
 split at q1
 ·rename_i n w ew
  obtain⟨fz,ks,xs⟩:=w;obtain⟨_,ad,ys,e0,en,rfl,eo,hl,rps,d⟩:=fF rh1 rx ew;cases e0;cases r1;obtain⟨t1,t2,_⟩:=sj I1 d;refine⟨"dict","dict.get",PySem.F.plainAttrs_dict,PySem.F.slot_dict_get,PySem.F.type_dict_get,t1,t2,?_⟩
  have hA:=ha cpos Il s1 σ H1 (fun vs' H2=>∃ρ2 h2 vs,Le ρ1 H1 ρ2 H2/\RH X.K X.mg ρ2 H2 h2/\RPs X.K ρ2 H2 vs vs'/\Ful X (RV' X) σp ρ2 H2 (match vs,cf h2 (.loc n) with
   | [.int i,d],some (_,ks,xs)=>.ok ((dix ks xs i).getD d) h2
   | _,_=>.bad) Q) I1 ⟨ρ1,σp,h1,rs.le l1,rh1,Ful.bind q1 fun ρ2 H2 vs vs' h2 _ l2 rh2 rvs q2=>⟨ρ2,h2,vs,l2,rh2,rvs,q2⟩⟩
  rw[hs] at hA ⊢;refine Calls.callWith_builtin (by show (false || (backTo cpos (starEach [b] X.env)).any (·.1))=false;rw[hplain] <;> rfl) (Calls.evalArgs_plain ?_);refine thn hA fun us s2 ⟨vs',H2,I2,r2,ρ2,h2,vs,l2,rh2,rvs,q2⟩=>?_
  split at q2
  ·rename_i i dd fz2 ks2 xs2 ew2
   obtain⟨_,ad2,ys2,e0,en2,e1,eo2,hl2,rps2,d2⟩:=fF rh2 (.loc (l2.get en)) ew2;cases e0;cases e1
   cases rvs with
   | cons a1 a2=>cases a2 with
    | cons a3 a4 =>
     cases a4;cases a1
     cases r2 with
     | cons b1 b2=>cases b2 with
      | @cons _ u3 _ _ b3 b4 =>
       cases b4;obtain⟨t,rfl⟩:=b1;obtain⟨z,hd,vs,rel,de⟩:=im I2.hok d2;have ra:=KV.val rel (.inl i);rw[pf hl2] at ra;have rb:=nI (ks:=ks2) rps2 i;have fin:∃v',aR v' ((valueAt vs (.inl i)).getD u3)/\RP X.K ρ2 H2 ((dix ks2 xs2 i).getD dd) v':=by
        cases ex:dix ks2 xs2 i with
        | none =>
         rw[ex] at rb;dsimp only at rb;rw[rb] at ra;rw[gn.none_of ra];exact⟨_,b3,a3⟩
        | some x =>
         rw[ex] at rb;obtain⟨y,e1,ry⟩:=rb;rw[e1] at ra;obtain⟨w',hw,rw'⟩:=gn.some_of ra;rw[hw];exact⟨y,rw',ry⟩
       obtain⟨v',rv',rp'⟩:=fin;exact call_meetsIn PySem.F.slot_dict_get de.typeIs PySem.F.entry_dict_get (PySem.F.args_dict_get_3 _ _ _) (meets_dict_get_default (cM X.prog X.w) ad (d8 _ _ i t) hd _) ⟨_,de.mapOf,v',H2,I2.tok _,rv',q2 ρ2 H2 _ (Le.refl _ _) rh2 rp'⟩
  ·exact q2.elim
 ·exact q1.elim
def oU(mo mi mv:Mx PV):Mst:=mEx mv fun v=>mEx mo fun o=>mEx mi fun i σ h=>match o,i,cf h o with
 | .loc n,.int j,some (false,ks,xs)=>if ks.length<sizeLine then .nx σ (h.set n (.dic false (dput ks xs j v).1 (dput ks xs j v).2)) else .bad
 | _,_,_=>.bad
def ms_putD{o i value:Expr}{mo mi mv:Mx PV}{pos pos':Pos}(ho:ME X o mo)(hi:ME X i mi)(hv:ME X value mv)(hs:swapsWith value (some (.Subscript o i pos')) pos.line X.env=pure false:=by rfl) :
  MS X (.Assign [.Subscript o i pos'] value pos) (oU mo mi mv):=by
 intro Il s σ H D I ⟨ρ,σp,h,rs,rh,q⟩;unfold oU at q
 have kk:tM X (RV' X) mv σ H (fun v' H1=>tM X (RV' X) mo σ H1 fun o' H2=>tM X (RV' X) mi σ H2 fun i' H3=>∃ρ3 h3 v o i,RH X.K X.mg ρ3 H3 h3/\RS X.K ρ3 H3 σp σ/\RP X.K ρ3 H3 v v'/\RP X.K ρ3 H3 o o'/\RP X.K ρ3 H3 i i'/\bC X ρ3 H3 (match o,i,cf h3 o with
  | .loc n,.int j,some (false,ks,xs)=>if ks.length<sizeLine then .nx σp (h3.set n (.dic false (dput ks xs j v).1 (dput ks xs j v).2)) else .bad
  | _,_,_=>.bad) D):=by
  refine⟨ρ,σp,h,rs,rh,?_⟩;unfold mEx at q
  cases e:mv σp h with
  | exc x h1=>rw[e] at q;exact q
  | bad=>rw[e] at q;exact q
  | ok v h1 =>
   rw[e] at q;intro ρ1 H1 v' l1 rh1 rv;dsimp only at q;refine⟨ρ1,σp,h1,rs.le l1,rh1,?_⟩
   cases e2:mo σp h1 with
   | exc x h2=>rw[e2] at q;exact XP.le (X:=X) (σp:=σp) (x:=x) (h:=h2) l1 q
   | bad=>rw[e2] at q;exact q
   | ok ov h2 =>
    rw[e2] at q;intro ρ2 H2 o' l2 rh2 ro;dsimp only at q;refine⟨ρ2,σp,h2,(rs.le l1).le l2,rh2,?_⟩
    cases e3:mi σp h2 with
    | exc x h3=>rw[e3] at q;exact XP.le (X:=X) (σp:=σp) (x:=x) (h:=h3) l2 (XP.le (X:=X) (σp:=σp) (x:=x) (h:=h3) l1 q)
    | bad=>rw[e3] at q;exact q
    | ok iv h3 =>
     rw[e3] at q;intro ρ3 H3 i' l3 rh3 ri;exact⟨ρ3,h3,v,ov,iv,rh3,((rs.le l1).le l2).le l3,(rv.le l2).le l3,ro.le l3,ri,bC.le l3 (bC.le l2 (bC.le l1 q))⟩
 refine wpAny_Assign_Subscript (thn (hv Il s σ H _ I kk) fun r s1 ⟨v',H1,I1,rv,q1⟩=>thn (ho Il s1 σ H1 _ I1 q1) fun u s2 ⟨o',H2,I2,ru,q2⟩=>thn (hi Il s2 σ H2 _ I2 q2) fun iv s3 ⟨i',H3,I3,ri,ρ3,h3,v,ov,i,rh3,rs3,pv,po,pi,q3⟩=>?_) hs
 split at q3
 ·rename_i n j ks xs ed
  obtain⟨_,a,ys,e0,en,rfl,eo,hl,rps,d⟩:=fF rh3 po ed;cases e0;cases pi;obtain⟨t,rfl⟩:=ri;cases ru;by_cases hz:ks.length<sizeLine
  ·rw[qan hz] at q3;have d':H3 a=some (.dK (kz ks ys)):=d;obtain⟨z,hd,vs,rel,dd⟩:=im I3.hok d;obtain⟨p1,p2⟩:=wF (ks:=ks) rps pv j;obtain⟨l1,l2⟩:=yk (i:=j) (v:=v') hl;have nd:(vs.map (·.1)).Nodup:=by obtain⟨_,_,_,_,_,_,_,_,nd⟩:=dd;exact nd
   have hzl:(kz (dput ks ys j v').1 (dput ks ys j v').2).length<=sizeLine:=by
    unfold kz;rw[qbr,qaC];lia
   refine wpAny_setItem_pairs (hsz:=by rw[<-jO rel];exact z) (d8 _ _ j t) dd fun h' dd' hsb=>?_;have he:∃q,h'.get? a=some q:=let ⟨q,_,_,hq,_⟩:=dd';⟨q,hq⟩;have I4:Inv X Il σ (upd H3 a (.dK (kz (dput ks ys j v').1 (dput ks ys j v').2))) { s3 with heap:=h',toks:=s3.toks+1} :=
    I3.write (x:=a) (e:=a) (by rw[d'];exact True.intro) (.inl rfl) (fun b q hb z=>(hsb.2 b hb).trans z) he ⟨hzl,hd,_,kv_put hl nd rel rv,dd'⟩
   obtain⟨rh4,l4⟩:=rh3.put en (o:=.dic false (dput ks xs j v).1 (dput ks xs j v).2) (ho:=.dK (kz (dput ks ys j v').1 (dput ks ys j v').2)) ⟨(dput ks ys j v').2,by rw[p1];exact l1,p2,by rw[p1];rfl⟩;exact⟨σ,_,I4,q3 ρ3 _ σ l4 rh4 (rs3.le l4)⟩
  ·rw[qaz hz] at q3;exact q3.elim
 ·exact q3.elim
def fListD(vs:List PV)(h:MH):Out PV:=match vs with
 | [x]=>(match cf h x with
  | some (_,ks,_)=>newL (ks.map .int) h
  | none=>.bad)
 | _=>.bad
def u4:∀{ks:List Int} {ys:List V} {vs:List (Key × Value)} {us:List Value},ys.length=ks.length->KV (kz ks ys) vs->us.length=vs.length->(∀(i:Nat) v,us[i]?=some v->∃k x,vs[i]?=some (k,x)/\mn k v=true)->aI (ks.map V.int) us:=by
 intro ks
 induction ks with
 | nil =>
  intro ys vs us hl r hu h;unfold KV at r
  have:vs=[]:=by cases ys <;> cases r <;> rfl
  subst this
  cases us with
  | nil=>exact .nil
  | cons _ _=>simp at hu
 | cons k ks ih =>
  intro ys vs us hl r hu h
  cases ys with
  | nil=>simp at hl
  | cons y ys =>
   unfold KV at r
   cases r with
   | @cons _ q _ qs hq tt =>
    cases us with
    | nil=>simp at hu
    | cons u us =>
     obtain⟨k',x,e1,e2⟩:=h 0 u rfl;cases e1;have ek:Sum.inl k=k':=hq.1;subst ek;rcases bK e2 with ⟨i,t,e3,rfl⟩|⟨_,_,e3,_⟩
     ·cases e3;exact .cons ⟨t,rfl⟩ (ih (by simpa using hl) tt (by simpa using hu) fun i v hv=>by simpa using h (i+1) v (by simpa using hv))
     ·cases e3
def wN(g:Good X N W G k):cO X (.type "list") fListD:=by
 intro Il s σ H xs us Q I r ⟨ρ,h,ps,rh,rp,q⟩;unfold fListD at q
 split at q
 ·rename_i x
  cases rp with
  | cons r1 t1 =>
   cases t1
   cases r with
   | cons u1 w1 =>
    cases w1
    cases ed:cf h x with
    | none=>rw[ed] at q;exact q.elim
    | some w =>
     obtain⟨fz,ks,xs⟩:=w;rw[ed] at q;obtain⟨n,a,ys,rfl,en,rfl,eo,hl,rps,d⟩:=fF rh r1 ed;cases u1;obtain⟨z,hd,vs,rel,dd⟩:=im I.hok d;obtain⟨ep,da⟩:=dd.dictAt;dsimp only at q;unfold newL at q;by_cases hz:(ks.map PV.int).length<=sizeLine
     ·rw[qan hz] at q;refine PySem.W.kdl_call (PySem.W.kdl_dict hd) (I.ok.hd g.calm) da (by rw[<-jO rel];exact z) fun h' tk acc' c' kp e it=>?_;have va:aI (ks.map V.int) acc'.toList:=u4 hl rel (by rw[qby];exact it.1) fun i v hv=>it.2 i v (by rw[<-qbd];exact hv);obtain⟨rh3,l3⟩:=rh.new (I.hok.fresh (qak s.heap.objs.size)) (o:=.lst (ks.map .int)) (ho:=.lst (ks.map V.int)) ⟨_,rfl,RPs.ints _⟩;refine⟨.ref s.heap.objs.size,_,I.laid (o:=.lst (ks.map V.int)) kp (qak _) (show ObjOk X.prog X.w _ h' _ (.lst _) from⟨by simpa using hz,acc'.toList,c',va,by simpa using e⟩),rfl,q _ _ _ l3 rh3 (.loc (by rw[<-rh.len];simp))⟩
     ·rw[qaz hz] at q;exact q.elim
 ·exact q.elim
def mFz(i:Nat)(m:Mst):Mst:=fun σ h=>match σ[i]? with
 | some (some (.loc n))=>(match h[n]? with
  | some (.dic false ks xs)=>m σ (h.set n (.dic true ks xs))
  | _=>.bad)
 | _=>.bad
def ms_fz{st:List Stmt}{m:Mst}(i:Nat)(hm:MSs X st m):MSs X st (mFz i m):=by
 intro Il s σ H D I ⟨ρ,σp,h,rs,rh,q⟩;unfold mFz at q
 split at q
 ·rename_i n e
  split at q
  ·rename_i ks xs eo
   obtain⟨v',ev,rv⟩:=rs.2 i _ e
   cases rv with
   | @loc _ a en =>
    obtain⟨ys,hl,rps,d⟩:=rh.at' n a _ en eo;have d':H a=some (.dK (kz ks ys)):=d;obtain⟨z,hd,vs,rel,dd⟩:=im I.hok d;obtain⟨ob,es,ep,h1,hr⟩:=dd;have I2:Inv X Il σ (upd H a (.frz ob (.dK (kz ks ys)))) { s with heap:=s.heap,toks:=s.toks} :=
     I.write (x:=a) (e:=a) (by rw[d'];exact True.intro) (.inl rfl) (fun b q hb z=>z) ⟨ob,h1⟩ ⟨h1,z,hd,vs,rel,ob,es,ep,h1,hr⟩
    obtain⟨rh4,l4⟩:=rh.put en (o:=.dic true ks xs) (ho:=.frz ob (.dK (kz ks ys))) ⟨ys,hl,rps,ob,rfl⟩;exact hm Il s σ _ D I2 ⟨ρ,σp,_,rs.le l4,rh4,bC.le l4 q⟩
  ·exact q.elim
 ·exact q.elim
def oZ(n:Nat)(vs:List PV)(h:MH):Out PV:=match vs,h[n]? with
 | [.int i],some (.lst xs)=>if 0<=i/\i<2 ^ 62 then (match xs[i.toNat]? with
  | some y=>.ok y (h.set n (.lst (xs.eraseIdx i.toNat)))
  | none=>.bad) else .bad
 | _,_=>.bad
def RPs.erase{K:qab}{ρ:List Addr}{H:Hp}{xs:List PV}{ys:List V}(r:RPs K ρ H xs ys)(i:Nat):RPs K ρ H (xs.eraseIdx i) (ys.eraseIdx i):=by
 induction xs generalizing ys i with
 | nil=>cases r;exact .nil
 | cons x xs ih =>
  cases r with
  | cons a t =>
   cases i with
   | zero=>exact t
   | succ i=>exact .cons a (ih t i)
def mj_popA:MtR X "list.pop" (mtJ X oZ):=by
 intro Il s σ H x vs v us Q I rx rv ⟨ρ,h,n,a,ps,e,en,rh,rp,q⟩;subst e;obtain⟨o,eo,ro⟩:=rh.obj en;unfold oZ at q;rw[eo] at q
 split at q
 ·rename_i i xs e
  injection e with e
  subst e
  cases rp with
  | cons r1 t1 =>
   cases t1;cases r1;obtain⟨ys,ey,ry⟩:=ro;by_cases hi:0<=i/\i<2 ^ 62
   ·rw[qan hi] at q
    cases ex:xs[i.toNat]? with
    | none=>rw[ex] at q;exact q.elim
    | some y =>
     rw[ex] at q;obtain⟨y',ey',ry'⟩:=ry.get ex;obtain⟨rh',l'⟩:=rh.put en (o:=.lst (xs.eraseIdx i.toNat)) (ho:=.lst (ys.eraseIdx i.toNat)) ⟨_,rfl,ry.erase _⟩;have hlt:=(qaj.mp ey').1;exact wH Il s σ H _ _ v us Q I rx rv ⟨a,ys,i,i.toNat,y',rfl,rfl,ey,by lia,by lia,by simp[seqIndex?];lia,ey',q ρ _ y' l' rh' (ry'.le l')⟩
   ·rw[qaz hi] at q;exact q.elim
 ·exact q.elim
end
end MM
namespace MM
open PySem PySem.Spec PyProof.Rows L2 DcT
local instance (priority:=1) cdec52 (p:Prop):Decidable p:=Classical.propDecidable p
section
variable {X:Cx} {N W G:List Str} {k:Nat}
local instance inhPV2:Inhabited PV:=⟨.non⟩
def ww{P:Program}{w:World}{es:List DictEntry}{kvs:List (Int × Value)}(p:Pairs (intKind P w) es kvs):Pairs (cM P w) es (kvs.map fun kv=>((Sum.inl kv.1:Key),kv.2)):=by
 induction p with
 | nil=>exact .nil
 | cons a b _ ih=>exact .cons a b ih
def mix_of{P:Program}{w:World}{h:Heap}{a:Addr}{kvs:List (Int × Value)}(d:h.DictOf (intKind P w) a kvs):h.DictOf (cM P w) a (kvs.map fun kv=>((Sum.inl kv.1:Key),kv.2)):=by
 obtain⟨o,es,ep,h1,h2,h3,hk,hp,nd⟩:=d;refine⟨o,es,ep,h1,h2,h3,fun e he=>?_,ww hp,?_⟩
 ·obtain⟨i,e1,e2⟩:=hk e he;exact⟨.inl i,e1,e2⟩
 ·rw[qaE];rw[show ((fun x:Key × Value=>x.1)∘fun kv:Int × Value=>((Sum.inl kv.1:Key),kv.2))=(Sum.inl∘fun kv:Int × Value=>kv.1) from rfl,<-qaE];exact (qaV.mpr (List.Pairwise.imp (fun h z=>h (by cases z;rfl)) nd))
def kz_rel{K:qab}{ρ:List Addr}{H:Hp}:∀{kvs:List (Int × PV)} {vals:List (Int × Value)},kvs.length=vals.length->(∀(i:Nat) a b,kvs[i]?=some a->vals[i]?=some b->a.1=b.1/\∃v,aR v b.2/\RP K ρ H a.2 v) ->
  ∃ys:List V,ys.length=(kvs.map (·.1)).length/\RPs K ρ H (kvs.map (·.2)) ys/\KV (kz (kvs.map (·.1)) ys) (vals.map fun kv=>((Sum.inl kv.1:Key),kv.2)):=by
 intro kvs
 induction kvs with
 | nil =>
  intro vals hl _
  cases vals with
  | nil=>exact⟨[],rfl,.nil,.nil⟩
  | cons _ _=>simp at hl
 | cons a kvs ih =>
  intro vals hl h
  cases vals with
  | nil=>simp at hl
  | cons b vals =>
   obtain⟨ys,e1,e2,e3⟩:=ih (by simpa using hl) fun i a b h1 h2=>h (i+1) a b (by simpa using h1) (by simpa using h2);obtain⟨e,v,rv,rp⟩:=h 0 a b rfl rfl;exact⟨v::ys,by simp at e1 ⊢;exact e1,.cons rp e2,.cons ⟨congrArg Sum.inl e,rv⟩ e3⟩
def fDict(vs:List PV)(h:MH):Out PV:=match vs with
 | [x]=>(match dgP x with
  | some kvs=>.ok (.loc h.length) (h++[.dic false (kvs.map (·.1)) (kvs.map (·.2))])
  | none=>.bad)
 | _=>.bad
def uk(g:Good X N W G k):dY X (.type "dict") (fun xs H Q=>∃ρ h ps kvs v,xs=[v]/\RH X.K X.mg ρ H h/\RP X.K ρ H (.tup ps) v/\g7 ps=some kvs/\(kvs.map (·.1)).Nodup /\
   ∀l ys,H l=none->ys.length=(kvs.map (·.1)).length->RPs X.K ρ H (kvs.map (·.2)) ys->Q (.ref l) (upd H l (.dK (kz (kvs.map (·.1)) ys)))):=by
 intro Il s σ H xs us Q I r ⟨ρ,h,ps,kvs,v,e,rh,rp,ep,nd,q⟩;subst e;obtain⟨u,rfl,ru⟩:=r.one
 cases rp with
 | tup sq rps =>
  cases ru;obtain⟨its,rv,ht,hz⟩:=I.tupleN sq;obtain⟨hl,hv⟩:=um rps rv ep;have hli:=rv.length;have hlr:=rps.length;have hall:∀i,i<its.length->∃b t w1,its[i]?=some (.ref b)/\s.heap.IsTuple b #[.int (kvs[i]!).1 t,w1]/\∃w,aR w w1/\RP X.K ρ H (kvs[i]!).2 w:=by
   intro i hi;have hk:i<kvs.length:=by ext
   obtain⟨b,w,e1,e2,e3⟩:=hv i its[i] kvs[i] (by simp[hi]) (by simp[hk]);obtain⟨it2,rv2,ht2,_⟩:=I.tuple e2
   cases rv2 with
   | cons a1 a2=>cases a2 with
    | cons a3 a4 =>
     cases a4;obtain⟨t,rfl⟩:=a1;refine⟨b,t,_,by rw[qae hi,e1],?_,w,a3,?_⟩
     ·rw[getElem!_pos kvs i hk];exact ht2
     ·rw[getElem!_pos kvs i hk];exact e3
  have hch:∃vals:List (Int × Value),vals.length=its.length/\∀i,i<its.length->∃b t w1,vals[i]?=some ((kvs[i]!).1,w1)/\its[i]?=some (.ref b)/\s.heap.IsTuple b #[.int (kvs[i]!).1 t,w1]/\∃w,aR w w1/\RP X.K ρ H (kvs[i]!).2 w:=by
   have:∀n,n<=its.length->∃vals:List (Int × Value),vals.length=n/\∀i,i<n->∃b t w1,vals[i]?=some ((kvs[i]!).1,w1)/\its[i]?=some (.ref b)/\s.heap.IsTuple b #[.int (kvs[i]!).1 t,w1]/\∃w,aR w w1/\RP X.K ρ H (kvs[i]!).2 w:=by
    intro n
    induction n with
    | zero=>exact fun _=>⟨[],rfl,fun i hi=>absurd hi (Nat.not_lt_zero _)⟩
    | succ n ih =>
     intro hn;obtain⟨vs,e1,e2⟩:=ih (by ext);obtain⟨b,t,w1,f1,f2,f3⟩:=hall n (by ext);refine⟨vs++[((kvs[n]!).1,w1)],by simp[e1],fun i hi=>?_⟩;by_cases z:i<n
     ·obtain⟨b,t,w1,g1,g2⟩:=e2 i z;exact⟨b,t,w1,by rw[qal (by ext)];exact g1,g2⟩
     ·have:i=n:=by ext
      subst this;exact⟨b,t,w1,by rw[qaF (by ext),e1];simp,f1,f2,f3⟩
   exact this _ (qak _)
  obtain⟨vals,hvl,hva⟩:=hch;have hkeys:vals.map (·.1)=kvs.map (·.1):=by
   apply List.ext_getElem?;intro i;by_cases z:i<its.length
   ·obtain⟨_,_,_,g1,_⟩:=hva i z;have hk:i<kvs.length:=by ext
    rw[qap,qap,g1,qae hk,getElem!_pos kvs i hk];rfl
   ·rw[qbH (by simp;ext),qbH (by simp;ext)]
  obtain⟨oa,hoa,hca,⟨na,hda⟩,hdi⟩:=ht;refine lU (a:=_) (items:=its.toArray) (kvs:=vals) (I.ok.hd g.calm) ⟨oa,na,hoa,hca,hda,hdi⟩ (by simp[hvl]) (by simp;ext) (hkeys▸nd) (fun i v kv h1 h2=>?_) fun h' tk hD hx=>?_
  ·have z:i<its.length:=by
    have:=(qaj.mp h2).1
    ext
   obtain⟨b,t,w1,g1,g2,g3,_⟩:=hva i z;rw[g1] at h2;cases h2
   have:v=.ref b:=by
    have e:its.toArray[i]?=its[i]?:=by simp
    rw[e,g2] at h1;exact (Option.some.inj h1).symm
   exact⟨b,t,this,g3⟩
  ·have hn:H s.heap.objs.size=none:=I.hok.fresh (qak _);have hbm:=Inv.bigM I;obtain⟨ys,y1,y2,y3⟩:=kz_rel (K:=X.K) (ρ:=ρ) (H:=H) (kvs:=kvs) (vals:=vals) (by ext) fun i a b h1 h2=>by
    have z:i<its.length:=by
     have:=(qaj.mp h2).1
     ext
    obtain⟨b',t,w1,g1,g2,g3,w,g4,g5⟩:=hva i z;rw[g1] at h2;cases h2;have hk:i<kvs.length:=by ext
    rw[qae hk] at h1;cases h1;rw[getElem!_pos kvs i hk] at g5 ⊢;exact⟨rfl,w,g4,g5⟩
   have hzl:(kz (kvs.map (·.1)) ys).length<=sizeLine:=by
    unfold kz;rw[qbr,qaC,qaC];ext
   exact⟨.ref s.heap.objs.size,_,I.laid (o:=.dK (kz (kvs.map (·.1)) ys)) hx (qak _) ⟨hzl,beq_eq_false_iff_ne.mpr (qaT hbm),_,y3,mix_of hD⟩,rfl,q _ ys hn y1 y2⟩
 | _=>cases ep
def cj_dict(g:Good X N W G k):cO X (.type "dict") fDict:=by
 intro Il s σ H xs us Q I r ⟨ρ,h,ps,rh,rp,q⟩;unfold fDict at q
 split at q
 ·rename_i x
  cases rp with
  | cons r1 t1 =>
   cases t1
   cases ed:dgP x with
   | none=>rw[ed] at q;exact q.elim
   | some kvs =>
    rw[ed] at q;unfold dgP at ed
    split at ed
    ·rename_i ps
     split at ed
     ·rename_i kvs' ep
      split at ed
      ·rename_i nd
       cases ed;refine uk g Il s σ H _ us Q I r ⟨ρ,h,ps,kvs,_,rfl,rh,r1,ep,nd,fun l ys hl h1 h2=>?_⟩;have ro:RO X.K X.mg ρ H l (.dic false (kvs.map Prod.fst) (kvs.map Prod.snd)) (some (.dK (kz (kvs.map Prod.fst) ys))):=⟨ys,h1,h2,rfl⟩;obtain⟨rh2,l2⟩:=rh.new hl ro;exact q _ _ _ l2 rh2 (.loc (by rw[<-rh.len];simp))
      ·cases ed
     ·cases ed
    ·cases ed
 ·exact q.elim
def Iti(a:Addr)(o:Obj)(ks:List Int)(ys:List V):It :=
 ⟨fun i H=>H a=some (.frz o (.dK (kz ks ys)))/\i<ks.length,fun i H x H'=>∃p k y,H p=none/\x=.ref p/\H'=upd H p (.tup [.int k,y])/\ks[i]?=some k/\ys[i]?=some y,fun i H=>H a=some (.frz o (.dK (kz ks ys)))/\ks.length<=i⟩
def fz_at{Il:List (Addr × Obj)}{σ:L2.St}{H:Hp}{s:Shared}{a:Addr}{o:Obj}{kvs:List (Key × V)}{ep:Nat}{es:Array DictEntry}(I:Inv X Il σ H s)(he:o.data=.dict es ep)(e:H a=some (.frz o (.dK kvs))) :
  s.heap.get? a=some o/\∃vs,KV kvs vs/\s.heap.DictAt (cM X.prog X.w) a vs ep:=by
 obtain⟨h1,_,_,vs,rel,ob,es',ep',h2,h3,h4,h5⟩:=(show ObjOk X.prog X.w H s.heap a (.frz o (.dK kvs)) from I.hok a _ e);rw[h1] at h2;cases h2;rw[he] at h4;cases h4;exact⟨h1,vs,rel,o,es,h1,h3,he,h5⟩
def qz{ks:List Int}{ys:List V}(hl:ys.length=ks.length):(kz ks ys).length=ks.length:=by unfold kz;rw[qbr,qaC];lia
def ud{P:Program}{w:World}{K:qab}{elts:List Expr}{x1:Nat}{pos:Pos}(a it:Addr)(o:Obj){es:Array DictEntry}{ep:Nat}{ks:List Int}{ys:List V}(hl:ys.length=ks.length)(hep:o.data=.dict es ep)(hai:a≠it) :
  Turn P w K (.Tuple elts x1 pos) (Iti a o ks ys) [it] it (fun i h=>∃ok ov,IsItemIter h it a i ks.length ep ok ov) where
 mem:=by simp
 obj:=fun i h st b hb=>by
  obtain⟨ok,ov,he⟩:=st
  have:b=it:=by simpa using hb
  subst this;exact⟨_,he,fun v z=>nomatch z⟩
 keep:=fun i h h' st k=>let ⟨ok,ov,he⟩:=st;⟨ok,ov,k it (by simp) _ he⟩
 item:=by
  intro X hP hw hK hc i Il s σ H E I hf st hg;subst hP hw hK;obtain⟨ok,ov,he⟩:=st;obtain⟨hH,hi⟩:=hg;obtain⟨ho,vs,rel,da⟩:=fz_at I hep hH;have hvl:vs.length=ks.length:=by rw[<-jO rel,qz hl]
  obtain⟨⟨k,x⟩,hx⟩:∃p,vs[i]?=some p:=⟨vs[i],by simp[hvl,hi]⟩;obtain⟨v,hv,rv⟩:=kv_get rel hx;have hk:ks[i]?=some ks[i]:=by simp[hi]
  have hy:ys[i]?=some (ys[i]'(by lia)):=by simp
  have hkz:(kz ks ys)[i]?=some (.inl ks[i],ys[i]'(by lia)):=by
   unfold kz;rw[qcg];exact⟨by simp[hi],hy⟩
  rw[hkz] at hv;cases hv;rw[<-hvl] at he;refine wpAny_pyNext_items_item he da hx fun key h1 hkey ho1 hT hsz hk1=>⟨_,rfl,?_⟩;rcases bK (k:=Sum.inl ks[i]) (v:=key) hkey with ⟨j,t,e3,rfl⟩|⟨_,_,e3,_⟩
  ·cases e3;refine wpAny_letOwnedTupleGo_items (s:={ s with heap:=h1}) ho1 fun h2 he2 sb2=>?_;replace sb2:Heap.SameBut it h1 h2:=sb2;have hlt:it<s.heap.objs.size:=qaq he;obtain⟨I2,hup,hfr⟩:=m8 (t':=s.toks) (h':=h2) I (ch:=[it]) (ys:=[.int ks[i],ys[i]'(by lia)]) (its:=[.int ks[i] t,x]) hf (.cons ⟨t,rfl⟩ (.cons rv .nil)) (by rw[sizeLine_eq];show 2<=_;decide)
    (by simp only[qam,qbC,or_false];exact qaT hlt)
    ((sb2.2 _ (qaT hlt)).trans hT)
    (fun b o hb q=>by
     have h1':b≠it:=fun z=>hb (by simp[z])
     exact (sb2.2 b h1').trans (hk1 b o h1' q))
   rw[hvl] at he2;exact⟨.ref s.heap.objs.size,_,I2,rfl,⟨_,_,_,hfr,rfl,rfl,hk,hy⟩,⟨_,_,he2⟩,hup⟩
  ·cases e3
 done:=by
  intro X hP hw hK hc i Il s σ H E I hf st hg;subst hP hw hK;obtain⟨ok,ov,he⟩:=st;obtain⟨hH,hi⟩:=hg;obtain⟨ho,vs,rel,da⟩:=fz_at I hep hH;have hvl:vs.length=ks.length:=by rw[<-jO rel,qz hl]
  rw[<-hvl] at he;exact wpAny_pyNext_items_end (I.ok.hd hc) he da (by simp;lia) fun h' hx=>⟨rfl,gF (t':=s.toks) I hf fun b o hb q=>hx b o (fun z=>hb (by simp[z])) q⟩
 self:=fun A i s Q E st h=>let ⟨ok,ov,he⟩:=st;PySem.W.kcp_self he h
def mItD(m:Mx PV):Mx MIt:=fun σ h=>(m σ h).bind fun x h1=>match cf h1 x with
 | some (true,ks,xs)=>.ok ⟨eZ (ks.map .int) xs,[]⟩ h1
 | _=>.bad
def w5{elts:List Expr}{x1:Nat}{tp:Pos}{o:Expr}{m:Mx PV}{apos cpos:Pos}(he:ME X o m)
  (hbase:attributeBase o "items" X.env (eval o X.env)=eval o X.env:=by rfl) (hline:(apos.endLine == cpos.line)=true:=by rfl) :
  MI X (.Tuple elts x1 tp) (.Call (.Attribute o "items" apos) [] [] cpos) (mItD m):=by
 intro Il s σ H R I ⟨ρ,σp,h,rs,rh,q⟩
 refine wpAny_Call_method0_late hbase hline (thn (he Il s σ H (fun x' H1=>∃ρ1 h1 x,Le ρ H ρ1 H1/\RH X.K X.mg ρ1 H1 h1/\RP X.K ρ1 H1 x x'/\Ful X (lg X) σp ρ1 H1 (match cf h1 x with
 | some (true,ks,xs)=>.ok ⟨eZ (ks.map .int) xs,[]⟩ h1
 | _=>.bad) R) I ⟨ρ,σp,h,rs,rh,Ful.bind q fun ρ1 H1 x x' h1 _ l1 rh1 rx q1=>⟨ρ1,h1,x,l1,rh1,rx,q1⟩⟩) fun v s1 ⟨x',H1,I1,r1,ρ1,h1,x,l1,rh1,rx,q1⟩=>?_)
 split at q1
 ·rename_i ks xs ed
  obtain⟨n,a,ys,rfl,en,rfl,eo,hl,rps,d⟩:=fF rh1 rx ed;cases r1;obtain⟨t1,t2,hsys⟩:=sj I1 d;obtain⟨ob,d⟩:=d;obtain⟨h2,_,_,vs,rel,ob',es,ep,h3,h4,h5,h6⟩:=(show ObjOk X.prog X.w H1 s1.heap a (.frz ob (.dK (kz ks ys))) from I1.hok a _ d);rw[h2] at h3;cases h3;have dd:s1.heap.DictOf (cM X.prog X.w) a vs:=⟨ob,es,ep,h2,h4,h5,h6⟩;have hvl:vs.length=ks.length:=by rw[<-jO rel,qz hl]
  refine⟨"dict","dict.items",PySem.F.plainAttrs_dict,PySem.F.slot_dict_items,PySem.F.type_dict_items,t1,t2,Calls.callWith_builtin rfl (PySem.evalArgs_none ?_)⟩;refine call_meetsIn PySem.F.slot_dict_items dd.typeIs PySem.F.entry_dict_items (PySem.F.args_dict_items_1 _) (meets_dict_items (cM X.prog X.w) a hsys) ⟨⟨vs,dd⟩,?_⟩;have da:(s1.heap.push { cls:=.type "dict_items",data:=.fields #[.ref a]}).DictAt (cM X.prog X.w) a vs ep:=⟨ob,es,qac _ h2,h4,h5,h6⟩;have I2:Inv X Il σ H1 { s1 with heap:=s1.heap.push { cls:=.type "dict_items",data:=.fields #[.ref a]},toks:=s1.toks}:=I1.kept fun b o e=>qac _ e;refine wpAny_pyIter_items ⟨_,qax _ rfl,rfl,rfl⟩ da ?_;have hsz:(s1.heap.push { cls:=.type "dict_items",data:=.fields #[.ref a]}).objs.size=s1.heap.objs.size+1:=qaX ..;have I3:Inv X Il σ H1 { s1 with heap:=(s1.heap.push { cls:=.type "dict_items",data:=.fields #[.ref a]}).push { cls:=.type "dict_itemiterator",data:=.fields #[.none,.bool false,.ref a,.int 0 0,.int vs.length 0,.int ep 0,.none,.none]},toks:=s1.toks}:=I2.kept fun b o e=>qac _ e;have hlt:a<(s1.heap.push { cls:=.type "dict_items",data:=.fields #[.ref a]}).objs.size:=by rw[hsz];exact qci (qaq h2)
  refine⟨_,_,_,_,H1,rfl,I3,ud a _ ob hl h5 (qaM hlt),⟨_,_,by rw[<-hvl];exact qax _ rfl⟩,fun c hc=>?_,?_⟩
  ·have:c=(s1.heap.push { cls:=.type "dict_items",data:=.fields #[.ref a]}).objs.size:=by simpa using hc
   subst this;exact Inv.fpOk I2 (qak _) (I2.hok.fresh (qak _))
  ·refine q1 ρ1 H1 _ (Le.refl _ _) rh1 ?_;intro ρ' H' h2 i l rh' ok;have hfz:=l.frz _ _ _ d;have rps':=rps.le l;have hzl:(eZ (ks.map PV.int) xs).length=ks.length:=by rw[lh,qaC,rps.length];lia
   refine⟨fun hi'=>?_,fun hi'=>⟨hfz,by rw[hzl] at hi';exact hi'⟩⟩;rw[hzl] at hi';refine⟨⟨hfz,hi'⟩,fun x' H3 ⟨pp,kk,y2,hp,e1,e2,e3,e4⟩=>?_⟩;subst e1;subst e2;have hxl:i<xs.length:=by rw[rps.length];lia
   have hx:xs[i]?=some (xs[i]'hxl):=qae hxl;obtain⟨w',ew,rw'⟩:=rps'.get hx;rw[e4] at ew;cases ew;obtain⟨rh3,l3⟩:=rh'.tup hp [.int kk,y2];exact⟨ρ',_,l3,rh3,pe (by rw[qap,e3];rfl) hx,.tup (SqT.of cz) (.cons (.int _) (.cons (rw'.le l3) .nil))⟩
 ·exact q1.elim
end
end MM
namespace PU
open PySem MM
def ys{α:Type}{a b:α}(h:a=b):a=b:=h
inductive D where
 | non | bl (b:Bool) | int (i:Int) | str (x:Str) | tup (xs:List D) | lst (xs:List D) | dic (fz:Bool) (ks:List Int) (ds:List D) | exc (c:Str) | pen
abbrev Pen:=Int × Int × Int
abbrev aD:=List (Option D)
def cv(h:MH)(p:Nat)(s:Pen):Prop:=h[p]?=some (.lst [.int s.1,.int s.2.1,.int s.2.2])
inductive RcT (P:List PV->Prop) (v:PV):Prop
 | mk (xs:List PV) (e:v=.tup xs) (r:P xs):RcT P v
inductive RcL (h:MH) (O:List Nat) (P:List PV->Prop) (v:PV):Prop
 | mk (n:Nat) (xs:List PV) (e:v=.loc n) (no:n∉O) (g:h[n]?=some (.lst xs)) (r:P xs):RcL h O P v
inductive RcD (h:MH) (O:List Nat) (fz:Bool) (ks:List Int) (P:List PV->Prop) (v:PV):Prop
 | mk (n:Nat) (xs:List PV) (e:v=.loc n) (no:n∉O) (g:h[n]?=some (.dic fz ks xs)) (r:P xs):RcD h O fz ks P v
inductive RcO (h:MH) (O:List Nat) (o:MO) (v:PV):Prop
 | mk (n:Nat) (e:v=.loc n) (no:n∉O) (g:h[n]?=some o):RcO h O o v
inductive RcC (P:PV->Prop) (Q:List PV->Prop) (vs:List PV):Prop
 | mk (x:PV) (r:List PV) (e:vs=x::r) (a:P x) (b:Q r):RcC P Q vs
mutual
def Rp(p:Nat)(h:MH)(O:List Nat):D->PV->Prop
 | .non,v=>v=.non
 | .bl b,v=>v=.bl b
 | .int i,v=>v=.int i
 | .str x,v=>v=.str x
 | .tup ds,v=>RcT (Rps p h O ds) v
 | .lst ds,v=>RcL h O (Rps p h O ds) v
 | .dic fz ks ds,v=>RcD h O fz ks (Rps p h O ds) v
 | .exc c,v=>RcO h O (.exc ⟨c,[]⟩) v
 | .pen,v=>v=.loc p
def Rps(p:Nat)(h:MH)(O:List Nat):List D->List PV->Prop
 | [],vs=>vs=[]
 | d::ds,vs=>RcC (Rp p h O d) (Rps p h O ds) vs
end
def bo{h:MH}{n:Nat}{o:MO}(e:h[n]?=some o):n<h.length:=(qaj.mp e).1
structure Mv (O:List Nat) (h:MH) (O':List Nat) (h':MH):Prop where
 keep:∀n:Nat,n<h.length->n∉O->h'[n]?=h[n]?
 new:∀o∈O',o∈O\/h.length<=o
def Mv.get{O O':List Nat}{h h':MH}(s:Mv O h O' h'){n:Nat}{o:MO}(e:h[n]?=some o)(no:n∉O):n∉O'/\h'[n]?=some o:=by
 have hl:=bo e;refine⟨fun z=>?_,(s.keep n hl no).trans e⟩;rcases s.new n z with q|q
 ·exact no q
 ·lia
section
variable {p:Nat} {O O':List Nat} {h h':MH}
def Rp.mv(s:Mv O h O' h')(r:Rp p h O d v):Rp p h' O' d v:=by
 refine D.rec (motive_1:=fun d=>∀v,Rp p h O d v->Rp p h' O' d v) (motive_2:=fun ds=>∀vs,Rps p h O ds vs->Rps p h' O' ds vs)
  (fun _ r=>r) (fun _ _ r=>r) (fun _ _ r=>r) (fun _ _ r=>r) (fun ds i _ r=>?_) (fun ds i _ r=>?_) (fun _ _ ds i _ r=>?_) (fun _ _ r=>?_) (fun _ r=>r) (fun _ r=>r) (fun _ _ i j _ r=>?_) d v r
 ·obtain⟨xs,e,r⟩:=r;exact⟨xs,e,i _ r⟩
 ·obtain⟨n,xs,e,no,g,r⟩:=r;exact⟨n,xs,e,(s.get g no).1,(s.get g no).2,i _ r⟩
 ·obtain⟨n,xs,e,no,g,r⟩:=r;exact⟨n,xs,e,(s.get g no).1,(s.get g no).2,i _ r⟩
 ·obtain⟨n,e,no,g⟩:=r;exact⟨n,e,(s.get g no).1,(s.get g no).2⟩
 ·obtain⟨x,t,e,a,b⟩:=r;exact⟨x,t,e,i _ a,j _ b⟩
def Rps.mv(s:Mv O h O' h')(r:Rps p h O ds vs):Rps p h' O' ds vs:=by
 induction ds generalizing vs with
 | nil=>exact r
 | cons d ds ih=>obtain⟨x,t,e,a,b⟩:=r;exact⟨x,t,e,a.mv s,ih b⟩
def Rps.length(r:Rps p h O ds vs):vs.length=ds.length:=by
 induction ds generalizing vs with
 | nil=>rw[show vs=[] from r];rfl
 | cons d ds ih=>obtain⟨x,t,e,a,b⟩:=r;rw[e,qaA,qaA,ih b]
def Rps.get{ds:List D}{vs:List PV}{i:Nat}{d:D}(r:Rps p h O ds vs)(g:ds[i]?=some d):∃v,vs[i]?=some v/\Rp p h O d v:=by
 induction ds generalizing vs i with
 | nil=>cases g
 | cons d ds ih =>
  obtain⟨x,t,e,a,b⟩:=r;subst e
  cases i with
  | zero=>cases g;exact⟨x,rfl,a⟩
  | succ i=>have z:=@ih t i b g;exact z
def Rps.app(r:Rps p h O ds vs)(s:Rps p h O es ws):Rps p h O (ds++es) (vs++ws):=by
 induction ds generalizing vs with
 | nil=>rw[show vs=[] from r];exact s
 | cons d ds ih=>obtain⟨x,t,e,a,b⟩:=r;subst e;exact⟨x,t++_,rfl,a,ih b⟩
def Rps.take(n:Nat)(r:Rps p h O ds vs):Rps p h O (ds.take n) (vs.take n):=by
 induction ds generalizing vs n with
 | nil=>rw[show vs=[] from r];cases n <;> rfl
 | cons d ds ih =>
  obtain⟨x,t,e,a,b⟩:=r;subst e
  cases n with
  | zero=>rfl
  | succ n=>exact⟨x,t.take n,rfl,a,ih n b⟩
def Rps.drop(n:Nat)(r:Rps p h O ds vs):Rps p h O (ds.drop n) (vs.drop n):=by
 induction ds generalizing vs n with
 | nil=>rw[show vs=[] from r];cases n <;> rfl
 | cons d ds ih =>
  cases n with
  | zero=>exact r
  | succ n=>obtain⟨x,t,e,a,b⟩:=r;subst e;exact ih n b
def Rps.set(i:Nat)(r:Rps p h O ds vs)(q:Rp p h O d v):Rps p h O (ds.set i d) (vs.set i v):=by
 induction ds generalizing vs i with
 | nil=>rw[show vs=[] from r];rfl
 | cons d' ds ih =>
  obtain⟨x,t,e,a,b⟩:=r;subst e
  cases i with
  | zero=>exact⟨v,t,rfl,q,b⟩
  | succ i=>exact⟨x,t.set i v,rfl,a,ih i b⟩
end
def dl:Option (List Int)->List D->D
 | none,ds=>.lst ds
 | some ks,ds=>.dic false ks ds
def mo:Option (List Int)->List PV->MO
 | none,xs=>.lst xs
 | some ks,xs=>.dic false ks xs
def e9(e:D.lst ds=dl k es):k=none/\ds=es:=by
 cases k with
 | none=>cases e;exact⟨rfl,rfl⟩
 | some _=>cases e
inductive VwO (p:Nat) (h:MH) (L:Nat) (O:List Nat) (d:D) (v:PV):Prop
 | mk (n:Nat) (k:Option (List Int)) (xs:List PV) (ds:List D) (e:d=dl k ds) (e':v=.loc n) (o:n∈O) (l:L<=n) (g:h[n]?=some (mo k xs)) (r:Rps p h O ds xs):VwO p h L O d v
def Vw(p:Nat)(h:MH)(L:Nat)(O:List Nat)(d:D)(v:PV):Prop:=Rp p h O d v\/VwO p h L O d v
def Vws(p:Nat)(h:MH)(L:Nat)(O:List Nat):List D->List PV->Prop
 | [],vs=>vs=[]
 | d::ds,vs=>RcC (Vw p h L O d) (Vws p h L O ds) vs
inductive FrsI (p:Nat) (L:Nat) (O:List Nat) (h:MH) (k:Option (List Int)) (ds:List D) (v:PV):Prop
 | mk (n:Nat) (xs:List PV) (e:v=.loc n) (l:L<=n) (g:h[n]?=some (mo k xs)) (r:Rps p h (n::O) ds xs):FrsI p L O h k ds v
def Frs(p:Nat)(L:Nat)(O:List Nat)(h:MH)(d:D)(v:PV):Prop:=∀k ds,d=dl k ds->FrsI p L O h k ds v
structure KB (p:Nat) (h h':MH):Prop where
 len:h.length<=h'.length
 keep:∀n:Nat,n<h.length->n≠p->h'[n]?=h[n]?
def KB.refl(p:Nat)(h:MH):KB p h h:=⟨qak _,fun _ _ _=>rfl⟩
def KB.trans(a:KB p h h1)(b:KB p h1 h2):KB p h h2 :=
 ⟨qaJ a.len b.len,fun n hn hp=>(b.keep n (qaw hn a.len) hp).trans (a.keep n hn hp)⟩
def KB.app(p:Nat)(h g:MH):KB p h (h++g):=⟨by simp,fun n hn _=>qal hn⟩
def KB.mv(k:KB p h h')(hp:p∈O):Mv O h O h' :=
 ⟨fun n hn no=>k.keep n hn fun z=>no (z▸hp),fun o ho=>.inl ho⟩
def cv.app{p:Nat}{h g:MH}{s:Pen}(e:cv h p s):cv (h++g) p s:=by
 unfold cv at *;rw[qal (bo e)];exact e
def Vw.kb{p L:Nat}{h h':MH}{O:List Nat}{d:D}{v:PV}(k:KB p h h')(hp:p∈O)(hL:p<L)(w:Vw p h L O d v):Vw p h' L O d v:=by
 rcases w with r|⟨n,kd,xs,ds,e1,e2,ho,hn,g,r⟩
 ·exact .inl (r.mv (k.mv hp))
 ·exact .inr ⟨n,kd,xs,ds,e1,e2,ho,hn,(k.keep n (bo g) (by lia)).trans g,r.mv (k.mv hp)⟩
inductive PR (α:Type) where
 | ok (a:α) (s:Pen)
 | exc (c:Str) (s:Pen)
 | bad
def PR.bind{α β:Type}(r:PR α)(f:α->Pen->PR β):PR β:=match r with
 | .ok a s=>f a s
 | .exc c s=>.exc c s
 | .bad=>.bad
@[simp] theorem Pb(a:α)(s:Pen)(f:α->Pen->PR β):(PR.ok a s).bind f=f a s:=rfl
@[simp] theorem Pe(c:Str)(s:Pen)(f:α->Pen->PR β):(PR.exc c s).bind f=.exc c s:=rfl
@[simp] theorem Pd(f:α->Pen->PR β):(PR.bad:PR α).bind f=.bad:=rfl
def PR.of{α:Type}(o:Option α)(s:Pen):PR α:=match o with
 | some a=>.ok a s
 | none=>.bad
@[simp] theorem Pf(a:α)(s:Pen):PR.of (some a) s=.ok a s:=rfl
@[simp] theorem Pn(s:Pen):PR.of (none:Option α) s=.bad:=rfl
inductive OkE {α β:Type} (p:Nat) (h:MH) (o:Out β) (a:α) (s:Pen) (R:MH->α->β->Prop):Prop
 | mk (b:β) (h':MH) (e:o=.ok b h') (k:KB p h h') (n:cv h' p s) (r:R h' a b):OkE p h o a s R
inductive OkX {β:Type} (p:Nat) (h:MH) (o:Out β) (c:Str) (s:Pen):Prop
 | mk (h':MH) (e:o=.exc ⟨c,[]⟩ h') (k:KB p h h') (n:cv h' p s):OkX p h o c s
def Ok{α β:Type}(p:Nat)(h:MH)(o:Out β)(r:PR α)(R:MH->α->β->Prop):Prop:=match r with
 | .ok a s=>OkE p h o a s R
 | .exc c s=>OkX p h o c s
 | .bad=>True
def Ok.bind{α β γ δ:Type}{p:Nat}{h:MH}{o:Out β}{r:PR α}{R:MH->α->β->Prop}{f:β->MH->Out δ}{g:α->Pen->PR γ}{S:MH->γ->δ->Prop}(q:Ok p h o r R)
  (k:∀a b h1 s,KB p h h1->cv h1 p s->R h1 a b->Ok p h1 (f b h1) (g a s) S):Ok p h (o.bind f) (r.bind g) S:=by
 cases r with
 | ok a s =>
  obtain⟨b,h1,rfl,kb,pn,rr⟩:=q
  have:=k a b h1 s kb pn rr
  rw[Out.bind_ok,Pb]
  cases e:g a s with
  | ok c s2 =>
   rw[e] at this;obtain⟨d,h2,e2,kb2,pn2,r2⟩:=this;exact⟨d,h2,e2,kb.trans kb2,pn2,r2⟩
  | exc c s2 =>
   rw[e] at this;obtain⟨h2,e2,kb2,pn2⟩:=this;exact⟨h2,e2,kb.trans kb2,pn2⟩
  | bad=>trivial
 | exc c s =>
  obtain⟨h1,rfl,kb,pn⟩:=q;exact⟨h1,rfl,kb,pn⟩
 | bad=>trivial
def Ok.imp{α β:Type}{p:Nat}{h:MH}{o:Out β}{r:PR α}{R S:MH->α->β->Prop}(q:Ok p h o r R)(k:∀h' a b,KB p h h'->R h' a b->S h' a b):Ok p h o r S:=by
 cases r with
 | ok a s=>obtain⟨b,h1,e,kb,pn,rr⟩:=q;exact⟨b,h1,e,kb,pn,k _ _ _ kb rr⟩
 | exc c s=>exact q
 | bad=>trivial
structure SR (p:Nat) (h:MH) (L:Nat) (O:List Nat) (ws:List Nat) (σ:PSt) (env:aD):Prop where
 len:σ.length=env.length
 fz:∀i d,env[i]?=some (some d)->i∉ws->∃v,σ[i]?=some (some v)/\Rp p h O d v
 ow:∀i d,env[i]?=some (some d)->i∈ws->∃n k xs ds,d=dl k ds/\σ[i]?=some (some (.loc n))/\n∈O/\L<=n/\h[n]?=some (mo k xs)/\Rps p h O ds xs
structure Cx (p:Nat) (h:MH) (L:Nat) (B O:List Nat) (ws:List Nat) (σ:PSt) (env:aD) (s:Pen):Prop where
 bd:∀o∈O,o<h.length
 sub:∀o∈B,o∈O
 bb:∀o∈B,o<L
 pb:p∈B
 hL:L<=h.length
 pen:cv h p s
 sr:SR p h L O ws σ env
section
variable {p L:Nat} {h h':MH} {B O ws:List Nat} {σ:PSt} {env:aD} {s s':Pen}
def Cx.pO(c:Cx p h L B O ws σ env s):p∈O:=c.sub p c.pb
def Cx.pL(c:Cx p h L B O ws σ env s):p<L:=c.bb p c.pb
def SR.mv{O':List Nat}(m:Mv O h O' h')(hs:∀o∈O,o∈O')(ho:∀n:Nat,n<h.length->L<=n->n∈O->h'[n]?=h[n]?)(r:SR p h L O ws σ env):SR p h' L O' ws σ env :=
 ⟨r.len,fun i d e hi=>let ⟨v,e1,q⟩:=r.fz i d e hi;⟨v,e1,q.mv m⟩,fun i d e hi=>let ⟨n,k,xs,ds,e1,e2,a,b,g,q⟩:=r.ow i d e hi;⟨n,k,xs,ds,e1,e2,hs n a,b,(ho n (bo g) b a).trans g,q.mv m⟩⟩
def Cx.kb(c:Cx p h L B O ws σ env s)(k:KB p h h')(pn:cv h' p s'):Cx p h' L B O ws σ env s' :=
 ⟨fun o ho=>qaw (c.bd o ho) k.len,c.sub,c.bb,c.pb,qaJ c.hL k.len,pn,c.sr.mv (k.mv c.pO) (fun _ h=>h) fun n hn hl _=>k.keep n hn (by have:=c.pL;lia)⟩
def Vw.base(w:Vw p h L O d v)(sub:∀o∈B,o∈O)(bb:∀o∈B,o<L):Rp p h B d v:=by
 have m:Mv O h B h:=⟨fun _ _ _=>rfl,fun o ho=>.inl (sub o ho)⟩;rcases w with r|⟨n,k,xs,ds,rfl,rfl,_,hn,g,r⟩
 ·exact r.mv m
 ·cases k <;> exact⟨n,xs,rfl,fun z=>by have:=bb n z;lia,g,r.mv m⟩
def Vws.base(sub:∀o∈B,o∈O)(bb:∀o∈B,o<L):∀{ds:List D} {vs:List PV},Vws p h L O ds vs->Rps p h B ds vs
 | [],_,r=>r
 | _::_,_,⟨x,t,e,a,b⟩=>⟨x,t,e,a.base sub bb,Vws.base sub bb b⟩
def Frs.rp(f:Frs p L' O h d v)(bd:∀o∈O,o<L')(e:d=dl k ds):Rp p h O d v:=by
 obtain⟨n,xs,e1,hn,g,r⟩:=f k ds e;subst e;cases k <;> exact⟨n,xs,e1,fun z=>by have:=bd n z;lia,g,r.mv ⟨fun _ _ _=>rfl,fun o ho=>.inl (qaf _ ho)⟩⟩
def Frs.le(f:Frs p L2 O h d v)(hl:L1<=L2):Frs p L1 O h d v:=fun k ds e =>
 let ⟨n,xs,e1,hn,g,r⟩:=f k ds e;⟨n,xs,e1,qaJ hl hn,g,r⟩
end
abbrev Bd(h:MH)(O:List Nat):Prop:=∀o∈O,o<h.length
inductive Gv (p:Nat) (h:MH) (O:List Nat) (fr:Bool) (o:Out PV) (d:D):Prop
 | mk (v:PV) (g:MH) (e:o=.ok v (h++g)) (r:Rp p (h++g) O d v) (f:fr=true->Frs p h.length O (h++g) d v):Gv p h O fr o d
structure Op1 where
 m:PV->MH->Out PV
 p:D->Option D
 fr:Bool
 ok:∀{q h L O a x d},Bd h O->Vw q h L O a x->p a=some d->Gv q h O fr (m x h) d
structure Op2 where
 m:PV->PV->MH->Out PV
 p:D->D->Option D
 fr:Bool
 ok:∀{q h L O a x b y d},Bd h O->Vw q h L O a x->Vw q h L O b y->p a b=some d->Gv q h O fr (m x y h) d
structure OpN where
 k:List PV->MH->Out PV
 p:List D->Option D
 fr:Bool
 ok:∀{q h L O as xs d},Bd h O->Vws q h L O as xs->p as=some d->Gv q h O fr (k xs h) d
structure Fn where
 m:List PV->MH->Out PV
 p:List D->Pen->PR D
 fr:Bool
 ok:∀{q h O vs ds s},Bd h O->q∈O->cv h q s->Rps q h O ds vs->Ok q h (m vs h) (p ds s) (fun h' d v=>Rp q h' O d v/\(fr=true->Frs q h.length O h' d v))
mutual
def flat:D->Bool
 | .lst _ | .dic _ _ _ | .exc _ | .pen=>false
 | .tup ds=>flats ds
 | _=>true
def flats:List D->Bool
 | []=>true
 | d::ds=>flat d && flats ds
end
section
variable {p:Nat} {h h':MH} {O O':List Nat}
mutual
def Rp.flat:∀{d:D} {v:PV},PU.flat d=true->Rp p h O d v->Rp p h' O' d v
 | .non,_,_,r=>r
 | .bl _,_,_,r=>r
 | .int _,_,_,r=>r
 | .str _,_,_,r=>r
 | .tup ds,_,f,⟨xs,e,r⟩=>⟨xs,e,Rps.flat (by simpa [PU.flat] using f) r⟩
 | .lst ds,_,f,_=>by simp[PU.flat] at f
 | .dic _ _ _,_,f,_=>by simp[PU.flat] at f
 | .exc _,_,f,_=>by simp[PU.flat] at f
 | .pen,_,f,_=>by simp[PU.flat] at f
def Rps.flat:∀{ds:List D} {vs:List PV},PU.flats ds=true->Rps p h O ds vs->Rps p h' O' ds vs
 | [],_,_,r=>r
 | _::_,_,f,⟨x,t,e,a,b⟩=>⟨x,t,e,Rp.flat (by simp[PU.flats] at f;exact f.1) a,Rps.flat (by simp[PU.flats] at f;exact f.2) b⟩
end
end
structure Xe (ws:List Nat) where
 m:Mx PV
 p:aD->Pen->PR D
 fz:Bool
 fr:Bool
 ok:∀{q h L B O σ env s},Cx q h L B O ws σ env s->Ok q h (m σ h) (p env s) (fun h' d v=>Vw q h' L O d v/\(fz=true->Rp q h' O d v)/\(fr=true->Frs q h.length O h' d v))
structure Xs (ws:List Nat) where
 m:Mx (List PV)
 p:aD->Pen->PR (List D)
 fz:Bool
 ok:∀{q h L B O σ env s},Cx q h L B O ws σ env s->Ok q h (m σ h) (p env s) (fun h' ds vs=>Vws q h' L O ds vs/\(fz=true->Rps q h' O ds vs))
structure Xt (ws:List Nat) where
 m:Mx Bool
 p:aD->Pen->PR Bool
 ok:∀{q h L B O σ env s},Cx q h L B O ws σ env s->Ok q h (m σ h) (p env s) (fun _ a b=>a=b)
noncomputable section
variable {ws:List Nat}
def give{q L:Nat}{h h2:MH}{O:List Nat}{o:Out PV}{d:D}{s:Pen}{fr:Bool}(le:h.length<=h2.length)(pn:cv h2 q s)(g:Gv q h2 O fr o d) :
  Ok q h2 o (.ok d s) (fun h' d v=>Vw q h' L O d v/\(true=true->Rp q h' O d v)/\(fr=true->Frs q h.length O h' d v)):=by
 obtain⟨v,g,e,r,f⟩:=g;exact⟨v,h2++g,e,KB.app _ _ _,pn.app,.inl r,fun _=>r,fun z=>(f z).le le⟩
def aa(i:Nat):Xe ws where
 m:=ag i
 p:=fun env s=>match env[i]? with
  | some (some d)=>.ok d s
  | _=>.bad
 fz:=!ws.contains i
 fr:=false
 ok {q h L B O σ env s} c:=by
  show Ok q h _ (match env[i]? with | some (some d)=>PR.ok d s | _=>.bad) _
  cases e:env[i]? with
  | none=>trivial
  | some o =>
   cases o with
   | none=>trivial
   | some d =>
    by_cases z:i∈ws
    ·obtain⟨n,k,xs,ds,e1,e2,a,b,g,r⟩:=c.sr.ow i d e z;exact⟨.loc n,h,by simp[ag,e2],KB.refl _ _,c.pen,.inr ⟨n,k,xs,ds,e1,rfl,a,b,g,r⟩,fun f=>by simp[z] at f,fun f=>by simp at f⟩
    ·obtain⟨v,e1,r⟩:=c.sr.fz i d e z;exact⟨v,h,by simp[ag,e1],KB.refl _ _,c.pen,.inl r,fun _=>r,fun f=>by simp at f⟩
inductive Cn where
 | non | bl (b:Bool) | int (i:Int) | str (x:Str)
def Cn.v:Cn->PV
 | .non=>.non
 | .bl b=>.bl b
 | .int i=>.int i
 | .str x=>.str x
def Cn.d:Cn->D
 | .non=>.non
 | .bl b=>.bl b
 | .int i=>.int i
 | .str x=>.str x
def Cn.rp(c:Cn){q:Nat}{h:MH}{O:List Nat}:Rp q h O c.d c.v:=by cases c <;> rfl
def xC(k:Cn):Xe ws where
 m:=mC k.v
 p:=fun _ s=>.ok k.d s
 fz:=true
 fr:=true
 ok {q h L B O σ env s} c:=⟨k.v,h,rfl,KB.refl _ _,c.pen,.inl k.rp,fun _=>k.rp,fun _ kd ds e=>by cases k <;> cases kd <;> cases e⟩
def af(o:Op2)(a b:Xe ws):Xe ws where
 m:=aj o.m a.m b.m
 p:=fun env s=>(a.p env s).bind fun x s1=>(b.p env s1).bind fun y s2=>.of (o.p x y) s2
 fz:=true
 fr:=o.fr
 ok {q h L B O σ env s} c:=by
  refine (a.ok c).bind fun x v h1 s1 k1 p1 ⟨w1,_,_⟩=>?_;refine (b.ok (c.kb k1 p1)).bind fun y w h2 s2 k2 p2 ⟨w2,_,_⟩=>?_
  cases e:o.p x y with
  | none=>trivial
  | some d =>
   have c2:=(c.kb k1 p1).kb k2 p2;obtain⟨u,g,e1,r,f⟩:=o.ok c2.bd (w1.kb k2 c.pO c.pL) w2 e;exact give (qaJ k1.len k2.len) p2 ⟨u,g,by rw[e1];rfl,r,f⟩
def xUn(o:Op1)(a:Xe ws):Xe ws where
 m:=mUn o.m a.m
 p:=fun env s=>(a.p env s).bind fun x s1=>.of (o.p x) s1
 fz:=true
 fr:=o.fr
 ok {q h L B O σ env s} c:=by
  refine (a.ok c).bind fun x v h1 s1 k1 p1 ⟨w1,_,_⟩=>?_
  cases e:o.p x with
  | none=>trivial
  | some d =>
   obtain⟨u,g,e1,r,f⟩:=o.ok (c.kb k1 p1).bd w1 e;exact give k1.len p1 ⟨u,g,by rw[e1];rfl,r,f⟩
def xNil:Xs ws where
 m:=mNil
 p:=fun _ s=>.ok [] s
 fz:=true
 ok {q h L B O σ env s} c:=⟨[],h,rfl,KB.refl _ _,c.pen,rfl,fun _=>rfl⟩
def ac(a:Xe ws)(r:Xs ws):Xs ws where
 m:=ae a.m r.m
 p:=fun env s=>(a.p env s).bind fun x s1=>(r.p env s1).bind fun y s2=>.ok (x::y) s2
 fz:=a.fz && r.fz
 ok {q h L B O σ env s} c:=by
  refine (a.ok c).bind fun x v h1 s1 k1 p1 ⟨w1,z1,_⟩=>?_;refine (r.ok (c.kb k1 p1)).bind fun y w h2 s2 k2 p2 ⟨w2,z2⟩=>?_;refine⟨v::w,h2,rfl,KB.refl _ _,p2,⟨v,w,rfl,w1.kb k2 c.pO c.pL,w2⟩,fun f=>?_⟩;rw[qbB] at f;exact⟨v,w,rfl,(z1 f.1).mv (k2.mv c.pO),z2 f.2⟩
def xCb(o:OpN)(a:Xs ws):Xe ws where
 m:=fun σ h=>(a.m σ h).bind o.k
 p:=fun env s=>(a.p env s).bind fun x s1=>.of (o.p x) s1
 fz:=true
 fr:=o.fr
 ok {q h L B O σ env s} c:=by
  refine (a.ok c).bind fun x v h1 s1 k1 p1 ⟨w1,_⟩=>?_
  cases e:o.p x with
  | none=>trivial
  | some d=>exact give k1.len p1 (o.ok (c.kb k1 p1).bd w1 e)
def ak(f:Fn)(a:Xs ws)(hz:a.fz=true:=by exact ys rfl):Xe ws where
 m:=aM f.m a.m
 p:=fun env s=>(a.p env s).bind f.p
 fz:=true
 fr:=f.fr
 ok {q h L B O σ env s} c:=by
  refine (a.ok c).bind fun x v h1 s1 k1 p1 ⟨_,z⟩=>?_;have c1:=c.kb k1 p1;refine (f.ok c1.bd c1.pO p1 (z hz)).imp fun h' d v kb ⟨r,fr⟩=>⟨.inl r,fun _=>r,fun z=>(fr z).le k1.len⟩
def lend(d:D):Bool:=match d with
 | .lst ds=>flats ds
 | d=>flat d
def oW(f:Fn)(a:Xs ws)(hf:f.fr=true:=by exact ys rfl):Xe ws where
 m:=aM f.m a.m
 p:=fun env s=>((a.p env s).bind f.p).bind fun d s=>if lend d=true then .ok d s else .bad
 fz:=true
 fr:=true
 ok {q h L B O σ env s} c:=by
  have key:Ok q h ((a.m σ h).bind f.m) ((a.p env s).bind f.p) (fun h' d v=>Rp q h' B d v/\Frs q h.length B h' d v):=by
   refine (a.ok c).bind fun x v h1 s1 k1 p1 ⟨w,_⟩=>?_;have c1:=c.kb k1 p1;refine (f.ok (fun o ho=>qaw (c1.bb o ho) c1.hL) c1.pb p1 (w.base c1.sub c1.bb)).imp fun h' d v kb ⟨r,fr⟩=>⟨r,(fr hf).le k1.len⟩
  show Ok q h ((a.m σ h).bind f.m) _ _
  cases e:(a.p env s).bind f.p with
  | bad=>trivial
  | exc x s1=>rw[e] at key;exact key
  | ok d s1 =>
   rw[e] at key;obtain⟨v,h',e1,kb,pn,r,fr⟩:=key;rw[Pb];by_cases z:lend d=true
   ·rw[qan z];have f2:Frs q h.length O h' d v:=fun k ds ed=>by
     obtain⟨n,xs,a1,a2,a3,a4⟩:=fr k ds ed;subst ed
     cases k with
     | some _=>cases z
     | none=>exact⟨n,xs,a1,a2,a3,Rps.flat z a4⟩
    have r2:Rp q h' O d v:=by
     cases d with
     | lst ds=>exact f2.rp (k:=none) c.bd rfl
     | non=>exact r
     | bl b=>exact r
     | int i=>exact r
     | str i=>exact r
     | tup i=>exact Rp.flat z r
     | dic _ _ _=>cases z
     | exc _=>cases z
     | pen=>cases z
    exact⟨v,h',e1,kb,pn,.inl r2,fun _=>r2,fun _=>f2⟩
   ·rw[qaz z];trivial
def eJ:100000<=sizeLine:=by decide
def iW(bd:Bd h O)(r:Rps q h O ds xs)(hl:ds.length<=100000):Gv q h O true (newL xs h) (.lst ds):=by
 have hx:=r.length;have m:Mv O h O (h++[MO.lst xs]):=⟨fun n hn _=>qal hn,fun o ho=>.inl ho⟩
 have m2:Mv O h (h.length::O) (h++[MO.lst xs]):=⟨fun n hn _=>qal hn,fun o ho=>by
  rcases qam.mp ho with z|z
  ·exact .inr (by lia)
  ·exact .inl z⟩
 have g:(h++[MO.lst xs])[h.length]?=some (.lst xs):=by simp
 refine⟨.loc h.length,[.lst xs],?_,⟨_,_,rfl,fun z=>by have:=bd _ z;lia,g,r.mv m⟩,fun _ k ds' e=>?_⟩
 ·unfold newL;rw[qan];have:=eJ;lia
 ·obtain⟨rfl,rfl⟩:=e9 e;exact⟨_,_,rfl,qak _,g,r.mv m2⟩
def tw(r:Rps q h O ds xs)(hl:ds.length<=100000):Gv q h O true (newT xs h) (.tup ds):=by
 have hx:=r.length;refine⟨.tup xs,[],?_,?_,fun _ k ds' e=>by cases k <;> cases e⟩
 ·unfold newT;rw[qan (by have:=eJ;lia)];simp
 ·simpa using ⟨xs,rfl,r⟩
def d5(a:Xs ws)(hz:a.fz=true:=by exact ys rfl):Xe ws where
 m:=d7 a.m
 p:=fun env s=>(a.p env s).bind fun x s1=>if x.length<=100000 then .ok (.lst x) s1 else .bad
 fz:=true
 fr:=true
 ok {q h L B O σ env s} c:=by
  refine (a.ok c).bind fun x v h1 s1 k1 p1 ⟨_,z⟩=>?_;by_cases hl:x.length<=100000
  ·rw[qan hl];exact give k1.len p1 (iW (c.kb k1 p1).bd (z hz) hl)
  ·rw[qaz hl];trivial
def bO(a:Xs ws)(hz:a.fz=true:=by exact ys rfl):Xe ws where
 m:=fE a.m
 p:=fun env s=>(a.p env s).bind fun x s1=>if x.length<=100000 then .ok (.tup x) s1 else .bad
 fz:=true
 fr:=true
 ok {q h L B O σ env s} c:=by
  refine (a.ok c).bind fun x v h1 s1 k1 p1 ⟨_,z⟩=>?_;by_cases hl:x.length<=100000
  ·rw[qan hl];exact give k1.len p1 (tw (z hz) hl)
  ·rw[qaz hl];trivial
def xDic:Xe ws where
 m:=mDic
 p:=fun _ s=>.ok (.dic false [] []) s
 fz:=true
 fr:=true
 ok {q h L B O σ env s} c:=by
  have g:(h++[MO.dic false [] []])[h.length]?=some (.dic false [] []):=by simp
  have r:Rp q (h++[MO.dic false [] []]) O (.dic false [] []) (.loc h.length):=⟨_,[],rfl,fun z=>by have:=c.bd _ z;lia,g,rfl⟩
  exact⟨.loc h.length,h++[.dic false [] []],rfl,KB.app _ _ _,c.pen.app,.inl r,fun _=>r,fun _ k ds e=>by
   cases k with
   | none=>cases e
   | some ks=>cases e;exact⟨_,[],rfl,qak _,g,rfl⟩⟩
def Vw.bl(w:Vw q h L O (.bl b) v):v=.bl b:=by
 rcases w with r|⟨n,k,xs,ds,e,_⟩
 ·exact r
 ·cases k <;> cases e
def PR.bl(r:PR D):PR Bool:=r.bind fun d s=>match d with
 | .bl b=>.ok b s
 | _=>.bad
@[simp] theorem Pl:(PR.ok (D.bl b) s).bl=.ok b s:=rfl
def xB(a:Xe ws):Xt ws where
 m:=mB a.m
 p:=fun env s=>(a.p env s).bl
 ok {q h L B O σ env s} c:=by
  refine (a.ok c).bind fun x v h1 s1 k1 p1 ⟨w,_,_⟩=>?_
  cases x with
  | bl b=>rw[w.bl];exact⟨b,h1,rfl,KB.refl _ _,p1,rfl⟩
  | _=>trivial
def gp(a:Xt ws):Xt ws where
 m:=ja a.m
 p:=fun env s=>(a.p env s).bind fun b s=>.ok (!b) s
 ok {q h L B O σ env s} c:=(a.ok c).bind fun x v h1 s1 k1 p1 e=>⟨!v,h1,rfl,KB.refl _ _,p1,by rw[e]⟩
def xAnd(a b:Xt ws):Xt ws where
 m:=nB a.m b.m
 p:=fun env s=>(a.p env s).bind fun x s=>if x=true then b.p env s else .ok false s
 ok {q h L B O σ env s} c:=(a.ok c).bind fun x v h1 s1 k1 p1 e=>by
  subst e
  cases x with
  | true=>simpa using b.ok (c.kb k1 p1)
  | false=>exact⟨false,h1,rfl,KB.refl _ _,p1,rfl⟩
def xOr(a b:Xt ws):Xt ws where
 m:=mOr a.m b.m
 p:=fun env s=>(a.p env s).bind fun x s=>if x=true then .ok true s else b.p env s
 ok {q h L B O σ env s} c:=(a.ok c).bind fun x v h1 s1 k1 p1 e=>by
  subst e
  cases x with
  | false=>simpa using b.ok (c.kb k1 p1)
  | true=>exact⟨true,h1,rfl,KB.refl _ _,p1,rfl⟩
def xTrue:Xt ws where
 m:=mTrue
 p:=fun _ s=>.ok true s
 ok {q h L B O σ env s} c:=⟨true,h,rfl,KB.refl _ _,c.pen,rfl⟩
def Ok.after{α β:Type}{p:Nat}{h h1:MH}{o:Out β}{r:PR α}{R:MH->α->β->Prop}(k:KB p h h1)(q:Ok p h1 o r R):Ok p h o r R:=by
 cases r with
 | bad=>trivial
 | exc c2 s2=>obtain⟨h2,a1,a2,a3⟩:=q;exact⟨h2,a1,k.trans a2,a3⟩
 | ok d2 s2=>obtain⟨v2,h2,a1,a2,a3,a4⟩:=q;exact⟨v2,h2,a1,k.trans a2,a3,a4⟩
def giveB(pn:cv h q s):Ok q h (.ok (.bl b) h) (.ok (.bl b) s) (fun h' d v=>Vw q h' L O d v/\(true=true->Rp q h' O d v)/\(true=true->Frs q l O h' d v)) :=
 ⟨.bl b,h,rfl,KB.refl _ _,pn,.inl rfl,fun _=>rfl,fun _ k ds e=>by cases k <;> cases e⟩
def blOnly(k:Ok q h o r (fun h' d v=>Vw q h' L O d v/\(fz=true->Rp q h' O d v)/\(fr=true->Frs q l' O h' d v))) :
  Ok q h o (r.bl.bind fun b s=>.ok (.bl b) s) (fun h' d v=>Vw q h' L O d v/\(true=true->Rp q h' O d v)/\(true=true->Frs q l O h' d v)):=by
 cases r with
 | bad=>trivial
 | exc c s=>exact k
 | ok d s =>
  obtain⟨v,h',e,kb,pn,w,_,_⟩:=k
  cases d with
  | bl b=>exact⟨v,h',e,kb,pn,w,fun _=>by rw[w.bl];rfl,fun _ k ds e=>by cases k <;> cases e⟩
  | _=>trivial
def ir(a b:Xe ws):Xe ws where
 m:=t5 a.m b.m
 p:=fun env s=>(a.p env s).bl.bind fun x s=>if x=true then (b.p env s).bl.bind fun y s=>.ok (.bl y) s else .ok (.bl false) s
 fz:=true
 fr:=true
 ok {q h L B O σ env s} c:=by
  have k:=a.ok c;show Ok q h ((a.m σ h).bind _) _ _
  cases e:a.p env s with
  | bad=>trivial
  | exc x s1 =>
   rw[e] at k;obtain⟨h1,e1,k1,p1⟩:=k;rw[e1];exact⟨h1,rfl,k1,p1⟩
  | ok d s1 =>
   rw[e] at k;obtain⟨v,h1,e1,k1,p1,w,_,_⟩:=k
   cases d with
   | bl x =>
    rw[w.bl] at e1;rw[e1]
    cases x with
    | true =>
     exact Ok.after k1 (blOnly (l:=h.length) (b.ok (c.kb k1 p1)))
    | false =>
     obtain⟨v2,h2,a1,a2,a3,a4⟩:=giveB (L:=L) (l:=h.length) (O:=O) (b:=false) p1;exact⟨v2,h2,a1,k1.trans a2,a3,a4⟩
   | _=>trivial
def o5(a:Xe ws):Xe ws where
 m:=uG a.m
 p:=fun env s=>(a.p env s).bl.bind fun x s=>.ok (.bl (!x)) s
 fz:=true
 fr:=true
 ok {q h L B O σ env s} c:=by
  have k:=a.ok c;show Ok q h ((a.m σ h).bind _) _ _
  cases e:a.p env s with
  | bad=>trivial
  | exc x s1 =>
   rw[e] at k;obtain⟨h1,e1,k1,p1⟩:=k;rw[e1];exact⟨h1,rfl,k1,p1⟩
  | ok d s1 =>
   rw[e] at k;obtain⟨v,h1,e1,k1,p1,w,_,_⟩:=k
   cases d with
   | bl x =>
    rw[w.bl] at e1;rw[e1];obtain⟨v2,h2,a1,a2,a3,a4⟩:=giveB (L:=L) (l:=h.length) (O:=O) (b:=!x) p1;exact⟨v2,h2,a1,k1.trans a2,a3,a4⟩
   | _=>trivial
def mY(t:Xt ws)(a b:Xe ws)(fz:Bool)(hf:fz=(a.fz && b.fz):=by exact ys rfl):Xe ws where
 m:=mIfE t.m a.m b.m
 p:=fun env s=>(t.p env s).bind fun x s=>if x=true then a.p env s else b.p env s
 fz:=fz
 fr:=false
 ok {q h L B O σ env s} c:=(t.ok c).bind fun x v h1 s1 k1 p1 e=>by
  subst e
  cases x with
  | true=>exact (a.ok (c.kb k1 p1)).imp fun h' d v kb r=>⟨r.1,fun f=>r.2.1 (by rw[hf,qbB] at f;exact f.1),fun f=>by simp at f⟩
  | false=>exact (b.ok (c.kb k1 p1)).imp fun h' d v kb r=>⟨r.1,fun f=>r.2.1 (by rw[hf,qbB] at f;exact f.2),fun f=>by simp at f⟩
end
structure Xi (ws:List Nat) where
 m:Mx MIt
 p:aD->Pen->PR (List D)
 fz:Bool
 ok:∀{q h L B O σ env s},Cx q h L B O ws σ env s->Ok q h (m σ h) (p env s) (fun h' ds it=>Rps q h' O ds it.xs/\(∀g∈it.gd,h'[g.1]?=some (.lst g.2)/\g.1≠q)/\(fz=true->∀g∈it.gd,g.1∉O))
inductive GI (q:Nat) (h:MH) (O:List Nat) (ds as:List D) (xs:List PV) (o:Out MIt):Prop
 | mk (it:MIt) (e:o=.ok it h) (r:Rps q h O ds it.xs) (g:∀g∈it.gd,h[g.1]?=some (.lst g.2)/\g.1≠q) (z:Rps q h O as xs->∀g∈it.gd,g.1∉O):GI q h O ds as xs o
structure OpI where
 k:List PV->MH->Out MIt
 p:List D->Option (List D)
 ok:∀{q h L O as xs ds},q<L->q∈O->Bd h O->Vws q h L O as xs->p as=some ds->GI q h O ds as xs (k xs h)
def D.items:D->Option (List D)
 | .lst ds=>some ds
 | .tup ds=>some ds
 | _=>none
@[simp] theorem bY:(D.lst ds).items=some ds:=rfl
@[simp] theorem wg:(D.tup ds).items=some ds:=rfl
noncomputable section
variable {ws:List Nat}
def bh(o:OpI)(a:Xs ws):Xi ws where
 m:=fun σ h=>(a.m σ h).bind o.k
 p:=fun env s=>(a.p env s).bind fun x s1=>.of (o.p x) s1
 fz:=a.fz
 ok {q h L B O σ env s} c:=by
  refine (a.ok c).bind fun x v h1 s1 k1 p1 ⟨w,z⟩=>?_
  cases e:o.p x with
  | none=>trivial
  | some ds =>
   obtain⟨it,e1,r,g1,g2⟩:=o.ok c.pL c.pO (c.kb k1 p1).bd w e;exact⟨it,h1,e1,KB.refl _ _,p1,r,g1,fun f=>g2 (z f)⟩
def Vw.seq(hq:q<L)(hO:q∈O)(w:Vw q h L O d v)(e:d.items=some ds):∃xs gd,itAny v h=.ok ⟨xs,gd⟩ h/\Rps q h O ds xs/\(∀g∈gd,h[g.1]?=some (.lst g.2)/\g.1≠q)/\(Rp q h O d v->∀g∈gd,g.1∉O):=by
 have one:∀n xs,h[n]?=some (MO.lst xs)->n≠q->(∀g∈[(n,xs)],h[g.1]?=some (MO.lst g.2)/\g.1≠q):=fun n xs g hn y hy=>by
  have:y=(n,xs):=by simpa using hy
  subst this;exact⟨g,hn⟩
 cases d with
 | lst es =>
  have:es=ds:=by simpa [D.items] using e
  subst this;rcases w with ⟨n,xs,e1,no,g,r⟩|⟨n,kd,xs,es',e0,e1,_,hn,g,r⟩
  ·subst e1;refine⟨xs,[(n,xs)],by simp only[itAny,g],r,one n xs g (fun z=>no (z▸hO)),fun _ y hy=>?_⟩
   have:y=(n,xs):=by simpa using hy
   subst this;exact no
  ·obtain⟨rfl,rfl⟩:=e9 e0;subst e1;replace g:h[n]?=some (.lst xs):=g;refine⟨xs,[(n,xs)],by simp only[itAny,g],r,one n xs g (by lia),fun ⟨n',xs',e1,no,_,_⟩ y hy=>?_⟩
   have:y=(n,xs):=by simpa using hy
   subst this;cases e1;exact no
 | tup es =>
  have:es=ds:=by simpa [D.items] using e
  subst this;rcases w with ⟨xs,e1,r⟩|⟨n,kd,xs,es',e0,_⟩
  ·subst e1;exact⟨xs,[],rfl,r,(fun _ hy=>nomatch hy),fun _ _ hy=>nomatch hy⟩
  ·cases kd <;> cases e0
 | _=>simp[D.items] at e
def cA(a:Xe ws):Xi ws where
 m:=fo a.m
 p:=fun env s=>(a.p env s).bind fun x s1=>.of x.items s1
 fz:=a.fz
 ok {q h L B O σ env s} c:=by
  refine (a.ok c).bind fun x v h1 s1 k1 p1 ⟨w,z,_⟩=>?_
  cases e:x.items with
  | none=>trivial
  | some ds =>
   obtain⟨xs,gd,e1,r,g1,g2⟩:=w.seq c.pL c.pO e;exact⟨⟨xs,gd⟩,h1,e1,KB.refl _ _,p1,r,g1,fun f=>g2 (z f)⟩
structure Xg (ws:List Nat) where
 m:Mg
 p:D->aD->Option aD
 ok:∀{q h L O σ env d v env'},SR q h L O ws σ env->Rp q h O d v->p d env=some env'->∃σ',m v σ h=.nx σ' h/\SR q h L O ws σ' env'/\∀i∈ws,σ'[i]?=σ[i]?/\env'[i]?=env[i]?
structure Xgs (ws:List Nat) where
 m:Mgs
 p:List D->aD->Option aD
 ok:∀{q h L O σ env ds vs env'},SR q h L O ws σ env->Rps q h O ds vs->p ds env=some env'->∃σ',m vs σ h=.nx σ' h/\SR q h L O ws σ' env'/\∀i∈ws,σ'[i]?=σ[i]?/\env'[i]?=env[i]?
def SR.set(r:SR q h L O ws σ env)(hi:i∉ws)(w:Rp q h O d v):SR q h L O ws (σ.set i (some v)) (env.set i (some d))/\∀j∈ws,(σ.set i (some v))[j]?=σ[j]?/\(env.set i (some d))[j]?=env[j]?:=by
 have ne:∀j∈ws,i≠j:=fun j hj z=>hi (z▸hj);refine⟨⟨by simp[r.len],fun j e hj hw=>?_,fun j e hj hw=>?_⟩,fun j hj=>⟨qai (ne j hj),qai (ne j hj)⟩⟩
 ·by_cases z:i=j
  ·subst z;have hl:i<env.length:=by
    have:=(qaj.mp hj).1;simpa using this
   rw[qaD hl] at hj;cases hj;exact⟨v,qaD (by rw[r.len];exact hl),w⟩
  ·rw[qai z] at hj;obtain⟨u,e1,q1⟩:=r.fz j e hj hw;exact⟨u,by rw[qai z];exact e1,q1⟩
 ·rw[qai (ne j hw)] at hj;obtain⟨n,kd,xs,ds,e1,e2,rest⟩:=r.ow j e hj hw;exact⟨n,kd,xs,ds,e1,by rw[qai (ne j hw)];exact e2,rest⟩
def xNm(i:Nat)(hi:ws.contains i=false:=by exact ys rfl):Xg ws where
 m:=gNm i
 p:=fun d env=>some (env.set i (some d))
 ok {q h L O σ env d v env'} r w e:=by
  cases e;have hi':i∉ws:=fun z=>by simp[z] at hi
  obtain⟨a,b⟩:=r.set hi' w;exact⟨_,rfl,a,b⟩
def xGl:Xgs ws where
 m:=gNl
 p:=fun ds env=>match ds with
  | []=>some env
  | _=>none
 ok {q h L O σ env ds vs env'} r w e:=by
  cases ds with
  | nil =>
   cases e
   have:vs=[]:=w
   subst this;exact⟨σ,rfl,r,fun _ _=>⟨rfl,rfl⟩⟩
  | cons _ _=>cases e
def xGc(a:Xg ws)(t:Xgs ws):Xgs ws where
 m:=gCn a.m t.m
 p:=fun ds env=>match ds with
  | d::ds=>(a.p d env).bind fun env1=>t.p ds env1
  | []=>none
 ok {q h L O σ env ds vs env'} r w e:=by
  cases ds with
  | nil=>cases e
  | cons d ds =>
   obtain⟨x,y,rfl,r1,r2⟩:=w;dsimp only at e
   cases e1:a.p d env with
   | none=>rw[e1] at e;cases e
   | some env1 =>
    rw[e1] at e;obtain⟨σ1,f1,s1,k1⟩:=a.ok r r1 e1;obtain⟨σ2,f2,s2,k2⟩:=t.ok s1 r2 e;exact⟨σ2,by show (a.m x σ h).then (t.m y)=_;rw[f1];exact f2,s2,fun i hi=>⟨(k2 i hi).1.trans (k1 i hi).1,(k2 i hi).2.trans (k1 i hi).2⟩⟩
def xGp(t:Xgs ws)(n:Nat):Xg ws where
 m:=gTp t.m n
 p:=fun d env=>match d with
  | .tup ds=>if ds.length=n then t.p ds env else none
  | _=>none
 ok {q h L O σ env d v env'} r w e:=by
  cases d with
  | tup ds =>
   obtain⟨xs,rfl,w⟩:=w;dsimp only at e;by_cases z:ds.length=n
   ·rw[qan z] at e;obtain⟨σ',a,b⟩:=t.ok r w e;exact⟨σ',by show (if xs.length=n then t.m xs σ h else .bad)=_;rw[qan (by rw[w.length];exact z)];exact a,b⟩
   ·rw[qaz z] at e;cases e
  | _=>cases e
def cws(nv:Nat)(fm ws:List Nat):List Nat:=((List.range fm.length).filter fun j=>ws.contains (fm.getD j 0)).map (nv+·)
def cenv(nv:Nat)(fm:List Nat)(env:aD):aD:=List.replicate nv none++fm.map fun i=>(env[i]?).getD none
def PR.ne{α:Type}(r:PR α):PR α:=match r with
 | .exc _ _=>.bad
 | r=>r
@[simp] theorem PR.ne_ok(a:α)(s:Pen):(PR.ok a s).ne=.ok a s:=rfl
def cP(g:D->aD->Option aD)(t:aD->Pen->PR Bool)(e:aD->Pen->PR D):List D->aD->Pen->PR (List D)
 | [],_,s=>.ok [] s
 | d::ds,env,s=>match g d env with
  | none=>.bad
  | some env1=>(t env1 s).bind fun b s1=>if b=true then (e env1 s1).bind fun x s2=>(cP g t e ds env1 s2).bind fun r s3=>.ok (x::r) s3 else cP g t e ds env1 s1
def cget{nv:Nat}{fm:List Nat}{α:Type}{env:List (Option α)}{i:Nat}{d:α}(e:(List.replicate nv none++fm.map fun i=>(env[i]?).getD none)[i]?=some (some d)):∃j k,i=nv+j/\fm[j]?=some k/\env[k]?=some (some d):=by
 by_cases z:i<nv
 ·rw[qal (by simpa using z)] at e;simp[z] at e
 ·rw[qaF (by simp;lia)] at e;simp only[qbu,qap] at e
  cases ek:fm[i - nv]? with
  | none=>rw[ek] at e;cases e
  | some k =>
   rw[ek] at e;simp only[qcE,Option.some.injEq] at e;refine⟨i - nv,k,by lia,ek,?_⟩
   cases z2:env[k]? with
   | none=>rw[z2] at e;cases e
   | some o=>rw[z2] at e;simp at e;rw[e]
def cput{nv:Nat}{fm:List Nat}{α:Type}{σ:List (Option α)}{j k:Nat}{v:α}(e1:fm[j]?=some k)(e2:σ[k]?=some (some v)):(List.replicate nv none++fm.map fun i=>(σ[i]?).getD none)[nv+j]?=some (some v):=by
 rw[qaF (by simp)];simp[e1,e2]
def tH(e:fm[j]?=some k):nv+j∈cws nv fm ws↔k∈ws:=by
 have hj:=(qaj.mp e).1;have hk:fm.getD j 0=k:=by simp[List.getD,e]
 unfold cws;rw[qaB];constructor
 ·rintro⟨a,ha,hb⟩
  have:a=j:=by lia
  subst this;rw[qaQ] at ha
  have:=ha.2
  rw[hk] at this;simpa using this
 ·intro hw;exact⟨j,qaQ.mpr ⟨qau.mpr hj,by rw[hk];simpa using hw⟩,rfl⟩
def SR.comp{q:Nat}{h:MH}{L:Nat}{O:List Nat}{σ:PSt}{env:aD}(nv:Nat)(fm:List Nat)(r:SR q h L O ws σ env):SR q h L O (cws nv fm ws) (cSt nv fm σ) (cenv nv fm env):=by
 refine⟨by simp[cSt,cenv],fun i d e hi=>?_,fun i d e hi=>?_⟩
 ·obtain⟨j,k,rfl,e1,e2⟩:=cget e;obtain⟨v,e3,w⟩:=r.fz k d e2 fun z=>hi ((tH e1).mpr z);exact⟨v,cput e1 e3,w⟩
 ·obtain⟨j,k,rfl,e1,e2⟩:=cget e;obtain⟨n,kd,xs,ds,e0,e3,w⟩:=r.ow k d e2 ((tH e1).mp hi);exact⟨n,kd,xs,ds,e0,cput e1 e3,w⟩
def cGo_ok(gt:Xg ws')(t:Xt ws')(e:Xe ws')(hz:e.fz=true)(hq:q<h1.length)(gd:∀g∈it.gd,h1[g.1]?=some (.lst g.2)/\g.1≠q) :
  ∀(ds:List D) (xs:List PV) (env:aD) (σ:PSt) (h:MH) (accD:List D) (acc:List PV) (s:Pen) (r:List D) (s':Pen),(∀i∈ws',∀d,env[i]?=some (some d)->∀n,σ[i]?=some (some (.loc n))->n<h1.length)->KB q h1 h->Cx q h L B (h1.length::O) ws' σ env s->Rps q h (h1.length::O) ds xs->h[h1.length]?=some (.lst acc)->Rps q h (h1.length::O) accD acc->accD.length+ds.length<=100000 ->
  cP gt.p t.p e.p ds env s=.ok r s'->∃h' zs,cGo it h1.length gt.m t.m e.m xs σ h=.ok () h'/\KB q h1 h'/\cv h' q s'/\h'[h1.length]?=some (.lst zs)/\Rps q h' (h1.length::O) (accD++r) zs:=by
 intro ds
 induction ds with
 | nil =>
  intro xs env σ h accD acc s r s' on kb c rx ga ra hl ep
  have:xs=[]:=rx
  subst this;cases ep;have ok:it.ok h:=fun g hg=>(kb.keep _ (bo (gd g hg).1) (gd g hg).2).trans (gd g hg).1;exact⟨h,acc,by rw[cGo,qan ok],kb,c.pen,ga,by simpa using ra⟩
 | cons d ds ih =>
  intro xs env σ h accD acc s r s' on kb c rx ga ra hl ep;obtain⟨x,xr,rfl,r1,r2⟩:=rx;have ok:it.ok h:=fun g hg=>(kb.keep _ (bo (gd g hg).1) (gd g hg).2).trans (gd g hg).1;rw[cP] at ep
  cases eg:gt.p d env with
  | none=>rw[eg] at ep;cases ep
  | some env1 =>
   rw[eg] at ep;dsimp only at ep;obtain⟨σ1,f1,sr1,k1⟩:=gt.ok c.sr r1 eg;have on1:∀i∈ws',∀d,env1[i]?=some (some d)->∀n,σ1[i]?=some (some (.loc n))->n<h1.length:=fun i hi d e n z=>on i hi d ((k1 i hi).2▸e) n ((k1 i hi).1▸z);have c1:Cx q h L B (h1.length::O) ws' σ1 env1 s:=⟨c.bd,c.sub,c.bb,c.pb,c.hL,c.pen,sr1⟩;have kt:=t.ok c1
   cases et:t.p env1 s with
   | bad=>rw[et] at ep;cases ep
   | exc _ _=>rw[et] at ep;cases ep
   | ok b s1 =>
    rw[et] at ep kt;obtain⟨b',h2,f2,k2,p2,eb⟩:=kt;subst eb;have c2:=c1.kb k2 p2;have mv2:Mv (h1.length::O) h (h1.length::O) h2:=k2.mv c.pO;have hn:h1.length<h.length:=bo ga;have ga2:h2[h1.length]?=some (.lst acc):=(k2.keep _ hn (by lia)).trans ga;rw[Pb] at ep
    cases b with
    | false =>
     rw[qaz (by simp)] at ep;obtain⟨h',zs,a1,a2⟩:=ih xr env1 σ1 h2 accD acc s1 r s' on1 (kb.trans k2) c2 (r2.mv mv2) ga2 (ra.mv mv2) (by simp at hl;lia) ep;refine⟨h',zs,?_,a2⟩;rw[cGo,qan ok,f1];simp only[f2,Out.ne_ok,Out.bind_ok,qar,if_false];exact a1
    | true =>
     rw[qan rfl] at ep;have ke:=e.ok c2
     cases ee:e.p env1 s1 with
     | bad=>rw[ee] at ep;cases ep
     | exc _ _=>rw[ee] at ep;cases ep
     | ok y s2 =>
      rw[ee] at ep ke;obtain⟨v,h3,f3,k3,p3,_,rv,_⟩:=ke;have rv:=rv hz;have c3:=c2.kb k3 p3;have mv3:Mv (h1.length::O) h2 (h1.length::O) h3:=k3.mv c.pO;have ga3:h3[h1.length]?=some (.lst acc):=(k3.keep _ (bo ga2) (by lia)).trans ga2;have mv4:Mv (h1.length::O) h3 (h1.length::O) (h3.set h1.length (.lst (acc++[v]))) :=
       ⟨fun n hn no=>qai (fun z=>no (by simp[z])),fun o ho=>.inl ho⟩
      have ra3:Rps q h3 (h1.length::O) (accD++[y]) (acc++[v]):=((ra.mv mv2).mv mv3).app ⟨v,[],rfl,rv,rfl⟩;rw[Pb] at ep
      cases er:cP gt.p t.p e.p ds env1 s2 with
      | bad=>rw[er] at ep;cases ep
      | exc _ _=>rw[er] at ep;cases ep
      | ok r' s3 =>
       rw[er] at ep;cases ep;have k03:KB q h1 h3:=(kb.trans k2).trans k3;have c4:Cx q (h3.set h1.length (.lst (acc++[v]))) L B (h1.length::O) ws' σ1 env1 s2:=by
        refine⟨fun o ho=>by simpa using c3.bd o ho,c3.sub,c3.bb,c3.pb,by simpa using c3.hL,?_,?_⟩
        ·unfold cv;rw[qai (by lia)];exact p3
        ·refine⟨c3.sr.len,fun i d e hi=>let ⟨v,e1,q1⟩:=c3.sr.fz i d e hi;⟨v,e1,q1.mv mv4⟩,fun i d e hi=>?_⟩;obtain⟨n,kd,ys,es,b1,b2,b3,b4,b5,b6⟩:=c3.sr.ow i d e hi;have z:=on1 i hi d e n b2;exact⟨n,kd,ys,es,b1,b2,b3,b4,by rw[qai (by lia)];exact b5,b6.mv mv4⟩
       obtain⟨h',zs,a1,a2,a3,a4,a5⟩:=ih xr env1 σ1 (h3.set h1.length (.lst (acc++[v]))) (accD++[y]) (acc++[v]) s2 r' _ on1 ⟨by simpa using k03.len,fun n hn hp=>by rw[qai (by lia)];exact k03.keep n hn hp⟩ c4 (((r2.mv mv2).mv mv3).mv mv4) (qaD (bo ga3)) (ra3.mv mv4) (by simp at hl ⊢;lia) er;refine⟨h',zs,?_,a2,a3,a4,by simpa using a5⟩;rw[cGo,qan ok,f1];simp only[f2,Out.ne_ok,Out.bind_ok,if_true,f3,ga3];rw[qan (by have:=eJ;have:=ra.length;simp at hl;lia)];exact a1
def ba(nv:Nat)(fm:List Nat)(i:Xi ws){ws':List Nat}(g:Xg ws')(t:Xt ws')(e:Xe ws')(hw:cws nv fm ws=ws':=by exact ys rfl)(hz:e.fz=true:=by exact ys rfl):Xe ws where
 m:=cU nv fm i.m g.m t.m e.m
 p:=fun env s=>(i.p env s).bind fun ds s1=>if ds.length<=100000 then (match cP g.p t.p e.p ds (cenv nv fm env) s1 with
  | .ok r s2=>.ok (.lst r) s2
  | _=>.bad) else .bad
 fz:=true
 fr:=true
 ok {q h L B O σ env s} c:=by
  subst hw;refine (i.ok c).bind fun ds it h1 s1 k1 p1 ⟨rx,gd,_⟩=>?_;have c1:=c.kb k1 p1;by_cases hl:ds.length<=100000
  ·rw[qan hl]
   cases er:cP g.p t.p e.p ds (cenv nv fm env) s1 with
   | bad=>trivial
   | exc _ _=>trivial
   | ok r s2 =>
    have mv:Mv O h1 (h1.length::O) (h1++[MO.lst []]):=⟨fun n hn _=>qal hn,fun o ho=>by
     rcases qam.mp ho with z|z
     ·exact .inr (by lia)
     ·exact .inl z⟩
    have sr:=(c1.sr.comp nv fm).mv mv (fun o ho=>qaf _ ho) fun n hn _ _=>qal hn;have c2:Cx q (h1++[MO.lst []]) L B (h1.length::O) (cws nv fm ws) (cSt nv fm σ) (cenv nv fm env) s1:=by
     refine⟨fun o ho=>?_,fun o ho=>qaf _ (c.sub o ho),c.bb,c.pb,by have:=c1.hL;simp;lia,p1.app,sr⟩;rcases qam.mp ho with z|z
     ·subst z;simp
     ·have:=c1.bd o z;simp;lia
    have hq:q<h1.length:=bo p1
    obtain⟨h',zs,a1,a2,a3,a4,a5⟩:=cGo_ok g t e hz (L:=L) (B:=B) (O:=O) hq gd ds it.xs (cenv nv fm env) (cSt nv fm σ) (h1++[MO.lst []]) [] [] s1 r s2 (fun i hi d ed n en=>by
     obtain⟨n',_,_,_,_,b2,_,_,b5,_⟩:=(c1.sr.comp nv fm).ow i d ed hi;rw[b2] at en;cases en
     exact bo b5) (KB.app _ _ _) c2 (rx.mv mv) (by simp) rfl (by simpa using hl) er
    have f:Frs q h.length O h' (.lst r) (.loc h1.length):=fun k ds e=>by
     obtain⟨rfl,rfl⟩:=e9 e;exact⟨_,zs,rfl,k1.len,a4,by simpa using a5⟩
    have rr:=f.rp (k:=none) c.bd rfl;exact⟨.loc h1.length,h',by show (cGo _ _ _ _ _ _ _ _).bind _=_;rw[a1];rfl,a2,a3,.inl rr,fun _=>rr,fun _=>f⟩
  ·rw[qaz hl];trivial
end
end PU
namespace PU
open PySem MM
local instance (priority:=1) cdecN4 (p:Prop):Decidable p:=Classical.propDecidable p
inductive PS where
 | nx (e:aD) (s:Pen)
 | rt (d:D) (s:Pen)
 | bk (e:aD) (s:Pen)
 | ct (e:aD) (s:Pen)
 | exc (c:Str) (e:aD) (s:Pen)
 | rse (c:Str) (e:aD) (s:Pen)
 | bad
structure Stp (q L:Nat) (h:MH) (O:List Nat) (h':MH) (O':List Nat):Prop where
 len:h.length<=h'.length
 mv:Mv O h O' h'
 sub:∀o∈O,o∈O'
 base:∀n:Nat,n<L->n≠q->h'[n]?=h[n]?
def Stp.refl(q L:Nat)(h:MH)(O:List Nat):Stp q L h O h O:=⟨qak _,⟨fun _ _ _=>rfl,fun _ h=>.inl h⟩,fun _ h=>h,fun _ _ _=>rfl⟩
def Stp.trans(a:Stp q L h O h1 O1)(b:Stp q L h1 O1 h2 O2):Stp q L h O h2 O2:=by
 refine⟨qaJ a.len b.len,⟨fun n hn no=>?_,fun o ho=>?_⟩,fun o ho=>b.sub o (a.sub o ho),fun n hn hq=>(b.base n hn hq).trans (a.base n hn hq)⟩
 ·have n1:n∉O1:=fun z=>by
   rcases a.mv.new n z with q|q
   ·exact no q
   ·lia
  exact (b.mv.keep n (qaw hn a.len) n1).trans (a.mv.keep n hn no)
 ·rcases b.mv.new o ho with z|z
  ·exact a.mv.new o z
  ·exact .inr (qaJ a.len z)
def Dis(ws:List Nat)(σ:PSt)(env:aD):Prop:=∀i j,i∈ws->j∈ws->i≠j->∀d d' n,env[i]?=some (some d)->env[j]?=some (some d')->σ[i]?=some (some (.loc n))->σ[j]?≠some (some (.loc n))
inductive Nxt (q L:Nat) (h:MH) (B O ws:List Nat) (σ':PSt) (h':MH) (env:aD) (s:Pen):Prop
 | mk (O':List Nat) (a:Stp q L h O h' O') (c:Cx q h' L B O' ws σ' env s) (d:Dis ws σ' env):Nxt q L h B O ws σ' h' env s
inductive SNx (q L:Nat) (h:MH) (B O ws:List Nat) (f:PSt->MH->SOut) (o:SOut) (env:aD) (s:Pen):Prop
 | mk (σ':PSt) (h':MH) (e:o=f σ' h') (n:Nxt q L h B O ws σ' h' env s):SNx q L h B O ws f o env s
inductive SRt (q L:Nat) (h:MH) (B:List Nat) (fr:Bool) (o:SOut) (d:D) (s:Pen):Prop
 | mk (v:PV) (h':MH) (e:o=.rt v h') (l:h.length<=h'.length) (b:∀n:Nat,n<L->n≠q->h'[n]?=h[n]?) (p:cv h' q s) (r:Rp q h' B d v) (f:fr=true->Frs q L B h' d v):SRt q L h B fr o d s
def SOk(q L:Nat)(h:MH)(B O ws:List Nat)(fr:Bool)(o:SOut)(r:PS):Prop:=match r with
 | .nx env s=>SNx q L h B O ws .nx o env s
 | .bk env s=>SNx q L h B O ws .bk o env s
 | .ct env s=>SNx q L h B O ws .ct o env s
 | .exc c env s=>SNx q L h B O ws (.exc ⟨c,[]⟩) o env s
 | .rse c env s=>SNx q L h B O ws (.rse ⟨c,[]⟩) o env s
 | .rt d s=>SRt q L h B fr o d s
 | .bad=>True
structure Xd (ws:List Nat) where
 m:Mst
 p:aD->Pen->PS
 fr:Bool
 ok:∀{q h L B O σ env s},Cx q h L B O ws σ env s->Dis ws σ env->SOk q L h B O ws fr (m σ h) (p env s)
def Nxt.after(a:Stp q L h O h1 O1)(n:Nxt q L h1 B O1 ws σ' h' env s):Nxt q L h B O ws σ' h' env s :=
 let ⟨O',b,c,d⟩:=n;⟨O',a.trans b,c,d⟩
def SOk.after(a:Stp q L h O h1 O1)(k:SOk q L h1 B O1 ws fr o r):SOk q L h B O ws fr o r:=by
 cases r with
 | nx env s=>obtain⟨σ',h',e,n⟩:=k;exact⟨σ',h',e,n.after a⟩
 | bk env s=>obtain⟨σ',h',e,n⟩:=k;exact⟨σ',h',e,n.after a⟩
 | ct env s=>obtain⟨σ',h',e,n⟩:=k;exact⟨σ',h',e,n.after a⟩
 | exc c env s=>obtain⟨σ',h',e,n⟩:=k;exact⟨σ',h',e,n.after a⟩
 | rse c env s=>obtain⟨σ',h',e,n⟩:=k;exact⟨σ',h',e,n.after a⟩
 | rt d s=>obtain⟨v,h',e,l,b,r1,r2,r3⟩:=k;exact⟨v,h',e,qaJ a.len l,fun n hn hq=>(b n hn hq).trans (a.base n hn hq),r1,r2,r3⟩
 | bad=>trivial
def SOk.fr(hf:f'=true->f=true)(k:SOk q L h B O ws f o r):SOk q L h B O ws f' o r:=by
 cases r with
 | rt d s=>obtain⟨v,h',e,l,b,p,r,z⟩:=k;exact⟨v,h',e,l,b,p,r,fun y=>z (hf y)⟩
 | nx env s=>exact k
 | bk env s=>exact k
 | ct env s=>exact k
 | exc c env s=>exact k
 | rse c env s=>exact k
 | bad=>trivial
def KB.stp(c:Cx q h L B O ws σ env s)(k:KB q h h'):Stp q L h O h' O :=
 ⟨k.len,k.mv c.pO,fun _ h=>h,fun n hn hq=>k.keep n (qaw hn c.hL) hq⟩
def PR.go{α:Type}(r:PR α)(env:aD)(k:α->aD->Pen->PS):PS:=match r with
 | .ok a s=>k a env s
 | .exc c s=>.exc c env s
 | .bad=>.bad
@[simp] theorem Pg(a:α)(s:Pen)(env:aD)(k:α->aD->Pen->PS):(PR.ok a s).go env k=k a env s:=rfl
@[simp] theorem PR.go_exc(c:Str)(s:Pen)(env:aD)(k:α->aD->Pen->PS):(PR.exc c s:PR α).go env k=.exc c env s:=rfl
@[simp] theorem PR.go_bad(env:aD)(k:α->aD->Pen->PS):(PR.bad:PR α).go env k=.bad:=rfl
theorem SOk.ex{α β:Type}{q L:Nat}{h:MH}{B O ws:List Nat}{fr:Bool}{σ:PSt}{env:aD}{s:Pen}{o:Out β}{r:PR α}{R:MH->α->β->Prop}{f:β->Mst}{g:α->aD->Pen->PS}(c:Cx q h L B O ws σ env s)(d:Dis ws σ env)(k:Ok q h o r R)
  (n:∀a b h1 s1,KB q h h1->Cx q h1 L B O ws σ env s1->R h1 a b->SOk q L h1 B O ws fr (f b σ h1) (g a env s1)) :
  SOk q L h B O ws fr (o.go σ f) (r.go env g):=by
 cases r with
 | ok a s1 =>
  obtain⟨b,h1,rfl,kb,pn,rr⟩:=k;exact (n a b h1 s1 kb (c.kb kb pn) rr).after (kb.stp c)
 | exc x s1 =>
  obtain⟨h1,rfl,kb,pn⟩:=k;exact⟨σ,h1,rfl,O,kb.stp c,c.kb kb pn,d⟩
 | bad=>trivial
noncomputable section
variable {ws:List Nat}
def PS.then(r:PS)(k:aD->Pen->PS):PS:=match r with
 | .nx env s=>k env s
 | r=>r
@[simp] theorem au:(PS.nx env s).then k=k env s:=rfl
@[simp] theorem kj:(PS.rt d s).then k=.rt d s:=rfl
@[simp] theorem then_bk:(PS.bk env s).then k=.bk env s:=rfl
@[simp] theorem then_ct:(PS.ct env s).then k=.ct env s:=rfl
@[simp] theorem xo:(PS.exc c env s).then k=.exc c env s:=rfl
@[simp] theorem ya:(PS.rse c env s).then k=.rse c env s:=rfl
@[simp] theorem xc:PS.bad.then k=.bad:=rfl
def az(a b:Xd ws):Xd ws where
 m:=aJ a.m b.m
 p:=fun env s=>(a.p env s).then b.p
 fr:=a.fr && b.fr
 ok {q h L B O σ env s} c d:=by
  have k:=a.ok c d;show SOk q L h B O ws _ ((a.m σ h).then b.m) _
  cases e:a.p env s with
  | nx env1 s1 =>
   rw[e] at k;obtain⟨σ1,h1,e1,O1,st,c1,d1⟩:=k;rw[e1];exact ((b.ok c1 d1).fr (by simp)).after st
  | rt x s1=>rw[e] at k;obtain⟨v,h',e1,r1,r2,r3,r4,r5⟩:=k;rw[e1];exact SOk.fr (f:=a.fr) (by simp;exact fun h _=>h) (show SOk q L h B O ws a.fr (.rt v h') (.rt x s1) from⟨v,h',rfl,r1,r2,r3,r4,r5⟩)
  | bk env1 s1=>rw[e] at k;obtain⟨σ',h',e1,r⟩:=k;rw[e1];exact⟨σ',h',rfl,r⟩
  | ct env1 s1=>rw[e] at k;obtain⟨σ',h',e1,r⟩:=k;rw[e1];exact⟨σ',h',rfl,r⟩
  | exc x env1 s1=>rw[e] at k;obtain⟨σ',h',e1,r⟩:=k;rw[e1];exact⟨σ',h',rfl,r⟩
  | rse x env1 s1=>rw[e] at k;obtain⟨σ',h',e1,r⟩:=k;rw[e1];exact⟨σ',h',rfl,r⟩
  | bad=>trivial
def xSkip:Xd ws where
 m:=mSkip
 p:=.nx
 fr:=true
 ok {q h L B O σ env s} c d:=⟨σ,h,rfl,O,Stp.refl _ _ _ _,c,d⟩
def ret_go{m:Mx PV}{σ:PSt}{h:MH}:bB m σ h=(m σ h).go σ fun v _ h'=>.rt v h':=by unfold bB;cases m σ h <;> rfl
def aZ(e:Xe ws):Xd ws where
 m:=bB e.m
 p:=fun env s=>(e.p env s).go env fun d _ s=>.rt d s
 fr:=e.fr
 ok {q h L B O σ env s} c d:=by
  rw[ret_go];refine SOk.ex (f:=fun v _ h'=>.rt v h') (g:=fun d _ s=>.rt d s) c d (e.ok c) fun x v h1 s1 kb c1 ⟨w,z,f⟩=>?_;refine⟨v,h1,rfl,qak _,fun _ _ _=>rfl,c1.pen,w.base c1.sub c1.bb,fun y=>?_⟩;intro k ds ed;obtain⟨n,xs,a1,a2,a3,a4⟩:=f y k ds ed
  have:=c.hL
  exact⟨n,xs,a1,by lia,a3,a4.mv ⟨fun _ _ _=>rfl,fun o ho=>.inl (by
   rcases qam.mp ho with z|z
   ·subst z;simp
   ·exact qaf _ (c.sub o z))⟩⟩
def jA(i:Nat)(hi:ws.contains i=true:=by exact ys rfl):Xd ws where
 m:=bB (ag i)
 p:=fun env s=>match env[i]? with
  | some (some d)=>.rt d s
  | _=>.bad
 fr:=true
 ok {q h L B O σ env s} c d:=by
  show SOk q L h B O ws _ _ (match env[i]? with | some (some d)=>PS.rt d s | _=>.bad)
  cases e:env[i]? with
  | none=>trivial
  | some o =>
   cases o with
   | none=>trivial
   | some x =>
    obtain⟨n,kd,xs,ds,e1,e2,a,b,g,r⟩:=c.sr.ow i x e (by simpa using hi);subst e1
    have m1:Mv O h (n::B) h:=⟨fun _ _ _=>rfl,fun o ho=>.inl (by
     rcases qam.mp ho with z|z
     ·subst z;exact a
     ·exact c.sub o z)⟩
    have f:Frs q L B h (dl kd ds) (.loc n):=fun k' ds' e=>by
     have:k'=kd/\ds'=ds:=by cases kd <;> cases k' <;> cases e <;> exact⟨rfl,rfl⟩
     obtain⟨rfl,rfl⟩:=this;exact⟨n,xs,rfl,b,g,r.mv m1⟩
    refine⟨.loc n,h,by simp[bB,ag,e2],qak _,fun _ _ _=>rfl,c.pen,f.rp c.bb rfl,fun _=>f⟩
def xIf(t:Xt ws)(a b:Xd ws):Xd ws where
 m:=mIf t.m a.m b.m
 p:=fun env s=>(t.p env s).go env fun x env s=>if x=true then a.p env s else b.p env s
 fr:=a.fr && b.fr
 ok {q h L B O σ env s} c d:=SOk.ex (f:=fun x=>if x=true then a.m else b.m) (g:=fun x env s=>if x=true then a.p env s else b.p env s) c d (t.ok c) fun x v h1 s1 kb c1 e=>by
  subst e
  cases x with
  | true=>exact (a.ok c1 d).fr (by simp;exact fun h _=>h)
  | false=>exact (b.ok c1 d).fr (by simp)
def Dis.keep(d:Dis ws σ env)(k:∀i∈ws,σ'[i]?=σ[i]?/\env'[i]?=env[i]?):Dis ws σ' env':=fun i j hi hj ne x y n a b e=>by
 rw[(k i hi).1] at e;rw[(k i hi).2] at a;rw[(k j hj).2] at b;rw[(k j hj).1];exact d i j hi hj ne x y n a b e
def aL(i:Nat)(e:Xe ws)(hi:ws.contains i=false:=by exact ys rfl)(hz:e.fz=true:=by exact ys rfl):Xd ws where
 m:=aP i e.m
 p:=fun env s=>(e.p env s).go env fun d env s=>.nx (env.set i (some d)) s
 fr:=true
 ok {q h L B O σ env s} c d:=by
  refine SOk.ex (f:=fun v σ h=>.nx (σ.set i (some v)) h) (g:=fun d env s=>.nx (env.set i (some d)) s) c d (e.ok c) fun x v h1 s1 kb c1 ⟨_,z,_⟩=>?_;obtain⟨a,b⟩:=c1.sr.set (i:=i) (fun z=>by simp[z] at hi) (z hz);exact⟨_,h1,rfl,O,Stp.refl _ _ _ _,⟨c1.bd,c1.sub,c1.bb,c1.pb,c1.hL,c1.pen,a⟩,d.keep b⟩
def D.mine:D->Bool
 | .lst _=>true
 | .dic fz _ _=>!fz
 | _=>false
def c7(i:Nat)(e:Xe ws)(hi:ws.contains i=true:=by exact ys rfl)(hz:e.fr=true:=by exact ys rfl):Xd ws where
 m:=aP i e.m
 p:=fun env s=>(e.p env s).go env fun d env s=>if d.mine=true then .nx (env.set i (some d)) s else .bad
 fr:=true
 ok {q h L B O σ env s} c d:=by
  show SOk q L h B O ws _ _ _;have k:=e.ok c;show SOk q L h B O ws _ ((e.m σ h).go σ fun v σ h=>.nx (σ.set i (some v)) h) _
  cases ee:e.p env s with
  | bad=>trivial
  | exc x s1 =>
   rw[ee] at k;obtain⟨h1,e1,kb,pn⟩:=k;rw[e1];exact⟨σ,h1,rfl,O,kb.stp c,c.kb kb pn,d⟩
  | ok x s1 =>
   rw[ee] at k;obtain⟨v,h1,e1,kb,pn,_,_,f⟩:=k;rw[e1];by_cases hm:x.mine=true
   ·obtain⟨kd,ds,rfl⟩:∃kd ds,x=dl kd ds:=by
     cases x with
     | lst ds=>exact⟨none,ds,rfl⟩
     | dic fz ks ds =>
      cases fz with
      | false=>exact⟨some ks,ds,rfl⟩
      | true=>cases hm
     | _=>cases hm
    obtain⟨n,xs,rfl,hn,g,r⟩:=f hz kd ds rfl;show SOk q L h B O ws _ _ (if (dl kd ds).mine=true then _ else _);rw[qan hm];have c1:=c.kb kb pn;have hi':i∈ws:=by simpa using hi
    have mv:Mv O h (n::O) h1:=⟨fun m hm no=>kb.keep m hm fun z=>no (z▸c.pO),fun o ho=>by
     rcases qam.mp ho with z|z
     ·exact .inr (by lia)
     ·exact .inl z⟩
    have hnO:n∉O:=fun z=>by have:=c.bd n z;lia
    refine⟨σ.set i (some (.loc n)),h1,rfl,n::O,⟨kb.len,mv,fun o ho=>qaf _ ho,fun m hm hq=>kb.keep m (qaw hm c.hL) hq⟩,⟨fun o ho=>?_,fun o ho=>qaf _ (c.sub o ho),c.bb,c.pb,c1.hL,pn,?_⟩,?_⟩
    ·rcases qam.mp ho with z|z
     ·subst z;exact bo g
     ·exact c1.bd o z
    ·have sr:=c.sr.mv mv (fun o ho=>qaf _ ho) fun m hm hl _=>kb.keep m hm (by have:=c.pL;lia);refine⟨by simp[sr.len],fun j x ej hj=>?_,fun j x ej hj=>?_⟩
     ·have ne:i≠j:=fun z=>hj (z▸hi');rw[qai ne] at ej;rw[qai ne];exact sr.fz j x ej hj
     ·by_cases z:i=j
      ·subst z;have hl:i<env.length:=by have:=(qaj.mp ej).1;simpa using this
       rw[qaD hl] at ej;cases ej;exact⟨n,kd,xs,ds,rfl,qaD (by rw[sr.len];exact hl),by simp,by have:=c.hL;lia,g,r⟩
      ·rw[qai z] at ej;rw[qai z];exact sr.ow j x ej hj
    ·have old:∀j d,j∈ws->i≠j->(env.set i (some (dl kd ds)))[j]?=some (some d)->(σ.set i (some (.loc n)))[j]?≠some (some (.loc n)):=fun j d hj ne ej z=>by
      rw[qai ne] at ej z;obtain⟨n',_,_,_,_,b2,b3,_⟩:=c.sr.ow j d ej hj;rw[z] at b2;cases b2;exact hnO b3
     intro a b ha hb ne x y m ea eb es;by_cases z1:i=a
     ·subst z1;have hl:i<σ.length:=by have:=(qaj.mp es).1;simpa using this
      rw[qaD hl] at es;cases es;exact old b y hb ne eb
     ·by_cases z2:i=b
      ·subst z2;intro z;have hl:i<σ.length:=by have:=(qaj.mp z).1;simpa using this
       rw[qaD hl] at z;cases z;exact old a x ha z1 ea es
      ·rw[qai z1] at ea es;rw[qai z2] at eb ⊢;exact d a b ha hb ne x y m ea eb es
   ·show SOk q L h B O ws _ _ (if x.mine=true then _ else _);rw[qaz hm];trivial
end
end PU
namespace PU
open PySem MM
open L2 (ixN)
local instance (priority:=1) cdecN5 (p:Prop):Decidable p:=Classical.propDecidable p
noncomputable section
variable {ws:List Nat}
def PS.turn(r:PS)(k:aD->Pen->PS):PS:=match r with
 | .nx e s=>k e s
 | .ct e s=>k e s
 | .bk e s=>.nx e s
 | r=>r
@[simp] theorem turn_nx:(PS.nx e s).turn k=k e s:=rfl
@[simp] theorem turn_ct:(PS.ct e s).turn k=k e s:=rfl
@[simp] theorem turn_bk:(PS.bk e s).turn k=.nx e s:=rfl
@[simp] theorem turn_rt:(PS.rt d s).turn k=.rt d s:=rfl
@[simp] theorem yi:(PS.exc c e s).turn k=.exc c e s:=rfl
@[simp] theorem yv:(PS.rse c e s).turn k=.rse c e s:=rfl
@[simp] theorem turn_bad:PS.bad.turn k=.bad:=rfl
def pGo(g:D->aD->Option aD)(b:aD->Pen->PS):List D->aD->Pen->PS
 | [],env,s=>.nx env s
 | d::ds,env,s=>match g d env with
  | none=>.bad
  | some env1=>(b env1 s).turn (pGo g b ds)
def mGo_ok(g:Xg ws)(b:Xd ws):∀(ds:List D) (xs:List PV) (env:aD) (σ:PSt) (h:MH) (O:List Nat) (s:Pen),Cx q h L B O ws σ env s->Dis ws σ env->Rps q h O ds xs->(∀y∈it.gd,h[y.1]?=some (.lst y.2)/\y.1∉O) ->
  SOk q L h B O ws b.fr (mGo it g.m b.m xs σ h) (pGo g.p b.p ds env s):=by
 intro ds
 induction ds with
 | nil =>
  intro xs env σ h O s c d r gd
  have:xs=[]:=r
  subst this;have ok:it.ok h:=fun y hy=>(gd y hy).1;refine⟨σ,h,by rw[mGo];dsimp only;rw[qan ok],O,Stp.refl _ _ _ _,c,d⟩
 | cons x ds ih =>
  intro xs env σ h O s c d r gd;obtain⟨v,xr,rfl,r1,r2⟩:=r;have ok:it.ok h:=fun y hy=>(gd y hy).1;rw[pGo]
  cases eg:g.p x env with
  | none=>trivial
  | some env1 =>
   obtain⟨σ1,f1,sr,k⟩:=g.ok c.sr r1 eg;have c1:Cx q h L B O ws σ1 env1 s:=⟨c.bd,c.sub,c.bb,c.pb,c.hL,c.pen,sr⟩;have kb:=b.ok c1 (d.keep k)
   have em:mGo it g.m b.m (v::xr) σ h=(match b.m σ1 h with
    | .nx σ2 h2=>mGo it g.m b.m xr σ2 h2
    | .ct σ2 h2=>mGo it g.m b.m xr σ2 h2
    | .bk σ2 h2=>.nx σ2 h2
    | .rt v h2=>.rt v h2
    | .exc e σ2 h2=>.exc e σ2 h2
    | .rse e σ2 h2=>.rse e σ2 h2
    | .bad=>.bad):=by rw[mGo];dsimp only;(rw[qan ok,f1]) <;> rfl
   rw[em];have gd':∀{h2:MH} {O2:List Nat},Stp q L h O h2 O2->∀y∈it.gd,h2[y.1]?=some (.lst y.2)/\y.1∉O2:=fun st y hy=>by
    obtain⟨a,b⟩:=st.mv.get (gd y hy).1 (gd y hy).2;exact⟨b,a⟩
   dsimp only
   cases eb:b.p env1 s with
   | bad=>trivial
   | nx e2 s2 =>
    rw[eb] at kb;obtain⟨σ2,h2,e1,O2,st,c2,d2⟩:=kb;rw[e1];exact (ih xr e2 σ2 h2 O2 s2 c2 d2 (r2.mv st.mv) (gd' st)).after st
   | ct e2 s2 =>
    rw[eb] at kb;obtain⟨σ2,h2,e1,O2,st,c2,d2⟩:=kb;rw[e1];exact (ih xr e2 σ2 h2 O2 s2 c2 d2 (r2.mv st.mv) (gd' st)).after st
   | bk e2 s2=>rw[eb] at kb;obtain⟨σ2,h2,e1,r⟩:=kb;rw[e1];exact⟨σ2,h2,rfl,r⟩
   | exc x e2 s2=>rw[eb] at kb;obtain⟨σ2,h2,e1,r⟩:=kb;rw[e1];exact⟨σ2,h2,rfl,r⟩
   | rse x e2 s2=>rw[eb] at kb;obtain⟨σ2,h2,e1,r⟩:=kb;rw[e1];exact⟨σ2,h2,rfl,r⟩
   | rt x s2=>rw[eb] at kb;obtain⟨v,h2,e1,r1,r2,r3,r4,r5⟩:=kb;rw[e1];exact⟨v,h2,rfl,r1,r2,r3,r4,r5⟩
def dg(i:Xi ws)(g:Xg ws)(b:Xd ws)(hz:i.fz=true:=by exact ys rfl):Xd ws where
 m:=gh i.m g.m b.m
 p:=fun env s=>(i.p env s).go env fun ds env s=>pGo g.p b.p ds env s
 fr:=b.fr
 ok {q h L B O σ env s} c d:=SOk.ex (f:=fun it=>mGo it g.m b.m it.xs) (g:=fun ds env s=>pGo g.p b.p ds env s) c d (i.ok c) fun ds it h1 s1 kb c1 r =>
  mGo_ok g b ds it.xs env σ h1 O s1 c1 d r.1 fun y hy=>⟨(r.2.1 y hy).1,r.2.2 hz y hy⟩
def dC(t:aD->Pen->PR Bool)(b:aD->Pen->PS):Nat->aD->Pen->PS
 | 0,_,_=>.bad
 | n+1,env,s=>(t env s).go env fun x env s=>if x=true then (b env s).turn (dC t b n) else .nx env s
def nz(t:Xt ws)(b:Xd ws):∀(n:Nat) (env:aD) (σ:PSt) (h:MH) (O:List Nat) (s:Pen),Cx q h L B O ws σ env s->Dis ws σ env->SOk q L h B O ws b.fr (cj t.m b.m n σ h) (dC t.p b.p n env s)
 | 0,env,σ,h,O,s,c,d=>trivial
 | n+1,env,σ,h,O,s,c,d=>by
  refine SOk.ex (f:=fun x=>if x=true then (fun σ h=>match b.m σ h with
   | .nx σ2 h2=>cj t.m b.m n σ2 h2
   | .ct σ2 h2=>cj t.m b.m n σ2 h2
   | .bk σ2 h2=>.nx σ2 h2
   | .rt v h2=>.rt v h2
   | .exc e σ2 h2=>.exc e σ2 h2
   | .rse e σ2 h2=>.rse e σ2 h2
   | .bad=>.bad) else mSkip) (g:=fun x env s=>if x=true then (b.p env s).turn (dC t.p b.p n) else .nx env s) c d (t.ok c) fun x v h1 s1 kb c1 e=>?_
  subst e
  cases x with
  | false=>exact⟨σ,h1,rfl,O,Stp.refl _ _ _ _,c1,d⟩
  | true =>
   have k:=b.ok c1 d;rw[qan rfl,qan rfl]
   cases eb:b.p env s1 with
   | bad=>trivial
   | nx e2 s2 =>
    rw[eb] at k;obtain⟨σ2,h2,e1,O2,st,c2,d2⟩:=k;rw[e1];exact (nz t b n e2 σ2 h2 O2 s2 c2 d2).after st
   | ct e2 s2 =>
    rw[eb] at k;obtain⟨σ2,h2,e1,O2,st,c2,d2⟩:=k;rw[e1];exact (nz t b n e2 σ2 h2 O2 s2 c2 d2).after st
   | bk e2 s2=>rw[eb] at k;obtain⟨σ2,h2,e1,r⟩:=k;rw[e1];exact⟨σ2,h2,rfl,r⟩
   | exc x e2 s2=>rw[eb] at k;obtain⟨σ2,h2,e1,r⟩:=k;rw[e1];exact⟨σ2,h2,rfl,r⟩
   | rse x e2 s2=>rw[eb] at k;obtain⟨σ2,h2,e1,r⟩:=k;rw[e1];exact⟨σ2,h2,rfl,r⟩
   | rt x s2=>rw[eb] at k;obtain⟨v,h2,e1,r1,r2,r3,r4,r5⟩:=k;rw[e1];exact⟨v,h2,rfl,r1,r2,r3,r4,r5⟩
def xWh(N:Nat)(t:Xt ws)(b:Xd ws)(hm:∀{σ h n},cj t.m b.m n σ h≠.bad->mWh t.m b.m σ h=cj t.m b.m n σ h):Xd ws where
 m:=mWh t.m b.m
 p:=dC t.p b.p N
 fr:=b.fr
 ok {q h L B O σ env s} c d:=by
  have k:=nz t b N env σ h O s c d;by_cases z:cj t.m b.m N σ h=.bad
  ·rw[z] at k
   cases e:dC t.p b.p N env s with
   | bad=>trivial
   | nx e2 s2=>rw[e] at k;obtain⟨_,_,e1,_⟩:=k;cases e1
   | ct e2 s2=>rw[e] at k;obtain⟨_,_,e1,_⟩:=k;cases e1
   | bk e2 s2=>rw[e] at k;obtain⟨_,_,e1,_⟩:=k;cases e1
   | exc x e2 s2=>rw[e] at k;obtain⟨_,_,e1,_⟩:=k;cases e1
   | rse x e2 s2=>rw[e] at k;obtain⟨_,_,e1,_⟩:=k;cases e1
   | rt x s2=>rw[e] at k;obtain⟨_,_,e1,_⟩:=k;cases e1
  ·rw[hm z];exact k
structure OpM where
 m:Nat->List PV->MH->Out PV
 p:List D->List D->Option (D × List D)
 ok:∀{q:Nat} {h:MH} {O:List Nat} {n:Nat} {xs:List PV} {ds as:List D} {vs:List PV} {d:D} {ds':List D},h[n]?=some (.lst xs)->Rps q h O ds xs->Rps q h O as vs->p ds as=some (d,ds')->∃v xs',m n vs h=.ok v (h.set n (.lst xs'))/\Rps q h O ds' xs'/\Rp q h O d v
def pY{q h L B O σ env s n xs' ds' i d0 kd}(c:Cx q h L B O ws σ env s)(d:Dis ws σ env)(hi:i∈ws)(e:env[i]?=some (some d0))(es:σ[i]?=some (some (.loc n)))(r:Rps q h O ds' xs') :
  Nxt q L h B O ws σ (h.set n (mo kd xs')) (env.set i (some (dl kd ds'))) s:=by
 obtain⟨n',k0,xs,ds0,e0,e2,a,b,g,r0⟩:=c.sr.ow i _ e hi;rw[es] at e2;cases e2;have mv:Mv O h O (h.set n (mo kd xs')):=⟨fun m hm no=>qai (fun (z:n=m)=>no (z▸a)),fun o ho=>.inl ho⟩;have hp:=c.pL;have il:i<env.length:=(qaj.mp e).1;refine⟨O,⟨by simp,mv,fun _ h=>h,fun m hm _=>qai (by lia)⟩,⟨fun o ho=>by simpa using c.bd o ho,c.sub,c.bb,c.pb,by simpa using c.hL,?_,⟨by simp[c.sr.len],fun j x ej hj=>?_,fun j x ej hj=>?_⟩⟩,?_⟩
 ·unfold cv;rw[qai (by lia)];exact c.pen
 ·have ne:i≠j:=fun z=>hj (z▸hi);rw[qai ne] at ej;obtain⟨v,e1,w⟩:=c.sr.fz j x ej hj;exact⟨v,e1,w.mv mv⟩
 ·by_cases z:i=j
  ·subst z;rw[qaD il] at ej;cases ej;exact⟨n,kd,xs',ds',rfl,es,a,b,qaD (bo g),r.mv mv⟩
  ·rw[qai z] at ej;obtain⟨m,k1,ys,es',e1,e3,b3,b4,b5,b6⟩:=c.sr.ow j x ej hj
   have:n≠m:=fun y=>d i j hi hj z _ _ n e ej es (y▸e3)
   exact⟨m,k1,ys,es',e1,e3,b3,b4,by rw[qai this];exact b5,b6.mv mv⟩
 ·intro j k hj hk ne x y m ej ek e1;have up:∀j x,(env.set i (some (dl kd ds')))[j]?=some (some x)->∃x',env[j]?=some (some x'):=fun j x ej=>by
   by_cases z:i=j
   ·subst z;exact⟨_,e⟩
   ·rw[qai z] at ej;exact⟨x,ej⟩
  obtain⟨x',ej'⟩:=up j x ej;obtain⟨y',ek'⟩:=up k y ek;exact d j k hj hk ne x' y' m ej' ek' e1
def km{q h L B O σ env s n xs' ds' i ds}(c:Cx q h L B O ws σ env s)(d:Dis ws σ env)(hi:i∈ws)(e:env[i]?=some (some (D.lst ds)))(es:σ[i]?=some (some (.loc n)))(r:Rps q h O ds' xs') :
  Nxt q L h B O ws σ (h.set n (.lst xs')) (env.set i (some (.lst ds'))) s:=pY (kd:=none) c d hi e es r
def mt_ok(o:OpM)(i:Nat)(a:Xs ws)(hi:i∈ws)(hz:a.fz=true){q h L B O σ env s}(c:Cx q h L B O ws σ env s)(d:Dis ws σ env)
  (ea:a.p env s=.ok as s1) (ei:env[i]?=some (some (.lst ds))) (eo:o.p ds as=some (r,ds')):∃v h1 n xs',KB q h h1/\Cx q h1 L B O ws σ env s1/\σ[i]?=some (some (.loc n))/\mMt o.m (ag i) a.m σ h=.ok v (h1.set n (.lst xs'))/\Rps q h1 O ds' xs'/\Rp q h1 O r v:=by
 obtain⟨n,kd,xs,ds0,e0,e2,b1,b2,g,r0⟩:=c.sr.ow i _ ei hi;obtain⟨rfl,rfl⟩:=e9 e0;replace g:h[n]?=some (.lst xs):=g;have ka:=a.ok c;rw[ea] at ka;obtain⟨vs,h1,e3,kb,pn,_,rv⟩:=ka;have c1:=c.kb kb pn;have g1:h1[n]?=some (.lst xs):=(kb.keep n (bo g) (by have:=c.pL;lia)).trans g;obtain⟨v,xs',e4,r1,r2⟩:=o.ok g1 (r0.mv (kb.mv c.pO)) (rv hz) eo;refine⟨v,h1,n,xs',kb,c1,e2,?_,r1,r2⟩;have em:ag i σ h=.ok (.loc n) h:=by simp[ag,e2]
 show (ag i σ h).bind _=_;rw[em];simp only[Out.bind_ok,g,e3,e4,Out.ne_ok]
def pMt(o:OpM)(i:Nat)(a:aD->Pen->PR (List D))(env:aD)(s:Pen)(k:D->aD->Pen->PS):PS:=match a env s with
 | .ok as s1=>(match env[i]? with
  | some (some (.lst ds))=>(match o.p ds as with
   | some (r,ds')=>k r (env.set i (some (.lst ds'))) s1
   | none=>.bad)
  | _=>.bad)
 | _=>.bad
def qU(e1:a env s=.ok as s1)(e2:env[i]?=some (some (.lst ds)))(e3:o.p ds as=some (r,ds')):pMt o i a env s k=k r (env.set i (some (.lst ds'))) s1:=by
 simp only[pMt,e1,e2,e3]
def ss:pMt o i a env s k=.bad\/∃as s1 ds r ds',a env s=.ok as s1/\env[i]?=some (some (.lst ds))/\o.p ds as=some (r,ds')/\pMt o i a env s k=k r (env.set i (some (.lst ds'))) s1:=by
 cases e1:a env s with
 | bad=>left;simp only[pMt,e1]
 | exc _ _=>left;simp only[pMt,e1]
 | ok as s1 =>
  cases e2:env[i]? with
  | none=>left;simp only[pMt,e1,e2]
  | some x =>
   cases x with
   | none=>left;simp only[pMt,e1,e2]
   | some d =>
    cases d with
    | lst ds =>
     cases e3:o.p ds as with
     | none=>left;simp only[pMt,e1,e2,e3]
     | some y=>exact .inr ⟨as,s1,ds,y.1,y.2,rfl,rfl,e3,qU e1 e2 e3⟩
    | _=>left;simp only[pMt,e1,e2]
def xMt(o:OpM)(i:Nat)(a:Xs ws)(hi:ws.contains i=true:=by exact ys rfl)(hz:a.fz=true:=by exact ys rfl):Xd ws where
 m:=ik (mMt o.m (ag i) a.m)
 p:=fun env s=>pMt o i a.p env s fun _=>.nx
 fr:=true
 ok {q h L B O σ env s} c d:=by
  rcases ss (o:=o) (i:=i) (a:=a.p) (env:=env) (s:=s) (k:=fun _=>.nx) with z|⟨as,s1,ds,r,ds',e1,e2,e3,z⟩
  ·rw[z];trivial
  ·rw[z];have hi':i∈ws:=by simpa using hi
   obtain⟨v,h1,n,xs',kb,c1,es,em,r1,r2⟩:=mt_ok o i a hi' hz c d e1 e2 e3;refine⟨σ,h1.set n (.lst xs'),?_,(km c1 d hi' e2 es r1).after (kb.stp c)⟩;unfold ik mEx;rw[em];rfl
def pP(j:Nat)(o:OpM)(i:Nat)(a:Xs ws)(hi:ws.contains i=true:=by exact ys rfl)(hj:ws.contains j=false:=by exact ys rfl)(hz:a.fz=true:=by exact ys rfl):Xd ws where
 m:=aP j (mMt o.m (ag i) a.m)
 p:=fun env s=>pMt o i a.p env s fun r env s=>.nx (env.set j (some r)) s
 fr:=true
 ok {q h L B O σ env s} c d:=by
  rcases ss (o:=o) (i:=i) (a:=a.p) (env:=env) (s:=s) (k:=fun r env s=>.nx (env.set j (some r)) s) with z|⟨as,s1,ds,r,ds',e1,e2,e3,z⟩
  ·rw[z];trivial
  ·rw[z];have hi':i∈ws:=by simpa using hi
   obtain⟨v,h1,n,xs',kb,c1,es,em,r1,r2⟩:=mt_ok o i a hi' hz c d e1 e2 e3;obtain⟨O',st,c2,d2⟩:=(km c1 d hi' e2 es r1).after (kb.stp c);obtain⟨O'',st',c2',d2'⟩:=km c1 d hi' e2 es r1;obtain⟨A,b⟩:=c2'.sr.set (i:=j) (fun z=>by simp[z] at hj) (r2.mv st'.mv);refine⟨σ.set j (some v),h1.set n (.lst xs'),?_,O'',(kb.stp c).trans st',⟨c2'.bd,c2'.sub,c2'.bb,c2'.pb,c2'.hL,c2'.pen,A⟩,d2'.keep b⟩;unfold aP mEx;rw[em]
def eI(i:Nat)(e ix:aD->Pen->PR D)(env:aD)(s:Pen):PS:=match e env s with
 | .ok v s1=>(match ix env s1 with
  | .ok (.int j) s2=>(match env[i]? with
   | some (some (.lst ds))=>(match ixN ds.length j with
    | some n=>.nx (env.set i (some (.lst (ds.set n v)))) s2
    | none=>.bad)
   | _=>.bad)
  | _=>.bad)
 | _=>.bad
def kA(e1:e env s=.ok v s1)(e2:ix env s1=.ok (.int j) s2)(e3:env[i]?=some (some (.lst ds)))(e4:ixN ds.length j=some n):eI i e ix env s=.nx (env.set i (some (.lst (ds.set n v)))) s2:=by
 simp only[eI,e1,e2,e3,e4]
def xy:eI i e ix env s=.bad\/∃v s1 j s2 ds n,e env s=.ok v s1/\ix env s1=.ok (.int j) s2/\env[i]?=some (some (.lst ds))/\ixN ds.length j=some n/\eI i e ix env s=.nx (env.set i (some (.lst (ds.set n v)))) s2:=by
 cases e1:e env s with
 | bad=>left;simp only[eI,e1]
 | exc _ _=>left;simp only[eI,e1]
 | ok v s1 =>
  cases e2:ix env s1 with
  | bad=>left;simp only[eI,e1,e2]
  | exc _ _=>left;simp only[eI,e1,e2]
  | ok k s2 =>
   cases k with
   | int j =>
    cases e3:env[i]? with
    | none=>left;simp only[eI,e1,e2,e3]
    | some x =>
     cases x with
     | none=>left;simp only[eI,e1,e2,e3]
     | some d =>
      cases d with
      | lst ds =>
       cases e4:ixN ds.length j with
       | none=>left;simp only[eI,e1,e2,e3,e4]
       | some n=>exact .inr ⟨v,s1,j,s2,ds,n,rfl,e2,rfl,e4,kA e1 e2 e3 e4⟩
      | _=>left;simp only[eI,e1,e2,e3]
   | _=>left;simp only[eI,e1,e2]
def Vw.int(w:Vw q h L O (.int b) v):v=.int b:=by
 rcases w with r|⟨n,kd,xs,ds,e,_⟩
 ·exact r
 ·cases kd <;> cases e
def i6(i:Nat)(e ix:Xe ws)(hi:ws.contains i=true:=by exact ys rfl)(hz:e.fz=true:=by exact ys rfl):Xd ws where
 m:=jG e.m (gSb (ag i) ix.m)
 p:=eI i e.p ix.p
 fr:=true
 ok {q h L B O σ env s} c d:=by
  rcases xy (i:=i) (e:=e.p) (ix:=ix.p) (env:=env) (s:=s) with z|⟨v,s1,j,s2,ds,n,e1,e2,e3,e4,z⟩
  ·rw[z];trivial
  ·rw[z];have hi':i∈ws:=by simpa using hi
   have ke:=e.ok c;rw[e1] at ke;obtain⟨x,h1,f1,kb1,pn1,_,rx,_⟩:=ke;have c1:=c.kb kb1 pn1;have ki:=ix.ok c1;rw[e2] at ki;obtain⟨y,h2,f2,kb2,pn2,w,_,_⟩:=ki;have c2:=c1.kb kb2 pn2;obtain⟨nl,kd,xs,ds0,e0,es,b1,b2,g,r0⟩:=c2.sr.ow i _ e3 hi';obtain⟨rfl,rfl⟩:=e9 e0;replace g:h2[nl]?=some (.lst xs):=g;have hy:=w.int;subst hy;have em:ag i σ h1=.ok (.loc nl) h1:=by simp[ag,es]
   have nx:=km c2 d hi' e3 es (xs':=xs.set n x) (ds':=ds.set n v) (r0.set n ((rx hz).mv (kb2.mv c.pO)));refine⟨σ,h2.set nl (.lst (xs.set n x)),?_,nx.after ((kb1.trans kb2).stp c)⟩;have e5:lF (.loc nl) (.int j) x h2=some (h2.set nl (.lst (xs.set n x))):=by
    simp only[lF,g];rw[r0.length,e4];rfl
   have e6:gSb (ag i) ix.m x σ h1=.nx σ (h2.set nl (.lst (xs.set n x))):=by
    simp only[gSb,mEx,em,f2,e5]
   unfold jG mEx;rw[f1];dsimp only;rw[e6]
def PS.fin(r:PS):PR D:=match r with
 | .nx _ s=>.ok .non s
 | .rt d s=>.ok d s
 | .exc c _ s=>.exc c s
 | .rse c _ s=>.exc c s
 | _=>.bad
@[simp] theorem fin_nx:(PS.nx e s).fin=.ok .non s:=rfl
@[simp] theorem bw:(PS.rt d s).fin=.ok d s:=rfl
@[simp] theorem fin_exc:(PS.exc c e s).fin=.exc c s:=rfl
@[simp] theorem fin_rse:(PS.rse c e s).fin=.exc c s:=rfl
@[simp] theorem fin_bad:PS.bad.fin=.bad:=rfl
def dSt(n:Nat)(ds:List D):aD:=ds.map some++List.replicate (n - ds.length) none
def bR(n np:Nat)(b:Xd ws)(hw:ws.all (fun i=>decide (np<=i))=true:=by exact ys rfl):Fn where
 m:=eM n np b.m
 p:=fun ds s=>if ds.length=np then (b.p (dSt n ds) s).fin else .bad
 fr:=b.fr
 ok {q h O vs ds s} bd hq pn r:=by
  by_cases hl:ds.length=np
  ·rw[qan hl];have hv:vs.length=np:=by rw[r.length];exact hl
   have low:∀i d,(dSt n ds)[i]?=some (some d)->i<np/\ds[i]?=some d:=fun i d e=>by
    by_cases z:i<ds.length
    ·refine⟨by lia,?_⟩;unfold dSt at e;rw[qal (by simpa using z)] at e;simp at e;simpa using e
    ·unfold dSt at e;rw[qaF (by simpa using z)] at e;by_cases y:i - (ds.map some).length<n - ds.length
     ·simp[qaZ,y] at e
     ·simp at y e;exact absurd e (by simp[qaZ])
   have nw:∀i d,(dSt n ds)[i]?=some (some d)->i∉ws:=fun i d e hi=>by
    have:=(low i d e).1
    rw[qcs] at hw
    have:=hw i hi
    simp at this;lia
   have c:Cx q h h.length O O ws (cD n vs) (dSt n ds) s:=by
    refine⟨bd,fun _ h=>h,bd,hq,qak _,pn,⟨by simp[cD,dSt,r.length],fun i d e _=>?_,fun i d e hi=>absurd hi (nw i d e)⟩⟩;obtain⟨v,ev,rv⟩:=r.get (low i d e).2;refine⟨v,?_,rv⟩;unfold cD;rw[qal (by simpa using (qaj.mp ev).1)];simp[ev]
   have k:=b.ok c fun i j hi _ _ d _ _ e=>absurd hi (nw i d e)
   have em:eM n np b.m vs h=(match b.m (cD n vs) h with
    | .nx _ h'=>.ok .non h'
    | .rt v h'=>.ok v h'
    | .exc x _ h'=>.exc x h'
    | .rse x _ h'=>.exc x h'
    | _=>.bad):=by unfold eM;(rw[qan hv]) <;> (cases b.m (cD n vs) h <;> rfl)
   rw[em];have kb:∀{h' O'},Stp q h.length h O h' O'->KB q h h':=fun st=>⟨st.len,fun m hm hq=>st.base m hm hq⟩
   cases e:b.p (dSt n ds) s with
   | nx e1 s1=>rw[e] at k;obtain⟨σ',h',f,O',st,c',_⟩:=k;rw[f];exact⟨.non,h',rfl,kb st,c'.pen,rfl,fun _ k ds e=>by cases k <;> cases e⟩
   | exc x e1 s1=>rw[e] at k;obtain⟨σ',h',f,O',st,c',_⟩:=k;rw[f];exact⟨h',rfl,kb st,c'.pen⟩
   | rse x e1 s1=>rw[e] at k;obtain⟨σ',h',f,O',st,c',_⟩:=k;rw[f];exact⟨h',rfl,kb st,c'.pen⟩
   | rt x s1=>rw[e] at k;obtain⟨v,h',f,l,b,p,rr,rs⟩:=k;rw[f];exact⟨v,h',rfl,⟨l,b⟩,p,rr,rs⟩
   | bk e1 s1=>trivial
   | ct e1 s1=>trivial
   | bad=>trivial
  ·rw[qaz hl];trivial
end
end PU
namespace PU
open PySem MM SetT SortT
open L2 (ixN atI fH)
local instance (priority:=1) cdecN6 (p:Prop):Decidable p:=Classical.propDecidable p
noncomputable section
section
variable {q:Nat} {h:MH} {L:Nat} {O:List Nat} {v:PV}
def Vw.non(w:Vw q h L O .non v):v=.non:=by
 rcases w with r|⟨n,kd,xs,ds,e,_⟩
 ·exact r
 ·cases kd <;> cases e
def Vw.str(w:Vw q h L O (.str x) v):v=.str x:=by
 rcases w with r|⟨n,kd,xs,ds,e,_⟩
 ·exact r
 ·cases kd <;> cases e
inductive VwL (h:MH) (P:List PV->Prop) (v:PV):Prop
 | mk (n:Nat) (xs:List PV) (e:v=.loc n) (g:h[n]?=some (.lst xs)) (r:P xs):VwL h P v
def Vw.lst(w:Vw q h L O (.lst ds) v):VwL h (Rps q h O ds) v:=by
 rcases w with ⟨n,xs,e,_,g,r⟩|⟨n,kd,xs,ds',e,e1,_,_,g,r⟩
 ·exact⟨n,xs,e,g,r⟩
 ·obtain⟨rfl,rfl⟩:=e9 e;exact⟨n,xs,e1,g,r⟩
def Vw.tup(w:Vw q h L O (.tup ds) v):RcT (Rps q h O ds) v:=by
 rcases w with r|⟨n,kd,xs,ds',e,_⟩
 ·exact r
 ·cases kd <;> cases e
def gv0(r:Rp q h O d v)(hf:fr=true->∀k ds,d≠dl k ds):Gv q h O fr (.ok v h) d :=
 ⟨v,[],by simp,by simpa using r,fun z k ds e=>absurd e (hf z k ds)⟩
def gvI:Gv q h O fr (.ok (.int i) h) (.int i):=gv0 rfl fun _ k _ e=>by cases k <;> cases e
def gvB:Gv q h O fr (.ok (.bl i) h) (.bl i):=gv0 rfl fun _ k _ e=>by cases k <;> cases e
def dQ(w:Vws q h L O [d] vs):∃x,vs=[x]/\Vw q h L O d x:=by
 obtain⟨x,r,e,a,b⟩:=w
 have:r=[]:=b
 subst this;exact⟨x,e,a⟩
def vws2(w:Vws q h L O [d,d'] vs):∃x y,vs=[x,y]/\Vw q h L O d x/\Vw q h L O d' y:=by
 obtain⟨x,r,e,a,b⟩:=w;obtain⟨y,rfl,c⟩:=dQ b;exact⟨x,y,e,a,c⟩
end
def iiOp(m:PV->PV->MH->Out PV)(f:Int->Int->D)(g:Int->Int->PV)(hm:∀i j h,m (.int i) (.int j) h=.ok (g i j) h)(hg:∀i j q h O fr,Gv q h O fr (.ok (g i j) h) (f i j)):Op2 where
 m:=m
 p:=fun a b=>match a,b with
  | .int i,.int j=>some (f i j)
  | _,_=>none
 fr:=true
 ok {q h L O a x b y d} bd wa wb e:=by
  cases a with
  | int i =>
   cases b with
   | int j=>cases e;rw[wa.int,wb.int,hm];exact hg i j q h O true
   | _=>cases e
  | _=>cases e
def i4:Op2:=iiOp opSub (fun i j=>.int (i - j)) (fun i j=>.int (i - j)) (fun _ _ _=>rfl) fun _ _ _ _ _ _=>gvI
def oLt:Op2:=iiOp opLt (fun i j=>.bl (decide (i<j))) (fun i j=>.bl (decide (i<j))) (fun _ _ _=>rfl) fun _ _ _ _ _ _=>gvB
def oGt:Op2:=iiOp opGt (fun i j=>.bl (decide (j<i))) (fun i j=>.bl (decide (j<i))) (fun _ _ _=>rfl) fun _ _ _ _ _ _=>gvB
def cL:Op2 where
 m:=opAdd
 p:=fun a b=>match a,b with
  | .int i,.int j=>some (.int (i+j))
  | .lst x,.lst y=>if x.length+y.length<=100000 then some (.lst (x++y)) else none
  | .tup (a::x),.tup y=>if x.length+1+y.length<=100000 then some (.tup (a::x++y)) else none
  | _,_=>none
 fr:=true
 ok {q h L O a x b y d} bd wa wb e:=by
  cases a with
  | int i =>
   cases b with
   | int j=>cases e;rw[wa.int,wb.int];exact gvI
   | _=>cases e
  | lst x =>
   cases b with
   | lst y =>
    dsimp only at e;by_cases z:x.length+y.length<=100000
    ·rw[qan z] at e;cases e;obtain⟨n,xs,rfl,g,r⟩:=wa.lst;obtain⟨n',ys,rfl,g',r'⟩:=wb.lst;show Gv q h O true (match h[n]?,h[n']? with | some (.lst xs),some (.lst ys)=>newL (xs++ys) h | _,_=>.bad) _;rw[g,g'];exact iW bd (r.app r') (by simpa using z)
    ·rw[qaz z] at e;cases e
   | _=>cases e
  | tup x =>
   cases x with
   | nil=>cases b <;> cases e
   | cons a x =>
    cases b with
    | tup y =>
     dsimp only at e;by_cases z:x.length+1+y.length<=100000
     ·rw[qan z] at e;cases e;obtain⟨xs,rfl,r⟩:=wa.tup;obtain⟨ys,rfl,r'⟩:=wb.tup;have ne:xs≠[]:=fun z=>by have:=r.length;simp[z] at this
      show Gv q h O true (if xs≠[] then newT (xs++ys) h else .bad) _;rw[qan ne];exact tw (r.app r') (by simp;lia)
     ·rw[qaz z] at e;cases e
    | _=>cases e
  | _=>cases e
def Rps.rep(r:Rps q h O ds xs):∀n,Rps q h O (List.replicate n ds).flatten (List.replicate n xs).flatten
 | 0=>rfl
 | n+1=>by
  rw[qaS,qaS,qbc,qbc];exact r.app (Rps.rep r n)
def bx:Op2 where
 m:=opMul
 p:=fun a b=>match a,b with
  | .int i,.int j=>if IntMulOk i j then some (.int (i * j)) else none
  | .lst x,.int j=>if (0<=j/\j<=1000)/\((List.replicate j.toNat x).flatten).length<=100000 then some (.lst (List.replicate j.toNat x).flatten) else none
  | _,_=>none
 fr:=true
 ok {q h L O a x b y d} bd wa wb e:=by
  cases a with
  | int i =>
   cases b with
   | int j =>
    dsimp only at e;by_cases z:IntMulOk i j
    ·rw[qan z] at e;cases e;rw[wa.int,wb.int];show Gv q h O true (if IntMulOk i j then .ok (.int (i * j)) h else .bad) _;rw[qan z];exact gvI
    ·rw[qaz z] at e;cases e
   | _=>cases e
  | lst x =>
   cases b with
   | int j =>
    dsimp only at e;by_cases z:(0<=j/\j<=1000)/\((List.replicate j.toNat x).flatten).length<=100000
    ·rw[qan z] at e;cases e;obtain⟨n,xs,rfl,g,r⟩:=wa.lst;rw[wb.int];show Gv q h O true (match h[n]? with | some (.lst xs)=>if -(2 ^ 63)<=j/\j<2 ^ 63 then newL (List.flatten (List.replicate j.toNat xs)) h else .bad | _=>.bad) _;rw[g];dsimp only;rw[qan (by lia)];exact iW bd (r.rep _) z.2
    ·rw[qaz z] at e;cases e
   | _=>cases e
  | _=>cases e
def oFd:Op2 where
 m:=opFd
 p:=fun a b=>match a,b with
  | .int i,.int j=>if j≠0 then some (.int (i.fdiv j)) else none
  | _,_=>none
 fr:=true
 ok {q h L O a x b y d} bd wa wb e:=by
  cases a with
  | int i =>
   cases b with
   | int j =>
    dsimp only at e;by_cases z:j≠0
    ·rw[qan z] at e;cases e;rw[wa.int,wb.int];show Gv q h O true (if j≠0 then .ok (.int (i.fdiv j)) h else .bad) _;rw[qan z];exact gvI
    ·rw[qaz z] at e;cases e
   | _=>cases e
  | _=>cases e
def jX:Op2 where
 m:=opMod
 p:=fun a b=>match a,b with
  | .int i,.int j=>if j≠0 then some (.int (i.fmod j)) else none
  | _,_=>none
 fr:=true
 ok {q h L O a x b y d} bd wa wb e:=by
  cases a with
  | int i =>
   cases b with
   | int j =>
    dsimp only at e;by_cases z:j≠0
    ·rw[qan z] at e;cases e;rw[wa.int,wb.int];show Gv q h O true (if j≠0 then .ok (.int (i.fmod j)) h else .bad) _;rw[qan z];exact gvI
    ·rw[qaz z] at e;cases e
   | _=>cases e
  | _=>cases e
def pW:Op2 where
 m:=opPow
 p:=fun a b=>match a,b with
  | .int i,.int j=>if fH i j then some (.int (i ^ j.toNat)) else none
  | _,_=>none
 fr:=true
 ok {q h L O a x b y d} bd wa wb e:=by
  cases a with
  | int i =>
   cases b with
   | int j =>
    dsimp only at e;by_cases z:fH i j
    ·rw[qan z] at e;cases e;rw[wa.int,wb.int];show Gv q h O true (if fH i j then .ok (.int (i ^ j.toNat)) h else .bad) _;rw[qan z];exact gvI
    ·rw[qaz z] at e;cases e
   | _=>cases e
  | _=>cases e
def oIx:Op2 where
 m:=aH
 p:=fun a b=>match a,b with
  | .lst x,.int j=>atI x j
  | .tup x,.int j=>atI x j
  | _,_=>none
 fr:=false
 ok {q h L O a x b y d} bd wa wb e:=by
  have at':∀{ds:List D} {xs:List PV} {j:Int},Rps q h O ds xs->atI ds j=some d->∃v,atI xs j=some v/\Rp q h O d v:=fun {ds xs j} r e=>by
   unfold atI at e ⊢;rw[r.length]
   cases e1:ixN ds.length j with
   | none=>rw[e1] at e;cases e
   | some k=>rw[e1] at e;exact r.get e
  cases b with
  | int j =>
   rw[wb.int]
   cases a with
   | lst ds =>
    obtain⟨n,xs,rfl,g,r⟩:=wa.lst;obtain⟨v,e1,rv⟩:=at' r e;show Gv q h O false (match h[n]? with | some (.lst xs)=>(match atI xs j with | some v=>.ok v h | none=>.bad) | _=>.bad) _;rw[g];dsimp only;rw[e1];exact gv0 rv fun z=>by cases z
   | tup ds =>
    obtain⟨xs,rfl,r⟩:=wa.tup;obtain⟨v,e1,rv⟩:=at' r e;show Gv q h O false (match atI xs j with | some v=>.ok v h | none=>.bad) _;rw[e1];exact gv0 rv fun z=>by cases z
   | _=>cases e
  | _=>cases a <;> cases e
def oIs(neg:Bool):Op2 where
 m:=qY neg
 p:=fun a b=>match b with
  | .non=>(match a with
   | .non=>some (.bl (!neg))
   | _=>some (.bl neg))
  | .bl b=>(match a with
   | .bl c=>some (.bl (if neg then !(c == b) else c == b))
   | .non=>some (.bl neg)
   | .int _=>some (.bl neg)
   | .str _=>some (.bl neg)
   | .tup _=>some (.bl neg)
   | _=>none)
  | _=>none
 fr:=true
 ok {q h L O a x b y d} bd wa wb e:=by
  have loc:∀{a:D} {x:PV},Vw q h L O a x->(∃ds,a=.lst ds)\/(∃fz ks ds,a=.dic fz ks ds)\/(∃c,a=.exc c)\/a=.pen->∃n,x=.loc n:=fun {a x} w z=>by
   rcases w with r|⟨n,kd,xs,ds,e,e1,_⟩
   ·rcases z with ⟨ds,rfl⟩|⟨_,_,_,rfl⟩|⟨c,rfl⟩|rfl
    ·obtain⟨n,_,e,_⟩:=r;exact⟨n,e⟩
    ·obtain⟨n,_,e,_⟩:=r;exact⟨n,e⟩
    ·obtain⟨n,e,_⟩:=r;exact⟨n,e⟩
    ·exact⟨q,r⟩
   ·exact⟨n,e1⟩
  cases b with
  | non =>
   rw[wb.non]
   cases a with
   | non=>cases e;rw[wa.non];exact gvB
   | bl c=>cases e;rw[wa.bl];exact gvB
   | int c=>cases e;rw[wa.int];exact gvB
   | str c=>cases e;rw[wa.str];exact gvB
   | tup c=>cases e;obtain⟨xs,rfl,_⟩:=wa.tup;exact gvB
   | lst c=>cases e;obtain⟨n,rfl⟩:=loc wa (.inl ⟨_,rfl⟩);exact gvB
   | dic a b c=>cases e;obtain⟨n,rfl⟩:=loc wa (.inr (.inl ⟨_,_,_,rfl⟩));exact gvB
   | exc c=>cases e;obtain⟨n,rfl⟩:=loc wa (.inr (.inr (.inl ⟨_,rfl⟩)));exact gvB
   | pen=>cases e;obtain⟨n,rfl⟩:=loc wa (.inr (.inr (.inr rfl)));exact gvB
  | bl b =>
   rw[wb.bl]
   cases a with
   | non=>cases e;rw[wa.non];exact gvB
   | bl c=>cases e;rw[wa.bl];exact gvB
   | int c=>cases e;rw[wa.int];exact gvB
   | str c=>cases e;rw[wa.str];exact gvB
   | tup c=>cases e;obtain⟨xs,rfl,_⟩:=wa.tup;exact gvB
   | _=>cases e
  | _=>cases e
mutual
def py:D->Option PyData
 | .non=>some .none
 | .bl b=>some (.bool b)
 | .int i=>some (.int i)
 | .str x=>some (.str x)
 | .tup ds=>(pys ds).map .tuple
 | .lst ds=>(pys ds).map .list
 | _=>none
def pys:List D->Option (List PyData)
 | []=>some []
 | d::ds=>match py d,pys ds with
  | some x,some xs=>some (x::xs)
  | _,_=>none
end
mutual
def dep:D->Nat
 | .tup ds=>1+deps ds
 | .lst ds=>1+deps ds
 | _=>0
def deps:List D->Nat
 | []=>0
 | d::ds=>max (dep d) (deps ds)
end
def sZ(d:D):(∀(v:PV) (e:PyData) (n:Nat),Rp q h O d v->py d=some e->dep d<=n->rd n h v=some e):=by
 refine D.rec (motive_1:=fun d=>∀(v:PV) (e:PyData) (n:Nat),Rp q h O d v->py d=some e->dep d<=n->rd n h v=some e)
  (motive_2:=fun ds=>∀(vs:List PV) (es:List PyData) (n:Nat),Rps q h O ds vs->pys ds=some es->deps ds<=n->dE (rd n h) vs=some es)
  (fun v _ n r e _=>?_) (fun b v _ n r e _=>?_) (fun b v _ n r e _=>?_) (fun b v _ n r e _=>?_) (fun ds ih v e n r ep hd=>?_) (fun ds ih v e n r ep hd=>?_) (fun _ _ _ _ _ _ _ _ e _=>?_) (fun _ _ _ _ _ e _=>?_) (fun _ _ _ _ e _=>?_)
  (fun vs es n r e _=>?_) (fun d ds i1 i2 vs es n r e hd=>?_) d
 ·rw[show v=PV.non from r];cases e;cases n <;> rfl
 ·rw[show v=PV.bl b from r];cases e;cases n <;> rfl
 ·rw[show v=PV.int b from r];cases e;cases n <;> rfl
 ·rw[show v=PV.str b from r];cases e;cases n <;> rfl
 ·obtain⟨xs,ex,r⟩:=r;subst ex;rw[py,qas] at ep;obtain⟨es,e1,rfl⟩:=ep;rw[dep] at hd
  cases n with
  | zero=>lia
  | succ n=>simp only[rd];rw[ih _ _ n r e1 (by lia)];rfl
 ·obtain⟨m,xs,ex,_,g,r⟩:=r;subst ex;rw[py,qas] at ep;obtain⟨es,e1,rfl⟩:=ep;rw[dep] at hd
  cases n with
  | zero=>lia
  | succ n=>simp only[rd,g];rw[ih _ _ n r e1 (by lia)];rfl
 ·simp[py] at e
 ·simp[py] at e
 ·simp[py] at e
 ·rw[show vs=[] from r];rw[pys] at e;cases e;rfl
 ·obtain⟨x,t,ex,a,b⟩:=r;subst ex;rw[deps] at hd;rw[pys] at e
  cases e1:py d with
  | none=>rw[e1] at e;cases e
  | some y =>
   cases e2:pys ds with
   | none=>rw[e1,e2] at e;cases e
   | some ys =>
    rw[e1,e2] at e;cases e;have a1:=i1 _ _ n a e1 (by lia);have b1:=i2 _ _ n b e2 (by lia);simp only[dE,a1,b1]
def rd_ok(r:Rp q h O d v)(ep:py d=some e)(hd:dep d<=n):rd n h v=some e:=sZ d v e n r ep hd
def rds_ok(r:Rps q h O ds vs)(ep:pys ds=some es)(hd:deps ds<=n):dE (rd n h) vs=some es:=by
 have:=sZ (.tup ds) (.tup vs) (.tuple es) (n+1) (show Rp q h O (.tup ds) (.tup vs) from⟨vs,rfl,r⟩) (by rw[py,ep];rfl) (by rw[dep];lia)
 simp only[rd] at this
 cases z:dE (rd n h) vs with
 | none=>rw[z] at this;cases this
 | some y=>rw[z] at this;cases this;rfl
def o4(w:Vw q h L O d v)(ep:py d=some e)(hd:dep d<=60):rd 60 h v=some e:=by
 rcases w with r|⟨n,kd,xs,ds,rfl,rfl,_,_,g,r⟩
 ·exact rd_ok r ep hd
 ·cases kd with
  | some _=>simp[dl,py] at ep
  | none =>
   replace g:h[n]?=some (.lst xs):=g;unfold dl at ep hd;rw[py,qas] at ep;obtain⟨es,e1,rfl⟩:=ep;rw[dep] at hd;have a1:=rds_ok (n:=59) r e1 (by lia);show (match h[n]? with | some (.lst xs)=>(dE (rd 59 h) xs).map PyData.list | _=>none)=_;rw[g];dsimp only;rw[a1];rfl
def eqD(neg:Bool)(a b:D):Option D:=match py a,py b with
 | some x,some y=>if (dep a<=60/\dep b<=60)/\SeqAt.shaped x=true/\SeqAt.shaped y=true then some (.bl (if neg then !PyData.eqv x y else PyData.eqv x y)) else none
 | _,_=>none
def sT(e:eqD neg a b=some d):∃x y,py a=some x/\py b=some y/\(dep a<=60/\dep b<=60)/\(SeqAt.shaped x=true/\SeqAt.shaped y=true)/\d=.bl (if neg then !PyData.eqv x y else PyData.eqv x y):=by
 unfold eqD at e
 cases e1:py a with
 | none=>rw[e1] at e;cases e
 | some x =>
  cases e2:py b with
  | none=>rw[e1,e2] at e;cases e
  | some y =>
   rw[e1,e2] at e;dsimp only at e;by_cases z:(dep a<=60/\dep b<=60)/\SeqAt.shaped x=true/\SeqAt.shaped y=true
   ·rw[qan z] at e;cases e;exact⟨x,y,rfl,rfl,z.1,z.2,rfl⟩
   ·rw[qaz z] at e;cases e
def oEq:Op2 where
 m:=opEq
 p:=eqD false
 fr:=true
 ok {q h L O a x b y d} bd wa wb e:=by
  obtain⟨u,w,e1,e2,hd,hs,rfl⟩:=sT e;unfold opEq;rw[o4 wa e1 hd.1,o4 wb e2 hd.2];dsimp only;rw[qan hs];exact gvB
def oNe:Op2 where
 m:=opNe
 p:=eqD true
 fr:=true
 ok {q h L O a x b y d} bd wa wb e:=by
  obtain⟨u,w,e1,e2,hd,hs,rfl⟩:=sT e;unfold opNe;rw[o4 wa e1 hd.1,o4 wb e2 hd.2];dsimp only;rw[qan hs];exact gvB
def Vw.seqOf(w:Vw q h L O d v)(e:d.items=some ds):∃xs,MM.cT h v=some xs/\Rps q h O ds xs:=by
 cases d with
 | lst es=>cases e;obtain⟨n,xs,rfl,g,r⟩:=w.lst;exact⟨xs,by simp[MM.cT,g],r⟩
 | tup es=>cases e;obtain⟨xs,rfl,r⟩:=w.tup;exact⟨xs,rfl,r⟩
 | _=>cases e
end
noncomputable section
def oNeg:Op1 where
 m:=opNeg
 p:=fun a=>match a with
  | .int i=>some (.int (-i))
  | _=>none
 fr:=true
 ok {q h L O a x d} bd w e:=by
  cases a with
  | int i=>cases e;rw[w.int];exact gvI
  | _=>cases e
def tyD:D->Option String
 | .non=>some "NoneType"
 | .bl _=>some "bool"
 | .int _=>some "int"
 | .str _=>some "str"
 | .tup _=>some "tuple"
 | .lst _=>some "list"
 | .dic _ _ _=>some "dict"
 | _=>none
def ty_ok(w:Vw q h L O d v)(e:tyD d=some t):tyP h v=some t:=by
 cases d with
 | non=>cases e;rw[w.non];rfl
 | bl b=>cases e;rw[w.bl];rfl
 | int b=>cases e;rw[w.int];rfl
 | str b=>cases e;rw[w.str];rfl
 | tup b=>cases e;obtain⟨xs,rfl,_⟩:=w.tup;rfl
 | lst b=>cases e;obtain⟨n,xs,rfl,g,_⟩:=w.lst;simp[tyP,g]
 | dic fz ks ds =>
  cases e;rcases w with ⟨n,xs,rfl,_,g,_⟩|⟨n,kd,xs,ds',e,rfl,_,_,g,_⟩
  ·simp[tyP,g]
  ·cases kd with
   | none=>cases e
   | some _=>simp[tyP,g,mo]
 | _=>cases e
def nJ(Ts:List String):Op1 where
 m:=qZ Ts
 p:=fun a=>(tyD a).map fun t=>.bl (Ts.any (g9 t))
 fr:=true
 ok {q h L O a x d} bd w e:=by
  rw[qas] at e;obtain⟨t,e1,rfl⟩:=e;unfold qZ;rw[ty_ok w e1];exact gvB
def mU:OpN where
 k:=fun xs h=>(fAbs xs h).ne
 p:=fun as=>match as with
  | [.int i]=>some (.int (if i<0 then -i else i))
  | _=>none
 fr:=true
 ok {q h L O as xs d} bd w e:=by
  match as,e with
  | [.int i],e=>cases e;obtain⟨x,rfl,a⟩:=dQ w;rw[a.int];exact gvI
def nr:OpN where
 k:=fun xs h=>(fInt xs h).ne
 p:=fun as=>match as with
  | [.int i]=>some (.int i)
  | [.bl b]=>some (.int (if b then 1 else 0))
  | _=>none
 fr:=true
 ok {q h L O as xs d} bd w e:=by
  match as,e with
  | [.int i],e=>cases e;obtain⟨x,rfl,a⟩:=dQ w;rw[a.int];exact gvI
  | [.bl i],e=>cases e;obtain⟨x,rfl,a⟩:=dQ w;rw[a.bl];exact gvI
def dD:OpN where
 k:=fun xs h=>(fLen xs h).ne
 p:=fun as=>match as with
  | [.lst ds]=>some (.int ds.length)
  | [.tup ds]=>some (.int ds.length)
  | [.str x]=>if x.length<=sizeLine then some (.int x.length) else none
  | _=>none
 fr:=true
 ok {q h L O as xs d} bd w e:=by
  match as,e with
  | [.lst ds],e =>
   cases e;obtain⟨x,rfl,a⟩:=dQ w;obtain⟨n,ys,rfl,g,r⟩:=a.lst;simp only[fLen,g];rw[r.length];exact gvI
  | [.tup ds],e =>
   cases e;obtain⟨x,rfl,a⟩:=dQ w;obtain⟨ys,rfl,r⟩:=a.tup;simp only[fLen];rw[r.length];exact gvI
  | [.str x],e =>
   dsimp only at e;by_cases z:x.length<=sizeLine
   ·rw[qan z] at e;cases e;obtain⟨x,rfl,a⟩:=dQ w;rw[a.str];simp only[fLen];rw[qan z];exact gvI
   ·rw[qaz z] at e;cases e
def gr:OpN where
 k:=fun xs h=>(fList xs h).ne
 p:=fun as=>match as with
  | [d]=>d.items.bind fun ds=>if ds.length<=100000 then some (.lst ds) else none
  | _=>none
 fr:=true
 ok {q h L O as xs d} bd w e:=by
  match as,e with
  | [a],e =>
   obtain⟨x,rfl,wx⟩:=dQ w;rw[qbh] at e;obtain⟨ds,e1,e2⟩:=e;obtain⟨xs,e3,r⟩:=wx.seqOf e1;by_cases z:ds.length<=100000
   ·rw[qan z] at e2;cases e2;obtain⟨v,g,e4,r4,r5⟩:=iW bd r z;exact⟨v,g,by simp only[fList,e3];rw[e4];rfl,r4,r5⟩
   ·rw[qaz z] at e2;cases e2
def iT:OpN where
 k:=fun xs h=>(fTuple xs h).ne
 p:=fun as=>match as with
  | [d]=>d.items.map .tup
  | _=>none
 fr:=true
 ok {q h L O as xs d} bd w e:=by
  match as,e with
  | [a],e =>
   obtain⟨x,rfl,wx⟩:=dQ w;rw[qas] at e;obtain⟨ds,e1,rfl⟩:=e;obtain⟨xs,e3,r⟩:=wx.seqOf e1;simp only[fTuple,e3];exact gv0 ⟨xs,rfl,r⟩ fun _ k _ e=>by cases k <;> cases e
def jL:List D->Option (List Bool)
 | []=>some []
 | .bl b::r=>(jL r).map (b::·)
 | _=>none
def wk:∀{ds:List D} {xs:List PV} {bs:List Bool},Rps q h O ds xs->jL ds=some bs->lA xs=some bs
 | [],_,_,r,e=>by rw[show _=[] from r];cases e;rfl
 | d::ds,_,bs,⟨x,t,ex,a,b⟩,e=>by
  subst ex
  cases d with
  | bl c =>
   rw[show x=PV.bl c from a];rw[jL,qas] at e;obtain⟨cs,e1,rfl⟩:=e;rw[lA,wk b e1];rfl
  | _=>cases e
def cAll:OpN where
 k:=fun xs h=>(fAll xs h).ne
 p:=fun as=>match as with
  | [d]=>(d.items.bind jL).map fun bs=>.bl (bs.all id)
  | _=>none
 fr:=true
 ok {q h L O as xs d} bd w e:=by
  match as,e with
  | [a],e =>
   obtain⟨x,rfl,wx⟩:=dQ w;rw[qas] at e;obtain⟨bs,e1,rfl⟩:=e;rw[qbh] at e1;obtain⟨ds,e1,e2⟩:=e1;obtain⟨xs,e3,r⟩:=wx.seqOf e1;simp only[fAll,e3,qbT,wk r e2];exact gvB
def iw:List D->Option (List Int)
 | []=>some []
 | .int b::r=>(iw r).map (b::·)
 | _=>none
def pA:∀{ds:List D} {xs:List PV} {bs:List Int},Rps q h O ds xs->iw ds=some bs->xs=bs.map .int
 | [],_,_,r,e=>by rw[show _=[] from r];cases e;rfl
 | d::ds,_,bs,⟨x,t,ex,a,b⟩,e=>by
  subst ex
  cases d with
  | int c =>
   rw[show x=PV.int c from a];rw[iw,qas] at e;obtain⟨cs,e1,rfl⟩:=e;rw[pA b e1];rfl
  | _=>cases e
def om:∀(bs:List Int),li (bs.map .int)=some bs
 | []=>rfl
 | b::bs=>by rw[qao,li,om bs];rfl
def jd:∀(bs:List Int),Rps q h O (bs.map .int) (bs.map .int)
 | []=>rfl
 | b::bs=>⟨_,_,rfl,rfl,jd bs⟩
def gvL(bd:Bd h O)(r:∀h O,Rps q h O ds xs):Gv q h O true (.ok (.loc h.length) (h++[.lst xs])) (.lst ds):=by
 have g:(h++[MO.lst xs])[h.length]?=some (.lst xs):=by simp
 exact⟨_,_,rfl,⟨_,_,rfl,fun z=>by have:=bd _ z;ext,g,r _ _⟩,fun _ k ds' e=>by obtain⟨rfl,rfl⟩:=e9 e;exact⟨_,_,rfl,qak _,g,r _ _⟩⟩
def d4(lo:Int)(n:Nat):List D:=(List.range n).map fun (i:Nat)=>D.int (lo+(i:Int))
def tQ:Rps q h O (d4 lo n) (bQ lo n):=by
 have:=jd (q:=q) (h:=h) (O:=O) ((List.range n).map fun (i:Nat)=>lo+(i:Int))
 rw[qaE,qaE] at this;exact this
def cLR:OpN where
 k:=fun vs h1=>match vs with
  | [.int j]=>if -(2 ^ 62)<=j/\j<2 ^ 62/\j.toNat<=sizeLine then .ok (.loc h1.length) (h1++[.lst (bQ 0 j.toNat)]) else .bad
  | _=>.bad
 p:=fun as=>match as with
  | [.int j]=>if -100000<=j/\j<=100000 then some (.lst (d4 0 j.toNat)) else none
  | _=>none
 fr:=true
 ok {q h L O as xs d} bd w e:=by
  match as,e with
  | [.int j],e =>
   obtain⟨x,rfl,wx⟩:=dQ w;rw[wx.int];dsimp only at e;by_cases z:-100000<=j/\j<=100000
   ·rw[qan z] at e;cases e;dsimp only
    have:=eJ
    rw[qan ⟨by ext,by ext,by ext⟩];exact gvL bd fun _ _=>tQ
   ·rw[qaz z] at e;cases e
def iR1:OpI where
 k:=fun vs h1=>match vs with
  | [.int j]=>if -(2 ^ 62)<=j/\j<2 ^ 62 then .ok ⟨bQ 0 j.toNat,[]⟩ h1 else .bad
  | _=>.bad
 p:=fun as=>match as with
  | [.int j]=>if -100000<=j/\j<=100000 then some (d4 0 j.toNat) else none
  | _=>none
 ok {q h L O as xs d} hq hO bd w e:=by
  match as,e with
  | [.int j],e =>
   obtain⟨x,rfl,wx⟩:=dQ w;rw[wx.int];dsimp only at e;by_cases z:-100000<=j/\j<=100000
   ·rw[qan z] at e;cases e;dsimp only;rw[qan ⟨by ext,by ext⟩];exact⟨_,rfl,tQ,(fun _ hg=>nomatch hg),fun _ _ hg=>nomatch hg⟩
   ·rw[qaz z] at e;cases e
def Vw.sqAny(hq:q<L)(hO:q∈O)(w:Vw q h L O d v)(e:d.items=some ds):∃t xs gd,MM.cy v h=some (t,xs,gd)/\Rps q h O ds xs/\(∀g∈gd,h[g.1]?=some (.lst g.2)/\g.1≠q)/\(Rp q h O d v->∀g∈gd,g.1∉O):=by
 obtain⟨xs,gd,e1,r,g1,g2⟩:=w.seq hq hO e
 cases d with
 | lst es =>
  cases e;obtain⟨n,ys,rfl,g,r'⟩:=w.lst;simp only[itAny,g] at e1;cases e1;exact⟨false,xs,[(n,xs)],by simp[MM.cy,g],r',g1,g2⟩
 | tup es =>
  cases e;obtain⟨ys,rfl,r'⟩:=w.tup;simp only[itAny] at e1;cases e1;exact⟨true,_,[],rfl,r',g1,g2⟩
 | _=>cases e
def oS(ds:List D):List D:=ds.zipIdx.map fun p=>.tup [.int (p.2:Int),p.1]
def g6(xs ys:List D):List D:=(xs.zip ys).map fun p=>.tup [p.1,p.2]
def rj:∀{ds:List D} {xs:List PV} (n:Nat),Rps q h O ds xs->Rps q h O ((ds.zipIdx n).map fun p=>.tup [.int (p.2:Int),p.1]) ((xs.zipIdx n).map fun p=>.tup [.int (p.2:Int),p.1])
 | [],_,_,r=>by rw[show _=[] from r];rfl
 | d::ds,_,n,⟨x,t,e,a,b⟩=>by
  subst e;exact⟨_,_,rfl,⟨_,rfl,⟨_,_,rfl,rfl,⟨_,_,rfl,a,rfl⟩⟩⟩,rj (n+1) b⟩
def mV:∀{ds es:List D} {xs ys:List PV},Rps q h O ds xs->Rps q h O es ys->Rps q h O (g6 ds es) (eZ xs ys)
 | [],_,_,_,r,_=>by rw[show _=[] from r];simp[g6,eZ];rfl
 | _::_,[],_,_,r,r'=>by rw[show _=[] from r'];simp[g6,eZ];rfl
 | d::ds,e::es,_,_,⟨x,t,e1,a,b⟩,⟨x',t',e1',a',b'⟩=>by
  subst e1 e1';exact⟨_,_,rfl,⟨_,rfl,⟨_,_,rfl,a,⟨_,_,rfl,a',rfl⟩⟩⟩,mV b b'⟩
def iE:OpI where
 k:=fun vs h1=>match vs with
  | [x]=>(match cy x h1 with
   | some (_,xs,gd)=>.ok ⟨ia xs,gd⟩ h1
   | none=>.bad)
  | _=>.bad
 p:=fun as=>match as with
  | [d]=>d.items.map oS
  | _=>none
 ok {q h L O as xs d} hq hO bd w e:=by
  match as,e with
  | [a],e =>
   obtain⟨x,rfl,wx⟩:=dQ w;rw[qas] at e;obtain⟨ds,e1,rfl⟩:=e;obtain⟨t,ys,gd,e2,r,g1,g2⟩:=wx.sqAny hq hO e1;refine⟨⟨ia ys,gd⟩,by simp only[e2],rj 0 r,g1,fun z=>g2 ?_⟩;obtain⟨x',r',e3,a,_⟩:=z;cases e3;exact a
def iZ:OpI where
 k:=fun vs h1=>match vs with
  | [x,y]=>(match cy x h1,cy y h1 with
   | some (_,xs,g1),some (_,ys,g2)=>.ok ⟨eZ xs ys,g1++g2⟩ h1
   | _,_=>.bad)
  | _=>.bad
 p:=fun as=>match as with
  | [d,e]=>d.items.bind fun xs=>e.items.map fun ys=>g6 xs ys
  | _=>none
 ok {q h L O as xs d} hq hO bd w e:=by
  match as,e with
  | [a,b],e =>
   obtain⟨x,y,rfl,wx,wy⟩:=vws2 w;rw[qbh] at e;obtain⟨ds,e1,e⟩:=e;rw[qas] at e;obtain⟨es,e2,rfl⟩:=e;obtain⟨t,ys,gd,f2,r,g1,g2⟩:=wx.sqAny hq hO e1;obtain⟨t',ys',gd',f2',r',g1',g2'⟩:=wy.sqAny hq hO e2;refine⟨⟨eZ ys ys',gd++gd'⟩,by simp only[f2,f2'],mV r r',fun g hg=>?_,fun z g hg=>?_⟩
   ·rcases qbf.mp hg with z|z
    ·exact g1 g z
    ·exact g1' g z
   ·obtain⟨x',r',e3,a1,x2,r2,e4,a2,_⟩:=z;cases e3;cases e4;rcases qbf.mp hg with z|z
    ·exact g2 a1 g z
    ·exact g2' a2 g z
def jD(xs:List D)(lo hi:Option Int):List D:=(xs.drop (HT.sIx xs.length 0 lo)).take (HT.sIx xs.length xs.length hi - HT.sIx xs.length 0 lo)
def rS(lo hi:Option Int)(r:Rps q h O ds xs):Rps q h O (jD ds lo hi) (fK xs lo hi):=by
 unfold jD fK;rw[r.length];exact (r.drop _).take _
structure Xo (ws:List Nat) where
 m:Mx (Option Int)
 p:aD->Pen->PR (Option Int)
 ok:∀{q h L B O σ env s},Cx q h L B O ws σ env s->Ok q h (m σ h) (p env s) (fun _ a b=>a=b)
section
variable {ws:List Nat}
def xNo:Xo ws where
 m:=mNo
 p:=fun _ s=>.ok none s
 ok {q h L B O σ env s} c:=⟨none,h,rfl,KB.refl _ _,c.pen,rfl⟩
def xPt(e:Xe ws):Xo ws where
 m:=mPt e.m
 p:=fun env s=>(e.p env s).bind fun d s=>match d with
  | .int i=>.ok (some i) s
  | _=>.bad
 ok {q h L B O σ env s} c:=by
  refine (e.ok c).bind fun x v h1 s1 k1 p1 ⟨w,_,_⟩=>?_
  cases x with
  | int i=>rw[w.int];exact⟨some i,h1,rfl,KB.refl _ _,p1,rfl⟩
  | _=>trivial
def slD(d:D)(lo hi:Option Int):Option D:=match d with
 | .lst ds=>some (.lst (jD ds lo hi))
 | .tup ds=>if HT.sIx ds.length 0 lo=0/\HT.sIx ds.length ds.length hi=ds.length then none else some (.tup (jD ds lo hi))
 | _=>none
def sl_ok(bd:Bd h O)(w:Vw q h L O a x)(e:slD a lo hi=some d):Gv q h O true (fSl x lo hi h) d:=by
 cases a with
 | lst ds =>
  cases e;obtain⟨n,xs,rfl,g,r⟩:=w.lst;simp only[fSl,g];have r:=rS lo hi r;have m:Mv O h O (h++[MO.lst (fK xs lo hi)]):=⟨fun n hn _=>qal hn,fun o ho=>.inl ho⟩
  have m2:Mv O h (h.length::O) (h++[MO.lst (fK xs lo hi)]):=⟨fun n hn _=>qal hn,fun o ho=>by
   rcases qam.mp ho with z|z
   ·exact .inr (by ext)
   ·exact .inl z⟩
  have g:(h++[MO.lst (fK xs lo hi)])[h.length]?=some (.lst (fK xs lo hi)):=by simp
  exact⟨_,_,rfl,⟨_,_,rfl,fun z=>by have:=bd _ z;ext,g,r.mv m⟩,fun _ k ds' e=>by obtain⟨rfl,rfl⟩:=e9 e;exact⟨_,_,rfl,qak _,g,r.mv m2⟩⟩
 | tup ds =>
  unfold slD at e;dsimp only at e;by_cases z:HT.sIx ds.length 0 lo=0/\HT.sIx ds.length ds.length hi=ds.length
  ·rw[qan z] at e;cases e
  ·rw[qaz z] at e;cases e;obtain⟨xs,rfl,r⟩:=w.tup;simp only[fSl];rw[r.length,qaz z];exact gv0 ⟨_,rfl,rS lo hi r⟩ fun _ k _ e=>by cases k <;> cases e
 | _=>cases e
def xSl(a:Xe ws)(lo hi:Xo ws):Xe ws where
 m:=mSl a.m lo.m hi.m
 p:=fun env s=>(a.p env s).bind fun x s=>(lo.p env s).bind fun l s=>(hi.p env s).bind fun u s=>.of (slD x l u) s
 fz:=true
 fr:=true
 ok {q h L B O σ env s} c:=by
  refine (a.ok c).bind fun x v h1 s1 k1 p1 ⟨w,_,_⟩=>?_;have c1:=c.kb k1 p1;refine (lo.ok c1).bind fun l l' h2 s2 k2 p2 e=>?_;subst e;have c2:=c1.kb k2 p2;refine (hi.ok c2).bind fun u u' h3 s3 k3 p3 e=>?_;subst e;have c3:=c2.kb k3 p3
  cases e:slD x l u with
  | none=>trivial
  | some d =>
   obtain⟨y,g,e1,r,r'⟩:=sl_ok c3.bd ((w.kb k2 c.pO c.pL).kb k3 c.pO c.pL) e;exact give (qaJ (qaJ k1.len k2.len) k3.len) p3 ⟨y,g,by rw[e1];rfl,r,r'⟩
end
def aAppend:OpM where
 m:=fG
 p:=fun ds as=>match as with
  | [a]=>if ds.length<100000 then some (.non,ds++[a]) else none
  | _=>none
 ok {q h O n xs ds as vs d ds'} g r ra e:=by
  match as,e with
  | [a],e =>
   obtain⟨x,t,rfl,a,b⟩:=ra
   have:t=[]:=b
   subst this;dsimp only at e;by_cases z:ds.length<100000
   ·rw[qan z] at e;cases e;refine⟨.non,xs++[x],?_,r.app ⟨x,[],rfl,a,rfl⟩,rfl⟩;simp only[fG,g];rw[qan (by have:=eJ;rw[r.length];ext)]
   ·rw[qaz z] at e;cases e
def aInsert:OpM where
 m:=kJ
 p:=fun ds as=>match as with
  | [.int i,a]=>if (0<=i/\i<=100000)/\ds.length<100000 then some (.non,ds.take (min i.toNat ds.length)++a::ds.drop (min i.toNat ds.length)) else none
  | _=>none
 ok {q h O n xs ds as vs d ds'} g r ra e:=by
  match as,e with
  | [.int i,a],e =>
   obtain⟨x,t,rfl,hx,y,t',rfl,w,b⟩:=ra
   have:t'=[]:=b
   subst this;rw[show x=PV.int i from hx];dsimp only at e;by_cases z:(0<=i/\i<=100000)/\ds.length<100000
   ·rw[qan z] at e;cases e;refine⟨.non,j9 xs i y,?_,?_,rfl⟩
    ·simp only[kJ,g];rw[qan ⟨by ext,by have:=eJ;rw[r.length];ext⟩]
    ·unfold j9;rw[qaz (by ext),r.length];exact (r.take _).app ⟨y,_,rfl,w,r.drop _⟩
   ·rw[qaz z] at e;cases e
end
section
variable {ws:List Nat} {env:aD} {s:Pen}
@[simp] theorem ah{d:D}{r:aD}:(aa 0:Xe ws).p (some d::r) s=.ok d s:=rfl
@[simp] theorem ai{i:Nat}{o:Option D}{r:aD}:(aa (i+1):Xe ws).p (o::r) s=(aa i:Xe ws).p r s:=by simp[aa]
theorem xVar_at(e:env[i]?=some (some d)):(aa i:Xe ws).p env s=.ok d s:=by
 show (match env[i]? with | some (some d)=>PR.ok d s | _=>.bad)=_;rw[e]
@[simp] theorem aN:(xC k:Xe ws).p env s=.ok k.d s:=rfl
@[simp] theorem cn_non:Cn.non.d=.non:=rfl
@[simp] theorem cn_bl:(Cn.bl b).d=.bl b:=rfl
@[simp] theorem aE:(Cn.int b).d=.int b:=rfl
@[simp] theorem du:(Cn.str b).d=.str b:=rfl
@[simp] theorem aB:(af o a b).p env s=(a.p env s).bind fun x s1=>(b.p env s1).bind fun y s2=>.of (o.p x y) s2:=rfl
@[simp] theorem xUn_p:(xUn o a).p env s=(a.p env s).bind fun x s1=>.of (o.p x) s1:=rfl
@[simp] theorem aq:(xNil:Xs ws).p env s=.ok [] s:=rfl
@[simp] theorem al:(ac a r).p env s=(a.p env s).bind fun x s1=>(r.p env s1).bind fun y s2=>.ok (x::y) s2:=rfl
@[simp] theorem bV:(xCb o a).p env s=(a.p env s).bind fun x s1=>.of (o.p x) s1:=rfl
@[simp] theorem aF:(ak f a h).p env s=(a.p env s).bind f.p:=rfl
@[simp] theorem xLend_p:(oW f a h).p env s=((a.p env s).bind f.p).bind fun d s=>if lend d=true then .ok d s else .bad:=rfl
@[simp] theorem eA:(d5 a h).p env s=(a.p env s).bind fun x s1=>if x.length<=100000 then .ok (.lst x) s1 else .bad:=rfl
@[simp] theorem cK:(bO a h).p env s=(a.p env s).bind fun x s1=>if x.length<=100000 then .ok (.tup x) s1 else .bad:=rfl
@[simp] theorem xDic_p:(xDic:Xe ws).p env s=.ok (.dic false [] []) s:=rfl
@[simp] theorem ca:(xB a).p env s=(a.p env s).bl:=rfl
@[simp] theorem mS:(gp a).p env s=(a.p env s).bind fun b s=>.ok (!b) s:=rfl
@[simp] theorem rf:(xAnd a b).p env s=(a.p env s).bind fun x s=>if x=true then b.p env s else .ok false s:=rfl
@[simp] theorem xOr_p:(xOr a b).p env s=(a.p env s).bind fun x s=>if x=true then .ok true s else b.p env s:=rfl
@[simp] theorem xTrue_p:(xTrue:Xt ws).p env s=.ok true s:=rfl
@[simp] theorem kq:(ir a b).p env s=(a.p env s).bl.bind fun x s=>if x=true then (b.p env s).bl.bind fun y s=>.ok (.bl y) s else .ok (.bl false) s:=rfl
@[simp] theorem xNotV_p:(o5 a).p env s=(a.p env s).bl.bind fun x s=>.ok (.bl (!x)) s:=rfl
@[simp] theorem xIfE_p:(mY t a b z h).p env s=(t.p env s).bind fun x s=>if x=true then a.p env s else b.p env s:=rfl
@[simp] theorem bP:(bh o a).p env s=(a.p env s).bind fun x s1=>.of (o.p x) s1:=rfl
@[simp] theorem cH:(cA a).p env s=(a.p env s).bind fun x s1=>.of x.items s1:=rfl
@[simp] theorem xNm_p{i:Nat}{h:ws.contains i=false}{d:D}:(xNm i h).p d env=some (env.set i (some d)):=rfl
@[simp] theorem xGl_p:(xGl:Xgs ws).p [] env=some env:=rfl
@[simp] theorem xGc_p:(xGc a t).p (d::ds) env=(a.p d env).bind fun env1=>t.p ds env1:=rfl
@[simp] theorem xGp_p:(xGp t n).p (.tup ds) env=if ds.length=n then t.p ds env else none:=rfl
@[simp] theorem kF{nv:Nat}{fm:List Nat}{i:Xi ws}{ws':List Nat}{g:Xg ws'}{t:Xt ws'}{e:Xe ws'}{hw:cws nv fm ws=ws'}{hz:e.fz=true}:(ba nv fm i g t e hw hz).p env s=(i.p env s).bind fun ds s1=>if ds.length<=100000 then (match cP g.p t.p e.p ds (cenv nv fm env) s1 with
  | .ok r s2=>.ok (.lst r) s2
  | _=>.bad) else .bad:=rfl
@[simp] theorem xNo_p:(xNo:Xo ws).p env s=.ok none s:=rfl
@[simp] theorem xPt_p:(xPt e).p env s=(e.p env s).bind fun d s=>match d with
  | .int i=>.ok (some i) s
  | _=>.bad:=rfl
@[simp] theorem xSl_p:(xSl a lo hi).p env s=(a.p env s).bind fun x s=>(lo.p env s).bind fun l s=>(hi.p env s).bind fun u s=>.of (slD x l u) s:=rfl
@[simp] theorem aA:(az a b).p env s=(a.p env s).then b.p:=rfl
@[simp] theorem bD:(xSkip:Xd ws).p env s=.nx env s:=rfl
@[simp] theorem bH:(aZ e).p env s=(e.p env s).go env fun d _ s=>.rt d s:=rfl
theorem kg{i:Nat}{h:ws.contains i=true}{d:D}(e:env[i]?=some (some d)):(jA i h).p env s=.rt d s:=by
 show (match env[i]? with | some (some d)=>PS.rt d s | _=>.bad)=_;rw[e]
@[simp] theorem bE:(xIf t a b).p env s=(t.p env s).go env fun x env s=>if x=true then a.p env s else b.p env s:=rfl
@[simp] theorem aS:(aL i e hi hz).p env s=(e.p env s).go env fun d env s=>.nx (env.set i (some d)) s:=rfl
@[simp] theorem f8:(D.lst ds).mine=true:=rfl
@[simp] theorem mine_d:(D.dic false ks ds).mine=true:=rfl
@[simp] theorem dS{hi hz}:(c7 i e hi hz:Xd ws).p env s=(e.p env s).go env fun d env s=>if d.mine=true then .nx (env.set i (some d)) s else .bad:=rfl
@[simp] theorem cV:(dg i g b hz).p env s=(i.p env s).go env fun ds env s=>pGo g.p b.p ds env s:=rfl
@[simp] theorem xMt_p:(xMt o i a hi hz).p env s=pMt o i a.p env s fun _=>.nx:=rfl
@[simp] theorem qC:(i6 i e ix hi hz).p env s=eI i e.p ix.p env s:=rfl
theorem bq{hw}(hl:ds.length=np):(bR n np b hw).p ds s=(b.p (dSt n ds) s).fin:=by
 show (if ds.length=np then _ else _)=_;rw[qan hl]
variable {i j:Int} {b:Bool} {x y:List D}
@[simp] theorem dy:cL.p (.int i) (.int j)=some (.int (i+j)):=rfl
theorem sI(h:x.length+y.length<=100000):cL.p (.lst x) (.lst y)=some (.lst (x++y)):=by
 show (if x.length+y.length<=100000 then _ else _)=_;rw[qan h]
@[simp] theorem ku:i4.p (.int i) (.int j)=some (.int (i - j)):=rfl
@[simp] theorem oLt_ii:oLt.p (.int i) (.int j)=some (.bl (decide (i<j))):=rfl
@[simp] theorem oGt_ii:oGt.p (.int i) (.int j)=some (.bl (decide (j<i))):=rfl
@[simp] theorem cq:oIx.p (.lst x) (.int j)=atI x j:=rfl
@[simp] theorem bg:oIx.p (.tup x) (.int j)=atI x j:=rfl
theorem oMod_ii(h:j≠0):jX.p (.int i) (.int j)=some (.int (i.fmod j)):=by
 show (if j≠0 then _ else _)=_;rw[qan h]
@[simp] theorem oIsi_p:(nJ Ts).p d=(tyD d).map fun t=>.bl (Ts.any (g9 t)):=rfl
@[simp] theorem ty_non:tyD .non=some "NoneType":=rfl
@[simp] theorem ty_bl:tyD (.bl b)=some "bool":=rfl
@[simp] theorem ty_int:tyD (.int i)=some "int":=rfl
@[simp] theorem ty_str:tyD (.str z)=some "str":=rfl
@[simp] theorem ty_tup:tyD (.tup x)=some "tuple":=rfl
@[simp] theorem ty_lst:tyD (.lst x)=some "list":=rfl
@[simp] theorem ty_dic:tyD (.dic fz ks es)=some "dict":=rfl
@[simp] theorem vx:nr.p [.bl b]=some (.int (if b then 1 else 0)):=rfl
@[simp] theorem cInt_i:nr.p [.int i]=some (.int i):=rfl
@[simp] theorem fY:dD.p [.lst x]=some (.int x.length):=rfl
@[simp] theorem cLen_t:dD.p [.tup x]=some (.int x.length):=rfl
theorem m9(h:x.length<=100000):gr.p [.lst x]=some (.lst x):=by
 show (if x.length<=100000 then _ else _)=_;rw[qan h]
@[simp] theorem pr:iT.p [.lst x]=some (.tup x):=rfl
@[simp] theorem cTuple_t:iT.p [.tup x]=some (.tup x):=rfl
theorem cLR_i(h:-100000<=i/\i<=100000):cLR.p [.int i]=some (.lst (d4 0 i.toNat)):=by
 show (if _ then _ else _)=_;rw[qan h]
def dX(h:-100000<=i/\i<=100000):iR1.p [.int i]=some (d4 0 i.toNat):=by
 show (if _ then _ else _)=_;rw[qan h]
@[simp] theorem iE_l:iE.p [.lst x]=some (oS x):=rfl
@[simp] theorem kr:iZ.p [.lst x,.lst y]=some (g6 x y):=rfl
@[simp] theorem iZ_tt:iZ.p [.tup x,.tup y]=some (g6 x y):=rfl
@[simp] theorem slD_l:slD (.lst x) lo hi=some (.lst (jD x lo hi)):=rfl
theorem n5(h:x.length<100000):aAppend.p x [a]=some (.non,x++[a]):=by
 show (if _ then _ else _)=_;rw[qan h]
def vy{a:D}{i:Nat}(h:i<=x.length)(hl:x.length<100000):aInsert.p x [.int i,a]=some (.non,x.take i++a::x.drop i):=by
 show (if _ then _ else _)=_;rw[qan ⟨by ext,hl⟩,qaG,Nat.min_eq_left h]
end
section
variable {i j:Int} {b c:Bool}
def ii(h1:x.canLay0=true)(h2:x.depth<=64):SeqAt.shaped x=true:=by simp[SeqAt.shaped,h1,h2]
@[simp] theorem c8:eqD neg (.int i) (.int j)=some (.bl (if neg then !decide (i=j) else decide (i=j))):=by
 simp[eqD,py,dep,SeqAt.shaped,PyData.canLay0,PyData.depth,PyData.eqv,qbw]
@[simp] theorem eqD_bb:eqD neg (.bl b) (.bl c)=some (.bl (if neg then !(b == c) else b == c)):=by
 simp[eqD,py,dep,SeqAt.shaped,PyData.canLay0,PyData.depth,PyData.eqv]
@[simp] theorem cE:oEq.p a d=eqD false a d:=rfl
@[simp] theorem ie:oNe.p a d=eqD true a d:=rfl
theorem kX:∀(k k':List Int),PyData.eqvAll (k.map .int) (k'.map .int)=decide (k=k')
 | [],[]=>by simp[PyData.eqvAll]
 | [],_::_=>by simp[PyData.eqvAll]
 | _::_,[]=>by simp[PyData.eqvAll]
 | a::k,b::k'=>by
  simp only[qao,PyData.eqvAll,PyData.eqv,kX k k',qbw];by_cases z:a=b <;> simp[z]
end
@[simp] theorem pGo_nil:pGo g b [] env s=.nx env s:=rfl
theorem eK(e:g d env=some env1):pGo g b (d::ds) env s=(b env1 s).turn (pGo g b ds):=by
 rw[pGo,e]
def dZ(I:Nat->aD->Pen->Prop):∀(ds:List D) (j:Nat) (env:aD) (s:Pen),I j env s ->
  (∀m env s d,I (j+m) env s->ds[m]?=some d->∃env1 env' s',g d env=some env1/\b env1 s=.nx env' s'/\I (j+m+1) env' s')->∃env' s',pGo g b ds env s=.nx env' s'/\I (j+ds.length) env' s'
 | [],j,env,s,hI,_=>⟨env,s,rfl,hI⟩
 | d::ds,j,env,s,hI,st=>by
  obtain⟨env1,env2,s2,e1,e2,I2⟩:=st 0 env s d hI rfl;obtain⟨env3,s3,e3,I3⟩:=dZ I ds (j+1) env2 s2 I2 fun m env' s' x q z=>by
   have:=st (m+1) env' s' x (by rw[show j+(m+1)=j+1+m by lia];exact q) (by simpa using z)
   rw[show j+(m+1)+1=j+1+m+1 by lia] at this;exact this
  refine⟨env3,s3,?_,by rw[qaA,show j+(ds.length+1)=j+1+ds.length by lia];exact I3⟩;rw[eK e1,e2];exact e3
end PU
namespace PU
open PySem MM SetT SortT
open L2 (ixN atI fH)
def bu{α:Type}(l:List α):(l.filter fun _=>true)=l:=List.filter_eq_self.mpr (by simp)
def pJ(h:0<=i):∃n:Nat,i=(n:Int):=⟨i.toNat,by lia⟩
end PU
namespace PU
open PySem MM SetT SortT
open L2 (ixN atI fH)
local instance (priority:=1) cdecN10 (p:Prop):Decidable p:=Classical.propDecidable p
noncomputable section
def jZ:D->Option Bool
 | .non=>some false
 | .bl b=>some b
 | .int i=>some (i != 0)
 | .tup xs=>some (!xs.isEmpty)
 | .lst xs=>some (!xs.isEmpty)
 | _=>none
def Rps.empty(r:Rps p h O ds vs):vs.isEmpty=ds.isEmpty:=by
 cases ds with
 | nil=>rw[show vs=[] from r];rfl
 | cons d ds=>obtain⟨x,t,e,_⟩:=r;rw[e];rfl
def qG(w:Vw q h L O d v)(e:jZ d=some b):ln h v=some b:=by
 cases d with
 | non=>cases e;rw[w.non];rfl
 | bl c=>cases e;rw[w.bl];rfl
 | int c=>cases e;rw[w.int];rfl
 | tup c=>cases e;obtain⟨xs,rfl,r⟩:=w.tup;rw[ln,r.empty]
 | lst c=>cases e;obtain⟨n,xs,rfl,g,r⟩:=w.lst;simp only[ln,g];rw[r.empty]
 | _=>cases e
section
variable {ws:List Nat}
def xTr(a:Xe ws):Xt ws where
 m:=mTr a.m
 p:=fun env s=>(a.p env s).bind fun d s=>.of (jZ d) s
 ok {q h L B O σ env s} c:=by
  refine (a.ok c).bind fun x v h1 s1 k1 p1 ⟨w,_,_⟩=>?_
  cases e:jZ x with
  | none=>trivial
  | some b=>rw[qG w e];exact⟨b,h1,rfl,KB.refl _ _,p1,rfl⟩
structure OpR where
 m:Nat->List PV->MH->Out PV
 p:List D->List D->Option D
 ok:∀{q:Nat} {h:MH} {L:Nat} {O:List Nat} {n:Nat} {xs:List PV} {ds as:List D} {vs:List PV} {d:D},h[n]?=some (.lst xs)->Rps q h O ds xs->Vws q h L O as vs->p ds as=some d->∃v,m n vs h=.ok v h/\Rp q h O d v/\∀k es,d≠dl k es
def xMr(o:OpR)(a:Xe ws)(as:Xs ws):Xe ws where
 m:=mMt o.m a.m as.m
 p:=fun env s=>(a.p env s).bind fun x s1=>match x with
  | .lst ds=>(as.p env s1).bind fun y s2=>.of (o.p ds y) s2
  | _=>.bad
 fz:=true
 fr:=true
 ok {q h L B O σ env s} c:=by
  refine (a.ok c).bind fun x v h1 s1 k1 p1 ⟨w,_,_⟩=>?_
  cases x with
  | lst ds =>
   have c1:=c.kb k1 p1;obtain⟨n,xs,rfl,g,r⟩:=w.lst;dsimp only;rw[g];refine (as.ok c1).bind fun y vs h2 s2 k2 p2 ⟨w2,_⟩=>?_;have nq:n≠q:=by
    rcases w with ⟨n',xs',e,no,_⟩|⟨n',kd,xs',ds',_,e,_,hn,_⟩
    ·cases e;exact fun z=>no (z▸c.pO)
    ·cases e;have:=c.pL;lia
   have g2:h2[n]?=some (.lst xs):=(k2.keep n (bo g) nq).trans g
   cases e:o.p ds y with
   | none=>trivial
   | some d =>
    obtain⟨u,e1,ru,nl⟩:=o.ok g2 (r.mv (k2.mv c.pO)) w2 e;exact⟨u,h2,by rw[e1];rfl,KB.refl _ _,p2,.inl ru,fun _=>ru,fun _ k es ee=>absurd ee (nl k es)⟩
  | _=>trivial
end
def jU:OpR where
 m:=gN
 p:=fun ds as=>match as with
  | [.int k]=>(iw ds).bind fun ns=>(jk k ns).map fun (j:Nat)=>.int (j:Int)
  | _=>none
 ok {q h L O n xs ds as vs d} g r w e:=by
  match as,e with
  | [.int k],e =>
   obtain⟨x,rfl,wx⟩:=dQ w;rw[wx.int];rw[qbh] at e;obtain⟨ns,e1,e2⟩:=e;rw[qas] at e2;obtain⟨j,e3,rfl⟩:=e2;refine⟨.int j,?_,rfl,fun k _ z=>by cases k <;> cases z⟩;simp only[gN,g,pA r e1,om,e3]
section
variable {ws:List Nat} {env:aD} {s:Pen}
@[simp] theorem uq:(xTr a).p env s=(a.p env s).bind fun d s=>.of (jZ d) s:=rfl
@[simp] theorem xMr_p:(xMr o a as).p env s=(a.p env s).bind fun x s1=>match x with
  | .lst ds=>(as.p env s1).bind fun y s2=>.of (o.p ds y) s2
  | _=>.bad:=rfl
end
end
noncomputable section
section
variable {ws:List Nat}
def nG(i j:Nat)(a:Xs ws)(hi:ws.contains i=false:=by exact ys rfl)(hj:ws.contains j=false:=by exact ys rfl)(hz:a.fz=true:=by exact ys rfl):Xd ws where
 m:=mPar i j a.m
 p:=fun env s=>(a.p env s).go env fun ds env s=>match ds with
  | [x,y]=>.nx ((env.set i (some x)).set j (some y)) s
  | _=>.bad
 fr:=true
 ok {q h L B O σ env s} c d:=by
  refine SOk.ex (f:=fun vs σ h=>match vs with | [v,w]=>.nx ((σ.set i (some v)).set j (some w)) h | _=>.bad) (g:=fun ds env s=>match ds with | [x,y]=>.nx ((env.set i (some x)).set j (some y)) s | _=>.bad) c d (a.ok c) fun xs vs h1 s1 kb c1 ⟨_,z⟩=>?_;have z:=z hz
  match xs,z with
  | [],_=>trivial
  | [_],_=>trivial
  | [x,y],z =>
   obtain⟨v,t,rfl,rv,t2⟩:=z;obtain⟨w,t3,rfl,rw',rfl⟩:=t2;obtain⟨a1,b1⟩:=c1.sr.set (i:=i) (fun z=>by simp[z] at hi) rv;obtain⟨a2,b2⟩:=a1.set (i:=j) (fun z=>by simp[z] at hj) rw';exact⟨_,h1,rfl,O,Stp.refl _ _ _ _,⟨c1.bd,c1.sub,c1.bb,c1.pb,c1.hL,c1.pen,a2⟩,(d.keep b1).keep b2⟩
  | _::_::_::_,_=>trivial
variable {env:aD} {s:Pen}
@[simp] theorem xPar_p:(nG i j a hi hj hz).p env s=(a.p env s).go env fun ds env s=>match ds with
  | [x,y]=>.nx ((env.set i (some x)).set j (some y)) s
  | _=>.bad:=rfl
end
end
noncomputable section
def iQ:List D->Option (List (Int × D))
 | []=>some []
 | .tup [.int k,v]::r=>(iQ r).map ((k,v)::·)
 | _=>none
def dgD(x:D):Option (List (Int × D)):=match x with
 | .tup ps=>(match iQ ps with
  | some kvs=>if (kvs.map (·.1)).Nodup then some kvs else none
  | none=>none)
 | _=>none
def Rkv(q:Nat)(h:MH)(O:List Nat):List (Int × D)->List (Int × PV)->Prop
 | [],r=>r=[]
 | a::t,r=>∃b u,r=b::u/\a.1=b.1/\Rp q h O a.2 b.2/\Rkv q h O t u
def uX:∀{ds:List D} {xs:List PV} {kvs:List (Int × D)},Rps q h O ds xs->iQ ds=some kvs->∃ks,g7 xs=some ks/\Rkv q h O kvs ks:=by
 intro ds
 induction ds with
 | nil=>intro xs kvs r e;rw[show xs=[] from r];cases e;exact⟨[],rfl,rfl⟩
 | cons d ds ih =>
  intro xs kvs r e;obtain⟨x,t,rfl,r1,r2⟩:=r;unfold iQ at e
  split at e
  ·rename_i z;cases z
  ·rename_i k0 v0 r0 z
   injection z with z1 z2
   subst z1 z2;rw[qas] at e;obtain⟨kvs',e1,rfl⟩:=e;obtain⟨ks,e2,e3⟩:=ih r2 e1;obtain⟨us,rfl,a,us1,rfl,ra,b,us2,rfl,rb,rfl⟩:=r1;rw[show a=PV.int k0 from ra];exact⟨(k0,b)::ks,by unfold g7;rw[e2];rfl,_,_,rfl,rfl,rb,e3⟩
  ·cases e
def Rkv.keys:∀{kvs:List (Int × D)} {ks:List (Int × PV)},Rkv q h O kvs ks->ks.map (·.1)=kvs.map (·.1)
 | [],_,r=>by rw[show _=[] from r];rfl
 | a::t,_,⟨b,u,e,e1,_,r⟩=>by rw[e,qao,qao,e1,Rkv.keys r]
def dg_inv(r:Rp q h O x v)(e:dgD x=some kvs):∃ks,dgP v=some ks/\Rkv q h O kvs ks:=by
 unfold dgD at e
 split at e
 ·rename_i ps
  split at e
  ·rename_i kvs' ep
   split at e
   ·rename_i nd
    cases e;obtain⟨xs,rfl,r⟩:=r;obtain⟨ks,e1,e2⟩:=uX r ep;refine⟨ks,?_,e2⟩;simp only[dgP,e1];rw[qan (by rw[e2.keys];exact nd)]
   ·cases e
  ·cases e
 ·cases e
section
variable {ws:List Nat}
def xCT(i j:Int):Xe ws where
 m:=mC (.tup [.int i,.int j])
 p:=fun _ s=>.ok (.tup [.int i,.int j]) s
 fz:=true
 fr:=true
 ok {q h L B O σ env s} c:=by
  have r:Rp q h O (.tup [.int i,.int j]) (.tup [.int i,.int j]):=⟨_,rfl,_,_,rfl,rfl,_,_,rfl,rfl,rfl⟩;exact⟨_,h,rfl,KB.refl _ _,c.pen,.inl r,fun _=>r,fun _ k ds e=>by cases k <;> cases e⟩
end
end
noncomputable section
variable {ws:List Nat}
end
end PU
namespace MM
open PySem PySem.Spec PyProof.Rows L2
def mBad:Mst:=fun _ _=>.bad
def ms_bad{X:Cx}{st:Stmt}:MS X st mBad:=fun Il s σ H D I ⟨ρ,σp,h,rs,rh,q⟩=>q.elim
end MM
namespace PU
open PySem MM
def xBad{ws:List Nat}:Xd ws where
 m:=mBad
 p:=fun _ _=>.bad
 fr:=true
 ok _ _:=trivial
end PU
namespace MM
open PySem PySem.Spec PyProof.Rows L2
abbrev CPm(scope sc:Scope)(vars frees:List Str):Prop:=(∀y∈scope.names,y.2=.cell->scope.names.lookup y.1=some .cell)/\(∀y∈scope.names,y.2=.local->scope.names.lookup y.1=some .local)/\(∀x∈vars,scope.names.lookup x=some .local\/scope.names.lookup x=some .cell)/\(∀x∈frees,scope.names.lookup x=some .free)/\(∀y∈scope.names,y.2=.free->y.1∈frees)/\(∀x∈frees,sc.names.lookup x=some .cell)
def rlb(scope sc:Scope):Scope:={ scope with names:=scope.names.map fun (n,k)=>if (k == .free && sc.kind == .function && sc.names.lookup n == some .cell) then (n,.cell) else (n,k)}
def vp{scope sc:Scope}{env:Env}(h:env.scope=sc):relabel scope env=rlb scope sc:=by subst h;rfl
def kx{X:Cx}{N:List Str}{scope sc:Scope}{vars frees:List Str}{fm:List Nat}(hsc:X.env.scope=sc)(h1:scope.kind=.function)(h7:fm.map (fun i=>N[i]?)=frees.map some)(h:CPm scope sc vars frees):CompOk X N scope vars frees fm :=
 compOk hsc h1 h.1 h.2.1 h.2.2.1 h.2.2.2.1 h.2.2.2.2.1 h7 h.2.2.2.2.2
def ar1{Q:List Value->Prop}(h:∀a0,Q [a0]):∀us,us.length=1->Q us
 | [_],_=>h _
def ar2{Q:List Value->Prop}(h:∀a0 a1,Q [a0,a1]):∀us,us.length=2->Q us
 | [_,_],_=>h _ _
def ar3{Q:List Value->Prop}(h:∀a0 a1 a2,Q [a0,a1,a2]):∀us,us.length=3->Q us
 | [_,_,_],_=>h _ _ _
def ar4{Q:List Value->Prop}(h:∀a0 a1 a2 a3,Q [a0,a1,a2,a3]):∀us,us.length=4->Q us
 | [_,_,_,_],_=>h _ _ _ _
abbrev Zn(K:qab)(x:Str):Prop:=PySem.W.nsIn K mainGlobals x=some none
abbrev Nn(X:Cx)(x:Str):Prop:=X.mg x=none
abbrev Sc(X:Cx)(s:Stmt):Prop:=X.env.scope=av s
abbrev Gd(X:Cx)(N G:List Str)(k:Nat):Prop:=Good X N N G k
structure Ba (P:Program) (w:World) (K:qab) (mg:Str->Option Value) (base:Heap):Prop where
 kin:K.In base
 ns:base.Ns mainGlobals mg
structure EE (X:Cx) (P:Program) (w:World) (K:qab) (mg:Str->Option Value) (base:Heap):Prop where
 e1:X.prog=P
 e2:X.w=w
 e3:X.K=K
 e4:X.mg=mg
 e5:X.base=base
 b:Ba P w K mg base
section
variable {P:Program} {w:World} {K:qab} {mg:Str→Option Value} {base:Heap} {X:Cx}
def EE.n(e:EE X P w K mg base){x:Str}(z:Zn K x):Nn X x:=by
 show X.mg x=none;rw[e.e4];exact PySem.W.mg_none_of e.b.kin e.b.ns z
def FnAt.c{x:Str}{ps:List Str}{F:List PV->MH->Out PV}{i j:Nat}(a:FnAt P w K mg base x ps F i)(e:EE X P w K mg base)(h:i<=j:=by decide):Cal X x ps F j :=
 (a.mono h).cal e.e1 e.e2 e.e3 e.e4 e.e5
def fnN{x:Str}{st:Stmt}{N G ps:List Str}{m:Mst}{k:Nat}(b:Ba P w K mg base)(D:DefAt K x st)(hb:∀X:Cx,EE X P w K mg base->Sc X st->Gd X N G k->DefCx X->MSs X (aK st) m)
  (B:iY x st ps:=by first | exact fun _ _ _ _ _ _=>ar1 fun _=>rfl | exact fun _ _ _ _ _ _=>ar2 fun _ _=>rfl | exact fun _ _ _ _ _ _=>ar3 fun _ _ _=>rfl | exact fun _ _ _ _ _ _=>ar4 fun _ _ _ _=>rfl | exact fun _ _ _ _ _ _=>ar5 fun _ _ _ _ _=>rfl)
  (S:FnScope N ps (av st):=by exact⟨rfl,rfl,rfl,by decide +kernel,rfl,by decide +kernel,by decide +kernel⟩)
  (hl:∀y∈N,(av st).names.lookup y=some .local\/(av st).names.lookup y=some .cell:=by decide +kernel) (hgl:∀y∈G,(av st).names.lookup y=some .globalImplicit:=by decide +kernel)
  (dbg:∀x∈N++G,(x == ("__debug__":Str))=false/\(x == ("__classdict__":Str))=false/\x≠"__name__":=by decide +kernel) :
  FnAt P w K mg base x ps (eM N.length ps.length m) (k+1) :=
 uV b.kin b.ns D S B hl hgl dbg fun X e1 e2 e3 e4 e5 e6 g dc=>hb X ⟨e1,e2,e3,e4,e5,b⟩ e6 g dc
end
structure YE (Y X:Cx):Prop where
 e1:Y.prog=X.prog
 e2:Y.w=X.w
 e3:Y.K=X.K
 e4:Y.mg=X.mg
 e5:Y.base=X.base
section
variable {X Y:Cx} {N W G:List Str} {k:Nat} {x:Str} {p pos:Pos} {e:Expr} {es:List Expr} {m:Mx (List PV)} {f:List PV→MH→Out PV}
def YE.c(y:YE Y X){ps:List Str}{F:List PV->MH->Out PV}{i:Nat}(c:Cal X x ps F i):Cal Y x ps F i:=c.at y.e1 y.e2 y.e3 y.e4 y.e5
def kV(g:Good X N W G k)(i:Nat)(hi:N[i]?=some x:=by rfl):ME X (.Name x pos) (ag i):=wo g i hi
def kNm(g:Good X N W G k)(i:Nat)(hi:N[i]?=some x:=by rfl)(hw:W[i]?=some x:=by rfl):MG X (.Name x pos) (gNm i):=tP g i hi hw
def kSw{sc:Scope}(g:Good X N W G k)(hsc:X.env.scope=sc)(i:Nat){e:Expr}{m:Mx PV}{pos':Pos}(he:ME X e m)(hi:N[i]?=some x:=by rfl)(hw:W[i]?=some x:=by rfl)(hs:∀env:Env,env.scope=sc->swapsWith e (some (.Name x pos')) pos.line env=pure false:=by (intro env h;cases env;cases h;rfl)) :
  MS X (.Assign [.Name x pos'] e pos) (aP i m):=jP g i hi hw he (hs X.env hsc)
def kIx{a b:Expr}{ma mb:Mx PV}(ha:ME X a ma)(hb:ME X b mb)(hs:iS b:=by exact fun _ _=>rfl):ME X (.Subscript a b pos) (aj aH ma mb):=me_ix ha hb hs
def kTc{op:CmpOp}{f:PV->PV->MH->Out PV}{a b:Expr}{ma mb:Mx PV}(ho:OpJ X (compareOp op) f)(ha:ME X a ma)(hb:ME X b mb)(hm:behindInMarks op b=false:=by first | exact nomark _ | rfl):MT X (.Compare a [op] [b] pos) (mB (aj f ma mb)):=u7 ho ha hb hm
def kCa(g:Good X N W G k)(j:Nat){ps:List Str}{F:List PV->MH->Out PV}(C:Cal X x ps F k)(ha:MA X (e::es) m)(hj:G[j]?=some x:=by rfl)
  (he:starEach (e::es) X.env=(false,eval e X.env)::starEach es X.env:=by rfl) (hpl:(backTo pos (starEach es X.env)).any (·.1)=false:=by rfl):ME X (.Call (.Name x p) (e::es) [] pos) (aM F m):=tE g hj C ha he hpl
def kCb{id:String}(g:Good X N W G k)(j:Nat)(hc:cO X (.builtin id) f)(hm:X.mg x=none)(hv:bootBuiltins x=some (.builtin id))(ha:MA X (e::es) m)(hj:G[j]?=some x:=by rfl)
  (he:starEach (e::es) X.env=(false,eval e X.env)::starEach es X.env:=by rfl) (hpl:(backTo pos (starEach es X.env)).any (·.1)=false:=by rfl):ME X (.Call (.Name x p) (e::es) [] pos) (mCB f m):=pE g j hj hc hm hv ha he hpl
def kCt{T:String}(g:Good X N W G k)(j:Nat)(hc:cO X (.type T) f)(hm:X.mg x=none)(hv:bootBuiltins x=some (.type T))(ha:MA X (e::es) m)(hj:G[j]?=some x:=by rfl)
  (he:starEach (e::es) X.env=(false,eval e X.env)::starEach es X.env:=by rfl) (hpl:(backTo pos (starEach es X.env)).any (·.1)=false:=by rfl):ME X (.Call (.Name x p) (e::es) [] pos) (mCB f m):=nW g j hj hc hm hv ha he hpl
def kR1{tg a:Expr}(g:Good X N W G k)(j:Nat)(hm:X.mg "range"=none)(ha:MA X [a] m)(hj:G[j]?=some "range":=by rfl)(hs:starEach [a] X.env=[(false,eval a X.env)]:=by rfl):MI X tg (.Call (.Name "range" p) [a] [] pos) (fj m):=nP (g.gl _ (bn hj)) hm ha hs
section
variable {tg iter elt:Expr} {ifs:List Expr} {scope sc:Scope} {mi:Mx MIt} {gt:Mg} {mt:Mx Bool} {me:Mx PV}
def kCp(g:Good X N W G k)(hsc:X.env.scope=sc)(vars frees G':List Str)(fm:List Nat)(hi:MI X tg iter mi)(hY:∀Y:Cx,YE Y X->Good Y (vars++frees) vars G' k->MG Y tg gt/\MTs Y ifs mt/\ME Y elt me)
  (h1:scope.kind=.function:=by rfl) (h7:fm.map (fun i=>N[i]?)=frees.map some:=by rfl) (h:CPm scope sc vars frees:=by decide +kernel)
  (nd:(vars++frees).Nodup:=by decide +kernel) (hgl:∀x∈G',scope.names.lookup x=some .globalImplicit:=by decide +kernel) (dbg:∀x∈(vars++frees)++G',(x == ("__debug__":Str))=false/\(x == ("__classdict__":Str))=false/\x≠"__name__":=by decide +kernel)
  (hs:∀x,foldedSetIterable iter X.env x=pure x:=by exact fun _=>rfl):ME X (.ListComp elt [⟨tg,iter,ifs,0⟩] scope pos) (cU vars.length fm mi gt mt me) :=
 sG g (kx hsc h1 h7 h) nd hgl dbg hi (fun Y y1 y2 y3 y4 y5 _ g=>hY Y ⟨y1,y2,y3,y4,y5⟩ g) hs
def kSc{spos py:Pos}{y:Str}(g:Good X N W G k)(hsc:X.env.scope=sc)(i:Nat)(vars frees G':List Str)(fm:List Nat)(hi:MI X tg iter mi)(hY:∀Y:Cx,YE Y X->Good Y (vars++frees) vars G' k->MG Y tg gt/\MTs Y ifs mt/\ME Y elt me)
  (hsw:∀env:Env,env.scope=sc->swapsWith (.ListComp elt [⟨tg,iter,ifs,0⟩] scope pos) (some (.Name y py)) spos.line env=pure true:=by (intro env h;cases env;cases h;rfl))
  (hyi:N[i]?=some y:=by rfl) (hw:W[i]?=some y:=by rfl)
  (h1:scope.kind=.function:=by rfl) (h7:fm.map (fun i=>N[i]?)=frees.map some:=by rfl) (h:CPm scope sc vars frees:=by decide +kernel)
  (nd:(vars++frees).Nodup:=by decide +kernel) (hgl:∀x∈G',scope.names.lookup x=some .globalImplicit:=by decide +kernel) (dbg:∀x∈(vars++frees)++G',(x == ("__debug__":Str))=false/\(x == ("__classdict__":Str))=false/\x≠"__name__":=by decide +kernel)
  (hs:∀x,foldedSetIterable iter X.env x=pure x:=by exact fun _=>rfl):MS X (.Assign [.Name y py] (.ListComp elt [⟨tg,iter,ifs,0⟩] scope pos) spos) (aP i (cU vars.length fm mi gt mt me)) :=
 sA g i hyi hw (hsw X.env hsc) (kx hsc h1 h7 h) nd hgl dbg hi (fun Y y1 y2 y3 y4 y5 _ g=>hY Y ⟨y1,y2,y3,y4,y5⟩ g) hs
end
end
abbrev qf:=@PyProof.Rows.Boot.«abs»
abbrev vH:=@PyProof.Rows.Boot.«min»
abbrev vX:=@PyProof.Rows.Boot.«int»
abbrev gf:=@PyProof.Rows.Boot.«len»
abbrev kH:=@PyProof.Rows.Boot.«list»
abbrev qe:=@PyProof.Rows.Boot.«tuple»
abbrev bt_all:=@PyProof.Rows.Boot.«all»
abbrev vD:=@PyProof.Rows.Boot.«sorted»
abbrev bt_bool:=@PyProof.Rows.Boot.«bool»
abbrev bt_dict:=@PyProof.Rows.Boot.«dict»
abbrev oA:=@PySem.F.slot_list_append
abbrev oE:=@PySem.F.type_list_append
abbrev sl_pop:=@PySem.F.slot_list_pop
abbrev sy_pop:=@PySem.F.type_list_pop
abbrev u6:=@PySem.F.slot_list_insert
abbrev uZ:=@PySem.F.type_list_insert
abbrev yb:=@PySem.F.slot_list_index
abbrev xR:=@PySem.F.type_list_index
end MM
namespace PU
open PySem MM
open L2 (ixN atI fH)
local instance (priority:=1) cdecN15 (p:Prop):Decidable p:=Classical.propDecidable p
noncomputable section
section
variable {ws:List Nat}
end
end
noncomputable section
end
noncomputable section
end
end PU
namespace PU
open PySem MM
open L2 (ixN atI fH)
section
variable {ws:List Nat}
end
end PU
namespace PU
open PySem MM L2
def xFz{ws ws':List Nat}(i:Nat)(b:Xd ws')(hi:ws.contains i=true:=by exact ys rfl)(hw:ws.filter (· != i)=ws':=by exact ys rfl):Xd ws where
 m:=b.m
 p:=fun env s=>match env[i]? with
  | some (some _)=>(match b.p env s with | .rt d s=>.rt d s | _=>.bad)
  | _=>.bad
 fr:=b.fr
 ok {q h L B O σ env s} c d:=by
  show SOk q L h B O ws b.fr (b.m σ h) (match env[i]? with | some (some _)=>(match b.p env s with | .rt d s=>PS.rt d s | _=>.bad) | _=>.bad)
  cases e:env[i]? with
  | none=>trivial
  | some o =>
   cases o with
   | none=>trivial
   | some x =>
    have hi':i∈ws:=by simpa using hi
    obtain⟨n,kd,xs,ds,e1,e2,a,bb,g,r⟩:=c.sr.ow i x e hi';have mw:∀j,j∈ws'↔j∈ws/\j≠i:=fun j=>by rw[<-hw];simp
    have mo:∀o,o∈O.filter (· != n)↔o∈O/\o≠n:=fun o=>by simp
    have mv:Mv O h (O.filter (· != n)) h:=⟨fun _ _ _=>rfl,fun o ho=>.inl ((mo o).mp ho).1⟩;have c':Cx q h L B (O.filter (· != n)) ws' σ env s:=by
     refine⟨fun o ho=>c.bd o ((mo o).mp ho).1,fun o ho=>(mo o).mpr ⟨c.sub o ho,fun z=>by have:=c.bb o ho;lia⟩,c.bb,c.pb,c.hL,c.pen,c.sr.len,fun j y ey hj=>?_,fun j y ey hj=>?_⟩
     ·by_cases z:j=i
      ·subst z;rw[e] at ey;cases ey;subst e1;refine⟨_,e2,?_⟩;cases kd <;> exact⟨n,xs,rfl,fun z=>((mo n).mp z).2 rfl,g,r.mv mv⟩
      ·obtain⟨v,e3,q⟩:=c.sr.fz j y ey fun z'=>hj ((mw j).mpr ⟨z',z⟩);exact⟨v,e3,q.mv mv⟩
     ·obtain⟨hj1,hj2⟩:=(mw j).mp hj;obtain⟨n',kd',xs',ds',e3,e4,a',b',g',r'⟩:=c.sr.ow j y ey hj1;refine⟨n',kd',xs',ds',e3,e4,(mo n').mpr ⟨a',fun z=>?_⟩,b',g',r'.mv mv⟩;subst z;exact d i j hi' hj1 (Ne.symm hj2) x y _ e ey e2 e4
    have d':Dis ws' σ env:=fun j k hj hk=>d j k ((mw j).mp hj).1 ((mw k).mp hk).1;have k:=b.ok c' d'
    cases ep:b.p env s with
    | rt d s=>rw[ep] at k;exact k
    | _=>trivial
def xFz_p{ws ws':List Nat}{i:Nat}{b:Xd ws'}{hi:ws.contains i=true}{hw:ws.filter (· != i)=ws'}{env:aD}{s s':Pen}{x d:D}(e:env[i]?=some (some x))(h:b.p env s=.rt d s'):(xFz i b hi hw).p env s=.rt d s':=by
 show (match env[i]? with | some (some _)=>(match b.p env s with | .rt d s=>PS.rt d s | _=>.bad) | _=>.bad)=_;rw[e,h]
noncomputable section
inductive VwD (h:MH) (fz:Bool) (ks:List Int) (P:List PV->Prop) (v:PV):Prop
 | mk (n:Nat) (xs:List PV) (e:v=.loc n) (g:h[n]?=some (.dic fz ks xs)) (r:P xs):VwD h fz ks P v
def Vw.dic{q:Nat}{h:MH}{L:Nat}{O:List Nat}{v:PV}{fz:Bool}{ks:List Int}{ds:List D}(w:Vw q h L O (.dic fz ks ds) v):VwD h fz ks (Rps q h O ds) v:=by
 rcases w with ⟨n,xs,e,_,g,r⟩|⟨n,kd,xs,ds',e,e1,_,_,g,r⟩
 ·exact⟨n,xs,e,g,r⟩
 ·cases kd with
  | none=>cases e
  | some _=>cases e;exact⟨n,xs,e1,g,r⟩
def VwD.of{h:MH}{fz:Bool}{ks:List Int}{P:List PV->Prop}{v:PV}(w:VwD h fz ks P v):∃xs,cf h v=some (fz,ks,xs)/\P xs:=by
 obtain⟨n,xs,rfl,g,r⟩:=w;exact⟨xs,by simp only[cf,g],r⟩
def qk{q:Nat}{h:MH}{O:List Nat}{ds:List D}{xs:List PV}{ks:List Int}(r:Rps q h O ds xs)(i:Int):match dix ks ds i with
  | some d=>∃v,dix ks xs i=some v/\Rp q h O d v
  | none=>dix ks xs i=none:=by
 induction ks generalizing ds xs with
 | nil=>cases ds <;> cases xs <;> rfl
 | cons k ks ih =>
  cases ds with
  | nil=>rw[show xs=[] from r];rfl
  | cons d ds =>
   obtain⟨x,t,rfl,a,b⟩:=r;unfold dix;by_cases e:k=i
   ·simp only[qan e];exact⟨_,rfl,a⟩
   ·simp only[qaz e];exact ih b
def dput_rp{q:Nat}{h:MH}{O:List Nat}{ds:List D}{xs:List PV}{ks:List Int}{d:D}{v:PV}(r:Rps q h O ds xs)(w:Rp q h O d v)(i:Int):(dput ks ds i d).1=(dput ks xs i v).1/\Rps q h O (dput ks ds i d).2 (dput ks xs i v).2:=by
 induction ks generalizing ds xs with
 | nil=>exact⟨by simp[dput],by simpa [dput] using ⟨v,[],rfl,w,rfl⟩⟩
 | cons k ks ih =>
  cases ds with
  | nil=>rw[show xs=[] from r];exact⟨rfl,v,[],rfl,w,rfl⟩
  | cons d' ds =>
   obtain⟨x,t,rfl,a,b⟩:=r;unfold dput;by_cases e:k=i
   ·simp only[qan e];exact⟨trivial,v,t,rfl,w,b⟩
   ·simp only[qaz e];obtain⟨i1,i2⟩:=ih b;exact⟨by rw[i1],x,_,rfl,a,i2⟩
def k9(neg:Bool):Op2 where
 m:=oY neg
 p:=fun a b=>match a,b with
  | .int i,.dic _ ks ds=>some (.bl (if neg then !(dix ks ds i).isSome else (dix ks ds i).isSome))
  | _,_=>none
 fr:=true
 ok {q h L O a x b y d} bd wa wb e:=by
  cases a with
  | int i =>
   cases b with
   | dic fz ks ds =>
    cases e;rw[wa.int];obtain⟨xs,e1,r⟩:=wb.dic.of;have z:(dix ks ds i).isSome=(dix ks xs i).isSome:=by
     have:=qk (ks:=ks) r i
     cases e2:dix ks ds i with
     | none=>rw[e2] at this;rw[this];rfl
     | some d=>rw[e2] at this;obtain⟨v,e3,_⟩:=this;rw[e3];rfl
    simp only[oY,e1];rw[z];exact gvB
   | _=>cases e
  | _=>cases e
def j3:Op2 where
 m:=kG
 p:=fun a b=>match a,b with
  | .dic _ ks ds,.int i=>dix ks ds i
  | _,_=>none
 fr:=false
 ok {q h L O a x b y d} bd wa wb e:=by
  cases a with
  | dic fz ks ds =>
   cases b with
   | int i =>
    rw[wb.int];obtain⟨xs,e1,r⟩:=wa.dic.of;have z:=qk (ks:=ks) r i;rw[show dix ks ds i=some d from e] at z;obtain⟨v,e3,rv⟩:=z;simp only[kG,e1,e3];exact gv0 rv fun z=>by cases z
   | _=>cases e
  | _=>cases e
def mm:OpN where
 k:=fun xs h=>(fListD xs h).ne
 p:=fun as=>match as with
  | [.dic _ ks ds]=>if ks.length<=100000 then some (.lst (ks.map .int)) else none
  | _=>none
 fr:=true
 ok {q h L O as xs d} bd w e:=by
  match as,e with
  | [.dic fz ks ds],e =>
   dsimp only at e;obtain⟨x,rfl,wx⟩:=dQ w;obtain⟨xs,e1,r⟩:=wx.dic.of;by_cases hl:ks.length<=100000
   ·rw[qan hl] at e;cases e;have e2:fListD [x] h=newL (ks.map .int) h:=by simp only[fListD,e1]
    rw[e2];obtain⟨v,g,e3,r3,r4⟩:=iW (q:=q) bd (jd (q:=q) (h:=h) (O:=O) ks) (by simpa using hl);exact⟨v,g,by rw[e3];rfl,r3,r4⟩
   ·rw[qaz hl] at e;cases e
def nQ{q:Nat}{h:MH}{O:List Nat}:∀{kvs:List (Int × D)} {ks:List (Int × PV)},Rkv q h O kvs ks->ks.map (·.1)=kvs.map (·.1)/\Rps q h O (kvs.map (·.2)) (ks.map (·.2))
 | [],ks,r=>by rw[show ks=[] from r];exact⟨rfl,rfl⟩
 | kv::kvs,ks,r=>by
  obtain⟨b0,ks',rfl,e,a,b⟩:=r;obtain⟨i1,i2⟩:=nQ b;exact⟨by simp[i1,<-e],_,_,rfl,a,i2⟩
def oV:OpN where
 k:=fun xs h=>(fDict xs h).ne
 p:=fun as=>match as with
  | [x]=>(dgD x).map fun kvs=>.dic false (kvs.map (·.1)) (kvs.map (·.2))
  | _=>none
 fr:=true
 ok {q h L O as xs d} bd w e:=by
  match as,e with
  | [x],e =>
   dsimp only at e;rw[qas] at e;obtain⟨kvs,e1,rfl⟩:=e;obtain⟨v,rfl,wx⟩:=dQ w;have rx:Rp q h O x v:=by
    rcases wx with r|⟨n,kd,xs,ds,e,_⟩
    ·exact r
    ·rw[e] at e1;cases kd <;> cases e1
   obtain⟨ks,e2,rk⟩:=dg_inv rx e1;obtain⟨s1,s2⟩:=nQ rk;have g:(h++[MO.dic false (ks.map (·.1)) (ks.map (·.2))])[h.length]?=some (.dic false (kvs.map (·.1)) (ks.map (·.2))):=by rw[s1];simp
   have m:Mv O h O (h++[MO.dic false (ks.map (·.1)) (ks.map (·.2))]):=⟨fun n hn _=>qal hn,fun o ho=>.inl ho⟩
   have m2:Mv O h (h.length::O) (h++[MO.dic false (ks.map (·.1)) (ks.map (·.2))]):=⟨fun n hn _=>qal hn,fun o ho=>by
    rcases qam.mp ho with z|z
    ·exact .inr (by lia)
    ·exact .inl z⟩
   refine⟨.loc h.length,[.dic false (ks.map (·.1)) (ks.map (·.2))],?_,⟨_,_,rfl,fun z=>by have:=bd _ z;lia,g,s2.mv m⟩,fun _ k ds' e=>?_⟩
   ·have e3:fDict [v] h=.ok (.loc h.length) (h++[.dic false (ks.map (·.1)) (ks.map (·.2))]):=by simp only[fDict,e2]
    rw[e3];rfl
   ·cases k with
    | none=>cases e
    | some _=>cases e;exact⟨_,_,rfl,qak _,g,s2.mv m2⟩
variable {ws:List Nat}
def xDG(a:Xe ws)(as:Xs ws):Xe ws where
 m:=mDG a.m as.m
 p:=fun env s=>(a.p env s).bind fun x s1=>match x with
  | .dic _ ks ds=>(as.p env s1).bind fun y s2=>match y with
   | [.int i,d]=>.ok ((dix ks ds i).getD d) s2
   | _=>.bad
  | _=>.bad
 fz:=as.fz
 fr:=false
 ok {q h L B O σ env s} c:=by
  refine (a.ok c).bind fun x v h1 s1 k1 p1 ⟨w,_,_⟩=>?_
  cases x with
  | dic fz ks ds =>
   have c1:=c.kb k1 p1;obtain⟨n,xs,rfl,g,r⟩:=w.dic;have nq:n≠q:=by
    rcases w with ⟨n',xs',e,no,_⟩|⟨n',kd,xs',ds',_,e,_,hn,_⟩
    ·cases e;exact fun z=>no (z▸c.pO)
    ·cases e;have:=c.pL;lia
   have e1:cf h1 (.loc n)=some (fz,ks,xs):=by simp only[cf,g]
   dsimp only;rw[e1];dsimp only;refine (as.ok c1).bind fun y vs h2 s2 k2 p2 ⟨w2,z2⟩=>?_;have g2:h2[n]?=some (.dic fz ks xs):=(k2.keep n (bo g) nq).trans g;have e2:cf h2 (.loc n)=some (fz,ks,xs):=by simp only[cf,g2]
   have r2:=r.mv (k2.mv c.pO);by_cases hy:∃i d,y=[.int i,d]
   ·obtain⟨i,d,rfl⟩:=hy;obtain⟨v1,v2,rfl,u1,u2⟩:=vws2 w2;rw[u1.int,e2];dsimp only;have z:=qk (ks:=ks) r2 i
    cases e3:dix ks ds i with
    | none =>
     rw[e3] at z;dsimp only at z;rw[z];refine⟨_,h2,rfl,KB.refl _ _,p2,u2,fun zz=>?_,fun z=>by cases z⟩;obtain⟨_,_,e5,_,_,_,e6,r6,_⟩:=z2 zz;cases e5;cases e6;exact r6
    | some d' =>
     rw[e3] at z;obtain⟨v',e4,rv⟩:=z;rw[e4];exact⟨_,h2,rfl,KB.refl _ _,p2,.inl rv,fun _=>rv,fun z=>by cases z⟩
   ·have:(match y with | [.int i,d]=>PR.ok ((dix ks ds i).getD d) s2 | _=>.bad)=PR.bad:=by
     split
     ·exact absurd ⟨_,_,rfl⟩ hy
     ·rfl
    rw[this];trivial
  | _=>trivial
@[simp] theorem xDG_p{a:Xe ws}{as:Xs ws}{env:aD}{s:Pen}:(xDG a as).p env s=(a.p env s).bind fun x s1=>match x with
  | .dic _ ks ds=>(as.p env s1).bind fun y s2=>match y with
   | [.int i,d]=>.ok ((dix ks ds i).getD d) s2
   | _=>.bad
  | _=>.bad:=rfl
def pM(a:Xe ws):Xi ws where
 m:=mItD a.m
 p:=fun env s=>(a.p env s).bind fun x s1=>match x with
  | .dic true ks ds=>.ok (g6 (ks.map .int) ds) s1
  | _=>.bad
 fz:=true
 ok {q h L B O σ env s} c:=by
  refine (a.ok c).bind fun x v h1 s1 k1 p1 ⟨w,z,_⟩=>?_
  cases x with
  | dic fz ks ds =>
   cases fz with
   | false=>trivial
   | true =>
    obtain⟨xs,e1,r⟩:=w.dic.of;rw[e1];exact⟨_,h1,rfl,KB.refl _ _,p1,mV (jd ks) r,(fun _ hy=>nomatch hy),fun _ _ hy=>nomatch hy⟩
  | _=>trivial
@[simp] theorem xItD_p{a:Xe ws}{env:aD}{s:Pen}:(pM a).p env s=(a.p env s).bind fun x s1=>match x with
  | .dic true ks ds=>.ok (g6 (ks.map .int) ds) s1
  | _=>.bad:=rfl
def jb(i:Nat)(ix e:aD->Pen->PR D)(env:aD)(s:Pen):PS:=match e env s with
 | .ok v s1=>(match ix env s1 with
  | .ok (.int j) s2=>(match env[i]? with
   | some (some (.dic false ks ds))=>if ks.length<100000 then .nx (env.set i (some (.dic false (dput ks ds j v).1 (dput ks ds j v).2))) s2 else .bad
   | _=>.bad)
  | _=>.bad)
 | _=>.bad
def qq{i:Nat}{ix e:aD->Pen->PR D}{env:aD}{s s1 s2:Pen}{v:D}{j:Int}{ks:List Int}{ds:List D}(e1:e env s=.ok v s1)(e2:ix env s1=.ok (.int j) s2)(e3:env[i]?=some (some (.dic false ks ds)))(e4:ks.length<100000) :
  jb i ix e env s=.nx (env.set i (some (.dic false (dput ks ds j v).1 (dput ks ds j v).2))) s2:=by
 simp only[jb,e1,e2,e3];rw[qan e4]
def vB{i:Nat}{ix e:aD->Pen->PR D}{env:aD}{s:Pen}:jb i ix e env s=.bad\/∃v s1 j s2 ks ds,e env s=.ok v s1/\ix env s1=.ok (.int j) s2/\env[i]?=some (some (.dic false ks ds))/\ks.length<100000/\jb i ix e env s=.nx (env.set i (some (.dic false (dput ks ds j v).1 (dput ks ds j v).2))) s2:=by
 unfold jb;split
 ·rename_i v s1 e1
  split
  ·rename_i j s2 e2
   split
   ·rename_i ks ds e3
    by_cases h:ks.length<100000
    ·rw[qan h];exact .inr ⟨v,s1,j,s2,ks,ds,e1,e2,e3,h,rfl⟩
    ·rw[qaz h];exact .inl rfl
   ·exact .inl rfl
  ·exact .inl rfl
 ·exact .inl rfl
def hZ(i:Nat)(ix e:Xe ws)(hi:ws.contains i=true:=by exact ys rfl)(hz:e.fz=true:=by exact ys rfl):Xd ws where
 m:=oU (ag i) ix.m e.m
 p:=jb i ix.p e.p
 fr:=true
 ok {q h L B O σ env s} c d:=by
  rcases vB (i:=i) (e:=e.p) (ix:=ix.p) (env:=env) (s:=s) with z|⟨v,s1,j,s2,ks,ds,e1,e2,e3,e4,z⟩
  ·rw[z];trivial
  ·rw[z];have hi':i∈ws:=by simpa using hi
   have ke:=e.ok c;rw[e1] at ke;obtain⟨x,h1,f1,kb1,pn1,_,rx,_⟩:=ke;have c1:=c.kb kb1 pn1;have ki:=ix.ok c1;rw[e2] at ki;obtain⟨y,h2,f2,kb2,pn2,w,_,_⟩:=ki;have c2:=c1.kb kb2 pn2;obtain⟨nl,kd,xs,ds0,e0,es,b1,b2,g,r0⟩:=c2.sr.ow i _ e3 hi'
   cases kd with
   | none=>cases e0
   | some ks' =>
    cases e0;replace g:h2[nl]?=some (.dic false ks xs):=g;have hy:=w.int;subst hy;have em:ag i σ h1=.ok (.loc nl) h1:=by simp[ag,es]
    obtain⟨p1,p2⟩:=dput_rp (ks:=ks) r0 ((rx hz).mv (kb2.mv c.pO)) j;have nx:=pY (kd:=some (dput ks ds j v).1) c2 d hi' e3 es p2;refine⟨σ,h2.set nl (.dic false (dput ks ds j v).1 (dput ks xs j x).2),?_,nx.after ((kb1.trans kb2).stp c)⟩;have hz2:ks.length<sizeLine:=by have:=eJ;lia
    unfold oU mEx;rw[f1];simp only[em,f2,cf,g];rw[qan hz2,p1]
def rR{i:Nat}{ix e:Xe ws}{hi hz}{env:aD}{s:Pen}:(hZ i ix e hi hz).p env s=jb i ix.p e.p env s:=rfl
def xFzD{ws ws':List Nat}(i:Nat)(b:Xd ws')(hi:ws.contains i=true:=by exact ys rfl)(hw:ws.filter (· != i)=ws':=by exact ys rfl):Xd ws where
 m:=mFz i b.m
 p:=fun env s=>match env[i]? with
  | some (some (.dic false ks ds))=>(match b.p (env.set i (some (.dic true ks ds))) s with | .rt d s=>.rt d s | _=>.bad)
  | _=>.bad
 fr:=b.fr
 ok {q h L B O σ env s} c d:=by
  show SOk q L h B O ws b.fr (mFz i b.m σ h) (match env[i]? with | some (some (.dic false ks ds))=>(match b.p (env.set i (some (.dic true ks ds))) s with | .rt d s=>PS.rt d s | _=>.bad) | _=>.bad);split
  ·rename_i ks ds e
   have hi':i∈ws:=by simpa using hi
   obtain⟨n,kd,xs,ds0,e1,e2,a,bb,g,r⟩:=c.sr.ow i _ e hi'
   cases kd with
   | none=>cases e1
   | some _ =>
    cases e1;replace g:h[n]?=some (.dic false ks xs):=g;have mw:∀j,j∈ws'↔j∈ws/\j≠i:=fun j=>by rw[<-hw];simp
    have mo:∀o,o∈O.filter (· != n)↔o∈O/\o≠n:=fun o=>by simp
    have mv:Mv O h (O.filter (· != n)) (h.set n (.dic true ks xs)):=⟨fun m _ no=>qai fun (z:n=m)=>no (z▸a),fun o ho=>.inl ((mo o).mp ho).1⟩;have il:i<env.length:=(qaj.mp e).1;have hp:=c.pL;have c':Cx q (h.set n (.dic true ks xs)) L B (O.filter (· != n)) ws' σ (env.set i (some (.dic true ks ds))) s:=by
     refine⟨fun o ho=>by simpa using c.bd o ((mo o).mp ho).1,fun o ho=>(mo o).mpr ⟨c.sub o ho,fun z=>by have:=c.bb o ho;lia⟩,c.bb,c.pb,by simpa using c.hL,?_,by simp[c.sr.len],fun j y ey hj=>?_,fun j y ey hj=>?_⟩
     ·unfold cv;rw[qai (by lia)];exact c.pen
     ·by_cases z:i=j
      ·subst z;rw[qaD il] at ey;cases ey;exact⟨_,e2,n,xs,rfl,fun z=>((mo n).mp z).2 rfl,qaD (bo g),r.mv mv⟩
      ·rw[qai z] at ey;obtain⟨v,e3,q⟩:=c.sr.fz j y ey fun z'=>hj ((mw j).mpr ⟨z',fun q=>z q.symm⟩);exact⟨v,e3,q.mv mv⟩
     ·obtain⟨hj1,hj2⟩:=(mw j).mp hj;rw[qai (Ne.symm hj2)] at ey;obtain⟨n',kd',xs',ds',e3,e4,a',b',g',r'⟩:=c.sr.ow j y ey hj1;have ne:n'≠n:=fun z=>by
       subst z;exact d i j hi' hj1 (Ne.symm hj2) _ y _ e ey e2 e4
      exact⟨n',kd',xs',ds',e3,e4,(mo n').mpr ⟨a',ne⟩,b',by rw[qai (Ne.symm ne)];exact g',r'.mv mv⟩
    have d':Dis ws' σ (env.set i (some (.dic true ks ds))):=fun j k hj hk ne x y m ej ek=>by
     obtain⟨hj1,hj2⟩:=(mw j).mp hj;obtain⟨hk1,hk2⟩:=(mw k).mp hk;rw[qai (Ne.symm hj2)] at ej;rw[qai (Ne.symm hk2)] at ek;exact d j k hj1 hk1 ne x y m ej ek
    have k:=b.ok c' d';have em:mFz i b.m σ h=b.m σ (h.set n (.dic true ks xs)):=by unfold mFz;rw[e2];simp only[g]
    rw[em]
    cases ep:b.p (env.set i (some (.dic true ks ds))) s with
    | rt x s1 =>
     rw[ep] at k;obtain⟨v,h',f1,f2,f3,f4,f5,f6⟩:=k;exact⟨v,h',f1,by simpa using f2,fun m hm hq=>by rw[f3 m hm hq,qai (by lia)],f4,f5,f6⟩
    | _=>trivial
  ·trivial
def xFzD_p{ws ws':List Nat}{i:Nat}{b:Xd ws'}{hi:ws.contains i=true}{hw:ws.filter (· != i)=ws'}{env:aD}{s s':Pen}{ks:List Int}{ds:List D}{d:D}(e:env[i]?=some (some (.dic false ks ds)))(h:b.p (env.set i (some (.dic true ks ds))) s=.rt d s'):(xFzD i b hi hw).p env s=.rt d s':=by
 show (match env[i]? with | some (some (.dic false ks ds))=>(match b.p (env.set i (some (.dic true ks ds))) s with | .rt d s=>PS.rt d s | _=>.bad) | _=>.bad)=_;rw[e];dsimp only;rw[h]
def aPopA:OpM where
 m:=oZ
 p:=fun ds as=>match as with
  | [.int i]=>if 0<=i/\i<2 ^ 62 then (ds[i.toNat]?).map fun d=>(d,ds.eraseIdx i.toNat) else none
  | _=>none
 ok {q h O n xs ds as vs d ds'} g r w e:=by
  match as,e with
  | [.int i],e =>
   obtain⟨x,t,rfl,u,z⟩:=w
   have:t=[]:=z
   subst this;rw[show x=PV.int i from u];dsimp only at e;by_cases hi:0<=i/\i<2 ^ 62
   ·rw[qan hi,qas] at e;obtain⟨y,e1,e2⟩:=e;cases e2;obtain⟨v,e3,rv⟩:=r.get e1;refine⟨v,xs.eraseIdx i.toNat,?_,?_,rv⟩
    ·simp only[oZ,g];rw[qan hi,e3]
    ·have er:∀{ds:List D} {xs:List PV} (k:Nat),Rps q h O ds xs->Rps q h O (ds.eraseIdx k) (xs.eraseIdx k):=by
      intro ds
      induction ds with
      | nil=>intro xs k r;rw[show xs=[] from r];rfl
      | cons d ds ih =>
       intro xs k r;obtain⟨x,t,rfl,a,b⟩:=r
       cases k with
       | zero=>exact b
       | succ k=>exact⟨x,_,rfl,a,ih k b⟩
     exact er _ r
   ·rw[qaz hi] at e;cases e
end
end PU
namespace MM
open PySem PySem.Spec PyProof.Rows L2
section
variable {X:Cx} {a b:Expr} {pos:Pos} {k:Nat}
def cB:Expr->Bool
 | .Starred _ _=>false
 | _=>true
def bZ(h:cB e=true):starEach (e::es) env=(false,eval e env)::starEach es env:=by
 cases e <;> first | rfl | cases h
def ma_con(ha:ME X e m)(hr:MA X es ms)(hp:cB e=true:=by rfl):MA X (e::es) (ae m ms):=aC ha hr (bZ hp)
structure ME1 (X:Cx) (e:Expr) (m:Mx PV):Prop where
 h:ME X e m
structure MAs (X:Cx) (es:List Expr) (ms:Mx (List PV)):Prop where
 h:MA X es ms
structure MS1 (X:Cx) (st:Stmt) (m:Mst):Prop where
 h:MS X st m
structure MS2 (X:Cx) (st:List Stmt) (m:Mst):Prop where
 h:MSs X st m
section
variable {e:Expr} {es:List Expr} {m ma mb:Mx PV} {ms:Mx (List PV)} {st:Stmt} {rest:List Stmt} {u v:Mst} {f:PV→PV→MH→Out PV} {N W G:List Str} {x:Str}
def gZ:MAs X [] mNil:=⟨aQ⟩
def cS(ha:ME1 X e m)(hr:MAs X es ms)(hp:cB e=true:=by rfl):MAs X (e::es) (ae m ms):=⟨ma_con ha.h hr.h hp⟩
def e_1(h:ME X e m):ME1 X e m:=⟨h⟩
def l_1(h:MAs X es ms):ME1 X (.List es pos) (d7 ms):=⟨wl h.h⟩
def t_1(h:MAs X es ms):ME1 X (.Tuple es j pos) (fE ms):=⟨me_tup h.h⟩
def b_1{op:Operator}{a b:Expr}(ho:OpJ X (binaryOp op) f)(ha:ME1 X a ma)(hb:ME1 X b mb):ME1 X (.BinOp a op b pos) (aj f ma mb):=⟨aV ho ha.h hb.h⟩
def s_1(h:MS X st u):MS1 X st u:=⟨h⟩
def a_1(g:Good X N W G k)(i:Nat){pos':Pos}(he:ME1 X e m)(hi:N[i]?=some x:=by rfl)(hw:W[i]?=some x:=by rfl)(hs:swapsWith e (some (.Name x pos')) pos.line X.env=pure false:=by rfl) :
  MS1 X (.Assign [.Name x pos'] e pos) (aP i m):=⟨jP g i hi hw he.h hs⟩
def r_1(he:ME1 X e m):MS1 X (.Return (some e) pos) (bB m):=⟨ms_ret he.h⟩
def m1n(h:MS1 X st u):MS2 X [st] u:=⟨mss_one h.h⟩
def m1c(h1:MS1 X st u)(h2:MS2 X rest v):MS2 X (st::rest) (aJ u v):=⟨yf h1.h h2.h⟩
def m1z(i:Nat)(h:MS2 X rest v):MS2 X rest (mFz i v):=⟨ms_fz i h.h⟩
end
end
end MM
namespace MM
open PySem PySem.SeqAt PySem.MeetsSeq PySem.MeetsSeq2 PySem.MeetsSeq3 PySem.SeqRoads2
end MM
namespace MM
open PySem PySem.Spec PyProof.Rows L2
local instance (priority:=1) cdec54 (p:Prop):Decidable p:=Classical.propDecidable p
section
variable {X:Cx} {k:Nat}
end
end MM
namespace PU
open PySem MM
noncomputable section
local instance (priority:=1) cdec51 (p:Prop):Decidable p:=Classical.propDecidable p
end
end PU
namespace SetT
open PySem PySem.SetTable PyProof.Rows
section
variable {prog:Program} {w:World} {A:Around} {E:Value→Shared→Prop} {s:Shared}
end
end SetT
namespace MM
open PySem PySem.Spec PyProof.Rows L2 SetT SortT
local instance (priority:=1) cdec55 (p:Prop):Decidable p:=Classical.propDecidable p
section
variable {X:Cx} {N W G:List Str} {k:Nat}
end
end MM
namespace PU
open PySem MM SetT
local instance (priority:=1) cdecN52 (p:Prop):Decidable p:=Classical.propDecidable p
noncomputable section
def we(ns:List Int):iw (ns.map .int)=some ns:=by
 induction ns with
 | nil=>rfl
 | cons i k ih=>rw[qao,iw,ih];rfl
end
end PU
namespace MM
open PySem PySem.Spec PyProof.Rows L2
open PU (Xe Xs Xt Xi Xg Xgs Xo Xd Op1 Op2 OpN OpI OpM OpR Fn aa xC af xUn xNil ac xCb ak oW d5 bO xDic xB gp xAnd xOr xTrue ir o5 mY ba bh cA xNm xGl xGc xGp az xSkip aZ jA xIf aL c7 dg xWh xMt pP i6 bR xNo xPt xSl xTr xMr nG xBad xFz xDG hZ pM xFzD xCT)
structure MT1 (X:Cx) (e:Expr) (m:Mx Bool):Prop where
 h:MT X e m
structure MW1 (X:Cx) (e:Expr) (m:Mx Bool):Prop where
 h:MW X e m
structure MI1 (X:Cx) (tg e:Expr) (m:Mx MIt):Prop where
 h:MI X tg e m
structure MG1 (X:Cx) (e:Expr) (m:Mg):Prop where
 h:MG X e m
structure MG2 (X:Cx) (e:List Expr) (m:Mgs):Prop where
 h:MGs X e m
structure MT2 (X:Cx) (e:List Expr) (m:Mx Bool):Prop where
 h:MTs X e m
structure MO1 (X:Cx) (e:Option Expr) (m:Mx (Option Int)):Prop where
 h:MO' X e m
structure OJ (X:Cx) (r:Value->Value->Sem Value) (o:Op2):Prop where
 h:OpJ X r o.m
def sGl(sc:Scope):List Str:=(sc.names.filter fun y=>match y.2 with | .globalImplicit=>true | _=>false).map (·.1)
abbrev gm(sc:Scope)(x:Str):Prop:=x∈sGl sc
def tgN:Expr->List Str
 | .Name x _=>[x]
 | .Tuple es _ _=>es.flatMap fun e=>match e with
  | .Name x _=>[x]
  | .Tuple es _ _=>es.flatMap fun e=>match e with
   | .Name x _=>[x]
   | _=>[]
  | _=>[]
 | _=>[]
def frN(N:List Str)(fm:List Nat):List Str:=fm.filterMap (N[·]?)
structure Wc (X:Cx) (P:Program) (w:World) (K:qab) (mg:Str->Option Value) (base:Heap) (N W:List Str) (k:Nat) (sc:Scope):Prop where
 g:Good X N W (sGl sc) k
 e:EE X P w K mg base
 s:X.env.scope=sc
section
variable {X Y:Cx} {P:Program} {w:World} {K:qab} {mg:Str→Option Value} {base:Heap} {N W:List Str} {k:Nat} {sc:Scope} {ws:List Nat} {x y:Str} {p p' pos spos:Pos} {e a b d tg:Expr} {es:List Expr} {i j:Nat} {st:Stmt} {rest body:List Stmt} {xa xb xd:Xe ws} {ta tb:Xt ws} {sa:Xs ws} {da db:Xd ws}
def Wc.gj(c:Wc X P w K mg base N W k sc)(h:gm sc x):∃j:Nat,(sGl sc)[j]?=some x:=List.getElem?_of_mem h
def Wc.n(c:Wc X P w K mg base N W k sc)(z:Zn K x):X.mg x=none:=c.e.n z
def w_int{i:Int}:ME1 X (.Constant (.int i) j pos) (xC (ws:=ws) (.int i)).m:=⟨aG⟩
def w_str{i:Str}:ME1 X (.Constant (.str i) j pos) (xC (ws:=ws) (.str i)).m:=⟨mK⟩
def w_bl{i:Bool}:ME1 X (.Constant (.bool i) j pos) (xC (ws:=ws) (.bl i)).m:=⟨ic⟩
def w_bin{op:Operator}{o:Op2}(ho:OJ X (binaryOp op) o)(ha:ME1 X a xa.m)(hb:ME1 X b xb.m):ME1 X (.BinOp a op b pos) (af o xa xb).m:=⟨aV ho.h ha.h hb.h⟩
def w_cmp{op:CmpOp}{o:Op2}(ho:OJ X (compareOp op) o)(ha:ME1 X a xa.m)(hb:ME1 X b xb.m)(hm:behindInMarks op b=false):ME1 X (.Compare a [op] [b] pos) (af o xa xb).m:=⟨me_cmp ho.h ha.h hb.h hm⟩
def w_ix(ha:ME1 X a xa.m)(hb:ME1 X b xb.m)(hs:iS b):ME1 X (.Subscript a b pos) (af PU.oIx xa xb).m:=⟨me_ix ha.h hb.h hs⟩
def w_neg(ha:ME1 X a xa.m):ME1 X (.UnaryOp .USub a pos) (xUn PU.oNeg xa).m:=⟨me_un uj_neg ha.h⟩
def w_notV(ha:ME1 X a xa.m):ME1 X (.UnaryOp .Not a pos) (o5 xa).m:=⟨me_not ha.h⟩
def w_one{op:BoolOp}(ha:ME1 X a xa.m):ME1 X (.BoolOp op [a] pos) xa.m:=⟨me_one ha.h⟩
def w_andV(ha:ME1 X a xa.m)(hb:ME1 X (.BoolOp .And (b::es) pos) xb.m):ME1 X (.BoolOp .And (a::b::es) pos) (ir xa xb).m:=⟨me_and ha.h hb.h⟩
def w_ifE{fz hf}(hc:MT1 X e ta.m)(ha:ME1 X a xa.m)(hb:ME1 X b xb.m):ME1 X (.IfExp e a b pos) (mY ta xa xb fz hf).m:=⟨me_ifE hc.h ha.h hb.h⟩
def w_tup{hz}(h:MAs X es sa.m):ME1 X (.Tuple es j pos) (bO sa hz).m:=t_1 h
def w_lst{hz}(h:MAs X es sa.m):ME1 X (.List es pos) (d5 sa hz).m:=l_1 h
def w_dic:ME1 X (.Dict [] [] pos) (xDic (ws:=ws)).m:=⟨me_dic0⟩
def w_sl{lo hi:Option Expr}{ol oh:Xo ws}(ha:ME1 X a xa.m)(hl:MO1 X lo ol.m)(hh:MO1 X hi oh.m):ME1 X (.Subscript a (.Slice lo hi none p) pos) (xSl xa ol oh).m:=⟨me_sl ha.h hl.h hh.h⟩
def w_no:MO1 X none (xNo (ws:=ws)).m:=⟨mo_none⟩
def w_pt(ha:ME1 X a xa.m):MO1 X (some a) (xPt xa).m:=⟨mo_some ha.h⟩
def w_nil:MAs X [] (xNil (ws:=ws)).m:=gZ
def w_cons(ha:ME1 X e xa.m)(hs:MAs X es sa.m)(hp:cB e=true):MAs X (e::es) (ac xa sa).m:=cS ha hs hp
def j_Add:OJ X (binaryOp .Add) PU.cL:=⟨dN⟩
def j_Sub:OJ X (binaryOp .Sub) PU.i4:=⟨oj_sub⟩
def j_Mul:OJ X (binaryOp .Mult) PU.bx:=⟨eY⟩
def j_InnD:OJ X (compareOp .NotIn) (PU.k9 true):=⟨oj_inD true⟩
def w_ixD(ha:ME1 X a xa.m)(hb:ME1 X b xb.m)(hs:iS b):ME1 X (.Subscript a b pos) (af PU.j3 xa xb).m:=⟨me_ixD ha.h hb.h hs⟩
def j_Mod:OJ X (binaryOp .Mod) PU.jX:=⟨dP⟩
def j_Pow:OJ X (binaryOp .Pow) PU.pW:=⟨qA⟩
def j_Lt:OJ X (compareOp .Lt) PU.oLt:=⟨oj_lt⟩
def j_Gt:OJ X (compareOp .Gt) PU.oGt:=⟨oj_gt⟩
section
variable (c:Wc X P w K mg base N W k sc)
include c
def w_var(hi:N[i]?=some x):ME1 X (.Name x pos) (aa (ws:=ws) i).m:=⟨wo c.g i hi⟩
def j_Fd:OJ X (binaryOp .FloorDiv) PU.oFd:=⟨ue c.g.room⟩
def w_glT{i j:Int}(v:iG K mg x i j)(hx:gm sc x):ME1 X (.Name x pos) (xCT (ws:=ws) i j).m :=
 let ⟨_,hj⟩:=c.gj hx
 ⟨me_glT c.g hj (by rw[c.e.e3,c.e.e4];exact v)⟩
def j_Eq:OJ X (compareOp .Eq) PU.oEq:=⟨mN c.g.room⟩
def j_Ne:OJ X (compareOp .NotEq) PU.oNe:=⟨o8 c.g.room⟩
end
def gq{env:Env}:∀{es:List Expr},es.all cB=true->(backTo pos (starEach es env)).any (·.1)=false
 | [],_=>rfl
 | e::es,h=>by
  have h':cB e=true/\es.all cB=true:=by simpa using h
  have:=gq (env:=env) h'.2
  rw[bZ h'.1];simpa [backTo] using this
section
variable (c:Wc X P w K mg base N W k sc)
include c
def w_call{F:Fn}{ps:List Str}{hz}(ha:MAs X (e::es) sa.m)(f:FnAt P w K mg base x ps F.m i)(h:i<=k)(hx:gm sc x)(hp:(e::es).all cB=true):ME1 X (.Call (.Name x p) (e::es) [] pos) (ak F sa hz).m :=
 let ⟨_,hj⟩:=c.gj hx
 have hp':cB e=true/\es.all cB=true:=by simpa using hp
 ⟨tE c.g hj (f.c c.e h) ha.h (bZ hp'.1) (gq hp'.2)⟩
end
inductive BB (X:Cx) (x:Str) (o:OpN):Prop
 | fn (id:String) (f:List PV->MH->Out PV) (h:bootBuiltins x=some (.builtin id)) (c:cO X (.builtin id) f) (e:o.k=fun xs h=>(f xs h).ne:=by rfl):BB X x o
 | ty (T:String) (f:List PV->MH->Out PV) (h:bootBuiltins x=some (.type T)) (c:cO X (.type T) f) (e:o.k=fun xs h=>(f xs h).ne:=by rfl):BB X x o
def b_abs:BB X "abs" PU.mU:=.fn _ _ qf qO
def b_int:BB X "int" PU.nr:=.ty _ _ vX cj_int
def b_len:BB X "len" PU.dD:=.fn _ _ gf fU
def b_list:BB X "list" PU.gr:=.ty _ _ kH m6
def b_tuple:BB X "tuple" PU.iT:=.ty _ _ qe pX
section
variable (c:Wc X P w K mg base N W k sc)
include c
def w_blt{o:OpN}(B:BB X x o)(ha:MAs X (e::es) sa.m)(z:Zn K x)(hx:gm sc x)(hp:(e::es).all cB=true):ME1 X (.Call (.Name x p) (e::es) [] pos) (xCb o sa).m:=by
 obtain⟨j,hj⟩:=c.gj hx;have hp':cB e=true/\es.all cB=true:=by simpa using hp
 refine⟨?_⟩;show ME X _ (fun σ h=>(sa.m σ h).bind o.k)
 cases B with
 | fn id f h d q=>rw[q];exact pE c.g j hj d (c.n z) h ha.h (bZ hp'.1) (gq hp'.2)
 | ty T f h d q=>rw[q];exact nW c.g j hj d (c.n z) h ha.h (bZ hp'.1) (gq hp'.2)
def b_listD:BB X "list" PU.mm:=.ty _ _ kH (wN c.g)
def b_dict:BB X "dict" PU.oV:=.ty _ _ bt_dict (cj_dict c.g)
def b_all:BB X "all" PU.cAll:=.fn _ _ bt_all (cj_all c.g)
end
structure BT (x:Str) (T:String):Prop where
 h:bootBuiltins x=some (.type T)
 o:okT T
def B_int:BT "int" "int":=⟨vX,okT_int⟩
def B_bool:BT "bool" "bool":=⟨bt_bool,xm⟩
section
variable (c:Wc X P w K mg base N W k sc)
include c
def w_isi{T:String}(B:BT x T)(ha:ME1 X a xa.m)(z1:Zn K "isinstance")(z2:Zn K x)(h1:gm sc "isinstance")(h2:gm sc x)(hp:cB a=true):ME1 X (.Call (.Name "isinstance" p) [a,.Name x p'] [] pos) (xUn (PU.nJ [T]) xa).m :=
 let ⟨_,i⟩:=c.gj h1;let ⟨_,j⟩:=c.gj h2
 ⟨me_isi c.g i (c.n z1) j (c.n z2) B.h B.o ha.h (bZ hp)⟩
end
abbrev MJ(X:Cx)(name:Str)(f:Nat->List PV->MH->Out PV):Prop:=∃id,Slot "list" name id/\typeOf (.builtin id)=pure (.type "method_descriptor")/\MtR X id (mtJ X f)
section
variable {name:Str} {f:Nat→List PV→MH→Out PV} {o:OpM} {m:Mx PV}
def w_me{ma:Mx (List PV)}(M:MJ X name f)(ho:ME1 X a m)(ha:MAs X (e::es) ma)(h:(((backTo pos (starEach (e::es) X.env)).all (fun x=>!x.1) && (backToKw pos (keywordEach [] X.env)).all (fun x=>x.1.isSome) && decide ((e::es).length+([]:List Keyword).length+(if ([]:List Keyword).isEmpty then 0 else 1)<30))=true/\(p.endLine == pos.line)=true)/\attributeBase a name X.env (eval a X.env)=eval a X.env/\starEach (e::es) X.env=(false,eval e X.env)::starEach es X.env/\(backTo pos (starEach es X.env)).any (·.1)=false):ME1 X (.Call (.Attribute a name p) (e::es) [] pos) (mMt f m ma) :=
 let ⟨_,x,y,z⟩:=M
 ⟨uP x y z ho.h ha.h h.2.1 h.1.1 h.1.2 h.2.2.1 h.2.2.2⟩
def w_mt{hi hz}(h:ME1 X e (mMt o.m (aa (ws:=ws) i).m sa.m))(hs:swapsWith e none pos.line X.env=pure false):MS1 X (.Expr e pos) (xMt o i sa hi hz).m:=⟨sy h.h hs⟩
def w_mtS{hi hj hz}(c:Wc X P w K mg base N W k sc)(h:ME1 X e (mMt o.m (aa (ws:=ws) i).m sa.m))(hs:swapsWith e (some (.Name y p)) pos.line X.env=pure false)(hyi:N[j]?=some y)(hyw:W[j]?=some y):MS1 X (.Assign [.Name y p] e pos) (pP j o i sa hi hj hz).m:=⟨jP c.g j hyi hyw h.h hs⟩
end
def wR:MJ X "append" PU.aAppend.m:=⟨_,oA,oE,oB⟩
def wO:MJ X "insert" PU.aInsert.m:=⟨_,u6,uZ,uR⟩
def m_PopA:MJ X "pop" PU.aPopA.m:=⟨_,sl_pop,sy_pop,mj_popA⟩
def w_dG(ho:ME1 X a xa.m)(ha:MAs X [b,d] sa.m)(h:(((backTo pos (starEach [b,d] X.env)).all (fun x=>!x.1) && (backToKw pos (keywordEach [] X.env)).all (fun x=>x.1.isSome) && decide ([b,d].length+([]:List Keyword).length+(if ([]:List Keyword).isEmpty then 0 else 1)<30))=true/\(p.endLine == pos.line)=true)/\attributeBase a "get" X.env (eval a X.env)=eval a X.env/\starEach [b,d] X.env=(false,eval b X.env)::starEach [d] X.env/\(backTo pos (starEach [d] X.env)).any (·.1)=false):ME1 X (.Call (.Attribute a "get" p) [b,d] [] pos) (xDG xa sa).m:=⟨me_dG ho.h ha.h h.2.1 h.1.1 h.1.2 h.2.2.1 h.2.2.2⟩
def w_tcmp{op:CmpOp}{o:Op2}(ho:OJ X (compareOp op) o)(ha:ME1 X a xa.m)(hb:ME1 X b xb.m)(hm:behindInMarks op b=false):MT1 X (.Compare a [op] [b] pos) (xB (af o xa xb)).m:=⟨u7 ho.h ha.h hb.h hm⟩
def w_tnot(h:MT1 X a ta.m):MT1 X (.UnaryOp .Not a pos) (gp ta).m:=⟨o9 h.h⟩
def w_tw{op:BoolOp}(h:MW1 X (.BoolOp op es pos) ta.m):MT1 X (.BoolOp op es pos) ta.m:=⟨MW.mt h.h⟩
def w_or1(h:MT1 X a ta.m):MW1 X (.BoolOp .Or [a] pos) ta.m:=⟨u0 h.h⟩
def w_or(h:MT1 X a ta.m)(h2:MW1 X (.BoolOp .Or (b::es) pos) tb.m):MW1 X (.BoolOp .Or (a::b::es) pos) (xOr ta tb).m:=⟨mw_or h.h h2.h⟩
def w_tru(h:ME1 X e xa.m)(he:∀whole,isTrue e X.env whole=(do let v <-whole;standAt e.pos;holding [v] (truthy v))):MT1 X e (xTr xa).m:=⟨mt_tru h.h he⟩
def w_val(h:ME1 X e xa.m)(he:∀whole,isTrue e X.env whole=(do let v <-whole;standAt e.pos;holding [v] (truthy v))):MT1 X e (xB xa).m:=⟨pc h.h he⟩
def w_ts0:MT2 X [] (xTrue (ws:=ws)).m:=⟨kM⟩
def w_ts1(h:MT1 X a ta.m):MT2 X [a] ta.m:=⟨mts_one h.h⟩
def w_gl:MG2 X [] (xGl (ws:=ws)).m:=⟨ng⟩
def w_gc{ga:Xg ws}{gs:Xgs ws}(h1:MG1 X e ga.m)(h2:MG2 X es gs.m)(hs:(assignEach (e::es) X.env).map (·.2)=assign e X.env::(assignEach es X.env).map (·.2)):MG2 X (e::es) (xGc ga gs).m:=⟨gS h1.h h2.h hs⟩
def w_itD{n:Nat}(h:ME1 X a xa.m)(hb:attributeBase a "items" X.env (eval a X.env)=eval a X.env)(hl:(p.endLine == pos.line)=true):MI1 X (.Tuple es n p') (.Call (.Attribute a "items" p) [] [] pos) (pM xa).m:=⟨w5 h.h hb hl⟩
def w_itS(h:ME1 X a xa.m):MI1 X tg a (cA xa).m:=⟨lZ h.h⟩
section
variable (c:Wc X P w K mg base N W k sc)
include c
def w_nm{hi}(h:N[i]?=some x)(hw:W[i]?=some x):MG1 X (.Name x pos) (xNm (ws:=ws) i hi).m:=⟨tP c.g i h hw⟩
def w_gp{gs:Xgs ws}{n:Nat}(h:MG2 X es gs.m)(hn:(assignEach es X.env).length=n)(hst:(assignEach es X.env).findIdx? (·.1)=none):MG1 X (.Tuple es j pos) (xGp gs n).m:=⟨qW c.g h.h hn hst⟩
def w_iE{n:Nat}(h:MAs X [a] sa.m)(z:Zn K "enumerate")(hx:gm sc "enumerate")(hp:cB a=true):MI1 X (.Tuple es n p) (.Call (.Name "enumerate" p') [a] [] pos) (bh PU.iE sa).m:=let ⟨_,hj⟩:=c.gj hx;⟨mi_enum c.g hj (c.n z) h.h (bZ hp)⟩
def w_iZ{n:Nat}(h:MAs X [a,b] sa.m)(z:Zn K "zip")(hx:gm sc "zip")(hs:starEach [a,b] X.env=(false,eval a X.env)::starEach [b] X.env)(hp:(backTo pos (starEach [b] X.env)).any (·.1)=false):MI1 X (.Tuple es n p) (.Call (.Name "zip" p') [a,b] [] pos) (bh PU.iZ sa).m:=let ⟨_,hj⟩:=c.gj hx;⟨vJ c.g hj (c.n z) h.h hs hp⟩
def w_iR1(h:MAs X [a] sa.m)(z:Zn K "range")(hx:gm sc "range")(hp:cB a=true):MI1 X tg (.Call (.Name "range" p) [a] [] pos) (bh PU.iR1 sa).m:=⟨nP (c.g.gl _ hx) (c.n z) h.h (bZ hp)⟩
end
structure CB (Y:Cx) (tg elt:Expr) (ifs:List Expr) (gt:Mg) (mt:Mx Bool) (me:Mx PV):Prop where
 g:MG1 Y tg gt
 t:MT2 Y ifs mt
 e:ME1 Y elt me
section
variable {iter elt:Expr} {ifs:List Expr} {scope:Scope} {nv:Nat} {fm ws':List Nat} {xi:Xi ws} {gt:Xg ws'} {xt:Xt ws'} {xe:Xe ws'}
abbrev CPs(N:List Str)(tg:Expr)(nv:Nat)(fm:List Nat)(scope sc:Scope):Prop:=CPm scope sc (tgN tg) (frN N fm)/\(tgN tg++frN N fm).Nodup/\(∀x∈sGl (rlb scope sc),scope.names.lookup x=some .globalImplicit)/\(∀x∈(tgN tg++frN N fm)++sGl (rlb scope sc),(x == ("__debug__":Str))=false/\(x == ("__classdict__":Str))=false/\x≠"__name__")/\fm.map (fun i=>N[i]?)=(frN N fm).map some/\(tgN tg).length=nv
section
variable (c:Wc X P w K mg base N W k sc)
include c
def w_comp{hw:PU.cws nv fm ws=ws'}{hz:xe.fz=true}(hi:MI1 X tg iter xi.m)(hY:∀Y:Cx,Wc Y P w K mg base (tgN tg++frN N fm) (tgN tg) k (rlb scope sc)->CB Y tg elt ifs gt.m xt.m xe.m)(h1:scope.kind=.function)(h:CPs N tg nv fm scope sc)
  (hs:∀x,foldedSetIterable iter X.env x=pure x):ME1 X (.ListComp elt [⟨tg,iter,ifs,0⟩] scope pos) (ba nv fm xi gt xt xe hw hz).m:=by
 obtain⟨h2,nd,hg,dbg,h7,rfl⟩:=h;exact⟨sG c.g (kx c.s h1 h7 h2) nd hg dbg hi.h (fun Y y1 y2 y3 y4 y5 y6 g=>let q:=hY Y ⟨g,⟨y1.trans c.e.e1,y2.trans c.e.e2,y3.trans c.e.e3,y4.trans c.e.e4,y5.trans c.e.e5,c.e.b⟩,y6.trans (vp c.s)⟩;⟨q.g.h,q.t.h,q.e.h⟩) hs⟩
end
section
variable (c:Wc X P w K mg base N W k sc) (hsw:∀env:Env,env.scope=sc→swapsWith (.ListComp elt [⟨tg,iter,ifs,0⟩] scope pos) (some (.Name y p)) spos.line env=pure true) (hi:MI1 X tg iter xi.m) (hY:∀Y:Cx,Wc Y P w K mg base (tgN tg++frN N fm) (tgN tg) k (rlb scope sc)→CB Y tg elt ifs gt.m xt.m xe.m) (hyi:N[i]?=some y) (hyw:W[i]?=some y) (h1:scope.kind=.function) (h:CPs N tg nv fm scope sc) (hs:∀x,foldedSetIterable iter X.env x=pure x)
include hsw hi hY c hyi hyw h1 h hs
def rV:MS1 X (.Assign [.Name y p] (.ListComp elt [⟨tg,iter,ifs,0⟩] scope pos) spos) (aP i (cU nv fm xi.m gt.m xt.m xe.m)):=by
 obtain⟨h2,nd,hg,dbg,h7,rfl⟩:=h;exact⟨sA c.g i hyi hyw (hsw X.env c.s) (kx c.s h1 h7 h2) nd hg dbg hi.h (fun Y y1 y2 y3 y4 y5 y6 g=>let q:=hY Y ⟨g,⟨y1.trans c.e.e1,y2.trans c.e.e2,y3.trans c.e.e3,y4.trans c.e.e4,y5.trans c.e.e5,c.e.b⟩,y6.trans (vp c.s)⟩;⟨q.g.h,q.t.h,q.e.h⟩) hs⟩
def w_setC{hw:PU.cws nv fm ws=ws'}{hz:xe.fz=true}{hi' hz'}:MS1 X (.Assign [.Name y p] (.ListComp elt [⟨tg,iter,ifs,0⟩] scope pos) spos) (aL i (ba nv fm xi gt xt xe hw hz) hi' hz').m:=rV c hsw hi hY hyi hyw h1 h hs
def w_setCO{hw:PU.cws nv fm ws=ws'}{hz:xe.fz=true}{hi' hz'}:MS1 X (.Assign [.Name y p] (.ListComp elt [⟨tg,iter,ifs,0⟩] scope pos) spos) (c7 i (ba nv fm xi gt xt xe hw hz) hi' hz').m:=rV c hsw hi hY hyi hyw h1 h hs
end
end
def w_s0:MS2 X [] (xSkip (ws:=ws)).m:=⟨dh⟩
def i7(h:MS1 X st da.m):MS2 X [st] da.m:=m1n h
def c9(h1:MS1 X st da.m)(h2:MS2 X rest db.m):MS2 X (st::rest) (az da db).m:=m1c h1 h2
def w_fz{ws':List Nat}{hi hw}{db:Xd ws'}(h:MS2 X rest db.m):MS2 X rest (xFz (ws:=ws) i db hi hw).m:=h
def w_fzD{ws':List Nat}{hi hw}{db:Xd ws'}(h:MS2 X rest db.m):MS2 X rest (xFzD (ws:=ws) i db hi hw).m:=m1z i h
def w_putD{hi hz}(he:ME1 X e xa.m)(ho:ME1 X a (aa (ws:=ws) i).m)(hb:ME1 X b xb.m)(hs:swapsWith e (some (.Subscript a b p)) pos.line X.env=pure false):MS1 X (.Assign [.Subscript a b p] e pos) (hZ i xb xa hi hz).m:=⟨ms_putD ho.h hb.h he.h hs⟩
def w_ret(h:ME1 X e xa.m):MS1 X (.Return (some e) pos) (aZ xa).m:=r_1 h
def w_retO{hi}(h:ME1 X e (aa (ws:=ws) i).m):MS1 X (.Return (some e) pos) (jA (ws:=ws) i hi).m:=r_1 h
def w_if(hc:MT1 X e ta.m)(ha:MS2 X body da.m)(hb:MS2 X rest db.m):MS1 X (.If e body rest pos) (xIf ta da db).m:=⟨eG hc.h ha.h hb.h⟩
def w_bad:MS1 X st (xBad (ws:=ws)).m:=⟨ms_bad⟩
def w_sub {hi hz} (he:ME1 X e xa.m) (ho:ME1 X a (aa (ws:=ws) i).m) (hb:ME1 X b xb.m) (ha:∀v,assign (.Subscript a b p) X.env v=(do
   let ov <-holding [v] (eval a X.env)
   let iv <-holding [v,ov] (eval b X.env)
   standAt p
   holding [v,ov,iv] (setItem ov iv v)
   release [v,ov,iv] []))
  (hs:swapsWithSole [.Subscript a b p] e pos.line X.env=pure false) (hw:swappedStores [.Subscript a b p] e X.env=pure none) (h1:(assignEach [.Subscript a b p] X.env).map (·.2)=[assign (.Subscript a b p) X.env]):MS1 X (.Assign [.Subscript a b p] e pos) (i6 i xa xb hi hz).m:=⟨mJ he.h (md ho.h hb.h ha) hs hw h1⟩
section
variable (c:Wc X P w K mg base N W k sc)
include c
def w_for{xi:Xi ws}{xg:Xg ws}{hz}(hi:MI1 X tg e xi.m)(hg:MG1 X tg xg.m)(hb:MS2 X body da.m)(hs:∀x,foldedSetIterable e X.env x=pure x):MS1 X (.For tg e body [] pos) (dg xi xg da hz).m:=⟨lM c.g hi.h hg.h hb.h hs⟩
def w_wh{n hm}(hc:MT1 X e ta.m)(hb:MS2 X body da.m):MS1 X (.While e body [] pos) (xWh n ta da hm).m:=⟨xn c.g hc.h hb.h⟩
def w_setW{hi' hz}(hs:∀env:Env,env.scope=sc->swapsWith e (some (.Name x p)) pos.line env=pure false)(he:ME1 X e xa.m)(hi:N[i]?=some x)(hw:W[i]?=some x):MS1 X (.Assign [.Name x p] e pos) (aL i xa hi' hz).m:=⟨jP c.g i hi hw he.h (hs _ c.s)⟩
def w_setWO{hi' hz}(hs:∀env:Env,env.scope=sc->swapsWith e (some (.Name x p)) pos.line env=pure false)(he:ME1 X e xa.m)(hi:N[i]?=some x)(hw:W[i]?=some x):MS1 X (.Assign [.Name x p] e pos) (c7 i xa hi' hz).m:=⟨jP c.g i hi hw he.h (hs _ c.s)⟩
def w_par{x y:Str}{px py pt pt2:Pos}{kt k2}{hi' hj' hz}(hw:∀env:Env,env.scope=sc->swappedStores [.Tuple [.Name x px,.Name y py] kt pt] (.Tuple [a,b] k2 pt2) env=pure (some [x,y]))(ha:MAs X [a,b] sa.m)(hi:N[i]?=some x)(hj:N[j]?=some y)(hij:i≠j)(hx:sc.names.lookup x=some .local)(hy:sc.names.lookup y=some .local)
  (hs:swapsWithSole [.Tuple [.Name x px,.Name y py] kt pt] (.Tuple [a,b] k2 pt2) pos.line X.env=pure false):MS1 X (.Assign [.Tuple [.Name x px,.Name y py] kt pt] (.Tuple [a,b] k2 pt2) pos) (nG i j sa hi' hj' hz).m:=⟨ms_par c.g i j hi hj hij ha.h (by rw[c.s];exact hx) (by rw[c.s];exact hy) (hw _ c.s) hs⟩
end
def fnW{F:Fn}{np:Nat}{ws:List Nat}{B:Xd ws}{hw}(N:List Str)(b:Ba P w K mg base)(D:DefAt K x st)(hb:∀X:Cx,Wc X P w K mg base N N k (av st)->DefCx X->MS2 X (aK st) B.m)(hF:F=bR N.length np B hw:=by rfl)
  (Bi:iY x st (N.take np):=by first | exact fun _ _ _ _ _ _=>ar1 fun _=>rfl | exact fun _ _ _ _ _ _=>ar2 fun _ _=>rfl | exact fun _ _ _ _ _ _=>ar3 fun _ _ _=>rfl | exact fun _ _ _ _ _ _=>ar4 fun _ _ _ _=>rfl | exact fun _ _ _ _ _ _=>ar5 fun _ _ _ _ _=>rfl)
  (S:FnScope N (N.take np) (av st):=by exact⟨rfl,rfl,rfl,by decide +kernel,rfl,by decide +kernel,by decide +kernel⟩)
  (hl:∀y∈N,(av st).names.lookup y=some .local\/(av st).names.lookup y=some .cell:=by decide +kernel) (hgl:∀y∈sGl (av st),(av st).names.lookup y=some .globalImplicit:=by decide +kernel)
  (dbg:∀x∈N++sGl (av st),(x == ("__debug__":Str))=false/\(x == ("__classdict__":Str))=false/\x≠"__name__":=by decide +kernel) (hp:(N.take np).length=np:=by rfl) :
  FnAt P w K mg base x (N.take np) F.m (k+1):=by
 have q:=uV b.kin b.ns D S Bi hl hgl dbg fun X e1 e2 e3 e4 e5 e6 g dc=>(hb X ⟨g,⟨e1,e2,e3,e4,e5,b⟩,e6⟩ dc).h;rw[hp] at q;subst hF;exact q
end
end MM
namespace SortT
open PySem PyProof.Rows PySem.W
def hG(h:Heap)(rk:Value->Int)(v:Value):Prop:=∃b o xs m t,v=.ref b/\h.get? b=some o/\o.cls=.type "tuple"/\o.data=.seq xs m/\xs[0]?=some (.int (rk v) t)
def i5(n:Nat)(c:Nat->Nat->Bool):KasT (Array Nat)->Option (Array Nat)
 | .ret p=>some p
 | .ask i j k=>if i<n/\j<n then i5 n c (k (c i j)) else none
def oX(l:List Nat):Bool:=match i5 l.length (fun i j=>decide (l.getD i 0<l.getD j 0)) (kas_sort l.length) with
 | some p=>p.toList.isPerm (List.range l.length) && decide ((p.toList.map fun i=>l.getD i 0).Pairwise (·<=·))
 | none=>false
def fV(ks:List Int):Prop:=∃l:List Nat,oX l=true/\l.length=ks.length/\∀i j:Nat,i<ks.length->j<ks.length->(ks.getD i 0<ks.getD j 0↔l.getD i 0<l.getD j 0)
section
variable {prog:Program} {w:World} {A:Around} {E:Value→Shared→Prop} {s:Shared} {rk:Value→Int} {vs:List Value}
def rP{v:Value}{Q:Bool->Shared->Prop}(hv:(v == v)=true)(h:Q true s):wpAny (model prog w) A (eqBool v v) Q E s:=by
 unfold eqBool;refine wpAny_holding ?_;rw[qan hv];exact qad (wpAny_rule (qat h))
def qg{b:Bool}{Q:Bool->Shared->Prop}(h:Q fin s):∀(xs:List Value) (i:Nat),(∀v∈xs,(v == v)=true)->KatLex prog w A b fin Q (xs.zip xs) i s
 | [],_,_=>kat_nil h
 | x::xs,i,hv=>by
  rw[qbD];exact kat_cons (rP (hv x qaI) (kat_yes (qg h xs (i+1) fun v z=>hv v (qaf _ z))))
def o3(rk:Value->Int)(vs:List Value):Prop:=∀x∈vs,∀y∈vs,rk x=rk y->x=y
def row_lt{x1 y1:Value}{Q:Bool->Shared->Prop}(hk:∀v∈vs,hG s.heap rk v)(nd:o3 rk vs)(gx:x1∈vs)(gy:y1∈vs)(q':Q (decide (rk x1<rk y1)) s):wpAny (model prog w) A (keyLt' (tuples' true) x1 y1) Q (fun _ _=>False) s:=by
 obtain⟨ax,ox,ix,nx,tx,ex,hox,_,hdx,hix⟩:=hk x1 gx;obtain⟨ay,oy,iy,ny,ty,ey,hoy,_,hdy,hiy⟩:=hk y1 gy;by_cases z:rk x1=rk y1
 ·have e:=nd x1 gx y1 gy z;subst e;have e0:decide (rk x1<rk x1)=decide (ix.size<ix.size):=by simp
  rw[e0] at q';rw[ex];exact kat_lt hox hdx hox hdx (qg q' _ _ fun v _=>beq_self_eq_true v)
 ·rw[ex,ey];refine kat_lt hox hdx hoy hdy ?_;obtain⟨rx,e1⟩:∃r,ix.toList=.int (rk x1) tx::r:=by
   cases e:ix.toList with
   | nil=>rw[<-qbd,e] at hix;cases hix
   | cons a r=>rw[<-qbd,e] at hix;cases hix;exact⟨r,rfl⟩
  obtain⟨ry,e2⟩:∃r,iy.toList=.int (rk y1) ty::r:=by
   cases e:iy.toList with
   | nil=>rw[<-qbd,e] at hiy;cases hiy
   | cons a r=>rw[<-qbd,e] at hiy;cases hiy;exact⟨r,rfl⟩
  rw[e1,e2,qbD];refine kat_cons (wpAny_eqBool_int ?_)
  have:(rk x1 == rk y1)=false:=by simpa using z
  rw[this];exact kat_no (oneLt_int q')
def pU{i:Nat}(h:i<vs.length):vs.getD i Value.none∈vs:=by
 rw[qaa,qae h];exact qaL h
def wp{G:Array Nat->Shared->Prop}(hk:∀v∈vs,hG s.heap rk v)(nd:o3 rk vs){c:Nat->Nat->Bool}(hc:∀i j,i<vs.length->j<vs.length->c i j=decide (rk (vs.getD i Value.none)<rk (vs.getD j Value.none))){p:Array Nat}(g:G p s) :
  ∀t:KasT (Array Nat),i5 vs.length c t=some p->t.kasWp (kas_ask prog w A (tuples' true) vs) G s
 | .ret a,e=>by cases e;exact g
 | .ask i j k,e=>by
  unfold i5 at e;by_cases z:i<vs.length/\j<vs.length
  ·rw[qan z] at e;show kas_ask prog w A (tuples' true) vs i j _ s;unfold kas_ask;refine row_lt hk nd (pU z.1) (pU z.2) ?_;rw[<-hc i j z.1 z.2];exact wp hk nd hc g _ e
  ·rw[qaz z] at e;cases e
def hG.up{h h':Heap}{v:Value}(k:∀b o,h.get? b=some o->o.cls=.type "tuple"->h'.get? b=some o)(r:hG h rk v):hG h' rk v :=
 let ⟨b,o,xs,m,t,e,g,c,d⟩:=r;⟨b,o,xs,m,t,e,k b o g c,c,d⟩
def pT{Q:SortKind->Shared->Prop}(hk:∀v∈vs,hG s.heap rk v)(h1:0<vs.length)(h:Q (tuples' true) s):wpAny (model prog w) A (keyKind' vs.toArray) Q E s:=by
 have key:∀us:List Value,(∀v∈us,hG s.heap rk v)->∃fs:List Value,fs.length=us.length/\KatTups s.heap us fs/\∀v∈fs,∃i t,v=.int i t:=by
  intro us
  induction us with
  | nil=>exact fun _=>⟨[],rfl,KatTups.nil,fun v hv=>by cases hv⟩
  | cons u us ih =>
   intro hall;obtain⟨fs,f1,f2,f3⟩:=ih fun v hv=>hall v (qaf _ hv);obtain⟨b,o,xs,m,t,e,g,c,d,f⟩:=hall u qaI;rw[e] at f ⊢;refine⟨.int (rk (.ref b)) t::fs,by simp[f1],KatTups.cons g c d f f2,fun v hv=>?_⟩;rcases qam.mp hv with rfl|hv
   ·exact⟨_,_,rfl⟩
   ·exact f3 v hv
 obtain⟨fs,f1,f2,f3⟩:=key vs hk;refine kat_kind (T:=.type "int") f2 (by lia) (fun v hv=>?_) (by decide) h;obtain⟨i,t,rfl⟩:=f3 v hv;exact .now
def ok_out(ok:fV (vs.map rk))(h64:vs.length<64):∃p:Array Nat,i5 vs.length (fun i j=>decide (rk (vs.getD i Value.none)<rk (vs.getD j Value.none))) (kas_sort vs.length)=some p/\(p.toList.map fun i=>vs.getD i Value.none).Perm vs/\((p.toList.map fun i=>vs.getD i Value.none).map rk).Pairwise (·<=·):=by
 obtain⟨l,h1,h2,h3⟩:=ok;rw[qaC] at h2 h3;have gk:∀i,i<vs.length->(vs.map rk).getD i 0=rk (vs.getD i Value.none):=fun i hi=>by simp[qaa,hi]
 have run:∀t:KasT (Array Nat),i5 vs.length (fun i j=>decide (rk (vs.getD i Value.none)<rk (vs.getD j Value.none))) t=i5 l.length (fun i j=>decide (l.getD i 0<l.getD j 0)) t:=by
  intro t;rw[h2]
  induction t with
  | ret a=>rfl
  | ask i j k ih =>
   unfold i5;by_cases z:i<vs.length/\j<vs.length
   ·rw[qan z,qan z];have e:=h3 i j z.1 z.2;rw[gk i z.1,gk j z.2] at e;rw[decide_eq_decide.mpr e,ih]
   ·rw[qaz z,qaz z]
 unfold oX at h1
 cases e:i5 l.length (fun i j=>decide (l.getD i 0<l.getD j 0)) (kas_sort l.length) with
 | none=>rw[e] at h1;cases h1
 | some p =>
  rw[e] at h1;dsimp only at h1;rw[qbB,decide_eq_true_eq] at h1;have pm:=List.isPerm_iff.mp h1.1;rw[h2] at pm;have lt:∀i∈p.toList,i<vs.length:=fun i hi=>qau.mp (pm.mem_iff.mp hi);refine⟨p,by rw[run,<-h2,e],?_,?_⟩
  ·have a:=pm.map fun i=>vs.getD i Value.none;refine a.trans (List.Perm.of_eq ?_);apply qbm
   ·simp
   ·intro i x1 x2;simp[qaa,x2]
  ·have b:=h1.2;rw[qaV] at b;rw[qaV,qaV];refine (List.Pairwise.and_mem.mp b).imp fun {a b} q=>?_
   have:=h3 b a (lt b q.2.1) (lt a q.1)
   rw[gk b (lt b q.2.1),gk a (lt a q.1)] at this;lia
def vC(ho:s.heap.get? a=some (seqObj "list" vs.toArray n))(hk:∀v∈vs,hG s.heap rk v)(nd:o3 rk vs)(ok:fV (vs.map rk))(h64:vs.length<64)
  (h:∀out:List Value,out.Perm vs->(out.map rk).Pairwise (·<=·)->P (.done (.ret .none)) { s with heap:=sortedHeap s.heap a vs out.toArray}) :
  wpAny (model prog w) A (Builtin.«list.sort» ⟨[.ref a],[]⟩) P E s:=by
 rw[list_sort_plain];have ha:a<s.heap.objs.size:=qaq ho;have hfits:vs.length<=sizeLine:=by rw[sizeLine_eq];lia
 refine qad (listItems_at ho rfl ?_);refine qad (listUpdate_at ho rfl ?_ (by rw[qav];exact hfits) (qbl _));obtain⟨e1,ho1⟩:∃e1,(s.heap.update a (Obj.mapSeq fun _=>(#[]:Array Value))).get? a=some (seqObj "list" #[] e1):=⟨_,get?_update_seq ho fun _=>#[]⟩;refine qad (seqEpoch_at ho1 rfl ?_);refine qad (wpAny_newTuple ?_ (by show vs.length<=_;exact hfits));refine qad (wpAny_newList ?_ (qbl _));refine wpAny_holding ?_;have ho6:(((s.heap.update a (Obj.mapSeq fun _=>(#[]:Array Value))).push (seqObj "tuple" vs.toArray 0)).push (seqObj "list" #[] 0)).get? a=some (seqObj "list" #[] e1) :=
  qac _ (qac _ ho1)
 show wpAny (model prog w) A _ P E { s with heap:=((s.heap.update a (Obj.mapSeq fun _=>(#[]:Array Value))).push (seqObj "tuple" vs.toArray 0)).push (seqObj "list" #[] 0)};have hk6:∀v∈vs,hG (((s.heap.update a (Obj.mapSeq fun _=>(#[]:Array Value))).push (seqObj "tuple" vs.toArray 0)).push (seqObj "list" #[] 0)) rk v:=fun v hv=>(hk v hv).up fun b o hb hc=>by
  have hne':b≠a:=by
   rintro rfl;rw[ho] at hb;cases hb;have hc':Value.type "list"=Value.type "tuple":=hc;exact absurd hc' (by decide)
  exact qac _ (qac _ ((qbL _ _ _ _ hne').trans hb))
 have hsz:vs.toArray.size=vs.length:=by simp
 dsimp only;by_cases h2:vs.toArray.size<2
 ·rw[qan h2,qan h2];refine qad (qat ?_);rw[StateT.run_pure];refine qad (qat ?_);dsimp only;refine qad (seqEpoch_at ho6 rfl ?_);have hz:((vs.toArray.zip vs.toArray).map (·.2))=vs.toArray:=by
   apply Array.toList_inj.mp;simp only[Array.toList_map,Array.toList_zip,List.toList_toArray];exact List.map_snd_zip (qak _)
  refine qad (listUpdate_at ho6 rfl ?_ (qbl _) (by show ((vs.toArray.zip vs.toArray).map (·.2)).size<=_;rw[hz,hsz];lia));simp only[bne_self_eq_false,qar,if_false];refine qat ?_
  have:=h vs (List.Perm.refl _) (by
   match vs,hsz▸h2 with
   | [],_=>simp
   | [x],_=>simp)
  have e:(arrOf (SortSt.mk' general' (vs.toArray.zip vs.toArray) #[] 7 none)).map (·.2)=vs.toArray:=hz;rw[e];exact this
 ·rw[qaz h2,qaz h2];refine qad (pT (s:={ s with heap:=_}) hk6 (by lia) ?_);obtain⟨p,hp,pm,pw⟩:=ok_out ok h64
  refine qad (wpAny_mono (kat_run (Q:=fun st' s'=>(arrOf st').map (·.2)=(p.toList.map fun i=>vs.getD i Value.none).toArray/\failedOf st'=none/\s'={ s with heap:=((s.heap.update a (Obj.mapSeq fun _=>(#[]:Array Value))).push (seqObj "tuple" vs.toArray 0)).push (seqObj "list" #[] 0)})
   (G:=fun p' s'=>p'=p/\s'={ s with heap:=((s.heap.update a (Obj.mapSeq fun _=>(#[]:Array Value))).push (seqObj "tuple" vs.toArray 0)).push (seqObj "list" #[] 0)}) rfl (by lia) h64 (fun p' st' s' _ a2 a3 ⟨a4,a5⟩=>by subst a4;exact⟨kat_snds rfl a2,a3,a5⟩)
   (wp (s:={ s with heap:=((s.heap.update a (Obj.mapSeq fun _=>(#[]:Array Value))).push (seqObj "tuple" vs.toArray 0)).push (seqObj "list" #[] 0)}) hk6 nd (fun i j _ _=>rfl) ⟨rfl,rfl⟩ _ hp)) ?_ fun _ _ e=>e)
  rintro⟨⟨⟩,st'⟩ s' ⟨hout,hf,rfl⟩;dsimp only;refine qad (seqEpoch_at ho6 rfl ?_);have hz:((arrOf st').map (·.2)).size=vs.length:=by rw[hout,qav,pm.length_eq]
  refine qad (listUpdate_at ho6 rfl ?_ (qbl _) (by show ((arrOf st').map (·.2)).size<=_;rw[hz];lia));rw[hf];simp only[bne_self_eq_false,qar,if_false];refine qat ?_;rw[hout];exact h _ pm pw
def uI{T:String}{p:Addr}{o:Obj}{m:Nat}{Q:List Value->Shared->Prop}(hT:T="list"\/T="tuple")(hp:s.heap.get? p=some o)(hc:o.cls=.type T)(hd:o.data=.seq vs.toArray m)(hz:vs.length<=sizeLine)
  (h:Q vs { s with heap:=(s.heap.push (seqObj "list" #[] 0)).update s.heap.objs.size (Obj.mapSeq (·++vs.toArray))}):wpAny (model prog w) A (collect (.ref p)) Q E s:=by
 have hp':(s.heap.push (seqObj "list" #[] 0)).get? p=some o:=qac _ hp;have h0:(s.heap.push (seqObj "list" #[] 0)).get? s.heap.objs.size=some (seqObj "list" #[] 0):=qax _ rfl;have br:(Value.type T == Value.type "list" || Value.type T == Value.type "tuple")=true:=by rcases hT with rfl|rfl <;> rfl
 unfold collect;refine qad (wpAny_runValue (codeAny_builtin entry_proto_collect' (qad (wpAny_newList (qat ⟨Code.quiet_builtin _ (by decide +kernel),codeAny_builtin entry_list_iadd' ?_⟩)))));show wpAny _ _ (Builtin.List.listExtendWith (.ref s.heap.objs.size) (.ref p) _) _ _ { s with heap:=s.heap.push (seqObj "list" #[] 0)};unfold Builtin.List.listExtendWith;refine qad (wpAny_typeOf (T:=T) ⟨o,hp',hc⟩ ?_);rw[qan (by rw[Bool.or_assoc,br,Bool.or_true])];refine qad (listItems_at hp' hd (qad (listItems_at h0 rfl ?_)));rw[qaz (by simp)];refine qad (listUpdate_at h0 rfl (qat ?_) (qbl _) (by show (#[]++vs.toArray).size<=_;simp;lia));show wpAny _ A (load s.heap.objs.size >>= _) _ _ _;refine qad (wpAny_load (get?_update_seq h0 _) ?_);have e:((#[]:Array Value)++vs.toArray).toList=vs:=by simp
 show wpAny _ _ (pure _) _ _ _;rw[e];exact qat h
def rN{T:String}{p:Addr}{o:Obj}{m:Nat}{Q:Value->Shared->Prop}(hT:T="list"\/T="tuple")(hp:s.heap.get? p=some o)(hc:o.cls=.type T)(hd:o.data=.seq vs.toArray m)(hk:∀v∈vs,hG s.heap rk v)(nd:o3 rk vs)(ok:fV (vs.map rk))(h64:vs.length<64)
  (h:∀(h':Heap) (l:Addr) (out:List Value),(∀b o',s.heap.get? b=some o'->h'.get? b=some o')->s.heap.objs.size<=l->(∃c,h'.get? l=some (seqObj "list" out.toArray c))->out.Perm vs->(out.map rk).Pairwise (·<=·)->Q (.ref l) { s with heap:=h'}) :
  wpAny (model prog w) A (call (.builtin "sorted") [.ref p]) Q E s:=by
 have hfits:vs.length<=sizeLine:=by rw[sizeLine_eq];lia
 refine Calls.call_function_entry kind_sorted plain_sorted entry_sorted (args_sorted1 _) ?_;unfold Builtin.«sorted»;refine qad (m:=checkCount "sorted" 1 1 _) (qat (qad (uI hT hp hc hd hfits (qad (wpAny_newList ?_ hfits)))));generalize e1:(s.heap.push (seqObj "list" #[] 0)).update s.heap.objs.size (Obj.mapSeq (·++vs.toArray))=h1;have x1:∀b o,s.heap.get? b=some o->h1.get? b=some o:=fun b o z=>by
  rw[<-e1,qbL _ _ _ _ (qaM (qaq z))];exact qac _ z
 have hle:s.heap.objs.size<=h1.objs.size:=by rw[<-e1,Heap.size_update,size_push'];exact qbZ _
 have hoL:(h1.push (seqObj "list" vs.toArray 0)).get? h1.objs.size=some (seqObj "list" vs.toArray 0):=qax _ rfl;have up:∀b o,h1.get? b=some o->(h1.push (seqObj "list" vs.toArray 0)).get? b=some o:=fun b o e=>qac _ e
 refine qad (wpAny_holding (wpAny_call_entry slot_list_sort ⟨_,hoL,rfl⟩ entry_list_sort
  (vC (s:={ s with heap:=h1.push (seqObj "list" vs.toArray 0)}) hoL (fun v hv=>(hk v hv).up fun b o hb _=>up b o (x1 b o hb)) nd ok h64 fun out pv r2=>⟨_,rfl,?_⟩) (args_list_sort _)))
 refine qat ⟨_,rfl,h _ h1.objs.size out (fun b o e=>?_) hle (lQ hoL _) pv r2⟩;exact ld (qaM (qaq (x1 b o e))) (up b o (x1 b o e)) _
end
end SortT
namespace SortT
def chk(n:Nat):Nat->List Nat->Bool
 | 0,l=>oX l
 | f+1,l=>(List.range n).all fun x=>l.contains x || chk n f (l++[x])
def vb{n:Nat}:∀(f:Nat) (l m:List Nat),m.length=f->chk n f l=true->(l++m).Nodup->(∀x∈m,x<n)->oX (l++m)=true
 | 0,l,[],_,h,_,_=>by rw[qbG];exact h
 | f+1,l,x::m,hl,h,nd,lt=>by
  unfold chk at h
  have:=qcs.mp h x (qau.mpr (lt x (by simp)))
  have nx:l.contains x=false:=by
   rw[qbR] at nd
   cases e:l.contains x with
   | false=>rfl
   | true=>exact absurd rfl (nd.2.2 x (by simpa using e) x (by simp))
  rw[nx,Bool.false_or] at this;have e:l++x::m=(l++[x])++m:=by simp
  rw[e] at nd ⊢;exact vb f _ m (by simpa using hl) this nd fun y hy=>lt y (qaf _ hy)
def chk6:∀n<7,chk n n []=true:=by decide +kernel
def vP{k m:Int}{ks:List Int}(h:k<m)(hk:k∈ks):ks.countP (fun x=>decide (x<k))<ks.countP (fun x=>decide (x<m)):=by
 have le:∀l:List Int,l.countP (fun x=>decide (x<k))<=l.countP (fun x=>decide (x<m)):=fun l=>List.countP_mono_left fun x _ hx=>by simp at hx ⊢;lia
 induction ks with
 | nil=>cases hk
 | cons a l ih =>
  rw[List.countP_cons,List.countP_cons];rcases qam.mp hk with rfl|hk
  ·have:=le l
   rw[qaz (by simp),qan (by simpa using h)];lia
  ·have:=ih hk
   by_cases z:a<k
   ·rw[qan (by simpa using z),qan (by simp;lia)];lia
   ·rw[qaz (by simpa using z)];split <;> lia
def few_ok{ks:List Int}(nd:ks.Nodup)(h6:ks.length<=6):fV ks:=by
 have key:∀k∈ks,∀m∈ks,(k<m↔ks.countP (fun x=>decide (x<k))<ks.countP (fun x=>decide (x<m))):=fun k hk m hm=>by
  constructor
  ·exact fun h=>vP h hk
  ·intro h;rcases Int.lt_trichotomy k m with z|z | z
   ·exact z
   ·subst z;lia
   ·have:=vP z hm;lia
 refine⟨ks.map fun k=>ks.countP fun x=>decide (x<k),?_,by simp,fun i j hi hj=>?_⟩
 ·have:=vb (n:=ks.length) ks.length [] (ks.map fun k=>ks.countP fun x=>decide (x<k)) (by simp) (chk6 _ (by lia)) (by
   rw[qcA];refine qaV.mpr ((List.Pairwise.and_mem.mp nd).imp fun {a b} q e=>?_);rcases Int.lt_trichotomy a b with z|z | z
   ·have:=(key a q.1 b q.2.1).mp z;lia
   ·exact q.2.2 z
   ·have:=(key b q.2.1 a q.1).mp z;lia) fun x hx=>by
   obtain⟨k,hk,rfl⟩:=qaB.mp hx;have h1:=List.countP_le_length (p:=fun x=>decide (x<k)) (l:=ks)
   have:ks.countP (fun x=>decide (x<k))≠ks.length:=fun e=>by
    have:=List.countP_eq_length.mp e k hk
    simp at this
   lia
  rwa [qcA] at this
 ·have e:∀i,i<ks.length->∃k∈ks,ks.getD i 0=k/\(ks.map fun k=>ks.countP fun x=>decide (x<k)).getD i 0=ks.countP fun x=>decide (x<k):=fun i hi=>⟨ks[i],qaL hi,by simp[qaa,hi],by simp[qaa,hi]⟩;obtain⟨k,hk,e1,e2⟩:=e i hi;obtain⟨m,hm,e3,e4⟩:=e j hj;rw[e1,e2,e3,e4];exact key k hk m hm
end SortT
namespace MM
open PySem PySem.Spec PyProof.Rows L2
local instance (priority:=1) cdec43 (p:Prop):Decidable p:=Classical.propDecidable p
section
variable {α β:Type}
def cb(f:α->Int)(x:α):List α->List α
 | []=>[x]
 | y::r=>if f x<=f y then x::y::r else y::cb f x r
def aU(f:α->Int)(l:List α):List α:=l.foldr (cb f) []
def jz(f:α->Int)(x:α):∀l,(cb f x l).Perm (x::l)
 | []=>.refl _
 | y::r=>by
  unfold cb;split
  ·exact .refl _
  ·exact ((jz f x r).cons y).trans (.swap x y r)
def cm(f:α->Int):∀l,(aU f l).Perm l
 | []=>.refl _
 | x::l=>(jz f x (aU f l)).trans ((cm f l).cons x)
def nX(f:α->Int)(x:α):∀l:List α,l.Pairwise (fun a b=>f a<=f b)->(cb f x l).Pairwise (fun a b=>f a<=f b)
 | [],_=>by simp[cb]
 | y::r,h=>by
  have h':=qbM.mp h;unfold cb;split
  ·rename_i z
   refine qbM.mpr ⟨fun a ha=>?_,h⟩;rcases qam.mp ha with q|q
   ·rw[q];exact z
   ·exact Int.le_trans z (h'.1 a q)
  ·rename_i z
   refine qbM.mpr ⟨fun a ha=>?_,nX f x r h'.2⟩;rcases qam.mp ((jz f x r).mem_iff.mp ha) with rfl|ha
   ·lia
   ·exact h'.1 a ha
def nY(f:α->Int):∀l:List α,(aU f l).Pairwise (fun a b=>f a<=f b)
 | []=>.nil
 | x::l=>nX f x _ (nY f l)
def oo(g:β->α)(f:α->Int)(x:β):∀l:List β,cb f (g x) (l.map g)=(cb (fun b=>f (g b)) x l).map g
 | []=>rfl
 | y::r=>by
  rw[qao];unfold cb;split
  ·rfl
  ·rw[oo g f x r];rfl
def ip(g:β->α)(f:α->Int):∀l:List β,aU f (l.map g)=(aU (fun b=>f (g b)) l).map g
 | []=>rfl
 | x::l=>by
  show cb f (g x) (aU f (l.map g))=(cb _ x (aU _ l)).map g;rw[ip g f l,oo]
def kY{f g:α->Int}{x:α}:∀{l:List α},f x=g x->(∀a∈l,f a=g a)->cb f x l=cb g x l
 | [],_,_=>rfl
 | y::r,hx,h=>by
  unfold cb;rw[hx,h y qaI,kY hx fun a ha=>h a (qaf _ ha)]
def kS{f g:α->Int}:∀{l:List α},(∀a∈l,f a=g a)->aU f l=aU g l
 | [],_=>rfl
 | x::l,h=>by
  have e:=kS (f:=f) (g:=g) (l:=l) fun a ha=>h a (qaf _ ha);show cb f x (aU f l)=cb g x (aU g l);rw[e];exact kY (h x qaI) fun a ha=>h a (qaf _ ((cm g l).mem_iff.mp ha))
def jY{f:α->Int}:∀{l:List α} {x y:α},(l.map f).Nodup->x∈l->y∈l->f x=f y->x=y
 | [],_,_,_,h,_,_=>by cases h
 | a::l,x,y,nd,hx,hy,e=>by
  rw[qao,qaN] at nd;rcases qam.mp hx with q1|q1
  ·rcases qam.mp hy with q2|q2
   ·exact q1.trans q2.symm
   ·exact absurd (qaB.mpr ⟨y,q2,e.symm.trans (congrArg f q1)⟩) nd.1
  ·rcases qam.mp hy with q2|q2
   ·exact absurd (qaB.mpr ⟨x,q1,e.trans (congrArg f q2)⟩) nd.1
   ·exact jY nd.2 q1 q2 e
def uy{f:α->Int}{l m:List α}(p:m.Perm l)(nd:(l.map f).Nodup)(h:m.Pairwise fun a b=>f a<=f b):m=aU f l :=
 List.Perm.eq_of_pairwise (fun a b ha hb x y=>jY nd (p.mem_iff.mp ha) ((cm f l).mem_iff.mp hb) (by lia)) h (nY f l) (p.trans (cm f l).symm)
end
def qd:PV->Option Int
 | .tup (.int k::_)=>some k
 | _=>none
def rkP(x:PV):Int:=(qd x).getD 0
def rkH(h:Heap)(v:Value):Int:=match v with
 | .ref b=>(match h.get? b with
  | some o=>(match o.data with
   | .seq xs _=>(match (xs[0]?:Option Value) with
    | some (.int k _)=>k
    | _=>0)
   | _=>0)
  | none=>0)
 | _=>0
def fSortR(xs:List PV)(h:MH):Out PV:=match xs with
 | [x]=>(match cT h x with
  | some ys=>if (∀y∈ys,(qd y).isSome=true)/\(ys.map rkP).Nodup/\SortT.fV (ys.map rkP)/\ys.length<64 then .ok (.loc h.length) (h++[.lst (aU rkP ys)]) else .bad
  | none=>.bad)
 | _=>.bad
inductive T3 (K:qab) (ρ:List Addr) (H:Hp):List PV->List V->List Value->List (PV × V × Value)->Prop
 | nil:T3 K ρ H [] [] [] []
 | cons {x:PV} {y:V} {u:Value} {xs:List PV} {ys:List V} {us:List Value} {ts:List (PV × V × Value)} (r:RP K ρ H x y) (v:aR y u) (t:T3 K ρ H xs ys us ts):T3 K ρ H (x::xs) (y::ys) (u::us) ((x,y,u)::ts)
section
variable {K:qab} {ρ:List Addr} {H:Hp}
def T3.ex:∀{xs:List PV} {ys:List V} {us:List Value},RPs K ρ H xs ys->aI ys us->∃ts,T3 K ρ H xs ys us ts
 | _,_,_,.nil,.nil=>⟨[],.nil⟩
 | _,_,_,.cons r rs,.cons v vs=>let ⟨ts,t⟩:=T3.ex rs vs;⟨_,.cons r v t⟩
def T3.maps:∀{xs:List PV} {ys:List V} {us:List Value} {ts:List (PV × V × Value)},T3 K ρ H xs ys us ts->xs=ts.map (·.1)/\us=ts.map (·.2.2)/\∀t∈ts,RP K ρ H t.1 t.2.1/\aR t.2.1 t.2.2
 | _,_,_,_,.nil=>⟨rfl,rfl,fun t h=>by cases h⟩
 | _,_,_,_,.cons r v t=>by
  obtain⟨e1,e2,h⟩:=t.maps;refine⟨by rw[e1];rfl,by rw[e2];rfl,fun q hq=>?_⟩;rcases qam.mp hq with rfl|hq
  ·exact⟨r,v⟩
  ·exact h q hq
def v7:∀{ts:List (PV × V × Value)},(∀t∈ts,RP K ρ H t.1 t.2.1/\aR t.2.1 t.2.2)->RPs K ρ H (ts.map (·.1)) (ts.map (·.2.1))/\aI (ts.map (·.2.1)) (ts.map (·.2.2))
 | [],_=>⟨.nil,.nil⟩
 | t::ts,h=>by
  obtain⟨a,b⟩:=v7 (ts:=ts) fun q hq=>h q (qaf _ hq);obtain⟨c,d⟩:=h t qaI;exact⟨.cons c a,.cons d b⟩
end
section
variable {X:Cx}
def xp:cO X (.builtin "sorted") fSortR:=by
 intro Il s σ H xs us Q I r ⟨ρ,h,ps,rh,rp,q⟩
 cases rp with
 | nil=>exact q.elim
 | @cons x y _ _ r1 t1 =>
  cases t1 with
  | cons _ _=>exact q.elim
  | nil =>
   unfold fSortR at q
   cases es:cT h x with
   | none=>simp only[es] at q;exact q.elim
   | some ys =>
    simp only[es] at q;by_cases z:(∀y∈ys,(qd y).isSome=true)/\(ys.map rkP).Nodup/\SortT.fV (ys.map rkP)/\ys.length<64
    ·rw[qan z] at q;obtain⟨a,zs,rfl,hsq,rzs⟩:=kf rh r1 es;obtain⟨u,rfl,rx⟩:=iz r;cases rx;obtain⟨T,o,m,its,hT,ho,hc,hd,rv⟩:∃(T:String) (o:Obj) (m:Nat) (its:List Value),(T="list"\/T="tuple")/\s.heap.get? a=some o/\o.cls=.type T/\o.data=.seq its.toArray m/\aI zs its:=by
      rcases hsq with hq|hq
      ·obtain⟨its,rv,pl,_⟩:=I.list hq;obtain⟨o,ho,hc,n,hd⟩:=pl.isList;exact⟨"list",o,n,its,.inl rfl,ho,hc,hd,rv⟩
      ·obtain⟨its,rv,⟨o,ho,hc,n,hd⟩,_⟩:=I.tuple hq;exact⟨"tuple",o,n,its,.inr rfl,ho,hc,hd,rv⟩
     obtain⟨ts,t3⟩:=T3.ex rzs rv;obtain⟨e1,e2,hm⟩:=t3.maps;have key:∀t∈ts,SortT.hG s.heap (rkH s.heap) t.2.2/\rkP t.1=rkH s.heap t.2.2:=fun t ht=>by
      obtain⟨rp,rl⟩:=hm t ht;have hk:=z.1 t.1 (by rw[e1];exact qaB.mpr ⟨t,ht,rfl⟩);obtain⟨t1,t2,t3⟩:=t;dsimp only at rp rl hk ⊢
      cases rp with
      | @tup ps a2 vs sq rps =>
       cases rl
       cases rps with
       | nil=>cases hk
       | @cons p0 v0 _ _ r0 rr =>
        cases r0 with
        | int i =>
         obtain⟨it2,rv2,⟨o2,g2,c2,n2,d2⟩,_⟩:=I.tuple sq
         cases rv2 with
         | cons w0 wr =>
          obtain⟨tk,rfl⟩:=w0;have e:rkH s.heap (.ref a2)=i:=by simp[rkH,g2,d2]
          exact⟨⟨a2,o2,_,n2,tk,rfl,g2,c2,d2,by rw[e];rfl⟩,by rw[e];rfl⟩
        | _=>cases hk
      | _=>cases hk
     have ek:ys.map rkP=its.map (rkH s.heap):=by
      rw[e1,e2,qaE,qaE];exact qaK fun t ht=>(key t ht).2
     have hl:its.length=ys.length:=by rw[e1,e2];simp
     refine SortT.rN (vs:=its) (rk:=rkH s.heap) hT ho hc hd (fun v hv=>?_) (fun x hx y hy e=>jY (ek▸z.2.1) hx hy e) (ek▸z.2.2.1) (by rw[hl];exact z.2.2.2) fun h' l out kp hsz ⟨c,hc'⟩ pv ri=>?_
     ·rw[e2] at hv;obtain⟨t,ht,rfl⟩:=qaB.mp hv;exact (key t ht).1
     ·have eo:out=aU (rkH s.heap) its:=uy pv (ek▸z.2.1) (qaV.mp ri);have et:aU (fun t:PV × V × Value=>rkP t.1) ts=aU (fun t=>rkH s.heap t.2.2) ts:=kS fun t ht=>(key t ht).2;obtain⟨ra,rb⟩:=v7 (K:=X.K) (ρ:=ρ) (H:=H) (ts:=aU (fun t:PV × V × Value=>rkP t.1) ts) fun t ht=>hm t ((cm _ _).mem_iff.mp ht);have s1:aU rkP ys=(aU (fun t:PV × V × Value=>rkP t.1) ts).map (·.1):=by rw[e1,ip]
      have s2:out=(aU (fun t:PV × V × Value=>rkP t.1) ts).map (·.2.2):=by rw[eo,et,e2,ip]
      rw[<-s1] at ra;rw[<-s2] at rb;have lz:((aU (fun t:PV × V × Value=>rkP t.1) ts).map (·.2.1)).length<=sizeLine:=by
       rw[<-ra.length,(cm rkP ys).length_eq,sizeLine_eq];have:=z.2.2.2;lia
      refine⟨.ref l,_,I.laid (o:=.lst ((aU (fun t:PV × V × Value=>rkP t.1) ts).map (·.2.1))) (t':=s.toks) kp hsz (show ObjOk X.prog X.w _ _ _ (.lst _) from⟨lz,out,c,rb,hc'⟩),rfl,?_⟩;obtain⟨rh3,l3⟩:=rh.new (I.hok.fresh hsz) (o:=.lst (aU rkP ys)) (ho:=.lst ((aU (fun t:PV × V × Value=>rkP t.1) ts).map (·.2.1))) ⟨_,rfl,ra⟩;exact q _ _ _ l3 rh3 (.loc (by rw[<-rh.len];simp))
    ·rw[qaz z] at q;exact q.elim
end
end MM
namespace PU
open PySem MM
local instance (priority:=1) cdecN25 (p:Prop):Decidable p:=Classical.propDecidable p
def ib:D->Option Int
 | .tup (.int k::_)=>some k
 | _=>none
def rkD(d:D):Int:=(ib d).getD 0
section
variable {q:Nat} {h:MH} {O:List Nat}
def tF{d:D}{v:PV}(r:Rp q h O d v)(e:(ib d).isSome=true):qd v=ib d:=by
 cases d with
 | tup ds =>
  cases ds with
  | nil=>cases e
  | cons d0 ds =>
   cases d0 with
   | int k =>
    obtain⟨xs,rfl,x,t,rfl,a,b⟩:=r;rw[show x=.int k from a];rfl
   | _=>cases e
 | _=>cases e
def qM{d:D}{v:PV}(r:Rp q h O d v)(e:rkP v=rkD d):∀{ds:List D} {vs:List PV},Rps q h O ds vs->(∀(i:Nat) a b,ds[i]?=some a->vs[i]?=some b->rkP b=rkD a)->Rps q h O (cb rkD d ds) (cb rkP v vs)
 | [],vs,rs,_=>by
  rw[show vs=[] from rs];exact⟨v,[],rfl,r,rfl⟩
 | d'::ds,vs,rs,hk=>by
  obtain⟨x,t,rfl,a,b⟩:=rs;unfold cb;rw[e,hk 0 d' x rfl rfl];split
  ·exact⟨v,x::t,rfl,r,x,t,rfl,a,b⟩
  ·exact⟨x,_,rfl,a,qM r e b fun i a b h1 h2=>hk (i+1) a b (by simpa using h1) (by simpa using h2)⟩
def vk{ds:List D}{vs:List PV}(r:Rps q h O ds vs)(hk:∀d∈ds,(ib d).isSome=true):(∀v∈vs,(qd v).isSome=true)/\vs.map rkP=ds.map rkD:=by
 induction ds generalizing vs with
 | nil=>rw[show vs=[] from r];exact⟨(fun v h=>by cases h),rfl⟩
 | cons d ds ih =>
  obtain⟨x,t,rfl,a,b⟩:=r;obtain⟨i1,i2⟩:=ih b fun d hd=>hk d (qaf _ hd);have e:=tF a (hk d qaI);refine⟨fun v hv=>?_,?_⟩
  ·rcases qam.mp hv with rfl|hv
   ·rw[e];exact hk d qaI
   ·exact i1 v hv
  ·rw[qao,qao,i2];simp[rkP,rkD,e]
def xv{ds:List D}{vs:List PV}(r:Rps q h O ds vs)(hk:∀d∈ds,(ib d).isSome=true):Rps q h O (aU rkD ds) (aU rkP vs):=by
 induction ds generalizing vs with
 | nil=>rw[show vs=[] from r];exact rfl
 | cons d ds ih =>
  obtain⟨x,t,rfl,a,b⟩:=r;have hk':∀d∈ds,(ib d).isSome=true:=fun d hd=>hk d (qaf _ hd);have r2:=ih b hk';show Rps q h O (cb rkD d (aU rkD ds)) (cb rkP x (aU rkP t));have e2:=(vk r2 fun z hz=>hk' z ((cm rkD ds).mem_iff.mp hz)).2;refine qM a (by simp[rkP,rkD,tF a (hk d qaI)]) r2 fun i a b h1 h2=>?_
  have:=congrArg (·[i]?) e2
  simpa [h1,h2] using this
end
def mO:OpN where
 k:=fun xs h=>(fSortR xs h).ne
 p:=fun as=>match as with
  | [d]=>d.items.bind fun ds=>if (∀d∈ds,(ib d).isSome=true)/\(ds.map rkD).Nodup/\SortT.fV (ds.map rkD)/\ds.length<64 then some (.lst (aU rkD ds)) else none
  | _=>none
 fr:=true
 ok {q h L O as xs d} bd w e:=by
  match as,e with
  | [d0],e =>
   obtain⟨x,rfl,wx⟩:=dQ w;dsimp only at e;rw[qbh] at e;obtain⟨ds,e1,e2⟩:=e;by_cases z:(∀d∈ds,(ib d).isSome=true)/\(ds.map rkD).Nodup/\SortT.fV (ds.map rkD)/\ds.length<64
   ·rw[qan z] at e2;cases e2;obtain⟨ys,e0,r⟩:=wx.seqOf e1;obtain⟨k1,k2⟩:=vk r z.1
    have:fSortR [x] h=.ok (.loc h.length) (h++[.lst (aU rkP ys)]):=by
     simp only[fSortR,e0];rw[qan ⟨k1,k2▸z.2.1,k2▸z.2.2.1,by rw[r.length];exact z.2.2.2⟩]
    show Gv q h O true (fSortR [x] h).ne _;rw[this];have r':=xv r z.1;have g:(h++[MO.lst (aU rkP ys)])[h.length]?=some (.lst (aU rkP ys)):=by simp
    have m1:Rps q (h++[MO.lst (aU rkP ys)]) O (aU rkD ds) (aU rkP ys):=r'.mv ⟨fun n hn _=>qal hn,fun o ho=>.inl ho⟩;have m2:Rps q (h++[MO.lst (aU rkP ys)]) (h.length::O) (aU rkD ds) (aU rkP ys):=r'.mv ⟨fun n hn _=>qal hn,fun o ho=>(qam.mp ho).elim (fun z=>.inr (Nat.le_of_eq z.symm)) .inl⟩;exact⟨_,_,rfl,⟨_,_,rfl,fun z=>by have:=bd _ z;lia,g,m1⟩,fun _ k ds' e=>by obtain⟨rfl,rfl⟩:=e9 e;exact⟨_,_,rfl,qak _,g,m2⟩⟩
   ·rw[qaz z] at e2;cases e2
end PU
namespace MM
open PySem L2
end MM
namespace Law
open PySem PySem.Spec PyProof.Rows L2 MM
set_option maxHeartbeats 4000000
noncomputable section
def m_l_pen:Mst:=(aJ (aP 2 (aj opAdd (aj opMul (mC (.int 7919)) (ag 1)) (mC (.int 11))))
 (aJ (mIf (mB (aj opLt (ag 1) (mCB fMin (ae (mCB fLen (ae (ag 0) mNil)) (ae (mC (.int 63)) mNil))))) (aP 2 (aj aH (ag 0) (ag 1))) (mIf (mB (aj opGt (mCB fLen (ae (ag 0) mNil)) (mC (.int 0)))) (aP 2 (aj opAdd (aj opMod (aj aH (ag 0) (aj opMod (ag 1) (mCB fMin (ae (mCB fLen (ae (ag 0) mNil)) (ae (mC (.int 63)) mNil))))) (aj opPow (mC (.int 10)) (mC (.int 15)))) (aj opMul (mC (.int 48271)) (ag 1)))) mSkip))
 (aJ (mIf (mB (aj opGe (mCB fAbs (ae (ag 2) mNil)) (aj opPow (mC (.int 10)) (mC (.int 18))))) (bB (d7 (ae (mC (.int 1)) (ae (mCB fAbs (ae (ag 2) mNil)) (ae (mC (.int 0)) mNil))))) mSkip)
 (bB (d7 (ae (mC (.int 0)) (ae (aj opAdd (aj opMod (ag 2) (mC (.int 2147483587))) (aj opMul (mC (.int 40009)) (ag 1))) (ae (mC (.int 0)) mNil))))))))
def fI:List PV->MH->Out PV:=eM 3 2 m_l_pen
def m_l_draw:Mst:=(aJ (jG (aj opAdd (aj aH (ag 0) (mC (.int 2))) (mC (.int 1))) (gSb (ag 0) (mC (.int 2))))
 (aJ (mIf (mB (aj opEq (aj aH (ag 0) (mC (.int 0))) (mC (.int 1)))) (aJ (aP 3 (aj opMod (aj aH (ag 0) (mC (.int 1))) (ag 1)))
 (aJ (jG (aj opFd (aj aH (ag 0) (mC (.int 1))) (ag 1)) (gSb (ag 0) (mC (.int 1))))
 (bB (ag 3)))) mSkip)
 (aJ (aP 2 (aj opMod (aj opMul (aj opAdd (aj opAdd (aj aH (ag 0) (mC (.int 1))) (aj opMul (mC (.int 40503)) (aj aH (ag 0) (mC (.int 2))))) (mC (.int 1))) (mC (.int 48271))) (mC (.int 2147483647))))
 (aJ (aP 2 (aj opMod (aj opMul (ag 2) (aj opAdd (aj opAdd (aj opMod (ag 2) (mC (.int 65521))) (aj aH (ag 0) (mC (.int 2)))) (mC (.int 3)))) (mC (.int 2147483629))))
 (bB (aj opMod (aj opFd (aj opMod (aj opMul (ag 2) (aj opAdd (aj opMod (ag 2) (mC (.int 8191))) (mC (.int 7)))) (mC (.int 2147483563))) (mC (.int 64))) (ag 1)))))))
def ck:List PV->MH->Out PV:=eM 4 2 m_l_draw
end
end Law
namespace Law
open PySem MM PU
open L2 (ixN atI fH)
set_option maxHeartbeats 4000000
noncomputable section
def e8:Xd []:=(aZ (ir (xUn (nJ ["int"]) (aa 0)) (o5 (xUn (nJ ["bool"]) (aa 0)))))
def dW:Fn:=bR 1 1 e8
def rC{ds:List D}{s:Pen}(h:ds.length=1):dW.p ds s=(e8.p (dSt 1 ds) s).fin:=bq h
def cC:Xd []:=(az (xWh 2000000 (xB (af oNe (aa 1) (xC (.int 0)))) (az (aL 2 (af jX (aa 0) (aa 1)))
 (az (aL 0 (aa 1))
 (aL 1 (aa 2)))) lS)
 (aZ (aa 0)))
def bA:Fn:=bR 3 2 cC
def jV{ds:List D}{s:Pen}(h:ds.length=2):bA.p ds s=(cC.p (dSt 3 ds) s).fin:=bq h
def d9:Xd []:=(az (xIf (xOr (gp (xB (ak dW (ac (aa 0) xNil)))) (gp (xB (ak dW (ac (aa 1) xNil))))) xBad xSkip)
 (az (xIf (xB (af oEq (aa 1) (xC (.int 0)))) xBad xSkip)
 (az (aL 2 (ak bA (ac (xCb mU (ac (aa 0) xNil)) (ac (xCb mU (ac (aa 1) xNil)) xNil))))
 (az (xIf (xB (af oLt (aa 1) (xC (.int 0)))) (aL 2 (xUn oNeg (aa 2))) xSkip)
 (aZ (bO (ac (af oFd (aa 0) (aa 2)) (ac (af oFd (aa 1) (aa 2)) xNil))))))))
def bN:Fn:=bR 3 2 d9
def qK{ds:List D}{s:Pen}(h:ds.length=2):bN.p ds s=(d9.p (dSt 3 ds) s).fin:=bq h
def iX:Xd []:=(aZ (ak bN (ac (af i4 (af bx (af oIx (aa 0) (xC (.int 0))) (af oIx (aa 1) (xC (.int 1)))) (af bx (af oIx (aa 1) (xC (.int 0))) (af oIx (aa 0) (xC (.int 1))))) (ac (af bx (af oIx (aa 0) (xC (.int 1))) (af oIx (aa 1) (xC (.int 1)))) xNil))))
def fB:Fn:=bR 2 2 iX
def xj{ds:List D}{s:Pen}(h:ds.length=2):fB.p ds s=(iX.p (dSt 2 ds) s).fin:=bq h
def fu:Xd []:=(az (aL 2 (xC (.int 0)))
 (az (aL 3 (xC (.int 1)))
 (az (dg (cA (aa 0)) (xGp (xGc (xNm 4) (xGc (xNm 5) xGl)) 2) (az (aL 2 (af cL (af bx (af bx (aa 2) (af oIx (aa 4) (xC (.int 1)))) (af oIx (aa 5) (xC (.int 1)))) (af bx (af bx (af oIx (aa 4) (xC (.int 0))) (af oIx (aa 5) (xC (.int 0)))) (aa 3))))
 (aL 3 (af bx (af bx (aa 3) (af oIx (aa 4) (xC (.int 1)))) (af oIx (aa 5) (xC (.int 1)))))))
 (aZ (af oEq (af bx (aa 2) (af oIx (aa 1) (xC (.int 1)))) (af bx (af oIx (aa 1) (xC (.int 0))) (aa 3)))))))
def cF:Fn:=bR 6 2 fu
def rO{ds:List D}{s:Pen}(h:ds.length=2):cF.p ds s=(fu.p (dSt 6 ds) s).fin:=bq h
def fw:Xd []:=(aZ (ba 2 [2] (bh iZ (ac (aa 0) (ac (aa 1) xNil))) (ws':=[]) (xGp (xGc (xNm 0) (xGc (xNm 1) xGl)) 2) xTrue (bO (ac (xDG (xCb oV (ac (af oIx (aa 0) (xC (.int 0))) xNil)) (ac (aa 2) (ac (xCT 0 1) xNil))) (ac (aa 1) xNil)))))
def dr:Fn:=bR 3 3 fw
def rQ{ds:List D}{s:Pen}(h:ds.length=3):dr.p ds s=(fw.p (dSt 3 ds) s).fin:=bq h
def gW:Xd []:=(az (aL 3 (ba 2 [] (bh iZ (ac (aa 1) (ac (aa 2) xNil))) (ws':=[]) (xGp (xGc (xNm 0) (xGc (xNm 1) xGl)) 2) xTrue (bO (ac (af oIx (aa 0) (xC (.int 1))) (ac (aa 1) xNil)))))
 (aZ (ir (ak cF (ac (aa 3) (ac (xCT 1 1) xNil))) (xCb cAll (ac (ba 1 [1,2] (bh iR1 (ac (aa 0) xNil)) (ws':=[]) (xNm 0) xTrue (ak cF (ac (ak dr (ac (aa 1) (ac (aa 2) (ac (aa 0) xNil)))) (ac (xCT 0 1) xNil)))) xNil)))))
def dn:Fn:=bR 4 3 gW
def uY{ds:List D}{s:Pen}(h:ds.length=3):dn.p ds s=(gW.p (dSt 4 ds) s).fin:=bq h
def cQ:Xd []:=(az (aL 1 (xC (.int 1)))
 (az (dg (cA (aa 0)) (xNm 2) (aL 1 (af oFd (af bx (aa 1) (af oIx (aa 2) (xC (.int 1)))) (ak bA (ac (aa 1) (ac (af oIx (aa 2) (xC (.int 1))) xNil))))))
 (aZ (aa 1))))
def cR:Fn:=bR 3 1 cQ
def k7{ds:List D}{s:Pen}(h:ds.length=1):cR.p ds s=(cQ.p (dSt 3 ds) s).fin:=bq h
def eB:Xd []:=(az (aL 3 (xCb oV (ac (af oIx (af oIx (aa 1) (aa 2)) (xC (.int 0))) xNil)))
 (az (aL 4 (af cL (ba 1 [3] (bh iR1 (ac (aa 0) xNil)) (ws':=[]) (xNm 0) xTrue (xDG (aa 1) (ac (aa 0) (ac (xCT 0 1) xNil)))) (d5 (ac (af oIx (af oIx (aa 1) (aa 2)) (xC (.int 1))) xNil))))
 (az (aL 5 (ak cR (ac (aa 4) xNil)))
 (az (aL 6 (ba 1 [5,2] (bh iR1 (ac (xCb dD (ac (aa 1) xNil)) xNil)) (ws':=[]) (xNm 0) xTrue (mY (xB (af oEq (aa 0) (aa 2))) (aa 1) (xC (.int 0)) true)))
 (aZ (af cL (ba 1 [5] (cA (aa 4)) (ws':=[]) (xNm 0) xTrue (af bx (af oIx (aa 0) (xC (.int 0))) (af oFd (aa 1) (af oIx (aa 0) (xC (.int 1)))))) (aa 6)))))))
def cX:Fn:=bR 7 3 eB
def pV{ds:List D}{s:Pen}(h:ds.length=3):cX.p ds s=(eB.p (dSt 7 ds) s).fin:=bq h
def fS:Xd []:=(aZ (ba 2 [3,1,2,0] (bh iZ (ac (aa 0) (ac (aa 1) xNil))) (ws':=[]) (xGp (xGc (xNm 0) (xGc (xNm 1) xGl)) 2) xTrue (af oFd (af i4 (af bx (af oIx (aa 3) (aa 4)) (aa 0)) (af bx (af oIx (aa 5) (aa 4)) (aa 1))) (aa 2))))
def cr:Fn:=bR 4 4 fS
def uz{ds:List D}{s:Pen}(h:ds.length=4):cr.p ds s=(fS.p (dSt 4 ds) s).fin:=bq h
def fT:Xd [2,3]:=(az (c7 2 xDic)
 (az (c7 3 (ba 1 [0,1] (bh iR1 (ac (xCb dD (ac (aa 1) xNil)) xNil)) (ws':=[]) (xNm 0) xTrue (ak cX (ac (aa 1) (ac (aa 2) (ac (aa 0) xNil))))))
 (az (aL 4 (xC (.int 1)))
 (az (dg (bh iR1 (ac (aa 0) xNil)) (xNm 5) (az (aL 6 (ba 2 [5] (bh iE (ac (aa 3) xNil)) (ws':=[]) (xGp (xGc (xNm 0) (xGc (xNm 1) xGl)) 2) (xB (af oNe (af oIx (aa 1) (aa 2)) (xC (.int 0)))) (aa 0)))
 (xIf (xTr (aa 6)) (az (pP 7 aPopA 3 (ac (af oIx (aa 6) (xC (.int 0))) xNil))
 (az (c7 3 (ba 1 [7,5,4] (cA (aa 3)) (ws':=[]) (xNm 0) xTrue (ak cr (ac (aa 0) (ac (aa 1) (ac (aa 2) (ac (aa 3) xNil)))))))
 (az (dg (cA (xCb mm (ac (aa 2) xNil))) (xNm 8) (hZ 2 (aa 8) (ak cr (ac (af j3 (aa 2) (aa 8)) (ac (aa 7) (ac (aa 5) (ac (aa 4) xNil)))))))
 (az (hZ 2 (aa 5) (aa 7))
 (aL 4 (af oIx (aa 7) (aa 5))))))) xSkip)))
 (xFzD (ws':=[3]) 2 (xFz (ws':=[]) 3 (aZ (bO (ac (aa 2) (ac (aa 3) xNil))))))))))
def gc:Fn:=bR 9 2 fT
def ui{ds:List D}{s:Pen}(h:ds.length=2):gc.p ds s=(fT.p (dSt 9 ds) s).fin:=bq h
def fi:Xd []:=(aZ (ba 1 [1] (cA (aa 0)) (ws':=[]) (xNm 0) xTrue (ak bN (ac (aa 0) (ac (aa 1) xNil)))))
def cG:Fn:=bR 2 2 fi
def rq{ds:List D}{s:Pen}(h:ds.length=2):cG.p ds s=(fi.p (dSt 2 ds) s).fin:=bq h
def dU:Xd []:=(az (xIf (xB (af (k9 true) (aa 1) (aa 0))) (aZ (xCT 0 1)) xSkip)
 (aZ (ak bN (ac (af oIx (af j3 (aa 0) (aa 1)) (aa 2)) (ac (af oIx (af j3 (aa 0) (aa 1)) (aa 1)) xNil)))))
def bW:Fn:=bR 3 3 dU
def kW{ds:List D}{s:Pen}(h:ds.length=3):bW.p ds s=(dU.p (dSt 3 ds) s).fin:=bq h
def eD:Xd [3]:=(az (c7 3 (ba 1 [1,2] (bh iR1 (ac (aa 0) xNil)) (ws':=[]) (xNm 0) xTrue (ak fB (ac (xCT 0 1) (ac (ak bW (ac (aa 1) (ac (aa 0) (ac (aa 2) xNil)))) xNil)))))
 (az (i6 3 (xCT 1 1) (aa 2))
 (jA 3)))
def dz:Fn:=bR 4 3 eD
def p9{ds:List D}{s:Pen}(h:ds.length=3):dz.p ds s=(eD.p (dSt 4 ds) s).fin:=bq h
def fD:Xd []:=(az (aL 2 (ak gc (ac (aa 0) (ac (aa 1) xNil))))
 (az (aL 3 (af oIx (aa 2) (xC (.int 0))))
 (az (dg (cA (af oIx (aa 2) (xC (.int 1)))) (xNm 4) (xIf (xB (af oNe (af oIx (aa 4) (aa 0)) (xC (.int 0)))) (aZ (bO (ac (xC (.str "none")) (ac (ak cG (ac (xSl (aa 4) (xPt (af cL (aa 0) (xC (.int 1)))) xNo) (ac (af oIx (aa 4) (aa 0)) xNil))) xNil)))) xSkip))
 (az (aL 5 (ba 1 [3,0] (bh iR1 (ac (aa 0) xNil)) (ws':=[]) (xNm 0) xTrue (ak bW (ac (aa 1) (ac (aa 0) (ac (aa 2) xNil))))))
 (az (aL 6 (ba 2 [0] (pM (aa 3)) (ws':=[]) (xGp (xGc (xNm 0) (xGc (xNm 1) xGl)) 2) xTrue (ak cG (ac (xSl (aa 1) (xPt (af cL (aa 2) (xC (.int 1)))) xNo) (ac (af oIx (aa 1) (aa 0)) xNil)))))
 (az (aL 7 (ba 1 [0,3] (bh iR1 (ac (aa 0) xNil)) (ws':=[]) (xNm 0) (xB (af (k9 true) (aa 0) (aa 2))) (bO (ac (aa 0) (ac (ak dz (ac (aa 1) (ac (aa 2) (ac (aa 0) xNil)))) xNil)))))
 (az (xIf (xTr (aa 7)) (aZ (bO (ac (xC (.str "many")) (ac (aa 5) (ac (aa 7) (ac (aa 6) xNil)))))) xSkip)
 (aZ (bO (ac (xC (.str "one")) (ac (aa 5) (ac (aa 6) xNil))))))))))))
def bv:Fn:=bR 8 2 fD
def oq{ds:List D}{s:Pen}(h:ds.length=2):bv.p ds s=(fD.p (dSt 8 ds) s).fin:=bq h
def mW{h:MH}{p:Nat}{o:MO}(hp:p<h.length):(h.set p o)[p]?=some o:=qaD hp
def ix2:ixN 3 2=some 2:=iL (n:=3) (m:=2) (by decide)
def ix1:ixN 3 1=some 1:=iL (n:=3) (m:=1) (by decide)
def iM(s:Pen)(size:Int)(hs:0<size)(hl:size.natAbs.log2<9000):∃x:Int × Int,(0<=x.1/\x.1<size)/\∀(h:MH) (p:Nat),cv h p s->ck [.loc p,.int size] h=.ok (.int x.1) (h.set p (.lst [.int s.1,.int x.2,.int (s.2.2+1)])):=by
 obtain⟨m,c,t⟩:=s;have hs0:size≠0:=by ext
 have st:∀n:Int,0<=n.fmod size/\n.fmod size<size:=fun n=>by
  rw[qbs n (by ext)];exact⟨qbN n hs0,qbE n hs⟩
 by_cases hm:m=1
 ·subst hm;refine⟨(c.fmod size,c.fdiv size),st c,fun h p e=>?_⟩;have e:h[p]?=some (.lst [.int 1,.int c,.int t]):=e;have hp:p<h.length:=(qaj.mp e).1;have e2:(h.set p (.lst [.int 1,.int c,.int (t+1)]))[p]?=some (.lst [.int 1,.int c,.int (t+1)]):=mW hp;unfold ck;refine (kw (by rfl)).trans ?_;unfold m_l_draw;simp[cD,List.replicate,jn e,lC e,ix2,jn e2,fJ hs0,tL hs0,lC e2,ix1]
 ·have big:∀n k:Int,0<k->0<=n.fmod k/\n.fmod k<k:=fun n k hk=>by
   rw[qbs n (by ext)];exact⟨qbN n (by ext),qbE n hk⟩
  generalize ea:((c+40503 * (t+1)+1) * 48271).fmod 2147483647=A;have b1:=big ((c+40503 * (t+1)+1) * 48271) 2147483647 (by decide);rw[ea] at b1;generalize eb:(A * (A.fmod 65521+(t+1)+3)).fmod 2147483629=C;have b2:=big (A * (A.fmod 65521+(t+1)+3)) 2147483629 (by decide);rw[eb] at b2;refine⟨((((C * (C.fmod 8191+7)).fmod 2147483563).fdiv 64).fmod size,c),st _,fun h p e=>?_⟩;have e:h[p]?=some (.lst [.int m,.int c,.int t]):=e;have hp:p<h.length:=(qaj.mp e).1;have e2:(h.set p (.lst [.int m,.int c,.int (t+1)]))[p]?=some (.lst [.int m,.int c,.int (t+1)]):=mW hp;have c1:-(2 ^ 64)<A/\A<2 ^ 64:=by ext
  have c2:-(2 ^ 64)<C/\C<2 ^ 64:=by ext
  have k1:∀{i:Int} {h:MH},opMul (.int 40503) (.int i) h=.ok (.int (40503 * i)) h:=gK (by decide);have k2:∀{i:Int} {h:MH},opMul (.int i) (.int 48271) h=.ok (.int (i * 48271)) h:=opMul_r (by decide);unfold ck;refine (kw (by rfl)).trans ?_;unfold m_l_draw;simp[cD,List.replicate,jn e,lC e,ix2,jn e2,hm,k1,k2,fJ,ea,gK c1,eb,gK c2,tL (show (64:Int)≠0 by decide),fJ hs0]
open Classical in
def kL(s:Pen)(size:Int):Int × Int:=if z:0<size/\size.natAbs.log2<9000 then (iM s size z.1 z.2).choose else (0,0)
def mH(ds:List D):Option Int:=match ds with
 | [.pen,.int i]=>some i
 | _=>none
def tV{ds:List D}{i:Int}(e:mH ds=some i):ds=[.pen,.int i]:=by
 unfold mH at e
 split at e
 ·cases e;rfl
 ·cases e
open Classical in
def bi:Fn where
 m:=ck
 p:=fun ds s=>match mH ds with
  | some size=>if 0<size/\size.natAbs.log2<9000 then .ok (.int (kL s size).1) (s.1,(kL s size).2,s.2.2+1) else .bad
  | none=>.bad
 fr:=true
 ok {q h O vs ds s} bd hq pn r:=by
  cases e:mH ds with
  | none=>trivial
  | some size =>
   have:=tV e
   subst this;dsimp only;by_cases z:0<size/\size.natAbs.log2<9000
   ·rw[qan z];obtain⟨x,t,rfl,hx,y,t',rfl,hy,ht⟩:=r;rw[show x=PV.loc q from hx,show y=PV.int size from hy,show t'=[] from ht];have k:=(iM s size z.1 z.2).choose_spec.2 h q pn;have ed:kL s size=(iM s size z.1 z.2).choose:=by unfold kL;rw[dif_pos z]
    rw[<-ed] at k;refine⟨_,_,k,⟨by simp,fun n hn hp=>qai (Ne.symm hp)⟩,mW (bo pn),rfl,fun _ k ds e=>by cases k <;> cases e⟩
   ·rw[qaz z];trivial
def uu:bi.m=ck:=rfl
open Classical in
theorem df{s:Pen}{size:Int}(hs:0<size)(hl:size<=2000000000):∃d s',0<=d/\d<size/\bi.p [.pen,.int size] s=.ok (.int d) s':=by
 have hlog:size.natAbs.log2<9000:=by
  have h1:size.natAbs<=2000000000:=by ext
  have h2:size.natAbs.log2<31:=(Nat.log2_lt (by ext)).mpr (by ext);ext
 have z:0<size/\size.natAbs.log2<9000:=⟨hs,hlog⟩;have ed:kL s size=(iM s size z.1 z.2).choose:=by unfold kL;rw[dif_pos z]
 have k:=(iM s size z.1 z.2).choose_spec.1;rw[<-ed] at k;exact⟨_,_,k.1,k.2,by show (if 0<size/\size.natAbs.log2<9000 then _ else _)=_;rw[qan z]⟩
def eX:Xd []:=(az (nG 2 3 (ac (xCb mU (ac (aa 0) xNil)) (ac (xCb mU (ac (aa 1) xNil)) xNil)))
 (az (xWh 2000000 (xB (af oGt (aa 3) (xC (.int 0)))) (nG 2 3 (ac (aa 3) (ac (af jX (aa 2) (aa 3)) xNil))) lS)
 (az (xIf (xB (af oLt (aa 1) (xC (.int 0)))) (aL 2 (xUn oNeg (aa 2))) xSkip)
 (aZ (bO (ac (af oFd (aa 0) (aa 2)) (ac (af oFd (aa 1) (aa 2)) xNil)))))))
def bT:Fn:=bR 4 2 eX
def rF{ds:List D}{s:Pen}(h:ds.length=2):bT.p ds s=(eX.p (dSt 4 ds) s).fin:=bq h
def ft:Xd []:=(az (aL 1 (ak bi (ac (aa 0) (ac (xC (.int 8)) xNil))))
 (az (xIf (xB (af oEq (aa 1) (xC (.int 7)))) (aZ (ak bT (ac (af cL (af i4 (ak bi (ac (aa 0) (ac (af i4 (af bx (xC (.int 2)) (af pW (xC (.int 10)) (xC (.int 6)))) (xC (.int 1))) xNil))) (af pW (xC (.int 10)) (xC (.int 6)))) (xC (.int 1))) (ac (af cL (xC (.int 1)) (ak bi (ac (aa 0) (ac (af i4 (af pW (xC (.int 10)) (xC (.int 6))) (xC (.int 1))) xNil)))) xNil)))) xSkip)
 (aZ (ak bT (ac (af i4 (ak bi (ac (aa 0) (ac (xC (.int 13)) xNil))) (xC (.int 6))) (ac (af cL (xC (.int 1)) (ak bi (ac (aa 0) (ac (af oIx (d5 (ac (xC (.int 1)) (ac (xC (.int 1)) (ac (xC (.int 5)) xNil)))) (af jX (aa 1) (xC (.int 3)))) xNil)))) xNil))))))
def bU:Fn:=bR 2 1 ft
def rL{ds:List D}{s:Pen}(h:ds.length=1):bU.p ds s=(ft.p (dSt 2 ds) s).fin:=bq h
def gO:Xd []:=(az (aL 1 (ak bU (ac (aa 0) xNil)))
 (aZ (af oIx (d5 (ac (aa 1) (ac (bO (ac (af cL (xC (.int 1)) (ak bi (ac (aa 0) (ac (xC (.int 9)) xNil)))) (ac (xC (.int 1)) xNil))) xNil))) (xCb nr (ac (af oEq (af oIx (aa 1) (xC (.int 0))) (xC (.int 0))) xNil)))))
def ci:Fn:=bR 2 1 gO
def vM{ds:List D}{s:Pen}(h:ds.length=1):ci.p ds s=(gO.p (dSt 2 ds) s).fin:=bq h
def gT:Xd []:=(aZ (ak bT (ac (af cL (af bx (af oIx (aa 0) (xC (.int 0))) (af oIx (aa 1) (xC (.int 1)))) (af bx (af oIx (aa 1) (xC (.int 0))) (af oIx (aa 0) (xC (.int 1))))) (ac (af bx (af oIx (aa 0) (xC (.int 1))) (af oIx (aa 1) (xC (.int 1)))) xNil))))
def bI:Fn:=bR 2 2 gT
def vq{ds:List D}{s:Pen}(h:ds.length=2):bI.p ds s=(gT.p (dSt 2 ds) s).fin:=bq h
def f7:Xd []:=(aZ (ak bT (ac (af bx (af oIx (aa 0) (xC (.int 0))) (af oIx (aa 1) (xC (.int 0)))) (ac (af bx (af oIx (aa 0) (xC (.int 1))) (af oIx (aa 1) (xC (.int 1)))) xNil))))
def aO:Fn:=bR 2 2 f7
def t4{ds:List D}{s:Pen}(h:ds.length=2):aO.p ds s=(f7.p (dSt 2 ds) s).fin:=bq h
def fW:Xd []:=(az (aL 2 (bO (ac (xC (.int 0)) (ac (xC (.int 1)) xNil))))
 (az (dg (cA (aa 0)) (xGp (xGc (xNm 3) (xGc (xNm 4) xGl)) 2) (aL 2 (ak bI (ac (aa 2) (ac (ak aO (ac (aa 4) (ac (af oIx (aa 1) (aa 3)) xNil))) xNil)))))
 (aZ (aa 2))))
def eR:Fn:=bR 5 2 fW
def uC{ds:List D}{s:Pen}(h:ds.length=2):eR.p ds s=(fW.p (dSt 5 ds) s).fin:=bq h
def gg:Xd []:=(aZ (xCb iT (ac (ba 1 [0,2] (bh iR1 (ac (aa 1) xNil)) (ws':=[]) (xNm 0) (xB (af oEq (ak bi (ac (aa 1) (ac (aa 2) xNil))) (xC (.int 0)))) (bO (ac (aa 0) (ac (ak ci (ac (aa 1) xNil)) xNil)))) xNil)))
def eS:Fn:=bR 3 3 gg
def uo{ds:List D}{s:Pen}(h:ds.length=3):eS.p ds s=(gg.p (dSt 3 ds) s).fin:=bq h
def dI:Xd [2]:=(az (c7 2 (d5 xNil))
 (az (dg (cA (aa 1)) (xNm 3) (xMt aInsert 2 (ac (ak bi (ac (aa 0) (ac (af cL (xCb dD (ac (aa 2) xNil)) (xC (.int 1))) xNil))) (ac (aa 3) xNil))))
 (jA 2)))
def bp:Fn:=bR 4 2 dI
def oP{ds:List D}{s:Pen}(h:ds.length=2):bp.p ds s=(dI.p (dSt 4 ds) s).fin:=bq h
def iU:Xd []:=(az (aL 2 (xCb gr (ac (af oIx (aa 0) (xC (.int 1))) xNil)))
 (az (dg (cA (af oIx (aa 0) (xC (.int 2)))) (xGp (xGc (xNm 3) (xGc (xNm 4) xGl)) 2) (aL 2 (ba 2 [1,3] (bh iZ (ac (aa 2) (ac (aa 4) xNil))) (ws':=[]) (xGp (xGc (xNm 0) (xGc (xNm 1) xGl)) 2) xTrue (ak bI (ac (aa 0) (ac (ak aO (ac (af oIx (aa 2) (aa 3)) (ac (aa 1) xNil))) xNil))))))
 (aZ (af oEq (aa 2) (aa 1)))))
def eU:Fn:=bR 5 2 iU
def xA{ds:List D}{s:Pen}(h:ds.length=2):eU.p ds s=(iU.p (dSt 5 ds) s).fin:=bq h
def gU:Xd [3]:=(az (aL 2 (ba 1 [0] (bh iR1 (ac (aa 1) xNil)) (ws':=[]) (xNm 0) xTrue (ak bU (ac (aa 1) xNil))))
 (az (c7 3 (d5 xNil))
 (az (aL 4 (ak bi (ac (aa 0) (ac (xC (.int 4)) xNil))))
 (az (dg (bh iR1 (ac (af cL (xC (.int 1)) (ak bi (ac (aa 0) (ac (xC (.int 7)) xNil)))) xNil)) (xNm 5) (az (aL 6 (ak eS (ac (aa 0) (ac (aa 1) (ac (af oIx (d5 (ac (xC (.int 2)) (ac (xC (.int 3)) xNil))) (ak bi (ac (aa 0) (ac (xC (.int 2)) xNil)))) xNil)))))
 (az (aL 7 (xCb nr (ac (ir (af oEq (aa 4) (xC (.int 3))) (af oEq (ak bi (ac (aa 0) (ac (xC (.int 2)) xNil))) (xC (.int 0)))) xNil)))
 (xMt aAppend 3 (ac (bO (ac (aa 6) (ac (af oIx (d5 (ac (ak eR (ac (aa 6) (ac (aa 2) xNil))) (ac (ak bU (ac (aa 0) xNil)) xNil))) (aa 7)) xNil))) xNil)))))
 (jA 3)))))
def dL:Fn:=bR 8 2 gU
def vQ{ds:List D}{s:Pen}(h:ds.length=2):dL.p ds s=(gU.p (dSt 8 ds) s).fin:=bq h
def fg:Xd [2]:=(az (c7 2 (af bx (d5 (ac (bO (ac (xC (.int 0)) (ac (xC (.int 1)) xNil))) xNil)) (xCb dD (ac (aa 0) xNil))))
 (az (dg (bh iR1 (ac (xCb dD (ac (aa 0) xNil)) xNil)) (xNm 3) (i6 2 (af oIx (aa 0) (aa 3)) (af oIx (aa 1) (aa 3))))
 (jA 2)))
def bF:Fn:=bR 4 2 fg
def rM{ds:List D}{s:Pen}(h:ds.length=2):bF.p ds s=(fg.p (dSt 4 ds) s).fin:=bq h
def eE:Xd []:=(az (xIf (gp (xB (ak eU (ac (aa 1) (ac (ak bF (ac (af oIx (aa 0) (xC (.int 1))) (ac (aa 2) xNil))) xNil))))) (aZ (xC (.bl false))) xSkip)
 (az (dg (cA (af oIx (aa 0) (xC (.int 2)))) (xGp (xGc (xNm 3) (xGc (xNm 4) xGl)) 2) (az (aL 5 (ba 2 [] (bh iZ (ac (af oIx (aa 0) (xC (.int 1))) (ac (aa 4) xNil))) (ws':=[]) (xGp (xGc (xNm 0) (xGc (xNm 1) xGl)) 2) xTrue (ak bI (ac (aa 0) (ac (aa 1) xNil)))))
 (xIf (gp (xB (ak eU (ac (aa 1) (ac (ak bF (ac (aa 5) (ac (aa 2) xNil))) xNil))))) (aZ (xC (.bl false))) xSkip)))
 (aZ (xC (.bl true)))))
def bt:Fn:=bR 6 3 eE
def qi{ds:List D}{s:Pen}(h:ds.length=3):bt.p ds s=(eE.p (dSt 6 ds) s).fin:=bq h
def dR:Xd [9,14]:=(az (aL 3 (af cL (xC (.int 1)) (ak bi (ac (aa 2) (ac (xC (.int 6)) xNil)))))
 (az (aL 4 (ak dL (ac (aa 2) (ac (aa 3) xNil))))
 (az (aL 5 (ak bp (ac (aa 2) (ac (xCb cLR (ac (aa 3) xNil)) xNil))))
 (az (aL 6 (ba 1 [5] (bh iR1 (ac (aa 3) xNil)) (ws':=[]) (xNm 0) xTrue (xMr jU (aa 1) (ac (aa 0) xNil))))
 (az (aL 7 (ak bp (ac (aa 2) (ac (xCb cLR (ac (xCb dD (ac (aa 4) xNil)) xNil)) xNil))))
 (az (aL 8 (ba 1 [2] (cA (aa 4)) (ws':=[]) (xNm 0) xTrue (ak ci (ac (aa 1) xNil))))
 (az (c7 9 (d5 xNil))
 (az (dg (cA (aa 7)) (xNm 10) (az (aL 13 (xCb mO (ac (ba 2 [5,8,10] (cA (af oIx (af oIx (aa 4) (aa 10)) (xC (.int 0)))) (ws':=[]) (xGp (xGc (xNm 0) (xGc (xNm 1) xGl)) 2) xTrue (bO (ac (af oIx (aa 2) (aa 0)) (ac (ak aO (ac (af oIx (aa 3) (aa 4)) (ac (aa 1) xNil))) xNil)))) xNil)))
 (xMt aAppend 9 (ac (bO (ac (xCb iT (ac (aa 13) xNil)) (ac (ak aO (ac (af oIx (aa 8) (aa 10)) (ac (af oIx (af oIx (aa 4) (aa 10)) (xC (.int 1))) xNil))) xNil))) xNil))))
 (az (aL 11 (ak bv (ac (aa 3) (ac (xCb gr (ac (aa 4) xNil)) xNil))))
 (az (aL 12 (ak bv (ac (aa 3) (ac (xCb gr (ac (aa 9) xNil)) xNil))))
 (az (xIf (xB (af oNe (af oIx (aa 11) (xC (.int 0))) (af oIx (aa 12) (xC (.int 0))))) (aZ (xC (.bl false))) xSkip)
 (az (xIf (xAnd (xB (af oEq (af oIx (aa 11) (xC (.int 0))) (xC (.str "one")))) (xB (af oNe (ak bF (ac (af oIx (aa 11) (xC (.int 1))) (ac (aa 5) xNil))) (af oIx (aa 12) (xC (.int 1)))))) (aZ (xC (.bl false))) xSkip)
 (az (xIf (xB (af oEq (af oIx (aa 11) (xC (.int 0))) (xC (.str "many")))) (az (xIf (xB (af oNe (xCb dD (ac (af oIx (aa 11) (xC (.int 2))) xNil)) (xCb dD (ac (af oIx (aa 12) (xC (.int 2))) xNil)))) (aZ (xC (.bl false))) xSkip)
 (xIf (xOr (gp (xB (ak bt (ac (aa 11) (ac (aa 12) (ac (aa 5) xNil)))))) (gp (xB (ak bt (ac (aa 12) (ac (aa 11) (ac (aa 6) xNil))))))) (aZ (xC (.bl false))) xSkip)) xSkip)
 (xIf (xB (af oEq (af oIx (aa 11) (xC (.int 0))) (xC (.str "none")))) (az (c7 14 (af bx (d5 (ac (bO (ac (xC (.int 0)) (ac (xC (.int 1)) xNil))) xNil)) (xCb dD (ac (aa 4) xNil))))
 (az (dg (bh iZ (ac (af oIx (aa 12) (xC (.int 1))) (ac (aa 7) xNil))) (xGp (xGc (xNm 15) (xGc (xNm 10) xGl)) 2) (i6 14 (ak aO (ac (aa 15) (ac (af oIx (aa 8) (aa 10)) xNil))) (aa 10)))
 (xIf (xB (af (oIs true) (oW dn (ac (aa 3) (ac (aa 4) (ac (aa 14) xNil)))) (xC (.bl true)))) (aZ (xC (.bl false))) xSkip))) xSkip))))))))))))))
def pg:Xd [9,14]:=(aZ (xC (.bl true)))
def m_law:Mst:=(aJ (gh (fj (ae (mC (.int 3)) mNil)) (gNm 1) (aJ (aP 2 (aM fI (ae (ag 0) (ae (ag 1) mNil))))
 (aJ (aP 3 (aj opAdd (mC (.int 1)) (aM ck (ae (ag 2) (ae (mC (.int 6)) mNil)))))
 (aJ (aP 4 (aM dL.m (ae (ag 2) (ae (ag 3) mNil))))
 (aJ (aP 5 (aM bp.m (ae (ag 2) (ae (mLR (ae (ag 3) mNil)) mNil))))
 (aJ (aP 6 (cU 1 [5] (fj (ae (ag 3) mNil)) (gNm 0) mTrue (mMt gN (ag 1) (ae (ag 0) mNil))))
 (aJ (aP 7 (aM bp.m (ae (ag 2) (ae (mLR (ae (mCB fLen (ae (ag 4) mNil)) mNil)) mNil))))
 (aJ (aP 8 (cU 1 [2] (fo (ag 4)) (gNm 0) mTrue (aM ci.m (ae (ag 1) mNil))))
 (aJ (aP 9 (d7 mNil))
 (aJ (gh (fo (ag 7)) (gNm 10) (aJ (aP 13 (mCB fSortR (ae (cU 2 [5,8,10] (fo (aj aH (aj aH (ag 4) (ag 10)) (mC (.int 0)))) (gTp (gCn (gNm 0) (gCn (gNm 1) gNl)) 2) mTrue (fE (ae (aj aH (ag 2) (ag 0)) (ae (aM aO.m (ae (aj aH (ag 3) (ag 4)) (ae (ag 1) mNil))) mNil)))) mNil)))
 (ik (mMt fG (ag 9) (ae (fE (ae (mCB fTuple (ae (ag 13) mNil)) (ae (aM aO.m (ae (aj aH (ag 8) (ag 10)) (ae (aj aH (aj aH (ag 4) (ag 10)) (mC (.int 1))) mNil))) mNil))) mNil)))))
 (aJ (aP 11 (aM bv.m (ae (ag 3) (ae (mCB fList (ae (ag 4) mNil)) mNil))))
 (aJ (aP 12 (aM bv.m (ae (ag 3) (ae (mCB fList (ae (ag 9) mNil)) mNil))))
 (aJ (mIf (mB (aj opNe (aj aH (ag 11) (mC (.int 0))) (aj aH (ag 12) (mC (.int 0))))) (bB (mC (.bl false))) mSkip)
 (aJ (mIf (nB (mB (aj opEq (aj aH (ag 11) (mC (.int 0))) (mC (.str "one")))) (mB (aj opNe (aM bF.m (ae (aj aH (ag 11) (mC (.int 1))) (ae (ag 5) mNil))) (aj aH (ag 12) (mC (.int 1)))))) (bB (mC (.bl false))) mSkip)
 (aJ (mIf (mB (aj opEq (aj aH (ag 11) (mC (.int 0))) (mC (.str "many")))) (aJ (mIf (mB (aj opNe (mCB fLen (ae (aj aH (ag 11) (mC (.int 2))) mNil)) (mCB fLen (ae (aj aH (ag 12) (mC (.int 2))) mNil)))) (bB (mC (.bl false))) mSkip)
 (mIf (mOr (ja (mB (aM bt.m (ae (ag 11) (ae (ag 12) (ae (ag 5) mNil)))))) (ja (mB (aM bt.m (ae (ag 12) (ae (ag 11) (ae (ag 6) mNil))))))) (bB (mC (.bl false))) mSkip)) mSkip)
 (mIf (mB (aj opEq (aj aH (ag 11) (mC (.int 0))) (mC (.str "none")))) (aJ (aP 14 (aj opMul (d7 (ae (fE (ae (mC (.int 0)) (ae (mC (.int 1)) mNil))) mNil)) (mCB fLen (ae (ag 4) mNil))))
 (aJ (gh (mItZ (ae (aj aH (ag 12) (mC (.int 1))) (ae (ag 7) mNil))) (gTp (gCn (gNm 15) (gCn (gNm 10) gNl)) 2) (jG (aM aO.m (ae (ag 15) (ae (aj aH (ag 8) (ag 10)) mNil))) (gSb (ag 14) (ag 10))))
 (mIf (mB (aj (qY true) (aM dn.m (ae (ag 3) (ae (ag 4) (ae (ag 14) mNil)))) (mC (.bl true)))) (bB (mC (.bl false))) mSkip))) mSkip))))))))))))))))
 (bB (mC (.bl true))))
def f_law:List PV->MH->Out PV:=eM 16 1 m_law
end
end Law
namespace Law
open PySem MM PU SetT SortT
open L2 (ixN atI fH)
set_option maxHeartbeats 1000000
def gR{lo:Int}{c:Nat}:(d4 lo c).length=c:=by simp[d4]
def lH{c i:Nat}{x:D}(h:(d4 0 c)[i]?=some x):x=.int (i:Int)/\i<c:=by
 unfold d4 at h;rw[qap,qas] at h;obtain⟨k,hk,rfl⟩:=h;obtain⟨a,b⟩:=qaj.mp hk;simp at a b;subst b;exact⟨by simp,a⟩
def vz{g:D->aD->Option aD}{t:aD->Pen->PR Bool}{e:aD->Pen->PR D}(S:aD->Prop)(P:D->Prop):∀(ds:List D) (env:aD) (s:Pen),S env ->
  (∀x∈ds,∀env s,S env->∃env1,g x env=some env1/\S env1/\t env1 s=.ok true s/\∃y s2,e env1 s=.ok y s2/\P y)->∃r s',cP g t e ds env s=.ok r s'/\r.length=ds.length/\∀y∈r,P y:=by
 intro ds
 induction ds with
 | nil=>intro env s hS body;exact⟨[],s,rfl,rfl,by simp⟩
 | cons x ds ih =>
  intro env s hS body;obtain⟨env1,e1,hS1,e2,y,s2,e4,py⟩:=body x (by simp) env s hS;obtain⟨r,s3,e5,hl,hr⟩:=ih env1 s2 hS1 fun y hy=>body y (qaf x hy);refine⟨y::r,s3,?_,by simp[hl],fun z hz=>?_⟩
  ·rw[cP,e1];dsimp only;rw[e2,Pb];simp only[if_true,e4,Pb,e5]
  ·rcases qam.mp hz with rfl|hz
   ·exact py
   ·exact hr z hz
def nS{ws ws':List Nat}{env:aD}{s s0:Pen}{fm:List Nat}{i:Xi ws}{e:Xe ws'}{ds:List D}(P:D->Prop)(ei:i.p env s=.ok ds s0)(hl:ds.length<=100000)
  (body:∀x∈ds,∀s,∃y s2,e.p (some x::fm.map fun i=>(env[i]?).getD none) s=.ok y s2/\P y) (h0:ws'.contains 0=false:=by exact ys rfl) (hw:cws 1 fm ws=ws':=by exact ys rfl) (hz:e.fz=true:=by exact ys rfl) :
  ∃r s',(ba 1 fm i (xNm 0 h0) xTrue e hw hz).p env s=.ok (.lst r) s'/\r.length=ds.length/\∀y∈r,P y:=by
 obtain⟨r,s',e1,h1,h2⟩:=vz (g:=(xNm 0 h0:Xg ws').p) (t:=(xTrue:Xt ws').p) (e:=e.p) (fun v=>∃z,v=z::fm.map fun i=>(env[i]?).getD none) P ds (cenv 1 fm env) s0 ⟨none,rfl⟩ fun x hx env' s ⟨z,hz⟩=>by
  subst hz;obtain⟨y,s1,e2,e3⟩:=body x hx s;exact⟨_,rfl,⟨some x,rfl⟩,rfl,y,s1,e2,e3⟩
 refine⟨r,s',?_,h1,h2⟩;rw[kF,ei,Pb,qan hl,e1]
def vR{α:Type}{f:α->D}{Q:α->Prop}:∀{ys:List D},(∀y∈ys,∃p,y=f p/\Q p)->∃ps:List α,ys=ps.map f/\∀p∈ps,Q p:=by
 intro ys
 induction ys with
 | nil=>intro _;exact⟨[],rfl,by simp⟩
 | cons y ys ih =>
  intro h;obtain⟨ps,e,hp⟩:=ih fun y hy=>h y (qaf _ hy);obtain⟨p,rfl,h1⟩:=h y (by simp);refine⟨p::ps,by rw[e];rfl,fun k hk=>?_⟩;rcases qam.mp hk with rfl|hk
  ·exact h1
  ·exact hp k hk
def nK{ws:List Nat}{env:aD}{s s1:Pen}{o:OpM}{i:Nat}{a:Xs ws}{hi:ws.contains i=true}{hz:a.fz=true}{as ds ds':List D}{r:D}(e1:a.p env s=.ok as s1)(e2:env[i]?=some (some (.lst ds)))(e3:o.p ds as=some (r,ds')):(xMt o i a hi hz).p env s=.nx (env.set i (some (.lst ds'))) s1:=by
 rw[xMt_p,qU e1 e2 e3]
abbrev nD(t b:Int):D:=.tup [.int t,.int b]
def js{a b:Int}(ha:0<=a)(hb:0<=b):Int.gcd b (a % b)=Int.gcd a b:=by
 obtain⟨m,rfl⟩:=qcm ha;obtain⟨n,rfl⟩:=qcm hb;show Nat.gcd n (m % n)=Nat.gcd m n;rw[Nat.gcd_comm m n,Nat.gcd_rec n m,Nat.gcd_comm]
def k5{a b:Int}(hb:0<b):jX.p (.int a) (.int b)=some (.int (a % b)):=by
 rw[oMod_ii (by ext),qbs _ (by ext)]
def mQ{a b:Int}(hb:b≠0):oFd.p (.int a) (.int b)=some (.int (a.fdiv b)):=qan hb
def gJ{a b:Int}(hb:0<b):oFd.p (.int a) (.int b)=some (.int (a / b)):=by
 rw[mQ (by ext),Int.fdiv_eq_ediv_of_nonneg _ (by ext)]
def abs_nn{a:Int}:(if a<0 then -a else a)=(a.natAbs:Int):=by split <;> ext
def wz{a:Int}:mU.p [.int a]=some (.int (a.natAbs:Int)):=by
 show some (D.int (if a<0 then -a else a))=_;rw[abs_nn]
def xWh_p{ws:List Nat}{N:Nat}{t:Xt ws}{b:Xd ws}(hm:∀{σ h n},cj t.m b.m n σ h≠.bad->mWh t.m b.m σ h=cj t.m b.m n σ h){env:aD}{s:Pen}:(xWh N t b hm).p env s=dC t.p b.p N env s:=rfl
def re{b r:Int}(h0:0<r)(h1:r<b):0<=b % r/\b % r<r/\2 * (b % r)<b:=by
 have a1:=qbN b (show r≠0 by ext);have a2:=qbE b h0;have a3:=Int.mul_ediv_add_emod b r;have a4:1<=b / r:=by rw[Int.le_ediv_iff_mul_le h0];ext
 have a5:r * 1<=r * (b / r):=Int.mul_le_mul_of_nonneg_left a4 (by ext);ext
def eV{a:Int}(h:0<=a):((Int.gcd a 0:Nat):Int)=a:=by rw[Int.gcd_zero_right];ext
abbrev lowT:Xt []:=xB (af oGt (aa 3) (xC (.int 0)))
abbrev lowB:Xd []:=nG 2 3 (ac (aa 3) (ac (af jX (aa 2) (aa 3)) xNil))
def low1{x y:Option D}{a b:Int}{n:Nat}{s:Pen}(hb:0<b):dC lowT.p lowB.p (n+1) [x,y,some (.int a),some (.int b)] s=dC lowT.p lowB.p n [x,y,some (.int b),some (.int (a % b))] s:=by
 rw[dC];simp[k5 hb,hb,PR.bl]
def low0{x y:Option D}{a:Int}{n:Nat}{s:Pen}:dC lowT.p lowB.p (n+1) [x,y,some (.int a),some (.int 0)] s=.nx [x,y,some (.int a),some (.int 0)] s:=by
 rw[dC];simp[PR.bl]
def low_run{x y:Option D}{s:Pen}:∀(k n:Nat) (a b:Int),0<=a->0<=b->b<2 ^ k->2 * k+1<=n->dC lowT.p lowB.p n [x,y,some (.int a),some (.int b)] s=.nx [x,y,some (.int (Int.gcd a b)),some (.int 0)] s:=by
 intro k
 induction k with
 | zero =>
  intro n a b ha hb hk hn;obtain⟨m,rfl⟩:∃m,n=m+1:=⟨n - 1,by ext⟩
  have:b=0:=by simp at hk;ext
  subst this;rw[low0,eV ha]
 | succ k ih =>
  intro n a b ha hb hk hn;obtain⟨m,rfl⟩:∃m,n=m+1+1:=⟨n - 2,by ext⟩;by_cases e:b=0
  ·subst e;rw[low0,eV ha]
  ·have hb':0<b:=by ext
   rw[low1 hb',<-js ha hb];have r0:=qbN a e;have r1:=qbE a hb';generalize a % b=r at r0 r1 ⊢;by_cases er:r=0
   ·subst er;rw[low0,eV hb]
   ·obtain⟨h0,h1,h2⟩:=re (b:=b) (r:=r) (by ext) r1;rw[low1 (by ext),<-js hb r0];refine ih m r (b % r) r0 h0 ?_ (by ext);rw[Int.pow_succ] at hk;ext
abbrev qD(q:Rat):D:=nD q.num (q.den:Int)
def sz(q:Rat):Nat:=max (q.num.natAbs.log2+1) (q.den.log2+1)
def wq(n:Nat):n<2 ^ (n.log2+1):=Nat.lt_log2_self
def cN(q:Rat):q.num.natAbs<2 ^ sz q:=qaw (wq _) (qbk (by decide) (Nat.le_max_left _ _))
def bG(q:Rat):q.den<2 ^ sz q:=qaw (wq _) (qbk (by decide) (Nat.le_max_right _ _))
def qv{n k:Nat}(hk:0<k)(h:n<2 ^ k):n.log2+1<=k:=by
 rcases qcd n with e|e
 ·subst e;simp only[Nat.log2_zero];ext
 ·exact (Nat.log2_lt (by ext)).mpr h
def sz_le{q:Rat}{k:Nat}(hk:0<k)(h1:q.num.natAbs<2 ^ k)(h2:q.den<2 ^ k):sz q<=k:=Nat.max_le.mpr ⟨qv hk h1,qv hk h2⟩
def sz_pos(q:Rat):0<sz q:=qaw (Nat.succ_pos _) (Nat.le_max_left _ _)
def nA(t:Int)(b:Nat)(hb:b≠0):(Rat.divInt t b).num=t / (Nat.gcd t.natAbs b:Int)/\(Rat.divInt t b).den=b / Nat.gcd t.natAbs b:=by
 rw[Rat.divInt_ofNat];unfold mkRat;rw[dif_neg hb,Rat.normalize_eq];exact⟨rfl,rfl⟩
def div_abs{t:Int}{g:Nat}:(t / (g:Int)).natAbs<=t.natAbs:=Int.natAbs_ediv_le_natAbs t g
def iP{t:Int}{b k:Nat}(hb:b≠0)(hk:0<k)(h1:t.natAbs<2 ^ k)(h2:b<2 ^ k):sz (Rat.divInt t b)<=k:=by
 obtain⟨e1,e2⟩:=nA t b hb;refine sz_le hk ?_ ?_
 ·rw[e1];exact qbF div_abs h1
 ·rw[e2];exact qbF (qbO _ _) h2
def rW(p q:Rat):p+q=Rat.divInt (p.num * q.den+q.num * p.den) ((p.den * q.den:Nat):Int):=by
 have:=Rat.divInt_add_divInt p.num q.num (d₁:=p.den) (d₂:=q.den) (by have:=p.den_nz;ext) (by have:=q.den_nz;ext)
 rw[Rat.num_divInt_den,Rat.num_divInt_den] at this;rw[this];push_cast;rfl
def ni(p q:Rat):p * q=Rat.divInt (p.num * q.num) ((p.den * q.den:Nat):Int):=by
 have:=Rat.divInt_mul_divInt p.num q.num (d₁:=p.den) (d₂:=q.den)
 rw[Rat.num_divInt_den,Rat.num_divInt_den] at this;rw[this];push_cast;rfl
def cg{a b j k:Nat}(h1:a<2 ^ j)(h2:b<2 ^ k):a * b<2 ^ (j+k):=by
 rw[qcK];exact Nat.mul_lt_mul'' h1 h2
def sum_lt{a b c d:Int}{j k:Nat}(h1:a.natAbs<2 ^ j)(h2:b.natAbs<2 ^ k)(h3:c.natAbs<2 ^ k)(h4:d.natAbs<2 ^ j):(a * b+c * d).natAbs<2 ^ (j+k+1):=by
 have e1:=cg h1 h2;have e2:=cg h3 h4;have e3:=Int.natAbs_add_le (a * b) (c * d);rw[qbe,qbe] at e3;rw[Nat.add_comm k j] at e2;rw[qcF];ext
def mD(p q:Rat):sz (p+q)<=sz p+sz q+1:=by
 rw[rW];refine iP (qbx p.den_nz q.den_nz) (by ext) ?_ ?_
 ·exact sum_lt (cN p) (by simpa using bG q) (cN q) (by simpa using bG p)
 ·have:=cg (bG p) (bG q)
  rw[qcF];ext
def g8(p q:Rat):sz (p * q)<=sz p+sz q:=by
 rw[ni];refine iP (qbx p.den_nz q.den_nz) (by have:=sz_pos p;ext) ?_ (cg (bG p) (bG q));rw[qbe];exact cg (cN p) (cN q)
def sz_neg(p:Rat):sz (-p)=sz p:=by
 unfold sz;rw[Rat.neg_num,Rat.neg_den,qch]
local macro_rules | `(tactic| simp! [$a,*]) => `(tactic| simp only [$a,*, Pb, ah, ai])
local macro_rules | `(tactic| dsimp! [$a,*]) => `(tactic| simp only [$a,*, PU.au, Pg, qag, qah])
def lj{t:Int}{b k:Nat}{s:Pen}(hb:b≠0)(hk:b<2 ^ k)(hc:k<=950000):bT.p [.int t,.int (b:Int)] s=.ok (qD (Rat.divInt t b)) s:=by
 obtain⟨e1,e2⟩:=nA t b hb;have hkI:((b:Nat):Int)<2 ^ k:=by
  have:=Int.ofNat_lt.mpr hk
  simpa using this
 have h0:0<(Nat.gcd t.natAbs b:Int):=by
  have:0<Nat.gcd t.natAbs b:=qcj _ (by ext)
  ext
 rw[rF (by rfl)];unfold eX;have e0:dSt 4 [D.int t,.int (b:Int)]=[some (.int t),some (.int (b:Int)),none,none]:=rfl;have q:=low_run (x:=some (.int t)) (y:=some (.int (b:Int))) (s:=s) k 2000000 (t.natAbs:Int) ((b:Int).natAbs:Int) (by ext) (by ext) (by simpa using hkI) (by ext);rw[e0];simp![aA,xPar_p,al,aq,bV,wz,Pf,Pg,qag,qah,PU.au];rw[xWh_p lS];refine (congrArg (fun z:PS=>(z.then _).fin) q).trans ?_;rw[Int.gcd_natCast_natCast,qbP];have f1:=gJ (a:=t) h0;have f2:=gJ (a:=(b:Int)) h0;rw[qD,e1,e2];simp[PR.bl,show ¬(b:Int)<0 by ext,f1,f2]
def sB{a:Int}{k:Nat}(h:a.natAbs<2 ^ k)(hc:k<=1000000):Builtin.Int.intBits a<=2 ^ 20:=by
 unfold Builtin.Int.intBits;rcases qcd k with e|e
 ·subst e
  have:a.natAbs=0:=by simpa using h
  rw[this];split <;> simp
 ·have:=qv e h
  split <;> ext
def bM{a b:Int}{j k:Nat}(h1:a.natAbs<2 ^ j)(h2:b.natAbs<2 ^ k)(hj:j<=1000000:=by ext)(hk:k<=1000000:=by ext):bx.p (.int a) (.int b)=some (.int (a * b)):=qan (IntMulOk.of_bits (sB h1 hj) (sB h2 hk))
def z0{x y:D}:atI [x,y] 0=some x:=rfl
def z1{x y:D}:atI [x,y] 1=some y:=rfl
def qB{p q:Rat}{s:Pen}(h:sz p+sz q<=900000):bI.p [qD p,qD q] s=.ok (qD (p+q)) s:=by
 have a1:=cN p;have a2:=bG p;have a3:=cN q;have a4:=bG q;rw[vq (by rfl)];unfold gT;rw[show dSt 2 [qD p,qD q]=[some (qD p),some (qD q)] from rfl];have l:=lj (t:=p.num * q.den+q.num * p.den) (b:=p.den * q.den) (s:=s) (qbx p.den_nz q.den_nz) (cg (bG p) (bG q)) (by ext);rw[<-rW,qbQ] at l
 simp![bH,aF,al,aB,aN,aE,bg,z0,z1,Pf,aq,bM (b:=(q.den:Int)) (k:=sz q) a1 (by simpa using a4),bM (b:=(p.den:Int)) (k:=sz p) a3 (by simpa using a2),dy,l,Pg,PU.bw,bM (a:=(p.den:Int)) (b:=(q.den:Int)) (j:=sz p) (k:=sz q) (by simpa using a2) (by simpa using a4)]
def iV{p q:Rat}{s:Pen}(h:sz p+sz q<=900000):aO.p [qD p,qD q] s=.ok (qD (p * q)) s:=by
 have a1:=cN p;have a2:=bG p;have a3:=cN q;have a4:=bG q;rw[t4 (by rfl)];unfold f7;rw[show dSt 2 [qD p,qD q]=[some (qD p),some (qD q)] from rfl];have l:=lj (t:=p.num * q.num) (b:=p.den * q.den) (s:=s) (qbx p.den_nz q.den_nz) (cg (bG p) (bG q)) (by ext);rw[<-ni,qbQ] at l;simp![bH,aF,al,aB,aN,aE,bg,z0,z1,Pf,aq,bM a1 a3,bM (a:=(p.den:Int)) (b:=(q.den:Int)) (j:=sz p) (k:=sz q) (by simpa using a2) (by simpa using a4),l,Pg,PU.bw]
def xz{t:Int}{b:Nat}(hb:b≠0)(h1:t.natAbs<=1000000)(h2:b<=1000000):sz (Rat.divInt t b)<=20:=iP hb (by decide) (by ext) (by ext)
def oi{t b:Int}{s:Pen}(hb:1<=b)(h1:t.natAbs<=1000000)(h2:b<=1000000):∃q:Rat,bT.p [.int t,.int b] s=.ok (qD q) s/\sz q<=20:=by
 obtain⟨n,rfl⟩:=pJ (show 0<=b by ext);exact⟨_,lj (k:=20) (by ext) (by ext) (by ext),xz (by ext) h1 (by ext)⟩
def lf{s:Pen}:∃q s',bU.p [.pen] s=.ok (qD q) s'/\sz q<=20:=by
 obtain⟨w,s1,w0,w1,q1⟩:=df (s:=s) (size:=8) (by decide) (by decide);rw[rL (by rfl)];unfold ft;rw[show dSt 2 [D.pen]=[some .pen,none] from rfl];by_cases e7:w=7
 ·subst e7;obtain⟨a,s2,a0,a1,q2⟩:=df (s:=s1) (size:=2 * 10 ^ 6 - 1) (by decide) (by decide);obtain⟨b,s3,b0,b1,q3⟩:=df (s:=s2) (size:=10 ^ 6 - 1) (by decide) (by decide);obtain⟨q,l,hq⟩:=oi (t:=a - 10 ^ 6+1) (b:=1+b) (s:=s3) (by ext) (by ext) (by ext);refine⟨q,s3,?_,hq⟩;have p6:pW.p (.int 10) (.int 6)=some (.int (10 ^ 6)):=qan ⟨by decide,by decide,by decide⟩;have m2:bx.p (.int 2) (.int (10 ^ 6))=some (.int (2 * 10 ^ 6)):=bM (j:=2) (k:=20) (by decide) (by decide);simp![aA,aS,aF,al,aN,aE,aq,q1,Pg,qag,qah,PU.au,bE,ca,aB,cE,c8,Pf,PR.bl,decide_true,if_true,bH,qar,if_false,p6,m2,ku,q2,dy,q3,l,PU.kj,PU.bw]
 ·obtain⟨m,em,m0,m1⟩:∃m:Int,atI [D.int 1,.int 1,.int 5] (w % 3)=some (.int m)/\0<m/\m<=5:=by
   obtain e|e | e:w % 3=0\/w % 3=1\/w % 3=2:=by ext
   ·rw[e];exact⟨1,rfl,by decide,by decide⟩
   ·rw[e];exact⟨1,rfl,by decide,by decide⟩
   ·rw[e];exact⟨5,rfl,by decide,by decide⟩
  obtain⟨a,s2,a0,a1,q2⟩:=df (s:=s1) (size:=13) (by decide) (by decide);obtain⟨b,s3,b0,b1,q3⟩:=df (s:=s2) (size:=m) m0 (by ext);obtain⟨q,l,hq⟩:=oi (t:=a - 6) (b:=1+b) (s:=s3) (by ext) (by ext) (by ext);refine⟨q,s3,?_,hq⟩;simp![aA,aS,aF,al,aN,aE,aq,q1,Pg,qag,qah,PU.au,bE,ca,aB,cE,c8,Pf,PR.bl,decide_eq_false e7,if_true,bH,qar,if_false,k5 (show (0:Int)<3 by decide),eA,qaA,qaH,show (0+1+1+1:Nat)<=100000 by decide,cq,em,ku,q2,dy,q3,l,bD,PU.bw]
def wd{s:Pen}:∃q s',ci.p [.pen] s=.ok (qD q) s'/\sz q<=20/\q≠0:=by
 obtain⟨q,s1,q1,hq⟩:=lf (s:=s);obtain⟨a,s2,a0,a1,q2⟩:=df (s:=s1) (size:=9) (by decide) (by decide);have hn:(((1+a:Int):Int):Rat).num=1+a/\(((1+a:Int)):Rat).den=1:=⟨rfl,rfl⟩;rw[vM (by rfl)];unfold gO;rw[show dSt 2 [D.pen]=[some .pen,none] from rfl];have e:∀x y:D,∀b:Bool,atI [x,y] (if b then 1 else 0)=some (if b then y else x):=fun x y b=>by cases b <;> rfl
 refine⟨if decide (q.num=0)=true then ((1+a:Int):Rat) else q,s2,?_,?_,?_⟩
 ·simp![aA,aS,aF,al,aN,aE,aq,q1,Pg,qag,qah,PU.au,bH,aB,eA,cK,q2,dy,Pf,qaA,qaH,show (0+1+1:Nat)<=100000 by decide,if_true,bV,bg,z0,cE,c8,qar,if_false,vx,cq,e,PU.bw];cases decide (q.num=0)
  ·rfl
  ·rfl
 ·split
  ·refine sz_le (by decide) ?_ ?_
   ·show (1+a).natAbs<_;ext
   ·show 1<_;decide
  ·exact hq
 ·split
  ·intro z
   have:(((1+a:Int):Int):Rat).num=0:=by rw[z];rfl
   rw[hn.1] at this;ext
  ·rename_i h
   intro z;exact h (by rw[z];rfl)
def cY(a:Rat)(l:List (Rat × Rat)):Rat:=l.foldl (fun s p=>s+p.1 * p.2) a
abbrev dot(l:List (Rat × Rat)):Rat:=cY 0 l
def wt(p:Rat × Rat):Nat:=sz p.1+sz p.2+1
def tot(l:List (Rat × Rat)):Nat:=(l.map wt).sum
def jy{p:Rat × Rat}{l:List (Rat × Rat)}:tot (p::l)=wt p+tot l:=by simp[tot]
def p5{l:List (Rat × Rat)}{c m:Nat}(hl:l.length<=m)(h:∀p∈l,wt p<=c):tot l<=m * c:=by
 have:tot l<=l.length * c:=by
  clear hl
  induction l with
  | nil=>simp[tot]
  | cons p l ih =>
   have h1:=h p (by simp);have h2:=ih fun q hq=>h q (qaf _ hq);rw[jy,qaA,qcz];ext
 exact qaJ this (qba _ hl)
def rY:∀(l:List (Rat × Rat)) (a:Rat),sz (cY a l)<=sz a+tot l
 | [],a=>by simp[cY,tot]
 | p::l,a=>by
  have h:=rY l (a+p.1 * p.2);have h1:=mD a (p.1 * p.2);have h2:=g8 p.1 p.2;rw[jy];show sz (cY (a+p.1 * p.2) l)<=_;unfold wt;ext
def sz0:sz 0=1:=by decide +kernel
def sz1:sz 1=1:=by decide +kernel
def sz_dot(l:List (Rat × Rat)):sz (dot l)<=1+tot l:=by have:=rY l 0;rw[sz0] at this;exact this
abbrev Pt:=Nat × Rat
abbrev ptD(p:Pt):D:=.tup [.int (p.1:Int),qD p.2]
abbrev Rw:=List Pt × Rat
abbrev rwD(r:Rw):D:=.tup [.tup (r.1.map ptD),qD r.2]
abbrev lD(xs:List Rat):D:=.lst (xs.map qD)
abbrev rsD(rs:List Rw):D:=.lst (rs.map rwD)
def prs(ps:List Pt)(xs:List Rat):List (Rat × Rat):=ps.map fun p=>(p.2,xs.getD p.1 0)
def pF{xs:List Rat}{i:Nat}(h:i<xs.length):atI (xs.map qD) (i:Int)=some (qD (xs.getD i 0)):=by
 refine L2.dB ?_;rw[qap,qae h,qaa,qae h];rfl
abbrev cmB:Xd []:=aL 2 (ak bI (ac (aa 2) (ac (ak aO (ac (aa 4) (ac (af oIx (aa 1) (aa 3)) xNil))) xNil)))
abbrev cmG:Xg []:=xGp (xGc (xNm 3) (xGc (xNm 4) xGl)) 2
def td{P:Option D}{xs:List Rat}{s:Pen}:∀(ps:List Pt) (a:Rat) (x3 x4:Option D),(∀p∈ps,p.1<xs.length)->sz a+tot (prs ps xs)<=900000 ->
  ∃x3' x4':Option D,pGo cmG.p cmB.p (ps.map ptD) [P,some (lD xs),some (qD a),x3,x4] s=.nx [P,some (lD xs),some (qD (cY a (prs ps xs))),x3',x4'] s
 | [],a,x3,x4,_,_=>⟨x3,x4,rfl⟩
 | p::ps,a,x3,x4,h,hk=>by
  have hc:prs (p::ps) xs=(p.2,xs.getD p.1 0)::prs ps xs:=rfl;rw[hc,jy] at hk;have hw:wt (p.2,xs.getD p.1 0)=sz p.2+sz (xs.getD p.1 0)+1:=rfl;have m:=g8 p.2 (xs.getD p.1 0);have ad:=mD a (p.2 * xs.getD p.1 0);obtain⟨x3',x4',q⟩:=td (P:=P) (s:=s) ps (a+p.2 * xs.getD p.1 0) (some (.int (p.1:Int))) (some (qD p.2)) (fun y hy=>h y (qaf _ hy)) (by ext);refine⟨x3',x4',?_⟩;have t:=iV (p:=p.2) (q:=xs.getD p.1 0) (s:=s) (by ext);have u:=qB (p:=a) (q:=p.2 * xs.getD p.1 0) (s:=s) (by ext);have e1:cmB.p [P,some (lD xs),some (qD a),some (.int (p.1:Int)),some (qD p.2)] s=.nx [P,some (lD xs),some (qD (a+p.2 * xs.getD p.1 0)),some (.int (p.1:Int)),some (qD p.2)] s:=by
   simp![aS,aF,al,aB,cq,pF (h p (by simp)),Pf,aq,t,u,Pg,qag,qah]
  rw[qao,eK (env1:=[P,some (lD xs),some (qD a),some (.int (p.1:Int)),some (qD p.2)]) (by rfl),e1,hc];exact q
def comes_p{ps:List Pt}{xs:List Rat}{s:Pen}(h:∀p∈ps,p.1<xs.length)(hk:tot (prs ps xs)<=890000):eR.p [.tup (ps.map ptD),lD xs] s=.ok (qD (dot (prs ps xs))) s:=by
 rw[uC (by rfl)];unfold fW;rw[show dSt 5 [D.tup (ps.map ptD),lD xs]=[some (.tup (ps.map ptD)),some (lD xs),none,none,none] from rfl];obtain⟨x3',x4',q⟩:=td (P:=some (.tup (ps.map ptD))) (s:=s) ps 0 none none h (by rw[sz0];ext);dsimp![aA,aS,cK,al,aN,aE,aq,Pb,qaA,qaH,show (0+1+1:Nat)<=100000 by decide,if_true,cV,cH,ah,show (D.tup (ps.map ptD)).items=some (ps.map ptD) from rfl,Pf];refine (congrArg (fun z:PS=>(z.then _).fin) q).trans ?_;simp
def j4{α:Type}{g:D->aD->Option aD}{t:aD->Pen->PR Bool}{e:aD->Pen->PR D}{s:Pen}(S:aD->Prop)(item res:α->D)(p:α->Bool):∀(l:List α) (env:aD),S env ->
  (∀x∈l,∀env,S env->∃env1,g (item x) env=some env1/\S env1/\t env1 s=.ok (p x) s/\(p x=true->e env1 s=.ok (res x) s))->cP g t e (l.map item) env s=.ok ((l.filter p).map res) s
 | [],env,hS,body=>rfl
 | x::l,env,hS,body=>by
  obtain⟨env1,e1,hS1,e2,e3⟩:=body x (by simp) env hS;have ih:=j4 S item res p l env1 hS1 fun y hy=>body y (qaf _ hy);rw[qao,cP,e1];dsimp only;rw[e2]
  cases hp:p x with
  | true=>simp only[Pb,if_true,e3 hp,ih,List.filter_cons_of_pos hp,qao]
  | false=>simp only[Pb,qar,if_false,ih,List.filter_cons_of_neg (show ¬p x=true by simp[hp])]
def dH{α:Type}{ws ws':List Nat}{env:aD}{s s0:Pen}{fm:List Nat}{i:Xi ws}{t:Xt ws'}{e:Xe ws'}{l:List α}(item res:α->D)(p:α->Bool)(ei:i.p env s0=.ok (l.map item) s)(hl:l.length<=100000)
  (body:∀x∈l,t.p (some (item x)::fm.map fun i=>(env[i]?).getD none) s=.ok (p x) s/\(p x=true->e.p (some (item x)::fm.map fun i=>(env[i]?).getD none) s=.ok (res x) s)) (h0:ws'.contains 0=false:=by exact ys rfl) (hw:cws 1 fm ws=ws':=by exact ys rfl) (hz:e.fz=true:=by exact ys rfl) :
  (ba 1 fm i (xNm 0 h0) t e hw hz).p env s0=.ok (.lst ((l.filter p).map res)) s:=by
 rw[kF,ei,Pb,qan (by simpa using hl)]
 have:=j4 (g:=(xNm 0 h0:Xg ws').p) (t:=t.p) (e:=e.p) (s:=s) (fun v=>∃z,v=z::fm.map fun i=>(env[i]?).getD none) item res p l (cenv 1 fm env) ⟨none,rfl⟩ fun x hx env' ⟨z,hz⟩=>by
  subst hz;exact⟨_,rfl,⟨some (item x),rfl⟩,body x hx⟩
 rw[this]
def f9{α:Type}{ws ws':List Nat}{env:aD}{s s0:Pen}{fm:List Nat}{i:Xi ws}{t:Xt ws'}{e:Xe ws'}{l:List α}(A B:α->D)(res:α->D)(p:α->Bool)(ei:i.p env s0=.ok (l.map fun x=>.tup [A x,B x]) s)(hl:l.length<=100000)
  (body:∀x∈l,t.p (some (A x)::some (B x)::fm.map fun i=>(env[i]?).getD none) s=.ok (p x) s/\(p x=true->e.p (some (A x)::some (B x)::fm.map fun i=>(env[i]?).getD none) s=.ok (res x) s)) (h0:ws'.contains 0=false:=by exact ys rfl) (h1:ws'.contains 1=false:=by exact ys rfl) (hw:cws 2 fm ws=ws':=by exact ys rfl) (hz:e.fz=true:=by exact ys rfl) :
  (ba 2 fm i (xGp (xGc (xNm 0 h0) (xGc (xNm 1 h1) xGl)) 2) t e hw hz).p env s0=.ok (.lst ((l.filter p).map res)) s:=by
 rw[kF,ei,Pb,qan (by simpa using hl)]
 have:=j4 (g:=(xGp (xGc (xNm 0 h0) (xGc (xNm 1 h1) xGl)) 2:Xg ws').p) (t:=t.p) (e:=e.p) (s:=s) (fun v=>∃y z,v=y::z::fm.map fun i=>(env[i]?).getD none) (fun x=>.tup [A x,B x]) res p l (cenv 2 fm env) ⟨none,none,rfl⟩ fun x hx env' ⟨y,z,hz⟩=>by
  subst hz;exact⟨_,rfl,⟨some (A x),some (B x),rfl⟩,body x hx⟩
 rw[this]
def q0:qD 0=.tup [.int 0,.int 1]:=rfl
def q1:qD 1=.tup [.int 1,.int 1]:=rfl
@[simp] theorem jE{ws:List Nat}{i j:Int}{env:aD}{s:Pen}:(xCT i j:Xe ws).p env s=.ok (.tup [.int i,.int j]) s:=rfl
def coef(ps:List Pt)(j:Nat):Rat:=((ps.find? fun p=>p.1 == j).map (·.2)).getD 0
def mx(rs:List Rw)(ms:List Rat)(j:Nat):List (Rat × Rat):=(rs.zip ms).map fun p=>(coef p.1.1 j,p.2)
def rg(rs:List Rw)(ms:List Rat):List (Rat × Rat):=(rs.zip ms).map fun p=>(p.1.2,p.2)
structure RowOk (n:Nat) (r:Rw):Prop where
 nd:(r.1.map (·.1)).Nodup
 lt:∀p∈r.1,p.1<n
def xN(ps:List Pt):iQ (ps.map ptD)=some (ps.map fun p=>((p.1:Int),qD p.2)):=by
 induction ps with
 | nil=>rfl
 | cons p ps ih=>rw[qao,iQ,ih];rfl
def dg_pt{ps:List Pt}(nd:(ps.map (·.1)).Nodup):dgD (.tup (ps.map ptD))=some (ps.map fun p=>((p.1:Int),qD p.2)):=by
 simp only[dgD,xN];rw[qan];rw[qaE]
 have:((·.1)∘fun p:Pt=>((p.1:Int),qD p.2))=(fun n:Nat=>(n:Int))∘(·.1):=rfl
 rw[this,<-qaE];exact qaV.mpr (List.Pairwise.imp (fun h e=>h (Int.ofNat_inj.mp e)) nd)
def eT{α β:Type}(f:α->D)(g:β->D)(xs:List α)(ys:List β):g6 (xs.map f) (ys.map g)=(xs.zip ys).map fun p=>.tup [f p.1,g p.2]:=by
 unfold g6;rw[List.zip_map,qaE];rfl
def iO{α β:Type}{xs:List α}{ys:List β}{m:Nat}(h:xs.length<=m):(xs.zip ys).length<=m:=by
 rw[qbr];ext
def dA(n:Nat):d4 0 n=(List.range n).map fun (j:Nat)=>D.int (j:Int):=by simp[d4]
def eW(f:List Rat)(i:Nat)(q:Rat):List Rat:=f.set i (f.getD i 0+q)
def inner(f:List Rat)(ps:List Pt)(m:Rat):List Rat:=ps.foldl (fun f p=>eW f p.1 (p.2 * m)) f
def cw(n:Nat)(f:List Rat)(p:Rw × Rat):List Rat:=eW (inner f p.1.1 p.2) n (p.1.2 * p.2)
def tog(n:Nat)(rs:List Rw)(ms:List Rat):List Rat:=(rs.zip ms).foldl (cw n) (List.replicate (n+1) 0)
def jN{f:List Rat}{i:Nat}{q:Rat}:(eW f i q).length=f.length:=by simp[eW]
def jK{m:Rat}:∀{ps:List Pt} {f:List Rat},(inner f ps m).length=f.length
 | [],_=>rfl
 | p::ps,f=>(jK (ps:=ps) (f:=eW f p.1 (p.2 * m))).trans jN
def mq{f:List Rat}{i:Nat}{q:Rat}(h:i<f.length):(eW f i q).getD i 0=f.getD i 0+q:=by
 simp[eW,qaa,h]
def qm{f:List Rat}{i j:Nat}{q:Rat}(h:i≠j):(eW f i q).getD j 0=f.getD j 0:=by
 simp only[eW,qaa];rw[qai h]
def eQ{p:Pt}{ps:List Pt}{j:Nat}:coef (p::ps) j=if p.1=j then p.2 else coef ps j:=by
 unfold coef;rw[qca];by_cases z:p.1=j
 ·simp[z]
 ·rw[qaz z,show (p.1 == j)=false by simpa using z]
def fZ{ps:List Pt}{j:Nat}(h:j∉ps.map (·.1)):coef ps j=0:=by
 induction ps with
 | nil=>rfl
 | cons p ps ih =>
  rw[eQ,qaz fun z=>h (by simp[z]),ih fun z=>h (by simp only[qao,qam];exact .inr z)]
def lw{m:Rat}{j:Nat}:∀{ps:List Pt} {f:List Rat},(ps.map (·.1)).Nodup->(∀p∈ps,p.1<f.length)->(inner f ps m).getD j 0=f.getD j 0+coef ps j * m
 | [],f,_,_=>by show f.getD j 0=f.getD j 0+0 * m;grind
 | p::ps,f,nd,lt=>by
  rw[qao,qaN] at nd;have ih:=lw (m:=m) (j:=j) (ps:=ps) (f:=eW f p.1 (p.2 * m)) nd.2 fun q hq=>by rw[jN];exact lt q (qaf _ hq)
  show (inner (eW f p.1 (p.2 * m)) ps m).getD j 0=_;rw[ih,eQ];by_cases z:p.1=j
  ·subst z;rw[qan rfl,fZ nd.1,mq (lt p (by simp))]
   grind
  ·rw[qaz z,qm z]
def nu{n:Nat}{f:List Rat}{p:Rw × Rat}:(cw n f p).length=f.length:=jN.trans jK
def row_at{n j:Nat}{f:List Rat}{p:Rw × Rat}(hf:f.length=n+1)(ok:RowOk n p.1)(hj:j<n):(cw n f p).getD j 0=f.getD j 0+coef p.1.1 j * p.2:=by
 unfold cw;rw[qm (by ext),lw ok.nd fun q hq=>by have:=ok.lt q hq;ext]
def xf{n:Nat}{f:List Rat}{p:Rw × Rat}(hf:f.length=n+1)(ok:RowOk n p.1):(cw n f p).getD n 0=f.getD n 0+p.1.2 * p.2:=by
 unfold cw
 rw[mq (by rw[jK];ext),lw ok.nd fun q hq=>by have:=ok.lt q hq;ext,fZ fun z=>by
  obtain⟨q,hq,e⟩:=qaB.mp z
  have:=ok.lt q hq
  ext]
 grind
def si{n j:Nat}(hj:j<n):∀(l:List (Rw × Rat)) (f:List Rat),f.length=n+1->(∀p∈l,RowOk n p.1)->(l.foldl (cw n) f).getD j 0=cY (f.getD j 0) (l.map fun p=>(coef p.1.1 j,p.2))
 | [],f,_,_=>rfl
 | p::l,f,hf,ok=>by
  show (l.foldl (cw n) (cw n f p)).getD j 0=cY (f.getD j 0+coef p.1.1 j * p.2) _;rw[si hj l _ (nu.trans hf) fun q hq=>ok q (qaf _ hq),row_at hf (ok p (by simp)) hj]
def oC{n:Nat}:∀(l:List (Rw × Rat)) (f:List Rat),f.length=n+1->(∀p∈l,RowOk n p.1)->(l.foldl (cw n) f).getD n 0=cY (f.getD n 0) (l.map fun p=>(p.1.2,p.2))
 | [],f,_,_=>rfl
 | p::l,f,hf,ok=>by
  show (l.foldl (cw n) (cw n f p)).getD n 0=cY (f.getD n 0+p.1.2 * p.2) _;rw[oC l _ (nu.trans hf) fun q hq=>ok q (qaf _ hq),xf hf (ok p (by simp))]
def qL{n:Nat}:∀(l:List (Rw × Rat)) (f:List Rat),(l.foldl (cw n) f).length=f.length
 | [],f=>rfl
 | p::l,f=>(qL l (cw n f p)).trans nu
def sS{n j:Nat}:(List.replicate n (0:Rat)).getD j 0=0:=by
 simp only[qaa,qaZ];split <;> rfl
def vf{n:Nat}{rs:List Rw}{ms:List Rat}(ok:∀r∈rs,RowOk n r):∀p∈rs.zip ms,RowOk n p.1:=fun p hp=>ok p.1 (qaW hp).1
def sR{n:Nat}{rs:List Rw}{ms:List Rat}:(tog n rs ms).length=n+1:=(qL _ _).trans (by simp)
def vK{n j:Nat}{rs:List Rw}{ms:List Rat}(ok:∀r∈rs,RowOk n r)(hj:j<n):(tog n rs ms).getD j 0=dot (mx rs ms j):=by
 unfold tog;rw[si hj _ _ (by simp) (vf ok),sS];rfl
def qx{n:Nat}{rs:List Rw}{ms:List Rat}(ok:∀r∈rs,RowOk n r):(tog n rs ms).getD n 0=dot (rg rs ms):=by
 unfold tog;rw[oC _ _ (by simp) (vf ok),sS];rfl
def set_q{f:List Rat}{i:Nat}{q:Rat}:(f.map qD).set i (qD q)=(f.set i q).map qD:=by rw[List.map_set]
def pz{f:List Rat}{i j:Nat}{q:Rat}(h:i≠j):(f.set i q).getD j 0=f.getD j 0:=by
 simp only[qaa];rw[qai h]
def at_r{rs:List Rw}{k:Nat}(h:k<rs.length):atI (rs.map rwD) (k:Int)=some (rwD rs[k]):=by
 refine L2.dB ?_;rw[qap,qae h];rfl
def rep_q{n:Nat}(hn:n<=1000):bx.p (.lst [.tup [.int 0,.int 1]]) (.int (n:Int))=some (lD (List.replicate n 0)):=by
 have e:∀m:Nat,(List.replicate m [D.tup [.int 0,.int 1]]).flatten=(List.replicate m (0:Rat)).map qD:=fun m=>by
  induction m with
  | zero=>rfl
  | succ m ih=>rw[qaS,qbc,ih,qaS,qao];rfl
 show (if (0<=(n:Int)/\(n:Int)<=1000)/\((List.replicate (n:Int).toNat [D.tup [.int 0,.int 1]]).flatten).length<=100000 then some (D.lst (List.replicate (n:Int).toNat [D.tup [.int 0,.int 1]]).flatten) else none)=_;rw[qaG,e,qan ⟨by ext,by simp;ext⟩]
def d6(k:Nat)(d:D):Prop:=∃x,py d=some x/\dep d<=k/\x.canLay0=true/\x.depth<=k
def yq{i:Int}{k:Nat}:d6 k (.int i):=⟨.int i,rfl,by simp[dep],rfl,by simp[PyData.depth]⟩
def qN{k:Nat}{ds:List D}(h:∀d∈ds,d6 k d):∃xs,pys ds=some xs/\deps ds<=k/\PyData.canLayAll0 xs=true/\PyData.depthAll xs<=k:=by
 induction ds with
 | nil=>exact⟨[],rfl,by simp[deps],rfl,by simp[PyData.depthAll]⟩
 | cons d ds ih =>
  obtain⟨xs,a1,a2,a3,a4⟩:=ih fun d hd=>h d (qaf _ hd);obtain⟨x,b1,b2,b3,b4⟩:=h d (by simp);exact⟨x::xs,by simp[pys,a1,b1],by simp only[deps];ext,by simp[PyData.canLayAll0,a3,b3],by simp only[PyData.depthAll];ext⟩
def w4{k:Nat}{ds:List D}(h:∀d∈ds,d6 k d):d6 (k+1) (.tup ds):=by
 obtain⟨xs,a1,a2,a3,a4⟩:=qN h;exact⟨.tuple xs,by simp[py,a1],by simp only[dep];ext,by simpa [PyData.canLay0] using a3,by simp only[PyData.depth];ext⟩
def xG{k:Nat}{ds:List D}(h:∀d∈ds,d6 k d):d6 (k+1) (.lst ds):=by
 obtain⟨xs,a1,a2,a3,a4⟩:=qN h;exact⟨.list xs,by simp[py,a1],by simp only[dep];ext,by simpa [PyData.canLay0] using a3,by simp only[PyData.depth];ext⟩
def wE{k:Nat}{t b:Int}:d6 (k+1) (nD t b):=w4 fun d hd=>by
 simp only[qam,qbC,or_false] at hd;rcases hd with rfl|rfl <;> exact yq
def eO{d:D}{neg:Bool}(h:d6 60 d):eqD neg d d=some (.bl (!neg)):=by
 obtain⟨x,a1,a2,a3,a4⟩:=h;unfold eqD;rw[a1];dsimp only;rw[qan ⟨⟨a2,a2⟩,ii a3 (by ext),ii a3 (by ext)⟩,SeqAt.eqv_refl x a3];cases neg <;> rfl
def pq(q:Rat):PyData:=.tuple [.int q.num,.int (q.den:Int)]
def py_q(q:Rat):py (qD q)=some (pq q):=rfl
def pys_q(xs:List Rat):pys (xs.map qD)=some (xs.map pq):=by
 induction xs with
 | nil=>rfl
 | cons q xs ih=>rw[qao,pys,py_q,ih];rfl
def eqv_q(a b:Rat):PyData.eqv (pq a) (pq b)=decide (a=b):=by
 have e:=kX [a.num,(a.den:Int)] [b.num,(b.den:Int)];show PyData.eqvAll _ _=_;refine e.trans (decide_eq_decide.mpr ⟨fun h=>?_,fun h=>by rw[h]⟩);injection h with h1 h2
 injection h2 with h2 _
 exact Rat.ext h1 (by ext)
def vF:∀(xs ys:List Rat),PyData.eqvAll (xs.map pq) (ys.map pq)=decide (xs=ys)
 | [],[]=>by simp[PyData.eqvAll]
 | [],_::_=>by simp[PyData.eqvAll]
 | _::_,[]=>by simp[PyData.eqvAll]
 | x::xs,y::ys=>by
  simp only[qao,PyData.eqvAll,eqv_q,vF xs ys];rw[<-Bool.decide_and];exact decide_eq_decide.mpr (by simp)
def nice_q{k:Nat}{q:Rat}:d6 (k+1) (qD q):=wE
def tK{k:Nat}{xs:List Rat}:d6 (k+1+1) (lD xs):=xG fun d hd=>by
 obtain⟨q,_,rfl⟩:=qaB.mp hd;exact nice_q
def eL{neg:Bool}{a b:D}{x y:PyData}(ha:d6 60 a)(hb:d6 60 b)(e1:py a=some x)(e2:py b=some y):eqD neg a b=some (.bl (if neg then !PyData.eqv x y else PyData.eqv x y)):=by
 obtain⟨x',a1,a2,a3,a4⟩:=ha;obtain⟨y',b1,b2,b3,b4⟩:=hb;rw[e1] at a1;cases a1;rw[e2] at b1;cases b1;unfold eqD;rw[e1,e2];dsimp only;rw[qan ⟨⟨a2,b2⟩,ii a3 (by ext),ii b3 (by ext)⟩]
def py_qs(xs:List Rat):py (lD xs)=some (.list (xs.map pq)):=by rw[py,pys_q];rfl
def vd{neg:Bool}{xs ys:List Rat}:eqD neg (lD xs) (lD ys)=some (.bl (if neg then !decide (xs=ys) else decide (xs=ys))):=by
 rw[eL (tK (k:=58)) (tK (k:=58)) (py_qs xs) (py_qs ys)];simp only[PyData.eqv,vF]
def eN{xs:List Rat}{B:Nat}(h:∀q∈xs,sz q<=B)(hB:1<=B)(j:Nat):sz (xs.getD j 0)<=B:=by
 rw[qaa]
 cases e:xs[j]? with
 | none=>rw[qco,sz0];exact hB
 | some q=>exact h q (qbj e)
structure PsOk (n:Nat) (ps:List Pt):Prop where
 nd:(ps.map (·.1)).Nodup
 lt:∀p∈ps,p.1<n
 sz:∀p∈ps,sz p.2<=20
 len:ps.length<=n
abbrev paT:Xt []:=xB (af oEq (ak bi (ac (aa 1) (ac (aa 2) xNil))) (xC (.int 0)))
abbrev paE:Xe []:=bO (ac (aa 0) (ac (ak ci (ac (aa 1) xNil)) xNil))
def m5{k:Nat}(hk:0<k)(hk2:k<=100):∀(c lo:Nat) (x0:Option D) (s:Pen),∃(ps:List Pt) (s':Pen),cP (xNm 0:Xg []).p paT.p paE.p ((List.range' lo c).map fun (i:Nat)=>D.int (i:Int)) [x0,some .pen,some (.int (k:Int))] s=.ok (ps.map ptD) s' /\
  (ps.map (·.1)).Nodup/\(∀p∈ps,lo<=p.1/\p.1<lo+c/\sz p.2<=20)/\ps.length<=c
 | 0,lo,x0,s=>⟨[],s,rfl,by simp,by simp,by simp⟩
 | c+1,lo,x0,s=>by
  obtain⟨d,s1,d0,d1,q1⟩:=df (s:=s) (size:=(k:Int)) (by ext) (by ext);rw[List.range'_succ,qao];have e1:cP (xNm 0:Xg []).p paT.p paE.p (D.int (lo:Int)::(List.range' (lo+1) c).map fun (i:Nat)=>D.int (i:Int)) [x0,some .pen,some (.int (k:Int))] s =
    (paT.p [some (.int (lo:Int)),some .pen,some (.int (k:Int))] s).bind fun b s1=>if b=true then (paE.p [some (.int (lo:Int)),some .pen,some (.int (k:Int))] s1).bind fun y s2=>(cP (xNm 0:Xg []).p paT.p paE.p ((List.range' (lo+1) c).map fun (i:Nat)=>D.int (i:Int)) [some (.int (lo:Int)),some .pen,some (.int (k:Int))] s2).bind fun r s3=>.ok (y::r) s3
     else cP (xNm 0:Xg []).p paT.p paE.p ((List.range' (lo+1) c).map fun (i:Nat)=>D.int (i:Int)) [some (.int (lo:Int)),some .pen,some (.int (k:Int))] s1:=by
   rw[cP];rfl
  have t1:paT.p [some (.int (lo:Int)),some .pen,some (.int (k:Int))] s=.ok (decide (d=0)) s1:=by
   simp![ca,aB,aF,al,aq,q1,aN,aE,cE,c8,qar,if_false,Pf,PR.bl]
  rw[e1,t1,Pb];by_cases z:d=0
  ·rw[decide_eq_true z,qan rfl];obtain⟨q,s2,q2,hq,_⟩:=wd (s:=s1);have t2:paE.p [some (.int (lo:Int)),some .pen,some (.int (k:Int))] s1=.ok (ptD (lo,q)) s2:=by
    simp![cK,al,aF,aq,q2,qaA,qaH,show (0+1+1:Nat)<=100000 by decide,if_true]
   obtain⟨ps,s3,e3,h1,h2,h3⟩:=m5 hk hk2 c (lo+1) (some (.int (lo:Int))) s2;refine⟨(lo,q)::ps,s3,?_,?_,fun p hp=>?_,by simp;ext⟩
   ·rw[t2,Pb,e3];rfl
   ·rw[qao,qaN];refine⟨fun z=>?_,h1⟩;obtain⟨p,hp,e⟩:=qaB.mp z
    have:=(h2 p hp).1
    have e:p.1=lo:=e;ext
   ·rcases qam.mp hp with rfl|hp
    ·exact⟨qak _,by show lo<_;ext,hq⟩
    ·have:=h2 p hp
     exact⟨by ext,by ext,this.2.2⟩
  ·rw[decide_eq_false z,qaz (by decide)];obtain⟨ps,s3,e3,h1,h2,h3⟩:=m5 hk hk2 c (lo+1) (some (.int (lo:Int))) s1;exact⟨ps,s3,e3,h1,fun p hp=>by have:=h2 p hp;exact⟨by ext,by ext,this.2.2⟩,by ext⟩
def parts_p{n k:Nat}{s:Pen}(hn:n<=100)(hk:0<k)(hk2:k<=100):∃ps s',eS.p [.pen,.int (n:Int),.int (k:Int)] s=.ok (.tup (ps.map ptD)) s'/\PsOk n ps:=by
 obtain⟨ps,s',e,h1,h2,h3⟩:=m5 hk hk2 n 0 none s;refine⟨ps,s',?_,h1,fun p hp=>by have:=h2 p hp;ext,fun p hp=>(h2 p hp).2.2,h3⟩;rw[uo (by rfl)];unfold gg;rw[show dSt 3 [D.pen,.int (n:Int),.int (k:Int)]=[some .pen,some (.int (n:Int)),some (.int (k:Int))] from rfl,bH,bV,al,kF];simp![bP,al,aq];rw[dX (by ext),qaG,dA,qbW,Pf,Pb,qan (by simp;ext)];rw[show cenv 1 [0,2] [some D.pen,some (.int (n:Int)),some (.int (k:Int))]=[none,some .pen,some (.int (k:Int))] from rfl,e];simp only[Pb,pr,Pf,Pg,PU.bw]
abbrev pD(ps:List Pt):D:=.tup (ps.map ptD)
def tS{ps:List Pt}{p:Pt}(nd:(ps.map (·.1)).Nodup)(h:p∈ps):coef ps p.1=p.2:=by
 induction ps with
 | nil=>cases h
 | cons q ps ih =>
  rw[qao,qaN] at nd;rw[eQ];rcases qam.mp h with rfl|h
  ·rw[qan rfl]
  ·rw[qaz fun z=>nd.1 (qaB.mpr ⟨p,h,z.symm⟩),ih nd.2 h]
abbrev gsT:Xt []:=xB (af oNe (aa 1) (xC (.int 0)))
abbrev gsB:Xd []:=(az (aL 2 (af jX (aa 0) (aa 1))) (az (aL 0 (aa 1)) (aL 1 (aa 2))))
def gs1{x:Option D}{a b:Int}{n:Nat}{s:Pen}(hb:0<b):dC gsT.p gsB.p (n+1) [some (.int a),some (.int b),x] s=dC gsT.p gsB.p n [some (.int b),some (.int (a % b)),some (.int (a % b))] s:=by
 rw[dC];simp[k5 hb,PR.bl,show ¬b=0 by ext]
def gs0{x:Option D}{a:Int}{n:Nat}{s:Pen}:dC gsT.p gsB.p (n+1) [some (.int a),some (.int 0),x] s=.nx [some (.int a),some (.int 0),x] s:=by
 rw[dC];simp[PR.bl]
def gs_run{s:Pen}:∀(k n:Nat) (a b:Int) (x:Option D),0<=a->0<=b->b<2 ^ k->2 * k+1<=n->∃x',dC gsT.p gsB.p n [some (.int a),some (.int b),x] s=.nx [some (.int (Int.gcd a b)),some (.int 0),x'] s:=by
 intro k
 induction k with
 | zero =>
  intro n a b x ha hb hk hn;obtain⟨m,rfl⟩:∃m,n=m+1:=⟨n - 1,by ext⟩
  have:b=0:=by simp at hk;ext
  subst this;exact⟨x,by rw[gs0,eV ha]⟩
 | succ k ih =>
  intro n a b x ha hb hk hn;obtain⟨m,rfl⟩:∃m,n=m+1+1:=⟨n - 2,by ext⟩;by_cases e:b=0
  ·subst e;exact⟨x,by rw[gs0,eV ha]⟩
  ·have hb':0<b:=by ext
   rw[gs1 hb',<-js ha hb];have r0:=qbN a e;have r1:=qbE a hb';generalize a % b=r at r0 r1 ⊢;by_cases er:r=0
   ·subst er;exact⟨_,by rw[gs0,eV hb]⟩
   ·obtain⟨h0,h1,h2⟩:=re (b:=b) (r:=r) (by ext) r1;rw[gs1 (by ext),<-js hb r0];refine ih m r (b % r) _ r0 h0 ?_ (by ext);rw[Int.pow_succ] at hk;ext
def pow_i{a k:Nat}(h:a<2 ^ k):((a:Nat):Int)<2 ^ k:=by
 have:=Int.ofNat_lt.mpr h
 simpa using this
def qE{a b k:Nat}{s:Pen}(hk:b<2 ^ k)(hc:k<=950000):bA.p [.int (a:Int),.int (b:Int)] s=.ok (.int (Nat.gcd a b:Int)) s:=by
 rw[jV (by rfl)];unfold cC;obtain⟨x',q⟩:=gs_run (s:=s) k 2000000 (a:Int) (b:Int) none (by ext) (by ext) (pow_i hk) (by ext);rw[show dSt 3 [D.int (a:Int),.int (b:Int)]=[some (.int (a:Int)),some (.int (b:Int)),none] from rfl,aA,xWh_p lS];refine (congrArg (fun z:PS=>(z.then _).fin) q).trans ?_;simp
def whole_p{i:Int}{s:Pen}:dW.p [.int i] s=.ok (.bl true) s:=by
 rw[rC (by rfl)];unfold e8;have e1:(nJ ["int"]).p (.int i)=some (.bl true):=rfl;have e2:(nJ ["bool"]).p (.int i)=some (.bl false):=rfl;rw[show dSt 1 [D.int i]=[some (.int i)] from rfl];simp only[bH,kq,xUn_p,ah,Pb,e1,e2,Pf,PR.bl,if_true,xNotV_p,qbJ,Pg,PU.bw]
def divI{t b:Int}(hb:b≠0):Rat.divInt t b=Rat.divInt (if b<0 then -t else t) (b.natAbs:Nat):=by
 split
 ·have:((b.natAbs:Nat):Int) = -b:=by ext
  rw[this];exact (Rat.neg_divInt_neg t b).symm
 ·have:((b.natAbs:Nat):Int)=b:=by ext
  rw[this]
def v5{t:Int}{g:Nat}(hg:0<g)(hd:(g:Int) ∣ t):t.fdiv (-(g:Int))=(-t) / (g:Int):=by
 obtain⟨c,rfl⟩:=hd;have h0:(g:Int)≠0:=by ext
 have e1:((g:Int) * c).fdiv (-(g:Int)) = -c:=by
  rw[show (g:Int) * c=(-(g:Int)) * (-c) by rw[Int.neg_mul_neg],qck _ (by ext)]
 rw[e1,<-Int.mul_neg,qcl _ h0]
def iJ{t b:Int}{k:Nat}{s:Pen}(hb:b≠0)(hk:b.natAbs<2 ^ k)(hc:k<=950000):bN.p [.int t,.int b] s=.ok (qD (Rat.divInt t b)) s:=by
 have hb0:b.natAbs≠0:=by ext
 have g0:0<Nat.gcd t.natAbs b.natAbs:=qcj _ (by ext);have sh:=qE (a:=t.natAbs) (s:=s) hk hc;rw[divI hb];obtain⟨e1,e2⟩:=nA (if b<0 then -t else t) b.natAbs hb0;have en:(if b<0 then -t else t).natAbs=t.natAbs:=by split <;> simp
 rw[en] at e1 e2;rw[qK (by rfl)];unfold d9;rw[show dSt 3 [D.int t,.int b]=[some (.int t),some (.int b),none] from rfl];simp![aA,bE,xOr_p,mS,ca,aF,al,aq,whole_p,PR.bl,qbi,qar,if_false,Pg,bD,PU.au,aB,aN,aE,cE,c8,Pf,decide_eq_false hb,aS,bV,wz,sh,qag,qah,oLt_ii];have dt:(Nat.gcd t.natAbs b.natAbs:Int) ∣ t:=Int.ofNat_dvd_left.mpr (Nat.gcd_dvd_left _ _);have db:(Nat.gcd t.natAbs b.natAbs:Int) ∣ b:=Int.ofNat_dvd_left.mpr (Nat.gcd_dvd_right _ _);by_cases z:b<0
 ·rw[decide_eq_true z];have f1:oFd.p (.int t) (.int (-(Nat.gcd t.natAbs b.natAbs:Int)))=some (.int ((-t) / (Nat.gcd t.natAbs b.natAbs:Int))):=by rw[mQ (by ext),v5 g0 dt]
  have f2:oFd.p (.int b) (.int (-(Nat.gcd t.natAbs b.natAbs:Int)))=some (.int ((-b) / (Nat.gcd t.natAbs b.natAbs:Int))):=by rw[mQ (by ext),v5 g0 db]
  have e3:(-b:Int)=(b.natAbs:Nat):=by ext
  rw[qD,e1,e2,qan z];have en2:oNeg.p (.int (Nat.gcd t.natAbs b.natAbs:Int))=some (.int (-(Nat.gcd t.natAbs b.natAbs:Int))):=rfl;simp[f1,f2,e3,en2]
 ·rw[decide_eq_false z];have f1:=gJ (a:=t) (b:=(Nat.gcd t.natAbs b.natAbs:Int)) (by ext);have f2:=gJ (a:=b) (b:=(Nat.gcd t.natAbs b.natAbs:Int)) (by ext);have e3:((b.natAbs:Nat):Int)=b:=by ext
  rw[qD,e1,e2,qaz z];simp[f1,f2,e3]
def gi(a:Nat)(qs:List Rat):Nat:=qs.foldl (fun a q=>a * q.den / Nat.gcd a q.den) a
def k4{a:Nat}{q:Rat}{qs:List Rat}:gi a (q::qs)=gi (Nat.lcm a q.den) qs:=rfl
def m4:∀(qs:List Rat) (a:Nat),a ∣ gi a qs/\∀q∈qs,q.den ∣ gi a qs
 | [],a=>⟨Nat.dvd_refl _,by simp⟩
 | q::qs,a=>by
  rw[k4];obtain⟨h1,h2⟩:=m4 qs (Nat.lcm a q.den);refine⟨Nat.dvd_trans (Nat.dvd_lcm_left _ _) h1,fun p hp=>?_⟩;rcases qam.mp hp with rfl|hp
  ·exact Nat.dvd_trans (Nat.dvd_lcm_right _ _) h1
  ·exact h2 p hp
def kB:∀(qs:List Rat) (a:Nat),0<a->0<gi a qs
 | [],a,h=>h
 | q::qs,a,h=>by rw[k4];exact kB qs _ (Nat.lcm_pos h (Nat.pos_of_ne_zero q.den_nz))
def szs(qs:List Rat):Nat:=(qs.map sz).sum
def lm{q:Rat}{qs:List Rat}:szs (q::qs)=sz q+szs qs:=by simp[szs]
def pB:∀(qs:List Rat) (a k:Nat),a<2 ^ k->gi a qs<2 ^ (k+szs qs)
 | [],a,k,h=>by simpa [szs,gi] using h
 | q::qs,a,k,h=>by
  rw[k4,lm];have h1:Nat.lcm a q.den<2 ^ (k+sz q):=qbF (qbO _ _) (cg h (bG q))
  have:=pB qs _ _ h1
  rwa [qcL] at this
abbrev sbB:Xd []:=aL 1 (af oFd (af bx (aa 1) (af oIx (aa 2) (xC (.int 1)))) (ak bA (ac (aa 1) (ac (af oIx (aa 2) (xC (.int 1))) xNil))))
def tR{P:Option D}{s:Pen}:∀(qs:List Rat) (a k:Nat) (x:Option D),0<a->a<2 ^ k->k+szs qs<=900000->∃x',pGo (xNm 2:Xg []).p sbB.p (qs.map qD) [P,some (.int (a:Int)),x] s=.nx [P,some (.int (gi a qs:Int)),x'] s
 | [],a,k,x,_,_,_=>⟨x,rfl⟩
 | q::qs,a,k,x,h0,hk,hc=>by
  rw[lm] at hc;have h1:Nat.lcm a q.den<2 ^ (k+sz q):=qbF (qbO _ _) (cg hk (bG q));obtain⟨x',e⟩:=tR (P:=P) (s:=s) qs (Nat.lcm a q.den) (k+sz q) (some (qD q)) (Nat.lcm_pos h0 (Nat.pos_of_ne_zero q.den_nz)) h1 (by ext);refine⟨x',?_⟩;have sh:=qE (a:=a) (b:=q.den) (s:=s) (bG q) (by ext);have m:=bM (a:=(a:Int)) (b:=(q.den:Int)) (j:=k) (k:=sz q) (by simpa using hk) (by simpa using bG q);have g0:0<Nat.gcd a q.den:=Nat.gcd_pos_of_pos_left _ h0;have f:=gJ (a:=(a:Int) * (q.den:Int)) (b:=(Nat.gcd a q.den:Int)) (by ext);have e1:sbB.p [P,some (.int (a:Int)),some (qD q)] s=.nx [P,some (.int (Nat.lcm a q.den:Int)),some (qD q)] s:=by
   simp![aS,aB,aN,aE,bg,z1,Pf,m,aF,al,aq,sh,f,Pg,qag,qah]
   have:((a:Int) * (q.den:Int)) / (Nat.gcd a q.den:Int)=(Nat.lcm a q.den:Int):=by
    rw[<-qbQ,<-qct];rfl
   rw[this]
  rw[qao,eK (env1:=[P,some (.int (a:Int)),some (qD q)]) (by rfl),e1];exact e
def mL{qs:List Rat}{s:Pen}(hc:1+szs qs<=900000):cR.p [lD qs] s=.ok (.int (gi 1 qs:Int)) s:=by
 rw[k7 (by rfl)];unfold cQ;rw[show dSt 3 [lD qs]=[some (lD qs),none,none] from rfl];obtain⟨x',q⟩:=tR (P:=some (lD qs)) (s:=s) qs 1 1 none (by decide) (by decide) hc;dsimp![aA,aS,aN,aE,cV,cH,ah,Pb,bY,Pf];refine (congrArg (fun z:PS=>(z.then _).fin) q).trans ?_;simp
def qI(j:Nat):∀ps:List Pt,(dix (ps.map fun p=>((p.1:Nat):Int)) (ps.map fun p=>qD p.2) (j:Int)).getD (.tup [.int 0,.int 1])=qD (coef ps j)
 | []=>rfl
 | p::ps=>by
  have ih:=qI j ps;rw[qao,qao,dix,eQ];by_cases e:p.1=j
  ·subst e;simp
  ·rw[qaz (by ext),qaz e];exact ih
def sL{ps:List Pt}(nd:(ps.map (·.1)).Nodup):oV.p [.tup (ps.map ptD)]=some (.dic false (ps.map fun p=>((p.1:Nat):Int)) (ps.map fun p=>qD p.2)):=by
 show (dgD (.tup (ps.map ptD))).map _=_;rw[dg_pt nd,qcE];simp[qaE,Function.comp_def]
def nums(n:Nat)(r:Rw):List Rat:=(List.range n).map (coef r.1)++[r.2]
def oft(n:Nat)(r:Rw):Nat:=gi 1 (nums n r)
def wr(n m:Nat)(r:Rw)(k:Nat):List Int:=(nums n r).map (fun q=>q.num * ((oft n r:Int) / (q.den:Int)))++(List.range m).map fun i=>if i=k then (oft n r:Int) else 0
abbrev iD(l:List Int):D:=.lst (l.map .int)
def fC{n:Nat}{r:Rw}:(nums n r).length=n+1:=by simp[nums]
def oft_pos{n:Nat}{r:Rw}:0<oft n r:=kB _ _ (by decide)
def wr_len{n m:Nat}{r:Rw}{k:Nat}:(wr n m r k).length=n+1+m:=by simp[wr,fC]
def qR{x:Nat}:∀{l:List Nat},x∈l->x<=l.sum
 | y::l,h=>by
  rw[List.sum_cons];rcases qam.mp h with rfl|h
  ·ext
  ·have:=qR h;ext
def rH{n k:Nat}{rs:List Rw}{s:Pen}(hn:n<=100)(hl:rs.length<=1000)(hk:k<rs.length)(ok:RowOk n rs[k])(hz:1+szs (nums n rs[k])<=400000):cX.p [.int (n:Int),rsD rs,.int (k:Int)] s=.ok (iD (wr n rs.length rs[k] k)) s:=by
 generalize er:rs[k]=r at *;have ha:atI (rs.map rwD) (k:Int)=some (rwD r):=by rw[at_r hk,er]
 have h1:oft n r<2 ^ (1+szs (nums n r)):=pB _ 1 1 (by decide);have dv:=(m4 (nums n r) 1).2;have sb:=mL (qs:=nums n r) (s:=s) (by ext);have hs:∀q∈nums n r,sz q<=szs (nums n r):=fun q hq=>by
  unfold szs;exact qR (qaB.mpr ⟨q,hq,rfl⟩)
 rw[pV (by rfl)];unfold eB;rw[show dSt 7 [D.int (n:Int),rsD rs,.int (k:Int)]=[some (.int (n:Int)),some (rsD rs),some (.int (k:Int)),none,none,none,none] from rfl];have c1:=dH (ws:=[]) (ws':=[]) (env:=[some (.int (n:Int)),some (rsD rs),some (.int (k:Int)),some (.dic false (r.1.map fun p=>((p.1:Nat):Int)) (r.1.map fun p=>qD p.2)),none,none,none]) (s:=s) (s0:=s) (fm:=[3]) (i:=bh iR1 (ac (aa 0) xNil)) (t:=xTrue) (e:=xDG (aa 1) (ac (aa 0) (ac (xCT 0 1) xNil))) (l:=List.range n) (fun (j:Nat)=>D.int (j:Int)) (fun j=>qD (coef r.1 j)) (fun _=>true)
  (by simp only[bP,al,ah,Pb,aq];rw[dX (by ext),qaG,dA];rfl) (by simp;ext) fun j _=>⟨rfl,fun _=>by
   show (xDG _ _:Xe []).p [some (.int (j:Int)),some (.dic false (r.1.map fun p=>((p.1:Nat):Int)) (r.1.map fun p=>qD p.2))] s=_
   simp![xDG_p,al,jE,aq,qI]⟩
 have c2:=dH (ws:=[]) (ws':=[]) (env:=[some (.int (n:Int)),some (rsD rs),some (.int (k:Int)),some (.dic false (r.1.map fun p=>((p.1:Nat):Int)) (r.1.map fun p=>qD p.2)),some (lD (nums n r)),some (.int (oft n r:Int)),none]) (s:=s) (s0:=s) (fm:=[5,2]) (i:=bh iR1 (ac (xCb dD (ac (aa 1) xNil)) xNil)) (t:=xTrue) (e:=mY (xB (af oEq (aa 0) (aa 2))) (aa 1) (xC (.int 0)) true) (l:=List.range rs.length) (fun (j:Nat)=>D.int (j:Int)) (fun j=>D.int (if j=k then (oft n r:Int) else 0)) (fun _=>true)
  (by simp![bP,al,bV,aq,fY,qaC,Pf];rw[dX (by ext),qaG,dA];rfl) (by simp;ext) fun j _=>⟨rfl,fun _=>by
   show (mY _ _ _ _ _:Xe []).p [some (.int (j:Int)),some (.int (oft n r:Int)),some (.int (k:Int))] s=_;simp![xIfE_p,ca,aB,cE,c8,Pf,PR.bl,qar,if_false];by_cases e:j=k
   ·subst e;simp
   ·have:¬(j:Int)=(k:Int):=by ext
    simp[e,this]⟩
 have c3:=dH (ws:=[]) (ws':=[]) (env:=[some (.int (n:Int)),some (rsD rs),some (.int (k:Int)),some (.dic false (r.1.map fun p=>((p.1:Nat):Int)) (r.1.map fun p=>qD p.2)),some (lD (nums n r)),some (.int (oft n r:Int)),some (.lst ((List.range rs.length).map fun j=>D.int (if j=k then (oft n r:Int) else 0)))]) (s:=s) (s0:=s) (fm:=[5]) (i:=cA (aa 4)) (t:=xTrue) (e:=af bx (af oIx (aa 0) (xC (.int 0))) (af oFd (aa 1) (af oIx (aa 0) (xC (.int 1))))) (l:=nums n r) qD (fun q=>D.int (q.num * ((oft n r:Int) / (q.den:Int)))) (fun _=>true)
  (by simp![cH,bY,Pf]) (by rw[fC];ext) fun q hq=>⟨rfl,fun _=>by
   show (af _ _ _:Xe []).p [some (qD q),some (.int (oft n r:Int))] s=_;have f:=gJ (a:=(oft n r:Int)) (b:=(q.den:Int)) (by have:=q.den_nz;ext)
   have m:=bM (a:=q.num) (b:=(oft n r:Int) / (q.den:Int)) (j:=sz q) (k:=1+szs (nums n r)) (cN q) (by
    rw[<-qct,qbP]
    exact qbF (qbO _ _) h1) (by have:=hs q hq;ext)
   simp![aB,aN,aE,bg,z0,z1,Pf,f,m]⟩
 have a1:cL.p (.lst (((List.range n).filter fun _=>true).map fun j=>qD (coef r.1 j))) (.lst [qD r.2])=some (lD (nums n r)):=by
  rw[bu,sI (by simp;ext)];simp[nums,lD,qaE,Function.comp_def]
 have a2:cL.p (.lst (((nums n r).filter fun _=>true).map fun q=>D.int (q.num * ((oft n r:Int) / (q.den:Int))))) (.lst ((List.range rs.length).map fun j=>D.int (if j=k then (oft n r:Int) else 0)))=some (iD (wr n rs.length r k)):=by
  rw[bu,sI (by simp[fC];ext)];simp[wr,iD,qaE,Function.comp_def]
 simp![aA,aS,bV,al,aB,cq,ha,Pf,aN,aE,bg,z0,z1,aq,sL ok.nd,Pg,qag,qah,PU.au,c1,eA,qaA,qaH,show (0+1:Nat)<=100000 by decide,if_true,a1,aF,sb];rw[show ((gi 1 (nums n r):Nat):Int)=(oft n r:Int) from rfl,c2];dsimp![bu,bH,aB];rw[c3];simp![a2,Pf,Pg,PU.bw]
def jh{l:List Int}{i:Nat}(h:i<l.length):atI (l.map D.int) (i:Int)=some (.int (l.getD i 0)):=by
 refine L2.dB ?_;rw[qap,qae h,qaa,qae h];rfl
def clr(row ch:List Int)(p:Nat)(d:Int):List Int:=(row.zip ch).map fun x=>(ch.getD p 0 * x.1 - row.getD p 0 * x.2).fdiv d
def n4{row ch:List Int}{p k:Nat}{d:Int}{s:Pen}(h1:p<row.length)(h2:p<ch.length)(hl:row.length<=10000)(hd:d≠0)(b1:∀x∈row,x.natAbs<2 ^ k)(b2:∀x∈ch,x.natAbs<2 ^ k)(hk:k<=1000000) :
  cr.p [iD row,iD ch,.int (p:Int),.int d] s=.ok (iD (clr row ch p d)) s:=by
 have g1:(row.getD p 0).natAbs<2 ^ k:=by rw[qaa,qae h1];exact b1 _ (qaL h1)
 have g2:(ch.getD p 0).natAbs<2 ^ k:=by rw[qaa,qae h2];exact b2 _ (qaL h2)
 rw[uz (by rfl)];unfold fS;rw[show dSt 4 [iD row,iD ch,.int (p:Int),.int d]=[some (iD row),some (iD ch),some (.int (p:Int)),some (.int d)] from rfl,bH];have c:=f9 (ws:=[]) (ws':=[]) (env:=[some (iD row),some (iD ch),some (.int (p:Int)),some (.int d)]) (s:=s) (s0:=s) (fm:=[3,1,2,0]) (i:=bh iZ (ac (aa 0) (ac (aa 1) xNil))) (t:=xTrue) (e:=af oFd (af i4 (af bx (af oIx (aa 3) (aa 4)) (aa 0)) (af bx (af oIx (aa 5) (aa 4)) (aa 1))) (aa 2)) (l:=row.zip ch) (fun x=>D.int x.1) (fun x=>D.int x.2) (fun x=>D.int ((ch.getD p 0 * x.1 - row.getD p 0 * x.2).fdiv d)) (fun _=>true)
  (by simp![bP,al,aq,kr,Pf,eT]) (iO (by ext)) fun x hx=>⟨rfl,fun _=>by
   show (af _ _ _:Xe []).p [some (.int x.1),some (.int x.2),some (.int d),some (iD ch),some (.int (p:Int)),some (iD row)] s=_;obtain⟨m1,m2⟩:=qaW hx;have e1:=bM (a:=ch.getD p 0) (b:=x.1) g2 (b1 _ m1) hk hk;have e2:=bM (a:=row.getD p 0) (b:=x.2) g1 (b2 _ m2) hk hk
   simp![aB,cq,jh h1,jh h2,Pf,e1,e2,ku,mQ hd]⟩
 rw[c];simp only[bu,Pg,PU.bw];simp[clr,iD,qaE,Function.comp_def]
abbrev Fm:=List Nat->Int
abbrev Vc:=Nat->Int
def W(r:Vc):Fm->List Nat->Int
 | _,[]=>0
 | f,q::l=>r q * f l - W r (fun l=>f (q::l)) l
def uB(r:Vc)(a b:Int):∀(l:List Nat) (f g:Fm),W r (fun l=>a * f l+b * g l) l=a * W r f l+b * W r g l
 | [],f,g=>by simp[W]
 | q::l,f,g=>by
  simp only[W];rw[uB r a b l (fun l=>f (q::l)) (fun l=>g (q::l))]
  grind
def iq(a b:Int)(r s:Vc):∀(l:List Nat) (f:Fm),W (fun q=>a * r q+b * s q) f l=a * W r f l+b * W s f l
 | [],f=>by simp[W]
 | q::l,f=>by
  simp only[W];rw[iq a b r s l]
  grind
def lY(r s:Vc):∀(l:List Nat) (f:Fm),W r (W s f) l+W s (W r f) l=0
 | [],f=>by simp[W]
 | q::l,f=>by
  have e:∀(r s:Vc),W r (W s f) (q::l)=r q * W s f l - s q * W r f l+W r (W s fun l=>f (q::l)) l:=fun r s=>by
   have:(fun l=>W s f (q::l))=fun l=>s q * f l+(-1) * W s (fun l=>f (q::l)) l:=by
    funext l;simp only[W];grind
   show r q * W s f l - W r (fun l=>W s f (q::l)) l=_;rw[this,uB]
   grind
  rw[e r s,e s r]
  have:=lY r s l fun l=>f (q::l)
  grind
def W_self(r:Vc)(l:List Nat)(f:Fm):W r (W r f) l=0:=by
 have:=lY r r l f
 ext
def one:Fm:=fun l=>if l=[] then 1 else 0
def Dt:List Vc->Fm
 | []=>one
 | r::rs=>W r (Dt rs)
def p8(r:Vc):∀(l:List Nat) (f:Fm),(∀l,f l=0)->W r f l=0
 | [],f,h=>rfl
 | q::l,f,h=>by
  simp only[W];rw[h,p8 r l _ fun l=>h (q::l)];ext
def t6(a:Vc):∀(rs:List Vc),a∈rs->∀l,W a (Dt rs) l=0
 | r::rs,h,l=>by
  rcases qam.mp h with rfl|h
  ·exact W_self _ _ _
  ·have:=lY a r l (Dt rs)
   have z:W r (W a (Dt rs)) l=0:=p8 r l _ (t6 a rs h);show W a (W r (Dt rs)) l=0;ext
def hU(a:Vc):∀(l:List Nat) (f:Fm),(∀q∈l,a q=0)->W a f l=0
 | [],f,_=>rfl
 | q::l,f,h=>by
  simp only[W];rw[h q (by simp),hU a l _ fun q hq=>h q (qaf _ hq)];ext
inductive Sp (rs:List Vc):Vc->Prop
 | nil:Sp rs fun _=>0
 | add {v r:Vc} (c:Int) (h:Sp rs v) (m:r∈rs):Sp rs fun q=>v q+c * r q
def Sp.w{rs:List Vc}{v:Vc}(h:Sp rs v)(l:List Nat):W v (Dt rs) l=0:=by
 induction h with
 | nil=>exact hU _ _ _ fun _ _=>rfl
 | @add v r c _ m ih =>
  have:=iq 1 c v r l (Dt rs)
  rw[show (fun q=>v q+c * r q)=fun q=>1 * v q+c * r q by funext q;ext,this,ih,t6 r rs m l];ext
def syl{rs:List Vc}{P:List Nat}{a b a' b' u v:Vc}{m:Int}(hm:m≠0)(ha:∀q,a' q=m * a q+u q)(hb:∀q,b' q=m * b q+v q)(su:Sp rs u)(sv:Sp rs v)(za:∀q∈P,a' q=0)(zb:∀q∈P,b' q=0)(j p:Nat) :
  Dt rs P * W a (W b (Dt rs)) (j::p::P)=W b (Dt rs) (p::P) * W a (Dt rs) (j::P) - W a (Dt rs) (p::P) * W b (Dt rs) (j::P):=by
 have ea:a'=fun q=>m * a q+1 * u q:=by funext q;rw[ha];ext
 have eb:b'=fun q=>m * b q+1 * v q:=by funext q;rw[hb];ext
 have fa:∀l,W a' (Dt rs) l=m * W a (Dt rs) l:=fun l=>by rw[ea,iq,su.w l];ext
 have fb:∀l,W b' (Dt rs) l=m * W b (Dt rs) l:=fun l=>by rw[eb,iq,sv.w l];ext
 have ga:∀j,W a' (Dt rs) (j::P)=a' j * Dt rs P:=fun j=>by simp only[W];rw[hU a' P _ za];ext
 have gb:∀j,W b' (Dt rs) (j::P)=b' j * Dt rs P:=fun j=>by simp only[W];rw[hU b' P _ zb];ext
 have e1:W a' (W b' (Dt rs)) (j::p::P)=m * m * W a (W b (Dt rs)) (j::p::P):=by
  have:W b' (Dt rs)=fun l=>m * W b (Dt rs) l+0 * W b (Dt rs) l:=by funext l;rw[fb];ext
  rw[this,uB,ea,iq];have z:W u (W b (Dt rs)) (j::p::P)=0:=by
   have:=lY u b (j::p::P) (Dt rs)
   rw[p8 b _ _ su.w] at this;ext
  rw[z];grind
 have e2:W a' (W b' (Dt rs)) (j::p::P)=a' j * (b' p * Dt rs P) - a' p * (b' j * Dt rs P):=by
  have:W a' (fun l=>W b' (Dt rs) (j::l)) (p::P)=a' p * W b' (Dt rs) (j::P) - W a' (fun l=>W b' (Dt rs) (j::p::l)) P:=rfl
  show a' j * W b' (Dt rs) (p::P) - W a' (fun l=>W b' (Dt rs) (j::l)) (p::P)=_;rw[this,hU a' P _ za,gb p,gb j];ext
 have h1:=ga j;have h2:=ga p;have h3:=gb j;have h4:=gb p;rw[fa] at h1 h2;rw[fb] at h3 h4;have key:m * m * (Dt rs P * W a (W b (Dt rs)) (j::p::P))=m * m * (W b (Dt rs) (p::P) * W a (Dt rs) (j::P) - W a (Dt rs) (p::P) * W b (Dt rs) (j::P)):=by
  rw[e1] at e2;have e3:m * m * (W b (Dt rs) (p::P) * W a (Dt rs) (j::P) - W a (Dt rs) (p::P) * W b (Dt rs) (j::P))=(m * W b (Dt rs) (p::P)) * (m * W a (Dt rs) (j::P)) - (m * W a (Dt rs) (p::P)) * (m * W b (Dt rs) (j::P)):=by grind
  rw[e3,h1,h2,h3,h4];have e4:m * m * (Dt rs P * W a (W b (Dt rs)) (j::p::P))=Dt rs P * (m * m * W a (W b (Dt rs)) (j::p::P)):=by grind
  rw[e4,e2]
  grind
 exact Int.eq_of_mul_eq_mul_left (Int.mul_ne_zero hm hm) key
def Sp.add'{rs:List Vc}{u v:Vc}(hu:Sp rs u)(hv:Sp rs v):Sp rs fun q=>u q+v q:=by
 induction hv with
 | nil=>simpa using hu
 | @add v r c _ m ih =>
  have:=Sp.add c ih m
  rw[show (fun q=>u q+(v q+c * r q))=fun q=>(u q+v q)+c * r q by funext q;ext];exact this
def Sp.smul{rs:List Vc}{v:Vc}(k:Int)(hv:Sp rs v):Sp rs fun q=>k * v q:=by
 induction hv with
 | nil=>simpa using Sp.nil
 | @add v r c _ m ih =>
  have:=Sp.add (k * c) ih m
  rw[show (fun q=>k * (v q+c * r q))=fun q=>k * v q+(k * c) * r q by funext q;grind];exact this
def Sp.mono{rs:List Vc}{r:Vc}{v:Vc}(h:Sp rs v):Sp (r::rs) v:=by
 induction h with
 | nil=>exact .nil
 | add c _ m ih=>exact .add c ih (qaf _ m)
def sp_W{rs:List Vc}(r:Vc):∀(L:List Nat) (F:Nat->Fm),(∀L,Sp rs fun j=>F j L)->Sp rs fun j=>W r (F j) L
 | [],F,h=>Sp.nil
 | q::L,F,h=>by
  have h1:=(h L).smul (r q);have h2:=(sp_W r L (fun j l=>F j (q::l)) fun L=>h (q::L)).smul (-1)
  have:=h1.add' h2
  rw[show (fun j=>W r (F j) (q::L))=fun j=>r q * F j L + -1 * W r (fun l=>F j (q::l)) L by funext j;simp only[W];ext];exact this
def sp_Dt:∀(rs:List Vc) (L:List Nat),Sp rs fun j=>Dt rs (j::L)
 | [],L=>by
  rw[show (fun j=>Dt [] (j::L))=fun _=>0 by funext j;rfl];exact .nil
 | r::rs,L=>by
  have h1:Sp (r::rs) fun j=>r j * Dt rs L:=by
   have:=(Sp.add (rs:=r::rs) (r:=r) (Dt rs L) .nil (by simp))
   rw[show (fun j=>r j * Dt rs L)=fun j=>0+Dt rs L * r j by funext j;grind];exact this
  have h2:=(sp_W (rs:=r::rs) r L (fun j l=>Dt rs (j::l)) fun L=>(sp_Dt rs L).mono).smul (-1)
  have:=h1.add' h2
  rw[show (fun j=>Dt (r::rs) (j::L))=fun j=>r j * Dt rs L + -1 * W r (fun l=>Dt rs (j::l)) L by funext j;show r j * Dt rs L - _=_;ext];exact this
abbrev Lf(rs:List Vc)(P:List Nat)(a:Vc):Vc:=fun j=>W a (Dt rs) (j::P)
def lT(rs:List Vc)(P:List Nat)(a:Vc):∃u,Sp rs u/\∀j,Lf rs P a j=Dt rs P * a j+u j:=by
 refine⟨fun j => -1 * W a (fun l=>Dt rs (j::l)) P,(sp_W a P (fun j l=>Dt rs (j::l)) fun L=>sp_Dt rs L).smul (-1),fun j=>?_⟩;show a j * Dt rs P - _=_
 have:a j * Dt rs P=Dt rs P * a j:=qcM _ _
 dsimp only;ext
structure Stg (rs:List Vc) (P:List Nat):Prop where
 ne:Dt rs P≠0
 van:∀a q,q∈P->Lf rs P a q=0
def stg0:Stg [] []:=⟨by decide,fun _ _ h=>by cases h⟩
def Stg.step{rs:List Vc}{P:List Nat}(s:Stg rs P)(a b:Vc)(j p:Nat):Dt rs P * Lf (b::rs) (p::P) a j=Lf rs P b p * Lf rs P a j - Lf rs P a p * Lf rs P b j:=by
 obtain⟨u,su,eu⟩:=lT rs P a;obtain⟨v,sv,ev⟩:=lT rs P b;exact syl s.ne (a':=Lf rs P a) (b':=Lf rs P b) eu ev su sv (s.van a) (s.van b) j p
def Stg.next{rs:List Vc}{P:List Nat}(s:Stg rs P){b:Vc}{p:Nat}(h:Lf rs P b p≠0):Stg (b::rs) (p::P):=by
 refine⟨h,fun a q hq=>?_⟩;have e:=s.step a b q p;have z:Dt rs P * Lf (b::rs) (p::P) a q=0:=by
  rw[e];rcases qam.mp hq with rfl|hq
  ·rw[qcM];ext
  ·rw[s.van a q hq,s.van b q hq];simp
 exact (qcG.mp z).resolve_left s.ne
def dlt(p:Nat):Vc:=fun q=>if q=p then 1 else 0
def Hd(rs:List Vc)(P:List Nat)(p:Nat):Vc:=fun j=>Lf rs P (fun q => -dlt p q) j+Dt rs P * dlt p j
def wj{rs:List Vc}{P:List Nat}{b:Vc}{p:Nat}(hp:p∉P)(j:Nat):Hd (b::rs) (p::P) p j=Lf rs P b j:=by
 have off:∀f:Fm,W (fun q => -dlt p q) f P=0:=fun f=>hU _ _ _ fun q hq=>by
  have:q≠p:=fun z=>hp (z▸hq)
  simp[dlt,this]
 show (-dlt p j * W b (Dt rs) (p::P) - (-dlt p p * W b (Dt rs) (j::P) - W (fun q => -dlt p q) _ P))+W b (Dt rs) (p::P) * dlt p j=W b (Dt rs) (j::P);rw[off,show dlt p p=1 by simp[dlt]]
 grind
def wm{rs:List Vc}{P:List Nat}(s:Stg rs P){b:Vc}{p p':Nat}(ne:p'≠p)(j:Nat):Dt rs P * Hd (b::rs) (p'::P) p j=Lf rs P b p' * Hd rs P p j - Hd rs P p p' * Lf rs P b j:=by
 have e:=s.step (fun q => -dlt p q) b j p';unfold Hd;rw[show dlt p p'=0 by simp[dlt,ne]];show Dt rs P * (Lf (b::rs) (p'::P) (fun q => -dlt p q) j+Lf rs P b p' * dlt p j)=_;rw[Int.mul_add,e]
 grind
def kh{rs:List Vc}{P:List Nat}(s:Stg rs P){p q:Nat}(hq:q∈P):Hd rs P p q=Dt rs P * dlt p q:=by
 unfold Hd;rw[s.van _ q hq];ext
def Hd_sp(rs:List Vc)(P:List Nat)(p:Nat):Sp rs (Hd rs P p):=by
 obtain⟨u,su,eu⟩:=lT rs P fun q => -dlt p q;rw[show Hd rs P p=u by funext j;unfold Hd;rw[eu];grind];exact su
def W_loc{a b:Vc}:∀(l:List Nat) (f:Fm),(∀q∈l,a q=b q)->W a f l=W b f l
 | [],f,_=>rfl
 | q::l,f,h=>by
  simp only[W];rw[h q (by simp),W_loc l _ fun q hq=>h q (qaf _ hq)]
def dq(P:List Nat)(f:Nat->Int):Int:=(P.map f).foldr (·+·) 0
def dj{p:Nat}{P:List Nat}{f:Nat->Int}:dq (p::P) f=f p+dq P f:=rfl
def W_sum(f:Fm)(l:List Nat)(a:Vc):∀Q:List Nat,W (fun q=>dq Q fun p=>a p * dlt p q) f l=dq Q fun p=>a p * W (dlt p) f l
 | []=>hU _ _ _ fun _ _=>rfl
 | p::Q=>by
  have:=iq (a p) 1 (dlt p) (fun q=>dq Q fun p=>a p * dlt p q) l f
  rw[show (fun q=>dq (p::Q) fun p=>a p * dlt p q)=fun q=>a p * dlt p q+1 * dq Q fun p=>a p * dlt p q by funext q;rw[dj];ext,this,W_sum f l a Q,dj];ext
def sD{P:List Nat}(nd:P.Nodup)(a:Vc)(q:Nat):(dq P fun p=>a p * dlt p q)=if q∈P then a q else 0:=by
 induction P with
 | nil=>rfl
 | cons p P ih =>
  rw[dj,ih (qaN.mp nd).2];by_cases e:q=p
  ·subst e;simp[dlt,(qaN.mp nd).1]
  ·by_cases h:q∈P <;> simp[dlt,e,h]
def wX{P:List Nat}{f:Nat->Int}:(dq P fun p => -f p) = -dq P f:=by
 induction P with
 | nil=>rfl
 | cons p P ih=>rw[dj,dj,ih];ext
def mF{P:List Nat}{f g:Nat->Int}(h:∀p∈P,f p=g p):dq P f=dq P g:=by
 induction P with
 | nil=>rfl
 | cons p P ih=>rw[dj,dj,h p (by simp),ih fun q hq=>h q (qaf _ hq)]
def Lf_held{rs:List Vc}{P:List Nat}(s:Stg rs P)(nd:P.Nodup)(a:Vc)(j:Nat):Lf rs P a j=Dt rs P * a j - dq P fun p=>a p * Hd rs P p j:=by
 by_cases hj:j∈P
 ·rw[s.van a j hj]
  have:(dq P fun p=>a p * Hd rs P p j)=dq P fun p=>(Dt rs P * a p) * dlt p j:=mF fun p _=>by rw[kh s hj];grind
  rw[this,sD nd (fun p=>Dt rs P * a p) j,qan hj];ext
 ·have e1:Lf rs P a j=W (fun q=>a j * dlt j q+1 * dq P fun p=>a p * dlt p q) (Dt rs) (j::P):=by
   refine W_loc _ _ fun q hq=>?_;rw[sD nd a q];rcases qam.mp hq with rfl|hq
   ·simp[dlt,hj]
   ·have:q≠j:=fun z=>hj (z▸hq)
    simp[dlt,this,hq]
  rw[e1,iq,W_sum];have e2:W (dlt j) (Dt rs) (j::P)=Dt rs P:=by
   show dlt j j * Dt rs P - W (dlt j) _ P=_
   rw[hU (dlt j) P _ fun q hq=>by
    have:q≠j:=fun z=>hj (z▸hq)
    simp[dlt,this]]
   simp[dlt]
  rw[e2];have e3:(dq P fun p=>a p * Hd rs P p j)=dq P fun p => -(a p * W (dlt p) (Dt rs) (j::P)):=mF fun p hp=>by
   have ne:¬j=p:=fun z=>hj (z▸hp);have e4:Lf rs P (fun q => -dlt p q) j = -W (dlt p) (Dt rs) (j::P):=by
    have:=iq (-1) 0 (dlt p) (dlt p) (j::P) (Dt rs)
    show W (fun q => -dlt p q) (Dt rs) (j::P)=_;rw[show (fun q => -dlt p q)=fun q => -1 * dlt p q+0 * dlt p q by funext q;ext,this];ext
   unfold Hd;rw[e4];simp[dlt,ne,Int.mul_neg]
  rw[e3,wX]
  have:a j * Dt rs P=Dt rs P * a j:=qcM _ _
  ext
def vS{r:Vc}{M:Nat}(hr:∀q,(r q).natAbs<=M):∀(l:List Nat) (f:Fm) (N B:Nat),l.length<=N+1->(∀l,l.length<=N->(f l).natAbs<=B)->(W r f l).natAbs<=l.length * (M * B)
 | [],f,N,B,_,_=>by simp[W]
 | q::l,f,N,B,hl,h=>by
  simp only[W,qaA] at *;have h1:(W r (fun l=>f (q::l)) l).natAbs<=l.length * (M * B):=by
   cases N with
   | zero =>
    have:l=[]:=qbz.mp (by ext)
    subst this;simp[W]
   | succ N=>exact vS hr l (fun l=>f (q::l)) N B (by ext) fun l hl=>h (q::l) (by simp;ext)
  have h2:(r q * f l).natAbs<=M * B:=by rw[qbe];exact qcJ (hr q) (h l (by ext))
  have h3:(l.length+1) * (M * B)=l.length * (M * B)+M * B:=by rw[Nat.add_mul,Nat.one_mul]
  ext
def nj{M:Nat}:∀(rs:List Vc),(∀r∈rs,∀q,(r q).natAbs<=M)->∀l:List Nat,l.length<=16->(Dt rs l).natAbs<=(16 * M) ^ rs.length
 | [],_,l,_=>by
  show (one l).natAbs<=1;unfold one;split <;> decide
 | r::rs,h,l,hl=>by
  have h1:=vS (h r (by simp)) l (Dt rs) 16 ((16 * M) ^ rs.length) (by ext) (nj rs fun x hx=>h x (qaf _ hx));refine qaJ h1 ?_;rw[qaA,qcF]
  have:l.length * (M * (16 * M) ^ rs.length)<=16 * (M * (16 * M) ^ rs.length):=qba _ hl
  have e:16 * (M * (16 * M) ^ rs.length)=(16 * M) ^ rs.length * (16 * M):=by rw[<-Nat.mul_assoc,qcB]
  ext
def sn{M:Nat}{rs:List Vc}{P:List Nat}{a:Vc}(h:∀r∈rs,∀q,(r q).natAbs<=M)(ha:∀q,(a q).natAbs<=M)(hP:P.length<=15)(j:Nat):(Lf rs P a j).natAbs<=(16 * M) ^ (rs.length+1) :=
 nj (a::rs) (fun r hr=>by
  rcases qam.mp hr with rfl|hr
  ·exact ha
  ·exact h r hr) (j::P) (by simp;ext)
def Hd_size{M:Nat}{rs:List Vc}{P:List Nat}{p:Nat}(hM:1<=M)(h:∀r∈rs,∀q,(r q).natAbs<=M)(hP:P.length<=15)(j:Nat):(Hd rs P p j).natAbs<=2 * (16 * M) ^ (rs.length+1):=by
 have h1:=sn (P:=P) (a:=fun q => -dlt p q) h (fun q=>by unfold dlt;split <;> simp <;> ext) hP j;have h2:=nj rs h P (by ext);have h3:(16 * M) ^ rs.length<=(16 * M) ^ (rs.length+1):=qbk (by ext) (by ext);have h4:(Dt rs P * dlt p j).natAbs<=(16 * M) ^ rs.length:=by
  rw[qbe]
  have:(dlt p j).natAbs<=1:=by unfold dlt;split <;> decide
  exact qaJ (qcJ h2 this) (by ext)
 unfold Hd;ext
abbrev vc(l:List Int):Vc:=fun j=>l.getD j 0
def tb(N:Nat)(v:Vc):List Int:=(List.range N).map v
def di{N:Nat}{v:Vc}:(tb N v).length=N:=by simp[tb]
def gH{N:Nat}{v:Vc}{j:Nat}(h:j<N):(tb N v).getD j 0=v j:=by
 rw[qaa];simp[tb,h]
def tb_vc(l:List Int):tb l.length (vc l)=l:=by
 apply qbm
 ·simp[tb]
 ·intro i h1 h2;simp only[tb,qbK,qce];show l.getD i 0=_;rw[qaa,qae h2];rfl
def u5{N:Nat}{a b u:Vc}{p:Nat}{d:Int}(hp:p<N)(hd:d≠0)(h:∀j,d * u j=b p * a j - a p * b j):clr (tb N a) (tb N b) p d=tb N u:=by
 unfold clr;rw[gH hp,gH hp];unfold tb;rw[List.zip_map',qaE];refine qaK fun j _=>?_;show (b p * a j - a p * b j).fdiv d=u j;rw[<-h j,qck _ hd]
abbrev tD(N:Nat)(v:Vc):D:=iD (tb N v)
structure RI (M:Nat) (V:List Vc) (pl:Nat) (R:List Vc) (P:List Nat) (L:List Vc):Prop where
 st:Stg R P
 nd:P.Nodup
 lt:∀p∈P,p<pl
 len:R.length=P.length
 all:∀v,v∈V↔v∈R\/v∈L
 sz:∀v∈V,∀q,(v q).natAbs<=M
 off:∀q,q<pl->q∉P->∀a∈L,Lf R P a q=0
 ll:L.length<=V.length
 srt:P.Pairwise (·>·)
 low:∀p∈P,∀q,q<p->q∉P->Hd R P p q=0
def RI.pl{M:Nat}{V:List Vc}{pl:Nat}{R:List Vc}{P:List Nat}{L:List Vc}(i:RI M V pl R P L):P.length<=pl:=by
 have:=List.Nodup.length_le_of_subset i.nd (l₂:=List.range pl) fun p hp=>qau.mpr (i.lt p hp)
 simpa using this
def RI.skip{M:Nat}{V:List Vc}{pl:Nat}{R:List Vc}{P:List Nat}{L:List Vc}(i:RI M V pl R P L)(h:∀a∈L,Lf R P a pl=0):RI M V (pl+1) R P L :=
 ⟨i.st,i.nd,fun p hp=>by have:=i.lt p hp;ext,i.len,i.all,i.sz,fun q hq hn a ha=>by
  rcases qcN q pl with z|z
  ·exact i.off q z hn a ha
  ·have:q=pl:=by ext
   subst this;exact h a ha,i.ll,i.srt,i.low⟩
def RI.take{M:Nat}{V:List Vc}{pl:Nat}{R:List Vc}{P:List Nat}{L:List Vc}(i:RI M V pl R P L){k:Nat}(hk:k<L.length)(h:Lf R P L[k] pl≠0):RI M V (pl+1) (L[k]::R) (pl::P) (L.eraseIdx k):=by
 have hm:∀v,v∈L↔v=L[k]\/v∈L.eraseIdx k:=fun v=>by
  rw[List.mem_eraseIdx_iff_getElem?,qbv];constructor
  ·rintro⟨j,e⟩;by_cases z:j=k
   ·subst z;rw[qae hk] at e;exact .inl (Option.some.inj e).symm
   ·exact .inr ⟨j,z,e⟩
  ·rintro (rfl|⟨j,_,e⟩)
   ·exact⟨k,qae hk⟩
   ·exact⟨j,e⟩
 refine⟨i.st.next h,qaN.mpr ⟨fun z=>by have:=i.lt _ z;ext,i.nd⟩,fun p hp=>?_,by simp[i.len],fun v=>?_,i.sz,fun q hq hn a ha=>?_,?_,qbM.mpr ⟨i.lt,i.srt⟩,fun p hp q hq hn=>?_⟩
 ·rcases qam.mp hp with rfl|hp
  ·ext
  ·have:=i.lt p hp;ext
 ·rw[i.all v,hm v,qam];constructor
  ·rintro (z|z | z)
   ·exact .inl (.inr z)
   ·exact .inl (.inl z)
   ·exact .inr z
  ·rintro ((z|z)|z)
   ·exact .inr (.inl z)
   ·exact .inl z
   ·exact .inr (.inr z)
 ·have ne:q≠pl:=fun z=>hn (by simp[z]);have hn':q∉P:=fun z=>hn (qaf _ z);have e:=i.st.step a L[k] q pl;rw[i.off q (by ext) hn' a ((hm a).mpr (.inr ha)),i.off q (by ext) hn' L[k] (qaL hk)] at e;have z:Dt R P * Lf (L[k]::R) (pl::P) a q=0:=by rw[e];simp
  exact (qcG.mp z).resolve_left i.st.ne
 ·have:=i.ll
  rw[List.length_eraseIdx];split <;> ext
 ·have hb:Lf R P L[k] q=0:=by
   have hn':q∉P:=fun z=>hn (qaf _ z);refine i.off q ?_ hn' _ (qaL hk);rcases qam.mp hp with rfl|hp
   ·exact hq
   ·have:=i.lt p hp;ext
  rcases qam.mp hp with rfl|hp
  ·rw[wj fun z=>by have:=i.lt _ z;ext];exact hb
  ·have e:=wm i.st (b:=L[k]) (p:=p) (p':=pl) (fun z=>by have:=i.lt p hp;ext) q;rw[i.low p hp q hq fun z=>hn (qaf _ z),hb] at e;have z:Dt R P * Hd (L[k]::R) (pl::P) p q=0:=by rw[e];simp
   exact (qcG.mp z).resolve_left i.st.ne
def qT{M m k c:Nat}{x:Int}(hM:M<=2 ^ m)(hk:k<=c)(hx:x.natAbs<=2 * (16 * M) ^ k):x.natAbs<2 ^ (2+c * (4+m)):=by
 have h1:(16 * M) ^ k<=(2 ^ (4+m)) ^ k:=Nat.pow_le_pow_left (by rw[qcK];exact Nat.mul_le_mul_left 16 hM) k;have h2:(2 ^ (4+m)) ^ k<=2 ^ (c * (4+m)):=by
  rw[<-Nat.pow_mul];refine qbk (by decide) ?_;rw[qcB];exact qba _ hk
 have h3:2 ^ (2+c * (4+m))=4 * 2 ^ (c * (4+m)):=by rw[qcK]
 have h4:0<2 ^ (c * (4+m)):=qcn (by decide);ext
def RI.szL{M m c:Nat}{V:List Vc}{pl:Nat}{R:List Vc}{P:List Nat}{L:List Vc}(i:RI M V pl R P L)(hp:pl<=13)(hc:pl+1<=c)(hM:M<=2 ^ m){a:Vc}(ha:a∈V)(j:Nat):(Lf R P a j).natAbs<2 ^ (2+c * (4+m)):=by
 have h1:=i.pl
 have:=sn (M:=M) (P:=P) (rs:=R) (a:=a) (fun r hr=>i.sz r ((i.all r).mpr (.inl hr))) (i.sz a ha) (by ext) j
 exact qT (k:=R.length+1) hM (by rw[i.len];ext) (by ext)
def RI.szH{M m c:Nat}{V:List Vc}{pl:Nat}{R:List Vc}{P:List Nat}{L:List Vc}(i:RI M V pl R P L)(hp:pl<=13)(hc:pl+1<=c)(h1:1<=M)(hM:M<=2 ^ m)(p j:Nat):(Hd R P p j).natAbs<2 ^ (2+c * (4+m)):=by
 have h2:=i.pl
 have:=Hd_size (M:=M) (P:=P) (rs:=R) (p:=p) h1 (fun r hr=>i.sz r ((i.all r).mpr (.inl hr))) (by ext) j
 exact qT (k:=R.length+1) hM (by rw[i.len];ext) this
def o7{N k:Nat}{v:Vc}(h:∀j,(v j).natAbs<2 ^ k):∀x∈tb N v,x.natAbs<2 ^ k:=fun x hx=>by
 obtain⟨j,_,rfl⟩:=qaB.mp hx;exact h j
def nH{f:Nat->D}{p:Nat}:∀{Q:List Nat},p∈Q->dix (Q.map fun (p:Nat)=>(p:Int)) (Q.map f) (p:Int)=some (f p)
 | q::Q,h=>by
  rw[qao,qao,dix];by_cases e:q=p
  ·subst e;rw[qan rfl]
  ·rw[qaz (by ext)];exact nH ((qam.mp h).resolve_left fun z=>e z.symm)
def lG{f:Nat->D}{p:Nat}:∀{Q:List Nat},p∉Q->dix (Q.map fun (p:Nat)=>(p:Int)) (Q.map f) (p:Int)=none
 | [],h=>rfl
 | q::Q,h=>by
  rw[qao,qao,dix,qaz (fun z=>h (by rw[show q=p by ext];simp))];exact lG fun z=>h (qaf _ z)
def pC{f:Nat->D}{p:Nat}{v:D}:∀{Q:List Nat},Q.Nodup->p∈Q->dput (Q.map fun (p:Nat)=>(p:Int)) (Q.map f) (p:Int) v=(Q.map fun (p:Nat)=>(p:Int),Q.map fun q=>if q=p then v else f q)
 | q::Q,nd,h=>by
  rw[qao,qao,dput];by_cases e:q=p
  ·subst e;rw[qan rfl,qao,qan rfl]
   have:(Q.map fun x=>if x=q then v else f x)=Q.map f:=qaK fun x hx=>qaz fun (z:x=q)=>(qaN.mp nd).1 (z▸hx)
   rw[this]
  ·have ih:=pC (f:=f) (v:=v) (qaN.mp nd).2 ((qam.mp h).resolve_left fun z=>e z.symm);rw[qaz (by ext),ih,qao,qaz e]
def qS{f:Nat->D}{p:Nat}{v:D}:∀{Q:List Nat},p∉Q->dput (Q.map fun (p:Nat)=>(p:Int)) (Q.map f) (p:Int) v=((Q++[p]).map fun (p:Nat)=>(p:Int),Q.map f++[v])
 | [],h=>rfl
 | q::Q,h=>by
  have ih:=qS (f:=f) (v:=v) (Q:=Q) fun z=>h (qaf _ z);rw[qao,qao,dput,qaz (fun z=>h (by rw[show q=p by ext];simp)),ih];rfl
abbrev dcD(fz:Bool)(Q:List Nat)(f:Nat->D):D:=.dic fz (Q.map fun (p:Nat)=>(p:Int)) (Q.map f)
abbrev aY(fz:Bool)(N:Nat)(R:List Vc)(P:List Nat):D:=dcD fz P.reverse fun p=>tD N (Hd R P p)
abbrev dm(N:Nat)(R:List Vc)(P:List Nat)(L:List Vc):D:=.lst (L.map fun a=>tD N (Lf R P a))
abbrev rdH:Xd [2,3]:=hZ 2 (aa 8) (ak cr (ac (af j3 (aa 2) (aa 8)) (ac (aa 7) (ac (aa 5) (ac (aa 4) xNil)))))
def sC{n0 r0 x3 x6:Option D}{N pl k:Nat}{c:Vc}{d:Int}{f g:Nat->Vc}{s:Pen}(hp:pl<N)(hN:N<=10000)(hd:d≠0)(hk:k<=1000000)(bc:∀j,(c j).natAbs<2 ^ k){Q0:List Nat}(nd:Q0.Nodup)(hQ:Q0.length<=1000)
  (bf:∀p j,(f p j).natAbs<2 ^ k) (hg:∀p∈Q0,∀j,d * g p j=c pl * f p j - f p pl * c j):∀(Q A:List Nat) (x8:Option D),Q0=A++Q ->
  ∃x8',pGo (xNm 8:Xg [2,3]).p rdH.p (Q.map fun (p:Nat)=>D.int (p:Int)) [n0,r0,some (dcD false Q0 fun p=>tD N (if p∈A then g p else f p)),x3,some (.int d),some (.int (pl:Int)),x6,some (tD N c),x8] s=.nx [n0,r0,some (dcD false Q0 fun p=>tD N (g p)),x3,some (.int d),some (.int (pl:Int)),x6,some (tD N c),x8'] s
 | [],A,x8,e=>⟨x8,by
   rw[qbG] at e;subst e
   have:(Q0.map fun p=>tD N (if p∈Q0 then g p else f p))=Q0.map fun p=>tD N (g p):=qaK fun p hp=>by rw[qan hp]
   show PS.nx _ s=_
   rw[dcD,dcD,this]⟩
 | q::Q,A,x8,e=>by
  have hq:q∈Q0:=by rw[e];simp
  have hA:q∉A:=fun z=>by
   rw[e,qbR] at nd;exact nd.2.2 q z q (by simp) rfl
  obtain⟨x8',ih⟩:=sC (n0:=n0) (r0:=r0) (x3:=x3) (x6:=x6) (s:=s) hp hN hd hk bc nd hQ bf hg Q (A++[q]) (some (.int (q:Int))) (by rw[e];simp);refine⟨x8',?_⟩;have cl:=n4 (row:=tb N (f q)) (ch:=tb N c) (p:=pl) (k:=k) (d:=d) (s:=s) (by rw[di];exact hp) (by rw[di];exact hp) (by rw[di];exact hN) hd (o7 (bf q)) (o7 bc) hk;rw[u5 hp hd (hg q hq)] at cl;have dk:dix (Q0.map fun (p:Nat)=>(p:Int)) (Q0.map fun p=>tD N (if p∈A then g p else f p)) (q:Int)=some (tD N (f q)):=by
   rw[nH (f:=fun p=>tD N (if p∈A then g p else f p)) hq,qaz hA]
  have e1:rdH.p [n0,r0,some (dcD false Q0 fun p=>tD N (if p∈A then g p else f p)),x3,some (.int d),some (.int (pl:Int)),x6,some (tD N c),some (.int (q:Int))] s=.nx [n0,r0,some (dcD false Q0 fun p=>tD N (if p∈A++[q] then g p else f p)),x3,some (.int d),some (.int (pl:Int)),x6,some (tD N c),some (.int (q:Int))] s:=by
   rw[rR,qq (v:=tD N (g q)) (s1:=s) (j:=(q:Int)) (s2:=s) (ks:=Q0.map fun (p:Nat)=>(p:Int)) (ds:=Q0.map fun p=>tD N (if p∈A then g p else f p)) (by
    simp![aF,al,aB,aq];rw[show j3.p (dcD false Q0 fun p=>tD N (if p∈A then g p else f p)) (.int (q:Int))=some (tD N (f q)) from dk]
    simp only[Pf,Pb,cl]) (by simp only[ah,ai]) rfl (by simp;ext)]
   rw[pC nd hq]
   have:(Q0.map fun x=>if x=q then tD N (g q) else tD N (if x∈A then g x else f x))=Q0.map fun p=>tD N (if p∈A++[q] then g p else f p):=qaK fun p _=>by
    by_cases z:p=q
    ·subst z;simp
    ·by_cases y:p∈A <;> simp[z,y]
   simp only[this,qag,qah]
  rw[qao,eK (env1:=[n0,r0,some (dcD false Q0 fun p=>tD N (if p∈A then g p else f p)),x3,some (.int d),some (.int (pl:Int)),x6,some (tD N c),some (.int (q:Int))]) (by rfl),e1];exact ih
abbrev rdT:Xd [2,3]:=(az (pP 7 aPopA 3 (ac (af oIx (aa 6) (xC (.int 0))) xNil))
 (az (c7 3 (ba 1 [7,5,4] (cA (aa 3)) (ws':=[]) (xNm 0) xTrue (ak cr (ac (aa 0) (ac (aa 1) (ac (aa 2) (ac (aa 3) xNil)))))))
 (az (dg (cA (xCb mm (ac (aa 2) xNil))) (xNm 8) (hZ 2 (aa 8) (ak cr (ac (af j3 (aa 2) (aa 8)) (ac (aa 7) (ac (aa 5) (ac (aa 4) xNil)))))))
 (az (hZ 2 (aa 5) (aa 7))
 (aL 4 (af oIx (aa 7) (aa 5)))))))
abbrev rdB:Xd [2,3]:=(az (aL 6 (ba 2 [5] (bh iE (ac (aa 3) xNil)) (ws':=[]) (xGp (xGc (xNm 0) (xGc (xNm 1) xGl)) 2) (xB (af oNe (af oIx (aa 1) (aa 2)) (xC (.int 0)))) (aa 0)))
 (xIf (xTr (aa 6)) rdT xSkip))
def yw{α:Type}(f:α->D)(l:List α):oS (l.map f)=l.zipIdx.map fun x=>.tup [.int ((x.2:Nat):Int),f x.1]:=by
 unfold oS;rw[List.zipIdx_map,qaE];rfl
def wG{fz:Bool}{ks:List Int}{ds:List D}(h:ks.length<=100000):mm.p [.dic fz ks ds]=some (iD ks):=qan h
def xMtS_p{ws:List Nat}{j i:Nat}{o:OpM}{a:Xs ws}{hi hj hz}{env:aD}{s:Pen}:(pP j o i a hi hj hz).p env s=pMt o i a.p env s fun r env s=>.nx (env.set j (some r)) s:=rfl
def aPopA_p{ds:List D}{k:Nat}{d:D}(h:ds[k]?=some d)(hk:k<=1000):aPopA.p ds [.int (k:Int)]=some (d,ds.eraseIdx k):=by
 have e:(0:Int)<=(k:Int)/\(k:Int)<2 ^ 62:=by ext
 unfold aPopA;dsimp only;rw[qan e,qaG,h];rfl
def vY{α β:Type}(f:α->β)(l:List α)(k:Nat):(l.map f).eraseIdx k=(l.eraseIdx k).map f:=by
 induction l generalizing k with
 | nil=>rfl
 | cons a l ih=>cases k with
  | zero=>rfl
  | succ k=>simp only[qao,List.eraseIdx_cons_succ,ih]
def at_0{x:D}{xs:List D}:atI (x::xs) 0=some x:=by
 have:=L2.dB (xs:=x::xs) (j:=0) (v:=x) rfl
 simpa using this
def rd_turn{n0 r0 x6 x7 x8:Option D}{M m N pl c:Nat}{V R L:List Vc}{P:List Nat}{s:Pen}(i:RI M V pl R P L)(hp:pl<N)(hpl:pl<=12)(hN:N<=10000)(h1:1<=M)(hM:M<=2 ^ m)(hc:pl+1<=c)(kk:2+c * (4+m)<=1000000)(hV:V.length<=1000) :
  ∃R' P' L' x6' x7' x8',RI M V (pl+1) R' P' L'/\rdB.p [n0,r0,some (aY false N R P),some (dm N R P L),some (.int (Dt R P)),some (.int (pl:Int)),x6,x7,x8] s=.nx [n0,r0,some (aY false N R' P'),some (dm N R' P' L'),some (.int (Dt R' P')),some (.int (pl:Int)),x6',x7',x8'] s:=by
 have hll:=i.ll;have hP:=i.pl;have c1:=f9 (ws:=[2,3]) (ws':=[]) (env:=[n0,r0,some (aY false N R P),some (dm N R P L),some (.int (Dt R P)),some (.int (pl:Int)),x6,x7,x8]) (s:=s) (s0:=s) (fm:=[5]) (i:=bh iE (ac (aa 3) xNil)) (t:=xB (af oNe (af oIx (aa 1) (aa 2)) (xC (.int 0)))) (e:=aa 0) (l:=L.zipIdx) (fun x=>D.int ((x.2:Nat):Int)) (fun x=>tD N (Lf R P x.1)) (fun x=>D.int ((x.2:Nat):Int)) (fun x=>!decide (Lf R P x.1 pl=0))
  (by simp![bP,al,aq,iE_l,Pf,yw]) (by simp;ext) fun x _=>⟨by
   show (xB _:Xt []).p [some (.int ((x.2:Nat):Int)),some (tD N (Lf R P x.1)),some (.int (pl:Int))] s=_
   simp![ca,aB,cq,jh (show pl<(tb N (Lf R P x.1)).length by rw[di];exact hp),gH hp,Pf,aN,aE,ie,c8,if_true,PR.bl],fun _=>rfl⟩
 rw[aA,aS,c1];simp![Pg,qag,qah,PU.au,bE,uq]
 cases ef:L.zipIdx.filter fun x=>!decide (Lf R P x.1 pl=0) with
 | nil =>
  refine⟨R,P,L,some (.lst []),x7,x8,i.skip fun a ha=>?_,?_⟩
  ·obtain⟨k,hk⟩:=qbv.mp ha
   have:(a,k)∈L.zipIdx:=qbo.mpr (by simpa using hk)
   have z:¬((a,k)∈L.zipIdx.filter fun x=>!decide (Lf R P x.1 pl=0)):=by rw[ef];simp
   rw[qaQ] at z
   have:=fun y=>z ⟨this,y⟩
   simpa using this
  ·rw[qcc,show jZ (.lst [])=some false from rfl];rfl
 | cons y ys' =>
  obtain⟨a0,k0⟩:=y;have hy:(a0,k0)∈L.zipIdx.filter fun x=>!decide (Lf R P x.1 pl=0):=by rw[ef];simp
  rw[qaQ] at hy;obtain⟨hz,hne⟩:=hy;have hk0:L[k0]?=some a0:=by simpa using qbo.mp hz
  obtain⟨hk,ea⟩:=qaj.mp hk0;have hne:Lf R P L[k0] pl≠0:=by rw[ea];simpa using hne
  have i2:=i.take hk hne;have mv:∀a,a∈L->a∈V:=fun a ha=>(i.all a).mpr (.inr ha);have bL:∀a,a∈L->∀j,(Lf R P a j).natAbs<2 ^ (2+c * (4+m)):=fun a ha j=>i.szL (by ext) hc hM (mv a ha) j;have hb:L[k0]∈L:=qaL hk;have pp:aPopA.p (L.map fun a=>tD N (Lf R P a)) [.int ((k0:Nat):Int)]=some (tD N (Lf R P L[k0]),(L.eraseIdx k0).map fun a=>tD N (Lf R P a)):=by
   rw[aPopA_p (d:=tD N (Lf R P a0)) (by rw[qap,hk0];rfl) (by ext),vY,ea]
  have c2:=dH (ws:=[2,3]) (ws':=[]) (env:=[n0,r0,some (aY false N R P),some (.lst ((L.eraseIdx k0).map fun a=>tD N (Lf R P a))),some (.int (Dt R P)),some (.int (pl:Int)),some (.lst (((a0,k0)::ys').map fun x=>D.int ((x.2:Nat):Int))),some (tD N (Lf R P L[k0])),x8]) (s:=s) (s0:=s) (fm:=[7,5,4]) (i:=cA (aa 3)) (t:=xTrue) (e:=ak cr (ac (aa 0) (ac (aa 1) (ac (aa 2) (ac (aa 3) xNil))))) (l:=L.eraseIdx k0) (fun a=>tD N (Lf R P a)) (fun a=>tD N (Lf (L[k0]::R) (pl::P) a)) (fun _=>true)
   (by simp![cH,bY,Pf]) (by rw[List.length_eraseIdx];split <;> ext) fun a ha=>⟨rfl,fun _=>by
    show (ak cr _:Xe []).p [some (tD N (Lf R P a)),some (tD N (Lf R P L[k0])),some (.int (pl:Int)),some (.int (Dt R P))] s=_;have ha':=List.mem_of_mem_eraseIdx ha;have cl:=n4 (row:=tb N (Lf R P a)) (ch:=tb N (Lf R P L[k0])) (p:=pl) (d:=Dt R P) (s:=s) (by rw[di];exact hp) (by rw[di];exact hp) (by rw[di];exact hN) i.st.ne (o7 (bL a ha')) (o7 (bL _ hb)) kk;rw[u5 hp i.st.ne (fun j=>i.st.step a L[k0] j pl)] at cl
    simp![aF,al,aq,cl]⟩
  have ndr:P.reverse.Nodup:=List.pairwise_reverse.mpr (i.nd.imp Ne.symm);obtain⟨x8',hh⟩:=sC (n0:=n0) (r0:=r0) (x3:=some (dm N (L[k0]::R) (pl::P) (L.eraseIdx k0))) (x6:=some (.lst (((a0,k0)::ys').map fun x=>D.int ((x.2:Nat):Int)))) (N:=N) (pl:=pl) (c:=Lf R P L[k0]) (d:=Dt R P) (f:=fun p=>Hd R P p) (g:=fun p=>Hd (L[k0]::R) (pl::P) p) (s:=s) hp hN i.st.ne kk (bL _ hb) ndr (by simp;ext) (fun p j=>i.szH (by ext) hc h1 hM p j) (fun p hp' j=>wm i.st (fun z=>by have:=i.lt p (by simpa using hp');ext) j) P.reverse [] x8 rfl;refine⟨L[k0]::R,pl::P,L.eraseIdx k0,some (.lst (((a0,k0)::ys').map fun x=>D.int ((x.2:Nat):Int))),some (tD N (Lf R P L[k0])),x8',i2,?_⟩;rw[show jZ (.lst (((a0,k0)::ys').map fun x=>D.int ((x.2:Nat):Int)))=some true from rfl];simp only[Pf,Pg,if_true]
  rw[aA,xMtS_p,qU (as:=[.int ((k0:Nat):Int)]) (s1:=s) (ds:=L.map fun a=>tD N (Lf R P a)) (r:=tD N (Lf R P L[k0])) (ds':=(L.eraseIdx k0).map fun a=>tD N (Lf R P a)) (by
   simp![al,aB,aN,aE,cq,qao,at_0,Pf,aq]) rfl pp]
  simp only[qag,qah,PU.au];rw[aA,dS,c2];dsimp![f8,if_true,bu];rw[aA,cV,cH,bV];simp![al,aq,wG (show (P.reverse.map fun (p:Nat)=>(p:Int)).length<=100000 by simp;ext),Pf,bY,Pg,qaE];have e0:(P.reverse.map fun p=>tD N (if p∈([]:List Nat) then Hd (L[k0]::R) (pl::P) p else Hd R P p))=P.reverse.map fun p=>tD N (Hd R P p):=qaK fun p _=>by simp
  rw[dcD,e0] at hh;refine (congrArg (fun z:PS=>z.then _) hh).trans ?_;rw[PU.au,aA,rR,qq (v:=tD N (Lf R P L[k0])) (s1:=s) (j:=(pl:Int)) (s2:=s) (ks:=P.reverse.map fun (p:Nat)=>(p:Int)) (ds:=P.reverse.map fun p=>tD N (Hd (L[k0]::R) (pl::P) p)) (by simp only[ah,ai]) (by simp only[ah,ai]) rfl (by simp;ext)];have npl:pl∉P.reverse:=fun z=>by have:=i.lt pl (by simpa using z);ext
  rw[qS npl];have eh:tD N (Hd (L[k0]::R) (pl::P) pl)=tD N (Lf R P L[k0]):=by
   rw[show Hd (L[k0]::R) (pl::P) pl=Lf R P L[k0] by funext j;exact wj (fun z=>npl (by simpa using z)) j]
  simp![qag,qah,PU.au,aS,aB,cq,jh (show pl<(tb N (Lf R P L[k0])).length by rw[di];exact hp),gH hp,Pf,Pg];have e5:aY false N (L[k0]::R) (pl::P)=.dic false ((P.reverse++[pl]).map fun (p:Nat)=>(p:Int)) (P.reverse.map (fun p=>tD N (Hd (L[k0]::R) (pl::P) p))++[tD N (Lf R P L[k0])]):=by
   unfold aY dcD;rw[List.reverse_cons,List.map_append (f:=fun p=>tD N (Hd (L[k0]::R) (pl::P) p)),qao,qcc,eh]
  rw[e5];rfl
def vcs(n:Nat)(rs:List Rw):List Vc:=rs.zipIdx.map fun x=>vc (wr n rs.length x.1 x.2)
def kD{n:Nat}{rs:List Rw}{v:Vc}:v∈vcs n rs↔∃(k:Nat) (h:k<rs.length),v=vc (wr n rs.length rs[k] k):=by
 unfold vcs;rw[qaB];constructor
 ·rintro⟨⟨r,k⟩,h,rfl⟩;have e:rs[k]?=some r:=by simpa using qbo.mp h
  obtain⟨hk,rfl⟩:=qaj.mp e;exact⟨k,hk,rfl⟩
 ·rintro⟨k,hk,rfl⟩;exact⟨(rs[k],k),qbo.mpr (by simp[hk]),rfl⟩
def Lf_nil{a:Vc}:Lf [] [] a=a:=by
 funext j;show a j * one [] - 0=a j;simp[one]
structure RsOk (n m:Nat) (rs:List Rw):Prop where
 row:∀r∈rs,RowOk n r
 sz:∀r∈rs,1+szs (nums n r)<=m
def num_sz{n:Nat}{r:Rw}{q:Rat}(h:q∈nums n r):sz q<=szs (nums n r):=qR (qaB.mpr ⟨q,h,rfl⟩)
def wr_sz{n m k0 k:Nat}{r:Rw}(h:1+szs (nums n r)<=m):∀x∈wr n k0 r k,x.natAbs<=2 ^ (2 * m):=fun x hx=>by
 have h1:oft n r<2 ^ (1+szs (nums n r)):=pB _ 1 1 (by decide);have h2:oft n r<2 ^ m:=qaw h1 (qbk (by decide) h);have e2:2 ^ (2 * m)=2 ^ m * 2 ^ m:=by rw[<-qcK];congr 1;ext
 unfold wr at hx;rcases qbf.mp hx with hx|hx
 ·obtain⟨q,hq,rfl⟩:=qaB.mp hx;have h3:q.num.natAbs<2 ^ m:=qaw (cN q) (qbk (by decide) (by have:=num_sz hq;ext));rw[qbe,<-qct,qbP,e2];exact qcJ (qbp h3) (qaJ (qbO _ _) (qbp h2))
 ·obtain⟨i,_,rfl⟩:=qaB.mp hx
  have:1<=2 ^ m:=qcn (by decide)
  have h4:2 ^ m<=2 ^ m * 2 ^ m:=Nat.le_mul_of_pos_left _ this;split
  ·rw[qbP,e2];ext
  ·simp
def vc_sz{l:List Int}{B:Nat}(h:∀x∈l,x.natAbs<=B)(q:Nat):(vc l q).natAbs<=B:=by
 show (l.getD q 0).natAbs<=B;rw[qaa]
 cases e:l[q]? with
 | none=>simp
 | some x=>exact h x (qbv.mpr ⟨q,e⟩)
def ri0{n m:Nat}{rs:List Rw}(h:RsOk n m rs):RI (2 ^ (2 * m)) (vcs n rs) 0 [] [] (vcs n rs):=by
 refine⟨stg0,List.nodup_nil,(fun _ h=>nomatch h),rfl,fun v=>?_,fun v hv=>?_,(fun q hq=>by ext),qak _,.nil,fun _ h=>nomatch h⟩
 ·simp
 ·obtain⟨k,hk,rfl⟩:=kD.mp hv;exact vc_sz (wr_sz (h.sz _ (qaL hk)))
def left0{n:Nat}{rs:List Rw}:dm (n+1+rs.length) [] [] (vcs n rs)=.lst (rs.zipIdx.map fun x=>iD (wr n rs.length x.1 x.2)):=by
 unfold dm vcs;rw[qaE];congr 1;refine qaK fun x _=>?_;show iD (tb (n+1+rs.length) (Lf [] [] (vc (wr n rs.length x.1 x.2))))=_;rw[Lf_nil,<-wr_len (n:=n) (m:=rs.length) (r:=x.1) (k:=x.2),tb_vc]
def uS{α:Type}(rs:List α)(f:Nat->D)(g:α->Nat->D)(h:∀k (hk:k<rs.length),f k=g rs[k] k):(List.range rs.length).map f=rs.zipIdx.map fun x=>g x.1 x.2:=by
 apply qbm
 ·simp
 ·intro i h1 h2;simp only[qbK,qce,List.getElem_zipIdx];rw[h i (by simpa using h1)];simp
def oJ{n m:Nat}{rs:List Rw}{s:Pen}(hn:n<=12)(hl:rs.length<=1000)(h:RsOk n m rs)(hm:2+(n+1) * (4+2 * m)<=400000):∃R P L,RI (2 ^ (2 * m)) (vcs n rs) n R P L/\gc.p [.int (n:Int),rsD rs] s=.ok (.tup [aY true (n+1+rs.length) R P,dm (n+1+rs.length) R P L]) s:=by
 have hmm:m<=400000:=by
  have:1 * (4+2 * m)<=(n+1) * (4+2 * m):=qba _ (by ext)
  ext
 rw[ui (by rfl)];unfold fT;rw[show dSt 9 [D.int (n:Int),rsD rs]=[some (.int (n:Int)),some (rsD rs),none,none,none,none,none,none,none] from rfl];have c1:=dH (ws:=[2,3]) (ws':=[]) (env:=[some (.int (n:Int)),some (rsD rs),some (.dic false [] []),none,none,none,none,none,none]) (s:=s) (s0:=s) (fm:=[0,1]) (i:=bh iR1 (ac (xCb dD (ac (aa 1) xNil)) xNil)) (t:=xTrue) (e:=ak cX (ac (aa 1) (ac (aa 2) (ac (aa 0) xNil)))) (l:=List.range rs.length) (fun (j:Nat)=>D.int (j:Int)) (fun j=>if hj:j<rs.length then iD (wr n rs.length rs[j] j) else .non) (fun _=>true)
  (by simp![bP,al,bV,aq,fY,qaC,Pf];rw[dX (by ext),qaG,dA];rfl) (by simp;ext) fun j hj=>⟨rfl,fun _=>by
   have hj:j<rs.length:=qau.mp hj;show (ak cX _:Xe []).p [some (.int (j:Int)),some (.int (n:Int)),some (rsD rs)] s=_;have w:=rH (n:=n) (k:=j) (s:=s) (by ext) hl hj (h.row _ (qaL hj)) (by have:=h.sz _ (qaL hj);ext);rw[dif_pos hj]
   simp![aF,al,aq,w]⟩
 have e1:(List.range rs.length).map (fun j=>if hj:j<rs.length then iD (wr n rs.length rs[j] j) else .non)=rs.zipIdx.map fun x=>iD (wr n rs.length x.1 x.2):=uS rs _ (fun r k=>iD (wr n rs.length r k)) fun k hk=>by rw[dif_pos hk]
 rw[aA,dS,xDic_p];dsimp![mine_d,if_true];rw[aA,dS,c1,bu,e1,<-left0];dsimp![f8,if_true];rw[aA,aS,aN,Pg];simp only[aE,qag,qah,PU.au];obtain⟨env',s',er,R,P,L,x5,x6,x7,x8,hI,rfl,rfl⟩:=dZ (g:=(xNm 5:Xg [2,3]).p) (b:=rdB.p) (fun j env s'=>∃R P L x5 x6 x7 x8,RI (2 ^ (2 * m)) (vcs n rs) j R P L/\s'=s/\env=[some (.int (n:Int)),some (rsD rs),some (aY false (n+1+rs.length) R P),some (dm (n+1+rs.length) R P L),some (.int (Dt R P)),x5,x6,x7,x8]) (d4 0 n) 0 [some (.int (n:Int)),some (rsD rs),some (.dic false [] []),some (dm (n+1+rs.length) [] [] (vcs n rs)),some (.int 1),none,none,none,none] s
  ⟨[],[],vcs n rs,none,none,none,none,ri0 h,rfl,rfl⟩ fun j env s' d ⟨R,P,L,x5,x6,x7,x8,hI,es,ee⟩ hd=>by
   subst es ee;obtain⟨rfl,hj⟩:=lH hd;rw[qbb] at hI ⊢;have hcm:(j+1) * (4+2 * m)<=(n+1) * (4+2 * m):=qba _ (by ext);obtain⟨R',P',L',x6',x7',x8',hI',e⟩:=rd_turn (n0:=some (.int (n:Int))) (r0:=some (rsD rs)) (x6:=x6) (x7:=x7) (x8:=x8) (N:=n+1+rs.length) (m:=2 * m) (c:=j+1) (s:=s') hI (by ext) (by ext) (by ext) (qcn (by decide)) (qak _) (by ext) (by ext) (by simp[vcs];ext);exact⟨_,_,_,rfl,e,R',P',L',some (.int (j:Int)),x6',x7',x8',hI',rfl,rfl⟩
 rw[gR,qbb] at hI;refine⟨R,P,L,hI,?_⟩;rw[aA,cV,bP];simp only[al,ah,Pb,aq];rw[dX (by ext),qaG,Pf,Pg];refine (congrArg (fun z:PS=>(z.then _).fin) er).trans ?_
 rw[PU.au,xFzD_p (ks:=P.reverse.map fun (p:Nat)=>(p:Int)) (ds:=P.reverse.map fun p=>tD (n+1+rs.length) (Hd R P p)) rfl (xFz_p (d:=.tup [aY true (n+1+rs.length) R P,dm (n+1+rs.length) R P L]) (s':=s') rfl (by
  simp![qag,qah,bH,cK,al,aq,qaA,qaH,show (0+1+1:Nat)<=100000 by decide,if_true,Pg]))]
 rfl
def lP{l:List Int}{b:Int}{k:Nat}{s:Pen}(hl:l.length<=10000)(hb:b≠0)(hk:b.natAbs<2 ^ k)(hc:k<=950000):cG.p [iD l,.int b] s=.ok (lD (l.map fun w=>Rat.divInt w b)) s:=by
 rw[rq (by rfl)];unfold fi;rw[show dSt 2 [iD l,.int b]=[some (iD l),some (.int b)] from rfl,bH];have c:=dH (ws:=[]) (ws':=[]) (env:=[some (iD l),some (.int b)]) (s:=s) (s0:=s) (fm:=[1]) (i:=cA (aa 0)) (t:=xTrue) (e:=ak bN (ac (aa 0) (ac (aa 1) xNil))) (l:=l) D.int (fun w=>qD (Rat.divInt w b)) (fun _=>true)
  (by simp only[cH,ah,Pb,bY,Pf]) (by ext) fun w _=>⟨rfl,fun _=>by
   show (ak bN _:Xe []).p [some (.int w),some (.int b)] s=_
   simp![aF,al,aq,iJ hb hk hc]⟩
 rw[c];simp only[bu,Pg,PU.bw];simp[lD,qaE,Function.comp_def]
def cutd{α:Type}(l:List α)(f:α->D)(k:Nat):jD (l.map f) (some (k:Int)) none=(l.drop k).map f:=by
 have e:HT.sIx (l.map f).length 0 (some (k:Int))=min k (l.map f).length:=HT.sIx_nat _ _ k;unfold jD;rw[e,HT.w9,qaC,<-List.map_drop,<-List.map_take];congr 1;by_cases z:k<=l.length
 ·rw[Nat.min_eq_left z,qcw (by simp)]
 ·rw[Nat.min_eq_right (by ext),qcx (qak _),qcx (by ext)];simp
def fQ(n m:Nat)(v:Vc):List Rat:=(List.range m).map fun k=>Rat.divInt (v (n+1+k)) (v n)
def sF{n m:Nat}{v:Vc}:(tb (n+1+m) v).drop (n+1)=(List.range m).map fun k=>v (n+1+k):=by
 unfold tb;rw[<-List.map_drop,qbW,List.drop_range',List.range'_eq_map_range,qaE];rw[show n+1+m - (n+1)=m by ext];refine qaK fun k _=>?_;show v (0+(n+1) * 1+k)=_;congr 1;ext
abbrev anB:Xd []:=xIf (xB (af oNe (af oIx (aa 4) (aa 0)) (xC (.int 0)))) (aZ (bO (ac (xC (.str "none")) (ac (ak cG (ac (xSl (aa 4) (xPt (af cL (aa 0) (xC (.int 1)))) xNo) (ac (af oIx (aa 4) (aa 0)) xNil))) xNil)))) xSkip
def sU{n N:Nat}{v:Vc}{x1 x2 x3 x5 x6 x7:Option D}{s:Pen}(hn:n<N)(h:v n=0):anB.p [some (.int (n:Int)),x1,x2,x3,some (tD N v),x5,x6,x7] s=.nx [some (.int (n:Int)),x1,x2,x3,some (tD N v),x5,x6,x7] s:=by
 simp![bE,ca,aB,cq,jh (show n<(tb N v).length by rw[di];exact hn),gH hn,h,Pf,aN,aE,ie,c8,if_true,PR.bl,decide_true,qbi,Pg,qar,if_false,bD]
def an_ne{n m k:Nat}{v:Vc}{x1 x2 x3 x5 x6 x7:Option D}{s:Pen}(hm:m<=1000)(hn:n<=1000)(h:v n≠0)(hk:(v n).natAbs<2 ^ k)(hc:k<=950000):anB.p [some (.int (n:Int)),x1,x2,x3,some (tD (n+1+m) v),x5,x6,x7] s=.rt (.tup [.str "none",lD (fQ n m v)]) s:=by
 have hN:n<n+1+m:=by ext
 have ao:=lP (l:=(List.range m).map fun k=>v (n+1+k)) (b:=v n) (s:=s) (by simp;ext) h hk hc;have sl:slD (tD (n+1+m) v) (some ((n:Int)+1)) none=some (iD ((List.range m).map fun k=>v (n+1+k))):=by
  have:=cutd (tb (n+1+m) v) D.int (n+1)
  show some (D.lst (jD _ _ _))=_;rw[show ((n:Int)+1)=((n+1:Nat):Int) by ext,this,sF]
 rw[qaE] at ao;simp![bE,ca,aB,cq,jh (show n<(tb (n+1+m) v).length by rw[di];exact hN),gH hN,Pf,aN,aE,ie,c8,if_true,PR.bl,decide_eq_false h,qbJ,Pg,bH,cK,al,du,aF,xSl_p,xPt_p,xNo_p,dy,sl,ao,aq,qaA,qaH,show (0+1+1:Nat)<=100000 by decide];rfl
def sW{n m k:Nat}{x1 x2 x3 x5 x6 x7:Option D}{s:Pen}(hm:m<=1000)(hn:n<=1000)(hc:k<=950000):∀(vs:List Vc) (x4:Option D),(∀v∈vs,(v n).natAbs<2 ^ k)->(∃v∈vs,v n≠0) ->
  ∃v∈vs,v n≠0/\pGo (xNm 4:Xg []).p anB.p (vs.map (tD (n+1+m))) [some (.int (n:Int)),x1,x2,x3,x4,x5,x6,x7] s=.rt (.tup [.str "none",lD (fQ n m v)]) s
 | [],x4,_,h=>by obtain⟨v,hv,_⟩:=h;cases hv
 | u::vs,x4,hk,h=>by
  rw[qao,eK (env1:=[some (.int (n:Int)),x1,x2,x3,some (tD (n+1+m) u),x5,x6,x7]) (by rfl)];by_cases e:u n=0
  ·rw[sU (by ext) e]
   obtain⟨v,hv,h1,h2⟩:=sW (x1:=x1) (x2:=x2) (x3:=x3) (x5:=x5) (x6:=x6) (x7:=x7) (s:=s) hm hn hc vs (some (tD (n+1+m) u)) (fun v hv=>hk v (qaf _ hv)) (by
    obtain⟨v,hv,h1⟩:=h;rcases qam.mp hv with rfl|hv
    ·exact absurd e h1
    ·exact⟨v,hv,h1⟩)
   exact⟨v,qaf _ hv,h1,h2⟩
  ·refine⟨u,by simp,e,?_⟩;rw[an_ne hm hn e (hk u (by simp)) hc];rfl
def rG{n m:Nat}{rs:List Rw}{s:Pen}(hn:n<=12)(hl:rs.length<=1000)(h:RsOk n m rs)(hm:2+(n+1) * (4+2 * m)<=400000)
  (hx:∀R P L,RI (2 ^ (2 * m)) (vcs n rs) n R P L->∃a∈L,Lf R P a n≠0):∃R P L a,RI (2 ^ (2 * m)) (vcs n rs) n R P L/\a∈L/\Lf R P a n≠0/\bv.p [.int (n:Int),rsD rs] s=.ok (.tup [.str "none",lD (fQ n rs.length (Lf R P a))]) s:=by
 obtain⟨R,P,L,hI,q⟩:=oJ (s:=s) hn hl h hm
 obtain⟨v,hv,h1,h2⟩:=sW (n:=n) (m:=rs.length) (k:=2+(n+1) * (4+2 * m)) (x1:=some (rsD rs)) (x2:=some (.tup [aY true (n+1+rs.length) R P,dm (n+1+rs.length) R P L])) (x3:=some (aY true (n+1+rs.length) R P)) (x5:=none) (x6:=none) (x7:=none) (s:=s) hl (by ext) (by ext) (L.map fun a=>Lf R P a) none (fun v hv=>by
  obtain⟨a,ha,rfl⟩:=qaB.mp hv
  exact hI.szL (by ext) (qak _) (qak _) ((hI.all a).mpr (.inr ha)) n) (by
  obtain⟨a,ha,h1⟩:=hx R P L hI
  exact⟨_,qaB.mpr ⟨a,ha,rfl⟩,h1⟩)
 obtain⟨a,ha,rfl⟩:=qaB.mp hv;refine⟨R,P,L,a,hI,ha,h1,?_⟩;rw[oq (by rfl)];unfold fD;rw[show dSt 8 [D.int (n:Int),rsD rs]=[some (.int (n:Int)),some (rsD rs),none,none,none,none,none,none] from rfl];simp![aA,aS,aF,al,aq,q,Pg,qag,qah,PU.au,aB,aN,aE,bg,z0,z1,Pf,cV,cH,bY];rw[qaE] at h2;refine (congrArg (fun z:PS=>(z.then _).fin) h2).trans ?_;rfl
def ls(g:Rw->Rat)(f:Nat->Rat):List Rw->Nat->Rat
 | [],_=>0
 | r::rs,k=>g r * f k+ls g f rs (k+1)
def lR{g:Rw->Rat}{f h:Nat->Rat}{a b:Rat}:∀(rs:List Rw) (k:Nat),ls g (fun k=>a * f k+b * h k) rs k=a * ls g f rs k+b * ls g h rs k
 | [],k=>by simp only[ls];grind
 | r::rs,k=>by simp only[ls];rw[lR rs (k+1)];grind
def vE{g:Rw->Rat}{c:Rat}{i:Nat}:∀(rs:List Rw) (k:Nat),i<k->ls g (fun k=>if k=i then c else 0) rs k=0
 | [],k,_=>rfl
 | r::rs,k,h=>by simp only[ls];rw[vE rs (k+1) (by ext),qaz (by ext)];grind
def vV{g:Rw->Rat}{c:Rat}:∀(rs:List Rw) (k j:Nat) (h:j<rs.length),ls g (fun i=>if i=k+j then c else 0) rs k=g rs[j] * c
 | r::rs,k,0,h=>by simp only[ls];rw[vE rs (k+1) (by ext)];simp;grind
 | r::rs,k,j+1,h=>by
  simp only[ls];rw[qaz (by ext)]
  have:=vV (g:=g) (c:=c) rs (k+1) j (by simpa using h)
  rw[show k+1+j=k+(j+1) by ext] at this;rw[this,List.getElem_cons_succ];grind
def uU{g:Rw->Rat}{f:Nat->Rat}:∀(rs:List Rw) (k:Nat) (a:Rat),cY a ((rs.zip ((List.range' k rs.length).map f)).map fun p=>(g p.1,p.2))=a+ls g f rs k
 | [],k,a=>by show a=a+0;grind
 | r::rs,k,a=>by
  rw[qaA,List.range'_succ,qao,qbD,qao];show cY (a+g r * f k) _=_;rw[uU rs (k+1)];simp only[ls];grind
def qh{g:Rw->Rat}{f h:Nat->Rat}:∀(rs:List Rw) (k:Nat),(∀i,k<=i->i<k+rs.length->f i=h i)->ls g f rs k=ls g h rs k
 | [],k,_=>rfl
 | r::rs,k,e=>by
  simp only[ls];rw[e k (qak _) (by simp),qh rs (k+1) fun i h1 h2=>e i (by ext) (by simp only[qaA];ext)]
abbrev nm(n j:Nat)(r:Rw):Rat:=(nums n r).getD j 0
def Lin(n:Nat)(rs:List Rw)(v:Vc):Prop:=∀j,j<=n->((v j:Int):Rat)=ls (nm n j) (fun k=>((v (n+1+k):Int):Rat)) rs 0
def Lin.comb{n:Nat}{rs:List Rw}{u v:Vc}(hu:Lin n rs u)(hv:Lin n rs v)(a b:Int):Lin n rs fun q=>a * u q+b * v q:=fun j hj=>by
 have e:=lR (g:=nm n j) (f:=fun k=>((u (n+1+k):Int):Rat)) (h:=fun k=>((v (n+1+k):Int):Rat)) (a:=(a:Rat)) (b:=(b:Rat)) rs 0;rw[<-hu j hj,<-hv j hj] at e;simp only[Rat.intCast_add,Rat.intCast_mul];exact e.symm
def num_oft{n:Nat}{r:Rw}{q:Rat}(h:q∈nums n r):((q.num * ((oft n r:Int) / (q.den:Int)):Int):Rat)=q * ((oft n r:Nat):Int):=by
 obtain⟨c,hc⟩:=(m4 (nums n r) 1).2 q h;have hd:(q.den:Int)≠0:=by have:=q.den_nz;ext
 have e:((oft n r:Nat):Int)=(q.den:Int) * (c:Int):=by
  show ((gi 1 (nums n r):Nat):Int)=_;rw[hc];exact qbQ _ _
 rw[e,qcl _ hd,Rat.intCast_mul,Rat.intCast_mul];have hq:(q.num:Rat)=q * ((q.den:Int):Rat):=by
  have h1:=Rat.num_divInt_den q;rw[Rat.divInt_eq_div] at h1;have h2:=Rat.div_mul_cancel (a:=(q.num:Rat)) (b:=((q.den:Int):Rat)) (fun e=>hd (by exact_mod_cast e));rw[h1] at h2;exact h2.symm
 rw[hq];grind
def mR{n m:Nat}{r:Rw}{k j:Nat}(hj:j<=n):((vc (wr n m r k) j:Int):Rat)=nm n j r * ((oft n r:Nat):Int):=by
 have hl:j<(nums n r).length:=by rw[fC];ext
 have e:vc (wr n m r k) j=(nums n r)[j].num * ((oft n r:Int) / ((nums n r)[j].den:Int)):=by
  show (wr n m r k).getD j 0=_;unfold wr;rw[qaa,qal (by simpa using hl),qap,qae hl];rfl
 rw[e,num_oft (qaL hl)];show _=(nums n r).getD j 0 * _;rw[qaa,qae hl];rfl
def vc_hi{n m:Nat}{r:Rw}{k i:Nat}(hi:i<m):vc (wr n m r k) (n+1+i)=if i=k then (oft n r:Int) else 0:=by
 show (wr n m r k).getD (n+1+i) 0=_;unfold wr;rw[qaa,qaF (by simp[fC])];rw[qaC,fC,show n+1+i - (n+1)=i by ext,qap,qbA hi];rfl
def lin_row{n:Nat}{rs:List Rw}{k:Nat}(hk:k<rs.length):Lin n rs (vc (wr n rs.length rs[k] k)):=fun j hj=>by
 rw[mR hj]
 have:=vV (g:=nm n j) (c:=(((oft n rs[k]:Nat):Int):Rat)) rs 0 k hk
 rw[<-this,qbb];refine qh rs 0 fun i _ hi=>?_;rw[qbb] at hi;rw[vc_hi hi]
 split <;> rfl
def Sp.lin{n:Nat}{rs:List Rw}{R:List Vc}(h:∀r∈R,Lin n rs r){v:Vc}(s:Sp R v):Lin n rs v:=by
 induction s with
 | nil =>
   intro j hj
   have:=lR (g:=nm n j) (f:=fun _=>0) (h:=fun _=>0) (a:=0) (b:=0) rs 0
   simp only[Rat.zero_mul,Rat.add_zero] at this;exact this.symm
 | @add v r c _ m ih =>
  have:=ih.comb (h r m) 1 c
  rw[show (fun q=>v q+c * r q)=fun q=>1 * v q+c * r q by funext q;ext];exact this
def Lf.lin{n:Nat}{rs:List Rw}{R:List Vc}{P:List Nat}{a:Vc}(h:∀r∈R,Lin n rs r)(ha:Lin n rs a):Lin n rs (Lf R P a):=by
 obtain⟨u,su,e⟩:=lT R P a
 have:=ha.comb (su.lin h) (Dt R P) 1
 rw[show Lf R P a=fun j=>Dt R P * a j+1 * u j by funext j;rw[e];ext];exact this
def RI.lin{M n pl:Nat}{rs:List Rw}{R:List Vc}{P:List Nat}{L:List Vc}(i:RI M (vcs n rs) pl R P L){a:Vc}(ha:a∈L):Lin n rs (Lf R P a):=by
 have h:∀v∈vcs n rs,Lin n rs v:=fun v hv=>by
  obtain⟨k,hk,rfl⟩:=kD.mp hv;exact lin_row hk
 exact Lf.lin (fun r hr=>h r ((i.all r).mpr (.inl hr))) (h a ((i.all a).mpr (.inr ha)))
def oR{n j:Nat}{r:Rw}(h:j<n):nm n j r=coef r.1 j:=by
 show (nums n r).getD j 0=_;unfold nums;rw[qaa,qal (by simpa using h),qap,qbA h];rfl
def nm_n{n:Nat}{r:Rw}:nm n n r=r.2:=by
 show (nums n r).getD n 0=_;unfold nums;rw[qaa,qaF (by simp)];simp
def tog_nm{n j:Nat}{rs:List Rw}{ms:List Rat}(ok:∀r∈rs,RowOk n r)(hj:j<=n):(tog n rs ms).getD j 0=cY 0 ((rs.zip ms).map fun p=>(nm n j p.1,p.2)):=by
 rcases qcN j n with z|z
 ·rw[vK ok z];show cY 0 (mx rs ms j)=_;unfold mx;congr 1;exact qaK fun p _=>by rw[oR z]
 ·have:j=n:=by ext
  subst this;rw[qx ok];show cY 0 (rg rs ms)=_;unfold rg;congr 1;exact qaK fun p _=>by rw[nm_n]
def mix_at{n j:Nat}{rs:List Rw}{v:Vc}(ok:∀r∈rs,RowOk n r)(hj:j<=n)(hv:Lin n rs v):(tog n rs (fQ n rs.length v)).getD j 0=((v j:Int):Rat) / ((v n:Int):Rat):=by
 rw[tog_nm ok hj];have e:fQ n rs.length v=(List.range' 0 rs.length).map fun k=>(((v n:Int):Rat)⁻¹ * ((v (n+1+k):Int):Rat)+0 * 0):=by
  unfold fQ;rw[qbW];refine qaK fun k _=>?_;rw[Rat.divInt_eq_div,Rat.div_def];grind
 rw[e,uU,lR (g:=nm n j) (h:=fun _=>0),<-hv j hj,Rat.div_def];grind
def mix_tog{n M:Nat}{rs:List Rw}{R:List Vc}{P:List Nat}{L:List Vc}{a:Vc}(ok:∀r∈rs,RowOk n r)(i:RI M (vcs n rs) n R P L)(ha:a∈L)(hz:Lf R P a n≠0):tog n rs (fQ n rs.length (Lf R P a))=List.replicate n 0++[1]:=by
 have hv:=i.lin ha;have z:∀j,j<n->Lf R P a j=0:=fun j hj=>by
  by_cases hp:j∈P
  ·exact i.st.van a j hp
  ·exact i.off j hj hp a ha
 have g:∀j,j<=n->(tog n rs (fQ n rs.length (Lf R P a))).getD j 0=(List.replicate n (0:Rat)++[1]).getD j 0:=fun j hj=>by
  rw[mix_at ok hj hv];rcases qcN j n with h|h
  ·rw[z j h,qaa,qal (by simpa using h)];simp[h,Rat.div_def]
  ·have:j=n:=by ext
   subst this;rw[qaa,qaF (by simp)];have hq:((Lf R P a j:Int):Rat)≠0:=fun e=>hz (by exact_mod_cast e);rw[Rat.div_def,Rat.mul_inv_cancel _ hq];simp
 apply qbm
 ·rw[sR];simp
 ·intro j h1 h2
  have:=g j (by rw[sR] at h1;ext)
  rw[qaa,qae h1,qaa,qae h2] at this;exact this
def sQ(P:List Nat)(f:Nat->Rat):Rat:=(P.map f).foldr (·+·) 0
def aW{p:Nat}{P:List Nat}{f:Nat->Rat}:sQ (p::P) f=f p+sQ P f:=rfl
def aX{f g:Nat->Rat}:∀(P:List Nat),(∀p∈P,f p=g p)->sQ P f=sQ P g
 | [],_=>rfl
 | p::P,h=>by rw[aW,aW,h p (by simp),aX P fun q hq=>h q (qaf _ hq)]
def fk{f:Nat->Rat}{c:Rat}:∀(P:List Nat),(sQ P fun p=>f p * c)=sQ P f * c
 | []=>by show (0:Rat)=0 * c;grind
 | p::P=>by rw[aW,aW,fk P];grind
def sw{f:Nat->Int}:∀P:List Nat,((dq P f:Int):Rat)=sQ P fun p=>((f p:Int):Rat)
 | []=>rfl
 | p::P=>by rw[dj,aW,Rat.intCast_add,sw P]
def nM{N:Nat}{R:List Vc}{P:List Nat}{p:Nat}(h:p∈P):dix (P.reverse.map fun (p:Nat)=>(p:Int)) (P.reverse.map fun p=>tD N (Hd R P p)) (p:Int)=some (tD N (Hd R P p)):=nH (qbU.mpr h)
def uF{N p c k:Nat}{R:List Vc}{P:List Nat}{s:Pen}(h:p∈P)(hp:p<N)(hc:c<N)(hz:Hd R P p p≠0)(hk:(Hd R P p p).natAbs<2 ^ k)(hk':k<=950000):bW.p [aY true N R P,.int (p:Int),.int (c:Int)] s=.ok (qD (Rat.divInt (Hd R P p c) (Hd R P p p))) s:=by
 have nb:=iJ (t:=Hd R P p c) (b:=Hd R P p p) (s:=s) hz hk hk';have e1:(k9 true).p (.int (p:Int)) (aY true N R P)=some (.bl false):=by
  show some (D.bl (!(dix (P.reverse.map fun (p:Nat)=>(p:Int)) (P.reverse.map fun p=>tD N (Hd R P p)) (p:Int)).isSome))=_;rw[nM h];rfl
 have e2:j3.p (aY true N R P) (.int (p:Int))=some (tD N (Hd R P p)):=nM h;rw[kW (by rfl)];unfold dU;rw[show dSt 3 [aY true N R P,.int (p:Int),.int (c:Int)]=[some (aY true N R P),some (.int (p:Int)),some (.int (c:Int))] from rfl];simp![aA,bE,ca,aB,e1,Pf,PR.bl,Pg,qar,if_false,bD,PU.au,bH,aF,al,e2,cq,jh (show p<(tb N (Hd R P p)).length by rw[di];exact hp),jh (show c<(tb N (Hd R P p)).length by rw[di];exact hc),gH hp,gH hc,aq,nb,PU.bw]
def sl_p{n m:Nat}{v:Vc}:slD (tD (n+1+m) v) (some ((n:Int)+1)) none=some (iD ((List.range m).map fun k=>v (n+1+k))):=by
 have:=cutd (tb (n+1+m) v) D.int (n+1)
 show some (D.lst (jD _ _ _))=_;rw[show ((n:Int)+1)=((n+1:Nat):Int) by ext,this,sF]
def mixAt(n m:Nat)(v:Vc)(p:Nat):List Rat:=(List.range m).map fun k=>Rat.divInt (v (n+1+k)) (v p)
def pR{n m:Nat}{x1 x2 x3 x5 x6 x7:Option D}{s:Pen}:∀(vs:List Vc) (x4:Option D),(∀v∈vs,v n=0)->∃x4',pGo (xNm 4:Xg []).p anB.p (vs.map (tD (n+1+m))) [some (.int (n:Int)),x1,x2,x3,x4,x5,x6,x7] s=.nx [some (.int (n:Int)),x1,x2,x3,x4',x5,x6,x7] s
 | [],x4,_=>⟨x4,rfl⟩
 | u::vs,x4,h=>by
  rw[qao,eK (env1:=[some (.int (n:Int)),x1,x2,x3,some (tD (n+1+m) u),x5,x6,x7]) (by rfl),sU (by ext) (h u (by simp))];exact pR vs _ fun v hv=>h v (qaf _ hv)
def wC{f:Nat->D}:∀Q:List Nat,g6 ((Q.map fun (p:Nat)=>(p:Int)).map .int) (Q.map f)=Q.map fun p=>.tup [.int (p:Int),f p]:=fun Q=>by
 rw[qaE,eT]
 have:Q.zip Q=Q.map fun x=>(x,x):=by
  induction Q with
  | nil=>rfl
  | cons q Q ih=>rw[qbD,ih];rfl
 rw[this,qaE];rfl
def lV{a b:Rat}{x y h:Nat->Rat}:∀P:List Nat,(sQ P fun p=>(a * x p+b * y p) * h p)=a * (sQ P fun p=>x p * h p)+b * (sQ P fun p=>y p * h p)
 | []=>by show (0:Rat)=a * 0+b * 0;grind
 | p::P=>by rw[aW,aW,aW,lV P];grind
def eP{f:Nat->Rat}:∀P:List Nat,(∀p∈P,f p=0)->sQ P f=0
 | [],_=>rfl
 | p::P,h=>by rw[aW,h p (by simp),eP P fun q hq=>h q (qaf _ hq)];grind
def dM{f:Nat->Rat}{p:Nat}:∀{P:List Nat},P.Nodup->p∈P->(∀q∈P,q≠p->f q=0)->sQ P f=f p
 | q::P,nd,hp,h=>by
  obtain⟨h1,h2⟩:=qaN.mp nd;rw[aW];by_cases e:q=p
  ·subst e;rw[eP P fun x hx=>h x (qaf _ hx) fun z=>h1 (z▸hx)];grind
  ·rw[h q (by simp) e,dM h2 ((qam.mp hp).resolve_left fun z=>e z.symm) fun x hx=>h x (qaf _ hx)];grind
def Sol(n:Nat)(X:Nat->Rat)(v:Vc):Prop:=((v n:Int):Rat)=sQ (List.range n) fun j=>((v j:Int):Rat) * X j
def Sol.comb{n:Nat}{X:Nat->Rat}{u v:Vc}(hu:Sol n X u)(hv:Sol n X v)(a b:Int):Sol n X fun q=>a * u q+b * v q:=by
 unfold Sol at *;have e:=lV (a:=(a:Rat)) (b:=(b:Rat)) (x:=fun j=>((u j:Int):Rat)) (y:=fun j=>((v j:Int):Rat)) (h:=X) (List.range n);rw[<-hu,<-hv] at e;simp only[Rat.intCast_add,Rat.intCast_mul];exact e.symm
def sol_row{n m k:Nat}{X:Nat->Rat}{r:Rw}(h:r.2=sQ (List.range n) fun j=>coef r.1 j * X j):Sol n X (vc (wr n m r k)):=by
 unfold Sol;rw[mR (qak n),nm_n,h,<-fk];refine aX _ fun j hj=>?_;have hj:=qau.mp hj;rw[mR (qbp hj),oR hj];grind
def Sp.sol{n:Nat}{X:Nat->Rat}{R:List Vc}(h:∀r∈R,Sol n X r){v:Vc}(s:Sp R v):Sol n X v:=by
 induction s with
 | nil=>exact (eP _ fun j _=>by show ((0:Int):Rat) * X j=0;grind).symm
 | @add v r c _ m ih =>
  have:=ih.comb (h r m) 1 c
  rw[show (fun q=>v q+c * r q)=fun q=>1 * v q+c * r q by funext q;ext];exact this
def Lf.sol{n:Nat}{X:Nat->Rat}{R:List Vc}{P:List Nat}{a:Vc}(h:∀r∈R,Sol n X r)(ha:Sol n X a):Sol n X (Lf R P a):=by
 obtain⟨u,su,e⟩:=lT R P a
 have:=ha.comb (su.sol h) (Dt R P) 1
 rw[show Lf R P a=fun j=>Dt R P * a j+1 * u j by funext j;rw[e];ext];exact this
def RI.vsol{M n pl:Nat}{rs:List Rw}{R:List Vc}{P:List Nat}{L:List Vc}{X:Nat->Rat}(_i:RI M (vcs n rs) pl R P L)(h:∀r∈rs,r.2=sQ (List.range n) fun j=>coef r.1 j * X j):∀v∈vcs n rs,Sol n X v:=fun v hv=>by
 obtain⟨k,hk,rfl⟩:=kD.mp hv;exact sol_row (h _ (qaL hk))
def RI.flat0{M n:Nat}{rs:List Rw}{R:List Vc}{P:List Nat}{L:List Vc}{X:Nat->Rat}(i:RI M (vcs n rs) n R P L)(h:∀r∈rs,r.2=sQ (List.range n) fun j=>coef r.1 j * X j):∀a∈L,Lf R P a n=0:=fun a ha=>by
 have hv:=i.vsol h;have s:=Lf.sol (P:=P) (fun r hr=>hv r ((i.all r).mpr (.inl hr))) (hv a ((i.all a).mpr (.inr ha)));unfold Sol at s
 rw[eP _ fun j hj=>by
  have hj:=qau.mp hj
  rw[show Lf R P a j=0 by
   by_cases hp:j∈P
   ·exact i.st.van a j hp
   ·exact i.off j hj hp a ha]
  show ((0:Int):Rat) * X j=0
  grind] at s
 exact_mod_cast s
def minus_p{q:Rat}{s:Pen}(h:sz q<=900000):fB.p [.tup [.int 0,.int 1],qD q] s=.ok (qD (-q)) s:=by
 have h1:=cN q;have h2:=bG q;have nb:=iJ (t:=-q.num) (b:=(q.den:Int)) (k:=sz q) (s:=s) (by have:=q.den_nz;ext) (by simpa using h2) (by ext);have e:Rat.divInt (-q.num) (q.den:Int) = -q:=by
  have:=Rat.num_divInt_den (-q)
  rwa [Rat.neg_num,Rat.neg_den] at this
 rw[e] at nb;have m1:=bM (a:=0) (b:=(q.den:Int)) (j:=1) (k:=sz q) (by decide) (by simpa using h2) (by decide) (by ext);have m2:=bM (a:=q.num) (b:=1) (j:=sz q) (k:=1) h1 (by decide) (by ext) (by decide);have m3:=bM (a:=1) (b:=(q.den:Int)) (j:=1) (k:=sz q) (by decide) (by simpa using h2) (by decide) (by ext);rw[Int.zero_mul] at m1;rw[Int.mul_one] at m2;rw[Int.one_mul] at m3;rw[xj (by rfl)];unfold iX;rw[show dSt 2 [D.tup [.int 0,.int 1],qD q]=[some (.tup [.int 0,.int 1]),some (qD q)] from rfl];simp![bH,aF,al,aB,aN,aE,bg,z0,z1,Pf,m1,m2,m3,ku,Int.zero_sub,aq,nb,Pg,PU.bw]
def val(R:List Vc)(P:List Nat)(p c:Nat):Rat:=if p∈P then Rat.divInt (Hd R P p c) (Hd R P p p) else 0
def sX{N p c k:Nat}{R:List Vc}{P:List Nat}{s:Pen}(hp:p<N)(hc:c<N)(hz:p∈P->Hd R P p p≠0)(hk:(Hd R P p p).natAbs<2 ^ k)(hk':k<=950000):bW.p [aY true N R P,.int (p:Int),.int (c:Int)] s=.ok (qD (val R P p c)) s:=by
 by_cases h:p∈P
 ·rw[uF h hp hc (hz h) hk hk'];unfold val;rw[qan h]
 ·have e1:(k9 true).p (.int (p:Int)) (aY true N R P)=some (.bl true):=by
   show some (D.bl (!(dix (P.reverse.map fun (p:Nat)=>(p:Int)) (P.reverse.map fun p=>tD N (Hd R P p)) (p:Int)).isSome))=_;rw[lG fun z=>h (qbU.mp z)];rfl
  rw[kW (by rfl)];unfold dU;rw[show dSt 3 [aY true N R P,.int (p:Int),.int (c:Int)]=[some (aY true N R P),some (.int (p:Int)),some (.int (c:Int))] from rfl];simp![aA,bE,ca,aB,e1,Pf,PR.bl,Pg,if_true,bH,jE,PU.kj,PU.bw];unfold val;rw[qaz h];rfl
def aT(n:Nat)(R:List Vc)(P:List Nat)(f:Nat):List Rat:=((List.range n).map fun p => -(val R P p f)).set f 1
def way_p{n N f k:Nat}{R:List Vc}{P:List Nat}{s:Pen}(hn:n<=100)(hN:n<N)(hf:f<n)(hz:∀p,p∈P->Hd R P p p≠0)(hk:∀p c:Nat,(Hd R P p c).natAbs<2 ^ k)(h0:0<k)(hk':k<=900000):dz.p [.int (n:Int),aY true N R P,.int (f:Int)] s=.ok (lD (aT n R P f)) s:=by
 have vs:∀p,sz (val R P p f)<=k:=fun p=>by
  unfold val;split
  ·rename_i h
   rw[divI (hz p h)];refine iP (by have:=hz p h;ext) h0 ?_ (hk p p)
   have:=hk p f
   split
   ·rwa [qch]
   ·exact this
  ·rw[sz0];exact h0
 have c:=dH (ws:=[3]) (ws':=[]) (env:=[some (.int (n:Int)),some (aY true N R P),some (.int (f:Int)),none]) (s:=s) (s0:=s) (fm:=[1,2]) (i:=bh iR1 (ac (aa 0) xNil)) (t:=xTrue) (e:=ak fB (ac (xCT 0 1) (ac (ak bW (ac (aa 1) (ac (aa 0) (ac (aa 2) xNil)))) xNil))) (l:=List.range n) (fun (p:Nat)=>D.int (p:Int)) (fun p=>qD (-(val R P p f))) (fun _=>true)
  (by simp only[bP,al,ah,Pb,aq];rw[dX (by ext),qaG,dA];rfl) (by simp;ext) fun p hp=>⟨rfl,fun _=>by
   have hp:=qau.mp hp;show (ak fB _:Xe []).p [some (.int (p:Int)),some (aY true N R P),some (.int (f:Int))] s=_;have v:=sX (p:=p) (c:=f) (s:=s) (N:=N) (by ext) (by ext) (hz p) (hk p p) (by ext);have m:=minus_p (q:=val R P p f) (s:=s) (by have:=vs p;ext)
   simp![aF,al,jE,aq,v,m]⟩
 rw[p9 (by rfl)];unfold eD;rw[show dSt 4 [D.int (n:Int),aY true N R P,.int (f:Int)]=[some (.int (n:Int)),some (aY true N R P),some (.int (f:Int)),none] from rfl];rw[aA,dS,c];dsimp![f8,if_true,bu];rw[aA,qC,kA (v:=qD 1) (s1:=s) (j:=(f:Int)) (s2:=s) (ds:=(List.range n).map fun p=>qD (-(val R P p f))) (n:=f) (by rw[jE];rfl) (by simp only[ah,ai]) rfl (iL (by simp;exact hf)),PU.au]
 rw[kg (d:=lD (aT n R P f)) (by
  show some (some (D.lst (((List.range n).map fun p=>qD (-(val R P p f))).set f (qD 1))))=_;unfold aT lD;rw[List.map_set,qaE]
  rfl),PU.bw]
abbrev frees(n:Nat)(P:List Nat):List Nat:=(List.range n).filter fun j=>!decide (j∈P)
abbrev fL(n m:Nat)(R:List Vc)(P:List Nat):D:=.lst (P.reverse.map fun p=>lD (mixAt n m (Hd R P p) p))
abbrev be(n:Nat)(R:List Vc)(P:List Nat):List Rat:=(List.range n).map fun p=>val R P p n
def ansD(n m:Nat)(R:List Vc)(P:List Nat):D:=if frees n P=[] then .tup [.str "one",lD (be n R P),fL n m R P] else .tup [.str "many",lD (be n R P),(.lst ((frees n P).map fun (f:Nat)=>.tup [.int (f:Int),lD (aT n R P f)])),fL n m R P]
def v4{n m:Nat}{rs:List Rw}{s:Pen}(hn:n<=12)(hl:rs.length<=1000)(h:RsOk n m rs)(hm:2+(n+1) * (4+2 * m)<=400000)
  (hL:∀R P L,RI (2 ^ (2 * m)) (vcs n rs) n R P L->∀a∈L,Lf R P a n=0) :
  ∃R P L,RI (2 ^ (2 * m)) (vcs n rs) n R P L/\bv.p [.int (n:Int),rsD rs] s=.ok (ansD n rs.length R P) s:=by
 obtain⟨R,P,L,hI,q⟩:=oJ (s:=s) hn hl h hm;obtain⟨x4,ql⟩:=pR (n:=n) (m:=rs.length) (x1:=some (rsD rs)) (x2:=some (.tup [aY true (n+1+rs.length) R P,dm (n+1+rs.length) R P L])) (x3:=some (aY true (n+1+rs.length) R P)) (x5:=none) (x6:=none) (x7:=none) (s:=s) (L.map fun a=>Lf R P a) none fun v hv=>by
  obtain⟨a,ha,rfl⟩:=qaB.mp hv;exact hL R P L hI a ha
 have pp:∀p,p∈P->Hd R P p p≠0:=fun p hp=>by
  rw[kh hI.st hp]
  have:=hI.st.ne
  simpa [dlt] using this
 have pk:∀p c:Nat,(Hd R P p c).natAbs<2 ^ (2+(n+1) * (4+2 * m)):=fun p c=>hI.szH (by ext) (qak _) (qcn (by decide)) (qak _) p c;have c1:=dH (ws:=[]) (ws':=[]) (env:=[some (.int (n:Int)),some (rsD rs),some (.tup [aY true (n+1+rs.length) R P,dm (n+1+rs.length) R P L]),some (aY true (n+1+rs.length) R P),x4,none,none,none]) (s:=s) (s0:=s) (fm:=[3,0]) (i:=bh iR1 (ac (aa 0) xNil)) (t:=xTrue) (e:=ak bW (ac (aa 1) (ac (aa 0) (ac (aa 2) xNil)))) (l:=List.range n) (fun (j:Nat)=>D.int (j:Int)) (fun p=>qD (val R P p n)) (fun _=>true)
  (by simp only[bP,al,ah,Pb,aq];rw[dX (by ext),qaG,dA];rfl) (by simp;ext) fun p hp=>⟨rfl,fun _=>by
   have hp:=qau.mp hp;show (ak bW _:Xe []).p [some (.int (p:Int)),some (aY true (n+1+rs.length) R P),some (.int (n:Int))] s=_
   have:=sX (N:=n+1+rs.length) (p:=p) (c:=n) (s:=s) (by ext) (by ext) (pp p) (pk p p) (by ext)
   simp![aF,al,aq,this]⟩
 have c2:=f9 (ws:=[]) (ws':=[]) (env:=[some (.int (n:Int)),some (rsD rs),some (.tup [aY true (n+1+rs.length) R P,dm (n+1+rs.length) R P L]),some (aY true (n+1+rs.length) R P),x4,some (lD (be n R P)),none,none]) (s:=s) (s0:=s) (fm:=[0]) (i:=pM (aa 3)) (t:=xTrue) (e:=ak cG (ac (xSl (aa 1) (xPt (af cL (aa 2) (xC (.int 1)))) xNo) (ac (af oIx (aa 1) (aa 0)) xNil))) (l:=P.reverse) (fun (p:Nat)=>D.int (p:Int)) (fun p=>tD (n+1+rs.length) (Hd R P p)) (fun p=>lD (mixAt n rs.length (Hd R P p) p)) (fun _=>true)
  (by simp![xItD_p,wC]) (by rw[List.length_reverse];have:=hI.pl;ext) fun p hp=>⟨rfl,fun _=>by
   have hp':=qbU.mp hp;have hp:=hI.lt p hp';have ao:=lP (l:=(List.range rs.length).map fun k=>Hd R P p (n+1+k)) (b:=Hd R P p p) (s:=s) (by simp;ext) (pp p hp') (pk p p) (by ext);rw[qaE] at ao;show (ak cG _:Xe []).p [some (.int (p:Int)),some (tD (n+1+rs.length) (Hd R P p)),some (.int (n:Int))] s=_;simp![aF,al,xSl_p,xPt_p,xNo_p,aB,aN,aE,dy,sl_p,Pf,cq,jh (show p<(tb (n+1+rs.length) (Hd R P p)).length by rw[di];ext),gH (show p<n+1+rs.length by ext),aq,ao]
   rfl⟩
 have c3:=dH (ws:=[]) (ws':=[]) (env:=[some (.int (n:Int)),some (rsD rs),some (.tup [aY true (n+1+rs.length) R P,dm (n+1+rs.length) R P L]),some (aY true (n+1+rs.length) R P),x4,some (lD (be n R P)),some (fL n rs.length R P),none]) (s:=s) (s0:=s) (fm:=[0,3]) (i:=bh iR1 (ac (aa 0) xNil)) (t:=xB (af (k9 true) (aa 0) (aa 2))) (e:=bO (ac (aa 0) (ac (ak dz (ac (aa 1) (ac (aa 2) (ac (aa 0) xNil)))) xNil))) (l:=List.range n) (fun (j:Nat)=>D.int (j:Int)) (fun f=>.tup [.int (f:Int),lD (aT n R P f)]) (fun j=>!decide (j∈P))
  (by simp only[bP,al,ah,Pb,aq];rw[dX (by ext),qaG,dA];rfl) (by simp;ext) fun p hp=>⟨by
   show (xB _:Xt []).p [some (.int (p:Int)),some (.int (n:Int)),some (aY true (n+1+rs.length) R P)] s=_;have e1:(k9 true).p (.int (p:Int)) (aY true (n+1+rs.length) R P)=some (.bl (!decide (p∈P))):=by
    show some (D.bl (!(dix (P.reverse.map fun (p:Nat)=>(p:Int)) (P.reverse.map fun p=>tD (n+1+rs.length) (Hd R P p)) (p:Int)).isSome))=_;by_cases z:p∈P
    ·rw[nM z,decide_eq_true z];rfl
    ·rw[lG fun q=>z (qbU.mp q),decide_eq_false z];rfl
   simp![ca,aB,e1,Pf,PR.bl],fun z=>by
   have hp:=qau.mp hp;show (bO _:Xe []).p [some (.int (p:Int)),some (.int (n:Int)),some (aY true (n+1+rs.length) R P)] s=_;have w:=way_p (n:=n) (N:=n+1+rs.length) (f:=p) (s:=s) (by ext) (by ext) hp pp pk (by ext) (by ext)
   simp![cK,al,aF,aq,w,qaA,qaH,show (0+1+1:Nat)<=100000 by decide,if_true]⟩
 refine⟨R,P,L,hI,?_⟩;rw[oq (by rfl)];unfold fD;rw[show dSt 8 [D.int (n:Int),rsD rs]=[some (.int (n:Int)),some (rsD rs),none,none,none,none,none,none] from rfl];rw[aA,aS];simp![aF,al,aq,q,Pg,qag,qah,PU.au];rw[aA,aS];simp![aB,aN,aE,bg,z0,Pf,Pg,qag,qah,PU.au];rw[aA,cV];simp![cH,aB,aN,aE,bg,z1,Pf,bY,Pg];rw[qaE] at ql;refine (congrArg (fun z:PS=>(z.then _).fin) ql).trans ?_;rw[PU.au,aA,aS,c1];dsimp![bu];rw[show D.lst ((List.range n).map fun p=>qD (val R P p n))=lD (be n R P) by unfold be lD;rw[qaE];rfl,aA,aS,c2];dsimp![bu];rw[aA,aS,c3];dsimp![PU.au];unfold ansD;by_cases z:frees n P=[]
 ·rw[qan z];rw[show (List.range n).filter (fun j=>!decide (j∈P))=[] from z];simp![qcc,aA,bE,uq,jZ,List.isEmpty_nil,qbi,Pf,Pg,qar,if_false,bD,PU.au,bH,cK,al,aN,du,aq,qaA,qaH,show (0+1+1+1:Nat)<=100000 by decide,if_true,PU.bw]
 ·rw[qaz z];have ne:((frees n P).map fun (f:Nat)=>D.tup [.int (f:Int),lD (aT n R P f)]).isEmpty=false:=by
   cases e:frees n P with
   | nil=>exact absurd e z
   | cons a b=>rfl
  simp![aA,bE,uq,jZ,ne,qbJ,Pf,Pg,if_true,bH,cK,al,aN,du,aq,qaA,qaH,show (0+1+1+1+1:Nat)<=100000 by decide,PU.kj,PU.bw]
def oK{f:Nat->Rat}{c:Nat->Bool}:∀P:List Nat,(∀p∈P,c p=false->f p=0)->sQ P f=sQ (P.filter c) f
 | [],_=>rfl
 | p::P,h=>by
  have ih:=oK (f:=f) (c:=c) P fun q hq=>h q (qaf _ hq);rw[List.filter_cons,aW,ih]
  cases e:c p with
  | true=>rw[qan rfl,aW]
  | false=>rw[qaz (by decide),h p (by simp) e];grind
abbrev prD(p:Rat × Rat):D:=.tup [qD p.1,qD p.2]
abbrev ctB:Xd []:=(az (aL 2 (af cL (af bx (af bx (aa 2) (af oIx (aa 4) (xC (.int 1)))) (af oIx (aa 5) (xC (.int 1)))) (af bx (af bx (af oIx (aa 4) (xC (.int 0))) (af oIx (aa 5) (xC (.int 0)))) (aa 3))))
 (aL 3 (af bx (af bx (aa 3) (af oIx (aa 4) (xC (.int 1)))) (af oIx (aa 5) (xC (.int 1))))))
abbrev ctG:Xg []:=xGp (xGc (xNm 4) (xGc (xNm 5) xGl)) 2
def yc{top:Int}{bot:Nat}(hb:bot≠0)(p:Rat × Rat):Rat.divInt (top * p.1.den * p.2.den+p.1.num * p.2.num * bot) ((bot * p.1.den * p.2.den:Nat):Int)=Rat.divInt top bot+p.1 * p.2:=by
 rw[ni,Rat.divInt_add_divInt _ _ (by ext) (by have:=qbx p.1.den_nz p.2.den_nz;ext)];push_cast;rw[Int.mul_assoc top,Int.mul_assoc (bot:Int)]
def ct_step{top:Int}{bot k:Nat}{P W x4 x5:Option D}{s:Pen}{p:Rat × Rat}(h1:top.natAbs<2 ^ k)(h2:bot<2 ^ k)(hk:k+wt p<=890000) :
  ctB.p [P,W,some (.int top),some (.int (bot:Int)),some (qD p.1),some (qD p.2)] s=.nx [P,W,some (.int (top * p.1.den * p.2.den+p.1.num * p.2.num * bot)),some (.int ((bot * p.1.den * p.2.den:Nat):Int)),some (qD p.1),some (qD p.2)] s /\
   (top * p.1.den * p.2.den+p.1.num * p.2.num * bot).natAbs<2 ^ (k+wt p)/\bot * p.1.den * p.2.den<2 ^ (k+wt p):=by
 have hw:wt p=sz p.1+sz p.2+1:=rfl;have a1:=cN p.1;have a2:=bG p.1;have a3:=cN p.2;have a4:=bG p.2;have b1:(top * p.1.den).natAbs<2 ^ (k+sz p.1):=by rw[qbe];exact cg h1 (by simpa using a2)
 have b2:(p.1.num * p.2.num).natAbs<2 ^ (sz p.1+sz p.2):=by rw[qbe];exact cg a1 a3
 have b3:bot * p.1.den<2 ^ (k+sz p.1):=cg h2 a2;have b4:bot * p.1.den * p.2.den<2 ^ (k+sz p.1+sz p.2):=cg b3 a4;have b5:(top * p.1.den * p.2.den).natAbs<2 ^ (k+sz p.1+sz p.2):=by rw[qbe];exact cg b1 (by simpa using a4)
 have b6:(p.1.num * p.2.num * bot).natAbs<2 ^ (sz p.1+sz p.2+k):=by rw[qbe];exact cg b2 (by simpa using h2)
 refine⟨?_,?_,?_⟩
 ·have c1:=bM (a:=top) (b:=(p.1.den:Int)) h1 (by simpa using a2) (by ext) (by ext);have c2:=bM (a:=top * p.1.den) (b:=(p.2.den:Int)) b1 (by simpa using a4) (by ext) (by ext);have c3:=bM (a:=p.1.num) (b:=p.2.num) a1 a3 (by ext) (by ext);have c4:=bM (a:=p.1.num * p.2.num) (b:=(bot:Int)) b2 (by simpa using h2) (by ext) (by ext);have c5:=bM (a:=(bot:Int)) (b:=(p.1.den:Int)) (by simpa using h2) (by simpa using a2) (by ext) (by ext);have c6:=bM (a:=(bot:Int) * p.1.den) (b:=(p.2.den:Int)) (by simpa [qbe] using b3) (by simpa using a4) (by ext) (by ext);simp![aA,aS,aB,aN,aE,bg,z0,z1,Pf,c1,c2,c3,c4,dy,Pg,qag,qah,PU.au,c5,c6,qbQ]
 ·have:=Int.natAbs_add_le (top * p.1.den * p.2.den) (p.1.num * p.2.num * bot)
  rw[hw,show k+(sz p.1+sz p.2+1)=k+sz p.1+sz p.2+1 by ext,qcF];rw[show sz p.1+sz p.2+k=k+sz p.1+sz p.2 by ext] at b6;ext
 ·exact qaw b4 (qbk (by decide) (by ext))
def tf{P W:Option D}{s:Pen}:∀(l:List (Rat × Rat)) (k:Nat) (top:Int) (bot:Nat) (x4 x5:Option D),bot≠0->top.natAbs<2 ^ k->bot<2 ^ k->k+tot l<=890000 ->
  ∃(top':Int) (bot':Nat) (x4' x5':Option D),pGo ctG.p ctB.p (l.map prD) [P,W,some (.int top),some (.int (bot:Int)),x4,x5] s=.nx [P,W,some (.int top'),some (.int (bot':Int)),x4',x5'] s/\bot'≠0 /\
   top'.natAbs<2 ^ (k+tot l)/\bot'<2 ^ (k+tot l)/\Rat.divInt top' bot'=cY (Rat.divInt top bot) l
 | [],k,top,bot,x4,x5,hb,h1,h2,hk=>⟨top,bot,x4,x5,rfl,hb,h1,h2,rfl⟩
 | p::l,k,top,bot,x4,x5,hb,h1,h2,hk=>by
  rw[jy] at hk ⊢;obtain⟨e1,e2,e3⟩:=ct_step (P:=P) (W:=W) (x4:=x4) (x5:=x5) (s:=s) (p:=p) h1 h2 (by ext);obtain⟨top',bot',x4',x5',q,r1,r2,r3,r4⟩:=tf l (k+wt p) _ (bot * p.1.den * p.2.den) (some (qD p.1)) (some (qD p.2)) (qbx (qbx hb p.1.den_nz) p.2.den_nz) e2 e3 (by ext);refine⟨top',bot',x4',x5',?_,r1,by rw[<-qcL];exact r2,by rw[<-qcL];exact r3,?_⟩
  ·rw[qao,eK (env1:=[P,W,some (.int top),some (.int (bot:Int)),some (qD p.1),some (qD p.2)]) (by rfl),e1];exact q
  ·rw[r4,yc hb];rfl
def mM{l:List (Rat × Rat)}{w:Rat}{s:Pen}(hk:tot l<=880000)(hw:sz w<=880000):cF.p [.lst (l.map prD),qD w] s=.ok (.bl (decide (dot l=w))) s:=by
 rw[rO (by rfl)];unfold fu;rw[show dSt 6 [D.lst (l.map prD),qD w]=[some (.lst (l.map prD)),some (qD w),none,none,none,none] from rfl];obtain⟨top,bot,x4,x5,q,hb,h1,h2,hv⟩:=tf (P:=some (.lst (l.map prD))) (W:=some (qD w)) (s:=s) l 1 0 1 none none (by decide) (by decide) (by decide) (by ext);have hv:Rat.divInt top bot=dot l:=by rw[hv];rfl
 dsimp![aA,aS,aN,aE,cV,cH,ah,Pb,show (D.lst (l.map prD)).items=some (l.map prD) from rfl,Pf];refine (congrArg (fun z:PS=>(z.then _).fin) q).trans ?_;have c1:=bM (a:=top) (b:=(w.den:Int)) h1 (by simpa using bG w) (by ext) (by ext);have c2:=bM (a:=w.num) (b:=(bot:Int)) (cN w) (by simpa using h2) (by ext) (by ext);have e:decide (top * (w.den:Int)=w.num * (bot:Int))=decide (dot l=w):=by
  rw[<-hv]
  have:=Rat.divInt_eq_divInt_iff (n₁:=top) (n₂:=w.num) (d₁:=bot) (d₂:=w.den) (by ext) (by have:=w.den_nz;ext)
  rw[Rat.num_divInt_den] at this;exact decide_eq_decide.mpr this.symm
 simp![PU.au,bH,aB,aN,aE,bg,z0,z1,Pf,c1,c2,cE,c8,qar,if_false,e,Pg,PU.bw]
def xX(bs:List Bool):jL (bs.map .bl)=some bs:=by
 induction bs with
 | nil=>rfl
 | cons b bs ih=>rw[qao,jL,ih];rfl
def xk(bs:List Bool):cAll.p [.lst (bs.map .bl)]=some (.bl (bs.all id)):=by
 show (((D.lst (bs.map .bl)).items).bind jL).map _=_;show ((some (bs.map D.bl)).bind jL).map _=_;rw[qbT,xX];rfl
def mj{rs:List Rw}{ms:List Rat}{j:Nat}{s:Pen}(hl:rs.length<=1000)(h:∀r∈rs,(r.1.map (·.1)).Nodup):dr.p [rsD rs,lD ms,.int (j:Int)] s=.ok (.lst ((mx rs ms j).map prD)) s:=by
 rw[rQ (by rfl)];unfold fw
 rw[show dSt 3 [rsD rs,lD ms,.int (j:Int)]=[some (rsD rs),some (lD ms),some (.int (j:Int))] from rfl,bH,f9 (l:=rs.zip ms) (fun p=>rwD p.1) (fun p=>qD p.2) (fun p=>prD (coef p.1.1 j,p.2)) (fun _=>true) (s:=s) (by
   simp![bP,al,aq,kr,Pf,eT]) (by have:=iO (ys:=ms) hl;ext) (fun p hp=>by
   refine⟨rfl,fun _=>?_⟩;show (bO _:Xe []).p [some (rwD p.1),some (qD p.2),some (.int (j:Int))] s=_
   simp![cK,al,xDG_p,bV,aB,aN,aE,bg,z0,Pf,sL (h p.1 (qaW hp).1),jE,aq,qI,qaA,qaH,show (0+1+1:Nat)<=100000 by decide,if_true])]
 rw[bu];unfold mx;rw[qaE];simp only[Pg,PU.bw];rfl
def bl_map{α:Type}(l:List α)(f:α->Bool):(l.map fun x=>D.bl (f x))=(l.map f).map .bl:=by rw[qaE];rfl
def nk{α:Type}(l:List α)(f:α->Bool):(l.map f).all id=l.all f:=by rw[List.all_map];rfl
def at0(rs:List Rw)(ms:List Rat)(j:Nat):Bool:=decide (dot (mx rs ms j)=0)
structure MixOk (n:Nat) (rs:List Rw) (ms:List Rat):Prop where
 len:rs.length<=1000
 ok:∀r∈rs,RowOk n r
 tm:∀j,tot (mx rs ms j)<=870000
 tr:tot (rg rs ms)<=870000
def ct_at{n:Nat}{rs:List Rw}{ms:List Rat}{j:Nat}{s:Pen}(h:MixOk n rs ms)(w:Rat)(hw:sz w=1):(dr.p [rsD rs,lD ms,.int (j:Int)] s).bind (fun x s1=>cF.p [x,qD w] s1)=.ok (.bl (decide (dot (mx rs ms j)=w))) s:=by
 rw[mj h.len fun r hr=>(h.ok r hr).nd,Pb]
 have:=h.tm j
 exact mM (by ext) (by ext)
def yt{n:Nat}{rs:List Rw}{ms:List Rat}{s:Pen}(hn:n<=1000)(h:MixOk n rs ms):dn.p [.int (n:Int),rsD rs,lD ms] s=.ok (.bl (decide (dot (rg rs ms)=1) && (List.range n).all (at0 rs ms))) s:=by
 rw[uY (by rfl)];unfold gW
 rw[show dSt 4 [D.int (n:Int),rsD rs,lD ms]=[some (.int (n:Int)),some (rsD rs),some (lD ms),none] from rfl,aA,aS,f9 (l:=rs.zip ms) (fun p=>rwD p.1) (fun p=>qD p.2) (fun p=>prD (p.1.2,p.2)) (fun _=>true) (s:=s) (by
   simp![bP,al,aq,kr,Pf,eT]) (by have:=iO (ys:=ms) h.len;ext) (fun p hp=>by
   refine⟨rfl,fun _=>?_⟩;show (bO _:Xe []).p [some (rwD p.1),some (qD p.2)] s=_
   simp![cK,al,aB,aN,aE,bg,z1,Pf,aq,qaA,qaH,show (0+1+1:Nat)<=100000 by decide,if_true])]
 rw[bu,show ((rs.zip ms).map fun p=>prD (p.1.2,p.2))=(rg rs ms).map prD by unfold rg;rw[qaE];rfl];dsimp![PU.au];have c:=mM (l:=rg rs ms) (w:=1) (s:=s) (by have:=h.tr;ext) (by rw[sz1];decide);rw[q1] at c;have q:=dH (ws:=[]) (ws':=[]) (fm:=[1,2]) (env:=[some (.int (n:Int)),some (rsD rs),some (lD ms),some (.lst ((rg rs ms).map prD))]) (i:=bh iR1 (ac (aa 0) xNil)) (t:=xTrue) (e:=ak cF (ac (ak dr (ac (aa 1) (ac (aa 2) (ac (aa 0) xNil)))) (ac (xCT 0 1) xNil))) (s0:=s)
  (l:=List.range n) (fun (j:Nat)=>D.int (j:Int)) (fun j=>.bl (at0 rs ms j)) (fun _=>true) (s:=s) (by
   simp only[bP,al,ah,Pb,aq]
   rw[dX (by ext),qaG,dA];rfl) (by simp;ext) (fun j hj=>by
   refine⟨rfl,fun _=>?_⟩;show (ak cF _:Xe []).p [some (.int (j:Int)),some (rsD rs),some (lD ms)] s=_
   have:=ct_at (j:=j) (s:=s) h 0 sz0
   rw[q0] at this;simp![aF,al,aq,jE];rw[mj h.len fun r hr=>(h.ok r hr).nd] at this ⊢
   exact this)
 rw[bu,bl_map] at q;simp![bH,kq,aF,al,aq,jE,c,PR.bl]
 cases decide (dot (rg rs ms)=1) with
 | false=>rfl
 | true =>
  simp only[if_true,bV,al];rw[q];simp only[Pb,aq,xk,nk,Pf,Pg,PU.bw,Bool.true_and]
def Inc(n:Nat)(R:List Vc)(P:List Nat)(L:List Vc):Prop:=∃a∈L,Lf R P a n≠0
def castN{D:Nat}(h:0<D):(((D:Nat):Int):Rat)≠0:=fun e=>by
 have:((D:Nat):Int)=0:=by exact_mod_cast e
 ext
abbrev e1(j:Nat):Nat->Rat:=fun q=>if q=j then 1 else 0
def qQ{n:Nat}{xs:List Rat}:∀(ps:List Pt) (a:Rat),(ps.map (·.1)).Nodup->(∀p∈ps,p.1<n)->cY a (prs ps xs)=a+sQ (List.range n) fun j=>coef ps j * xs.getD j 0
 | [],a,_,_=>by
  show a=_;rw[eP _ fun j _=>by show (0:Rat) * _=0;grind];grind
 | p::ps,a,nd,lt=>by
  rw[qao,qaN] at nd;have ih:=qQ (n:=n) (xs:=xs) ps (a+p.2 * xs.getD p.1 0) nd.2 fun q hq=>lt q (qaf _ hq);have e:=lV (a:=1) (b:=p.2) (x:=coef ps) (y:=e1 p.1) (h:=fun j=>xs.getD j 0) (List.range n);rw[dM (f:=fun j=>e1 p.1 j * xs.getD j 0) (p:=p.1) qaU (qau.mpr (lt p (by simp))) fun q _ ne=>by show (if q=p.1 then 1 else 0) * _=(0:Rat);rw[qaz ne];grind] at e
  rw[aX (g:=fun j=>(1 * coef ps j+p.2 * e1 p.1 j) * xs.getD j 0) (List.range n) fun j _=>by
   rw[eQ];by_cases z:p.1=j
   ·subst z;rw[qan rfl,fZ nd.1];show p.2 * _=(1 * 0+p.2 * (if p.1=p.1 then 1 else 0)) * _;rw[qan rfl];grind
   ·rw[qaz z];show coef ps j * _=(1 * coef ps j+p.2 * (if j=p.1 then 1 else 0)) * _;rw[qaz fun q=>z q.symm];grind,e]
  show cY (a+p.2 * xs.getD p.1 0) (prs ps xs)=_;rw[ih];show _=a+(1 * _+p.2 * ((if p.1=p.1 then 1 else 0) * _));rw[qan rfl];grind
def kO{f:Nat->Rat}{P Q:List Nat}(h:P.Perm Q):sQ P f=sQ Q f:=by
 induction h with
 | nil=>rfl
 | cons x _ ih=>rw[aW,aW,ih]
 | swap x y l=>rw[aW,aW,aW,aW];grind
 | trans _ _ h1 h2=>exact h1.trans h2
def RI.pp{M n pl p:Nat}{V R L:List Vc}{P:List Nat}(i:RI M V pl R P L)(hp:p∈P):Hd R P p p=Dt R P:=by
 rw[kh i.st hp];simp[dlt]
def fit_c{M n c:Nat}{rs:List Rw}{R:List Vc}{P:List Nat}{L:List Vc}(i:RI M (vcs n rs) n R P L)(hc:c<=n)(hL:∀a∈L,Lf R P a c=0){r:Rw}(hr:r∈rs):nm n c r=sQ (List.range n) fun j=>coef r.1 j * val R P j c:=by
 obtain⟨k,hk,rfl⟩:=qbX.mp hr;have hm:vc (wr n rs.length rs[k] k)∈vcs n rs:=kD.mpr ⟨k,hk,rfl⟩;have z:Lf R P (vc (wr n rs.length rs[k] k)) c=0:=by
  rcases (i.all _).mp hm with h|h
  ·exact t6 _ R h _
  ·exact hL _ h
 rw[Lf_held i.st i.nd] at z;have z':=congrArg (fun x:Int=>(x:Rat)) z;simp only[Rat.intCast_sub,Rat.intCast_mul,sw] at z';rw[mR hc,aX (g:=fun p=>(coef rs[k].1 p * ((Hd R P p c:Int):Rat)) * (((oft n rs[k]:Nat):Int):Rat)) P (fun p hp=>by rw[mR (qbp (i.lt p hp)),oR (i.lt p hp)];grind),fk] at z';have ho:(((oft n rs[k]:Nat):Int):Rat)≠0:=castN oft_pos;have hd:((Dt R P:Int):Rat)≠0:=fun e=>i.st.ne (by exact_mod_cast e);have e0:((0:Int):Rat)=0:=rfl;rw[e0] at z';have key:(((Dt R P:Int):Rat) * nm n c rs[k] - sQ P fun p=>coef rs[k].1 p * ((Hd R P p c:Int):Rat)) * (((oft n rs[k]:Nat):Int):Rat)=0:=by rw[<-z'];grind
 have key:=(Rat.mul_eq_zero.mp key).resolve_right ho;have e1:(sQ (List.range n) fun j=>coef rs[k].1 j * val R P j c)=sQ P fun j=>coef rs[k].1 j * val R P j c:=by
  rw[oK (c:=fun j=>decide (j∈P)) (List.range n) fun j _ hj=>by
   have hj:j∉P:=by simpa using hj
   unfold val;rw[qaz hj];grind]
  refine kO ((qbI (qaU.filter _) i.nd).mpr fun j=>?_);rw[qaQ,qau];constructor
  ·rintro⟨_,h⟩;simpa using h
  ·intro h;exact⟨i.lt j h,by simpa using h⟩
 rw[e1,aX (g:=fun p=>(coef rs[k].1 p * ((Hd R P p c:Int):Rat)) * ((Dt R P:Int):Rat)⁻¹) P fun p hp=>by
  unfold val
  rw[qan hp,i.pp hp (n:=n),Rat.divInt_eq_div,Rat.div_def];grind,fk]
 have:=Rat.mul_inv_cancel _ hd
 grind
def kN{n j:Nat}{R:List Vc}{P:List Nat}(h:j<n):(be n R P).getD j 0=val R P j n:=by
 rw[qaa];simp[be,h]
def lL{n f j:Nat}{R:List Vc}{P:List Nat}(hj:j<n)(hf:f<n):(aT n R P f).getD j 0=if j=f then 1 else -(val R P j f):=by
 unfold aT;by_cases e:j=f
 ·subst e;rw[qan rfl,qaa,qaD (by simp;exact hf)];rfl
 ·rw[qaz e,qaa,qai (fun z=>e z.symm)];simp[hj]
def wD{M n f:Nat}{rs:List Rw}{R:List Vc}{P:List Nat}{L:List Vc}(i:RI M (vcs n rs) n R P L)(ok:∀r∈rs,RowOk n r)(hf:f<n)(no:f∉P){r:Rw}(hr:r∈rs):dot (prs r.1 (aT n R P f))=0:=by
 have e:=fit_c i (qbp hf) (fun a ha=>i.off f hf no a ha) hr;rw[oR hf] at e;show cY 0 (prs r.1 (aT n R P f))=0;rw[qQ (n:=n) r.1 0 (ok r hr).nd (ok r hr).lt];have t:=lV (a:=1) (b:=-1) (x:=fun j=>coef r.1 j * e1 f j) (y:=fun j=>coef r.1 j * val R P j f) (h:=fun _=>1) (List.range n);rw[dM (f:=fun j=>(coef r.1 j * e1 f j) * 1) (p:=f) qaU (qau.mpr hf) fun q _ ne=>by show (coef r.1 q * (if q=f then 1 else 0)) * 1=(0:Rat);rw[qaz ne];grind] at t;have t2:(sQ (List.range n) fun j=>(coef r.1 j * val R P j f) * 1)=coef r.1 f:=by rw[e];exact aX _ fun j _=>by grind
 rw[t2] at t
 rw[aX (g:=fun j=>(1 * (coef r.1 j * e1 f j) + -1 * (coef r.1 j * val R P j f)) * 1) (List.range n) fun j hj=>by
  rw[lL (qau.mp hj) hf];by_cases z:j=f
  ·subst z;have v:val R P j j=0:=qaz no;rw[qan rfl,v];show _=(1 * (coef r.1 j * (if j=j then 1 else 0)) + -1 * (coef r.1 j * 0)) * 1;rw[qan rfl];grind
  ·rw[qaz z];show _=(1 * (coef r.1 j * (if j=f then 1 else 0)) + -1 * (coef r.1 j * val R P j f)) * 1;rw[qaz z];grind,t]
 show 0+(1 * ((coef r.1 f * (if f=f then 1 else 0)) * 1) + -1 * coef r.1 f)=0;rw[qan rfl];grind
def mr{f g:Nat->Rat}:∀P:List Nat,(sQ P fun p=>f p+g p)=sQ P f+sQ P g
 | []=>by show (0:Rat)=0+0;grind
 | p::P=>by rw[aW,aW,aW,mr P];grind
def sH{f:Nat->Nat->Rat}(Q:List Nat):∀P:List Nat,(sQ P fun p=>sQ Q fun q=>f p q)=sQ Q fun q=>sQ P fun p=>f p q
 | []=>(eP Q fun _ _=>rfl).symm
 | p::P=>by
  rw[aW,sH Q P,<-mr];exact aX Q fun q _=>by rw[aW]
def kern:∀(m:Nat) (A:Nat->Nat->Rat) (J:List Nat),J.Nodup->m<J.length->∃x:Nat->Rat,(∃j∈J,x j≠0)/\∀i,i<m->sQ J (fun j=>A i j * x j)=0
 | 0,A,[],_,h=>absurd h (by simp)
 | 0,A,j::J,_,_=>⟨fun _=>1,⟨j,by simp,by show (1:Rat)≠0;decide⟩,fun i hi=>absurd hi (by ext)⟩
 | m+1,A,J,nd,hl=>by
  by_cases h:∀j∈J,A m j=0
  ·obtain⟨x,h1,h2⟩:=kern m A J nd (by ext);refine⟨x,h1,fun i hi=>?_⟩;by_cases e:i=m
   ·subst e;exact eP J fun j hj=>by rw[h j hj];grind
   ·exact h2 i (by ext)
  ·obtain⟨j0,h⟩:=Classical.not_forall.mp h;obtain⟨hj,ha⟩:=Classical.not_imp.mp h;have pm:=List.perm_cons_erase hj;have nd':=pm.nodup_iff.mp nd;obtain⟨n1,n2⟩:=qaN.mp nd';obtain⟨x,⟨j1,hj1,hx⟩,h2⟩:=kern m (fun i j=>A i j - A i j0 * (A m j * (A m j0)⁻¹)) (J.erase j0) n2 (by have:=pm.length_eq;rw[qaA] at this;ext);have ne:∀j∈J.erase j0,j≠j0:=fun j hj e=>n1 (e▸hj);have inv:=Rat.mul_inv_cancel _ ha;obtain⟨c,hc⟩:∃c,c = -(sQ (J.erase j0) fun j=>A m j * x j) * (A m j0)⁻¹:=⟨_,rfl⟩;refine⟨fun j=>if j=j0 then c else x j,⟨j1,pm.mem_iff.mpr (qaf _ hj1),by show (if j1=j0 then c else x j1)≠0;rw[qaz (ne j1 hj1)];exact hx⟩,fun i hi=>?_⟩;have k1:(sQ (J.erase j0) fun j=>A i j * (if j=j0 then c else x j))=sQ (J.erase j0) fun j=>A i j * x j:=aX _ fun j hj=>by rw[qaz (ne j hj)]
   rw[kO pm,aW,k1];show A i j0 * (if j0=j0 then c else x j0)+_=0;rw[qan rfl,hc];by_cases e:i=m
   ·subst e;generalize (sQ (J.erase j0) fun j=>A i j * x j)=S
    grind
   ·have q:=h2 i (by ext);rw[aX (g:=fun j=>A i j * x j+(A m j * x j) * (-(A i j0 * (A m j0)⁻¹))) (J.erase j0) fun j _=>by grind,mr,fk] at q;generalize (sQ (J.erase j0) fun j=>A i j * x j)=S at q ⊢;generalize (sQ (J.erase j0) fun j=>A m j * x j)=T at q ⊢
    grind
abbrev cW(n:Nat)(rs:List Rw)(X:Nat->Rat):Prop:=∀r∈rs,r.2=sQ (List.range n) fun j=>coef r.1 j * X j
def bS(R:List Vc)(P:List Nat)(f j:Nat):Rat:=if j=f then 1 else -(val R P j f)
def yj{n:Nat}{P:List Nat}{f:Nat->Rat}(nd:P.Nodup)(lt:∀p∈P,p<n):sQ (List.range n) f=sQ P f+sQ (frees n P) f:=by
 have pm:(List.range n).Perm (P++frees n P):=(qbI qaU (by
  rw[qbR];refine⟨nd,qaU.filter _,fun a ha b hb e=>?_⟩;subst e
  have:=(qaQ.mp hb).2
  simp[ha] at this)).mpr fun x=>by
   rw[qbf,qaQ,qau];constructor
   ·intro h;by_cases z:x∈P
    ·exact .inl z
    ·exact .inr ⟨h,by simpa using z⟩
   ·rintro (h|h)
    ·exact lt x h
    ·exact h.1
 rw[kO pm]
 have:∀(a b:List Nat),sQ (a++b) f=sQ a f+sQ b f:=fun a b=>by
  induction a with
  | nil=>show sQ b f=0+sQ b f;grind
  | cons p a ih=>rw[qcq,aW,aW,ih];grind
 exact this _ _
def RI.meet{M n j:Nat}{rs:List Rw}{R:List Vc}{P:List Nat}{L:List Vc}{X:Nat->Rat}(i:RI M (vcs n rs) n R P L)(h:cW n rs X)(hj:j<n):X j=val R P j n+sQ (frees n P) fun f=>X f * bS R P f j:=by
 by_cases hp:j∈P
 ·have hv:=i.vsol h;have s:=(Hd_sp R P j).sol fun r hr=>hv r ((i.all r).mpr (.inl hr));unfold Sol at s
  rw[yj i.nd i.lt,dM (p:=j) i.nd hp fun q hq ne=>by
   rw[kh i.st hq,show dlt j q=0 by simp[dlt,ne],Int.mul_zero];show ((0:Int):Rat) * X q=0
   grind] at s
  have hz:((Hd R P j j:Int):Rat)≠0:=fun e=>by
   have:Hd R P j j=0:=by exact_mod_cast e
   rw[kh i.st hp] at this;have ne:=i.st.ne;exact ne (by simpa [dlt] using this)
  have e:(sQ (frees n P) fun f=>X f * bS R P f j)=sQ (frees n P) (fun f=>((Hd R P j f:Int):Rat) * X f) * (-((Hd R P j j:Int):Rat)⁻¹):=by
   rw[<-fk];refine aX _ fun f hf=>?_;have hfp:f∉P:=by have:=(qaQ.mp hf).2;simpa using this
   unfold bS val;rw[qaz fun (z:j=f)=>hfp (z▸hp),qan hp,Rat.divInt_eq_div,Rat.div_def];grind
  rw[e];unfold val;rw[qan hp,Rat.divInt_eq_div,Rat.div_def,s]
  have:=Rat.mul_inv_cancel _ hz
  grind
 ·have hf:j∈frees n P:=qaQ.mpr ⟨qau.mpr hj,by simpa using hp⟩;have v:∀c,val R P j c=0:=fun c=>qaz hp;rw[v,dM (p:=j) (qaU.filter _) hf fun q _ ne=>by unfold bS;rw[qaz fun (z:j=q)=>ne z.symm,v];grind];unfold bS;rw[qan rfl];grind
def RI.fits{M n:Nat}{rs:List Rw}{R:List Vc}{P:List Nat}{L:List Vc}(i:RI M (vcs n rs) n R P L)(hi:¬Inc n R P L):cW n rs fun j=>val R P j n:=fun r hr=>by
 have:=fit_c i (qak n) (fun a ha=>Classical.byContradiction fun z=>hi ⟨a,ha,z⟩) hr
 rwa [nm_n] at this
def RI.inc_iff{M n:Nat}{rs:List Rw}{R:List Vc}{P:List Nat}{L:List Vc}(i:RI M (vcs n rs) n R P L):¬Inc n R P L↔∃X,cW n rs X:=⟨fun h=>⟨_,i.fits h⟩,fun ⟨X,h⟩ ⟨a,ha,z⟩=>z (i.flat0 h a ha)⟩
structure Rnm (n:Nat) (π β:Nat->Nat):Prop where
 p:∀j,j<n->π j<n/\β (π j)=j
 b:∀j,j<n->β j<n/\π (β j)=j
def Rnm.symm{n:Nat}{π β:Nat->Nat}(h:Rnm n π β):Rnm n β π:=⟨h.b,h.p⟩
def Rnm.sum{n:Nat}{π β:Nat->Nat}(h:Rnm n π β)(f:Nat->Rat):sQ (List.range n) f=sQ (List.range n) fun j=>f (π j):=by
 have pm:(List.range n).Perm ((List.range n).map π):=(qbI qaU (qaV.mpr ((List.Pairwise.and_mem.mp qaU).imp fun {a b} q e=>q.2.2 (by
   have:=congrArg β e
   rwa [(h.p a (qau.mp q.1)).2,(h.p b (qau.mp q.2.1)).2] at this)))).mpr fun x=>by
  rw[qau,qaB];constructor
  ·exact fun hx=>⟨β x,qau.mpr (h.b x hx).1,(h.b x hx).2⟩
  ·rintro⟨j,hj,rfl⟩;exact (h.p j (qau.mp hj)).1
 rw[kO pm];unfold sQ;rw[qaE];rfl
def Rel(n:Nat)(π:Nat->Nat)(r r':Rw):Prop:=∃b:Rat,b≠0/\(∀j,j<n->coef r'.1 (π j)=b * coef r.1 j)/\r'.2=b * r.2
def Rel.symm{n:Nat}{π β:Nat->Nat}{r r':Rw}(h:Rnm n π β)(q:Rel n π r r'):Rel n β r' r:=by
 obtain⟨b,hb,h1,h2⟩:=q;have inv:=Rat.mul_inv_cancel _ hb;refine⟨b⁻¹,fun e=>by rw[e] at inv;grind,fun j hj=>?_,by rw[h2];grind⟩
 have:=h1 (β j) (h.b j hj).1
 rw[(h.b j hj).2] at this;rw[this];grind
def cW.rel{n:Nat}{π β:Nat->Nat}{rs rs':List Rw}{X:Nat->Rat}(h:Rnm n π β)(hr:∀r'∈rs',∃r∈rs,Rel n π r r')(f:cW n rs X):cW n rs' fun q=>X (β q):=fun r' hr'=>by
 obtain⟨r,h1,b,_,h2,h3⟩:=hr r' hr';rw[h3,f r h1,h.sum (fun q=>coef r'.1 q * X (β q)),Rat.mul_comm,<-fk];refine aX _ fun j hj=>?_;have hj:=qau.mp hj;rw[h2 j hj,(h.p j hj).2];grind
def wQ{M n f:Nat}{rs:List Rw}{R:List Vc}{P:List Nat}{L:List Vc}(i:RI M (vcs n rs) n R P L)(ok:∀r∈rs,RowOk n r)(hf:f∈frees n P){r:Rw}(hr:r∈rs):(sQ (List.range n) fun j=>coef r.1 j * bS R P f j)=0:=by
 obtain⟨h1,h2⟩:=qaQ.mp hf;have hn:=qau.mp h1;have w:cY 0 (prs r.1 (aT n R P f))=0:=wD i ok hn (by simpa using h2) hr;rw[qQ (n:=n) r.1 0 (ok r hr).nd (ok r hr).lt] at w;rw[aX (g:=fun j=>coef r.1 j * (aT n R P f).getD j 0) (List.range n) fun j hj=>by rw[lL (qau.mp hj) hn];rfl]
 grind
def qy{M n:Nat}{rs:List Rw}{R:List Vc}{P:List Nat}{L:List Vc}{X l:Nat->Rat}(i:RI M (vcs n rs) n R P L)(ok:∀r∈rs,RowOk n r)(f:cW n rs X):cW n rs fun j=>X j+sQ (frees n P) fun f=>l f * bS R P f j:=fun r hr=>by
 rw[f r hr];have e:(sQ (List.range n) fun j=>coef r.1 j * (X j+sQ (frees n P) fun f=>l f * bS R P f j))=sQ (List.range n) (fun j=>coef r.1 j * X j)+sQ (List.range n) fun j=>sQ (frees n P) fun f=>(coef r.1 j * bS R P f j) * l f:=by
  rw[<-mr];refine aX _ fun j _=>?_
  have:(sQ (frees n P) fun f=>(coef r.1 j * bS R P f j) * l f)=sQ (frees n P) (fun f=>l f * bS R P f j) * coef r.1 j:=by
   rw[<-fk];exact aX _ fun f _=>by grind
  rw[this];grind
 rw[e,sH,eP (frees n P) fun f hf=>by rw[fk,wQ i ok hf hr];grind]
 grind
def qJ{n f j:Nat}{R:List Vc}{P:List Nat}(hj:j∈frees n P):bS R P f j=if j=f then 1 else 0:=by
 have:=(qaQ.mp hj).2
 unfold bS val;rw[qaz (show ¬j∈P by simpa using this)]
 split <;> rfl
def yh{n j:Nat}{R:List Vc}{P:List Nat}{l:Nat->Rat}(hj:j∈frees n P):(sQ (frees n P) fun f=>l f * bS R P f j)=l j:=by
 rw[dM (p:=j) (qaU.filter _) hj fun q _ ne=>by rw[qJ hj,qaz fun (z:j=q)=>ne z.symm];grind,qJ hj,qan rfl];grind
def vL{M M' n:Nat}{π β:Nat->Nat}{rs rs':List Rw}{R R':List Vc}{P P':List Nat}{L L':List Vc}(h:Rnm n π β)(hr:∀r'∈rs',∃r∈rs,Rel n π r r')(ok:∀r∈rs,RowOk n r)(i:RI M (vcs n rs) n R P L)(i':RI M' (vcs n rs') n R' P' L')(hi:¬Inc n R P L):(frees n P).length<=(frees n P').length:=Classical.byContradiction fun no=>by
 obtain⟨l,⟨j1,hj1,hl⟩,hz⟩:=kern (frees n P').length (fun k f=>bS R P f (β ((frees n P').getD k 0))) (frees n P) (qaU.filter _) (by ext);have f0:=i.fits hi;have f1:=qy (l:=l) i ok f0;have g0:=cW.rel h hr f0;have g1:=cW.rel h hr f1;have same:∀q,q<n->(fun j=>val R P j n+sQ (frees n P) fun f=>l f * bS R P f j) (β q)=val R P (β q) n:=fun q hq=>by
  refine (i'.meet g1 hq).trans (Eq.trans ?_ (i'.meet g0 hq).symm);congr 1;refine aX _ fun f' hf'=>?_;obtain⟨k,hk,rfl⟩:=qbX.mp hf'
  have:=hz k hk
  rw[qaa,qae hk,qaO,aX (g:=fun f=>l f * bS R P f (β (frees n P')[k])) (frees n P) fun f _=>by grind] at this;show (val R P (β (frees n P')[k]) n+sQ (frees n P) fun f=>l f * bS R P f (β (frees n P')[k])) * _=_;rw[this];grind
 have hn:=qau.mp (qaQ.mp hj1).1
 have:=same (π j1) (h.p j1 hn).1
 dsimp only at this;rw[(h.p j1 hn).2,yh hj1] at this;exact hl (by grind)
structure Ro (n:Nat) (r:Rw):Prop where
 ok:RowOk n r
 ps:∀p∈r.1,sz p.2<=40
 rt:sz r.2<=267
 len:r.1.length<=n
structure Rl (n:Nat) (rs:List Rw):Prop where
 n6:n<=6
 l8:rs.length<=8
 ro:∀r∈rs,Ro n r
def sJ{r:Rw}{j B:Nat}(hB:1<=B)(h:∀p∈r.1,sz p.2<=B):sz (coef r.1 j)<=B:=by
 obtain⟨ps,t⟩:=r;dsimp only at h ⊢
 induction ps with
 | nil=>show sz 0<=B;rw[sz0];exact hB
 | cons p ps ih =>
  rw[eQ];split
  ·exact h p (by simp)
  ·exact ih fun q hq=>h q (qaf _ hq)
def vW{B:Nat}:∀{qs:List Rat},(∀q∈qs,sz q<=B)->szs qs<=qs.length * B
 | [],_=>by simp[szs]
 | q::qs,h=>by
  have:=vW (qs:=qs) fun r hr=>h r (qaf _ hr)
  have h1:=h q (by simp);rw[lm,qaA,qcz];ext
def szs_app(a b:List Rat):szs (a++b)=szs a+szs b:=by simp[szs]
def xO{n k c:Nat}{r:Rw}(hk:1<=k)(h:∀p∈r.1,sz p.2<=k)(hr:sz r.2<=c):szs (nums n r)<=n * k+c:=by
 unfold nums;rw[szs_app]
 have:=vW (B:=k) (qs:=(List.range n).map (coef r.1)) fun q hq=>by
  obtain⟨j,_,rfl⟩:=qaB.mp hq;exact sJ hk h
 rw[qaC,qbq] at this;have e:szs [r.2]=sz r.2:=by simp[szs]
 ext
def Rl.row{n:Nat}{rs:List Rw}(h:Rl n rs):∀r∈rs,RowOk n r:=fun r hr=>(h.ro r hr).ok
def Rl.ok{n:Nat}{rs:List Rw}(h:Rl n rs):RsOk n 508 rs:=⟨h.row,fun r hr=>by
 have o:=h.ro r hr
 have:=xO (n:=n) (by decide) o.ps o.rt
 have:n * 40<=6 * 40:=qba _ h.n6
 ext⟩
def Rl.hm{n:Nat}{rs:List Rw}(h:Rl n rs):2+(n+1) * (4+2 * 508)<=7142:=by
 have:(n+1) * (4+2 * 508)<=7 * (4+2 * 508):=qba _ (by have:=h.n6;ext)
 ext
def mix_sz{n m k:Nat}{v:Vc}(hk:0<k)(h:∀j,(v j).natAbs<2 ^ k)(hz:v n≠0):∀q∈fQ n m v,sz q<=k:=fun q hq=>by
 obtain⟨i,_,rfl⟩:=qaB.mp hq;rw[divI hz];refine iP (by ext) hk ?_ (h n)
 have:=h (n+1+i)
 split
 ·rwa [qch]
 ·exact this
def vi{m n p c:Nat}{V R L:List Vc}{P:List Nat}(i:RI (2 ^ (2 * m)) V n R P L)(hn:n<=12):sz (val R P p c)<=2+(n+1) * (4+2 * m):=by
 unfold val;split
 ·rename_i hp
  have hz:Hd R P p p≠0:=by
   rw[kh i.st hp]
   have:=i.st.ne
   simpa [dlt] using this
  have hk:∀q,(Hd R P p q).natAbs<2 ^ (2+(n+1) * (4+2 * m)):=fun q=>i.szH (by ext) (qak _) (qcn (by decide)) (qak _) p q;rw[divI hz];refine iP (by ext) (by ext) ?_ (hk p)
  have:=hk c
  split
  ·rwa [qch]
  ·exact this
 ·rw[sz0];ext
def Rl.szX{n:Nat}{rs:List Rw}(h:Rl n rs){V R L:List Vc}{P:List Nat}(i:RI (2 ^ (2 * 508)) V n R P L):∀q∈be n R P,sz q<=7142:=fun q hq=>by
 obtain⟨p,_,rfl⟩:=qaB.mp hq;have hm:=h.hm
 have:=vi i (p:=p) (c:=n) (by have:=h.n6;ext)
 ext
def Rl.szW{n f:Nat}{rs:List Rw}(h:Rl n rs){V R L:List Vc}{P:List Nat}(i:RI (2 ^ (2 * 508)) V n R P L):∀q∈aT n R P f,sz q<=7142:=fun q hq=>by
 rcases List.mem_or_eq_of_mem_set hq with hq|rfl
 ·obtain⟨p,_,rfl⟩:=qaB.mp hq;have hm:=h.hm
  have:=vi i (p:=p) (c:=f) (by have:=h.n6;ext)
  rw[sz_neg];ext
 ·rw[sz1];decide
def rT{n f:Nat}{R:List Vc}{P:List Nat}:(aT n R P f).length=n:=by simp[aT]
abbrev psI(ps:List Nat):D:=.lst (ps.map fun (p:Nat)=>D.int (p:Int))
def at_ps{ps:List Nat}{k:Nat}(h:k<ps.length):atI (ps.map fun (p:Nat)=>D.int (p:Int)) (k:Int)=some (.int ((ps.getD k 0:Nat):Int)):=by
 refine L2.dB ?_;rw[qap,qae h,qaa,qae h];rfl
abbrev lu(n:Nat)(β:Nat->Nat)(xs:List Rat):List Rat:=(List.range n).map fun q=>xs.getD (β q) 0
def lB{n:Nat}{ps:List Nat}{β:Nat->Nat}{xs:List Rat}{s:Pen}(hn:n<=100)(hx:xs.length=n)(hp:ps.length=n)(h:Rnm n (fun j=>ps.getD j 0) β):bF.p [lD xs,psI ps] s=.ok (lD (lu n β xs)) s:=by
 rw[rM (by rfl)];unfold fg;rw[show dSt 4 [lD xs,psI ps]=[some (lD xs),some (psI ps),none,none] from rfl];obtain⟨env',s',er,f,x3,hl,hf,rfl,rfl⟩:=dZ (g:=(xNm 3:Xg [2]).p) (b:=(i6 2 (af oIx (aa 0) (aa 3)) (af oIx (aa 1) (aa 3)):Xd [2]).p)
  (fun j env s'=>∃(f:List Rat) (x3:Option D),f.length=n/\(∀q,q<n->β q<j->f.getD q 0=xs.getD (β q) 0)/\s'=s/\env=[some (lD xs),some (psI ps),some (lD f),x3]) (d4 0 n) 0 [some (lD xs),some (psI ps),some (lD (List.replicate n 0)),none] s ⟨List.replicate n 0,none,by simp,fun q _ z=>absurd z (by ext),rfl,rfl⟩ fun j env s' d ⟨f,x3,hl,hf,es,ee⟩ hd=>by
   subst es ee;rw[qbb] at hf ⊢;obtain⟨rfl,hj⟩:=lH hd;have pj:=h.p j hj;refine⟨_,_,s',rfl,?_,f.set (ps.getD j 0) (xs.getD j 0),some (.int (j:Int)),by simp[hl],fun q hq z=>?_,rfl,rfl⟩
   ·rw[qC,kA (v:=qD (xs.getD j 0)) (s1:=s') (j:=((ps.getD j 0:Nat):Int)) (s2:=s') (ds:=f.map qD) (n:=ps.getD j 0) (by
     simp![qag,qah,aB,cq,pF (show j<xs.length by ext),Pf]) (by
     simp![qag,qah,aB,cq,at_ps (show j<ps.length by ext),Pf]) rfl (iL (by rw[qaC,hl];exact pj.1)),set_q]
    rfl
   ·by_cases e:q=ps.getD j 0
    ·subst e;rw[pj.2,qaa,qaD (by ext)];rfl
    ·rw[pz fun z=>e z.symm];refine hf q hq ?_
     have:β q≠j:=fun z=>e (by rw[<-z];exact (h.b q hq).2.symm)
     ext
 rw[qbb,gR] at hf;have e:f=lu n β xs:=by
  apply qbm
  ·simp[hl]
  ·intro q h1 h2
   have:=hf q (by ext) (h.b q (by ext)).1
   rw[qaa,qae h1,qaO] at this;rw[this];simp[lu]
 rw[aA,dS];dsimp![aB,eA,cK,al,bV,ah,aN,aE,Pb,aq,qaA,qaH,show (0+1+1:Nat)<=100000 by decide,show (0+1:Nat)<=100000 by decide,if_true,fY,qaC,hx,Pf,rep_q (show n<=1000 by ext),f8];rw[aA,cV,bP];simp![al,bV,aq,fY,qaC,hx,Pf];rw[dX (by ext),qaG,Pf,Pg];refine (congrArg (fun z:PS=>(z.then _).fin) er).trans ?_;rw[PU.au,kg (d:=lD f) rfl,PU.bw,e]
abbrev wyD(n:Nat)(R:List Vc)(P:List Nat)(f:Nat):D:=.tup [.int (f:Int),lD (aT n R P f)]
abbrev gE(n:Nat)(R:List Vc)(P:List Nat):D:=.lst ((frees n P).map (wyD n R P))
def t41{a b c d:D}:atI [a,b,c,d] 1=some b:=rfl
def t42{a b c d:D}:atI [a,b,c,d] 2=some c:=rfl
def lr{n f:Nat}{P:List Nat}(h:f∈frees n P):f<n:=qau.mp (qaQ.mp h).1
def wK{n:Nat}{P:List Nat}:(frees n P).length<=n:=by
 have:=List.length_filter_le (fun j=>!decide (j∈P)) (List.range n)
 simpa [frees] using this
def rX{f:Nat->Rat}{q:Nat}:∀P:List Nat,sQ (P++[q]) f=sQ P f+f q
 | []=>by show f q+0=0+f q;grind
 | p::P=>by rw[qcq,aW,aW,rX P];grind
def met_p{n:Nat}{rs rs0:List Rw}{V R L:List Vc}{P:List Nat}{Y:List Rat}{m:D}{s:Pen}(h:Rl n rs0)(i:RI (2 ^ (2 * 508)) V n R P L)(hY:Y.length=n)(hs:∀q∈Y,sz q<=14285)(hm:∀j,j<n->Y.getD j 0=val R P j n+sQ (frees n P) fun f=>Y.getD f 0 * bS R P f j) :
  eU.p [.tup [.str "many",lD (be n R P),gE n R P,m],lD Y] s=.ok (.bl true) s:=by
 have hn:=h.n6;have hx:=h.szX i;have lx:(be n R P).length=n:=by simp[be]
 rw[xA (by rfl)];unfold iU;rw[show dSt 5 [.tup [.str "many",lD (be n R P),gE n R P,m],lD Y]=[some (.tup [.str "many",lD (be n R P),gE n R P,m]),some (lD Y),none,none,none] from rfl];obtain⟨env',s',er,c,x3,x4,hl,hc,_,rfl,rfl⟩:=dZ (g:=(xGp (xGc (xNm 3) (xGc (xNm 4) xGl)) 2:Xg []).p) (b:=(aL 2 (ba 2 [1,3] (bh iZ (ac (aa 2) (ac (aa 4) xNil))) (ws':=[]) (xGp (xGc (xNm 0) (xGc (xNm 1) xGl)) 2) xTrue (ak bI (ac (aa 0) (ac (ak aO (ac (af oIx (aa 2) (aa 3)) (ac (aa 1) xNil))) xNil)))):Xd []).p)
  (fun k env s'=>∃(c:List Rat) (x3 x4:Option D),c.length=n/\(∀j,j<n->c.getD j 0=val R P j n+sQ ((frees n P).take k) fun f=>Y.getD f 0 * bS R P f j)/\(∀q∈c,sz q<=7142+k * 21428)/\s'=s/\env=[some (.tup [.str "many",lD (be n R P),gE n R P,m]),some (lD Y),some (lD c),x3,x4]) ((frees n P).map (wyD n R P)) 0
  [some (.tup [.str "many",lD (be n R P),gE n R P,m]),some (lD Y),some (lD (be n R P)),none,none] s ⟨be n R P,none,none,lx,fun j hj=>by rw[kN hj];show _=_+(0:Rat);grind,fun q hq=>by have:=hx q hq;ext,rfl,rfl⟩ fun k env s' d ⟨c,x3,x4,hl,hc,hz,es,ee⟩ hd=>by
   subst es ee;rw[qbb] at hc hz ⊢;rw[qap,qas] at hd;obtain⟨f,hf,rfl⟩:=hd;obtain⟨hk,ef⟩:=qaj.mp hf;have hfm:f∈frees n P:=qbj hf;have fn:=lr hfm;have kl:=wK (n:=n) (P:=P);have hw:=h.szW i (f:=f);have hyf:sz (Y.getD f 0)<=14285:=eN hs (by decide) f;have q:=f9 (ws:=[]) (ws':=[]) (env:=[some (.tup [.str "many",lD (be n R P),gE n R P,m]),some (lD Y),some (lD c),some (.int (f:Int)),some (lD (aT n R P f))]) (s:=s') (s0:=s') (fm:=[1,3]) (i:=bh iZ (ac (aa 2) (ac (aa 4) xNil))) (t:=xTrue) (e:=ak bI (ac (aa 0) (ac (ak aO (ac (af oIx (aa 2) (aa 3)) (ac (aa 1) xNil))) xNil))) (l:=c.zip (aT n R P f)) (fun p=>qD p.1) (fun p=>qD p.2) (fun p=>qD (p.1+Y.getD f 0 * p.2)) (fun _=>true)
    (by simp![bP,al,aq,kr,Pf,eT]) (by have:=iO (ys:=aT n R P f) (show c.length<=100 by ext);ext) fun p hp=>⟨rfl,fun _=>by
     obtain⟨p1,p2⟩:=qaW hp;have a1:=hz p.1 p1;have a2:=hw p.2 p2;have k6:k * 21428<=6 * 21428:=qba _ (by ext);have t:=iV (p:=Y.getD f 0) (q:=p.2) (s:=s') (by ext);have a3:=g8 (Y.getD f 0) p.2;have pl:=qB (p:=p.1) (q:=Y.getD f 0 * p.2) (s:=s') (by ext);show (ak bI _:Xe []).p [some (qD p.1),some (qD p.2),some (lD Y),some (.int (f:Int))] s'=_
     simp![aF,al,aB,aq,cq,pF (show f<Y.length by ext),Pf,t,pl]⟩
   rw[bu] at q;have el:((c.zip (aT n R P f)).map fun p=>p.1+Y.getD f 0 * p.2).length=n:=by simp[hl,aT]
   refine⟨_,[some (.tup [.str "many",lD (be n R P),gE n R P,m]),some (lD Y),some (lD ((c.zip (aT n R P f)).map fun p=>p.1+Y.getD f 0 * p.2)),some (.int (f:Int)),some (lD (aT n R P f))],s',rfl,?_,(c.zip (aT n R P f)).map fun p=>p.1+Y.getD f 0 * p.2,_,_,el,fun j hj=>?_,fun q hq=>?_,rfl,rfl⟩
   ·show (aL 2 _:Xd []).p [some (.tup [.str "many",lD (be n R P),gE n R P,m]),some (lD Y),some (lD c),some (.int (f:Int)),some (lD (aT n R P f))] s'=_;rw[aS,q];simp only[Pg,qag,qah];have em:((c.zip (aT n R P f)).map fun p=>qD (p.1+Y.getD f 0 * p.2))=((c.zip (aT n R P f)).map fun p=>p.1+Y.getD f 0 * p.2).map qD:=by rw[qaE];rfl
    rw[em]
   ·have h1:j<c.length:=by ext
    have h2:j<(aT n R P f).length:=by rw[rT];exact hj
    have ew:=lL (R:=R) (P:=P) hj fn;have ec:=hc j hj;rw[qaa,qae h1,qaO] at ec;rw[qaa,qae h2,qaO] at ew;have et:(frees n P).take (k+1)=(frees n P).take k++[f]:=by rw[qcI,hf];rfl
    rw[qaa,qae (by ext),qaO,qbK,qbV,ec,ew,et,rX];show _+_ * (if j=f then 1 else -(val R P j f))=_;unfold bS
    grind
   ·obtain⟨p,hp,rfl⟩:=qaB.mp hq;obtain⟨p1,p2⟩:=qaW hp;have a1:=hz p.1 p1;have a2:=hw p.2 p2;have a3:=g8 (Y.getD f 0) p.2;have a4:=mD p.1 (Y.getD f 0 * p.2);rw[qcz];ext
 rw[qbb,qaC] at hc;have ec:c=Y:=by
  apply qbm
  ·ext
  ·intro j h1 h2;have a:=hc j (by ext);rw[qcr,<-hm j (by ext),qaa,qae h1,qaO,qaa,qae h2,qaO] at a;exact a
 have e2:=vd (neg:=false) (xs:=Y) (ys:=Y);rw[decide_eq_true rfl] at e2;rw[aA,aS];simp![bV,al,aB,aN,aE,bg,t41,Pf,aq,m9 (show ((be n R P).map qD).length<=100000 by simp;ext),Pg,qag,qah,PU.au];rw[aA,cV];simp![cH,aB,aN,aE,bg,t42,Pf,bY,Pg];refine (congrArg (fun z:PS=>(z.then _).fin) er).trans ?_;rw[ec];simp![PU.au,bH,aB,cE,e2,qar,if_false,Pf,Pg,PU.bw]
abbrev mnE(n:Nat)(R:List Vc)(P:List Nat)(m:D):D:=.tup [.str "many",lD (be n R P),gE n R P,m]
def wc{n q:Nat}{β:Nat->Nat}{X:List Rat}(hq:q<n):(lu n β X).getD q 0=X.getD (β q) 0:=by
 rw[qaa,qap,qbA hq];rfl
def mI{n:Nat}{π β:Nat->Nat}{rs rs' rs0:List Rw}{R' L':List Vc}{P':List Nat}{X:List Rat}{m:D}{s:Pen}(h:Rl n rs0)(i':RI (2 ^ (2 * 508)) (vcs n rs') n R' P' L')(rn:Rnm n π β)(hr:∀r'∈rs',∃r∈rs,Rel n π r r')(hX:X.length=n)(hs:∀q∈X,sz q<=14285)(f:cW n rs fun j=>X.getD j 0) :
  eU.p [mnE n R' P' m,lD (lu n β X)] s=.ok (.bl true) s:=by
 refine met_p (rs:=rs) h i' (by simp[lu]) (fun q hq=>?_) fun q hq=>?_
 ·obtain⟨a,ha,rfl⟩:=qaB.mp hq;exact eN hs (by decide) _
 ·rw[wc hq,i'.meet (cW.rel rn hr f) hq];congr 1;exact aX _ fun f' hf'=>by rw[wc (lr hf')]
abbrev amB:Xd []:=(az (aL 5 (ba 2 [] (bh iZ (ac (af oIx (aa 0) (xC (.int 1))) (ac (aa 4) xNil))) (ws':=[]) (xGp (xGc (xNm 0) (xGc (xNm 1) xGl)) 2) xTrue (ak bI (ac (aa 0) (ac (aa 1) xNil)))))
 (xIf (gp (xB (ak eU (ac (aa 1) (ac (ak bF (ac (aa 5) (ac (aa 2) xNil))) xNil))))) (aZ (xC (.bl false))) xSkip))
def nZ{n:Nat}{ps:List Nat}{β:Nat->Nat}{rs rs':List Rw}{R L R' L':List Vc}{P P':List Nat}{m m':D}{s:Pen}(h:Rl n rs)(i:RI (2 ^ (2 * 508)) (vcs n rs) n R P L)(hi:¬Inc n R P L)(i':RI (2 ^ (2 * 508)) (vcs n rs') n R' P' L')(hp:ps.length=n)(rn:Rnm n (fun j=>ps.getD j 0) β)(hr:∀r'∈rs',∃r∈rs,Rel n (fun j=>ps.getD j 0) r r') :
  bt.p [mnE n R P m,mnE n R' P' m',psI ps] s=.ok (.bl true) s:=by
 have hn:=h.n6;have hx:=h.szX i;have lx:(be n R P).length=n:=by simp[be]
 have fv:cW n rs fun j=>(be n R P).getD j 0:=fun r hr'=>by
  rw[i.fits hi r hr'];exact aX _ fun j hj=>by dsimp only;rw[kN (qau.mp hj)]
 have c0:=lB (xs:=be n R P) (s:=s) (by ext) lx hp rn;have m0:=mI (s:=s) (m:=m') h i' rn hr lx (fun q hq=>by have:=hx q hq;ext) fv;obtain⟨env',s',er,x3,x4,x5,rfl,rfl⟩:=dZ (g:=(xGp (xGc (xNm 3) (xGc (xNm 4) xGl)) 2:Xg []).p) (b:=amB.p) (fun k env s'=>∃x3 x4 x5:Option D,s'=s/\env=[some (mnE n R P m),some (mnE n R' P' m'),some (psI ps),x3,x4,x5]) ((frees n P).map (wyD n R P)) 0 [some (mnE n R P m),some (mnE n R' P' m'),some (psI ps),none,none,none] s ⟨none,none,none,rfl,rfl⟩ fun k env s' d ⟨x3,x4,x5,es,ee⟩ hd=>by
   subst es ee;rw[qap,qas] at hd;obtain⟨f,hf,rfl⟩:=hd;have hfm:f∈frees n P:=qbj hf;have fn:=lr hfm;have hw:=h.szW i (f:=f);have q:=f9 (ws:=[]) (ws':=[]) (env:=[some (mnE n R P m),some (mnE n R' P' m'),some (psI ps),some (.int (f:Int)),some (lD (aT n R P f)),x5]) (s:=s') (s0:=s') (fm:=[]) (i:=bh iZ (ac (af oIx (aa 0) (xC (.int 1))) (ac (aa 4) xNil))) (t:=xTrue) (e:=ak bI (ac (aa 0) (ac (aa 1) xNil))) (l:=(be n R P).zip (aT n R P f)) (fun p=>qD p.1) (fun p=>qD p.2) (fun p=>qD (p.1+p.2)) (fun _=>true)
    (by simp![bP,al,aB,aN,aE,bg,t41,aq,kr,Pf,eT]) (by have:=iO (ys:=aT n R P f) (show (be n R P).length<=100 by ext);ext) fun p hp'=>⟨rfl,fun _=>by
     obtain⟨p1,p2⟩:=qaW hp';have a1:=hx p.1 p1;have a2:=hw p.2 p2;have pl:=qB (p:=p.1) (q:=p.2) (s:=s') (by ext);show (ak bI _:Xe []).p [some (qD p.1),some (qD p.2)] s'=_
     simp![aF,al,aq,pl]⟩
   rw[bu,show (((be n R P).zip (aT n R P f)).map fun p=>qD (p.1+p.2))=(((be n R P).zip (aT n R P f)).map fun p=>p.1+p.2).map qD by rw[qaE];rfl] at q;have lc:(((be n R P).zip (aT n R P f)).map fun p=>p.1+p.2).length=n:=by simp[lx,aT]
   have c1:=lB (xs:=((be n R P).zip (aT n R P f)).map fun p=>p.1+p.2) (s:=s') (by ext) lc hp rn
   have m1:=mI (s:=s') (m:=m') (X:=((be n R P).zip (aT n R P f)).map fun p=>p.1+p.2) h i' rn hr lc (fun q hq=>by
    obtain⟨p,hp',rfl⟩:=qaB.mp hq;obtain⟨p1,p2⟩:=qaW hp';have a1:=hx p.1 p1;have a2:=hw p.2 p2;have a3:=mD p.1 p.2
    ext) (fun r hr'=>by
    have ff:=qy (l:=fun g=>if g=f then 1 else 0) i h.row (i.fits hi) r hr';rw[ff];refine aX _ fun j hj=>?_;have hj:=qau.mp hj;have h1:j<(be n R P).length:=by ext
    have h2:j<(aT n R P f).length:=by rw[rT];exact hj
    have ew:=lL (R:=R) (P:=P) hj fn;have ev:=kN (R:=R) (P:=P) hj;rw[qaa,qae h1,qaO] at ev;rw[qaa,qae h2,qaO] at ew;have es:(sQ (frees n P) fun g=>(if g=f then 1 else 0) * bS R P g j)=bS R P f j:=by
     rw[dM (p:=f) (qaU.filter _) hfm fun q _ ne=>by rw[qaz ne];grind,qan rfl];grind
    dsimp only;rw[es,qaa,qae (by ext),qaO,qbK,qbV,ev,ew]
    rfl)
   refine⟨_,[some (mnE n R P m),some (mnE n R' P' m'),some (psI ps),some (.int (f:Int)),some (lD (aT n R P f)),some (lD (((be n R P).zip (aT n R P f)).map fun p=>p.1+p.2))],s',rfl,?_,_,_,_,rfl,rfl⟩;show (az _ _:Xd []).p [some (mnE n R P m),some (mnE n R' P' m'),some (psI ps),some (.int (f:Int)),some (lD (aT n R P f)),x5] s'=_;rw[aA,aS,q];simp![Pg,qag,qah,PU.au,bE,mS,ca,aF,al,aq,c1,m1,PR.bl,qbi,qar,if_false,bD]
 rw[qi (by rfl)];unfold eE;rw[show dSt 6 [mnE n R P m,mnE n R' P' m',psI ps]=[some (mnE n R P m),some (mnE n R' P' m'),some (psI ps),none,none,none] from rfl,aA,bE];simp![mS,ca,aF,al,aB,aN,aE,bg,t41,Pf,aq,c0,m0,PR.bl,qbi,Pg,qar,if_false,bD,PU.au];rw[aA,cV];simp![cH,aB,aN,aE,bg,t42,Pf,bY,Pg];refine (congrArg (fun z:PS=>(z.then _).fin) er).trans ?_;rw[PU.au,bH,aN,Pg,PU.bw];rfl
structure Ra (n:Nat) (r:Rw):Prop where
 ok:PsOk n r.1
 rt:sz r.2<=247
def Ra.ro{n:Nat}{r:Rw}(h:Ra n r):Ro n r:=⟨⟨h.ok.nd,h.ok.lt⟩,fun p hp=>by have:=h.ok.sz p hp;ext,by have:=h.rt;ext,h.ok.len⟩
abbrev roB:Xd [3]:=(az (aL 6 (ak eS (ac (aa 0) (ac (aa 1) (ac (af oIx (d5 (ac (xC (.int 2)) (ac (xC (.int 3)) xNil))) (ak bi (ac (aa 0) (ac (xC (.int 2)) xNil)))) xNil)))))
 (az (aL 7 (xCb nr (ac (ir (af oEq (aa 4) (xC (.int 3))) (af oEq (ak bi (ac (aa 0) (ac (xC (.int 2)) xNil))) (xC (.int 0)))) xNil)))
 (xMt aAppend 3 (ac (bO (ac (aa 6) (ac (af oIx (d5 (ac (ak eR (ac (aa 6) (ac (aa 2) xNil))) (ac (ak bU (ac (aa 0) xNil)) xNil))) (aa 7)) xNil))) xNil))))
def ix_2{d:Int}(h0:0<=d)(h1:d<2):∃k:Nat,0<k/\k<=100/\atI [D.int 2,.int 3] d=some (.int (k:Int)):=by
 have:d=0\/d=1:=by ext
 rcases this with rfl|rfl
 ·exact⟨2,by decide,by decide,rfl⟩
 ·exact⟨3,by decide,by decide,rfl⟩
def ro_turn{n:Nat}{b:Int}{xs:List Rat}{rs:List Rw}{x5 x6 x7:Option D}{s:Pen}(hn:n<=6)(hx:xs.length=n)(hs:∀q∈xs,sz q<=20)(hl:rs.length<=900):∃(r:Rw) (x6' x7':Option D) (s':Pen),Ra n r /\
  roB.p [some .pen,some (.int (n:Int)),some (lD xs),some (rsD rs),some (.int b),x5,x6,x7] s=.nx [some .pen,some (.int (n:Int)),some (lD xs),some (rsD (rs++[r])),some (.int b),x5,x6',x7'] s':=by
 obtain⟨d,s1,d0,d1,q1⟩:=df (s:=s) (size:=2) (by decide) (by decide);obtain⟨k,k0,k1,ek⟩:=ix_2 d0 d1;obtain⟨ps,s2,q2,hp⟩:=parts_p (s:=s1) (n:=n) (k:=k) (by ext) k0 k1;have ht:tot (prs ps xs)<=6 * 41:=p5 (by unfold prs;rw[qaC];have:=hp.len;ext) fun p hq=>by
  obtain⟨a,ha,rfl⟩:=qaB.mp hq;have h1:=hp.sz a ha;have h2:=eN hs (by decide) a.1;show sz a.2+sz (xs.getD a.1 0)+1<=41;ext
 have hd:=sz_dot (prs ps xs);obtain⟨o,s3,q3⟩:∃(o:Bool) (s3:Pen),(ir (af oEq (aa 4) (xC (.int 3))) (af oEq (ak bi (ac (aa 0) (ac (xC (.int 2)) xNil))) (xC (.int 0))):Xe [3]).p [some .pen,some (.int (n:Int)),some (lD xs),some (rsD rs),some (.int b),x5,some (pD ps),x7] s2=.ok (.bl o) s3:=by
  obtain⟨e,s3,_,_,q⟩:=df (s:=s2) (size:=2) (by decide) (by decide);by_cases z:b=3
  ·refine⟨decide (e=0),s3,?_⟩;simp![kq,aB,aN,aE,cE,c8,qar,if_false,decide_eq_true z,Pf,PR.bl,if_true,aF,al,aq,q]
  ·refine⟨false,s2,?_⟩;simp![kq,aB,aN,aE,cE,c8,qar,if_false,decide_eq_false z,Pf,PR.bl]
 have q4:=comes_p (ps:=ps) (xs:=xs) (s:=s3) (fun p hq=>by rw[hx];exact hp.lt p hq) (by ext);obtain⟨y,s4,q5,hy⟩:=lf (s:=s3);obtain⟨v,hv,ev⟩:∃v:Rat,sz v<=247/\atI [qD (dot (prs ps xs)),qD y] (if o then 1 else 0)=some (qD v):=by
  cases o with
  | true=>exact⟨y,by ext,rfl⟩
  | false=>exact⟨dot (prs ps xs),by ext,rfl⟩
 refine⟨(ps,v),some (pD ps),some (.int (if o then 1 else 0)),s4,⟨hp,hv⟩,?_⟩;show ((az _ _:Xd [3]).p _ _)=_;rw[aA,aS];simp![aF,al,aB,eA,aN,aE,aq,qaA,qaH,show (0+1+1:Nat)<=100000 by decide,if_true,q1,cq,ek,Pf,q2,Pg,qag,qah,PU.au];rw[aA,aS,bV,al,q3];dsimp![Pb,aq,vx,Pf]
 rw[nK (s1:=s4) (as:=[rwD (ps,v)]) (ds:=rs.map rwD) (ds':=(rs++[(ps,v)]).map rwD) (r:=.non) (by
  simp![al,cK,aB,eA,aF,aN,aE,aq,q4,q5,qaA,qaH,show (0+1+1:Nat)<=100000 by decide,if_true,cq,ev,Pf]) rfl (by rw[n5 (by simp;ext)];simp)]
 rfl
def rows_p{n:Nat}{s:Pen}(hn:n<=6):∃(rs:List Rw) (s':Pen),dL.p [.pen,.int (n:Int)] s=.ok (rsD rs) s'/\rs.length<=7/\∀r∈rs,Ra n r:=by
 obtain⟨r2,s1,q1,hl1,hr1⟩:=nS (ws:=[3]) (ws':=[]) (env:=[some .pen,some (.int (n:Int)),none,none,none,none,none,none]) (s:=s) (s0:=s) (fm:=[0]) (i:=bh iR1 (ac (aa 1) xNil))
  (e:=ak bU (ac (aa 1) xNil)) (ds:=d4 0 n) (fun y=>∃q:Rat,y=qD q/\sz q<=20) (by
   simp![bP,al,aq]
   rw[dX (by ext),qaG];rfl) (by rw[gR];ext) (fun x hx s=>by
   obtain⟨q,s5,q5,hq⟩:=lf (s:=s);refine⟨qD q,s5,?_,q,rfl,hq⟩;show (ak bU _:Xe []).p [some x,some .pen] s=_
   simp![aF,al,aq,q5])
 obtain⟨xs,e2,hxs⟩:=vR hr1;have hxl:xs.length=n:=by
  have:=congrArg List.length e2
  rw[qaC,hl1,gR] at this;exact this.symm
 subst e2;obtain⟨b,s2,b0,b1,q2⟩:=df (s:=s1) (size:=4) (by decide) (by decide);obtain⟨c,s3,c0,c1,q3⟩:=df (s:=s2) (size:=7) (by decide) (by decide);obtain⟨c,rfl⟩:=pJ c0;obtain⟨env',s4,er,rs,x5,x6,x7,hl0,h0,rfl⟩:=dZ (g:=(xNm 5:Xg [3]).p) (b:=roB.p) (fun j env s=>∃(rs:List Rw) (x5 x6 x7:Option D),rs.length=j/\(∀r∈rs,Ra n r)/\env=[some .pen,some (.int (n:Int)),some (lD xs),some (rsD rs),some (.int b),x5,x6,x7]) (d4 0 (1+c)) 0
  [some .pen,some (.int (n:Int)),some (lD xs),some (rsD []),some (.int b),none,none,none] s3 ⟨[],none,none,none,rfl,by simp,rfl⟩ fun j env s x ⟨rs,x5,x6,x7,hl,h,he⟩ hx=>by
   subst he;rw[qbb] at hl ⊢;obtain⟨rfl,hj⟩:=lH hx;obtain⟨r,x6',x7',s',h1,q⟩:=ro_turn (b:=b) (rs:=rs) (x5:=some (.int (j:Int))) (x6:=x6) (x7:=x7) (s:=s) hn hxl hxs (by ext);refine⟨_,_,s',rfl,q,rs++[r],_,x6',x7',by simp[hl],fun r' hr=>?_,rfl⟩;rcases qbf.mp hr with hr|hr
   ·exact h r' hr
   ·rw[List.mem_singleton.mp hr];exact h1
 rw[qbb,gR] at hl0;refine⟨rs,s4,?_,by ext,h0⟩;rw[vQ (by rfl)];unfold gU;rw[show dSt 8 [D.pen,.int (n:Int)]=[some .pen,some (.int (n:Int)),none,none,none,none,none,none] from rfl,aA,aS,q1];dsimp![PU.au];rw[aA,dS];dsimp![eA,aq,Pb,qaH,qbl,if_true,f8];rw[aA,aS];simp![aF,al,aN,aE,aq,q2,Pg,qag,qah,PU.au];rw[aA,cV,bP];simp![aF,al,aB,aN,aE,aq,q3,dy,Pf];rw[dX (by ext),show ((1:Int)+(c:Int)).toNat=1+c by ext,Pf,Pg];refine (congrArg (fun z:PS=>(z.then _).fin) er).trans ?_;rw[PU.au,kg (d:=rsD rs) rfl,PU.bw]
def lJ{n:Nat}{ps:List Nat}(h:ps.Perm (List.range n)):ps.length=n/\Rnm n (fun j=>ps.getD j 0) (fun q=>ps.idxOf q):=by
 have hl:ps.length=n:=by rw[h.length_eq,qbq]
 have nd:ps.Nodup:=h.nodup_iff.mpr qaU;refine⟨hl,fun j hj=>?_,fun q hq=>?_⟩
 ·have hj':j<ps.length:=by ext
  have e:ps.getD j 0=ps[j]:=by rw[qaa,qae hj'];rfl
  rw[e];exact⟨qau.mp (h.mem_iff.mp (qaL hj')),nd.idxOf_getElem j hj'⟩
 ·have hm:q∈ps:=h.mem_iff.mpr (qau.mpr hq);have hi:=List.idxOf_lt_length_iff.mpr hm;refine⟨by ext,?_⟩;rw[qaa,qae hi,qaO,List.getElem_idxOf]
def wf{q:Nat}:∀{ps:List Nat},q∈ps->jk (q:Int) (ps.map fun (p:Nat)=>(p:Int))=some (ps.idxOf q)
 | p::ps,h=>by
  rw[qao,jk,List.idxOf_cons];by_cases e:p=q
  ·subst e;simp
  ·have e':¬(p:Int)=(q:Int):=by ext
   have hq:q∈ps:=(qam.mp h).resolve_left fun z=>e z.symm;rw[qaz e',wf hq,show (p == q)=false by simpa using e];rfl
abbrev bkL(n:Nat)(ps:List Nat):List Nat:=(List.range n).map fun q=>ps.idxOf q
def wB{n:Nat}{ps:List Nat}(h:ps.Perm (List.range n)):(bkL n ps).length=n/\Rnm n (fun j=>(bkL n ps).getD j 0) (fun j=>ps.getD j 0):=by
 obtain⟨_,hr⟩:=lJ h;have e:∀j,j<n->(bkL n ps).getD j 0=ps.idxOf j:=fun j hj=>by rw[qaa,qap,qbA hj];rfl
 refine⟨by simp,fun j hj=>?_,fun j hj=>?_⟩
 ·rw[e j hj];exact hr.b j hj
 ·rw[e _ (hr.p j hj).1];exact hr.p j hj
def back_p{n:Nat}{ps:List Nat}{ws:List Nat}{env:aD}{s:Pen}(hn:n<=100)(h:ps.Perm (List.range n))(h3:env[3]?=some (some (.int (n:Int))))(h5:env[5]?=some (some (psI ps)))(hw:cws 1 [5] ws=[])(hz:(xMr jU (aa 1) (ac (aa 0) xNil):Xe []).fz=true) :
  (ba 1 [5] (bh iR1 (ac (aa 3) xNil):Xi ws) (xNm 0) xTrue (xMr jU (aa 1) (ac (aa 0) xNil)) hw hz).p env s=.ok (psI (bkL n ps)) s:=by
 have:=dH (ws:=ws) (ws':=[]) (env:=env) (s:=s) (s0:=s) (fm:=[5]) (i:=bh iR1 (ac (aa 3) xNil)) (t:=xTrue) (e:=xMr jU (aa 1) (ac (aa 0) xNil)) (l:=List.range n) (fun (p:Nat)=>D.int (p:Int)) (fun q=>D.int ((ps.idxOf q:Nat):Int)) (fun _=>true)
  (by simp only[bP,al,xVar_at h3,Pb,aq];rw[dX (by ext),qaG,dA];rfl) (by simp;ext) (fun q hq=>⟨rfl,fun _=>by
   have hq:=qau.mp hq;simp only[qao,qcc,h5,qaO];have e:iw (ps.map fun (p:Nat)=>D.int (p:Int))=some (ps.map fun (p:Nat)=>(p:Int)):=by
    rw[show (ps.map fun (p:Nat)=>D.int (p:Int))=(ps.map fun (p:Nat)=>(p:Int)).map .int by rw[qaE];rfl,we]
   have:jU.p (ps.map fun (p:Nat)=>D.int (p:Int)) [.int (q:Int)]=some (.int ((ps.idxOf q:Nat):Int)):=by
    show (iw _).bind _=_;rw[e,qbT,wf (h.mem_iff.mpr (qau.mpr hq))];rfl
   simp![xMr_p,al,aq,this,Pf]⟩) (hw:=hw) (hz:=hz)
 rw[this,bu];unfold psI bkL;rw[qaE];rfl
def trR(ps:List Nat)(b:Rat)(r:Rw):Rw:=(aU (fun p:Pt=>(p.1:Int)) (r.1.map fun p=>(ps.getD p.1 0,b * p.2)),b * r.2)
def pH{n:Nat}{ps:List Nat}{β:Nat->Nat}{b:Rat}{r:Rw}(h:Rnm n (fun j=>ps.getD j 0) β)(o:Ra n r)(hb:sz b<=20):Ro n (trR ps b r):=by
 have pm:=cm (fun p:Pt=>(p.1:Int)) (r.1.map fun p=>(ps.getD p.1 0,b * p.2));refine⟨⟨?_,fun p hp=>?_⟩,fun p hp=>?_,?_,?_⟩
 ·refine (pm.map (·.1)).nodup_iff.mpr ?_;rw[qaE];have nd:=o.ok.nd;rw[List.Nodup,qaV] at nd;rw[List.Nodup,qaV];refine (List.Pairwise.and_mem.mp nd).imp fun {p q} z e=>z.2.2 ?_
  have:=congrArg β (show ps.getD p.1 0=ps.getD q.1 0 from e)
  rwa [(h.p p.1 (o.ok.lt p z.1)).2,(h.p q.1 (o.ok.lt q z.2.1)).2] at this
 ·obtain⟨q,hq,rfl⟩:=qaB.mp (pm.mem_iff.mp hp);exact (h.p q.1 (o.ok.lt q hq)).1
 ·obtain⟨q,hq,rfl⟩:=qaB.mp (pm.mem_iff.mp hp)
  have:=g8 b q.2
  have:=o.ok.sz q hq
  show sz (b * q.2)<=40;ext
 ·have:=g8 b r.2
  have:=o.rt
  show sz (b * r.2)<=267;ext
 ·show (aU _ _).length<=n;rw[pm.length_eq,qaC];exact o.ok.len
def tN{n j:Nat}{ps:List Nat}{β:Nat->Nat}{b:Rat}{r:Rw}(h:Rnm n (fun j=>ps.getD j 0) β)(o:Ra n r)(hb:sz b<=20)(h0:b≠0)(hj:j<n):coef (trR ps b r).1 (ps.getD j 0)=b * coef r.1 j:=by
 have pm:=cm (fun p:Pt=>(p.1:Int)) (r.1.map fun p=>(ps.getD p.1 0,b * p.2));have nd':=(pH h o hb).ok.nd;by_cases z:∃p∈r.1,p.1=j
 ·obtain⟨p,hp,rfl⟩:=z;rw[tS o.ok.nd hp];exact tS (ps:=(trR ps b r).1) (p:=(ps.getD p.1 0,b * p.2)) nd' (pm.mem_iff.mpr (qaB.mpr ⟨p,hp,rfl⟩))
 ·rw[fZ (ps:=r.1) (j:=j) fun hm=>by
   obtain⟨p,hp,e⟩:=qaB.mp hm;exact z ⟨p,hp,e⟩,fZ (ps:=(trR ps b r).1) fun hm=>by
   obtain⟨p,hp,e⟩:=qaB.mp hm;obtain⟨q,hq,rfl⟩:=qaB.mp (pm.mem_iff.mp hp);refine z ⟨q,hq,?_⟩
   have:=congrArg β (show ps.getD q.1 0=ps.getD j 0 from e)
   rwa [(h.p q.1 (o.ok.lt q hq)).2,(h.p j hj).2] at this]
  grind
def vh{n:Nat}{ps:List Nat}{β:Nat->Nat}{b:Rat}{r:Rw}(h:Rnm n (fun j=>ps.getD j 0) β)(o:Ra n r)(hb:sz b<=20)(h0:b≠0):Rel n (fun j=>ps.getD j 0) r (trR ps b r):=⟨b,h0,fun j hj=>tN h o hb h0 hj,rfl⟩
def sort_pt{l:List Pt}(nd:(l.map (·.1)).Nodup)(h6:l.length<=6):mO.p [.lst (l.map ptD)]=some (.lst ((aU (fun p:Pt=>(p.1:Int)) l).map ptD)):=by
 have ek:(l.map ptD).map rkD=l.map fun p:Pt=>(p.1:Int):=by rw[qaE];rfl
 have nd2:((l.map ptD).map rkD).Nodup:=by
  rw[ek];rw[List.Nodup,qaV] at nd ⊢;exact nd.imp fun h e=>h (by ext)
 simp only[mO,show (D.lst (l.map ptD)).items=some (l.map ptD) from rfl,qbT];rw[qan ⟨fun d hd=>by obtain⟨p,_,rfl⟩:=qaB.mp hd;rfl,nd2,SortT.few_ok nd2 (by simp;ext),by simp;ext⟩,ip];rfl
def bJ(ps od:List Nat)(by':List Rat)(rs:List Rw):List Rw:=od.map fun a=>trR ps (by'.getD a 0) (rs.getD a ([],0))
abbrev otB:Xd [9,14]:=(az (aL 13 (xCb mO (ac (ba 2 [5,8,10] (cA (af oIx (af oIx (aa 4) (aa 10)) (xC (.int 0)))) (ws':=[]) (xGp (xGc (xNm 0) (xGc (xNm 1) xGl)) 2) xTrue (bO (ac (af oIx (aa 2) (aa 0)) (ac (ak aO (ac (af oIx (aa 3) (aa 4)) (ac (aa 1) xNil))) xNil)))) xNil)))
 (xMt aAppend 9 (ac (bO (ac (xCb iT (ac (aa 13) xNil)) (ac (ak aO (ac (af oIx (aa 8) (aa 10)) (ac (af oIx (af oIx (aa 4) (aa 10)) (xC (.int 1))) xNil))) xNil))) xNil)))
def at_rs{rs:List Rw}{k:Nat}(h:k<rs.length):atI (rs.map rwD) (k:Int)=some (rwD (rs.getD k ([],0))):=by
 rw[at_r h,qaa,qae h];rfl
def jT{rs:List Rw}{k:Nat}(h:k<rs.length):rs.getD k ([],0)∈rs:=by
 rw[qaa,qae h];exact qaL h
def ot_turn{n a:Nat}{ps:List Nat}{β:Nat->Nat}{bl:List Rat}{rs ot:List Rw}{x0 x1 x2 x3 x6 x7 x11 x12 x13 x14 x15:Option D}{s:Pen}(hn:n<=6)(hp:ps.length=n)(rn:Rnm n (fun j=>ps.getD j 0) β)(hr:∀r∈rs,Ra n r)(hb:∀q∈bl,sz q<=20)(ha:a<rs.length)(hbl:bl.length=rs.length)(ho:ot.length<=900):∃x13',otB.p [x0,x1,x2,x3,some (rsD rs),some (psI ps),x6,x7,some (lD bl),some (rsD ot),some (.int (a:Int)),x11,x12,x13,x14,x15] s=.nx [x0,x1,x2,x3,some (rsD rs),some (psI ps),x6,x7,some (lD bl),some (rsD (ot++[trR ps (bl.getD a 0) (rs.getD a ([],0))])),some (.int (a:Int)),x11,x12,x13',x14,x15] s:=by
 have o:=hr _ (jT ha);have hs:sz (bl.getD a 0)<=20:=eN hb (by decide) a;generalize hR:rs.getD a ([],0)=r at o;have ar:atI (rs.map rwD) (a:Int)=some (rwD r):=by rw[at_rs ha,hR]
 have ab:=pF (xs:=bl) (i:=a) (by ext);have c:=f9 (ws:=[9,14]) (ws':=[]) (env:=[x0,x1,x2,x3,some (rsD rs),some (psI ps),x6,x7,some (lD bl),some (rsD ot),some (.int (a:Int)),x11,x12,x13,x14,x15]) (s:=s) (s0:=s) (fm:=[5,8,10]) (i:=cA (af oIx (af oIx (aa 4) (aa 10)) (xC (.int 0)))) (t:=xTrue) (e:=bO (ac (af oIx (aa 2) (aa 0)) (ac (ak aO (ac (af oIx (aa 3) (aa 4)) (ac (aa 1) xNil))) xNil))) (l:=r.1) (fun p=>D.int (p.1:Int)) (fun p=>qD p.2) (fun p=>ptD (ps.getD p.1 0,bl.getD a 0 * p.2)) (fun _=>true)
  (by simp![cH,aB,aN,aE,cq,ar,Pf,bg,z0,wg]) (by have:=o.ok.len;ext) fun p hq=>⟨rfl,fun _=>by
   have t:=iV (p:=bl.getD a 0) (q:=p.2) (s:=s) (by have:=o.ok.sz p hq;ext);show (bO _:Xe []).p [some (.int (p.1:Int)),some (qD p.2),some (psI ps),some (lD bl),some (.int (a:Int))] s=_
   simp![cK,al,aB,aF,aq,cq,at_ps (show p.1<ps.length by have:=o.ok.lt p hq;ext),ab,Pf,t,qaA,qaH,show (0+1+1:Nat)<=100000 by decide,if_true]⟩
 rw[bu,show (r.1.map fun p=>ptD (ps.getD p.1 0,bl.getD a 0 * p.2))=(r.1.map fun p=>(ps.getD p.1 0,bl.getD a 0 * p.2)).map ptD by rw[qaE];rfl] at c;have nd:((r.1.map fun p=>((ps.getD p.1 0,bl.getD a 0 * p.2):Pt)).map (·.1)).Nodup:=(((cm (fun p:Pt=>(p.1:Int)) _).map (·.1)).nodup_iff).mp (pH rn o hs).ok.nd;have so:=sort_pt nd (by rw[qaC];have:=o.ok.len;ext);have t2:=iV (p:=bl.getD a 0) (q:=r.2) (s:=s) (by have:=o.rt;ext);refine⟨some (.lst ((trR ps (bl.getD a 0) r).1.map ptD)),?_⟩;show ((az _ _:Xd [9,14]).p _ _)=_;rw[aA,aS,bV,al,c];dsimp![Pb,aq,so,Pf]
 rw[nK (s1:=s) (as:=[rwD (trR ps (bl.getD a 0) r)]) (ds:=ot.map rwD) (ds':=(ot++[trR ps (bl.getD a 0) r]).map rwD) (r:=.non) (by
  simp![al,cK,bV,aB,aF,aN,aE,aq,pr,Pf,cq,ab,ar,bg,z1,t2,qaA,qaH,show (0+1+1:Nat)<=100000 by decide,if_true]
  rfl) rfl (by rw[n5 (by simp;ext)];simp)]
 rfl
def ot_loop{n:Nat}{ps od:List Nat}{β:Nat->Nat}{bl:List Rat}{rs:List Rw}{x0 x1 x2 x3 x6 x7 x11 x12 x14 x15:Option D}{s:Pen}(hn:n<=6)(hp:ps.length=n)(rn:Rnm n (fun j=>ps.getD j 0) β)(hr:∀r∈rs,Ra n r)(hb:∀q∈bl,sz q<=20)(hbl:bl.length=rs.length)(h7:rs.length<=7)(ho:od.Perm (List.range rs.length)) :
  ∃x10 x13,pGo (xNm 10:Xg [9,14]).p otB.p (od.map fun (p:Nat)=>D.int (p:Int)) [x0,x1,x2,x3,some (rsD rs),some (psI ps),x6,x7,some (lD bl),some (rsD []),none,x11,x12,none,x14,x15] s=.nx [x0,x1,x2,x3,some (rsD rs),some (psI ps),x6,x7,some (lD bl),some (rsD (bJ ps od bl rs)),x10,x11,x12,x13,x14,x15] s:=by
 have hol:od.length=rs.length:=by rw[ho.length_eq,qbq]
 obtain⟨env',s',er,x10,x13,rfl,rfl⟩:=dZ (g:=(xNm 10:Xg [9,14]).p) (b:=otB.p) (fun k env s'=>∃x10 x13:Option D,s'=s/\env=[x0,x1,x2,x3,some (rsD rs),some (psI ps),x6,x7,some (lD bl),some (rsD (bJ ps (od.take k) bl rs)),x10,x11,x12,x13,x14,x15]) (od.map fun (p:Nat)=>D.int (p:Int)) 0 [x0,x1,x2,x3,some (rsD rs),some (psI ps),x6,x7,some (lD bl),some (rsD []),none,x11,x12,none,x14,x15] s ⟨none,none,rfl,rfl⟩ fun k env s' d ⟨x10,x13,es,ee⟩ hd=>by
   subst es ee;rw[qbb];rw[qap,qas] at hd;obtain⟨a,ha,rfl⟩:=hd;have hm:a<rs.length:=qau.mp (ho.mem_iff.mp (qbj ha));obtain⟨x13',q⟩:=ot_turn (ot:=bJ ps (od.take k) bl rs) (x0:=x0) (x1:=x1) (x2:=x2) (x3:=x3) (x6:=x6) (x7:=x7) (x11:=x11) (x12:=x12) (x13:=x13) (x14:=x14) (x15:=x15) (s:=s') hn hp rn hr hb hm hbl (by unfold bJ;rw[qaC,qbt];ext);refine⟨_,_,s',rfl,q,some (.int (a:Int)),x13',rfl,?_⟩;have et:od.take (k+1)=od.take k++[a]:=by rw[qcI,ha];rfl
   rw[et];unfold bJ;rw[List.map_append];rfl
 rw[qbb,qaC,qcr] at er;exact⟨x10,x13,er⟩
abbrev fy(m:Nat)(od:List Nat)(bl ms:List Rat):List Rat:=(List.range m).map fun a=>ms.getD (od.idxOf a) 0 * bl.getD a 0
abbrev mkB:Xd [9,14]:=(i6 14 (ak aO (ac (aa 15) (ac (af oIx (aa 8) (aa 10)) xNil))) (aa 10))
def mk_loop{m:Nat}{od:List Nat}{bl ms:List Rat}{x0 x1 x2 x3 x4 x5 x6 x7 x9 x10 x11 x12 x13 x15:Option D}{s:Pen}(h7:m<=7)(hb:∀q∈bl,sz q<=20)(hbl:bl.length=m)(hm:ms.length=m)(hs:∀q∈ms,sz q<=7142)(ho:od.Perm (List.range m)) :
  ∃x10' x15',pGo (xGp (xGc (xNm 15) (xGc (xNm 10) xGl)) 2:Xg [9,14]).p mkB.p ((ms.zip od).map fun p=>.tup [qD p.1,.int (p.2:Int)]) [x0,x1,x2,x3,x4,x5,x6,x7,some (lD bl),x9,x10,x11,x12,x13,some (lD (List.replicate m 0)),x15] s=.nx [x0,x1,x2,x3,x4,x5,x6,x7,some (lD bl),x9,x10',x11,x12,x13,some (lD (fy m od bl ms)),x15'] s:=by
 obtain⟨hol,rn⟩:=lJ ho;obtain⟨env',s',er,f,x10',x15',hl,hf,rfl,rfl⟩:=dZ (g:=(xGp (xGc (xNm 15) (xGc (xNm 10) xGl)) 2:Xg [9,14]).p) (b:=mkB.p)
  (fun k env s'=>∃(f:List Rat) (x10' x15':Option D),f.length=m/\(∀a,a<m->od.idxOf a<k->f.getD a 0=ms.getD (od.idxOf a) 0 * bl.getD a 0)/\s'=s/\env=[x0,x1,x2,x3,x4,x5,x6,x7,some (lD bl),x9,x10',x11,x12,x13,some (lD f),x15']) ((ms.zip od).map fun p=>.tup [qD p.1,.int (p.2:Int)]) 0 [x0,x1,x2,x3,x4,x5,x6,x7,some (lD bl),x9,x10,x11,x12,x13,some (lD (List.replicate m 0)),x15] s ⟨List.replicate m 0,x10,x15,by simp,fun a _ z=>absurd z (by ext),rfl,rfl⟩ fun k env s' d ⟨f,y10,y15,hl,hf,es,ee⟩ hd=>by
   subst es ee;rw[qbb] at hf ⊢;rw[qap,qas] at hd;obtain⟨p,hp,rfl⟩:=hd;obtain⟨hk,ep⟩:=qaj.mp hp;rw[qbV] at ep;have hk1:k<ms.length:=by rw[qbr] at hk;ext
   have hk2:k<od.length:=by rw[qbr] at hk;ext
   have e1:p.1=ms.getD k 0:=by rw[<-ep,qaa,qae hk1];rfl
   have e2:p.2=od.getD k 0:=by rw[<-ep,qaa,qae hk2];rfl
   have pj:=rn.p k (by ext);rw[<-e2] at pj;have hb2:sz (bl.getD p.2 0)<=20:=eN hb (by decide) _;have hs1:sz p.1<=7142:=by rw[e1];exact eN hs (by decide) _
   have t:=iV (p:=p.1) (q:=bl.getD p.2 0) (s:=s') (by ext);refine⟨[x0,x1,x2,x3,x4,x5,x6,x7,some (lD bl),x9,some (.int (p.2:Int)),x11,x12,x13,some (lD f),some (qD p.1)],_,s',rfl,?_,f.set p.2 (p.1 * bl.getD p.2 0),some (.int (p.2:Int)),some (qD p.1),by simp[hl],fun a ha z=>?_,rfl,rfl⟩
   ·rw[qC,kA (v:=qD (p.1 * bl.getD p.2 0)) (s1:=s') (j:=(p.2:Int)) (s2:=s') (ds:=f.map qD) (n:=p.2) (by
     simp![aF,al,aB,cq,pF (show p.2<bl.length by ext),Pf,aq,t]) (by
     simp only[ah,ai]) rfl (iL (by rw[qaC,hl];exact pj.1)),set_q]
    rfl
   ·by_cases e:a=p.2
    ·subst e;rw[pj.2,<-e1,qaa,qaD (by ext)];rfl
    ·rw[pz fun z=>e z.symm];refine hf a ha ?_
     have:od.idxOf a≠k:=fun z=>e (by rw[e2,<-z];exact (rn.b a ha).2.symm)
     ext
 have ez:(ms.zip od).length=m:=by rw[qbr];ext
 rw[qbb,qaC,ez] at hf;have e:f=fy m od bl ms:=by
  apply qbm
  ·simp[hl]
  ·intro a h1 h2
   have:=hf a (by ext) (rn.b a (by ext)).1
   rw[qaa,qae h1,qaO] at this;rw[this];simp[fy]
 rw[e] at er;exact⟨x10',x15',er⟩
def lK{α:Type}(g h:α->Rat):∀(l:List α) (a:Rat),cY a (l.map fun x=>(g x,h x))=a+(l.map fun x=>g x * h x).foldr (·+·) 0
 | [],a=>by show a=a+0;grind
 | x::l,a=>by
  show cY (a+g x * h x) (l.map fun x=>(g x,h x))=a+(g x * h x+(l.map fun x=>g x * h x).foldr (·+·) 0);rw[lK g h l];grind
def pZ{rs:List Rw}{ms:List Rat}(h:ms.length=rs.length):rs.zip ms=(List.range rs.length).map fun k=>(rs.getD k ([],0),ms.getD k 0):=by
 apply qbm
 ·simp[h]
 ·intro i h1 h2;have hi:i<rs.length:=by simpa using h2
  rw[qbV,qbK,qce];simp[qaa,hi,show i<ms.length by ext]
def wu{rs:List Rw}{ms:List Rat}{j:Nat}(h:ms.length=rs.length):dot (mx rs ms j)=sQ (List.range rs.length) fun k=>coef (rs.getD k ([],0)).1 j * ms.getD k 0:=by
 unfold mx;rw[pZ h,qaE]
 have:=lK (fun k=>coef (rs.getD k ([],0)).1 j) (fun k=>ms.getD k 0) (List.range rs.length) 0
 refine Eq.trans this ?_;show 0+sQ _ _=_
 grind
def ve{rs:List Rw}{ms:List Rat}(h:ms.length=rs.length):dot (rg rs ms)=sQ (List.range rs.length) fun k=>(rs.getD k ([],0)).2 * ms.getD k 0:=by
 unfold rg;rw[pZ h,qaE]
 have:=lK (fun k=>(rs.getD k ([],0)).2) (fun k=>ms.getD k 0) (List.range rs.length) 0
 refine Eq.trans this ?_;show 0+sQ _ _=_
 grind
def mT{ps od:List Nat}{bl:List Rat}{rs:List Rw}:(bJ ps od bl rs).length=od.length:=by simp[bJ]
def vm{ps od:List Nat}{bl:List Rat}{rs:List Rw}{k:Nat}(h:k<od.length):(bJ ps od bl rs).getD k ([],0)=trR ps (bl.getD (od.getD k 0) 0) (rs.getD (od.getD k 0) ([],0)):=by
 unfold bJ;rw[qaa,qap,qae h];simp[qaa,h]
def xu{n:Nat}{ps od:List Nat}{β:Nat->Nat}{bl ms:List Rat}{rs:List Rw}(rn:Rnm n (fun j=>ps.getD j 0) β)(hr:∀r∈rs,Ra n r)(hb:∀q∈bl,sz q<=20/\q≠0)(hbl:bl.length=rs.length)(hm:ms.length=rs.length)(ho:od.Perm (List.range rs.length))
  (h1:dot (rg (bJ ps od bl rs) ms)=1) (h0:∀q,q<n->dot (mx (bJ ps od bl rs) ms q)=0):dot (rg rs (fy rs.length od bl ms))=1/\∀j,j<n->dot (mx rs (fy rs.length od bl ms) j)=0:=by
 obtain⟨hol,ro⟩:=lJ ho;have lo:(bJ ps od bl rs).length=rs.length:=by rw[mT,hol]
 have mx_at:∀a,a<rs.length->(fy rs.length od bl ms).getD a 0=ms.getD (od.idxOf a) 0 * bl.getD a 0:=fun a ha=>by rw[qaa,qap,qbA ha];rfl
 constructor
 ·rw[ve (by rw[lo];exact hm),lo] at h1;rw[ve (by simp),ro.sum];refine Eq.trans (aX _ fun k hk=>?_) h1;have hk:=qau.mp hk;have pk:=ro.p k hk;rw[mx_at _ pk.1,pk.2,vm (by ext)];show _=(bl.getD (od.getD k 0) 0 * (rs.getD (od.getD k 0) ([],0)).2) * _
  grind
 ·intro j hj;have e0:=h0 (ps.getD j 0) (rn.p j hj).1;rw[wu (by rw[lo];exact hm),lo] at e0;rw[wu (by simp),ro.sum];refine Eq.trans (aX _ fun k hk=>?_) e0;have hk:=qau.mp hk;have pk:=ro.p k hk;have hb2:bl.getD (od.getD k 0) 0∈bl:=by
   rw[qaa,qae (by rw[hbl];exact pk.1)];exact qaL _
  have cc:coef (trR ps (bl.getD (od.getD k 0) 0) (rs.getD (od.getD k 0) ([],0))).1 (ps.getD j 0)=bl.getD (od.getD k 0) 0 * coef (rs.getD (od.getD k 0) ([],0)).1 j:=tN rn (hr _ (jT pk.1)) (hb _ hb2).1 (hb _ hb2).2 hj;rw[mx_at _ pk.1,pk.2,vm (by ext),cc]
  grind
def qX{k:Nat}{x:Str}(hx:(PyData.str x).canLay0=true):d6 k (.str x):=⟨_,rfl,by simp[dep],hx,by simp[PyData.depth]⟩
def kc{k:Nat}:d6 k (.str "none"):=qX (by decide +kernel)
def nF{k:Nat}:d6 k (.str "one"):=qX (by decide +kernel)
def kn{k:Nat}:d6 k (.str "many"):=qX (by decide +kernel)
def s_om:eqD false (.str "one") (.str "many")=some (.bl false):=(eL nF kn rfl rfl).trans (congrArg (fun b=>some (D.bl b)) (by decide +kernel))
def s_on:eqD false (.str "one") (.str "none")=some (.bl false):=(eL nF kc rfl rfl).trans (congrArg (fun b=>some (D.bl b)) (by decide +kernel))
def s_mn:eqD false (.str "many") (.str "none")=some (.bl false):=(eL kn kc rfl rfl).trans (congrArg (fun b=>some (D.bl b)) (by decide +kernel))
def s_mo:eqD false (.str "many") (.str "one")=some (.bl false):=(eL kn nF rfl rfl).trans (congrArg (fun b=>some (D.bl b)) (by decide +kernel))
def s_no:eqD false (.str "none") (.str "one")=some (.bl false):=(eL kc nF rfl rfl).trans (congrArg (fun b=>some (D.bl b)) (by decide +kernel))
def s_nm:eqD false (.str "none") (.str "many")=some (.bl false):=(eL kc kn rfl rfl).trans (congrArg (fun b=>some (D.bl b)) (by decide +kernel))
def t30{a b c:D}:atI [a,b,c] 0=some a:=rfl
def t31{a b c:D}:atI [a,b,c] 1=some b:=rfl
def t40{a b c d:D}:atI [a,b,c,d] 0=some a:=rfl
def is_tt{neg:Bool}:(oIs neg).p (.bl true) (.bl true)=some (.bl (!neg)):=by cases neg <;> rfl
structure Tn (n:Nat) (ps od:List Nat) (bl:List Rat) (rs:List Rw):Prop where
 n6:n<=6
 l7:rs.length<=7
 ra:∀r∈rs,Ra n r
 pm:ps.Perm (List.range n)
 ro:od.Perm (List.range rs.length)
 lb:bl.length=rs.length
 bz:∀q∈bl,sz q<=20/\q≠0
section
variable {n:Nat} {ps od:List Nat} {bl:List Rat} {rs:List Rw} (t:Tn n ps od bl rs)
include t
def Tn.rn:Rnm n (fun j=>ps.getD j 0) (fun j=>(bkL n ps).getD j 0):=(wB t.pm).2.symm
def Tn.bm{a:Nat}(h:a<rs.length):bl.getD a 0∈bl:=by
 rw[qaa,qae (by rw[t.lb];exact h)];exact qaL _
def Tn.am{a:Nat}(h:a∈od):a<rs.length:=qau.mp (t.ro.mem_iff.mp h)
def Tn.one:Rl n rs:=⟨t.n6,by have:=t.l7;ext,fun r hr=>(t.ra r hr).ro⟩
def Tn.other:Rl n (bJ ps od bl rs):=⟨t.n6,by rw[mT,t.ro.length_eq,qbq];have:=t.l7;ext,fun r hr=>by
 obtain⟨a,ha,rfl⟩:=qaB.mp hr
 exact pH t.rn (t.ra _ (jT (t.am ha))) (t.bz _ (t.bm (t.am ha))).1⟩
def Tn.to:∀r'∈bJ ps od bl rs,∃r∈rs,Rel n (fun j=>ps.getD j 0) r r':=fun r' hr=>by
 obtain⟨a,ha,rfl⟩:=qaB.mp hr;exact⟨_,jT (t.am ha),vh t.rn (t.ra _ (jT (t.am ha))) (t.bz _ (t.bm (t.am ha))).1 (t.bz _ (t.bm (t.am ha))).2⟩
def Tn.back:∀r∈rs,∃r'∈bJ ps od bl rs,Rel n (fun j=>(bkL n ps).getD j 0) r' r:=fun r hr=>by
 obtain⟨a,ha,rfl⟩:=qbX.mp hr;have e:rs.getD a ([],0)=rs[a]:=by rw[qaa,qae ha];rfl
 have hm:a∈od:=t.ro.mem_iff.mpr (qau.mpr ha);refine⟨_,qaB.mpr ⟨a,hm,rfl⟩,?_⟩;rw[e];exact (vh t.rn (t.ra _ hr) (t.bz _ (t.bm ha)).1 (t.bz _ (t.bm ha)).2).symm t.rn
end
def Rl.ok_p{n:Nat}{rs:List Rw}{s:Pen}(h:Rl n rs){X:Nat->Rat}(f:cW n rs X):∃R P L,RI (2 ^ (2 * 508)) (vcs n rs) n R P L/\¬Inc n R P L/\bv.p [.int (n:Int),rsD rs] s=.ok (ansD n rs.length R P) s:=by
 obtain⟨R,P,L,i,q⟩:=v4 (s:=s) (m:=508) (by have:=h.n6;ext) (by have:=h.l8;ext) h.ok (by have:=h.hm;ext) fun R P L i a ha=>i.flat0 f a ha;exact⟨R,P,L,i,i.inc_iff.mpr ⟨X,f⟩,q⟩
def Rl.none_p{n:Nat}{rs:List Rw}{s:Pen}(h:Rl n rs)(f:¬∃X,cW n rs X):∃ms:List Rat,bv.p [.int (n:Int),rsD rs] s=.ok (.tup [.str "none",lD ms]) s/\ms.length=rs.length/\(∀q∈ms,sz q<=7142)/\dot (rg rs ms)=1/\∀j,j<n->dot (mx rs ms j)=0:=by
 have hm:=h.hm;have inc:∀R P L,RI (2 ^ (2 * 508)) (vcs n rs) n R P L->Inc n R P L:=fun R P L i=>Classical.byContradiction fun z=>f (i.inc_iff.mp z);obtain⟨R',P',L',a,i',ha,hz,q⟩:=rG (s:=s) (m:=508) (by have:=h.n6;ext) (by have:=h.l8;ext) h.ok (by ext) fun R P L i=>inc R P L i;have ht:=mix_tog h.row i' ha hz;refine⟨_,q,by simp[fQ],fun x hx=>?_,?_,fun j hj=>?_⟩
 ·have:=mix_sz (k:=2+(n+1) * (4+2 * 508)) (by ext) (fun j=>i'.szL (by have:=h.n6;ext) (qak _) (qak _) ((i'.all a).mpr (.inr ha)) j) hz x hx
  ext
 ·rw[<-qx h.row,ht,qaa,qaF (by simp)];simp
 ·rw[<-vK h.row hj,ht,qaa,qal (by simpa using hj)];simp[hj]
abbrev e1B:Xd [9,14]:=(xIf (xAnd (xB (af oEq (af oIx (aa 11) (xC (.int 0))) (xC (.str "one")))) (xB (af oNe (ak bF (ac (af oIx (aa 11) (xC (.int 1))) (ac (aa 5) xNil))) (af oIx (aa 12) (xC (.int 1)))))) (aZ (xC (.bl false))) xSkip)
abbrev e2B:Xd [9,14]:=(xIf (xB (af oEq (af oIx (aa 11) (xC (.int 0))) (xC (.str "many")))) (az (xIf (xB (af oNe (xCb dD (ac (af oIx (aa 11) (xC (.int 2))) xNil)) (xCb dD (ac (af oIx (aa 12) (xC (.int 2))) xNil)))) (aZ (xC (.bl false))) xSkip)
 (xIf (xOr (gp (xB (ak bt (ac (aa 11) (ac (aa 12) (ac (aa 5) xNil)))))) (gp (xB (ak bt (ac (aa 12) (ac (aa 11) (ac (aa 6) xNil))))))) (aZ (xC (.bl false))) xSkip)) xSkip)
abbrev e3B:Xd [9,14]:=(xIf (xB (af oEq (af oIx (aa 11) (xC (.int 0))) (xC (.str "none")))) (az (c7 14 (af bx (d5 (ac (bO (ac (xC (.int 0)) (ac (xC (.int 1)) xNil))) xNil)) (xCb dD (ac (aa 4) xNil))))
 (az (dg (bh iZ (ac (af oIx (aa 12) (xC (.int 1))) (ac (aa 7) xNil))) (xGp (xGc (xNm 15) (xGc (xNm 10) xGl)) 2) mkB)
 (xIf (xB (af (oIs true) (oW dn (ac (aa 3) (ac (aa 4) (ac (aa 14) xNil)))) (xC (.bl true)))) (aZ (xC (.bl false))) xSkip))) xSkip)
abbrev e0B:Xd [9,14]:=(xIf (xB (af oNe (af oIx (aa 11) (xC (.int 0))) (af oIx (aa 12) (xC (.int 0))))) (aZ (xC (.bl false))) xSkip)
abbrev t9B:Xd [9,14]:=(az (aL 11 (ak bv (ac (aa 3) (ac (xCb gr (ac (aa 4) xNil)) xNil))))
 (az (aL 12 (ak bv (ac (aa 3) (ac (xCb gr (ac (aa 9) xNil)) xNil))))
 (az e0B (az e1B (az e2B e3B)))))
def t9_p{n:Nat}{ps od:List Nat}{bl:List Rat}{rs:List Rw}{x0 x1 x10 x13 x15:Option D}{s:Pen}(t:Tn n ps od bl rs):∃env',t9B.p [x0,x1,some .pen,some (.int (n:Int)),some (rsD rs),some (psI ps),some (psI (bkL n ps)),some (psI od),some (lD bl),some (rsD (bJ ps od bl rs)),x10,none,none,x13,none,x15] s=.nx env' s:=by
 have hn:=t.n6;have h7:=t.l7;have lo:(bJ ps od bl rs).length=rs.length:=by rw[mT,t.ro.length_eq,qbq]
 have cl1:gr.p [rsD rs]=some (rsD rs):=m9 (by simp;ext);have cl2:gr.p [rsD (bJ ps od bl rs)]=some (rsD (bJ ps od bl rs)):=m9 (by rw[qaC,lo];ext);obtain⟨hpl,_⟩:=wB t.pm;have hp:ps.length=n:=by rw[t.pm.length_eq,qbq]
 have go:∀(a b:D),bv.p [.int (n:Int),rsD rs] s=.ok a s->bv.p [.int (n:Int),rsD (bJ ps od bl rs)] s=.ok b s->(∃env',(az e0B (az e1B (az e2B e3B)):Xd [9,14]).p [x0,x1,some .pen,some (.int (n:Int)),some (rsD rs),some (psI ps),some (psI (bkL n ps)),some (psI od),some (lD bl),some (rsD (bJ ps od bl rs)),x10,some a,some b,x13,none,x15] s=.nx env' s)->∃env',t9B.p [x0,x1,some .pen,some (.int (n:Int)),some (rsD rs),some (psI ps),some (psI (bkL n ps)),some (psI od),some (lD bl),some (rsD (bJ ps od bl rs)),x10,none,none,x13,none,x15] s=.nx env' s:=fun a b q1 q2 ⟨env',q⟩=>by
  refine⟨env',?_⟩;show ((az _ _:Xd [9,14]).p _ _)=_;rw[aA,aS];simp![aF,al,bV,aq,cl1,Pf,q1,Pg,qag,qah,PU.au];rw[aA,aS];simp![aF,al,bV,aq,cl2,Pf,q2,Pg,qag,qah,PU.au];exact q
 by_cases hS:∃X,cW n rs X
 ·obtain⟨X,fX⟩:=hS;obtain⟨R,P,L,i,hi,q1⟩:=t.one.ok_p (s:=s) fX;obtain⟨R',P',L',i',hi',q2⟩:=t.other.ok_p (s:=s) (cW.rel t.rn t.to fX);have le1:=vL t.rn t.to t.one.row i i' hi;have le2:=vL t.rn.symm t.back t.other.row i' i hi';unfold ansD at q1 q2;by_cases z:frees n P=[]
  ·have z':frees n P'=[]:=qbz.mp (by rw[z] at le2;simpa using le2);rw[qan z] at q1;rw[qan z'] at q2;refine go _ _ q1 q2 ⟨[x0,x1,some .pen,some (.int (n:Int)),some (rsD rs),some (psI ps),some (psI (bkL n ps)),some (psI od),some (lD bl),some (rsD (bJ ps od bl rs)),x10,some (.tup [.str "one",lD (be n R P),fL n rs.length R P]),some (.tup [.str "one",lD (be n R' P'),fL n (bJ ps od bl rs).length R' P']),x13,none,x15],?_⟩;have fv:cW n rs fun j=>(be n R P).getD j 0:=fun r hr'=>by
    rw[i.fits hi r hr'];exact aX _ fun j hj=>by dsimp only;rw[kN (qau.mp hj)]
   have ce:lu n (fun j=>(bkL n ps).getD j 0) (be n R P)=be n R' P':=by
    refine qaK fun q hq=>?_
    have:=i'.meet (cW.rel t.rn t.to fv) (qau.mp hq)
    rw[z'] at this;rw[this];show _+(0:Rat)=_
    grind
   have cp:=lB (xs:=be n R P) (s:=s) (by ext) (by simp[be]) hp t.rn;rw[ce] at cp;have e2:=vd (neg:=true) (xs:=be n R' P') (ys:=be n R' P');rw[decide_eq_true rfl] at e2;have n1:=eO (neg:=true) nF;have n2:=eO (neg:=false) nF;show (az e0B (az e1B (az e2B e3B)):Xd [9,14]).p _ _=_;rw[aA,bE];simp![ca,aB,aN,aE,bg,t30,Pf,ie,n1,qbi,PR.bl,Pg,qar,if_false,bD,PU.au];rw[aA,bE];simp![rf,ca,aB,aF,al,aq,aN,aE,du,bg,t30,t31,Pf,cE,n2,qbJ,PR.bl,if_true,cp,ie,e2,qbi,Pg,qar,if_false,bD,PU.au];rw[aA,bE];simp![ca,aB,aN,aE,du,bg,t30,Pf,cE,s_om,PR.bl,Pg,qar,if_false,bD,PU.au];rw[bE];simp![ca,aB,aN,aE,du,bg,t30,Pf,cE,s_on,PR.bl,Pg,qar,if_false,bD]
  ·have z':frees n P'≠[]:=fun e=>z (qbz.mp (by rw[e] at le1;simpa using le1));rw[qaz z] at q1;rw[qaz z'] at q2;refine go _ _ q1 q2 ⟨[x0,x1,some .pen,some (.int (n:Int)),some (rsD rs),some (psI ps),some (psI (bkL n ps)),some (psI od),some (lD bl),some (rsD (bJ ps od bl rs)),x10,some (mnE n R P (fL n rs.length R P)),some (mnE n R' P' (fL n (bJ ps od bl rs).length R' P')),x13,none,x15],?_⟩;have a1:=nZ (s:=s) (m:=fL n rs.length R P) (m':=fL n (bJ ps od bl rs).length R' P') t.one i hi i' hp t.rn t.to;have a2:=nZ (s:=s) (m:=fL n (bJ ps od bl rs).length R' P') (m':=fL n rs.length R P) t.other i' hi' i hpl t.rn.symm t.back;have n1:=eO (neg:=true) kn;have n2:=eO (neg:=false) kn;have le:(frees n P).length=(frees n P').length:=by ext
   show (az e0B (az e1B (az e2B e3B)):Xd [9,14]).p [x0,x1,some .pen,some (.int (n:Int)),some (rsD rs),some (psI ps),some (psI (bkL n ps)),some (psI od),some (lD bl),some (rsD (bJ ps od bl rs)),x10,some (mnE n R P (fL n rs.length R P)),some (mnE n R' P' (fL n (bJ ps od bl rs).length R' P')),x13,none,x15] _=_;rw[aA,bE];simp![ca,aB,aN,aE,bg,t40,Pf,ie,n1,qbi,PR.bl,Pg,qar,if_false,bD,PU.au];rw[aA,bE];simp![rf,ca,aB,aN,aE,du,bg,t40,Pf,cE,s_mo,PR.bl,Pg,qar,if_false,bD,PU.au];rw[aA,bE];simp![ca,aB,aN,aE,du,bg,t40,Pf,cE,n2,qbJ,PR.bl,Pg,if_true];rw[aA,bE];simp![ca,aB,bV,al,aq,aN,aE,bg,t42,Pf,fY,qaC,le,ie,c8,decide_true,if_true,qbi,PR.bl,Pg,qar,if_false,bD,PU.au];rw[bE];simp![xOr_p,mS,ca,aF,al,aq,a1,a2,PR.bl,qbi,qar,if_false,Pg,bD,PU.au];rw[bE];simp![ca,aB,aN,aE,du,bg,t40,Pf,cE,s_mn,PR.bl,Pg,qar,if_false,bD]
 ·have hS':¬∃X,cW n (bJ ps od bl rs) X:=fun ⟨X,f⟩=>hS ⟨_,cW.rel t.rn.symm t.back f⟩;obtain⟨m1,q1,_,_,_,_⟩:=t.one.none_p (s:=s) hS;obtain⟨ms,q2,hm,hs,d1,d0⟩:=t.other.none_p (s:=s) hS';rw[lo] at hm;refine go _ _ q1 q2 ?_;obtain⟨b1,b0⟩:=xu t.rn t.ra t.bz t.lb hm t.ro d1 d0;have mz:∀q∈fy rs.length od bl ms,sz q<=7162:=fun q hq=>by
   obtain⟨a,_,rfl⟩:=qaB.mp hq;have a1:=g8 (ms.getD (od.idxOf a) 0) (bl.getD a 0);have a2:sz (ms.getD (od.idxOf a) 0)<=7142:=eN hs (by decide) _;have a3:sz (bl.getD a 0)<=20:=eN (fun q hq=>(t.bz q hq).1) (by decide) _;ext
  have hz8:(rs.zip (fy rs.length od bl ms)).length<=8:=by rw[qbr];ext
  have mo:MixOk n rs (fy rs.length od bl ms):=by
   refine⟨by ext,t.one.row,fun j=>?_,?_⟩
   ·have:=p5 (l:=mx rs (fy rs.length od bl ms) j) (c:=8000) (m:=8) (by unfold mx;rw[qaC];exact hz8) fun p hp=>by
     obtain⟨a,ha,rfl⟩:=qaB.mp hp;obtain⟨h1,h2⟩:=qaW ha
     have:=sJ (j:=j) (by decide) (t.one.ro _ h1).ps
     have:=mz _ h2
     show sz (coef a.1.1 j)+sz a.2+1<=8000;ext
    ext
   ·have:=p5 (l:=rg rs (fy rs.length od bl ms)) (c:=8000) (m:=8) (by unfold rg;rw[qaC];exact hz8) fun p hp=>by
     obtain⟨a,ha,rfl⟩:=qaB.mp hp;obtain⟨h1,h2⟩:=qaW ha
     have:=(t.one.ro _ h1).rt
     have:=mz _ h2
     show sz a.1.2+sz a.2+1<=8000;ext
    ext
  have mp:=yt (n:=n) (rs:=rs) (ms:=fy rs.length od bl ms) (s:=s) (by ext) mo;rw[b1,decide_eq_true rfl,show (List.range n).all (at0 rs (fy rs.length od bl ms))=true from qcs.mpr fun j hj=>decide_eq_true (b0 j (qau.mp hj))] at mp;have n1:=eO (neg:=true) kc;have n2:=eO (neg:=false) kc;obtain⟨y10,y15,ml⟩:=mk_loop (od:=od) (bl:=bl) (ms:=ms) (x0:=x0) (x1:=x1) (x2:=some .pen) (x3:=some (.int (n:Int))) (x4:=some (rsD rs)) (x5:=some (psI ps)) (x6:=some (psI (bkL n ps))) (x7:=some (psI od)) (x9:=some (rsD (bJ ps od bl rs))) (x10:=x10) (x11:=some (.tup [.str "none",lD m1])) (x12:=some (.tup [.str "none",lD ms])) (x13:=x13) (x15:=x15) (s:=s) h7 (fun q hq=>(t.bz q hq).1) t.lb hm hs t.ro;refine⟨[x0,x1,some .pen,some (.int (n:Int)),some (rsD rs),some (psI ps),some (psI (bkL n ps)),some (psI od),some (lD bl),some (rsD (bJ ps od bl rs)),y10,some (.tup [.str "none",lD m1]),some (.tup [.str "none",lD ms]),x13,some (lD (fy rs.length od bl ms)),y15],?_⟩;show (az e0B (az e1B (az e2B e3B)):Xd [9,14]).p _ _=_;rw[aA,bE];simp![ca,aB,aN,aE,bg,z0,Pf,ie,n1,qbi,PR.bl,Pg,qar,if_false,bD,PU.au];rw[aA,bE];simp![rf,ca,aB,aN,aE,du,bg,z0,Pf,cE,s_no,PR.bl,Pg,qar,if_false,bD,PU.au];rw[aA,bE];simp![ca,aB,aN,aE,du,bg,z0,Pf,cE,s_nm,PR.bl,Pg,qar,if_false,bD,PU.au];rw[bE];simp![ca,aB,aN,aE,du,bg,z0,Pf,cE,n2,qbJ,PR.bl,Pg,if_true];rw[aA,dS];simp![aB,eA,cK,al,bV,aN,aE,aq,qaA,qaH,show (0+1+1:Nat)<=100000 by decide,show (0+1:Nat)<=100000 by decide,if_true,fY,qaC,Pf,rep_q (show rs.length<=1000 by ext),Pg,f8,qag,qah,PU.au];rw[aA,cV];simp![bP,al,aB,aN,aE,bg,z1,aq,kr,Pf,eT,Pg];refine (congrArg (fun z:PS=>z.then _) ml).trans ?_;rw[PU.au,bE];simp![ca,aB,xLend_p,al,aq,mp,show lend (.bl true)=true from rfl,if_true,aN,cn_bl,Bool.and_self,is_tt,qbi,Pf,PR.bl,Pg,qar,if_false,bD]
def shuf_p{α:Type}{f:α->D}{l:List α}{s:Pen}(hl:l.length<=1000):∃(l':List α) (s':Pen),bp.p [.pen,.lst (l.map f)] s=.ok (.lst (l'.map f)) s'/\l'.Perm l:=by
 rw[oP (by rfl)];unfold dI;rw[show dSt 4 [D.pen,.lst (l.map f)]=[some .pen,some (.lst (l.map f)),none,none] from rfl];obtain⟨env',s',er,acc,x3,hp,rfl⟩:=dZ (g:=(xNm 3:Xg [2]).p) (b:=(xMt aInsert 2 (ac (ak bi (ac (aa 0) (ac (af cL (xCb dD (ac (aa 2) xNil)) (xC (.int 1))) xNil))) (ac (aa 3) xNil)):Xd [2]).p)
  (fun j env s=>∃(acc:List α) (x3:Option D),acc.Perm (l.take j)/\env=[some .pen,some (.lst (l.map f)),some (.lst (acc.map f)),x3]) (l.map f) 0 [some .pen,some (.lst (l.map f)),some (.lst []),none] s ⟨[],none,by simp,rfl⟩ fun j env s d ⟨acc,x3,hp,he⟩ hd=>by
   subst he;rw[qbb] at hp ⊢;rw[qap,qas] at hd;obtain⟨r,hr,rfl⟩:=hd;obtain⟨hj,rfl⟩:=qaj.mp hr;have la:acc.length=j:=by rw[hp.length_eq,qbt];ext
   obtain⟨i,s1,i0,i1,q⟩:=df (s:=s) (size:=(acc.length:Int)+1) (by ext) (by ext);obtain⟨i,rfl⟩:=pJ i0
   refine⟨_,_,s1,rfl,nK (as:=[.int (i:Int),f l[j]]) (ds:=acc.map f) (ds':=(acc.take i++l[j]::acc.drop i).map f) (r:=.non) (by
    simp![qag,qah,al,aF,aB,bV,aq,fY,qaC,Pf,aN,aE,dy,q]) rfl (by
    rw[vy (by simp;ext) (by simp;ext)];simp),acc.take i++l[j]::acc.drop i,some (f l[j]),?_,rfl⟩
   rw[List.take_succ_eq_append_getElem hj];refine List.perm_middle.trans ?_;rw[List.take_append_drop];exact (List.Perm.cons _ hp).trans (List.perm_append_singleton _ _).symm
 refine⟨acc,s',?_,by simpa using hp⟩;simp![aA,dS,eA,aq,qaH,qbl,if_true,Pg,f8,qag,qah,PU.au,cV,cH,bY,Pf];refine (congrArg (fun z:PS=>(z.then _).fin) er).trans ?_;rw[PU.au,kg (d:=.lst (acc.map f)) rfl,PU.bw]
def vI{m:Nat}{s:Pen}(hm:m<=100):∃(l:List Nat) (s':Pen),bp.p [.pen,.lst (d4 0 m)] s=.ok (psI l) s'/\l.Perm (List.range m):=by
 rw[dA];exact shuf_p (f:=fun (j:Nat)=>D.int (j:Int)) (l:=List.range m) (by simp;ext)
def body_p{x0 x1:Option D}{s:Pen}:∃env' s',dR.p [x0,x1,some .pen,none,none,none,none,none,none,none,none,none,none,none,none,none] s=.nx env' s':=by
 obtain⟨a,s1,a0,a1,qa⟩:=df (s:=s) (size:=6) (by decide) (by decide);obtain⟨n,en,hn⟩:∃n:Nat,(1:Int)+a=(n:Int)/\n<=6:=⟨(1+a).toNat,by ext,by ext⟩;obtain⟨rs,s2,qr,l7,hr⟩:=rows_p (n:=n) (s:=s1) hn;obtain⟨ps,s3,qp,pm⟩:=vI (m:=n) (s:=s2) (by ext);obtain⟨od,s4,qo,ro⟩:=vI (m:=rs.length) (s:=s3) (by ext)
 obtain⟨bs,s5,qb,lb,hb⟩:=nS (ws:=[9,14]) (ws':=[]) (env:=[x0,x1,some .pen,some (.int (n:Int)),some (rsD rs),some (psI ps),some (psI (bkL n ps)),some (psI od),none,none,none,none,none,none,none,none]) (s:=s4) (s0:=s4) (fm:=[2]) (i:=cA (aa 4)) (e:=ak ci (ac (aa 1) xNil)) (ds:=rs.map rwD) (fun y=>∃q:Rat,y=qD q/\(sz q<=20/\q≠0)) (by simp![cH,bY,Pf]) (by simp;ext) (fun x hx s=>by
   obtain⟨q,s5,q5,h1,h2⟩:=wd (s:=s);refine⟨qD q,s5,?_,q,rfl,h1,h2⟩;show (ak ci _:Xe []).p [some x,some .pen] s=_
   simp![aF,al,aq,q5])
 obtain⟨bl,rfl,hbl⟩:=vR hb;have t:Tn n ps od bl rs:=⟨hn,l7,hr,pm,ro,by simpa using lb,hbl⟩;have hp:ps.length=n:=by rw[pm.length_eq,qbq]
 obtain⟨x10,x13,ol⟩:=ot_loop (od:=od) (x0:=x0) (x1:=x1) (x2:=some .pen) (x3:=some (.int (n:Int))) (x6:=some (psI (bkL n ps))) (x7:=some (psI od)) (x11:=none) (x12:=none) (x14:=none) (x15:=none) (s:=s5) hn hp t.rn t.ra (fun q hq=>(t.bz q hq).1) t.lb l7 ro;obtain⟨env',q9⟩:=t9_p (x0:=x0) (x1:=x1) (x10:=x10) (x13:=x13) (x15:=none) (s:=s5) t;refine⟨env',s5,?_⟩;unfold dR;rw[aA,aS];simp![aB,aF,al,aN,aE,aq,qa,dy,en,Pf,Pg,qag,qah,PU.au];rw[aA,aS];simp![aF,al,aq,qr,Pg,qag,qah,PU.au];rw[aA,aS];simp![aF,al,bV,aq,cLR_i (show -100000<=(n:Int)/\(n:Int)<=100000 by ext),qaG,Pf,qp,Pg,qag,qah,PU.au];rw[aA,aS,back_p (n:=n) (ps:=ps) (by ext) pm rfl rfl];dsimp![PU.au];rw[aA,aS];simp![aF,al,bV,aq,fY,qaC,Pf,cLR_i (show -100000<=(rs.length:Int)/\(rs.length:Int)<=100000 by ext),qaG,qo,Pg,qag,qah,PU.au];rw[aA,aS,qb];dsimp![PU.au];rw[aA,dS];dsimp![eA,aq,Pb,qaH,qbl,if_true,f8];rw[aA,cV];simp![cH,bY,Pf,Pg];refine (congrArg (fun z:PS=>z.then _) ol).trans ?_;rw[PU.au];exact q9
def ug{lo:Int}{c i:Nat}{x:PV}(h:(bQ lo c)[i]?=some x):x=.int (lo+i)/\i<c:=by
 unfold bQ at h;rw[qap,qas] at h;obtain⟨k,hk,rfl⟩:=h
 have:=qaj.mp hk
 obtain⟨a,b⟩:=this;simp at a b;subst b;exact⟨rfl,a⟩
def uv{c i:Nat}{x:PV}(h:(bQ 0 c)[i]?=some x):x=.int (i:Int)/\i<c:=by
 have:=ug h;simpa using this
def sY{ns:List Int}{k:Nat}(hk:k<ns.length):atI (ns.map PV.int) (k:Int)=some (.int ns[k]):=L2.dB (by simp[hk])
def p7{h:MH}:opPow (.int 10) (.int 18) h=.ok (.int (10 ^ 18)) h:=ph (by decide)
def xH{h:MH}:opPow (.int 10) (.int 15) h=.ok (.int (10 ^ 15)) h:=ph (by decide)
def xl{h:MH}{ns:List Int}{k:Nat}(hk:k<64):∃m c:Int,fI [.frl (ns.map .int),.int k] h=.ok (.loc h.length) (h++[.lst [.int m,.int c,.int 0]]):=by
 unfold fI;have k1:∀{i:Int} {h:MH},opMul (.int 7919) (.int i) h=.ok (.int (7919 * i)) h:=gK (by decide);have k2:∀{i:Int} {h:MH},opMul (.int 48271) (.int i) h=.ok (.int (48271 * i)) h:=gK (by decide);have k3:∀{i:Int} {h:MH},opMul (.int 40009) (.int i) h=.ok (.int (40009 * i)) h:=gK (by decide);have n3:∀{a b c:PV} {h:MH},newL [a,b,c] h=.ok (.loc h.length) (h++[.lst [a,b,c]]):=t7 (by simp)
 have fin:∀cell:Int,∃m c:Int,(aJ (mIf (mB (aj opGe (mCB fAbs (ae (ag 2) mNil)) (aj opPow (mC (.int 10)) (mC (.int 18))))) (bB (d7 (ae (mC (.int 1)) (ae (mCB fAbs (ae (ag 2) mNil)) (ae (mC (.int 0)) mNil))))) mSkip)
   (bB (d7 (ae (mC (.int 0)) (ae (aj opAdd (aj opMod (ag 2) (mC (.int 2147483587))) (aj opMul (mC (.int 40009)) (ag 1))) (ae (mC (.int 0)) mNil)))))) [some (.frl (ns.map .int)),some (.int k),some (.int cell)] h=.rt (.loc h.length) (h++[.lst [.int m,.int c,.int 0]]):=fun cell=>by
  by_cases z:(10:Int) ^ 18<=(if cell<0 then -cell else cell)
  ·exact⟨1,(if cell<0 then -cell else cell),by simp[p7,n3,z,-Int.reducePow]⟩
  ·exact⟨0,cell.fmod 2147483587+40009 * k,by simp[p7,n3,z,k3,fJ,-Int.reducePow]⟩
 have fin':∀cell:Int,∃m c:Int,((aJ (mIf (mB (aj opGe (mCB fAbs (ae (ag 2) mNil)) (aj opPow (mC (.int 10)) (mC (.int 18))))) (bB (d7 (ae (mC (.int 1)) (ae (mCB fAbs (ae (ag 2) mNil)) (ae (mC (.int 0)) mNil))))) mSkip)
   (bB (d7 (ae (mC (.int 0)) (ae (aj opAdd (aj opMod (ag 2) (mC (.int 2147483587))) (aj opMul (mC (.int 40009)) (ag 1))) (ae (mC (.int 0)) mNil)))))) [some (.frl (ns.map .int)),some (.int k),some (.int cell)] h).fin=.ok (.loc h.length) (h++[.lst [.int m,.int c,.int 0]]):=fun cell=>by
  obtain⟨m,c,q⟩:=fin cell;exact⟨m,c,by rw[q];rfl⟩
 have lift:∀cell:Int,(aJ (aP 2 (aj opAdd (aj opMul (mC (.int 7919)) (ag 1)) (mC (.int 11))))
 (mIf (mB (aj opLt (ag 1) (mCB fMin (ae (mCB fLen (ae (ag 0) mNil)) (ae (mC (.int 63)) mNil))))) (aP 2 (aj aH (ag 0) (ag 1))) (mIf (mB (aj opGt (mCB fLen (ae (ag 0) mNil)) (mC (.int 0)))) (aP 2 (aj opAdd (aj opMod (aj aH (ag 0) (aj opMod (ag 1) (mCB fMin (ae (mCB fLen (ae (ag 0) mNil)) (ae (mC (.int 63)) mNil))))) (aj opPow (mC (.int 10)) (mC (.int 15)))) (aj opMul (mC (.int 48271)) (ag 1)))) mSkip))) [some (.frl (ns.map .int)),some (.int k),none] h=.nx [some (.frl (ns.map .int)),some (.int k),some (.int cell)] h ->
   ∃m c:Int,eM 3 2 m_l_pen [.frl (ns.map .int),.int k] h=.ok (.loc h.length) (h++[.lst [.int m,.int c,.int 0]]):=fun cell q=>by
  obtain⟨m,c,q2⟩:=fin' cell;refine⟨m,c,(kw (by rfl)).trans ?_⟩;rw[<-q2];unfold m_l_pen;simp only[kI] at q ⊢;have e0:cD 3 [PV.frl (ns.map .int),PV.int k]=[some (.frl (ns.map .int)),some (.int k),none]:=rfl;rw[e0];generalize (aP 2 (aj opAdd (aj opMul (mC (.int 7919)) (ag 1)) (mC (.int 11)))) [some (.frl (ns.map .int)),some (.int k),none] h=o1 at q ⊢
  cases o1 with
  | nx σ1 h1 =>
   simp only[MM.au,kI] at q ⊢;rw[q];rfl
  | _=>cases q
 have hlim:∃lim:Nat,(if (63:Int)<(ns.length:Int) then (63:Int) else (ns.length:Int))=(lim:Int)/\lim<=ns.length/\(0<ns.length->0<lim):=by
  by_cases z:(63:Int)<(ns.length:Int)
  ·exact⟨63,by rw[qan z];rfl,by ext,by ext⟩
  ·exact⟨ns.length,by rw[qaz z],by ext,by ext⟩
 obtain⟨lim,el,hl1,hl2⟩:=hlim;by_cases h1:k<lim
 ·refine lift (ns[k]'(by ext)) ?_;simp[k1,el,h1,sY (show k<ns.length by ext)]
 ·by_cases h0:0<ns.length
  ·have hm0:(lim:Int)≠0:=by have:=hl2 h0;ext
   have hj:k % lim<ns.length:=qaw (Nat.mod_lt _ (hl2 h0)) hl1;have ej:(k:Int).fmod (lim:Int)=((k % lim:Nat):Int):=by rw[qbs _ (by ext)];rfl
   refine lift ((ns[k % lim]'hj).fmod (10 ^ 15)+48271 * k) ?_;have p0:((10:Int) ^ 15)≠0:=by decide
   have a1:=sY hj;rw[Int.natCast_emod] at a1;simp[k1,el,h1,h0,fJ hm0,ej,a1,xH,fJ p0,k2,-Int.reducePow]
  ·have h0':ns=[]:=qbz.mp (by ext);refine lift (7919 * k+11) ?_;have z:¬((k:Int)<(lim:Int)):=by ext
   simp[k1,el,z,h0]
def KS(σ:PSt)(o:SOut):Prop:=match o with
 | .nx σ' _=>σ'.length=σ.length/\σ'[0]?=σ[0]?
 | .bk σ' _=>σ'.length=σ.length/\σ'[0]?=σ[0]?
 | .ct σ' _=>σ'.length=σ.length/\σ'[0]?=σ[0]?
 | _=>True
def KS.of{σ σ1:PSt}{o:SOut}(h:σ1.length=σ.length/\σ1[0]?=σ[0]?)(k:KS σ1 o):KS σ o:=by
 cases o with
 | nx a b=>exact⟨k.1.trans h.1,k.2.trans h.2⟩
 | bk a b=>exact⟨k.1.trans h.1,k.2.trans h.2⟩
 | ct a b=>exact⟨k.1.trans h.1,k.2.trans h.2⟩
 | _=>trivial
def K0(m:Mst):Prop:=∀σ h,KS σ (m σ h)
def mf:K0 mSkip:=fun σ h=>⟨rfl,rfl⟩
def jQ{α:Type}{m:Mx α}{k:α->Mst}(hk:∀v,K0 (k v)):K0 (mEx m k):=fun σ h=>by
 unfold mEx
 cases m σ h with
 | ok v h1=>exact hk v σ h1
 | _=>trivial
def k_ret{m:Mx PV}:K0 (bB m):=fun σ h=>by
 unfold bB
 cases m σ h with
 | ok v h1=>trivial
 | _=>trivial
def o6{i:Nat}{v:PV}{σ:PSt}(h:i≠0):(σ.set i (some v)).length=σ.length/\(σ.set i (some v))[0]?=σ[0]?:=⟨by simp,qai h⟩
def k_set{i:Nat}{m:Mx PV}(h:i≠0):K0 (aP i m):=jQ fun v σ h1=>o6 h
def k_seq{a b:Mst}(ha:K0 a)(hb:K0 b):K0 (aJ a b):=fun σ h=>by
 have:=ha σ h
 unfold aJ
 cases e:a σ h with
 | nx σ1 h1=>rw[e] at this;exact KS.of this (hb σ1 h1)
 | bk σ1 h1=>rw[e] at this;exact this
 | ct σ1 h1=>rw[e] at this;exact this
 | _=>trivial
def k_if{c:Mx Bool}{a b:Mst}(ha:K0 a)(hb:K0 b):K0 (mIf c a b):=jQ fun x=>by
 cases x
 ·exact hb
 ·exact ha
def k_drop{m:Mx PV}:K0 (ik m):=jQ fun _=>mf
def k_go{it:MIt}{i:Nat}{b:Mst}(hi:i≠0)(hb:K0 b):∀xs:List PV,K0 (mGo it (gNm i) b xs):=by
 intro xs
 induction xs with
 | nil =>
  intro σ h;unfold mGo;split
  ·exact⟨rfl,rfl⟩
  ·trivial
 | cons x r ih =>
  intro σ h;unfold mGo;split
  ·show KS σ (match b (σ.set i (some x)) h with
    | .nx σ2 h2=>mGo it (gNm i) b r σ2 h2
    | .ct σ2 h2=>mGo it (gNm i) b r σ2 h2
    | .bk σ2 h2=>.nx σ2 h2
    | .rt v h2=>.rt v h2
    | .exc e σ2 h2=>.exc e σ2 h2
    | .rse e σ2 h2=>.rse e σ2 h2
    | .bad=>.bad)
   have k:=(hb (σ.set i (some x)) h)
   cases e:b (σ.set i (some x)) h with
   | nx σ2 h2=>rw[e] at k;exact KS.of (o6 hi) (KS.of k (ih σ2 h2))
   | ct σ2 h2=>rw[e] at k;exact KS.of (o6 hi) (KS.of k (ih σ2 h2))
   | bk σ2 h2=>rw[e] at k;exact KS.of (o6 hi) k
   | _=>trivial
  ·trivial
def k_for{mi:Mx MIt}{i:Nat}{b:Mst}(hi:i≠0)(hb:K0 b):K0 (gh mi (gNm i) b):=jQ fun it=>k_go hi hb it.xs
section
variable {ws:List Nat}
def cu{a b:Xd ws}(ha:K0 a.m)(hb:K0 b.m):K0 (az a b).m:=k_seq ha hb
def fq{i:Nat}{e:Xe ws}{hi:ws.contains i=false}{hz:e.fz=true}(h:i≠0):K0 (aL i e hi hz).m:=k_set h
def rZ{i:Nat}{e:Xe ws}{hi:ws.contains i=true}{hz:e.fr=true}(h:i≠0):K0 (c7 i e hi hz).m:=k_set h
def kx_if{t:Xt ws}{a b:Xd ws}(ha:K0 a.m)(hb:K0 b.m):K0 (xIf t a b).m:=k_if ha hb
def lW{t:Xt ws}{e:Xe ws}:K0 (xIf t (aZ e) xSkip).m:=k_if k_ret mf
def kx_for{it:Xi ws}{i:Nat}{hi:ws.contains i=false}{b:Xd ws}{hz:it.fz=true}(h:i≠0)(hb:K0 b.m):K0 (dg it (xNm i hi) b hz).m:=k_for h hb
def kx_mt{o:OpM}{i:Nat}{a:Xs ws}{hi:ws.contains i=true}{hz:a.fz=true}:K0 (xMt o i a hi hz).m:=k_drop
end
def k_goG{it:MIt}{g:Mg}{b:Mst}(hg:∀x,K0 (g x))(hb:K0 b):∀xs:List PV,K0 (mGo it g b xs):=by
 intro xs
 induction xs with
 | nil =>
  intro σ h;unfold mGo;split
  ·exact⟨rfl,rfl⟩
  ·trivial
 | cons x r ih =>
  intro σ h;unfold mGo;split
  ·have k0:=hg x σ h
   cases e0:g x σ h with
   | nx σ1 h1 =>
    rw[e0] at k0;have k:=hb σ1 h1;dsimp only
    cases e:b σ1 h1 with
    | nx σ2 h2=>rw[e] at k;exact KS.of k0 (KS.of k (ih σ2 h2))
    | ct σ2 h2=>rw[e] at k;exact KS.of k0 (KS.of k (ih σ2 h2))
    | bk σ2 h2=>rw[e] at k;exact KS.of k0 k
    | _=>trivial
   | _=>trivial
  ·trivial
def k_tp{i j:Nat}(hi:i≠0)(hj:j≠0)(v:PV):K0 (gTp (gCn (gNm i) (gCn (gNm j) gNl)) 2 v):=fun σ h=>by
 unfold gTp;split
 ·rename_i xs
  split
  ·rename_i hl
   match xs,hl with
   | [a,b],_ =>
    show KS σ (.nx ((σ.set i (some a)).set j (some b)) h);exact⟨by simp,(qai hj).trans (qai hi)⟩
  ·trivial
 ·trivial
def kx_forP{ws:List Nat}{it:Xi ws}{i j:Nat}{hi:ws.contains i=false}{hj:ws.contains j=false}{b:Xd ws}{hz:it.fz=true}(h1:i≠0)(h2:j≠0)(hb:K0 b.m):K0 (dg it (xGp (xGc (xNm i hi) (xGc (xNm j hj) xGl)) 2) b hz).m:=jQ fun it=>k_goG (k_tp h1 h2) hb it.xs
def kx_sub{ws:List Nat}{i:Nat}{e ix:Xe ws}{hi:ws.contains i=true}{hz:e.fz=true}:K0 (i6 i e ix hi hz).m:=jQ fun v σ h=>by
 have:KS σ (gSb (ag i) ix.m v σ h):=by
  unfold gSb
  exact (jQ fun o=>jQ fun j σ h=>by
   split
   ·exact⟨rfl,rfl⟩
   ·trivial) σ h
 cases e:gSb (ag i) ix.m v σ h with
 | nx σ1 h1=>rw[e] at this;exact this
 | _=>trivial
def k_body:K0 dR.m:=by
 unfold dR;exact cu (fq (by decide)) (cu (fq (by decide)) (cu (fq (by decide)) (cu (fq (by decide)) (cu (fq (by decide)) (cu (fq (by decide)) (cu (rZ (by decide)) (cu (kx_for (by decide) (cu (fq (by decide)) kx_mt)) (cu (fq (by decide)) (cu (fq (by decide)) (cu lW (cu lW (cu (kx_if (cu lW lW) mf) (kx_if (cu (rZ (by decide)) (cu (kx_forP (by decide) (by decide) kx_sub) lW)) mf)))))))))))))
def sixt{σ:PSt}{x:Option PV}(h:σ.length=16)(h0:σ[0]?=some x):∃a1 a2 a3 a4 a5 a6 a7 a8 a9 a10 a11 a12 a13 a14 a15,σ=[x,a1,a2,a3,a4,a5,a6,a7,a8,a9,a10,a11,a12,a13,a14,a15]:=by
 match σ,h with
 | [b0,b1,b2,b3,b4,b5,b6,b7,b8,b9,b10,b11,b12,b13,b14,b15],_ =>
  cases h0;exact⟨b1,b2,b3,b4,b5,b6,b7,b8,b9,b10,b11,b12,b13,b14,b15,rfl⟩
def body_m:dR.m=(aJ (aP 3 (aj opAdd (mC (.int 1)) (aM ck (ae (ag 2) (ae (mC (.int 6)) mNil)))))
 (aJ (aP 4 (aM dL.m (ae (ag 2) (ae (ag 3) mNil))))
 (aJ (aP 5 (aM bp.m (ae (ag 2) (ae (mLR (ae (ag 3) mNil)) mNil))))
 (aJ (aP 6 (cU 1 [5] (fj (ae (ag 3) mNil)) (gNm 0) mTrue (mMt gN (ag 1) (ae (ag 0) mNil))))
 (aJ (aP 7 (aM bp.m (ae (ag 2) (ae (mLR (ae (mCB fLen (ae (ag 4) mNil)) mNil)) mNil))))
 (aJ (aP 8 (cU 1 [2] (fo (ag 4)) (gNm 0) mTrue (aM ci.m (ae (ag 1) mNil))))
 (aJ (aP 9 (d7 mNil))
 (aJ (gh (fo (ag 7)) (gNm 10) (aJ (aP 13 (mCB fSortR (ae (cU 2 [5,8,10] (fo (aj aH (aj aH (ag 4) (ag 10)) (mC (.int 0)))) (gTp (gCn (gNm 0) (gCn (gNm 1) gNl)) 2) mTrue (fE (ae (aj aH (ag 2) (ag 0)) (ae (aM aO.m (ae (aj aH (ag 3) (ag 4)) (ae (ag 1) mNil))) mNil)))) mNil)))
 (ik (mMt fG (ag 9) (ae (fE (ae (mCB fTuple (ae (ag 13) mNil)) (ae (aM aO.m (ae (aj aH (ag 8) (ag 10)) (ae (aj aH (aj aH (ag 4) (ag 10)) (mC (.int 1))) mNil))) mNil))) mNil)))))
 (aJ (aP 11 (aM bv.m (ae (ag 3) (ae (mCB fList (ae (ag 4) mNil)) mNil))))
 (aJ (aP 12 (aM bv.m (ae (ag 3) (ae (mCB fList (ae (ag 9) mNil)) mNil))))
 (aJ (mIf (mB (aj opNe (aj aH (ag 11) (mC (.int 0))) (aj aH (ag 12) (mC (.int 0))))) (bB (mC (.bl false))) mSkip)
 (aJ (mIf (nB (mB (aj opEq (aj aH (ag 11) (mC (.int 0))) (mC (.str "one")))) (mB (aj opNe (aM bF.m (ae (aj aH (ag 11) (mC (.int 1))) (ae (ag 5) mNil))) (aj aH (ag 12) (mC (.int 1)))))) (bB (mC (.bl false))) mSkip)
 (aJ (mIf (mB (aj opEq (aj aH (ag 11) (mC (.int 0))) (mC (.str "many")))) (aJ (mIf (mB (aj opNe (mCB fLen (ae (aj aH (ag 11) (mC (.int 2))) mNil)) (mCB fLen (ae (aj aH (ag 12) (mC (.int 2))) mNil)))) (bB (mC (.bl false))) mSkip)
 (mIf (mOr (ja (mB (aM bt.m (ae (ag 11) (ae (ag 12) (ae (ag 5) mNil)))))) (ja (mB (aM bt.m (ae (ag 12) (ae (ag 11) (ae (ag 6) mNil))))))) (bB (mC (.bl false))) mSkip)) mSkip)
 (mIf (mB (aj opEq (aj aH (ag 11) (mC (.int 0))) (mC (.str "none")))) (aJ (aP 14 (aj opMul (d7 (ae (fE (ae (mC (.int 0)) (ae (mC (.int 1)) mNil))) mNil)) (mCB fLen (ae (ag 4) mNil))))
 (aJ (gh (mItZ (ae (aj aH (ag 12) (mC (.int 1))) (ae (ag 7) mNil))) (gTp (gCn (gNm 15) (gCn (gNm 10) gNl)) 2) (jG (aM aO.m (ae (ag 15) (ae (aj aH (ag 8) (ag 10)) mNil))) (gSb (ag 14) (ag 10))))
 (mIf (mB (aj (qY true) (aM dn.m (ae (ag 3) (ae (ag 4) (ae (ag 14) mNil)))) (mC (.bl true)))) (bB (mC (.bl false))) mSkip))) mSkip)))))))))))))):=by
 have e:dR.m=(aJ (aP 3 (aj opAdd (mC (.int 1)) (aM bi.m (ae (ag 2) (ae (mC (.int 6)) mNil)))))
 (aJ (aP 4 (aM dL.m (ae (ag 2) (ae (ag 3) mNil))))
 (aJ (aP 5 (aM bp.m (ae (ag 2) (ae (mLR (ae (ag 3) mNil)) mNil))))
 (aJ (aP 6 (cU 1 [5] (fj (ae (ag 3) mNil)) (gNm 0) mTrue (mMt gN (ag 1) (ae (ag 0) mNil))))
 (aJ (aP 7 (aM bp.m (ae (ag 2) (ae (mLR (ae (mCB fLen (ae (ag 4) mNil)) mNil)) mNil))))
 (aJ (aP 8 (cU 1 [2] (fo (ag 4)) (gNm 0) mTrue (aM ci.m (ae (ag 1) mNil))))
 (aJ (aP 9 (d7 mNil))
 (aJ (gh (fo (ag 7)) (gNm 10) (aJ (aP 13 (mCB fSortR (ae (cU 2 [5,8,10] (fo (aj aH (aj aH (ag 4) (ag 10)) (mC (.int 0)))) (gTp (gCn (gNm 0) (gCn (gNm 1) gNl)) 2) mTrue (fE (ae (aj aH (ag 2) (ag 0)) (ae (aM aO.m (ae (aj aH (ag 3) (ag 4)) (ae (ag 1) mNil))) mNil)))) mNil)))
 (ik (mMt fG (ag 9) (ae (fE (ae (mCB fTuple (ae (ag 13) mNil)) (ae (aM aO.m (ae (aj aH (ag 8) (ag 10)) (ae (aj aH (aj aH (ag 4) (ag 10)) (mC (.int 1))) mNil))) mNil))) mNil)))))
 (aJ (aP 11 (aM bv.m (ae (ag 3) (ae (mCB fList (ae (ag 4) mNil)) mNil))))
 (aJ (aP 12 (aM bv.m (ae (ag 3) (ae (mCB fList (ae (ag 9) mNil)) mNil))))
 (aJ (mIf (mB (aj opNe (aj aH (ag 11) (mC (.int 0))) (aj aH (ag 12) (mC (.int 0))))) (bB (mC (.bl false))) mSkip)
 (aJ (mIf (nB (mB (aj opEq (aj aH (ag 11) (mC (.int 0))) (mC (.str "one")))) (mB (aj opNe (aM bF.m (ae (aj aH (ag 11) (mC (.int 1))) (ae (ag 5) mNil))) (aj aH (ag 12) (mC (.int 1)))))) (bB (mC (.bl false))) mSkip)
 (aJ (mIf (mB (aj opEq (aj aH (ag 11) (mC (.int 0))) (mC (.str "many")))) (aJ (mIf (mB (aj opNe (mCB fLen (ae (aj aH (ag 11) (mC (.int 2))) mNil)) (mCB fLen (ae (aj aH (ag 12) (mC (.int 2))) mNil)))) (bB (mC (.bl false))) mSkip)
 (mIf (mOr (ja (mB (aM bt.m (ae (ag 11) (ae (ag 12) (ae (ag 5) mNil)))))) (ja (mB (aM bt.m (ae (ag 12) (ae (ag 11) (ae (ag 6) mNil))))))) (bB (mC (.bl false))) mSkip)) mSkip)
 (mIf (mB (aj opEq (aj aH (ag 11) (mC (.int 0))) (mC (.str "none")))) (aJ (aP 14 (aj opMul (d7 (ae (fE (ae (mC (.int 0)) (ae (mC (.int 1)) mNil))) mNil)) (mCB fLen (ae (ag 4) mNil))))
 (aJ (gh (mItZ (ae (aj aH (ag 12) (mC (.int 1))) (ae (ag 7) mNil))) (gTp (gCn (gNm 15) (gCn (gNm 10) gNl)) 2) (jG (aM aO.m (ae (ag 15) (ae (aj aH (ag 8) (ag 10)) mNil))) (gSb (ag 14) (ag 10))))
 (mIf (mB (aj (qY true) (aM dn.m (ae (ag 3) (ae (ag 4) (ae (ag 14) mNil)))) (mC (.bl true)))) (bB (mC (.bl false))) mSkip))) mSkip)))))))))))))):=by
  unfold dR;rfl
 rw[e,uu]
def tail_eq:pg.m=(bB (mC (.bl true))):=by
 unfold pg;rfl
def w8:m_law=aJ (gh (fj (ae (mC (.int 3)) mNil)) (gNm 1) (aJ (aP 2 (aM fI (ae (ag 0) (ae (ag 1) mNil)))) dR.m)) pg.m:=by
 rw[body_m,tail_eq];rfl
def turn_m{h:MH}{a b:Int}{z0 z1 a3 a4 a5 a6 a7 a8 a9 a10 a11 a12 a13 a14 a15:Option PV}:∃σ' h',dR.m [z0,z1,some (.loc h.length),a3,a4,a5,a6,a7,a8,a9,a10,a11,a12,a13,a14,a15] (h++[.lst [.int a,.int b,.int 0]])=.nx σ' h'/\σ'.length=16/\σ'[0]?=some z0/\∃q s,cv h' q s:=by
 have pn:cv (h++[.lst [.int a,.int b,.int 0]]) h.length (a,b,0):=app_0;obtain⟨env',s',q⟩:=body_p (x0:=none) (x1:=none) (s:=(a,b,0));have em:∀(i:Nat) (d:D),([none,none,some D.pen,none,none,none,none,none,none,none,none,none,none,none,none,none]:aD)[i]?=some (some d)->i=2/\d=.pen:=fun i d e=>by
  match i,e with
  | 0,e=>cases e
  | 1,e=>cases e
  | 2,e=>cases e;exact⟨rfl,rfl⟩
  | 3,e=>cases e
  | 4,e=>cases e
  | 5,e=>cases e
  | 6,e=>cases e
  | 7,e=>cases e
  | 8,e=>cases e
  | 9,e=>cases e
  | 10,e=>cases e
  | 11,e=>cases e
  | 12,e=>cases e
  | 13,e=>cases e
  | 14,e=>cases e
  | 15,e=>cases e
  | n+16,e=>simp at e
 have no:∀i∈[9,14],i≠2:=by decide
 have c:PU.Cx h.length (h++[.lst [.int a,.int b,.int 0]]) (h++[MO.lst [.int a,.int b,.int 0]]).length [h.length] [h.length] [9,14] [z0,z1,some (.loc h.length),a3,a4,a5,a6,a7,a8,a9,a10,a11,a12,a13,a14,a15] [none,none,some .pen,none,none,none,none,none,none,none,none,none,none,none,none,none] (a,b,0):=by
  refine⟨fun o ho=>?_,fun _ h=>h,fun o ho=>?_,by simp,qak _,pn,⟨rfl,fun i d e _=>?_,fun i d e hi=>absurd (em i d e).1 (no i hi)⟩⟩
  ·have:o=h.length:=by simpa using ho
   subst this;simp
  ·have:o=h.length:=by simpa using ho
   subst this;simp
  ·obtain⟨rfl,rfl⟩:=em i d e;exact⟨_,rfl,rfl⟩
 have k:=dR.ok c fun i j hi _ _ d _ _ e=>absurd (em i d e).1 (no i hi);rw[q] at k;obtain⟨σ',h',e,O',_,cx,_⟩:=k;have kk:=k_body [z0,z1,some (.loc h.length),a3,a4,a5,a6,a7,a8,a9,a10,a11,a12,a13,a14,a15] (h++[.lst [.int a,.int b,.int 0]]);rw[e] at kk;exact⟨σ',h',e,kk.1,kk.2,_,_,cx.pen⟩
def law_true(ns:List Int)(hn:ns.length<=63):∃h',f_law [.frl (ns.map .int)] []=.ok (.bl true) h':=by
 unfold f_law;rw[kw (by rfl),w8];have er:fj (ae (mC (.int 3)) mNil) [some (.frl (ns.map .int)),none,none,none,none,none,none,none,none,none,none,none,none,none,none,none] []=.ok ⟨bQ 0 3,[]⟩ []:=itR1 (n:=3) rfl (by ext);obtain⟨σ',h',e,hσ,hσ0⟩:=sV (it:=⟨bQ 0 3,[]⟩) (g:=gNm 1) (b:=aJ (aP 2 (aM fI (ae (ag 0) (ae (ag 1) mNil)))) dR.m)
  (fun j σ h=>σ.length=16/\σ[0]?=some (some (.frl (ns.map .int)))) (bQ 0 3) 0 [some (.frl (ns.map .int)),none,none,none,none,none,none,none,none,none,none,none,none,none,none,none] [] ⟨rfl,rfl⟩ (fun _ _ _ _=>ok_none.mpr trivial) (fun m σ h x ⟨hl,h0⟩ hx=>by
   obtain⟨a1,a2,a3,a4,a5,a6,a7,a8,a9,a10,a11,a12,a13,a14,a15,rfl⟩:=sixt hl h0;obtain⟨rfl,hm⟩:=uv hx;obtain⟨a,b,qp⟩:=xl (h:=h) (ns:=ns) (k:=m) (by ext);obtain⟨σ2,h2,e2,k1,k2,k3⟩:=turn_m (h:=h) (a:=a) (b:=b) (z0:=some (.frl (ns.map .int))) (z1:=some (.int (m:Int))) (a3:=a3) (a4:=a4) (a5:=a5) (a6:=a6) (a7:=a7) (a8:=a8) (a9:=a9) (a10:=a10) (a11:=a11) (a12:=a12) (a13:=a13) (a14:=a14) (a15:=a15);refine⟨_,_,σ2,h2,rfl,?_,k1,k2⟩;rw[kI];have e1:aP 2 (aM fI (ae (ag 0) (ae (ag 1) mNil))) [some (.frl (ns.map .int)),some (.int (m:Int)),a2,a3,a4,a5,a6,a7,a8,a9,a10,a11,a12,a13,a14,a15] h=.nx [some (.frl (ns.map .int)),some (.int (m:Int)),some (.loc h.length),a3,a4,a5,a6,a7,a8,a9,a10,a11,a12,a13,a14,a15] (h++[.lst [.int a,.int b,.int 0]]):=by
    simp -implicitDefEqProofs [qp]
   refine (congrArg (fun z:SOut=>z.then _) e1).trans ?_;rw[MM.au]
   exact e2)
 refine⟨h',?_⟩;have e0:cD 16 [PV.frl (ns.map .int)]=[some (.frl (ns.map .int)),none,none,none,none,none,none,none,none,none,none,none,none,none,none,none]:=rfl;rw[e0,kI,mFor_ap,er,aw,e,MM.au];rfl
end Law
namespace Law
open PySem PySem.Spec PyProof.Rows L2 MM
set_option maxHeartbeats 4000000
def top(i:Nat):Stmt:=PySem.Challenge.pw_fewfills_k54_whole_rows_answered_otherwi.main.body.getD i (.Pass ⟨0,0,0,0⟩)
local macro_rules | `(tactic| contradiction)=>`(tactic| (first | assumption | ((with_reducible apply w_setC);assumption;(intro env h;cases env;cases h;rfl)) | ((with_reducible apply w_setW);assumption;(intro env h;cases env;cases h;rfl)) | ((with_reducible apply w_setCO);assumption;(intro env h;cases env;cases h;rfl)) | ((with_reducible apply w_setWO);assumption;(intro env h;cases env;cases h;rfl)) | ((with_reducible apply w_par);assumption;(intro env h;cases env;cases h;rfl)) | with_reducible (first | apply w_var | apply w_int | apply w_bl | apply w_str | apply w_nil | apply w_cons | apply w_ix | apply w_call | apply w_lend | apply w_dG | apply w_ixD | apply w_LR | apply w_isi | apply w_blt | apply w_bin | apply w_cmp | apply w_neg | apply w_notV | apply w_one | apply w_andV | apply w_ifE | apply w_tup | apply w_lst | apply w_dic | apply w_sl | apply w_no | apply w_pt | apply w_comp | apply w_ts0 | apply w_ts1 | apply w_mr | apply w_me | apply m_Index | apply w_glT | apply w_tcmp | apply w_tnot | apply w_tw | apply w_and1 | apply w_and | apply w_or1 | apply w_or | apply w_tru | apply w_val | apply w_nm | apply w_gl | apply w_gc | apply w_gp | apply w_iE | apply w_iZ | apply w_iR1 | apply w_itD | apply w_itS | apply w_s0 | apply w_fz | apply w_fzD | apply i7 | apply c9 | apply w_ret | apply w_retO | apply w_if | apply w_for | apply w_wh | apply w_set | apply w_setO | apply w_putD | apply w_sub | apply w_mt | apply w_mtS | apply wR | apply wO | apply m_PopA | apply w_pass | apply w_bad | apply j_Add | apply j_Sub | apply j_Mul | apply j_Fd | apply j_Mod | apply j_Pow | apply j_Lt | apply j_Gt | apply j_Eq | apply j_Ne | apply j_Isn | apply j_InnD | apply b_abs | apply b_int | apply b_len | apply b_list | apply b_tuple | apply b_all | apply b_listD | apply b_dict | apply b_sortR | apply B_int | apply B_bool) | exact rfl | decide +kernel | refine fun Y c=>⟨?_,?_,?_⟩ | (intro _;rfl) | exact fun _ _=>rfl | exact nomark _ | omega | exact⟨⟨rfl,rfl⟩,rfl,rfl,rfl⟩ | with_unfolding_all rfl) <;> contradiction)
abbrev gu:Stmt:=top 6
abbrev cZ:Stmt:=top 7
abbrev fP:Stmt:=top 8
abbrev kE:Stmt:=top 9
abbrev gG:Stmt:=top 11
abbrev gA:Stmt:=top 12
abbrev jw:Stmt:=top 13
abbrev dG:Stmt:=top 14
abbrev fM:Stmt:=top 15
abbrev iu:Stmt:=top 16
abbrev hW:Stmt:=top 17
abbrev gw:Stmt:=top 18
abbrev gD:Stmt:=top 19
abbrev fN:Stmt:=top 20
abbrev jp:Stmt:=top 21
abbrev ko:Stmt:=top 23
abbrev tq:List Str:=["_law_script","_law_k","_law_cell"]
abbrev sM:List Str:=["min","len","abs"]
abbrev P_l_pen:List Str:=["_law_script","_law_k"]
def b_l_pen(hsc:Sc X ko)(g:Gd X tq sM k)(dc:DefCx X)(n0:Nn X "abs")(n7:Nn X "len")(n9:Nn X "min"):MSs X (aK ko) m_l_pen :=
 (MS2.h (m1c (a_1 g 2 (e_1 (aV dN (aV eY aG (kV g 1)) aG)))
 (m1c (s_1 (eG (kTc oj_lt (kV g 1) (kCb g 0 (vO g) n9 vH (aC (kCb g 1 fU n7 gf (aC (kV g 0) aQ)) (aC aG aQ)))) (MS2.h (m1n (a_1 g 2 (e_1 (kIx (kV g 0) (kV g 1)))))) (MS2.h (m1n (s_1 (eG (kTc oj_gt (kCb g 1 fU n7 gf (aC (kV g 0) aQ)) aG) (MS2.h (m1n (a_1 g 2 (e_1 (aV dN (aV dP (kIx (kV g 0) (aV dP (kV g 1) (kCb g 0 (vO g) n9 vH (aC (kCb g 1 fU n7 gf (aC (kV g 0) aQ)) (aC aG aQ))))) (aV qA aG aG)) (aV eY aG (kV g 1))))))) dh))))))
 (m1c (s_1 (eG (kTc oj_ge (kCb g 2 qO n0 qf (aC (kV g 2) aQ)) (aV qA aG aG)) (MS2.h (m1n (r_1 (l_1 (cS (e_1 aG) (cS (e_1 (kCb g 2 qO n0 qf (aC (kV g 2) aQ))) (cS (e_1 aG) gZ))))))) dh))
 (m1n (r_1 (l_1 (cS (e_1 aG) (cS (e_1 (aV dN (aV dP (kV g 2) aG) (aV eY aG (kV g 1)))) (cS (e_1 aG) gZ))))))))))
abbrev jm:Stmt:=top 24
abbrev pG:List Str:=["_law_pen_here","_law_size","_law_number_here","_law_drawn"]
abbrev pI:List Str:=[]
abbrev xP:List Str:=["_law_pen_here","_law_size"]
def wT(hsc:Sc X jm)(g:Gd X pG pI k)(dc:DefCx X):MSs X (aK jm) m_l_draw :=
 (MS2.h (m1c (s_1 (mJ (aV dN (kIx (kV g 0) aG) aG) (md (kV g 0) aG)))
 (m1c (s_1 (eG (kTc (mN g.room) (kIx (kV g 0) aG) aG) (MS2.h (m1c (a_1 g 3 (e_1 (aV dP (kIx (kV g 0) aG) (kV g 1))))
 (m1c (s_1 (mJ (aV (ue g.room) (kIx (kV g 0) aG) (kV g 1)) (md (kV g 0) aG)))
 (m1n (r_1 (e_1 (kV g 3))))))) dh))
 (m1c (a_1 g 2 (e_1 (aV dP (aV eY (aV dN (aV dN (kIx (kV g 0) aG) (aV eY aG (kIx (kV g 0) aG))) aG) aG) aG)))
 (m1c (a_1 g 2 (e_1 (aV dP (aV eY (kV g 2) (aV dN (aV dN (aV dP (kV g 2) aG) (kIx (kV g 0) aG)) aG)) aG)))
 (m1n (r_1 (e_1 (aV dP (aV (ue g.room) (aV dP (aV eY (kV g 2) (aV dN (aV dP (kV g 2) aG) aG)) aG) aG) (kV g 1))))))))))
abbrev gv:Stmt:=top 25
abbrev gB:Stmt:=top 26
abbrev jv:Stmt:=top 27
abbrev jf:Stmt:=top 28
abbrev hJ:Stmt:=top 29
abbrev ig:Stmt:=top 30
abbrev iA:Stmt:=top 31
abbrev fe:Stmt:=top 32
abbrev kC:Stmt:=top 33
abbrev i8:Stmt:=top 34
abbrev gC:Stmt:=top 35
abbrev fR:Stmt:=top 36
abbrev mG:Stmt:=top 37
abbrev N_law:List Str:=["_law_script","_law_k","_law_pen_here","_law_n","_law_rows_here","_law_places","_law_back","_law_order","_law_by","_law_other","_law_at","_law_first","_law_second","_law_parts_here","_law_mix","_law_number_here"]
abbrev G_law:List Str:=["range","_law_pen","_law_draw","_law_rows","_law_shuffled","list","len","sorted","tuple","_law_times","answer","_law_called","_law_all_met","zip","is_mix"]
abbrev P_law:List Str:=["_law_script"]
def b_law(hsc:Sc X mG)(g:Gd X N_law G_law k)(dc:DefCx X)(c6:Cal X "is_mix" ["n","rows","mix"] dn.m k)(c21:Cal X "_law_times" ["_law_a","_law_b"] aO.m k)(c28:Cal X "_law_all_met" ["_law_one","_law_other","_law_places"] bt.m k)(c27:Cal X "_law_called" ["_law_some","_law_places"] bF.m k)(c14:Cal X "answer" ["n","rows"] bv.m k)(c19:Cal X "_law_more" ["_law_pen_here"] ci.m k)(c24:Cal X "_law_shuffled" ["_law_pen_here","_law_some"] bp.m k)(c26:Cal X "_law_rows" ["_law_pen_here","_law_n"] dL.m k)(c16:Cal X "_law_draw" ["_law_pen_here","_law_size"] ck k)(c15:Cal X "_law_pen" ["_law_script","_law_k"] fI k)(n10:Nn X "range")(n13:Nn X "zip")(n7:Nn X "len")(n8:Nn X "list")(n12:Nn X "tuple")(n11:Nn X "sorted"):MSs X (aK mG) m_law :=
 (MS2.h (m1c (s_1 (lM g (kR1 g 0 n10 (aC aG aQ)) (kNm g 1) (MS2.h (m1c (a_1 g 2 (e_1 (kCa g 1 c15 (aC (kV g 0) (aC (kV g 1) aQ)))))
 (m1c (a_1 g 3 (e_1 (aV dN aG (kCa g 2 c16 (aC (kV g 2) (aC aG aQ))))))
 (m1c (a_1 g 4 (e_1 (kCa g 3 c26 (aC (kV g 2) (aC (kV g 3) aQ)))))
 (m1c (a_1 g 5 (e_1 (kCa g 4 c24 (aC (kV g 2) (aC (pQ g (i:=5) (j:=0) rfl n8 rfl n10 (aC (kV g 3) aQ)) aQ)))))
 (m1c (s_1 (kSc g hsc 6 ["_law_j"] ["_law_places"] [] [5] (kR1 g 0 n10 (aC (kV g 3) aQ)) fun Y y g=>⟨(kNm g 0),kM,(uP yb xR yn (kV g 1) (aC (kV g 0) aQ))⟩))
 (m1c (a_1 g 7 (e_1 (kCa g 4 c24 (aC (kV g 2) (aC (pQ g (i:=5) (j:=0) rfl n8 rfl n10 (aC (kCb g 6 fU n7 gf (aC (kV g 4) aQ)) aQ)) aQ)))))
 (m1c (s_1 (kSw g hsc 8 (kCp g hsc ["_law_row"] ["_law_pen_here"] ["_law_more"] [2] (lZ (kV g 4)) fun Y y g=>⟨(kNm g 0),kM,(kCa g 0 (y.c c19) (aC (kV g 1) aQ))⟩)))
 (m1c (a_1 g 9 (e_1 (wl aQ)))
 (m1c (s_1 (lM g (lZ (kV g 7)) (kNm g 10) (MS2.h (m1c (a_1 g 13 (e_1 (kCb g 7 xp n11 vD (aC (kCp g hsc ["_law_j","_law_number_here"] ["_law_places","_law_by","_law_at"] ["_law_times"] [5,8,10] (lZ (kIx (kIx (kV g 4) (kV g 10)) aG)) fun Y y g=>⟨(qW g (gS (kNm g 0) (gS (kNm g 1) ng))),kM,(ME1.h (t_1 (cS (e_1 (kIx (kV g 2) (kV g 0))) (cS (e_1 (kCa g 0 (y.c c21) (aC (kIx (kV g 3) (kV g 4)) (aC (kV g 1) aQ)))) gZ))))⟩) aQ))))
 (m1n (s_1 (sy (uP oA oE oB (kV g 9) (aC (ME1.h (t_1 (cS (e_1 (kCt g 8 pX n12 qe (aC (kV g 13) aQ))) (cS (e_1 (kCa g 9 c21 (aC (kIx (kV g 8) (kV g 10)) (aC (kIx (kIx (kV g 4) (kV g 10)) aG) aQ)))) gZ)))) aQ)))))))))
 (m1c (a_1 g 11 (e_1 (kCa g 10 c14 (aC (kV g 3) (aC (kCt g 5 m6 n8 kH (aC (kV g 4) aQ)) aQ)))))
 (m1c (a_1 g 12 (e_1 (kCa g 10 c14 (aC (kV g 3) (aC (kCt g 5 m6 n8 kH (aC (kV g 9) aQ)) aQ)))))
 (m1c (s_1 (eG (kTc (o8 g.room) (kIx (kV g 11) aG) (kIx (kV g 12) aG)) (MS2.h (m1n (r_1 (e_1 ic)))) dh))
 (m1c (s_1 (eG (MW.mt (mw_and (kTc (mN g.room) (kIx (kV g 11) aG) mK) (mw_and1 (kTc (o8 g.room) (kCa g 11 c27 (aC (kIx (kV g 11) aG) (aC (kV g 5) aQ))) (kIx (kV g 12) aG))))) (MS2.h (m1n (r_1 (e_1 ic)))) dh))
 (m1c (s_1 (eG (kTc (mN g.room) (kIx (kV g 11) aG) mK) (MS2.h (m1c (s_1 (eG (kTc (o8 g.room) (kCb g 6 fU n7 gf (aC (kIx (kV g 11) aG) aQ)) (kCb g 6 fU n7 gf (aC (kIx (kV g 12) aG) aQ))) (MS2.h (m1n (r_1 (e_1 ic)))) dh))
 (m1n (s_1 (eG (MW.mt (mw_or (o9 (pc (kCa g 12 c28 (aC (kV g 11) (aC (kV g 12) (aC (kV g 5) aQ)))))) (u0 (o9 (pc (kCa g 12 c28 (aC (kV g 12) (aC (kV g 11) (aC (kV g 6) aQ))))))))) (MS2.h (m1n (r_1 (e_1 ic)))) dh))))) dh))
 (m1n (s_1 (eG (kTc (mN g.room) (kIx (kV g 11) aG) mK) (MS2.h (m1c (a_1 g 14 (b_1 eY (l_1 (cS (t_1 (cS (e_1 aG) (cS (e_1 aG) gZ))) gZ)) (e_1 (kCb g 6 fU n7 gf (aC (kV g 4) aQ)))))
 (m1c (s_1 (lM g (vJ g (j:=13) rfl n13 (aC (kIx (kV g 12) aG) (aC (kV g 7) aQ))) (qW g (gS (kNm g 15) (gS (kNm g 10) ng))) (MS2.h (m1n (s_1 (mJ (kCa g 9 c21 (aC (kV g 15) (aC (kIx (kV g 8) (kV g 10)) aQ))) (md (kV g 14) (kV g 10))))))))
 (m1n (s_1 (eG (kTc oj_isn (kCa g 14 c6 (aC (kV g 3) (aC (kV g 4) (aC (kV g 14) aQ)))) ic) (MS2.h (m1n (r_1 (e_1 ic)))) dh)))))) dh))))))))))))))))))))
 (m1n (r_1 (e_1 ic)))))
def bi_law:iY "law" mG P_law:=fun _ _ _ _ _ _=>ar1 fun _=>rfl
abbrev jq:List Str:=["thing"]
def ur{K:qab}(c:Wc X P w K mg base jq jq 0 (av gu))(d:DefCx X)(z6:Zn K "isinstance")(z2:Zn K "bool")(z5:Zn K "int"):MS2 X (aK gu) e8.m:=by unfold e8;apply i7 <;> contradiction
abbrev d3:List Str:=["a","b","rest"]
def kQ{K:qab}(c:Wc X P w K mg base d3 d3 0 (av cZ))(d:DefCx X):MS2 X (aK cZ) cC.m:=by unfold cC;apply c9 <;> contradiction
abbrev iB:List Str:=["top","bottom","shared"]
def rE{K:qab}(c:Wc X P w K mg base iB iB 1 (av fP))(d:DefCx X)(z0:Zn K "abs")(a1:FnAt P w K mg base "greatest_shared" Ps1 bA.m 1)(a0:FnAt P w K mg base "is_whole" Ps0 dW.m 1):MS2 X (aK fP) d9.m:=by unfold d9;apply c9 <;> contradiction
abbrev nL:List Str:=["a","b"]
def h_minus{K:qab}(c:Wc X P w K mg base nL nL 2 (av kE))(d:DefCx X)(a2:FnAt P w K mg base "number_of" Ps2 bN.m 2):MS2 X (aK kE) iX.m:=by unfold iX;apply i7 <;> contradiction
abbrev jF:List Str:=["pairs","wanted","top","bottom","a","b"]
def uw{K:qab}(c:Wc X P w K mg base jF jF 0 (av gG))(d:DefCx X):MS2 X (aK gG) fu.m:=by unfold fu;apply c9 <;> contradiction
abbrev jB:List Str:=["rows","mix","place"]
def tT{K:qab}(c:Wc X P w K mg base jB jB 0 (av gA))(d:DefCx X)(z13:Zn K "zip")(z3:Zn K "dict")(v_NOUGHT:iG K mg "NOUGHT" 0 1):MS2 X (aK gA) fw.m:=by unfold fw;apply i7 <;> contradiction
abbrev lp:List Str:=["n","rows","mix","rights"]
def wL{K:qab}(c:Wc X P w K mg base lp lp 1 (av jw))(d:DefCx X)(z10:Zn K "range")(z1:Zn K "all")(z13:Zn K "zip")(v_NOUGHT:iG K mg "NOUGHT" 0 1)(v_ONE:iG K mg "ONE" 1 1)(a5:FnAt P w K mg base "mixed_at" Ps5 dr.m 1)(a4:FnAt P w K mg base "comes_to" Ps4 cF.m 1):MS2 X (aK jw) gW.m:=by unfold gW;apply c9 <;> contradiction
abbrev fx:List Str:=["numbers","bottom","number"]
def l0{K:qab}(c:Wc X P w K mg base fx fx 1 (av dG))(d:DefCx X)(a1:FnAt P w K mg base "greatest_shared" Ps1 bA.m 1):MS2 X (aK dG) cQ.m:=by unfold cQ;apply c9 <;> contradiction
abbrev iK:List Str:=["n","rows","k","parts","numbers","often","marks"]
def rA{K:qab}(c:Wc X P w K mg base iK iK 2 (av fM))(d:DefCx X)(z10:Zn K "range")(z7:Zn K "len")(z3:Zn K "dict")(v_NOUGHT:iG K mg "NOUGHT" 0 1)(a7:FnAt P w K mg base "shared_bottom" Ps7 cR.m 2):MS2 X (aK fM) eB.m:=by unfold eB;apply c9 <;> contradiction
abbrev jM:List Str:=["row","chosen","place","before"]
def vA{K:qab}(c:Wc X P w K mg base jM jM 0 (av iu))(d:DefCx X)(z13:Zn K "zip"):MS2 X (aK iu) fS.m:=by unfold fS;apply i7 <;> contradiction
abbrev j6:List Str:=["n","rows","held","left","before","place","fit","chosen","other"]
def vT{K:qab}(c:Wc X P w K mg base j6 j6 3 (av hW))(d:DefCx X)(z10:Zn K "range")(z8:Zn K "list")(z4:Zn K "enumerate")(z7:Zn K "len")(a9:FnAt P w K mg base "cleared" Ps9 cr.m 1)(a8:FnAt P w K mg base "whole_row" Ps8 cX.m 3):MS2 X (aK hW) fT.m:=by unfold fT;apply c9 <;> contradiction
abbrev ju:List Str:=["wholes","bottom"]
def t0{K:qab}(c:Wc X P w K mg base ju ju 2 (av gw))(d:DefCx X)(a2:FnAt P w K mg base "number_of" Ps2 bN.m 2):MS2 X (aK gw) fi.m:=by unfold fi;apply i7 <;> contradiction
abbrev jg:List Str:=["held","place","column"]
def tW{K:qab}(c:Wc X P w K mg base jg jg 2 (av gD))(d:DefCx X)(v_NOUGHT:iG K mg "NOUGHT" 0 1)(a2:FnAt P w K mg base "number_of" Ps2 bN.m 2):MS2 X (aK gD) dU.m:=by unfold dU;apply c9 <;> contradiction
abbrev iF:List Str:=["n","held","free","way"]
def rD{K:qab}(c:Wc X P w K mg base iF iF 3 (av fN))(d:DefCx X)(z10:Zn K "range")(v_ONE:iG K mg "ONE" 1 1)(v_NOUGHT:iG K mg "NOUGHT" 0 1)(a12:FnAt P w K mg base "value_at" Ps12 bW.m 3)(a3:FnAt P w K mg base "minus" Ps3 fB.m 3):MS2 X (aK fN) eD.m:=by unfold eD;apply c9 <;> contradiction
abbrev lI:List Str:=["n","rows","told","held","row","x","mixes","ways"]
def xW{K:qab}(c:Wc X P w K mg base lI lI 4 (av jp))(d:DefCx X)(z10:Zn K "range")(a13:FnAt P w K mg base "way_along" Ps13 dz.m 4)(a11:FnAt P w K mg base "all_over" Ps11 cG.m 3)(a12:FnAt P w K mg base "value_at" Ps12 bW.m 3)(a10:FnAt P w K mg base "reduced" Ps10 gc.m 4):MS2 X (aK jp) fD.m:=by unfold fD;apply c9 <;> contradiction
abbrev je:List Str:=["_law_top","_law_bottom","_law_one","_law_other"]
def uE{K:qab}(c:Wc X P w K mg base je je 0 (av gv))(d:DefCx X)(z0:Zn K "abs"):MS2 X (aK gv) eX.m:=by unfold eX;apply c9 <;> contradiction
abbrev ji:List Str:=["_law_pen_here","_law_way"]
def ub{K:qab}(c:Wc X P w K mg base ji ji 1 (av gB))(d:DefCx X)(a16:FnAt P w K mg base "_law_draw" Ps16 ck 1)(a17:FnAt P w K mg base "_law_lowest" Ps17 bT.m 1):MS2 X (aK gB) ft.m:=by unfold ft;apply c9 <;> contradiction
abbrev lv:List Str:=["_law_pen_here","_law_number_here"]
def wM{K:qab}(c:Wc X P w K mg base lv lv 2 (av jv))(d:DefCx X)(z5:Zn K "int")(a16:FnAt P w K mg base "_law_draw" Ps16 ck 1)(a18:FnAt P w K mg base "_law_number" Ps18 bU.m 2):MS2 X (aK jv) gO.m:=by unfold gO;apply c9 <;> contradiction
abbrev lq:List Str:=["_law_a","_law_b"]
def xE{K:qab}(c:Wc X P w K mg base lq lq 1 (av jf))(d:DefCx X)(a17:FnAt P w K mg base "_law_lowest" Ps17 bT.m 1):MS2 X (aK jf) gT.m:=by unfold gT;apply i7 <;> contradiction
abbrev j7:List Str:=["_law_a","_law_b"]
def v3{K:qab}(c:Wc X P w K mg base j7 j7 1 (av hJ))(d:DefCx X)(a17:FnAt P w K mg base "_law_lowest" Ps17 bT.m 1):MS2 X (aK hJ) f7.m:=by unfold f7;apply i7 <;> contradiction
abbrev jR:List Str:=["_law_parts_here","_law_some","_law_found","_law_j","_law_number_here"]
def u8{K:qab}(c:Wc X P w K mg base jR jR 2 (av ig))(d:DefCx X)(a21:FnAt P w K mg base "_law_times" Ps21 aO.m 2)(a20:FnAt P w K mg base "_law_plus" Ps20 bI.m 2):MS2 X (aK ig) fW.m:=by unfold fW;apply c9 <;> contradiction
abbrev j5:List Str:=["_law_pen_here","_law_n","_law_some"]
def vo{K:qab}(c:Wc X P w K mg base j5 j5 3 (av iA))(d:DefCx X)(z10:Zn K "range")(z12:Zn K "tuple")(a16:FnAt P w K mg base "_law_draw" Ps16 ck 1)(a19:FnAt P w K mg base "_law_more" Ps19 ci.m 3):MS2 X (aK iA) gg.m:=by unfold gg;apply i7 <;> contradiction
abbrev gM:List Str:=["_law_pen_here","_law_some","_law_found","_law_one"]
def pS{K:qab}(c:Wc X P w K mg base gM gM 1 (av fe))(d:DefCx X)(z7:Zn K "len")(a16:FnAt P w K mg base "_law_draw" Ps16 ck 1):MS2 X (aK fe) dI.m:=by unfold dI;apply c9 <;> contradiction
abbrev nh:List Str:=["_law_found","_law_other","_law_come","_law_place","_law_way"]
def h_l_met{K:qab}(c:Wc X P w K mg base nh nh 2 (av kC))(d:DefCx X)(z13:Zn K "zip")(z8:Zn K "list")(a21:FnAt P w K mg base "_law_times" Ps21 aO.m 2)(a20:FnAt P w K mg base "_law_plus" Ps20 bI.m 2):MS2 X (aK kC) iU.m:=by unfold iU;apply c9 <;> contradiction
abbrev lE:List Str:=["_law_pen_here","_law_n","_law_x","_law_rows_here","_law_beside","_law_row","_law_parts_here","_law_off"]
def xF{K:qab}(c:Wc X P w K mg base lE lE 4 (av i8))(d:DefCx X)(z10:Zn K "range")(z5:Zn K "int")(a16:FnAt P w K mg base "_law_draw" Ps16 ck 1)(a18:FnAt P w K mg base "_law_number" Ps18 bU.m 2)(a22:FnAt P w K mg base "_law_comes" Ps22 eR.m 3)(a23:FnAt P w K mg base "_law_parts" Ps23 eS.m 4):MS2 X (aK i8) gU.m:=by unfold gU;apply c9 <;> contradiction
abbrev i3:List Str:=["_law_some","_law_places","_law_found","_law_j"]
def uK{K:qab}(c:Wc X P w K mg base i3 i3 0 (av gC))(d:DefCx X)(z10:Zn K "range")(z7:Zn K "len"):MS2 X (aK gC) fg.m:=by unfold fg;apply c9 <;> contradiction
abbrev iI:List Str:=["_law_one","_law_other","_law_places","_law_place","_law_way","_law_come"]
def rB{K:qab}(c:Wc X P w K mg base iI iI 3 (av fR))(d:DefCx X)(z13:Zn K "zip")(a27:FnAt P w K mg base "_law_called" Ps27 bF.m 1)(a25:FnAt P w K mg base "_law_met" Ps25 eU.m 3)(a20:FnAt P w K mg base "_law_plus" Ps20 bI.m 2):MS2 X (aK fR) eE.m:=by unfold eE;apply c9 <;> contradiction
def all_fn{K:qab}(b:Ba P w K mg base)
  (D0:DefAt K "is_whole" gu)
  (D1:DefAt K "greatest_shared" cZ)
  (D2:DefAt K "number_of" fP)
  (D3:DefAt K "minus" kE)
  (D4:DefAt K "comes_to" gG)
  (D5:DefAt K "mixed_at" gA)
  (D6:DefAt K "is_mix" jw)
  (D7:DefAt K "shared_bottom" dG)
  (D8:DefAt K "whole_row" fM)
  (D9:DefAt K "cleared" iu)
  (D10:DefAt K "reduced" hW)
  (D11:DefAt K "all_over" gw)
  (D12:DefAt K "value_at" gD)
  (D13:DefAt K "way_along" fN)
  (D14:DefAt K "answer" jp)
  (D15:DefAt K "_law_pen" ko)
  (D16:DefAt K "_law_draw" jm)
  (D17:DefAt K "_law_lowest" gv)
  (D18:DefAt K "_law_number" gB)
  (D19:DefAt K "_law_more" jv)
  (D20:DefAt K "_law_plus" jf)
  (D21:DefAt K "_law_times" hJ)
  (D22:DefAt K "_law_comes" ig)
  (D23:DefAt K "_law_parts" iA)
  (D24:DefAt K "_law_shuffled" fe)
  (D25:DefAt K "_law_met" kC)
  (D26:DefAt K "_law_rows" i8)
  (D27:DefAt K "_law_called" gC)
  (D28:DefAt K "_law_all_met" fR)
  (D29:DefAt K "law" mG)
  (z0:Zn K "abs")
  (z1:Zn K "all")
  (z2:Zn K "bool")
  (z3:Zn K "dict")
  (z4:Zn K "enumerate")
  (z5:Zn K "int")
  (z6:Zn K "isinstance")
  (z7:Zn K "len")
  (z8:Zn K "list")
  (z9:Zn K "min")
  (z10:Zn K "range")
  (z11:Zn K "sorted")
  (z12:Zn K "tuple")
  (z13:Zn K "zip")
  (y_NOUGHT:jC K "NOUGHT" 0 1)
  (y_ONE:jC K "ONE" 1 1)
   :FnAt P w K mg base "law" P_law f_law 6:=by
 have v_NOUGHT:=y_NOUGHT.mg b.kin b.ns;have v_ONE:=y_ONE.mg b.kin b.ns;have a0:=fnW (F:=dW) jq b D0 fun X c d=>ur c d z6 z2 z5;have a1:=fnW (F:=bA) d3 b D1 fun X c d=>kQ c d;have a2:=fnW (F:=bN) iB b D2 fun X c d=>rE c d z0 a1 a0;have a3:=fnW (F:=fB) nL b D3 fun X c d=>h_minus c d  a2;have a4:=fnW (F:=cF) jF b D4 fun X c d=>uw c d;have a5:=fnW (F:=dr) jB b D5 fun X c d=>tT c d z13 z3 v_NOUGHT;have a6:=fnW (F:=dn) lp b D6 fun X c d=>wL c d z10 z1 z13 v_NOUGHT v_ONE a5 a4;have a7:=fnW (F:=cR) fx b D7 fun X c d=>l0 c d  a1;have a8:=fnW (F:=cX) iK b D8 fun X c d=>rA c d z10 z7 z3 v_NOUGHT a7;have a9:=fnW (F:=cr) jM b D9 fun X c d=>vA c d z13;have a10:=fnW (F:=gc) j6 b D10 fun X c d=>vT c d z10 z8 z4 z7 a9 a8;have a11:=fnW (F:=cG) ju b D11 fun X c d=>t0 c d  a2;have a12:=fnW (F:=bW) jg b D12 fun X c d=>tW c d v_NOUGHT a2;have a13:=fnW (F:=dz) iF b D13 fun X c d=>rD c d z10 v_ONE v_NOUGHT a12 a3;have a14:=fnW (F:=bv) lI b D14 fun X c d=>xW c d z10 a13 a11 a12 a10;have a15:=fnN (k:=0) (N:=tq) (G:=sM) (ps:=P_l_pen) b D15 fun X e h g d=>b_l_pen h g d (e.n z0) (e.n z7) (e.n z9);have a16:=fnN (k:=0) (N:=pG) (G:=pI) (ps:=xP) b D16 fun X e h g d=>wT h g d;have a17:=fnW (F:=bT) je b D17 fun X c d=>uE c d z0;have a18:=fnW (F:=bU) ji b D18 fun X c d=>ub c d  a16 a17;have a19:=fnW (F:=ci) lv b D19 fun X c d=>wM c d z5 a16 a18;have a20:=fnW (F:=bI) lq b D20 fun X c d=>xE c d  a17;have a21:=fnW (F:=aO) j7 b D21 fun X c d=>v3 c d  a17;have a22:=fnW (F:=eR) jR b D22 fun X c d=>u8 c d  a21 a20;have a23:=fnW (F:=eS) j5 b D23 fun X c d=>vo c d z10 z12 a16 a19;have a24:=fnW (F:=bp) gM b D24 fun X c d=>pS c d z7 a16;have a25:=fnW (F:=eU) nh b D25 fun X c d=>h_l_met c d z13 z8 a21 a20;have a26:=fnW (F:=dL) lE b D26 fun X c d=>xF c d z10 z5 a16 a18 a22 a23;have a27:=fnW (F:=bF) i3 b D27 fun X c d=>uK c d z10 z7;have a28:=fnW (F:=bt) iI b D28 fun X c d=>rB c d z13 a27 a25 a20;have a29:=fnN (k:=5) (N:=N_law) (G:=G_law) (ps:=P_law) b D29 fun X e h g d=>b_law h g d (a6.c e) (a21.c e) (a28.c e) (a27.c e) (a14.c e) (a19.c e) (a24.c e) (a26.c e) (a16.c e) (a15.c e) (e.n z10) (e.n z13) (e.n z7) (e.n z8) (e.n z12) (e.n z11);exact a29
end Law
namespace PySem.W.Fast
def tw2494890417335508110:=0
def tw17019391810871867108:=0
def tw18232486418481936752:=0
def tw3568073461522841203:=0
def tw3655598128128371843:=0
def tw9560402100081261627:=0
def tw3910254000117157650:=0
def tw3477683026102653946:=0
def tw15562472808478456724:=0
def tw12401735299828369272:=0
def tw17471676552964279972:=0
def tw5223763731914967910:=0
def tw15318130301528384806:=0
def tw4153615706512850469:=0
def tw12483406821744238086:=0
def tw9681155105775609297:=0
def tw2969415635416663377:=0
def tw1365260264141405618:=0
def tw8641246936850855710:=0
def tw16763106535872144116:=0
def tw10453615676196873068:=0
def tw7453555368493156816:=0
def tw17760970124417175179:=0
def tw11370043272266665222:=0
def tw3041224022675222148:=0
def tw7397495343097296451:=0
def tw15193312995606103746:=0
def tw16399208346231629402:=0
def tw9743224278839011251:=0
def tw1615928400070406293:=0
def tw1840195755367575223:=0
def tw14269495498973724620:=0
def tw8770528023974632795:=0
def tw7386843507236264984:=0
def tw261502361042667298:=0
def tw825384701893271985:=0
def tw17876905502128211306:=0
def tw15879473642890122294:=0
def tw8381063040735006840:=0
def tw7317050554719607325:=0
def tw15837211505312601151:=0
def tw1628667806613712286:=0
def tw3133116030219186072:=0
def tw9825055573100140978:=0
def tw9777354880165122046:=0
def tw3273385265169424222:=0
def tw9253604484946119913:=0
def tw1927129893487756089:=0
def tw10725528822692072323:=0
def tw16608128886209372718:=0
def tw4522556104645657635:=0
def tw9383465696891300714:=0
def tw12100663749457818960:=0
def tw5783979922337482805:=0
def tw4298100020113237371:=0
def tw11656593642170776114:=0
def tw9292730109922121087:=0
def tw6377282707777928598:=0
def tw17953928935504004130:=0
def tw7859202160880650029:=0
def tw3343666126441540383:=0
def tw4464827237489057574:=0
def tw7883836333536353627:=0
def tw1611975710078852856:=0
def tw4532730548222153883:=0
def tw7731732005793566027:=0
def tw15289478727669638211:=0
def tw2980075521504593470:=0
def tw7953010589769635967:=0
def tw6404728179299457355:=0
def tw12601584306164787723:=0
def tw2864367250837833020:=0
def tw5326669924178477227:=0
end PySem.W.Fast
open PySem PySem.W PyProof.Rows
local macro_rules | `(tactic| and_intros) => `(tactic| (dsimp only [L2.KOf]; first | k_is | (refine' MM.defAt_mk ?a ?l ?c ?k; (case a => k_is); (case l => k_is); (case c => k_is); (case k => k_is))))
set_option maxRecDepth 100000 in
set_option maxHeartbeats 0 in
theorem PySem.Challenge.cw_fewfills_k54_whole_rows_answered_otherwi_holds : PySem.Challenge.rw_fewfills_k54_whole_rows_answered_otherwi.Holds := by
  w_on; o_law; k_head; (case hw=>w_witness2)
  k_fill
  refine MM.walk_M (l:=PySem.Challenge.rw_fewfills_k54_whole_rows_answered_otherwi) (k:=6) (x:="_law_script") (F:=Law.f_law) rfl rfl ⟨rfl,by decide,by decide,rfl⟩ (by decide +kernel) rfl (fun w h Y=>PySem.W.kIn_of Y) ?F Law.law_true
  case F=>
    intro w mg fa h KX G hmg
    have Dlaw:MM.DefAt (L2.KOf KX) "law" Law.mG:=by and_intros
    have D0:MM.DefAt (L2.KOf KX) "is_whole" Law.gu:=by and_intros
    have D1:MM.DefAt (L2.KOf KX) "greatest_shared" Law.cZ:=by and_intros
    have D2:MM.DefAt (L2.KOf KX) "number_of" Law.fP:=by and_intros
    have D3:MM.DefAt (L2.KOf KX) "minus" Law.kE:=by and_intros
    have D4:MM.DefAt (L2.KOf KX) "comes_to" Law.gG:=by and_intros
    have D5:MM.DefAt (L2.KOf KX) "mixed_at" Law.gA:=by and_intros
    have D6:MM.DefAt (L2.KOf KX) "is_mix" Law.jw:=by and_intros
    have D7:MM.DefAt (L2.KOf KX) "shared_bottom" Law.dG:=by and_intros
    have D8:MM.DefAt (L2.KOf KX) "whole_row" Law.fM:=by and_intros
    have D9:MM.DefAt (L2.KOf KX) "cleared" Law.iu:=by and_intros
    have D10:MM.DefAt (L2.KOf KX) "reduced" Law.hW:=by and_intros
    have D11:MM.DefAt (L2.KOf KX) "all_over" Law.gw:=by and_intros
    have D12:MM.DefAt (L2.KOf KX) "value_at" Law.gD:=by and_intros
    have D13:MM.DefAt (L2.KOf KX) "way_along" Law.fN:=by and_intros
    have D14:MM.DefAt (L2.KOf KX) "answer" Law.jp:=by and_intros
    have D15:MM.DefAt (L2.KOf KX) "_law_pen" Law.ko:=by and_intros
    have D16:MM.DefAt (L2.KOf KX) "_law_draw" Law.jm:=by and_intros
    have D17:MM.DefAt (L2.KOf KX) "_law_lowest" Law.gv:=by and_intros
    have D18:MM.DefAt (L2.KOf KX) "_law_number" Law.gB:=by and_intros
    have D19:MM.DefAt (L2.KOf KX) "_law_more" Law.jv:=by and_intros
    have D20:MM.DefAt (L2.KOf KX) "_law_plus" Law.jf:=by and_intros
    have D21:MM.DefAt (L2.KOf KX) "_law_times" Law.hJ:=by and_intros
    have D22:MM.DefAt (L2.KOf KX) "_law_comes" Law.ig:=by and_intros
    have D23:MM.DefAt (L2.KOf KX) "_law_parts" Law.iA:=by and_intros
    have D24:MM.DefAt (L2.KOf KX) "_law_shuffled" Law.fe:=by and_intros
    have D25:MM.DefAt (L2.KOf KX) "_law_met" Law.kC:=by and_intros
    have D26:MM.DefAt (L2.KOf KX) "_law_rows" Law.i8:=by and_intros
    have D27:MM.DefAt (L2.KOf KX) "_law_called" Law.gC:=by and_intros
    have D28:MM.DefAt (L2.KOf KX) "_law_all_met" Law.fR:=by and_intros
    have Z29:PySem.W.nsIn (L2.KOf KX) mainGlobals "abs" = some none:=by and_intros
    have Z30:PySem.W.nsIn (L2.KOf KX) mainGlobals "all" = some none:=by and_intros
    have Z31:PySem.W.nsIn (L2.KOf KX) mainGlobals "bool" = some none:=by and_intros
    have Z32:PySem.W.nsIn (L2.KOf KX) mainGlobals "dict" = some none:=by and_intros
    have Z33:PySem.W.nsIn (L2.KOf KX) mainGlobals "enumerate" = some none:=by and_intros
    have Z34:PySem.W.nsIn (L2.KOf KX) mainGlobals "int" = some none:=by and_intros
    have Z35:PySem.W.nsIn (L2.KOf KX) mainGlobals "isinstance" = some none:=by and_intros
    have Z36:PySem.W.nsIn (L2.KOf KX) mainGlobals "len" = some none:=by and_intros
    have Z37:PySem.W.nsIn (L2.KOf KX) mainGlobals "list" = some none:=by and_intros
    have Z38:PySem.W.nsIn (L2.KOf KX) mainGlobals "min" = some none:=by and_intros
    have Z39:PySem.W.nsIn (L2.KOf KX) mainGlobals "range" = some none:=by and_intros
    have Z40:PySem.W.nsIn (L2.KOf KX) mainGlobals "sorted" = some none:=by and_intros
    have Z41:PySem.W.nsIn (L2.KOf KX) mainGlobals "tuple" = some none:=by and_intros
    have Z42:PySem.W.nsIn (L2.KOf KX) mainGlobals "zip" = some none:=by and_intros
    have YNOUGHT:MM.jC (L2.KOf KX) "NOUGHT" 0 1:=by
      dsimp only [L2.KOf]
      refine' MM.sP ?h ?l
      (case h=>k_is)
      (case l=>k_is)
    have YONE:MM.jC (L2.KOf KX) "ONE" 1 1:=by
      dsimp only [L2.KOf]
      refine' MM.sP ?h ?l
      (case h=>k_is)
      (case l=>k_is)
    exact MM.head_M Dlaw Law.bi_law hmg KX G fun base kb nb=>Law.all_fn ⟨kb,nb⟩ D0 D1 D2 D3 D4 D5 D6 D7 D8 D9 D10 D11 D12 D13 D14 D15 D16 D17 D18 D19 D20 D21 D22 D23 D24 D25 D26 D27 D28 Dlaw Z29 Z30 Z31 Z32 Z33 Z34 Z35 Z36 Z37 Z38 Z39 Z40 Z41 Z42 YNOUGHT YONE
