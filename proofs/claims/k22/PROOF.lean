import PyProof.Rows.All
import Wide.All
import OpenK.AllK
import Wide.FinOn
import Lean
import PyProof.EqAt
import PyProof.EqKinds
import PyProof.TupleCall
import PyProof.ReprRoads
import PyProof.FitsInt
import PyProof.FitsBits
import PyProof.Rows.IntMath
import PyProof.ConsumeWalk
import PyProof.WalkInts
import PyProof.ListRange
import PySem.SetTable
import PyProof.SetKind
import PyProof.TupleKey
import PyProof.DictKinds
import PyProof.IsRules
import PyProof.Rows.SetFrom
import PyProof.CollectIter
import PyProof.ForAny
import PyProof.Rows.SortRuns
import PyProof.Rows.SortKey
import KE.KSortTup
import PyProof.ZipIter
import PyProof.Draws
import PyProof.EnumMake
import PyProof.TupleIter
import PyProof.P3Eq
import PyProof.StrCalls2
import PyProof.StrCalls3
import PyProof.FString
import PyProof.SetRoads
import PyProof.Rows.SeqMore
import PyProof.CallFns
import PyProof.StrOps
import PyProof.Rows.Chain
import PyProof.Rows.TupDisplay
import PyProof.MeetsSeq
import KE.KDictList
import PyProof.DictRoadsH
import PyProof.SumWalkG
import PyProof.DictTruth
import PyProof.MinMaxWalk
import PyProof.Rows.CallKwBuiltin
import PyProof.TupleOfStr
import PySem.Challenge.RW_fewfills_k22_least_of_all_orders
set_option Elab.async false
set_option bootstrap.genMatcherCode false
set_option compiler.extract_closed false
set_option genSizeOf false
set_option linter.all false
set_option maxRecDepth 100000
noncomputable section
local macro_rules|`(command|def $i:declId $s:optDeclSig $v:declVal)=>`(command|noncomputable def $i:declId $s:optDeclSig $v:declVal)
local macro_rules|`(command|abbrev $i:declId $s:optDeclSig $v:declVal)=>`(command|noncomputable abbrev $i:declId $s:optDeclSig $v:declVal)
open PySem
abbrev _root_.UM:=List Str
abbrev _root_.UN:=List Int
abbrev _root_.UP:=List (List Int)
abbrev _root_.UQ:=List Nat
abbrev _root_.US:=List Addr
abbrev _root_.UT:=List Value
abbrev _root_.UU:=List (Addr×Obj)
abbrev _root_.UV:=Option Value
abbrev _root_.UW:=Option Int
abbrev _root_.UX:=List Expr
abbrev _root_.UA:=Value->Shared->Prop
abbrev _root_.UB:=Str->Option Value
abbrev _root_.UD:=Option Nat
abbrev _root_.UE:=Option Addr
abbrev d_:=@wpAny_bind
abbrev ib:=@PySem.W.Frag
abbrev lb:=@List.mem_cons_of_mem
abbrev il:=@Nat.le_refl
abbrev m_:=@Heap.get?_push_of_some
abbrev ii:=@wpAny_pure
abbrev oI:=@List.getElem?_eq_some_iff
abbrev nr:=@List.getElem?_set_ne
abbrev b_:=@if_pos
abbrev qr:=@List.getElem?_append_left
abbrev o_:=@List.mem_append_right
abbrev lT:=@List.mem_append
abbrev k4:=@List.mem_cons
abbrev f_:=@if_neg
abbrev oQ:=@Nat.lt_of_lt_of_le
abbrev o0:=@Bool.false_eq_true
abbrev n3:=@List.mem_filter
abbrev vu:=@Option.map_eq_some_iff
abbrev pr:=@List.getElem?_map
abbrev rT:=@Heap.get?_push_size
abbrev w_:=@Array.getElem?_toList
abbrev qd:=@List.size_toArray
abbrev l_:=@Heap.lt_size
abbrev zb:=@List.getElem?_eq_getElem
abbrev xJ:=@List.getElem?_set_self
abbrev xg:=@List.mem_append_left
abbrev mu:=@Nat.le_trans
abbrev n9:=@List.map_cons
abbrev t_:=@List.set_cons_zero
abbrev nw:=@List.mem_map
abbrev vv:=@List.set_cons_succ
abbrev wj:=@List.mem_cons_self
abbrev q7:=@List.length_map
abbrev Bo:=@List.mem_iff_getElem?
abbrev Ch:=@List.getElem?_append_right
abbrev z_:=@List.length_append
abbrev pu:=@Nat.zero_add
abbrev BI:=@Array.length_toList
abbrev AO:=@Int.toNat_natCast
abbrev AQ:=@List.length_cons
abbrev u_:=@Nat.ne_of_lt
abbrev vw:=@Nat.le_of_lt
abbrev B3:=@List.mem_singleton
abbrev Ci:=@List.mem_of_getElem?
abbrev C2:=@List.drop_eq_getElem_cons
abbrev wl:=@Nat.zero_le
abbrev C3:=@Option.bind_eq_some_iff
abbrev C4:=@List.length_eq_zero_iff
abbrev Cj:=@List.nodup_append
abbrev Ca:=@List.length_nil
abbrev C5:=@List.length_filter_le
abbrev FP:=@List.pairwise_iff_getElem
abbrev Df:=@Heap.get?_update_other
abbrev Bp:=@List.map_map
abbrev Cu:=@List.length_drop
abbrev Cv:=@Option.bind_some
abbrev Dg:=@List.getElem?_eq_none
abbrev B4:=@Nat.lt_irrefl
abbrev FQ:=@List.getElem?_cons_succ
abbrev FR:=@List.getElem?_cons_zero
abbrev Ck:=@List.mem_range
abbrev CN:=@List.append_assoc
abbrev C6:=@List.mem_filterMap
abbrev FS:=@List.take_append_drop
abbrev GN:=@List.getElem?_replicate
abbrev C7:=@Option.getD_some
abbrev C8:=@List.filter_cons
abbrev FT:=@Nat.add_sub_cancel'
abbrev FU:=@List.map_congr_left
abbrev GO:=@Heap.get?_update_self
abbrev Dh:=@Array.toList_push
abbrev FV:=@Bool.false_ne_true
abbrev Di:=@List.length_take
abbrev Dj:=@List.lookup_cons
abbrev K_:=@List.perm_ext_iff_of_nodup
abbrev La:=@Array.getElem?_eq_some_iff
abbrev FW:=@Nat.le_of_lt_succ
abbrev FX:=@Bool.not_eq_true'
abbrev GP:=@Array.toList_append
abbrev GQ:=@List.getElem_of_mem
abbrev Lb:=@Array.getElem?_eq_getElem
abbrev C9:=@List.take_succ
abbrev Dk:=@List.nodup_cons
abbrev Dl:=@Array.size_push
abbrev GR:=@Nat.sub_add_cancel
abbrev GU:=@List.pairwise_cons
abbrev FY:=@List.take_length
abbrev FZ:=@Array.toList_inj
abbrev F0:=@List.map_append
abbrev Lc:=@List.take_of_length_le
abbrev Ld:=@Array.getElem?_extract
abbrev Lf:=@List.drop_eq_nil_of_le
abbrev Op:=@Int.fmod_eq_emod_of_nonneg
abbrev GV:=@Nat.succ_le_succ
abbrev GW:=@List.drop_length
abbrev GX:=@List.not_mem_nil
abbrev GY:=@List.mem_flatMap
abbrev Lg:=@List.length_replicate
abbrev Lh:=@List.getElem?_toArray
abbrev Dm:=@Bool.not_true
abbrev Kw:=@Nat.lt_of_le_of_lt
abbrev F1:=@Heap.size_push
abbrev Li:=@Nat.le_sub_one_of_lt
abbrev Oq:=@List.getElem?_take_of_lt
abbrev GZ:=@Option.map_some
abbrev Kx:=@List.pairwise_map
abbrev Ky:=@List.ext_getElem?
abbrev Kz:=@Nat.le_of_succ_le
abbrev Ot:=@List.length_filterMap_le
abbrev Dn:=@Nat.ne_of_gt
abbrev Do:=@List.map_nil
abbrev KA:=@Nat.le_add_right
abbrev Lj:=@Nat.pos_of_ne_zero
abbrev Ll:=@Int.lt_or_gt_of_ne
abbrev KC:=@List.append_nil
abbrev KD:=@Nat.min_eq_left
abbrev Lm:=@Array.size_append
abbrev Ln:=@Nat.lt_succ_of_lt
abbrev C_:=@Nat.sub_le
abbrev PJ:=@Array.getElem?_eq_none_iff
abbrev PK:=@Array.perm_iff_toList_perm
abbrev Ou:=@Array.toList_extract
abbrev Ov:=@List.mem_of_mem_drop
abbrev KG:=@Bool.not_false
abbrev PL:=@List.extract_eq_take_drop
abbrev Lo:=@Bool.and_eq_true
abbrev Lp:=@Nat.lt_succ_self
abbrev Lq:=@List.perm_middle
abbrev Lr:=@Nat.sub_sub_self
abbrev Ow:=@List.filterMap_cons
abbrev Ox:=@Nat.sub_le_sub_left
abbrev Oy:=@Nat.add_lt_add_left
abbrev PM:=@List.pairwise_filterMap
abbrev Oz:=@List.getElem?_drop
abbrev PN:=@List.pairwise_lt_range
abbrev F2:=@Nat.sub_lt
abbrev G0:=@Nat.one_pos
abbrev OA:=@List.getElem_drop
abbrev OB:=@List.nodup_range
abbrev OC:=@List.getElem_mem
abbrev PP:=@Nat.pow_le_pow_right
abbrev PQ:=@List.pairwise_append
abbrev PX:=@List.getElem?_zipIdx
abbrev PY:=@List.perm_cons_erase
abbrev KH:=@Nat.le_succ
abbrev PZ:=@Heap.get?_update_ne
abbrev Sn:=@List.perm_append_singleton
abbrev So:=@List.getD_eq_getElem?_getD
abbrev P0:=@Bool.not_eq_false'
abbrev P1:=@Int.emod_lt_of_pos
abbrev OD:=@List.nodup_nil
abbrev Sq:=@List.exists_mem_of_ne_nil
abbrev P2:=@List.foldl_append
abbrev P4:=@List.drop_sublist
abbrev P5:=@Nat.le_succ_of_le
abbrev Sr:=@List.length_erase_of_mem
abbrev OE:=@List.any_cons
abbrev Ss:=@Nat.add_sub_cancel_left
abbrev Ls:=@Int.le_refl
abbrev P6:=@List.all_eq_true
abbrev P7:=@Nat.min_eq_right
abbrev P8:=@Nat.lt_of_not_le
abbrev Su:=@Array.getElem?_eq_none
abbrev Sv:=@List.getElem_cons_drop
abbrev Sw:=@Nat.sub_eq_zero_iff_le
abbrev Sx:=@Nat.eq_zero_of_not_pos
abbrev P9:=@List.of_mem_zip
abbrev P_:=@List.foldl_cons
abbrev OF:=@Nat.lt_trans
abbrev Qb:=@Nat.not_lt_zero
abbrev Sy:=@Nat.le_sub_of_add_le'
abbrev Sz:=@List.perm_append_comm
abbrev SA:=@Nat.le_of_sub_eq_zero
abbrev Qc:=@Int.emod_nonneg
abbrev Qd:=@Bool.and_false
abbrev Qe:=@Nat.sub_add_eq
abbrev Qf:=@Nat.le_of_eq
abbrev Qg:=@Nat.pow_succ
abbrev Qh:=@Int.le_trans
noncomputable section
local macro_rules | `(tactic| ext) => `(tactic| omega)
local instance (priority:=1) cdec (p:Prop):Decidable p:=Classical.propDecidable p
local macro_rules | `(⋯) => `(by lia)
open Option renaming some->J,none->Y
open Bool renaming true->I,false->T
namespace L2
open PySem.Spec PyProof.Rows
abbrev Cb:=Sum Int Str
def F3:Cb->Value->Bool
 |.inl k,v=>Value.isInt k v
 |.inr x,v=>Value.isStrOf x v
def Qi(w:World):Cb->Int
 |.inl k=>hashInt k
 |.inr x=>hashStr w x
def bX:∀{k:Cb}{v:Value},F3 k v=I->(∃i t,k=Sum.inl i/\v=Value.int i t)\/(∃x t,k=Sum.inr x/\v=Value.str x t)
 |.inl i,v,h=>by
  obtain⟨t,e⟩:=Value.isInt_shape h;exact .inl ⟨i,t,rfl,e⟩
 |.inr x,v,h=>by
  obtain⟨t,e⟩:=Value.isStrOf_shape h;exact .inr ⟨x,t,rfl,e⟩
def G1(a b:Int):decide ((Sum.inl a:Cb)=Sum.inl b)=(a==b):=by
 by_cases e:a=b
 .subst e;simp
 .have h:¬(Sum.inl a:Cb)=Sum.inl b:=λq=>e (Sum.inl.inj q);rw[decide_eq_false h];exact(beq_eq_false_iff_ne.mpr e).symm
def G2(a b:Str):decide ((Sum.inr a:Cb)=Sum.inr b)=decide (a=b):=by simp
def G3(a:Int)(b:Str):decide ((Sum.inl a:Cb)=Sum.inr b)=T:=decide_eq_false (λq=>nomatch q)
def G4(a:Str)(b:Int):decide ((Sum.inr a:Cb)=Sum.inl b)=T:=decide_eq_false (λq=>nomatch q)
def pX(prog:Program)(w:World):PySem.KeyKind prog w Cb where
 is:=F3
 hash:=Qi w
 inj:=λv a b l f=>by
  rcases bX l with⟨i,t,rfl,rfl⟩|⟨x,t,rfl,rfl⟩
  .rcases bX f with⟨j,u,rfl,e⟩|⟨y,u,rfl,e⟩
   .injection e with e1 _;rw[e1]
   .exact nomatch e
  .rcases bX f with⟨j,u,rfl,e⟩|⟨y,u,rfl,e⟩
   .exact nomatch e
   .injection e with e1 _;rw[e1]
 byValue:=λk v h=>by
  rcases bX h with⟨i,t,rfl,rfl⟩|⟨x,t,rfl,rfl⟩<;>rfl
 pyHash:=λhv h=>by
  rcases bX hv with⟨i,t,rfl,rfl⟩|⟨x,t,rfl,rfl⟩
  .exact wpAny_pyHash_int h
  .exact wpAny_pyHash_str h
 eqBool:=λr hv h=>by
  rcases bX r with⟨i,t,rfl,rfl⟩|⟨x,t,rfl,rfl⟩
  .rcases bX hv with⟨j,u,rfl,rfl⟩|⟨y,u,rfl,rfl⟩
   .rw[G1]at h;exact wpAny_eqBool_int h
   .rw[G3]at h;exact SeqAt.EqAt.int_str i t y u _ _ _ _ h
  .rcases bX hv with⟨j,u,rfl,rfl⟩|⟨y,u,rfl,rfl⟩
   .rw[G4]at h;exact SeqAt.EqAt.str_int x t j u _ _ _ _ h
   .rw[G2]at h;exact wpAny_eqBool_str h
 «strs»:=λk x t v h=>by
  rcases bX h with⟨i,u,rfl,e⟩|⟨y,u,rfl,e⟩
  .exact nomatch e
  .injection e with e1 _
   subst e1;cases v<;>rfl
inductive V where
 |non | bl (b:Bool) | int (i:Int) | str (x:Str) | byt (b:Array UInt8) | flt (b:UInt64) | ref (a:Addr) | ty (n:String)
 deriving DecidableEq
def aN:V->Value->Prop
 |.non,u=>u=Value.none
 |.bl b,u=>u=Value.bool b
 |.int i,u=>∃t,u=Value.int i t
 |.str x,u=>∃t,u=Value.str x t
 |.byt b,u=>∃t,u=Value.bytes b t
 |.flt b,u=>∃t,u=Value.float b t
 |.ref a,u=>u=Value.ref a
 |.ty n,u=>u=Value.type n
abbrev aB:List V->UT->Prop:=Paired aN
def aB.length(r:aB xs us):xs.length=us.length:=Paired.length r
def aB.get{xs:List V}{a:UT}{i:Nat}{x:V}(r:aB xs a)(e:xs[i]?=J x):∃u,a[i]?=J u/\aN x u:=by
 induction r generalizing i with
 |nil=>cases e
 |cons r t f =>
  cases i with
  |zero=>cases e;exact⟨_,rfl,r⟩
  |succ i=>have z:=@f i e;exact z
def aB.set(r:aN x u)(i:Nat)(q:aB xs us):aB (xs.set i x) (us.set i u):=by
 induction q generalizing i with
 |nil=>exact .nil
 |cons a t f =>
  cases i with
  |zero=>exact .cons r t
  |succ i=>exact .cons a (f i)
def aB.append(r:aB xs us)(s:aB ys ws):aB (xs++ys) (us++ws):=by
 induction r with
 |nil=>exact s
 |cons r t a=>exact .cons r a
def aB.take(n:Nat)(r:aB xs us):aB (xs.take n) (us.take n):=by
 induction r generalizing n with
 |nil=>cases n<;>exact .nil
 |cons a t f =>
  cases n with
  |zero=>exact .nil
  |succ n=>exact .cons a (f n)
def aB.drop(n:Nat)(r:aB xs us):aB (xs.drop n) (us.drop n):=by
 induction r generalizing n with
 |nil=>cases n<;>exact .nil
 |cons a t f =>
  cases n with
  |zero=>exact .cons a t
  |succ n=>exact f n
def oO:Option V->UV->Prop
 |some v,J u=>aN v u
 |none,Y=>True
 |_,_=>False
def KV{κ:Type}:List (κ×V)->List (κ×Value)->Prop:=Paired λ(p:κ×V)(q:κ×Value)=>p.1=q.1/\aN p.2 q.2
def kV:Cb->V
 |.inl i=>.int i
 |.inr x=>.str x
inductive HO where
 |lst(xs:List V)
 |tup(xs:List V)
 |dK(kvs:List (Cb×V)) | dT (kvs:List (List Cb×V))
 |set(S:Int->Bool)(n:Nat)
 |ins(C dx:Addr)(fs:List (Str×V))
 |own(x:Addr)
 |xd(fs:List (Str×V))
 |met(f x:Addr)
 |rng(lo hi:Int)
 |frz(o:Obj)(u:HO)
 |tbl(ps:Array Value)
 |ext(φ:Heap->Prop)
abbrev Hp:=Addr->Option HO
def kg(H:Hp)(a:Addr)(o:HO):Hp:=λb=>if b=a then J o else H b
def bQ:kg H a o a=J o:=by unfold kg;rw[b_ rfl]
def aY(h:b≠a):kg H a o b=H b:=by unfold kg;rw[f_ h]
def bR{H:Hp}{a b:Addr}{o:HO}(h:H a=J o)(f:H b=Y):a≠b:=by intro e;subst e;rw[h]at f;cases f
def gO(h:Heap)(a:Addr)(f:Array Value):Prop:=∃o,h.get? a=J o/\o.cls=.type "tuple"/\(∃n,o.data=.seq f n)/\o.dict=Y
def gO.tup(t:gO h a its):IsTup h a its:=let⟨o,e,c,d,_⟩:=t;⟨o,e,c,d⟩
def gO.lt(t:gO h a its):a<h.objs.size:=t.tup.lt
def gO.new(h:Heap)(a:Array Value):gO (h.push { cls:=.type "tuple",data:=.seq a}) h.objs.size a:=⟨_,rT h rfl,rfl,⟨_,rfl⟩,rfl⟩
section
variable(P:Program)(w:World)
def ObjOk(H:Hp)(h:Heap)(a:Addr):HO->Prop
 |.lst xs=>xs.length<=sizeLine/\∃(i:UT) (n:Nat),aB xs i/\h.get? a=J { cls:=.type "list",data:=.seq i.toArray n}
 |.tup xs=>xs.length<=sizeLine/\∃i:UT,aB xs i/\gO h a i.toArray
 |.dK j=>j.length<=sizeLine/\(a==sysModules)=T/\∃y,KV j y/\h.DictOf (pX P w) a y
 |.dT j=>j.length<=sizeLine/\(a==sysModules)=T/\∃xs:List (List Cb×Addr×Value),
   Paired (λ(p:List Cb×V)(q:List Cb×Addr×Value)=>p.1=q.1/\H q.2.1=J (.tup (p.1.map kV))/\aN p.2 q.2.2) j xs /\
   ∃o B F,h.get? a=J o/\o.ExactDict/\o.data=.dict B F/\B.toList=xs.map (entryOfKey (tupleKind (pX P w)))/\(xs.map (·.1)).Nodup
 |.set S n=>h.SetOf (intKind P w) a S n
 |.ins C r fs=>H r=J (.own a)/\fs.length<=1000/\r≠a/\h.get? a=J (PySem.W.instObj C r) /\
   ∃l,h.Ns1 r l/\(∀f,oO (fs.lookup f) (l f))/\PySem.Within l (fs.map (·.1))
 |.own _=>∃o,h.get? a=J o
 |.xd fs=>∃l,h.Ns1 a l/\∀f,oO (fs.lookup f) (l f)
 |.rng lo L=>∃t u v,h.get? a=J { cls:=.type "range",data:=.fields #[.int lo t,.int L u,.int 1 v]}
 |.frz o u=>h.get? a=J o/\ObjOk H h a u
 |.tbl G=>h.get? a=J { cls:=.none,data:=.fields G}
 |.met f x=>h.get? a=J (PySem.W.methodObj (.ref f) (.ref x))
 |.ext φ=>φ h/\(∃o,h.get? a=J o)/\∀z E:Heap,φ z->(∀o,z.get? a=J o->E.get? a=J o)->φ E
def HOk(H:Hp)(h:Heap):Prop:=∀a o,H a=J o->ObjOk P w H h a o
end
section
variable{P:Program}{w:World}{H H':Hp}{h h':Heap}{a:Addr}{o:HO}
def ObjOk.lt(x:ObjOk P w H h a o):a<h.objs.size:=by
 cases o with
 |lst xs=>obtain⟨_,_,_,_,e⟩:=x;exact l_ e
 |tup xs=>obtain⟨_,_,_,p⟩:=x;exact p.lt
 |dK i=>obtain⟨_,_,_,_,o,_,_,e,_⟩:=x;exact l_ e
 |dT i=>obtain⟨_,_,_,_,o,_,_,e,_⟩:=x;exact l_ e
 |set S n=>obtain⟨o,_,_,_,e,_⟩:=x;exact l_ e
 |ins C l fs=>obtain⟨_,_,_,e,_⟩:=x;exact l_ e
 |own y=>obtain⟨_,e⟩:=x;exact l_ e
 |xd fs=>obtain⟨_,⟨_,_,_,e,_⟩,_⟩:=x;exact l_ e
 |rng lo z=>obtain⟨_,_,_,e⟩:=x;exact l_ e
 |frz r u=>obtain⟨e,_⟩:=x;exact l_ e
 |tbl j=>exact l_ (x)
 |met f y=>exact l_ (x)
 |ext φ=>obtain⟨_,⟨_,e⟩,_⟩:=x;exact l_ e
def Paired.mapP{α β:Type}{F G:α->β->Prop}{j:List α}{i:List β}(r:Paired F j i)(f:∀a b,F a b->G a b):Paired G j i:=by
 induction r with
 |nil=>exact .nil
 |cons r t l=>exact .cons (f _ _ r) l
def ObjOk.stay(x:ObjOk P w H h a o)(k:∀b u,(b=a\/H b=J (.own a))->h.get? b=J u->h'.get? b=J u)(O:∀b,H b=J (.own a)->H' b=J (.own a))(M:∀b xs,H b=J (.tup xs)->H' b=J (.tup xs)):ObjOk P w H' h' a o:=by
 induction o with
 |lst xs=>obtain⟨z,B,n,r,e⟩:=x;exact⟨z,B,n,r,k _ _ (.inl rfl) e⟩
 |tup xs=>obtain⟨z,B,r,i,e,c⟩:=x;exact⟨z,B,r,i,k _ _ (.inl rfl) e,c⟩
 |dK G=>obtain⟨z,y,L,r,i,l,j,e,c⟩:=x;exact⟨z,y,L,r,i,l,j,k _ _ (.inl rfl) e,c⟩
 |dT G =>
  obtain⟨z,y,xs,r,i,l,j,e,c⟩:=x;exact⟨z,y,xs,Paired.mapP r λp q z=>⟨z.1,M _ _ z.2.1,z.2.2⟩,i,l,j,k _ _ (.inl rfl) e,c⟩
 |set S n=>obtain⟨i,l,j,t,e,c⟩:=x;exact⟨i,l,j,t,k _ _ (.inl rfl) e,c⟩
 |ins C U fs =>
  obtain⟨d,z,ne,e,E,⟨F,l,j,e2,c⟩,r⟩:=x;exact⟨O _ d,z,ne,k _ _ (.inl rfl) e,E,⟨F,l,j,k _ _ (.inr d) e2,c⟩,r⟩
 |own y=>obtain⟨i,e⟩:=x;exact⟨i,k _ _ (.inl rfl) e⟩
 |xd fs=>obtain⟨E,⟨F,l,j,e,c⟩,r⟩:=x;exact⟨E,⟨F,l,j,k _ _ (.inl rfl) e,c⟩,r⟩
 |rng lo W=>obtain⟨t,u,v,e⟩:=x;exact⟨t,u,v,k _ _ (.inl rfl) e⟩
 |frz i u Q=>obtain⟨e,q⟩:=x;exact⟨k _ _ (.inl rfl) e,Q q⟩
 |tbl R =>
  have e:=x;exact k a _ (.inl rfl) e
 |met f y =>
  have e:=x;exact k a _ (.inl rfl) e
 |ext φ=>obtain⟨p,⟨o,e⟩,st⟩:=x;exact⟨st _ _ p λo q=>k _ _ (.inl rfl) q,⟨o,k _ _ (.inl rfl) e⟩,st⟩
def HOk.lt(x:HOk P w H h)(e:H a=J o):a<h.objs.size:=(x a o e).lt
def HOk.fresh(x:HOk P w H h)(e:h.objs.size<=a):H a=Y:=by
 cases q:H a with
 |none=>rfl
 |some u=>exact absurd (oQ (x.lt q) e) (B4 _)
def HOk.kept(x:HOk P w H h)(k:∀b u,h.get? b=J u->h'.get? b=J u):HOk P w H h':=λa o e =>
 (x a o e).stay (λb u _ q=>k b u q) (λ_ q=>q) λ_ _ q=>q
def HOk.laid(x:HOk P w H h)(k:∀b u,h.get? b=J u->h'.get? b=J u)(j:h.objs.size<=a)(new:ObjOk P w (kg H a o) h' a o):HOk P w (kg H a o) h':=λb u e=>by
 have i:=x.fresh j;by_cases f:b=a
 .subst f;rw[bQ]at e;cases e;exact new
 .rw[aY f]at e;exact(x b u e).stay (λc v _ q=>k c v q) (λc q=>by rw[aY (bR q i)];exact q) λc xs q=>by rw[aY (bR q i)];exact q
end
def Rd(H:Hp)(a:Addr)(u:HO):Prop:=H a=J u\/∃o,H a=J (.frz o u)
def Rd.ok(r:Rd H a u)(x:HOk P w H h):ObjOk P w H h a u:=by
 rcases r with r|⟨o,r⟩
 .exact x a u r
 .obtain⟨_,q⟩:=x a _ r;exact q
def OG:Option HO->Prop
 |some (.lst _)=>True
 |some (.dK _)=>True
 |some (.dT _)=>True
 |some (.set _ _)=>True
 |some (.ins _ _ _)=>True
 |some (.ext _)=>True
 |_=>False
section
variable{P:Program}{w:World}{H:Hp}{h h':Heap}{x e:Addr}{o':HO}
def HOk.write(ok:HOk P w H h)(j:OG (H x))(E:e=x\/H e=J (.own x))(k:∀b u,b≠e->h.get? b=J u->h'.get? b=J u)(l:∃u,h'.get? e=J u)(new:ObjOk P w (kg H x o') h' x o'):HOk P w (kg H x o') h':=λb u q=>by
 have i:∀c y,H c=J (.own y)->c≠x:=λc y r z=>by subst z;rw[r]at j;exact j
 have f:∀c xs,H c=J (.tup xs)->c≠x:=λc xs r z=>by subst z;rw[r]at j;exact j
 by_cases B:b=x
 .subst B;rw[bQ]at q;cases q;exact new
 .rw[aY B]at q;by_cases a:b=e
  .have C:H b=J (.own x):=by
    rcases E with z|z
    .exact absurd (a.trans z) B
    .rw[a];exact z
   rw[q]at C;cases C;obtain⟨v,hv⟩:=l;exact⟨v,by rw[a];exact hv⟩
  .refine (ok b u q).stay (λc v F r=>k c v ?_ r) (λc r=>by rw[aY (i c b r)];exact r) λc xs r=>by rw[aY (f c xs r)];exact r
   grind
end
structure Un(fs ex:US)(H H':Hp)(h h':Heap):Prop where
 keep:∀b o,h.get? b=J o->H b=Y->b∉fs->b∉ex->h'.get? b=J o
 slot:∀b o,h.get? b=J o->H b=Y->b∈fs->b∉ex->∃sl,h'.get? b=J { o with slots:=sl}
 free:∀b o,h.get? b=J o->H b=Y->b∉ex->H' b=Y
 there:∀b o,h.get? b=J o->b∉ex->∃o',h'.get? b=J o'
 tups:∀b xs,H b=J (.tup xs)->H' b=J (.tup xs)
 frzs:∀b o u,H b=J (.frz o u)->H' b=J (.frz o u)
 tbls:∀b ps,H b=J (.tbl ps)->∃more,H' b=J (.tbl (ps++more))
section
variable{fs fs' ex ex':US}{H H1 H2:Hp}{h h1 h2 h':Heap}{a x e:Addr}{o:HO}
def Un.any(u:Un fs ex H H1 h h1)(q:h.get? b=J ob)(n:H b=Y)(f:b∉ex):∃sl,h1.get? b=J { ob with slots:=sl}:=by
 by_cases i:b∈fs
 .exact u.slot b ob q n i f
 .exact⟨ob.slots,u.keep b ob q n i f⟩
def Un.kept(k:∀b u,h.get? b=J u->h'.get? b=J u):Un fs ex H H h h' :=
 ⟨λb f q _ _ _=>k b f q,λb f q _ _ _=>⟨f.slots,k b f q⟩,λ_ _ _ n _=>n,λb f q _=>⟨f,k b f q⟩,λ_ _ q=>q,λ_ _ _ q=>q,λ_ i q=>⟨#[],by rw[q];simp⟩⟩
def Un.refl:Un fs ex H H h h:=Un.kept λ_ _ q=>q
def Un.laid(k:∀b u,h.get? b=J u->h'.get? b=J u)(i:h.objs.size<=a)(f:H a=Y):Un fs ex H (kg H a o) h h' where
 keep:=λb u q _ _ _=>k b u q
 slot:=λb u q _ _ _=>⟨u.slots,k b u q⟩
 free:=λb u q n _=>by rw[aY (u_ (oQ (l_ q) i))];exact n
 there:=λb u q _=>⟨u,k b u q⟩
 tups:=λb xs q=>by rw[aY (bR q f)];exact q
 frzs:=λb u xs q=>by rw[aY (bR q f)];exact q
 tbls:=λb j q=>⟨#[],by rw[aY (bR q f),q];simp⟩
def Un.write(i:OG (H x))(E:e=x\/H e=J (.own x))(k:∀b u,b≠e->h.get? b=J u->h'.get? b=J u)(j:∃u,h'.get? e=J u):Un fs ex H (kg H x o) h h':=by
 have y:∀b,H b=Y->b≠x:=λb n z=>by subst z;rw[n]at i;exact i
 have r:∀b,H b=Y->b≠e:=λb n z=>by
  simp_all
 have l:∀b u,H b=J u->¬OG (J u)->b≠x:=λb u q B z=>by subst z;rw[q]at i;exact B i
 refine⟨λb u q n _ _=>k b u (r b n) q,λb u q n _ _=>⟨u.slots,k b u (r b n) q⟩,λb u q n _=>by rw[aY (y b n)];exact n,λb u q _=>?_,
  λb xs q=>by rw[aY (l b _ q λz=>z)];exact q,λb u xs q=>by rw[aY (l b _ q λz=>z)];exact q,λb C q=>⟨#[],by rw[aY (l b _ q λz=>z),q];simp⟩⟩
 by_cases f:b=e
 .subst f;exact j
 .exact⟨u,k b u f q⟩
end
def OH(h:Heap)(H:Hp):US:=(List.range h.objs.size).filter λa=>(H a).isSome
def jO(h:Heap)(H:Hp):Heap:=PySem.W.hideAll h (OH h H)
def yd(h:Heap)(H:Hp):(jO h H).objs.size=h.objs.size:=PySem.W.hideAll_size _ _
def Aa(e:h.get? b=J o)(n:H b=Y):(jO h H).get? b=J o :=
 PySem.W.hideAll_get _ e λa=>by
  have q:=(n3.mp a).2;rw[n]at q;simp at q
def Dp(e:(jO h H).get? b=J o):h.get? b=J o/\H b=Y:=by
 have a:=PySem.W.of_hideAll (OH h H) e;refine⟨a,?_⟩
 cases q:H b with
 |none=>rfl
 |some x =>
  have f:b∈OH h H:=n3.mpr ⟨Ck.mpr (l_ a),by simp[q]⟩;have z:(jO h H).get? b=Y:=PySem.W.hideAll_none (OH h H) f;rw[z]at e;cases e
structure Mod(K:ib)(mg:UB)(base:Heap):Prop where
 kin:K.In base
 glob:base.Ns mainGlobals mg
 blt:∃mb,base.Ns builtinsNs mb/\∀x:Str,x≠"__name__"->mb x=bootBuiltins x
 nolimit:base.NoLimit
structure Cx where
 prog:Program
 w:World
 K:ib
 mg:Str->UV
 base:Heap
 A:Around
 N:UM
 s₀:Shared
 H₀:Hp
 env:Env
 outer:List Env
 stack:List Env
 ex:US
 fn:Str->Bool
 calm:Bool
 pn:UU
 xe:Value->Shared->Prop
def xN(l:List Env):US:=l.filterMap (·.frame)
abbrev Cx.fs(X:Cx):US:=xN X.outer
def OI(a:Scope)(x:Str):Prop:=a.names.lookup x=J .local\/a.names.lookup x=J .cell\/a.names.lookup x=J .free
def Loc(a:Scope)(x:Str):Prop:=a.names.lookup x=J .local\/a.names.lookup x=J .cell
def Look(env:Env)(h:Heap)(m:UB)(x:Str)(u:Value):Prop :=
 (env.kindOf x=J .local/\m x=J u)\/((env.kindOf x=J .cell\/env.kindOf x=J .free)/\∃c,env.cells.lookup x=J c/\h.IsCell c (J u))
structure Cx.Ok(X:Cx):Prop where
 mod:Mod X.K X.mg X.base
 kind:X.env.scope.kind=.function
 glob:X.env.globals=mainGlobals
 blt:X.env.builtins=builtinsNs
 above:X.s₀.heap.objs.size<=X.env.locals
 inj:∀x y c,X.env.cells.lookup x=J c->X.env.cells.lookup y=J c->x=y
 has:∀x,(X.env.kindOf x=J .cell\/X.env.kindOf x=J .free)->∃c,X.env.cells.lookup x=J c
 cab:∀x c,X.fn x=I->X.env.cells.lookup x=J c->X.s₀.heap.objs.size<=c
 hd:X.calm=I->X.A.handled=Y
 frames:X.A.frames=J X.stack
 stk:X.stack=X.outer\/(X.stack=X.env::X.outer/\X.env.frame=J X.env.locals)
 exf:∀b∈X.ex,b≠X.env.locals/\∀x c,X.env.cells.lookup x=J c->c≠b
 bs:∀b o,X.base.get? b=J o->X.s₀.heap.get? b=J o/\X.H₀ b=Y
 bsz:X.base.objs.size<=X.s₀.heap.objs.size
 noex:∀b o,X.base.get? b=J o->b∉X.ex
 exfs:∀b∈X.ex,b∉X.fs
 funs:X.s₀.heap.FunFrames X.base X.outer
 frf:∀b∈X.fs,X.H₀ b=Y
structure Inv(X:Cx)(LU:UU)(Z:List (Option V))(H:Hp)(s:Shared):Prop where
 ok:X.Ok
 os:s.os=X.s₀.os
 bare:AllBare s.gens
 base:Un X.fs X.ex X.H₀ H X.s₀.heap s.heap
 loc:∃m,s.heap.Ns X.env.locals m/\∀(i:Nat)(x:Str)(v:V),X.N[i]?=J x->Z[i]?=J (J v)->OI X.env.scope x->∃u,aN v u/\Look X.env s.heap m x u
 cell:∀x c,X.env.cells.lookup x=J c->∃v,s.heap.IsCell c v
 free:H X.env.locals=Y
 freeC:∀x c,X.env.cells.lookup x=J c->H c=Y
 pin:∀p∈X.pn++LU,s.heap.get? p.1=J p.2/\H p.1=Y/\p.1≠X.env.locals/\p.1∉X.fs/\∀v,p.2.data≠.cell v
 hok:HOk X.prog X.w H s.heap
 len:Z.length=X.N.length
section
variable{X:Cx}{LU:List (Addr × Obj)}{Z:List (Option V)}{H H':Hp}{s:Shared}{h':Heap}
def Cx.Ok.nofr(ok:X.Ok)(e:X.base.get? b=J o):b∉X.fs:=λa=>by
 have:=(ok.funs.mem a).1
 rw[e]at this;cases this
def Inv.bs(a:Inv X LU Z H s):∀b o,X.base.get? b=J o->s.heap.get? b=J o/\H b=Y:=λb o e =>
 ⟨a.base.keep b o (a.ok.bs b o e).1 (a.ok.bs b o e).2 (a.ok.nofr e) (a.ok.noex b o e),a.base.free b o (a.ok.bs b o e).1 (a.ok.bs b o e).2 (a.ok.noex b o e)⟩
def Inv.bk(a:Inv X LU Z H s):∀b o,X.base.get? b=J o->s.heap.get? b=J o:=λb o e=>(a.bs b o e).1
def Inv.mod(a:Inv X LU Z H s):Mod X.K X.mg X.base:=a.ok.mod
def Inv.kIn(a:Inv X LU Z H s):X.K.In s.heap:=a.ok.mod.kin.keeps a.bk
def Inv.lt(a:Inv X LU Z H s):X.env.locals<s.heap.objs.size:=let⟨_,f,_⟩:=a.loc;f.lt
def Inv.sz(a:Inv X LU Z H s):X.s₀.heap.objs.size<=s.heap.objs.size:=mu a.ok.above (vw a.lt)
def Inv.nofs(f:Inv X LU Z H s){a:Addr}(h:s.heap.objs.size<=a):a∉X.fs:=λj=>by
 obtain⟨_,o,i,_⟩:=f.ok.funs.mem j;exact absurd (oQ (l_ i) (mu f.sz h)) (B4 _)
def Inv.cne(a:Inv X LU Z H s):∀x c,X.env.cells.lookup x=J c->c≠X.env.locals:=λx c e z=>by
 obtain⟨v,o,j,hd⟩:=a.cell x c e;obtain⟨m,⟨u,l,r,f,i,_⟩,_⟩:=a.loc;rw[z,f]at j;cases j;rw[i]at hd;cases hd
def Inv.funs(a:Inv X LU Z H s):s.heap.FunFrames X.base X.outer:=by
 have all:∀(l:List Env),(∀b∈xN l,b∈X.fs)->X.s₀.heap.FunFrames X.base l->s.heap.FunFrames X.base l:=by
  intro l
  induction l with
  |nil=>intro _ _;trivial
  |cons env r C =>
   intro i E;obtain⟨j,⟨L,o,hf,y,B,hd⟩,u⟩:=E;have hL:=i L (by unfold xN;rw[Ow,hf];exact wj);obtain⟨sl,e⟩:=a.base.slot L o B (a.ok.frf L hL) hL λz=>a.ok.exfs L z hL;exact⟨j,⟨L,_,hf,y,e,hd⟩,C (λb f=>i b (by unfold xN;rw[Ow,hf];exact lb _ f)) u⟩
 exact all X.outer (λ_ f=>f) a.ok.funs
def Inv.stack(a:Inv X LU Z H s):s.heap.FunFrames X.base X.stack:=by
 rcases a.ok.stk with e|⟨e,hf⟩
 .rw[e];exact a.funs
 .rw[e];obtain⟨m,f,_⟩:=a.loc;refine .cons (by rw[a.ok.kind];decide) hf f ?_ a.funs;exact Heap.get?_none_of_le (mu a.ok.bsz a.ok.above)
def Inv.stkSub(f:Inv X LU Z H s):∀b∈xN X.stack,b∈X.env.locals::X.fs:=λb a=>by
 rcases f.ok.stk with e|⟨e,hf⟩
 .rw[e]at a;exact lb _ a
 .rw[e]at a;unfold xN at a;rw[Ow,hf]at a;exact a
def Inv.stkFree(a:Inv X LU Z H s):∀b∈xN X.stack,H b=Y:=λb f=>by
 rcases k4.mp (a.stkSub b f)with e|f
 .rw[e];exact a.free
 .obtain⟨_,o,i,_⟩:=a.ok.funs.mem f;exact a.base.free b o i (a.ok.frf b f) λz=>a.ok.exfs b z f
def Inv.step{g':Array GenState}{S:Nat}{d':Drawn}{ch:US}(a:Inv X LU Z H s)(y:∀b∈ch,(b∈X.ex\/X.s₀.heap.objs.size<=b)/\b≠X.env.locals/\(∀x c,X.env.cells.lookup x=J c->c≠b)/\∀p∈X.pn++LU,p.1≠b)(keep:∀b o,b≠X.env.locals->b∉X.fs->b∉ch->s.heap.get? b=J o->H b=Y->h'.get? b=J o)(slot:∀b o,b≠X.env.locals->b∈X.fs->b∉ch->s.heap.get? b=J o->H b=Y->∃sl,h'.get? b=J { o with slots:=sl})(free:∀b o,b∉ch->s.heap.get? b=J o->H b=Y->H' b=Y)(there:∀b o,b∉ch->s.heap.get? b=J o->∃L,h'.get? b=J L)(tups:∀b xs,H b=J (.tup xs)->H' b=J (.tup xs))(frzs:∀b o u,H b=J (.frz o u)->H' b=J (.frz o u))(tbls:∀b M,H b=J (.tbl M)->∃more,H' b=J (.tbl (M++more)))(ns:∀m,s.heap.Ns X.env.locals m->h'.Ns X.env.locals m)(hok:HOk X.prog X.w H' h')(hg:AllBare g'):
  Inv X LU Z H' { s with heap:=h',gens:=g',drawn:=d',toks:=S}:=by
 have G:∀b o,X.s₀.heap.get? b=J o->b≠X.env.locals:=λb o e=>u_ (oQ (l_ e) a.ok.above);have C:∀b o,X.s₀.heap.get? b=J o->b∉X.ex->b∉ch:=λb o e f E=>by
  rcases(y b E).1 with z|z
  .exact f z
  .exact absurd (oQ (l_ e) z) (B4 _)
 have j:∀x c,X.env.cells.lookup x=J c->∀v,s.heap.IsCell c v->h'.IsCell c v:=λx c e v ⟨o,F,hd⟩=>by
  have B:c∉ch:=λz=>(y c z).2.2.1 x c e rfl;by_cases R:c∈X.fs
  .obtain⟨sl,q⟩:=slot c o (a.cne x c e) R B F (a.freeC x c e);exact⟨_,q,hd⟩
  .exact⟨o,keep c o (a.cne x c e) R B F (a.freeC x c e),hd⟩
 refine⟨a.ok,a.os,hg,⟨λb o e n E f=>?_,λb o e n E f=>?_,λb o e n f=>?_,λb o e f=>?_,λb xs e=>tups b xs (a.base.tups b xs e),λb o xs e=>frzs b o xs (a.base.frzs b o xs e),λb M e=>?_⟩,?_,λx c e=>?_,?_,λx c e=>?_,λp Q=>?_,hok,a.len⟩
 .exact keep b o (G b o e) E (C b o e f) (a.base.keep b o e n E f) (a.base.free b o e n f)
 .obtain⟨sl,e1⟩:=a.base.slot b o e n E f;obtain⟨O,e2⟩:=slot b _ (G b o e) E (C b o e f) e1 (a.base.free b o e n f);exact⟨O,e2⟩
 .obtain⟨L,e1⟩:=a.base.there b o e f;exact free b L (C b o e f) e1 (a.base.free b o e n f)
 .obtain⟨L,e1⟩:=a.base.there b o e f;exact there b L (C b o e f) e1
 .obtain⟨W,e1⟩:=a.base.tbls b M e;obtain⟨m2,e2⟩:=tbls b _ e1;exact⟨W++m2,by rw[e2,Array.append_assoc]⟩
 .obtain⟨m,U,hl⟩:=a.loc;refine⟨m,ns m U,λi x v e1 e2 e3=>?_⟩;obtain⟨u,r,l⟩:=hl i x v e1 e2 e3;refine⟨u,r,?_⟩;rcases l with l|⟨k,c,e,z⟩
  .exact .inl l
  .exact .inr ⟨k,c,e,j x c e _ z⟩
 .obtain⟨v,z⟩:=a.cell x c e;exact⟨v,j x c e v z⟩
 .obtain⟨m,⟨o,_,_,F,_⟩,_⟩:=a.loc;exact free _ o (λz=>(y _ z).2.1 rfl) F a.free
 .obtain⟨v,o,F,hd⟩:=a.cell x c e;exact free c o (λz=>(y c z).2.2.1 x c e rfl) F (a.freeC x c e)
 .obtain⟨e,n,ne,P,d⟩:=a.pin p Q;have B:p.1∉ch:=λz=>(y p.1 z).2.2.2 p Q rfl;exact⟨keep p.1 p.2 ne P B e n,free p.1 p.2 B e n,ne,P,d⟩
def Inv.un{t':Nat}(a:Inv X LU Z H s)(u:Un X.fs [] H H' s.heap h')(hok:HOk X.prog X.w H' h'):Inv X LU Z H' { s with heap:=h',toks:=t'}:=by
 obtain⟨m,⟨o,F,E,y,r⟩,_⟩:=id a.loc;obtain⟨sl,hL⟩:=u.any y a.free (by simp)
 exact a.step (g':=s.gens) (d':=s.drawn) (ch:=[]) (λ_ z=>nomatch z) (λb o _ l _ e n=>u.keep b o e n l (by simp)) (λb o _ l _ e n=>u.slot b o e n l (by simp)) (λb o _ e n=>u.free b o e n (by simp)) (λb o _ e=>u.there b o e (by simp)) u.tups u.frzs u.tbls (λL B=>by
  obtain⟨G,j,i,f,C⟩:=B;rw[y]at f;cases f
  exact⟨_,j,i,hL,C⟩) hok a.bare
def Inv.call{g':Array GenState}{t':Nat}{d':Drawn}{B:US}(a:Inv X LU Z H s)(u:Un (xN X.stack) B H H' s.heap h')(hok:HOk X.prog X.w H' h')(G:AllBare g')(i:∀b∈B,(b∈X.ex\/X.s₀.heap.objs.size<=b)/\b≠X.env.locals/\(∀x c,X.env.cells.lookup x=J c->c≠b)/\∀p∈X.pn++LU,p.1≠b):
  Inv X LU Z H' { s with heap:=h',gens:=g',drawn:=d',toks:=t'}:=by
 obtain⟨m,⟨o,O,M,C,r⟩,_⟩:=id a.loc;obtain⟨sl,hL⟩:=u.any C a.free λz=>(i _ z).2.1 rfl
 exact a.step i (λb o hL L f e n=>u.keep b o e n (λz=>(k4.mp (a.stkSub b z)).elim hL L) f) (λb o _ _ f e n=>u.any e n f) (λb o f e n=>u.free b o e n f) (λb o f e=>u.there b o e f) u.tups u.frzs u.tbls (λQ E=>by
  obtain⟨P,y,l,j,F⟩:=E;rw[C]at j;cases j
  exact⟨_,y,l,hL,F⟩) hok G
def Inv.turned{t':Nat}{a:Addr}(f:Inv X LU Z H s)(k:∀b o,b≠a->s.heap.get? b=J o->h'.get? b=J o)(G:H a=Y)(hL:a≠X.env.locals)(y:a∈X.ex\/X.s₀.heap.objs.size<=a)(F:∀x c,X.env.cells.lookup x=J c->c≠a)(C:∀p∈X.pn++LU,p.1≠a):Inv X LU Z H { s with heap:=h',toks:=t'}:=by
 have j:∀b u,H b=J u->b≠a:=λb u e z=>by rw[z,G]at e;cases e
 refine f.step (g':=s.gens) (d':=s.drawn) (ch:=[a]) (λb M=>?_) (λb o _ _ i e _=>k b o (λz=>i (by simp[z])) e) (λb o _ _ i e _=>⟨o.slots,k b o (λz=>i (by simp[z])) e⟩) (λ_ _ _ _ n=>n)
  (λb o i e=>⟨o,k b o (λz=>i (by simp[z])) e⟩) (λ_ _ e=>e) (λ_ _ _ e=>e) (λb O e=>⟨#[],by rw[e];simp⟩) (λm E=>?_) (λb u e=>?_) f.bare
 .have e:b=a:=by simpa using M
  subst e;exact⟨y,hL,F,C⟩
 .obtain⟨o,B,l,L,r⟩:=E;exact⟨o,B,l,k _ o (Ne.symm hL) L,r⟩
 .refine (f.hok b u e).stay (λc v i q=>k c v ?_ q) (λ_ q=>q) λ_ _ q=>q;rcases i with z|z
  .rw[z];exact j b u e
  .exact j c _ z
def Inv.tok(a:Inv X LU Z H s)(t:Nat):Inv X LU Z H { s with toks:=t}:=a.un (h':=s.heap) (t':=t) Un.refl a.hok
def Inv.kept(a:Inv X LU Z H s)(k:∀b u,s.heap.get? b=J u->h'.get? b=J u):Inv X LU Z H { s with heap:=h',toks:=t'}:=a.un (Un.kept k) (a.hok.kept k)
def Inv.laid{a:Addr}{o:HO}{t':Nat}(f:Inv X LU Z H s)(k:∀b u,s.heap.get? b=J u->h'.get? b=J u)(i:s.heap.objs.size<=a)(new:ObjOk X.prog X.w (kg H a o) h' a o):
  Inv X LU Z (kg H a o) { s with heap:=h',toks:=t'}:=f.un (Un.laid k i (f.hok.fresh i)) (f.hok.laid k i new)
def Inv.write(f:Inv X LU Z H s)(j:OG (H x))(i:e=x\/H e=J (.own x))(k:∀b u,b≠e->s.heap.get? b=J u->h'.get? b=J u)(a:∃u,h'.get? e=J u)(new:ObjOk X.prog X.w (kg H x o) h' x o):Inv X LU Z (kg H x o) { s with heap:=h',toks:=t'}:=f.un (Un.write j i k a) (f.hok.write j i k a new)
def Inv.pins_of(a:Inv X LU Z H s)(h:∀p∈f,s.heap.get? p.1=J p.2/\H p.1=Y/\p.1≠X.env.locals/\p.1∉X.fs/\∀v,p.2.data≠.cell v):Inv X f Z H s :=
 ⟨a.ok,a.os,a.bare,a.base,a.loc,a.cell,a.free,a.freeC,λp i=>(lT.mp i).elim (λz=>a.pin p (xg _ z)) (h p),a.hok,a.len⟩
def uh{N:UM}(hN:N.Nodup){i j:Nat}{x:Str}(a:N[i]?=J x)(b:N[j]?=J x):i=j:=by obtain⟨f,e1⟩:=oI.mp a;obtain⟨l,e2⟩:=oI.mp b;exact(List.getElem_inj hN).mp (e1.trans e2.symm)
def zE{M:Model}{A:Around}{E:UA}{i:Nat}{x:Str}{v:V}{u:Value}{Q:Unit->Shared->Prop}(f:Inv X LU Z H s)(hN:X.N.Nodup)(hi:X.N[i]?=J x)(F:Loc X.env.scope x)(r:aN v u)(h:∀s',Inv X LU (Z.set i (J v)) H s'->(∃a,Heap.SameBut a s.heap s'.heap/\(a=X.env.locals\/X.env.cells.lookup x=J a))->Q () s')(hf:X.fn x=I\/X.env.scope.names.lookup x=J .local:=by first | exact .inl rfl | exact .inr rfl | assumption):wpAny M A (storeName X.env x u) Q E s:=by
 obtain⟨m,hn,hl⟩:=id f.loc;have S:(X.env.scope.kind == .class||(X.env.scope.kind == .module&&X.env.locals != X.env.globals))=T:=by rw[f.ok.kind];rfl
 have O:i<Z.length:=by rw[f.len];exact(oI.mp hi).1
 have cne:=f.cne;have B:∀{a:Addr}{h':Heap},(∃o,s.heap.get? a=J o/\H a=Y)->Heap.SameBut a s.heap h'->HOk X.prog X.w H h':=λ{a h'} ha l b ob e=>by
  obtain⟨_,_,G⟩:=ha;refine(f.hok b ob e).stay (λc w' C q=>(l.2 c ?_).trans q) (λ_ q=>q) λ_ _ q=>q;rintro rfl;rcases C with rfl|C
  .rw[G]at e;cases e
  .rw[G]at C;cases C
 rcases F with L|L
 .refine wpAny_storeName_local L hn (λh' as l=>?_) S;obtain⟨oL,_,_,ap,_⟩:=id hn;refine h _ ⟨f.ok,f.os,f.bare,⟨λb o e n R F=>?_,λb o e n R F=>?_,f.base.free,λb o e F=>?_,f.base.tups,f.base.frzs,f.base.tbls⟩,⟨_,as,λj y v' e1 e2 e3=>?_⟩,λy c e=>?_,f.free,f.freeC,λp hp=>?_,B ⟨oL,ap,f.free⟩ l,by simpa using f.len⟩ ⟨_,l,.inl rfl⟩
  .exact (l.2 b (u_ (oQ (l_ e) f.ok.above))).trans (f.base.keep b o e n R F)
  .obtain⟨sl,e1⟩:=f.base.slot b o e n R F;exact⟨sl,(l.2 b (u_ (oQ (l_ e) f.ok.above))).trans e1⟩
  .obtain⟨o',e1⟩:=f.base.there b o e F;exact⟨o',(l.2 b (u_ (oQ (l_ e) f.ok.above))).trans e1⟩
  .by_cases P:j=i
   .subst P;rw[hi]at e1;cases e1;rw[xJ O]at e2;cases e2;exact⟨u,r,.inl ⟨L,by simp⟩⟩
   .rw[nr (Ne.symm P)]at e2;obtain⟨u',r',q⟩:=hl j y v' e1 e2 e3;refine⟨u',r',?_⟩;rcases q with⟨k,e⟩|⟨k,c,e,z⟩
    .refine .inl ⟨k,?_⟩
     have:y≠x:=λe=>P (uh hN e1 (e▸hi))
     simp[this,e]
    .exact .inr ⟨k,c,e,z.sameBut l (cne y c e)⟩
  .obtain⟨w',z⟩:=f.cell y c e;exact⟨w',z.sameBut l (cne y c e)⟩
  .obtain⟨e,n,ne,nf,d⟩:=f.pin p hp;exact⟨(l.2 p.1 ne).trans e,n,ne,nf,d⟩
 .have ID:X.fn x=I:=by
   rcases hf with z|z
   .exact z
   .rw[z]at L;cases L
  obtain⟨c,C⟩:=f.ok.has x (.inl L);obtain⟨w',z⟩:=f.cell x c C;refine wpAny_storeName_cell f.ok.kind L C z (λh' W l=>?_);obtain⟨oc,al,U⟩:=id z;refine h { s with heap:=h'} ⟨f.ok,f.os,f.bare,⟨λb o e n R F=>?_,λb o e n R F=>?_,f.base.free,λb o e F=>?_,f.base.tups,f.base.frzs,f.base.tbls⟩,⟨m,hn.sameBut l (Ne.symm (cne x c C)),λj y v' e1 e2 e3=>?_⟩,λy c' e=>?_,f.free,f.freeC,λp hp=>?_,B ⟨oc,al,f.freeC x c C⟩ l,by simpa using f.len⟩ ⟨c,l,.inr C⟩
  .exact (l.2 b (u_ (oQ (l_ e) (f.ok.cab x c ID C)))).trans (f.base.keep b o e n R F)
  .obtain⟨sl,e1⟩:=f.base.slot b o e n R F;exact⟨sl,(l.2 b (u_ (oQ (l_ e) (f.ok.cab x c ID C)))).trans e1⟩
  .obtain⟨o',e1⟩:=f.base.there b o e F;exact⟨o',(l.2 b (u_ (oQ (l_ e) (f.ok.cab x c ID C)))).trans e1⟩
  .by_cases P:j=i
   .subst P;rw[hi]at e1;cases e1;rw[xJ O]at e2;cases e2;exact⟨u,r,.inr ⟨.inl L,c,C,W⟩⟩
   .rw[nr (Ne.symm P)]at e2;obtain⟨u',r',q⟩:=hl j y v' e1 e2 e3;refine⟨u',r',?_⟩;rcases q with q|⟨k,c',e,z'⟩
    .exact .inl q
    .refine .inr ⟨k,c',e,z'.sameBut l ?_⟩;rintro rfl;exact P (uh hN e1 (f.ok.inj _ _ _ e C▸hi))
  .by_cases an:c'=c
   .subst an;exact⟨_,W⟩
   .obtain⟨w2,z2⟩:=f.cell y c' e;exact⟨w2,z2.sameBut l an⟩
  .obtain⟨e,n,ne,nf,d⟩:=f.pin p hp;refine⟨(l.2 p.1 ?_).trans e,n,ne,nf,d⟩;intro q;rw[q,al]at e;have q':oc=p.2:=Option.some.inj e;exact d w' (by rw[<-q'];exact U)
def sw(f:Inv X LU Z H s)(hN:X.N.Nodup)(l:X.N[i]?=J x)(j:Loc X.env.scope x)(r:aN v u)(h:∀a,Inv X LU (Z.set i (J v)) H a->Q () a)(hf:X.fn x=I\/X.env.scope.names.lookup x=J .local:=by first | exact .inl rfl | exact .inr rfl | assumption):wpAny M A (storeName X.env x u) Q E s :=
 zE f hN l j r (λa y _=>h a y) hf
def Inv.call'(f:Inv X LU Z H s)(l:s'.os=s.os)(u:Un (xN X.stack) ch H H' s.heap s'.heap)(hok:HOk X.prog X.w H' s'.heap)(i:AllBare s'.gens)(a:∀b∈ch,(b∈X.ex\/X.s₀.heap.objs.size<=b)/\b≠X.env.locals/\(∀x c,X.env.cells.lookup x=J c->c≠b)/\∀p∈X.pn++LU,p.1≠b):Inv X LU Z H' s':=by
 obtain⟨h',j,y,r,z⟩:=s';have e:=l;subst e;exact f.call (g':=j) (t':=r) (d':=y) u hok i a
end
abbrev XK:=Value->UE->Hp->Prop
abbrev St:=List (Option V)
abbrev VK:=V->Hp->Prop
abbrev TE:=St->Hp->VK->Prop
abbrev TT:=St->Hp->(Bool->Hp->Prop)->Prop
abbrev TA:=St->Hp->(List V->Hp->Prop)->Prop
structure Ends where
 nx:St->Hp->Prop
 rt:VK
 bk:St->Hp->Prop:=λ_ _=>False
 ct:St->Hp->Prop:=λ_ _=>False
abbrev TS:=Ends->St->Hp->Prop
inductive EP(X:Cx)(LU:UU)(Z:St)(Q:VK)(u:Value)(s':Shared):Prop
 |mk(v:V)(H':Hp)(i:Inv X LU Z H' s')(r:aN v u)(q:Q v H'):EP X LU Z Q u s'
inductive TP(X:Cx)(LU:UU)(Z:St)(Q:Bool->Hp->Prop)(b:Bool)(s':Shared):Prop
 |mk(H':Hp)(i:Inv X LU Z H' s')(q:Q b H'):TP X LU Z Q b s'
inductive AP(X:Cx)(LU:UU)(Z:St)(Q:List V->Hp->Prop)(us:UT)(s':Shared):Prop
 |mk(vs:List V)(H':Hp)(i:Inv X LU Z H' s')(r:aB vs us)(q:Q vs H'):AP X LU Z Q us s'
inductive SN(X:Cx)(LU:UU)(Q:St->Hp->Prop)(s':Shared):Prop
 |mk(Z':St)(H':Hp)(i:Inv X LU Z' H' s')(q:Q Z' H'):SN X LU Q s'
inductive SR(X:Cx)(LU:UU)(Q:VK)(u:Value)(s':Shared):Prop
 |mk(v:V)(Z':St)(H':Hp)(i:Inv X LU Z' H' s')(r:aN v u)(q:Q v H'):SR X LU Q u s'
def SP(X:Cx)(i:UU)(D:Ends)(f:Flow)(a:Shared):Prop :=
 match f with
 |.next=>SN X i D.nx a
 |.brk=>SN X i D.bk a
 |.cont=>SN X i D.ct a
 |.ret u=>SR X i D.rt u a
def PE(X:Cx)(e:Expr)(t:TE):Prop :=
 ∀(a:UU)(s:Shared)(Z:St)(H:Hp)(Q:VK),Inv X a Z H s->t Z H Q->wpAny (model X.prog X.w) X.A (eval e X.env) (EP X a Z Q) X.xe s
def PT(X:Cx)(e:Expr)(t:TT):Prop :=
 ∀(a:UU)(s:Shared)(Z:St)(H:Hp)(Q:Bool->Hp->Prop),Inv X a Z H s->t Z H Q->wpAny (model X.prog X.w) X.A (isTrue e X.env (eval e X.env)) (TP X a Z Q) X.xe s
def PW(X:Cx)(e:Expr)(t:TT):Prop :=
 ∀(a:Sem Value)(f:UU)(s:Shared)(Z:St)(H:Hp)(Q:Bool->Hp->Prop),Inv X f Z H s->t Z H Q->wpAny (model X.prog X.w) X.A (isTrue e X.env a) (TP X f Z Q) X.xe s
def PW.pt(h:PW X e t):PT X e t:=h _
def PA(X:Cx)(i:UX)(t:TA):Prop :=
 ∀(a:Pos)(f:UU)(s:Shared)(Z:St)(H:Hp)(Q:List V->Hp->Prop),Inv X f Z H s->t Z H Q->wpAny (model X.prog X.w) X.A (spliced (backTo a (starEach i X.env))) (AP X f Z Q) X.xe s
def PS(X:Cx)(st:Stmt)(t:TS):Prop :=
 ∀(a:UU)(s:Shared)(Z:St)(H:Hp)(D:Ends),Inv X a Z H s->t D Z H->wpAny (model X.prog X.w) X.A (exec st X.env) (SP X a D) X.xe s
def PSs(X:Cx)(st:List Stmt)(t:TS):Prop :=
 ∀(a:UU)(s:Shared)(Z:St)(H:Hp)(D:Ends),Inv X a Z H s->t D Z H->wpAny (model X.prog X.w) X.A (execs st X.env) (SP X a D) X.xe s
def ka(h:wpAny M A t Q E s)(f:∀a s,Q a s->Q' a s):wpAny M A t Q' E s:=wpAny_mono h f λ_ _ x=>x
section
variable{X:Cx}
def Qj(i:Nat):TE:=λZ H Q=>∃v,Z[i]?=J (J v)/\Q v H
def tC(v:V):TE:=λ_ H Q=>Q v H
def G5{i:Nat}{x:Str}{z:Pos}(hN:X.N[i]?=J x)(hv:OI X.env.scope x)(hd:(x==("__debug__":Str))=T:=by decide)(y:(x==("__classdict__":Str))=T:=by decide):PE X (.Name x z) (Qj i):=by
 intro E s Z H Q a h;obtain⟨v,e,h⟩:=h;obtain⟨m,F,G⟩:=a.loc;obtain⟨u,r,l⟩:=G i x v hN e hv;have fin:EP X E Z Q u s:=⟨v,H,a,r,h⟩;rcases l with⟨j,C⟩|⟨j,c,B,f⟩
 .exact wpAny_Name (wpAny_loadName_local a.ok.kind j F C fin) hd
 .rcases j with j|j
  .exact wpAny_Name (wpAny_loadName_cell a.ok.kind j B f fin) hd
  .exact wpAny_Name (wpAny_loadName_free a.ok.kind j B f fin y) hd
def G6{i j pos}:PE X (.Constant (.int i) j pos) (tC (.int i)):=λ_ _ _ H _ a h=>wpAny_Constant_int ⟨.int i,H,a.tok _,⟨_,rfl⟩,h⟩
def Lu{b j pos}:PE X (.Constant (.bool b) j pos) (tC (.bl b)):=λ_ _ _ H _ a h=>Constant_bool ⟨.bl b,H,a,rfl,h⟩
def G7{j pos}:PE X (.Constant .none j pos) (tC .non):=λ_ _ _ H _ a h=>Constant_none ⟨.non,H,a,rfl,h⟩
def G8{x j pos}:PE X (.Constant (.str x) j pos) (tC (.str x)):=λ_ _ _ H _ a h=>Calls.Constant_str ⟨.str x,H,a.tok _,⟨_,rfl⟩,h⟩
def Gl(X:Cx)(x:Str):Prop:=X.env.kindOf x=J .globalImplicit
def vE{E:UA}{j:UU}{s:Shared}{Z:St}{H:Hp}{x:Str}{u:Value}{f:Pos}{Q:UA}(a:Inv X j Z H s)(l:Gl X x)(i:X.mg x=J u)(h:Q u s)(hd:(x==("__debug__":Str))=T:=by decide):wpAny (model X.prog X.w) X.A (eval (.Name x f) X.env) Q E s :=
 Calls.Name_function_global a.ok.kind l (Calls.loadGlobal_global (by rw[a.ok.glob];exact a.mod.glob.keeps a.bk) i h) hd
def gB{E:UA}{r:UU}{s:Shared}{Z:St}{H:Hp}{x:Str}{u:Value}{f:Pos}{Q:UA}(a:Inv X r Z H s)(z:Gl X x)(l:X.mg x=Y)(hv:bootBuiltins x=J u)(h:Q u s)(y:x≠"__name__":=by decide)(hd:(x==("__debug__":Str))=T:=by decide):wpAny (model X.prog X.w) X.A (eval (.Name x f) X.env) Q E s:=by
 obtain⟨B,i,j⟩:=a.mod.blt;exact Calls.Name_function_global a.ok.kind z (Calls.loadGlobal_builtin (by rw[a.ok.glob];exact a.mod.glob.keeps a.bk) l (by rw[a.ok.blt];exact i.keeps a.bk) ((j x y).trans hv) h) hd
def Dq(i:Gl X x)(f:X.mg x=J u)(r:aN v u)(hd:(x==("__debug__":Str))=T:=by decide):PE X (.Name x pos) (tC v) :=
 λ_ _ _ H _ a h=>vE a i f ⟨v,H,a,r,h⟩ hd
def Dr{x:Str}{v:V}{u:Value}{f:Pos}(i:Gl X x)(j:X.mg x=Y)(hv:bootBuiltins x=J u)(r:aN v u)(l:x≠"__name__":=by decide)(hd:(x==("__debug__":Str))=T:=by decide):PE X (.Name x f) (tC v) :=
 λ_ _ _ H _ a h=>gB a i j hv ⟨v,H,a,r,h⟩ l hd
variable{a b:Expr}{ta tb:TE}{pos:Pos}
def tB(t:TE):TT:=λZ H Q=>t Z H λx f=>∃c,x=.bl c/\Q c f
def G9(h:PE X e t)(l:∀f,isTrue e X.env f=(do let v <-f;standAt e.pos;holding [v] (truthy v)):=by intro _;rfl):PT X e (tB t):=by intro z s Z H Q i B;refine isTrue_plain (ka (h z s Z H _ i B) λv C ⟨x,y,u,j,r⟩=>?_) (l _);obtain⟨d,rfl,q⟩:=r;cases j;exact wpAny_truthy_bool ⟨y,u,q⟩
variable{tA tB':TT}{rest:UX}
def Qk(t u:TT):TT:=λZ H Q=>t Z H λc f=>if c=I then u Z f Q else Q T f
def TQ(t u:TT):TT:=λZ H Q=>t Z H λc f=>if c=I then Q I f else u Z f Q
def Qm(t:TT):TT:=λZ H Q=>t Z H λc f=>Q (!c) f
def Ds(j:PT X a tA):PW X (.BoolOp .And [a] pos) tA:=by
 intro l i s Z H Q f h;refine isTrue_and (ka (j i s Z H Q f h) λc r e=>?_)
 cases c with
 |true=>exact isTrue_and_nil e
 |false=>exact e
def G_(j:PT X a tA):PW X (.BoolOp .Or [a] pos) tA:=by
 intro l i s Z H Q f h;refine isTrue_or (ka (j i s Z H Q f h) λc r e=>?_)
 cases c with
 |false=>exact isTrue_or_nil e
 |true=>exact e
def Ha(z:PT X a tA)(u:PW X (.BoolOp .And (b::rest) pos) tB'):PW X (.BoolOp .And (a::b::rest) pos) (Qk tA tB'):=by
 intro y r s Z H Q f h;refine isTrue_and (ka (z r s Z H _ f h) λc B ⟨i,l,j⟩=>?_)
 cases c with
 |true=>exact u y r B Z i Q l j
 |false=>exact⟨i,l,j⟩
def Lv(z:PT X a tA)(u:PW X (.BoolOp .Or (b::rest) pos) tB'):PW X (.BoolOp .Or (a::b::rest) pos) (TQ tA tB'):=by
 intro y r s Z H Q f h;refine isTrue_or (ka (z r s Z H _ f h) λc B ⟨i,l,j⟩=>?_)
 cases c with
 |true=>exact⟨i,l,j⟩
 |false=>exact u y r B Z i Q l j
def Hb(r:PT X a tA):PT X (.UnaryOp .Not a pos) (Qm tA):=by intro l s Z H Q i h;exact isTrue_not (ka (r l s Z H (λc f=>Q (!c) f) i h) λ_ _ ⟨f,j,q⟩=>⟨f,j,q⟩)
def Lw(ta tb:TE):TE:=λZ H Q=>ta Z H λx f=>∃c,x=.bl c/\if c=I then tb Z f Q else Q (.bl T) f
def Lx(ta:TE):TE:=λZ H Q=>ta Z H λx f=>∃c,x=.bl c/\Q (.bl (!c)) f
def Hc{op}(h:PE X a t):PE X (.BoolOp op [a] pos) t:=λj s Z H Q f i=>BoolOp_one (h j s Z H Q f i)
def Hd(y:PE X a ta)(B:PE X (.BoolOp .And (b::rest) pos) tb):PE X (.BoolOp .And (a::b::rest) pos) (Lw ta tb):=by
 intro r s Z H Q i h;refine BoolOp_and (ka (y r s Z H _ i h) λv z ⟨x,l,j,u,f⟩=>?_);obtain⟨c,rfl,f⟩:=f;cases u;refine wpAny_truthy_bool ?_
 cases c with
 |true=>exact B r z Z l Q j f
 |false=>exact⟨.bl T,l,j,rfl,f⟩
def He(y:PE X a ta):PE X (.UnaryOp .Not a pos) (Lx ta):=by intro u s Z H Q f h;refine UnaryOp_ (ka (y u s Z H _ f h) λv z ⟨x,l,r,j,i⟩=>?_);obtain⟨c,rfl,i⟩:=i;cases j;exact not_of (wpAny_truthy_bool ⟨.bl (!c),l,r,rfl,i⟩)
end
def SqL(K:ib)(H:Hp)(a:Addr)(xs:List V):Prop :=
 Rd H a (.lst xs) \/
  ∃(o:Obj) (f:Array Value) (n:Nat),K.lookup a=J o/\o.cls=.type "list"/\o.dict=Y/\o.data=.seq f n/\f.size<=sizeLine/\aB xs f.toList
def SqT(K:ib)(H:Hp)(a:Addr)(xs:List V):Prop :=
 Rd H a (.tup xs) \/
  ∃(o:Obj) (f:Array Value) (n:Nat),K.lookup a=J o/\o.cls=.type "tuple"/\(o.data=.seq f n/\o.dict=Y)/\f.size<=sizeLine/\aB xs f.toList
def Qp:Value->Option V
 |.none=>J .non
 |.bool b=>J (.bl b)
 |.int i _=>J (.int i)
 |.str x _=>J (.str x)
 |.bytes b _=>J (.byt b)
 |.float b _=>J (.flt b)
 |.ref a=>J (.ref a)
 |.type n=>J (.ty n)
 |_=>Y
def aN.abs(r:aN x u):Qp u=J x:=by
 cases x with
 |non=>cases r;rfl
 |bl _=>cases r;rfl
 |int _=>obtain⟨t,rfl⟩:=r;rfl
 |str _=>obtain⟨t,rfl⟩:=r;rfl
 |byt _=>obtain⟨t,rfl⟩:=r;rfl
 |flt _=>obtain⟨t,rfl⟩:=r;rfl
 |ref _=>cases r;rfl
 |ty _=>cases r;rfl
def aN.inj(r:aN x u)(q:aN y u):x=y:=Option.some.inj (r.abs.symm.trans q.abs)
def aB.inj(r:aB xs us)(q:aB ys us):xs=ys:=by
 induction r generalizing ys with
 |nil=>cases q;rfl
 |cons r t a=>cases q with|cons i f=>rw[r.inj i,a f]
section
variable{X:Cx}{LU:List (Addr × Obj)}{Z:St}{H:Hp}{s:Shared}{a:Addr}{xs ys:List V}
def SqL.of{K:ib}(h:H a=J (.lst xs)):SqL K H a xs:=.inl (.inl h)
def SqT.of{K:ib}(h:H a=J (.tup xs)):SqT K H a xs:=.inl (.inl h)
def Inv.list(i:Inv X LU Z H s)(h:SqL X.K H a xs):∃f:UT,aB xs f/\PlainL s.heap a f.toArray/\xs.length<=sizeLine:=by
 rcases h with h|⟨o,f,n,j,u,hd,l,y,r⟩
 .obtain⟨z,f,n,r,e⟩:=h.ok i.hok;exact⟨f,r,⟨_,n,e,rfl,rfl,rfl⟩,z⟩
 .refine⟨f.toList,r,⟨o,n,i.kIn a o j,u,hd,by simpa using l⟩,?_⟩;have e:=r.length
  grind
def Inv.tupleN(i:Inv X LU Z H s)(h:SqT X.K H a xs):∃f:UT,aB xs f/\gO s.heap a f.toArray/\xs.length<=sizeLine:=by
 rcases h with h|⟨o,f,n,l,u,j,y,r⟩
 .obtain⟨z,f,r,p⟩:=h.ok i.hok;exact⟨f,r,p,z⟩
 .refine⟨f.toList,r,⟨o,i.kIn a o l,u,⟨n,by simpa using j.1⟩,j.2⟩,?_⟩;have e:=r.length
  grind
def Inv.tuple(i:Inv X LU Z H s)(h:SqT X.K H a xs):∃f:UT,aB xs f/\IsTup s.heap a f.toArray/\xs.length<=sizeLine :=
 let⟨f,r,p,z⟩:=i.tupleN h
 ⟨f,r,p.tup,z⟩
def Inv.list_inj(f:Inv X LU Z H s)(h:SqL X.K H a xs)(z:SqL X.K H a ys):xs=ys:=by
 obtain⟨j,r,⟨o,n,e,_,_,d⟩,_⟩:=f.list h;obtain⟨i,y,⟨C,B,u,_,_,l⟩,_⟩:=f.list z;rw[e]at u;cases u;rw[d]at l;injection l with d1 _
 have:j=i:=by simpa using congrArg Array.toList d1
 subst this;exact r.inj y
def Inv.tuple_inj(f:Inv X LU Z H s)(h:SqT X.K H a xs)(z:SqT X.K H a ys):xs=ys:=by
 obtain⟨j,r,⟨o,e,_,n,d⟩,_⟩:=f.tuple h;obtain⟨i,y,⟨C,u,_,B,l⟩,_⟩:=f.tuple z;rw[e]at u;cases u;rw[d]at l;injection l with d1 _
 have:j=i:=by simpa using congrArg Array.toList d1
 subst this;exact r.inj y
end
section
variable{X:Cx}{LU:List (Addr × Obj)}{Z:St}{H:Hp}{s:Shared}{E:UA}
end
section
variable{X:Cx}{st:Stmt}{rest:List Stmt}{t u:TS}{e:Expr}{te:TE}{pos:Pos}
def Ly:TS:=λD Z H=>D.nx Z H
def Qq(t u:TS):TS:=λD Z H=>t { D with nx:=u D} Z H
def Dt:PSs X [] Ly:=λ_ _ Z H _ a h=>wpAny_execs_nil ⟨Z,H,a,h⟩
def AC(j:PS X st t)(l:PSs X rest u):PSs X (st::rest) (Qq t u):=by
 intro i s Z H D a h;refine wpAny_execs_cons (ka (j i s Z H { D with nx:=u D} a h) λf r q=>?_)
 cases f with
 |next =>
  obtain⟨B,y,z,q⟩:=q;exact l i r B y D z q
 |ret v=>exact q
 |brk=>exact q
 |cont=>exact q
def Du(i:PS X st t):PSs X [st] t:=by
 intro j s Z H D a h;refine wpAny_execs_cons (ka (i j s Z H D a h) λf l q=>?_)
 cases f with
 |next=>exact wpAny_execs_nil q
 |ret v=>exact q
 |brk=>exact q
 |cont=>exact q
def Inv.quiet{f:UU}{Z:St}{H:Hp}{s:Shared}(a:Inv X f Z H s):interactive X.env=T:=by simp[interactive,a.ok.kind]
def Lz(te:TE):TS:=λD Z H=>te Z H λ_ a=>D.nx Z a
def Dv(f:PE X e te)(j:swapsWith e Y pos.line X.env=pure T:=by rfl):PS X (.Expr e pos) (Lz te):=by intro y s Z H D a h;exact wpAny_Expr_any (ka (f y s Z H _ a h) λv B ⟨x,i,r,z,l⟩=>⟨Z,i,r,l⟩) a.quiet j
def Qr(te:TE):TS:=λD Z H=>te Z H D.rt
def Hf(i:PE X e te):PS X (.Return (J e) pos) (Qr te):=by intro y s Z H D a h;exact wpAny_Return_some (ka (i y s Z H _ a h) λv z ⟨x,j,r,f,l⟩=>⟨x,Z,j,r,f,l⟩)
def Qs(c:TT)(t u:TS):TS:=λD Z H=>c Z H λb a=>if b=I then t D Z a else u D Z a
def LA(C:PT X c tc)(B:PSs X a t)(z:PSs X b u):PS X (.If c a b pos) (Qs tc t u):=by
 intro i s Z H D f h;refine wpAny_If (ka (C i s Z H _ f h) λd y ⟨j,r,l⟩=>?_)
 cases d with
 |true=>exact B i y Z j D r l
 |false=>exact z i y Z j D r l
end
abbrev TG:=V->St->Hp->(St->Hp->Prop)->Prop
abbrev KI:=List V->St->Hp->(St->Hp->Prop)->Prop
def PG(X:Cx)(a:Expr)(t:TG):Prop :=
 ∀(f:UU)(s:Shared)(Z:St)(H:Hp)(v:V)(u:Value)(Q:St->Hp->Prop),Inv X f Z H s->aN v u->t v Z H Q ->
  wpAny (model X.prog X.w) X.A (assign a X.env u) (λ_ i=>SN X f Q i) X.xe s
def PGs(X:Cx)(j:UX)(t:KI):Prop :=
 ∀(i:UU)(s:Shared)(Z:St)(H:Hp)(f:List V)(a:UT)(Q:St->Hp->Prop),Inv X i Z H s->aB f a->t f Z H Q ->
  wpAny (model X.prog X.w) X.A (assignInOrder ((assignEach j X.env).map (·.2)) a) (λ_ l=>SN X i Q l) X.xe s
abbrev dk:=V->V->V->Hp->(Hp->Prop)->Prop
inductive SE(X:Cx)(LU:UU)(Z:St)(Q:Hp->Prop)(s':Shared):Prop
 |mk(H':Hp)(i:Inv X LU Z H' s')(q:Q H'):SE X LU Z Q s'
def Hg(X:Cx)(t:dk):Prop :=
 ∀(j:UU)(s:Shared)(Z:St)(H:Hp)(o i v:V)(f a u:Value)(Q:Hp->Prop),Inv X j Z H s->aN o f->aN i a->aN v u->t o i v H Q ->
  wpAny (model X.prog X.w) X.A (setItem f a u) (λ_ l=>SE X j Z Q l) X.xe s
section
variable{X:Cx}{pos:Pos}
def F4(i:Nat):TG:=λv Z H Q=>Q (Z.set i (J v)) H
def vA(hN:X.N.Nodup)(f:X.N[i]?=J x)(j:Loc X.env.scope x)(hf:X.fn x=I\/X.env.scope.names.lookup x=J .local:=by first | exact .inl rfl | exact .inr rfl | assumption):PG X (.Name x pos) (F4 i):=by intro z s Z H v u Q a r h;exact wpAny_assign_Name (sw a hN f j r (λy l=>⟨_,H,l,h⟩) hf)
def Qt:KI:=λa Z H Q=>a=[]/\Q Z H
def LD(t:TG)(u:KI):KI:=λa Z H Q=>∃v r,a=v::r/\t v Z H λf i=>u r f i Q
def Dw:PGs X [] Qt:=by intro j s Z H i f Q a r h;obtain⟨e,h⟩:=h;subst e;cases r;exact assignInOrder_nil ⟨Z,H,a,h⟩
def Aw(i:PG X e t)(B:PGs X es u)(z:(assignEach (e::es) X.env).map (·.2)=assign e X.env::(assignEach es X.env).map (·.2):=by rfl):PGs X (e::es) (LD t u):=by
 intro f s Z H G L Q a r h;obtain⟨v,M,e1,h⟩:=h;subst e1
 cases r with
 |cons r C =>
  rw[z];refine assignInOrder_cons (ka (i f s Z H _ _ _ a r h) λ_ E ⟨F,y,l,j⟩=>?_);exact B f E F y _ _ Q l C j
def Qu(K:ib)(n:Nat)(t:KI):TG:=λv Z H Q=>∃a xs,v=.ref a/\SqT K H a xs/\xs.length=n/\t xs Z H Q
def Hh{i:UX}{k:Nat}{t:KI}{n:Nat}(O:X.calm=I)(h:PGs X i t)(F:(assignEach i X.env).length=n:=by rfl)(j:(assignEach i X.env).findIdx? (·.1)=Y:=by rfl):PG X (.Tuple i k pos) (Qu X.K n t):=by
 intro E s Z H v u Q f r l;obtain⟨a,xs,e1,G,M,l⟩:=l;subst e1;cases r;obtain⟨C,y,z,P⟩:=f.tuple G;refine assign_Tuple_tuple (f.ok.hd O) z (by simp[F,<-M,y.length]) j λR L=>?_;have B:=f.kept (t':=s.toks) λb o e=>L b o (u_ (l_ e)) e;exact h E _ Z H xs _ Q B (by simpa using y) l
def Qw(to j:TE)(t:dk):TG:=λv Z H Q=>to Z H λo a=>j Z a λi l=>t o i v l λf=>Q Z f
def yR(U:PE X o to)(hi:PE X i ti)(M:Hg X t)(ha:∀v,assign (.Subscript o i pos) X.env v=(do
   let a <-holding [v] (eval o X.env)
   let f <-holding [v,a] (eval i X.env)
   standAt pos
   holding [v,a,f] (setItem a f v)
   release [v,a,f] []):=by intro _;rfl):PG X (.Subscript o i pos) (Qw to ti t):=by
 intro j s Z H v u Q l r h;refine d_ (wpAny_holding (ka (U j s Z H _ l h) λa P ⟨x,G,E,z,C⟩=>?_));refine d_ (wpAny_holding (ka (hi j P Z G _ E C) λf s2 ⟨y,S,R,B,F⟩=>?_));refine d_ (wpAny_standAt (d_ (wpAny_holding (ka (M j s2 Z S x y v a f u _ R z B r F) λ_ s3 ⟨L,W,O⟩=>?_))));exact wpAny_release ⟨Z,L,W,O⟩
def LF(f:TE)(g:TG):TS:=λD Z H=>f Z H λx a=>g x Z a D.nx
def Hi(j:PE X e te)(C:PG X tg g)(z:swapsWithSole [tg] e pos.line X.env=pure T:=by rfl)(E:swappedStores [tg] e X.env=pure Y:=by rfl)(l:(assignEach [tg] X.env).map (·.2)=[assign tg X.env]:=by rfl):PS X (.Assign [tg] e pos) (LF te g):=by
 intro f s Z H D a h;refine wpAny_Assign_stores (ka (j f s Z H _ a h) λv B ⟨x,y,u,i,r⟩=>?_) z E;rw[l];exact ka (C f B Z y x v _ u i r) λ_ F q=>q
def Hj(hN:X.N.Nodup)(F:X.N[i]?=J x)(C:Loc X.env.scope x)(j:PE X e te)(z:swapsWith e (J (.Name x pos')) pos.line X.env=pure T:=by rfl)(hf:X.fn x=I\/X.env.scope.names.lookup x=J .local:=by first | exact .inl rfl | exact .inr rfl | assumption):
  PS X (.Assign [.Name x pos'] e pos) (LF te (F4 i)):=by
 intro B s Z H D a h;refine wpAny_Assign_Name (ka (j B s Z H _ a h) λv G ⟨y,u,r,f,l⟩=>?_) z;exact sw r hN F C f (λL E=>⟨_,u,E,l⟩) hf
def Hk(c:TT)(tb:TS):TS:=λD Z H=>∃W:Nat->St->Hp->Prop,(∃m,W m Z H)/\∀m Z H,W m Z H ->
 c Z H λb a=>if b=I then ∃N:St->Hp->Prop,(∀f i,N f i->∃j,j<m/\W j f i)/\tb { D with nx:=N,ct:=N,bk:=D.nx} Z a else D.nx Z a
def AK(L:PassesOwn (model X.prog X.w) X.A X.env X.xe)(hc:PT X c tc)(hb:PSs X body tb):PS X (.While c body [] pos) (Hk tc tb):=by
 intro y s Z H D z h;obtain⟨W,⟨m0,w0⟩,turn⟩:=h;refine wpAny_While (codeAny_whileLoop (λn s'=>∃Q M,Inv X y Q M s'/\W n Q M) ?_ m0 ⟨Z,H,z,w0⟩);rintro n S ⟨r,G,R,U⟩;refine wpAny_passesOwn L (ka (hc y S r G _ R (turn n r G U)) λb s2 ⟨O,P,j⟩=>?_)
 cases b with
 |true =>
  obtain⟨N,hN,j⟩:=j;refine wpAny_passesOwn L (ka (hb y s2 r O _ P j) λf s3 l=>?_)
  cases f with
  |next =>
   obtain⟨i,a,E,B⟩:=l;obtain⟨F,u,C⟩:=hN i a B;exact⟨F,u,i,a,E,C⟩
  |cont =>
   obtain⟨i,a,E,B⟩:=l;obtain⟨F,u,C⟩:=hN i a B;exact⟨F,u,i,a,E,C⟩
  |brk=>exact l
  |ret v=>exact l
 |false =>
  exact wpAny_execs_nil ⟨r,O,P,j⟩
end
structure It where
 go:Nat->Hp->Prop
 yld:Nat->Hp->V->Hp->Prop
 stop:Nat->Hp->Prop
def ja(X:Cx)(a:UU)(H:Hp)(b:Addr):Prop :=
 H b=Y/\b≠X.env.locals/\b∉X.fs/\(b∈X.ex\/X.s₀.heap.objs.size<=b)/\(∀x c,X.env.cells.lookup x=J c->c≠b)/\∀p∈X.pn++a,p.1≠b
def Inv.fpOk{X:Cx}{i:UU}{Z:St}{H H':Hp}{s:Shared}{b:Addr}(a:Inv X i Z H s)(f:s.heap.objs.size<=b)(j:H' b=Y):ja X i H' b:=by
 refine⟨j,Dn (oQ a.lt f),a.nofs f,.inr (mu a.sz f),λx c e z=>?_,λp l z=>?_⟩
 .obtain⟨v,q⟩:=a.cell x c e;exact absurd (oQ q.lt (by rw[z];exact f)) (B4 _)
 .exact absurd (oQ (l_ (a.pin p l).1) (by rw[z];exact f)) (B4 _)
inductive SD(X:Cx)(LU:UU)(Z:St)(u:Value)(Y:V->Hp->Prop)(n:Heap->Prop)(fp:US)(s2:Shared):Prop
 |mk(x:V)(H':Hp)(i:Inv X LU Z H' s2)(r:aN x u)(y:Y x H')(t:n s2.heap)(f:∀b∈fp,H' b=none):SD X LU Z u Y n fp s2
structure CO(P:Program)(w:World)(K:ib)(tg:Expr)(J:It)(fp:US)(it:Addr)(tn:Nat->Heap->Prop):Prop where
 mem:it∈fp
 obj:∀i h,tn i h->∀b∈fp,∃o,h.get? b=some o/\∀v,o.data≠.cell v
 keep:∀i h h',tn i h->(∀b∈fp,∀o,h.get? b=some o->h'.get? b=some o)->tn i h'
 item:∀(X:Cx),X.prog=P->X.w=w->X.K=K->X.calm=I->∀(i:Nat)(LU:UU)(s:Shared)(Z:St)(H:Hp)(E:UA),Inv X LU Z H s->(∀b∈fp,ja X LU H b)->tn i s.heap->J.go i H ->
  wpAny (model P w) X.A (pyNext (.ref it)) (λr s1=>∃u,r=some u /\
   wpAny (model P w) X.A (letOwnedTupleGo tg (.ref it) u) (λ_ s2=>SD X LU Z u (J.yld i H) (tn (i+1)) fp s2) E s1) E s
 done:∀(X:Cx),X.prog=P->X.w=w->X.K=K->X.calm=I->∀(i:Nat)(LU:UU)(s:Shared)(Z:St)(H:Hp)(E:UA),Inv X LU Z H s->(∀b∈fp,ja X LU H b)->tn i s.heap->J.stop i H ->
  wpAny (model P w) X.A (pyNext (.ref it)) (λr s1=>r=Y/\Inv X LU Z H s1) E s
 self:∀(A:Around)(i:Nat)(s:Shared)(Q:UA)(E:UA),tn i s.heap->Q (.ref it) s->wpAny (model P w) A (pyIter (.ref it)) Q E s
abbrev TI:=St->Hp->(It->Hp->Prop)->Prop
inductive Qx(X:Cx)(LU:UU)(Z:St)(tg:Expr)(R:It->Hp->Prop)(itv:Value)(s2:Shared):Prop
 |mk(it:Addr)(fp:US)(tn:Nat->Heap->Prop)(J:It)(H':Hp)(e:itv=.ref it)(i:Inv X LU Z H' s2)(t:CO X.prog X.w X.K tg J fp it tn)(n:tn 0 s2.heap)(f:∀b∈fp,ja X LU H' b)(r:R J H'):Qx X LU Z tg R itv s2
def PI(X:Cx)(j a:Expr)(i:TI):Prop :=
 ∀(f:UU)(s:Shared)(Z:St)(H:Hp)(R:It->Hp->Prop),Inv X f Z H s->i Z H R ->
  wpAny (model X.prog X.w) X.A (eval a X.env) (λv l=>wpAny (model X.prog X.w) X.A (pyIter v) (Qx X f Z j R) X.xe l) X.xe s
def wX(f:s.heap.get? it=J o)(j:o.cls=.type n)(hd:o.data=.fields vs)(i:["enumerate","zip","dict_itemiterator","dict_reverseitemiterator","odict_iterator","itertools.zip_longest","itertools.pairwise"].contains n=T)(a:Q () s):wpAny M A (letOwnedTupleGo tg (.ref it) u) Q E s:=by
 cases tg<;>first
  |exact ii a
  | (cases u<;>first
    |exact ii a
    | (refine d_ (wpAny_load f ?_)
       rw[j,hd];show wpAny M A (if(["enumerate","zip","dict_itemiterator","dict_reverseitemiterator","odict_iterator","itertools.zip_longest","itertools.pairwise"].contains n&&vs[0]? == J (rawInt _))=I then _ else _) Q E s;rw[f_ (by intro h;rw[i]at h;cases h)]
       exact ii a))
def Qy(K:ib)(a:Addr):It :=
 ⟨λi H=>∃xs x,SqL K H a xs/\xs[i]?=J x,λi H x f=>f=H/\∀xs,SqL K H a xs->xs[i]?=J x,λi H=>∃xs,SqL K H a xs/\xs.length<=i⟩
def SF(K:ib)(a:Addr):It :=
 ⟨λi H=>∃xs x,SqT K H a xs/\xs[i]?=J x,λi H x f=>f=H/\∀xs,SqT K H a xs->xs[i]?=J x,λi H=>∃xs,SqT K H a xs/\xs.length<=i⟩
def OK(lo:Int)(n:Nat):It:=⟨λi _=>i<n,λi H x a=>a=H/\x=.int (lo+i),λi _=>n<=i⟩
def yh{P:Program}{w:World}{K:ib}{tg:Expr}(a j:Addr):CO P w K tg (Qy K a) [j] j (λi h=>h.IsListIter j a i) where
 mem:=by simp
 obj:=λi h st b l=>by
  have e:b=j:=by simpa using l
  subst e;obtain⟨o,e,c,d⟩:=st;exact⟨o,e,λv z=>by rw[d]at z;cases z⟩
 keep:=λi h h' st k=>st.at λo e=>k j (by simp) o e
 item:=by intro X F W L hc i LU s Z H E f hf st O;subst F W L;obtain⟨xs,x,y,M⟩:=O;obtain⟨C,R,p,hz⟩:=f.list y;obtain⟨u,hu,ru⟩:=R.get M;obtain⟨Q,G,f2,S,B,U⟩:=hf j (by simp);refine wpAny_pyNext_list_item st p.isList (by simpa using hu) λh' r sb=>?_;have I1:=f.turned (t':=s.toks) (λb o l e=>(sb.2 b l).trans e) Q G S B U;obtain⟨o,e,c,d⟩:=id r;exact⟨u,rfl,wX e c d (by decide) ⟨x,H,I1,ru,⟨rfl,λys hy=>by rw[f.list_inj hy y];exact M⟩,r,λb l=>(hf b l).1⟩⟩
 done:=by intro X F W L hc i LU s Z H E f hf st O;subst F W L;obtain⟨xs,y,M⟩:=O;obtain⟨C,R,p,hz⟩:=f.list y;obtain⟨Q,G,f2,S,B,U⟩:=hf j (by simp);have hl:=R.length;exact wpAny_pyNext_list_end (f.ok.hd hc) st p.isList (by simp;lia) λh' eb=>⟨rfl,f.turned (t':=s.toks) (λb o l e=>eb b o l e) Q G S B U⟩
 self:=λ_ _ _ _ _ st h=>wpAny_pyIter_listiter st h
def xI{P:Program}{w:World}{K:ib}{tg:Expr}(a j:Addr):CO P w K tg (SF K a) [j] j (λi h=>h.IsTupleIter j a i) where
 mem:=by simp
 obj:=λi h st b l=>by
  have e:b=j:=by simpa using l
  subst e;obtain⟨o,e,c,d⟩:=st;exact⟨o,e,λv z=>by rw[d]at z;cases z⟩
 keep:=λi h h' st k=>st.at λo e=>k j (by simp) o e
 item:=by intro X F W L hc i LU s Z H E f hf st O;subst F W L;obtain⟨xs,x,y,M⟩:=O;obtain⟨C,R,p,hz⟩:=f.tuple y;obtain⟨u,hu,ru⟩:=R.get M;obtain⟨Q,G,f2,S,B,U⟩:=hf j (by simp);refine wpAny_pyNext_tuple_item st (p) (by simpa using hu) λh' r sb=>?_;have I1:=f.turned (t':=s.toks) (λb o l e=>(sb.2 b l).trans e) Q G S B U;obtain⟨o,e,c,d⟩:=id r;exact⟨u,rfl,wX e c d (by decide) ⟨x,H,I1,ru,⟨rfl,λys hy=>by rw[f.tuple_inj hy y];exact M⟩,r,λb l=>(hf b l).1⟩⟩
 done:=by intro X F W L hc i LU s Z H E f hf st O;subst F W L;obtain⟨xs,y,M⟩:=O;obtain⟨C,R,p,hz⟩:=f.tuple y;obtain⟨Q,G,f2,S,B,U⟩:=hf j (by simp);have hl:=R.length;exact wpAny_pyNext_tuple_end (f.ok.hd hc) st (p) (by simp;lia) λh' eb=>⟨rfl,f.turned (t':=s.toks) (λb o l e=>eb b o l e) Q G S B U⟩
 self:=λ_ _ _ _ _ st h=>wpAny_pyIter_tupleiter st h
def xH{P:Program}{w:World}{K:ib}{tg:Expr}(f:Addr)(lo:Int)(n:Nat):CO P w K tg (OK lo n) [f] f (λi h=>IsRangeIter h f (lo+(i:Nat)*1) ((n:Int)-(i:Nat)) 1) where
 mem:=by simp
 obj:=λi h st b j=>by
  have e:b=f:=by simpa using j
  subst e
  exact⟨_,st,λv z=>by
   have z':=z
   cases z'⟩
 keep:=λi h L st k=>k f (by simp) _ st
 item:=by intro X M R Q G i O s Z H E a hf st y;subst M R Q;obtain⟨B,u,f2,C,r,F⟩:=hf f (by simp);have W:=Walks.range (prog:=X.prog) (w:=X.w) (a.ok.hd G) f lo 1 n;refine W.item i s _ _ y st λv L tk hv l kk=>?_;obtain⟨t,rfl⟩:=hv;have U:Inv X O Z H { s with heap:=L,toks:=tk}:=a.turned (λb o j e=>kk b o (by simpa using j) e) B u C r F;refine⟨_,rfl,wX l rfl rfl (by decide) ⟨.int (lo+i),H,U,⟨t,?_⟩,⟨rfl,rfl⟩,l,λb j=>(hf b j).1⟩⟩;rw[Int.mul_one]
 done:=by intro X M R Q G i O s Z H E a hf st y;obtain⟨B,u,f2,C,r,F⟩:=hf f (by simp);exact wpAny_pyNext_range_end (a.ok.hd G) st (by have:n<=i:=y;lia) λL S=>⟨rfl,a.turned (t':=s.toks) (λb o j e=>S b o j e) B u C r F⟩
 self:=λ_ _ _ _ _ st h=>wpAny_pyIter_rangeiter st h
section
variable{X:Cx}{tg:Expr}
def LG(K:ib)(i:TE):TI:=λZ H R=>i Z H λx f=>∃a,x=.ref a/\(∃xs,SqL K f a xs)/\R (Qy K a) f
def Qz(K:ib)(i:TE):TI:=λZ H R=>i Z H λx f=>∃a,x=.ref a/\(∃xs,SqT K f a xs)/\R (SF K a) f
def Dx{l:Expr}{r:TE}(G:PE X l r):PI X tg l (LG X.K r):=by
 intro C s Z H R j h;refine ka (G C s Z H _ j h) λv i ⟨x,B,f,u,y⟩=>?_;obtain⟨a,e,⟨xs,E⟩,q⟩:=y;subst e;cases u;obtain⟨z,M,p,L⟩:=f.list E;refine wpAny_pyIter_list p.isList ?_;refine⟨i.heap.objs.size,[i.heap.objs.size],_,_,B,rfl,f.kept (t':=i.toks) λb o e=>m_ _ e,yh a _,⟨_,rT _ rfl,rfl,rfl⟩,λb F=>?_,q⟩;have e:b=i.heap.objs.size:=by simpa using F
 subst e;exact f.fpOk (il _) (f.hok.fresh (il _))
def Hl{l:Expr}{r:TE}(G:PE X l r):PI X tg l (Qz X.K r):=by
 intro C s Z H R j h;refine ka (G C s Z H _ j h) λv i ⟨x,B,f,u,y⟩=>?_;obtain⟨a,e,⟨xs,E⟩,q⟩:=y;subst e;cases u;obtain⟨z,M,p,L⟩:=f.tuple E;refine wpAny_pyIter_tuple (p) ?_;refine⟨i.heap.objs.size,[i.heap.objs.size],_,_,B,rfl,f.kept (t':=i.toks) λb o e=>m_ _ e,xI a _,⟨_,rT _ rfl,rfl,rfl⟩,λb F=>?_,q⟩;have e:b=i.heap.objs.size:=by simpa using F
 subst e;exact f.fpOk (il _) (f.hok.fresh (il _))
def AT{i:UU}{Z:St}{H:Hp}{s:Shared}{R:It->Hp->Prop}{E:UA}{lo a:Int}{t u v:Tok}{l:Nat}(j:Inv X i Z H s)(r:-(2^62)<=lo)(z:lo<2^62)(y:-(2^62)<=a)(B:a<2^62)(q:R (OK lo (a-lo).toNat) H):wpAny (model X.prog X.w) X.A (pyIter (.ref s.heap.objs.size)) (Qx X i Z tg R) E { s with heap:=s.heap.push { cls:=.type "range",data:=.fields #[.int lo t,.int a u,.int 1 v]},toks:=l}:=by
 refine wpAny_pyIter_range (IsRange.new ..) (small_one r z y B) ?_;have f:Inv X i Z H { s with heap:=s.heap.push { cls:=.type "range",data:=.fields #[.int lo t,.int a u,.int 1 v]},toks:=l}:=j.kept λb o e=>m_ _ e
 refine⟨(s.heap.push { cls:=.type "range",data:=.fields #[.int lo t,.int a u,.int 1 v]}).objs.size,[(s.heap.push { cls:=.type "range",data:=.fields #[.int lo t,.int a u,.int 1 v]}).objs.size],_,_,H,rfl,
  f.kept (t':=l) λb o e=>m_ _ e,xH _ lo (a-lo).toNat,?_,λb C=>?_,q⟩
 .have e1:lo+((0:Nat):Int)*1=lo:=by simp
  have e2:(((a-lo).toNat:Nat):Int)-((0:Nat):Int)=Builtin.Range.rangeSize lo a 1:=by rw[rangeSize_one];split<;>lia
  rw[e1,e2];exact rT _ rfl
 .have e:b=(s.heap.push { cls:=.type "range",data:=.fields #[.int lo t,.int a u,.int 1 v]}).objs.size:=by simpa using C
  subst e;exact f.fpOk (il _) (f.hok.fresh (il _))
def LH(i:TA):TI:=λZ H R=>i Z H λf a=>∃j:Int,f=[.int j] /\ -(2^62)<=j/\j<2^62/\R (OK 0 j.toNat) a
def yQ{a:Expr}{u:TA}{p i:Pos}(M:Gl X "range")(F:X.mg "range"=Y)(L:PA X [a] u)(C:starEach [a] X.env=[(T,eval a X.env)]:=by rfl):PI X tg (.Call (.Name "range" p) [a] [] i) (LH u):=by
 intro G s Z H R f h;refine Call_ (gB f M F boot_range (PyProof.Rows.callWith_type1 (ka (L i G s Z H _ f h) λP S ⟨O,Q,z,y,l⟩=>?_) C rfl));obtain⟨j,e,l,B,q⟩:=l;subst e
 cases y with
 |cons r E =>
  cases E;obtain⟨t,rfl⟩:=r;exact call_range_1 (AT z ⋯ ⋯ l B (by simpa using q))
def QA(y:TI)(g:TG)(tb:TS):TS:=λD Z H=>y Z H λa r=>∃W:Nat->Nat->St->Hp->Prop,(∃m,W 0 m Z r)/\∀i m Z H,W i m Z H ->
 (a.stop i H/\D.nx Z H)\/(a.go i H/\∃N:St->Hp->Prop,(∀j f,N j f->∃l,l<m/\W (i+1) l j f)/\∀x f,a.yld i H x f->g x Z f λz u=>tb { D with nx:=N,ct:=N,bk:=D.nx} z u)
def kS(a:US)(h:Heap):UU:=a.filterMap λb=>(h.get? b).map λo=>(b,o)
def gS(a:b∈fp)(e:h.get? b=J o):(b,o)∈kS fp h:=C6.mpr ⟨b,a,by rw[e];rfl⟩
def yL(f:p∈kS fp h):p.1∈fp/\h.get? p.1=J p.2:=by
 obtain⟨b,a,e⟩:=C6.mp f
 cases q:h.get? b with
 |none=>rw[q]at e;cases e
 |some o =>
  rw[q]at e;have i:=Option.some.inj e;subst i;exact⟨a,q⟩
def Inv.pinned{f:UU}{Z:St}{H:Hp}{s:Shared}{i:US}(a:Inv X f Z H s)(hf:∀b∈i,ja X f H b)(r:∀b∈i,∃o,s.heap.get? b=J o/\∀v,o.data≠.cell v):Inv X (f++kS i s.heap) Z H s :=
 a.pins_of λp l=>(lT.mp l).elim (λz=>a.pin p (o_ _ z)) λz=>by
  obtain⟨j,e⟩:=yL z;obtain⟨B,y,C,_⟩:=hf p.1 j;obtain⟨o,u,d⟩:=r p.1 j
  simp_all
def Inv.unpinned{LU f:UU}{Z:St}{H:Hp}{s:Shared}(a:Inv X (LU++f) Z H s):Inv X LU Z H s:=a.pins_of λp i=>a.pin p (o_ _ (xg _ i))
def Hm(O:PassesOwn (model X.prog X.w) X.A X.env X.xe)(hc:X.calm=I)(hi:PI X tg iter wi)(hg:PG X tg g)(B:PSs X body tb)(hs:∀x,foldedSetIterable iter X.env x=pure x:=by intro _;rfl):PS X (.For tg iter body [] pos) (QA wi g tb):=by
 intro G s Z H D ap h;refine wpAny_For (ka (hi G s Z H _ ap h) λv s1 h1=>ka h1 λax s2 h2=>?_) hs;obtain⟨it,R,tn,as,H2,e,I2,j,an,f2,W,⟨m0,w0⟩,turn⟩:=h2;subst e;have l:∀{C:Hp},(∀b∈R,C b=Y)->∀b∈R,ja X G C b:=λhn b B=>⟨hn b B,(f2 b B).2⟩;refine codeAny_forLoop_any (λn s'=>∃i Q C,Inv X G Q C s'/\tn i s'.heap/\(∀b∈R,C b=Y)/\W i n Q C) ?_ m0 ⟨0,Z,H2,I2,an,λb B=>(f2 b B).1,w0⟩;rintro n s3 ⟨i,P,S,I3,M,L,w3⟩;rcases turn i n P S w3 with⟨stop,qn⟩|⟨go,N,hN,step⟩
 .refine wpAny_passesOwn O (ka (j.done X rfl rfl rfl hc i G s3 P S X.xe I3 (l L) M stop) λr s4 ⟨hr,I4⟩=>?_);subst hr;exact wpAny_execs_nil ⟨P,S,I4,qn⟩
 .refine wpAny_passesOwn O (ka (j.item X rfl rfl rfl hc i G s3 P S X.xe I3 (l L) M go) λr s4 ⟨u,hr,h4⟩=>?_);subst hr;refine wpAny_passesOwn O (ka h4 λ_ s5 ⟨x,H5,I5,r5,y5,F,al⟩=>?_);have U:=I5.pinned (l al) (j.obj _ _ F);refine wpAny_passesOwn O (ka (hg _ s5 P H5 x u _ U r5 (step x H5 y5)) λ_ s6 ⟨Z6,H6,I6,q6⟩=>?_);refine wpAny_passesOwn O (ka (B _ s6 Z6 H6 _ I6 q6) λf s7 E=>?_);have again:∀{y:St}{z:Hp},Inv X (G++kS R s5.heap) y z s7->N y z->∃m,m<n/\∃i Q C,Inv X G Q C s7/\tn i s7.heap/\(∀b∈R,C b=Y)/\W i m Q C:=λ{y z} a n7=>by
   obtain⟨m',hm,w7⟩:=hN y z n7;refine⟨m',hm,i+1,y,z,a.unpinned,j.keep _ _ _ F λb B o e=>(a.pin (b,o) (o_ _ (o_ _ (gS B e)))).1,λb B=>?_,w7⟩;obtain⟨o,e,d⟩:=j.obj _ _ F b B;exact(a.pin (b,o) (o_ _ (o_ _ (gS B e)))).2.1
  cases f with
  |next=>obtain⟨y,z,a,n7⟩:=E;exact again a n7
  |cont=>obtain⟨y,z,a,n7⟩:=E;exact again a n7
  |brk=>obtain⟨y,z,a,E⟩:=E;exact⟨y,z,a.unpinned,E⟩
  |ret v=>obtain⟨x7,y,z,a,r7,E⟩:=E;exact⟨x7,y,z,a.unpinned,r7,E⟩
end
abbrev R2:=V->V->Hp->VK->Prop
def OpR(X:Cx)(f:Value->Value->Sem Value)(r:R2):Prop :=
 ∀(a:UU)(s:Shared)(Z:St)(H:Hp)(x y:V)(v u:Value)(Q:VK),Inv X a Z H s->aN x v->aN y u->r x y H Q ->
  wpAny (model X.prog X.w) X.A (f v u) (EP X a Z Q) X.xe s
def OL(X:Cx)(f:Value->Sem Value)(r:V->Hp->VK->Prop):Prop :=
 ∀(a:UU)(s:Shared)(Z:St)(H:Hp)(x:V)(v:Value)(Q:VK),Inv X a Z H s->aN x v->r x H Q ->
  wpAny (model X.prog X.w) X.A (f v) (EP X a Z Q) X.xe s
def cS(X:Cx)(f:Value)(r:List V->Hp->VK->Prop):Prop :=
 ∀(i:UU)(s:Shared)(Z:St)(H:Hp)(xs:List V)(a:UT)(Q:VK),Inv X i Z H s->aB xs a->r xs H Q ->
  wpAny (model X.prog X.w) X.A (call f a) (EP X i Z Q) X.xe s
def QB(X:Cx)(r:V->Hp->(Bool->Hp->Prop)->Prop):Prop :=
 ∀(a:UU)(s:Shared)(Z:St)(H:Hp)(x:V)(v:Value)(Q:Bool->Hp->Prop),Inv X a Z H s->aN x v->r x H Q ->
  wpAny (model X.prog X.w) X.A (truthy v) (TP X a Z Q) X.xe s
def LJ(r:R2)(i tb:TE):TE:=λZ H Q=>i Z H λx a=>tb Z a λy f=>r x y f Q
def TR(r:V->Hp->VK->Prop)(f:TE):TE:=λZ H Q=>f Z H λx a=>r x a Q
def rI(C:Int->Int->Prop)(g:Int->Int->V):R2:=λx y H Q=>∃i j,x=.int i/\y=.int j/\C i j/\Q (g i j) H
def Dy(g:Int->Int->V):R2:=λx y H Q=>∃i j,x=.int i/\y=.int j/\Q (g i j) H
def rU(g:Int->V):V->Hp->VK->Prop:=λx H Q=>∃i,x=.int i/\Q (g i) H
section
variable{X:Cx}{a b c:Expr}{ta tb tc:TE}{pos:Pos}
def Hn(O:PE X a ta)(U:PE X b tb){r:UU}{s:Shared}{Z:St}{H:Hp}{R:V->V->Hp->Prop}(C:Inv X r Z H s)(h:ta Z H λx B=>tb Z B λy i=>R x y i){Q:UA}{f:Value->Value->Sem Value}(hf:∀v u z x y i,Inv X r Z i z->aN x v->aN y u->R x y i->wpAny (model X.prog X.w) X.A (f v u) Q X.xe z):
  wpAny (model X.prog X.w) X.A (eval a X.env) (λv l=>wpAny (model X.prog X.w) X.A (eval b X.env) (λu j=>wpAny (model X.prog X.w) X.A (f v u) Q X.xe j) X.xe l) X.xe s:=by
 refine ka (O r s Z H _ C h) λv P ⟨x,B,L,E,G⟩=>?_;refine ka (U r P Z B _ L G) λu z ⟨y,i,S,F,M⟩=>?_;exact hf v u z x y i S E F M
def LK{i:Operator}{r:R2}(E:OpR X (binaryOp i) r)(z:PE X a ta)(F:PE X b tb):PE X (.BinOp a i b pos) (LJ r ta tb):=by intro l s Z H Q f h;exact wpAny_BinOp (Hn z F f h λv u L x y C B G j q=>E l L Z C x y v u Q B G j q)
def LL(l:OL X (unaryOp op) r)(C:PE X a ta):PE X (.UnaryOp op a pos) (TR r ta):=by intro i s Z H Q f h;exact UnaryOp_ (ka (C i s Z H _ f h) λv B ⟨x,u,z,j,y⟩=>l i B Z u x v Q z j y)
def TU{f:Value->Value->Sem Value}{C:Int->Int->Prop}{g:Int->Int->Int}(rule:∀(i j:Int)(t u:Tok)(s:Shared)(Q:UA)(E:UA),C i j->Q (.int (g i j) s.toks) { s with toks:=s.toks+1}->wpAny (model X.prog X.w) X.A (f (.int i t) (.int j u)) Q E s):
  OpR X f (rI C λi j=>.int (g i j)):=by
 intro G s Z H x y v u Q l F z h;obtain⟨i,j,rfl,rfl,B,q⟩:=h;obtain⟨t,rfl⟩:=F;obtain⟨r,rfl⟩:=z;exact rule i j t r s _ _ B ⟨.int (g i j),H,l.tok _,⟨_,rfl⟩,q⟩
def LM{f:Value->Value->Sem Value}{g:Int->Int->Int}(rule:∀(i j:Int)(t u:Tok)(s:Shared)(Q:UA)(E:UA),Q (.int (g i j) s.toks) { s with toks:=s.toks+1}->wpAny (model X.prog X.w) X.A (f (.int i t) (.int j u)) Q E s):
  OpR X f (Dy λi j=>.int (g i j)):=by
 intro C s Z H x y v u Q l B z h;obtain⟨i,j,rfl,rfl,q⟩:=h;obtain⟨t,rfl⟩:=B;obtain⟨r,rfl⟩:=z;exact rule i j t r s _ _ ⟨.int (g i j),H,l.tok _,⟨_,rfl⟩,q⟩
def Dz{f:Value->Value->Sem Value}{g:Int->Int->Bool}(rule:∀(i j:Int)(t u:Tok)(s:Shared)(Q:UA)(E:UA),Q (.bool (g i j)) s->wpAny (model X.prog X.w) X.A (f (.int i t) (.int j u)) Q E s):
  OpR X f (Dy λi j=>.bl (g i j)):=by
 intro C s Z H x y v u Q l B z h;obtain⟨i,j,rfl,rfl,q⟩:=h;obtain⟨t,rfl⟩:=B;obtain⟨r,rfl⟩:=z;exact rule i j t r s _ _ ⟨.bl (g i j),H,l,rfl,q⟩
def gK(i j:Int):Prop:=0<=j/\j<=1000000/\i.natAbs<2^64
def Ho:OpR X (binaryOp .Add) (Dy λi j=>.int (i+j)):=LM λ_ _ _ _ _ _ _ q=>add_int q
def Hr:OpR X (binaryOp .Sub) (Dy λi j=>.int (i-j)):=LM λ_ _ _ _ _ _ _ q=>sub_int q
def Hs:OpR X (binaryOp .Pow) (rI gK λi j=>.int (i^j.toNat)):=TU λ_ _ _ _ _ _ _ f q=>pow_int_small f.1 f.2.1 f.2.2 q
def TV{f:Value->Sem Value}{g:Int->Int}(rule:∀(i:Int)(t:Tok)(s:Shared)(Q:UA)(E:UA),Q (.int (g i) s.toks) { s with toks:=s.toks+1}->wpAny (model X.prog X.w) X.A (f (.int i t)) Q E s):
  OL X f (rU λi=>.int (g i)):=by
 intro r s Z H x v Q j l h;obtain⟨i,rfl,q⟩:=h;obtain⟨t,rfl⟩:=l;exact rule i t s _ _ ⟨.int (g i),H,j.tok _,⟨_,rfl⟩,q⟩
def Ht:OL X (unaryOp .USub) (rU λi=>.int (-i)):=TV λ_ _ _ _ _ q=>neg_int q
def Hu{j:UU}{Z:St}{H:Hp}{s:Shared}{Q:VK}{k i:Bool}(f:Inv X j Z H s)(q:Q (.bl k) H)(e:k=i):EP X j Z Q (.bool i) s:=by subst e;exact⟨.bl k,H,f,rfl,q⟩
def LN:OpR X (compareOp .Lt) (Dy λi j=>.bl (decide (i<j))):=Dz λ_ _ _ _ _ _ _ q=>lt_int q
def LP:OpR X (compareOp .LtE) (Dy λi j=>.bl (decide (i<=j))):=Dz λ_ _ _ _ _ _ _ q=>le_int q
def LQ:OpR X (compareOp .Gt) (Dy λi j=>.bl (decide (j<i))):=Dz λ_ _ _ _ _ _ _ q=>gt_int q
def LR:OpR X (compareOp .GtE) (Dy λi j=>.bl (decide (j<=i))):=Dz λ_ _ _ _ _ _ _ q=>ge_int q
def DA:OpR X (compareOp .IsNot) (λx y H Q=>y=.non/\Q (.bl (!decide (x=.non))) H):=by
 intro l s Z H x y v u Q f j i h;obtain⟨rfl,q⟩:=h;cases i;refine isnot_none_gen (Hu f q ?_);cases x<;>first
  |(obtain⟨t,rfl⟩:=j;rfl)
def CP(b:Expr)(h:op≠.In:=by decide)(f:op≠.NotIn:=by decide):behindInMarks op b=T:=by
 have e1:(op==CmpOp.In)=T:=by cases op<;>first | rfl | exact absurd rfl h
 have e2:(op==CmpOp.NotIn)=T:=by cases op<;>first | rfl | exact absurd rfl f
 cases b<;>simp[behindInMarks,e1,e2]
def DB{i:CmpOp}{r:R2}(F:OpR X (compareOp i) r)(B:PE X a ta)(G:PE X b tb)(l:behindInMarks i b=T):PE X (.Compare a [i] [b] pos) (LJ r ta tb):=by intro z s Z H Q f h;exact wpAny_Compare1 (Hn B G f h λv u M x y E C L j q=>F z M Z E x y v u Q C L j q) l
def LV(t:TE):TT:=λZ H Q=>t Z H λx f=>∃k,x=.bl k/\Q k f
def DC(W:OpR X (compareOp op) r)(P:PE X a ta)(hb:PE X b tb)(M:behindInMarks op b=T):PT X (.Compare a [op] [b] pos) (LV (LJ r ta tb)):=by
 intro f s Z H Q i h
 refine wpAny_isTrue_Compare1 (ka (P f s Z H _ i h) λv R ⟨x,F,C,j,B⟩=>ka (hb f R Z F _ C B) λu s2 ⟨y,U,S,l,E⟩ =>
  ka (W f s2 Z U x y v u _ S j l E) λc s3 ⟨z,G,I3,L,k,e,O⟩=>?_) M
 subst e;cases L;exact wpAny_truthy_bool ⟨G,I3,O⟩
def ze(r u:R2)(ta tb tc:TE):TE:=λZ H Q=>ta Z H λx j=>tb Z j λy l=>r x y l λz f=>∃k,z=.bl k /\
 (if k=I then tc Z f λB i=>u y B i Q else Q (.bl T) f)
def Bl(ho:OpR X (compareOp op) r)(i:OpR X (compareOp op') r')(W:PE X a ta)(hb:PE X b tb)(hc:PE X c tc)(S:lastMarks [op,op'] [b,c]=T:=by with_unfolding_all rfl):PE X (.Compare a [op,op'] [b,c] pos) (ze r r' ta tb tc):=by
 intro f s Z H Q j h
 refine Compare_chain (ka (W f s Z H _ j h) λv s1 ⟨x,P,L,F,G⟩=>chain_link (ka (hb f s1 Z P _ L G) λu s2 ⟨y,H2,I2,l,M⟩ =>
  ka (ho f s2 Z H2 x y v u _ I2 F l M) λd s3 ⟨z,B,E,R,k,e,C⟩=>?_)) S
 subst e;cases R;refine wpAny_truthy_bool ?_
 cases k with
 |false=>exact ite_ff ⟨.bl T,B,E,rfl,C⟩
 |true=>exact ite_tt (chain_last (ka (hc f s3 Z B _ E C) λU s4 ⟨z',H4,I4,r4,O⟩=>i f s4 Z H4 y z' u U Q I4 l r4 O))
def LW(K:ib)(x:V)(H:Hp)(k:Bool):Prop :=
 match x with
 |.non=>k=T
 |.bl b=>k=b
 |.int i=>k=(i != 0)
 |.str y=>y.length<=sizeLine/\k=((y.length:Int) != 0)
 |.byt y=>y.size<=sizeLine/\k=((y.size:Int) != 0)
 |.ref p=>(∃xs,SqL K H p xs/\k=!xs.isEmpty)\/(∃xs,SqT K H p xs/\k=!xs.isEmpty)\/∃f,H p=J (.dK f)/\k=!f.isEmpty
 |_=>False
def xU{κ:Type}{f:List (κ×V)}{i:List (κ×Value)}(r:KV f i):(!i.isEmpty)=!f.isEmpty:=by cases r<;>rfl
def nP(r:aB xs its):(!its.toArray.isEmpty)=!xs.isEmpty:=by cases r<;>simp
def oi:(sizeLine:Nat)<2^63:=by rw[sizeLine_eq];decide
def ss:QB X (λx H Q=>∃k,LW X.K x H k/\Q k H):=by
 intro P s Z H x v Q f z h;obtain⟨k,e,q⟩:=h;have O:sizeLine=16777216:=sizeLine_eq
 cases x with
 |non =>
  cases z;have j:k=T:=e;subst j;exact truthy_none ⟨H,f,q⟩
 |bl b =>
  cases z;have j:k=b:=e;subst j;exact wpAny_truthy_bool ⟨H,f,q⟩
 |int i =>
  obtain⟨t,rfl⟩:=z;have j:k=(i != 0):=e;subst j;exact PySem.P.truthy_int ⟨H,f,q⟩
 |str y =>
  obtain⟨t,rfl⟩:=z;obtain⟨M,j⟩:y.length<=sizeLine/\k=((y.length:Int) != 0):=e;subst j;exact PySem.P.truthy_str ⋯ ⟨H,f.tok _,q⟩
 |byt y =>
  obtain⟨t,rfl⟩:=z;obtain⟨M,j⟩:y.size<=sizeLine/\k=((y.size:Int) != 0):=e;subst j;exact PySem.W.truthy_bytes ⋯ ⟨H,f.tok _,q⟩
 |ref p =>
  cases z;have j:(∃xs,SqL X.K H p xs/\k=!xs.isEmpty)\/(∃xs,SqT X.K H p xs/\k=!xs.isEmpty)\/∃l,H p=J (.dK l)/\k=!l.isEmpty:=e;rcases j with⟨xs,B,j⟩|⟨xs,B,j⟩|⟨l,B,j⟩
  .subst j;obtain⟨E,r,F,G⟩:=f.list B;have u:=r.length;exact wpAny_truthy_list F.isList (by simp only[qd];lia) ⟨H,f.tok _,by rw[nP r];exact q⟩
  .subst j;obtain⟨E,r,F,G⟩:=f.tuple B;have u:=r.length;exact truthy_tuple F (by simp only[qd];lia) ⟨H,f.tok _,by rw[nP r];exact q⟩
  .subst j;obtain⟨G,L,C,r,m⟩:l.length<=sizeLine/\(p==sysModules)=T/\∃C,KV l C/\s.heap.DictOf (pX X.prog X.w) p C:=f.hok p _ B;have u:l.length=C.length:=Paired.length r;exact wpAny_truthy_dict L m ⋯ ⟨H,f.tok _,by rw[xU r];exact q⟩
 |_=>exact(show False from e).elim
def AY(C:PE X a ta)(u:∀f,isTrue a X.env f=(do let v <-f;standAt a.pos;holding [v] (truthy v))):
  PT X a (λZ H Q=>ta Z H λx l=>∃k,LW X.K x l k/\Q k l):=by
 intro j s Z H Q i h;exact isTrue_plain (ka (C j s Z H _ i h) λv E ⟨x,B,z,r,y⟩=>ss j E Z B x v Q z r y) (u _)
def wM:OpR X (binaryOp .Add) (λx y H Q=>∃i j,x=.str i/\y=.str j/\i.length+j.length<=sizeLine/\Q (.str (i++j)) H):=by intro C s Z H x y v u Q f B r h;obtain⟨i,j,rfl,rfl,z,q⟩:=h;obtain⟨t,rfl⟩:=B;obtain⟨l,rfl⟩:=r;exact add_str (λl E=>⟨.str (i++j),H,f.tok _,⟨_,rfl⟩,q⟩) z
def jG(r:aB [x] us):∃u,us=[u]/\aN x u:=by
 cases r with
 |cons f i=>cases i;exact⟨_,rfl,f⟩
def vals2(r:aB [x,y] us):∃u f,us=[u,f]/\aN x u/\aN y f:=by
 cases r with
 |cons i j =>
  cases j with
  |cons l z=>cases z;exact⟨_,_,rfl,i,l⟩
def AR:cS X (.builtin "abs") (λxs H Q=>∃i,xs=[.int i]/\Q (.int (if i<0 then -i else i)) H):=by intro j s Z H xs l Q f r h;obtain⟨i,rfl,q⟩:=h;obtain⟨u,rfl,t,rfl⟩:=jG r;exact call_abs_int λu y=>⟨.int (if i<0 then -i else i),H,f.tok _,⟨_,rfl⟩,q⟩
def qv(y:X.calm=I):cS X (.builtin "max") (λxs H Q=>∃i j,xs=[.int i,.int j]/\Q (.int (if j>i then j else i)) H):=by
 intro C s Z H xs B Q f r h;obtain⟨i,j,rfl,q⟩:=h;obtain⟨u,E,rfl,⟨t,rfl⟩,⟨z,rfl⟩⟩:=vals2 r;refine max_two_ints (f.ok.hd y) λG F k=>⟨_,H,f.kept k,?_,q⟩;by_cases l:j>i
 .rw[b_ l,b_ l];exact⟨_,rfl⟩
 .rw[f_ l,f_ l];exact⟨_,rfl⟩
def qA(y:X.calm=I):cS X (.builtin "min") (λxs H Q=>∃i j,xs=[.int i,.int j]/\Q (.int (if j<i then j else i)) H):=by
 intro C s Z H xs B Q f r h;obtain⟨i,j,rfl,q⟩:=h;obtain⟨u,E,rfl,⟨t,rfl⟩,⟨z,rfl⟩⟩:=vals2 r;refine min_two_ints (f.ok.hd y) λG F k=>⟨_,H,f.kept k,?_,q⟩;by_cases l:j<i
 .rw[b_ l,b_ l];exact⟨_,rfl⟩
 .rw[f_ l,f_ l];exact⟨_,rfl⟩
def QC(K:ib)(x:V)(H:Hp)(n:Nat):Prop :=
 match x with
 |.str y=>y.length<=sizeLine/\n=y.length
 |.byt y=>y.size<=sizeLine/\n=y.size
 |.ref p=>(∃xs,SqL K H p xs/\n=xs.length)\/∃xs,SqT K H p xs/\n=xs.length
 |_=>False
def jZ:cS X (.builtin "len") (λxs H Q=>∃x n,xs=[x]/\QC X.K x H n/\Q (.int n) H):=by
 intro O s Z H xs L Q f r h;obtain⟨x,n,rfl,e,q⟩:=h;obtain⟨u,rfl,E⟩:=jG r;have M:=sizeLine_eq
 cases x with
 |str y =>
  obtain⟨t,rfl⟩:=E;obtain⟨F,j⟩:=e;subst j;exact len_str ⋯ ⟨.int _,H,f.tok _,⟨_,rfl⟩,q⟩
 |byt y =>
  obtain⟨t,rfl⟩:=E;obtain⟨F,j⟩:=e;subst j;exact PySem.W.len_bytes ⋯ ⟨.int _,H,f.tok _,⟨_,rfl⟩,q⟩
 |ref p =>
  cases E;have j:=e;rcases j with⟨xs,B,j⟩|⟨xs,B,j⟩
  .subst j;obtain⟨l,z,C,G⟩:=f.list B;have i:=z.length;exact Calls.call_len_list C.isList (by simp only[qd];lia) ⟨.int xs.length,H,f.tok _,⟨_,by simp only[qd];rw[i]⟩,q⟩
  .subst j;obtain⟨l,z,C,G⟩:=f.tuple B;have i:=z.length;exact len_tuple C (by simp only[qd];lia) ⟨.int xs.length,H,f.tok _,⟨_,by simp only[qd];rw[i]⟩,q⟩
 |_=>exact(e).elim
end
section
variable{prog:Program}{w:World}{A:Around}{E:UA}{s:Shared}{K:ib}{x dx C f:Addr}{mA:UB}{name:Str}{v:Value}
end
def oO.some_of(r:oO (J v) o):∃u,o=J u/\aN v u:=by
 cases o with
 |none=>exact(r).elim
 |some u=>exact⟨u,rfl,r⟩
section
variable{P:Program}{w:World}{H H':Hp}{h h':Heap}{a C dx:Addr}{fs fs':List (Str × V)}
end
section
variable{X:Cx}{LU:List (Addr × Obj)}{Z:St}{H:Hp}{s:Shared}{a C dx:Addr}{fs:List (Str × V)}{f:Str}{v:V}{A:Around}{E:UA}
end
section
variable{X:Cx}{o e value:Expr}{f:Str}{pos pos' tpos:Pos}{ta tv:TE}
end
section
variable{X:Cx}{LU:List (Addr × Obj)}{Z:St}{H:Hp}{s:Shared}{A:Around}{E:UA}{Q:UA}{c:Value}{b:Bool}
end
structure Room(k:Nat)(A:Around):Prop where
 hd:A.handled=Y
 dp:A.depth+3*k+5<recursionLimit
 un:A.units+16*k+200<cLine
 gd:A.guards=J []
def Room.mono(r:Room k A)(h:j<=k):Room j A:=⟨r.hd,by have:=r.dp;lia,by have:=r.un;lia,r.gd⟩
def Room.deeper(r:Room (k+1) A)(env:Env):Room k (A.deeper env) :=
 ⟨r.hd,by have:=r.dp;show A.depth+1+3*k+5<_;lia,by have:=r.un;show A.units+3+16*k+200<_;lia,r.gd⟩
def Room.depth(r:Room k A):A.depth<recursionLimit:=by have:=r.dp;lia
def Room.units(r:Room k A):A.units+64<cLine:=by have:=r.un;lia
def QD:TA:=λ_ H Q=>Q [] H
def LX(j:TE)(i:TA):TA:=λZ H Q=>j Z H λx a=>i Z a λxs f=>Q (x::xs) f
section
variable{X:Cx}{e:Expr}{es:UX}{te:TE}{t:TA}{pos:Pos}
def jx:PA X [] QD:=λ_ _ _ _ H Q a h=>Calls.spliced_nil ⟨[],H,a,.nil,h⟩
def fX(E:PE X e te)(C:PA X es t)(B:starEach (e::es) X.env=(T,eval e X.env)::starEach es X.env:=by rfl):PA X (e::es) (LX te t):=by intro pos f s Z H Q a h;rw[B];show wpAny _ _ (spliced ((T,eval e X.env)::backTo pos (starEach es X.env))) _ _ s;refine Calls.spliced_cons (ka (E f s Z H _ a h) λu F ⟨x,z,r,i,l⟩=>?_);exact ka (C pos f F Z z _ r l) λM O ⟨xs,L,G,j,y⟩=>⟨x::xs,L,G,.cons i j,y⟩
def QE(t:TA):TE:=λZ H Q=>t Z H λxs a=>xs.length<=sizeLine/\∀p,a p=Y->Q (.ref p) (kg a p (.tup xs))
def QF(t:TA):TE:=λZ H Q=>t Z H λxs a=>xs.length<=sizeLine/\∀p,a p=Y->Q (.ref p) (kg a p (.lst xs))
def Hv{x1}(h:PA X es t):PE X (.Tuple es x1 pos) (QE t):=by intro y s Z H Q f B;refine wpAny_Tuple_spliced (ka (h pos y s Z H _ f B) λj a ⟨xs,l,i,r,z,q⟩=>⟨by rw[<-r.length];exact z,?_⟩);have hf:=i.hok.fresh (il _);refine⟨.ref a.heap.objs.size,kg l a.heap.objs.size (.tup xs),i.laid (t':=a.toks) (λb u e=>m_ _ e) (il _) ?_,rfl,q _ hf⟩;exact⟨z,j,r,⟨_,rT _ rfl,rfl,⟨_,rfl⟩,rfl⟩⟩
def Hw(h:PA X es t):PE X (.List es pos) (QF t):=by intro y s Z H Q f B;refine wpAny_List_spliced (ka (h pos y s Z H _ f B) λj a ⟨xs,l,i,r,z,q⟩=>⟨by rw[<-r.length];exact z,?_⟩);have hf:=i.hok.fresh (il _);refine⟨.ref a.heap.objs.size,kg l a.heap.objs.size (.lst xs),i.laid (t':=a.toks) (λb u e=>m_ _ e) (il _) ?_,rfl,q _ hf⟩;exact⟨z,j,0,r,rT _ rfl⟩
end
abbrev Sp:=List V->Hp->VK->XK->Prop
abbrev CH:=List Env->Hp->Shared->XK->Value->Shared->Prop
structure DD(P:Program)(w:World)(K:ib)(mg:UB)(base:Heap)(A:Around)(outer:List Env)(s:Shared)(H:Hp):Prop where
 frames:A.frames=J outer
 mod:Mod K mg base
 bs:∀b o,base.get? b=J o->s.heap.get? b=J o/\H b=Y
 bsz:base.objs.size<=s.heap.objs.size
 funs:s.heap.FunFrames base outer
 frf:∀b∈xN outer,H b=Y
 hok:HOk P w H s.heap
 bare:AllBare s.gens
inductive CE(outer:List Env)(P:Program)(w:World)(H:Hp)(s:Shared)(Q:VK)(u:Value)(s':Shared):Prop
 |mk(v:V)(H':Hp)(o:s'.os=s.os)(b:AllBare s'.gens)(n:Un (xN outer) [] H H' s.heap s'.heap)(k:HOk P w H' s'.heap)(r:aN v u)(q:Q v H'):CE outer P w H s Q u s'
def CR(f:CH)(outer:List Env)(P:Program)(w:World)(H:Hp)(s:Shared)(Q:VK)(E:XK)(r:Result)(a:Shared):Prop :=
 match r with
 |.ok (.ret u)=>CE outer P w H s Q u a
 |.ok _=>False
 |.error e=>f outer H s E e a
structure FnOk(P:Program)(w:World)(K:ib)(mg:UB)(base:Heap)(CX:CH)(k:Nat)(f:Addr)(fd:FuncData)(ps:UM)(sp:Sp):Prop where
 len:∀vs H Q E,sp vs H Q E->vs.length=ps.length
 run:∀(A:Around)(outer:List Env)(s:Shared)(H:Hp)(args:Args)(us:UT)(vs:List V)(Q:VK)(E:XK),Room k A->DD P w K mg base A outer s H->BindsTo s fd args (ps.zip us)->aB vs us->sp vs H Q E ->
  codeAny (model P w) A (.call (.ref f) args) (CR CX outer P w H s Q E) s
def FnOk.mono{P:Program}{w:World}{K:ib}{mg:UB}{base:Heap}{l:CH}{j k:Nat}{f:Addr}{fd:FuncData}{r:UM}{i:Sp}(F:FnOk P w K mg base l j f fd r i)(h:j<=k):
  FnOk P w K mg base l k f fd r i:=⟨F.len,λA outer s H a y u Q E z=>F.run A outer s H a y u Q E (z.mono h)⟩
def FnOk.imp{P:Program}{w:World}{K:ib}{mg:UB}{base:Heap}{r:CH}{k:Nat}{f:Addr}{fd:FuncData}{u:UM}{l i:Sp}(F:FnOk P w K mg base r k f fd u l)(h:∀a H Q E,i a H Q E->l a H Q E):FnOk P w K mg base r k f fd u i :=
 ⟨λa H Q E q=>F.len a H Q E (h _ _ _ _ q),λA outer s H j z a Q E C y G hv B=>F.run A outer s H j z a Q E C y G hv (h _ _ _ _ B)⟩
section
variable{X:Cx}{LU:List (Addr × Obj)}{Z:St}{H:Hp}{s s':Shared}
def Inv.env0(a:Inv X LU Z H s):DD X.prog X.w X.K X.mg X.base X.A X.stack s H :=
 ⟨a.ok.frames,a.ok.mod,a.bs,mu a.ok.bsz a.sz,a.stack,a.stkFree,a.hok,a.bare⟩
def Inv.after(a:Inv X LU Z H s)(h:CE X.stack X.prog X.w H s Q u s'):EP X LU Z Q u s':=by obtain⟨v,j,os,bare,un,hok,r,q⟩:=h;obtain⟨i,g,d,t,f⟩:=s';obtain rfl:=os;exact⟨v,j,a.call (h':=i) (g':=g) (d':=d) (t':=t) un hok bare (λb z=>absurd z (by simp)),r,q⟩
end
def nu(K:ib)(fd:FuncData)(f:UM)(i:UT):Prop :=
 ∀(s:Shared)(a:UT),K.In s.heap->(a++i).length=f.length->BindsTo s fd ⟨a,[]⟩ (f.zip (a++i))
def nu.all{K:ib}{fd:FuncData}{f:UM}(h:∀a:UT,a.length=f.length->bindArgs fd ⟨a,[]⟩=pure (f.zip a)):nu K fd f []:=λs a _ i=>by
 rw[KC]at i ⊢;exact .of_eq (h a i)
section
variable{X:Cx}{CX:CH}{k:Nat}{f C:Addr}{fd:FuncData}{ps:UM}{sp:Sp}{dvs:List V}{ds:UT}{E:XK}{x m:Str}{p pos apos:Pos}{e o:Expr}{es:UX}{ta:TE}{t:TA}
end
section
variable{X:Cx}{CX:CH}{k:Nat}{f C:Addr}{fd:FuncData}{ps ks:UM}{sp:Sp}{E:XK}{x m:Str}{p pos apos kpos:Pos}{e o:Expr}{es:UX}{kws:List Keyword}{te ta:TE}{t tk:TA}{nm:Option Str}{g:UT->UT->UT}{gV:List V->List V->List V}
end
structure n_(N P:UM)(sc:Scope):Prop where
 kind:sc.kind=.function
 co:sc.isCoroutine=T
 gen:sc.isGenerator=T
 nd:N.Nodup
 pre:N.take P.length=P
 par:∀x∈P,sc.names.lookup x=J .local\/sc.names.lookup x=J .cell
 nofree:∀y∈sc.names,y.2≠.free
def qU{kindOf:Str->Option NameKind}{x:Str}:∀{binds:List (Str×Value)}{m:UB},(∀v,(x,v)∉binds)->bindL kindOf binds m x=m x
 |[],_,_=>rfl
 |(n,v)::r,m,h=>by
  unfold bindL;rw[qU λw a=>h w (lb _ a)];split
  .have:x≠n:=by rintro rfl;exact h v wj
   simp[this]
  .rfl
def qD{kindOf:Str->Option NameKind}{x:Str}:∀{binds:List (Str×Value)}{m:UB},(∀v,(x,v)∉binds)->bindC kindOf binds m x=m x
 |[],_,_=>rfl
 |(n,v)::r,m,h=>by
  unfold bindC;rw[qD λw a=>h w (lb _ a)];split
  .rfl
  .have:x≠n:=by rintro rfl;exact h v wj
   simp[this]
def qy{kindOf:Str->Option NameKind}{x:Str}{v:Value}:∀{P:UM}{a:UT}{i:Nat}{m:UB},P.Nodup->P[i]?=J x->a[i]?=J v->kindOf x=J .local ->
  bindL kindOf (P.zip a) m x=J v
 |p::P,w::a,0,m,nd,f,j,l=>by
  simp at f j;subst f;subst j;show bindL kindOf ((p,w)::P.zip a) m p=_;unfold bindL;rw[qU λv hv=>(Dk.mp nd).1 (P9 hv).1,b_ l];simp
 |p::P,w::a,i+1,m,nd,f,j,l=>by
  unfold bindL;exact qy (Dk.mp nd).2 (by simpa using f) (by simpa using j) l
def qF{kindOf:Str->Option NameKind}{x:Str}{v:Value}:∀{P:UM}{a:UT}{i:Nat}{m:UB},P.Nodup->P[i]?=J x->a[i]?=J v->kindOf x≠J .local ->
  bindC kindOf (P.zip a) m x=J v
 |p::P,w::a,0,m,nd,f,j,l=>by
  simp at f j;subst f;subst j;show bindC kindOf ((p,w)::P.zip a) m p=_;unfold bindC;rw[qD λv hv=>(Dk.mp nd).1 (P9 hv).1,f_ l];simp
 |p::P,w::a,i+1,m,nd,f,j,l=>by
  unfold bindC;exact qF (Dk.mp nd).2 (by simpa using f) (by simpa using j) l
def start(N:UM)(a:List V):St:=a.map J++List.replicate (N.length-a.length) Y
def sC(r:CH)(P:Program)(w:World)(K:ib)(mg:UB)(base:Heap)(N:UM)(i:Str)(a:Scope)(f:Addr)(l:Value)(A:Around)(outer:List Env)(s:Shared)(H:Hp)(E:XK):Cx where
 prog:=P
 w:=w
 K:=K
 mg:=mg
 base:=base
 A:=A.deeper (envOfC i a s.heap.objs.size f l)
 N:=N
 s₀:=s
 H₀:=H
 env:=envOfC i a s.heap.objs.size f l
 outer:=outer
 stack:=envOfC i a s.heap.objs.size f l::outer
 ex:=[]
 calm:=I
 fn:=λ_=>I
 pn:=[]
 xe:=λe y=>wpAny (model P w) (A.deeper (envOfC i a s.heap.objs.size f l)) (leaving (envOfC i a s.heap.objs.size f l) e) (λ_ j=>r outer H s E e j) (λu j=>r outer H s E u j) y
def ut{a:Scope}{n:Nat}{x:Str}(h:a.names.lookup x=J .cell):∃c,(cellsFrom n a.names []).lookup x=J c:=by have q:=PySem.W.cellsFrom_some a.names n [] (.inl h);exact Option.isSome_iff_exists.mp q
def yg{CX:CH}{P:Program}{w:World}{K:ib}{mg:UB}{base:Heap}{N L:UM}{l:Str}{j:Scope}{f:Addr}{U:Value}{A:Around}{outer:List Env}{s s1:Shared}{H:Hp}{E:XK}{X:UT}{F:List V}(S:n_ N L j)(hd:A.handled=Y)(C:DD P w K mg base A outer s H)(hl:F.length=L.length)(r:aB F X)(x:InCallC s s.heap.objs.size (bindL (envOfC l j s.heap.objs.size f U).kindOf (L.zip X) λ_=>Y) (cellsFrom (s.heap.objs.size+1) j.names []) (bindC (envOfC l j s.heap.objs.size f U).kindOf (L.zip X) λ_=>Y) s1):
  Inv (sC CX P w K mg base N l j f U A outer s H E) [] (start N F) H s1:=by
 have al:L.length<=N.length:=by have:=congrArg List.length S.pre;rw[Di]at this;lia
 obtain⟨R,tk,rfl,Z⟩:=x.done;have G:∀b:Addr,b∉(sC CX P w K mg base N l j f U A outer s H E).ex:=λb z=>absurd (show b∈([]:US)from z) (by simp)
 refine⟨⟨C.mod,S.kind,rfl,rfl,il _,λy z c R B=>?_,λy O=>?_,λy c _ h=>?_,λ_=>hd,Around.frames_deeper C.frames,.inr ⟨rfl,rfl⟩,λb z=>absurd z (G b),C.bs,C.bsz,λb _ _=>G b,λb z=>absurd z (G b),C.funs,C.frf⟩,
  rfl,C.bare,Un.kept Z,⟨_,x.toInCall.ns,λi y v R B h3=>?_⟩,λy c h=>⟨_,x.cell y c h⟩,C.hok.fresh (il _),λy c h=>?_,λp M=>absurd (show p∈([]:UU)from M) (by simp),C.hok.kept Z,?_⟩
 .exact name_of_addr x.apart (PySem.mem_of_lookup R) (PySem.mem_of_lookup B)
 .rcases O with O|O
  .exact ut O
  .exact absurd rfl (S.nofree _ (PySem.mem_of_lookup O))
 .exact vw (x.above y c (PySem.mem_of_lookup h))
 .have W:i<F.length:=by
   unfold start at B;by_cases W:i<F.length
   .exact W
   .rw[Ch (by simpa using W)]at B;rw[GN]at B
    split at B<;>cases B
  have ha:F[i]?=J v:=by
   unfold start at B;rw[qr (by simpa using W),pr]at B
   cases e:F[i]? with
   |none=>rw[e]at B;cases B
   |some a=>rw[e]at B;cases B;rfl
  obtain⟨u,hu,rv⟩:=r.get ha;have M:L[i]?=J y:=by rw[<-S.pre,Oq ⋯];exact R
  have Q:L.Nodup:=by rw[<-S.pre];exact S.nd.sublist (List.take_sublist _ _)
  refine⟨u,rv,?_⟩;rcases S.par y (Ci M)with k|k
  .exact .inl ⟨k,qy Q M hu k⟩
  .obtain⟨c,e⟩:=ut k;refine .inr ⟨.inl k,c,e,?_⟩;have q:=x.cell y c e;rw[qF Q M hu (by show j.names.lookup y≠_;rw[k];decide)]at q;exact q
 .exact C.hok.fresh (vw (x.above y c (PySem.mem_of_lookup h)))
 .unfold start;show _=N.length;rw[z_,q7,Lg];lia
def LY{X:CH}{P:Program}{w:World}{K:ib}{mg:UB}{base:Heap}{k:Nat}{f:Addr}{F i:Str}{z:Arguments}{B:List Stmt}{a:Scope}{dV kV U pm l ct oc:Value}{an od:UE}{ap:Array (UV)}{N ps:UM}{sp:Sp}(lk:K.lookup f=J ⟨oc,od,.func (PySem.W.fnOf F i z B a dV kV U pm an l ct),ap⟩)(as:PySem.W.codeIn K l i=I)(S:n_ N ps a)(len:∀C H Q E,sp C H Q E->C.length=ps.length)(L:∀(A:Around)(outer:List Env)(s:Shared)(H:Hp)(C:List V)(Q:VK)(E:XK),Room k (A.deeper (envOfC i a s.heap.objs.size f l))->sp C H Q E ->
   ∃t,PSs (sC X P w K mg base N i a f l A outer s H E) B t/\t { nx:=λ_ G=>Q .non G,rt:=Q} (start N C) H):
  FnOk P w K mg base X (k+1) f (PySem.W.fnOf F i z B a dV kV U pm an l ct) ps sp:=by
 refine⟨len,λA outer s H ay us C Q E hr R hb r W=>?_⟩;have hl:=len _ _ _ _ W;have KX:=R.mod.kin.keeps λb o e=>(R.bs b o e).1;have al:=R.mod.nolimit.keeps λb o e=>(R.bs b o e).1;have M:∀y∈ps.zip us,a.names.lookup y.1=J .local\/(a.names.lookup y.1=J .cell/\((cellsFrom (s.heap.objs.size+1) a.names []).lookup y.1).isSome=I):=λ⟨n,v⟩ hy=>by
  rcases S.par n (P9 hy).1 with q|q
  .exact .inl q
  .exact .inr ⟨q,PySem.W.cellsFrom_some _ _ _ (.inl q)⟩
 refine codeAny_call_function hr.depth (KX _ _ lk) rfl S.co S.gen rfl (PySem.W.codeRec_of KX as) (hb _ _ _ _ ?_);refine wpAny_newFunctionEnv_cells S.kind M λenv he s1 x=>?_;subst he;refine⟨al.keeps x.toInCall.keep,codeAny_func ?_⟩;obtain⟨t,ht,hq⟩:=L A outer s H C Q E (hr.deeper _) W;have ax:Inv (sC X P w K mg base N i a f l A outer s H E) [] (start N C) H s1:=yg S hr.hd R hl r x;refine wpAny_mono (ht [] s1 (start N C) H _ ax hq) (λfl s' O=>?_) λe s' O=>O;have fin:∀{Z:St}{G:Hp}{v:V}{u:Value},Inv (sC X P w K mg base N i a f l A outer s H E) [] Z G s'->aN v u->Q v G->CE outer P w H s Q u s' :=
  λ{Z G v u} j rv q=>⟨v,G,j.os,j.bare,j.base,j.hok,rv,q⟩
 cases fl with
 |ret u =>
  obtain⟨v,Z,G,j,rv,q⟩:=O;exact fin j rv q
 |next =>
  obtain⟨Z,G,j,q⟩:=O;exact fin (v:=V.non) j rfl q
 |brk =>
  obtain⟨_,_,_,q⟩:=O;exact False.elim q
 |cont =>
  obtain⟨_,_,_,q⟩:=O;exact False.elim q
section
variable{X:Cx}{x:Str}{p pos:Pos}{e:Expr}{es:UX}{t:TA}{id T:String}{r:List V->Hp->VK->Prop}
def QG(r:List V->Hp->VK->Prop)(t:TA):TE:=λZ H Q=>t Z H λf a=>r f a Q
def ng(P:cS X (.builtin id) r)(O:Gl X x)(F:X.mg x=Y)(hv:bootBuiltins x=J (.builtin id))(L:PA X (e::es) t)(G:x≠"__name__":=by decide)(i:(x==("__debug__":Str))=false:=by decide)(u:starEach (e::es) X.env=(false,eval e X.env)::starEach es X.env:=by rfl)(f:(backTo pos (starEach es X.env)).any (·.1)=false:=by rfl):PE X (.Call (.Name x p) (e::es) [] pos) (QG r t):=by
 intro j s Z H Q a h;refine wpAny_Call_Name_kw (gB a O F hv ?_ G i);exact PyProof.Rows.callWith_builtin1 (ka (L pos j s Z H _ a h) λC M ⟨y,E,B,l,z⟩=>P j M Z E y C Q B l z) u f
def gu(P:cS X (.type T) r)(O:Gl X x)(F:X.mg x=Y)(hv:bootBuiltins x=J (.type T))(L:PA X (e::es) t)(G:x≠"__name__":=by decide)(i:(x==("__debug__":Str))=false:=by decide)(u:starEach (e::es) X.env=(false,eval e X.env)::starEach es X.env:=by rfl)(f:(backTo pos (starEach es X.env)).any (·.1)=false:=by rfl):PE X (.Call (.Name x p) (e::es) [] pos) (QG r t):=by
 intro j s Z H Q a h;refine wpAny_Call_Name_kw (gB a O F hv ?_ G i);exact PyProof.Rows.callWith_type1 (ka (L pos j s Z H _ a h) λC M ⟨y,E,B,l,z⟩=>P j M Z E y C Q B l z) u f
end
end L2
namespace HT
open PyProof.Rows
section
open PySem.SeqAt
open PySem.AutoSeq1 (wpAny_loadPart')
open PySem.MeetsSeq PySem.MeetsSeq2 PySem.MeetsSeq3
end
section
variable{prog:Program}{w:World}{A:Around}{E:UA}{s:Shared}
def DE(G:IsTup s.heap t vs.toArray)(L:IsTup s.heap b ws.toArray)(hv:vs≠[])(F:ws=[]->Q (.ref t) s)(H:ws≠[]->Q (.ref s.heap.objs.size) { s with heap:=s.heap.push { cls:=.type "tuple",data:=.seq (vs++ws).toArray}})(u:vs.length+ws.length<=sizeLine):wpAny (model prog w) A (binaryOp .Add (.ref t) (.ref b)) Q E s:=by
 obtain⟨⟨cls,z,data,sl⟩,j,M,n,hd⟩:=id G;obtain⟨⟨B,f,data2,i⟩,a,r,C,y⟩:=id L;subst M hd r y;have e:vs.toArray++ws.toArray=(vs++ws).toArray:=by simp
 by_cases l:ws=[]
 .exact concat_meets ⟨_,j,rfl⟩ ⟨_,a,rfl⟩ noFill_tuple_add seq_tuple_add PySem.F.slot_tuple_add PySem.F.entry_tuple_add (PySem.F.args_tuple_add_2 _ _)
   (tuple_addW1 t b vs.toArray ws.toArray n C z f sl i (by simpa using hv) (by simp[l])) ⟨j,a,F l⟩
 .refine concat_meets ⟨_,j,rfl⟩ ⟨_,a,rfl⟩ noFill_tuple_add seq_tuple_add PySem.F.slot_tuple_add PySem.F.entry_tuple_add (PySem.F.args_tuple_add_2 _ _)
   (tuple_addW2 t b vs.toArray ws.toArray n C z f sl i (by simpa using hv) (by simpa using l) (by exact u)) ⟨j,a,?_⟩
  rw[e];exact H l
def ki(n d:Nat):UW->Nat
 |none=>d
 |some v=>if v<0 then(v+(n:Int)).toNat else min v.toNat n
def BJ(n d:Nat):ki n d Y=d:=rfl
def DF(n d k:Nat):ki n d (J (k:Int))=min k n:=rfl
def vc(v:Int)(n d:Nat):(if v<0 then max (v+(n:Int)) 0 else min v (n:Int))=((ki n d (J v):Nat):Int):=by
 show(if v<0 then max (v+(n:Int)) 0 else min v (n:Int))=(((if v<0 then(v+(n:Int)).toNat else min v.toNat n):Nat):Int)
 grind
def wI(lo a:UW)(n:Nat):Builtin.Slice.sliceAdjust lo a 1 (n:Int)=(((ki n 0 lo:Nat):Int),((ki n n a:Nat):Int)):=by
 refine Prod.ext ?_ ?_
 .cases lo with
  |none=>rfl
  |some v=>exact vc v n 0
 .cases a with
  |none=>rfl
  |some v=>exact vc v n n
def xK(i j:Nat):Builtin.Slice.slicePlaces (i:Int) (j:Int) 1=j-i:=by
 unfold Builtin.Slice.slicePlaces;have a:(1:Int)>0:=by lia
 simp only[a,if_true,Int.ediv_one]
 split<;>lia
def nq(p:IsPart v o)(h:Q o s):wpAny (model prog w) A (Builtin.Slice.slicePartIndex v) Q E s:=by
 cases p with
 |none=>exact slicePart_none h
 |int i t=>exact slicePart_int h
def mN{sl:Addr}{l j:Value}{lo a:UW}{n:Nat}{Q:Int×Int×Nat->Shared->Prop}(r:s.heap.IsSliceOf sl l j .none)(u:IsPart l lo)(y:IsPart j a)(h:Q (((ki n 0 lo:Nat):Int),1,ki n n a-ki n 0 lo) s):wpAny (model prog w) A (Builtin.Slice.sliceApplied (.ref sl) (pure (n:Int))) Q E s:=by
 obtain⟨os,f,z,i⟩:=id r;refine d_ (d_ (wpAny_field f i rfl (d_ (wpAny_field f i rfl (d_ (wpAny_field f i rfl (ii ?_)))))));refine d_ (slicePart_none ?_);refine d_ (nq u (d_ (nq y (d_ (ii ?_)))));show wpAny _ _ (match Builtin.Slice.sliceAdjust lo a 1 (n:Int)with | (lo,a)=>pure (lo,(1:Int),Builtin.Slice.slicePlaces lo a 1)) _ _ s;rw[wI lo a n];show wpAny _ _ (pure (((ki n 0 lo:Nat):Int),(1:Int),Builtin.Slice.slicePlaces ((ki n 0 lo:Nat):Int) ((ki n n a:Nat):Int) 1)) _ _ s;rw[xK];exact ii h
def Av(xs:Array Value)(i k:Nat):((List.range k).filterMap λ(m:Nat)=>xs[((i:Int)+(m:Int)*1).toNat]?).toArray=((xs.toList.drop i).take k).toArray:=by
 have e:(λ(m:Nat)=>xs[((i:Int)+(m:Int)*1).toNat]?)=λm=>xs[i+m]?:=by grind
 rw[e]
 have:=pick_run xs i k
 rw[List.filterMap_map]at this;have e2:((λx=>xs[x]?)∘λx=>i+x)=λm=>xs[i+m]?:=rfl;rw[e2]at this;rw[this]
def lW{t sl:Addr}{items:Array Value}{z y:Value}{lo a:UW}{Q:UA}(i:IsTup s.heap t items)(B:s.heap.IsSliceOf sl z y .none)(G:IsPart z lo)(C:IsPart y a)(L:¬(ki items.size 0 lo=0/\ki items.size items.size a=items.size))(h:Q (.ref s.heap.objs.size) { s with heap:=s.heap.push { cls:=.type "tuple",data:=.seq ((items.toList.drop (ki items.size 0 lo)).take (ki items.size items.size a-ki items.size 0 lo)).toArray}})(H:items.size<=sizeLine):wpAny (model prog w) A (getItem (.ref t) (.ref sl)) Q E s:=by
 have f:sizeOk (.seq ((items.toList.drop (ki items.size 0 lo)).take (ki items.size items.size a-ki items.size 0 lo)).toArray):=by show((items.toList.drop (ki items.size 0 lo)).take (ki items.size items.size a-ki items.size 0 lo)).toArray.size<=sizeLine;rw[qd,Di,Cu,BI];lia
 obtain⟨os,r,u,F⟩:=id B;have l:s.TypeIs (.ref sl) "slice":=⟨os,r,u⟩;unfold getItem
 try with_reducible refine wpAny_holding ?_
 refine d_ (wpAny_sequenceKey i.typeIs (by decide) ?_)
 refine d_ (wpAny_callSpecial?_slot i.typeIs PyProof.Rows.slot_tuple_getitem
  (wpAny_call_entry PyProof.Rows.slot_tuple_getitem i.typeIs entry_tuple_getitem ?_ (args_tuple_getitem _ _)))
 show wpAny _ _ (Builtin.Tuple.tupleItemsOf (.ref t) >>= _) _ _ s;refine d_ (tupleItemsOf_ i ?_);refine d_ (wpAny_typeOf l ?_);refine d_ (mN B G C ?_);have j:¬((((ki items.size 0 lo:Nat):Int)==0&&(1:Int)==1&&(ki items.size items.size a-ki items.size 0 lo)==items.size)=I):=by intro q;rw[Lo,Lo]at q;have M:=eq_of_beq q.1.1;have O:=eq_of_beq q.2;exact L ⟨⋯,⋯⟩
 show wpAny _ _ (if(((ki items.size 0 lo:Nat):Int)==0&&(1:Int)==1&&(ki items.size items.size a-ki items.size 0 lo)==items.size)=I then _ else _) _ _ s;rw[f_ j,Av]
 first
  |exact d_ (m:=Builtin.Tuple.tupleExact _) (wpAny_newObj_type (d_ (ii (ii ⟨_,rfl,ii h⟩))) f)
end
end HT
namespace L2
open PySem.Spec PyProof.Rows
abbrev TO:=St->Hp->(UW->Hp->Prop)->Prop
def PO(X:Cx)(e:Option Expr)(t:TO):Prop :=
 ∀(a:UU)(s:Shared)(Z:St)(H:Hp)(Q:UW->Hp->Prop),Inv X a Z H s->t Z H Q ->
  wpAny (model X.prog X.w) X.A (evalPart e X.env) (λu i=>∃o f,Inv X a Z f i/\IsPart u o/\Q o f) X.xe s
def DG:TO:=λ_ H Q=>Q Y H
def LZ(t:TE):TO:=λZ H Q=>t Z H λx a=>∃i,x=.int i/\Q (J i) a
section
variable{X:Cx}{e:Expr}{te:TE}{lo hi:Option Expr}{tl th:TO}{pos p2:Pos}
def DH:PO X Y DG:=by intro f s Z H Q a h;rw[evalPart_none];exact ii ⟨Y,H,a,.none,h⟩
def DI(h:PE X e te):PO X (J e) (LZ te):=by intro y s Z H Q a z;refine ka (h y s Z H _ a z) λu B ⟨x,r,l,f,j⟩=>?_;obtain⟨i,rfl,q⟩:=j;obtain⟨t,rfl⟩:=f;exact⟨J i,r,l,.int i t,q⟩
def OM(X:Cx)(r:V->UW->UW->Hp->VK->Prop):Prop :=
 ∀(i:UU)(s:Shared)(Z:St)(H:Hp)(x:V)(v j f:Value)(lo hi:UW)(sl:Addr)(Q:VK),Inv X i Z H s->aN x v->s.heap.IsSliceOf sl j f .none->IsPart j lo->IsPart f hi->r x lo hi H Q ->
  ∃a id,typeLookup (.type a) "__getitem__"=pure (J (.builtin id))/\s.TypeIs v a/\wpAny (model X.prog X.w) X.A (getItem v (.ref sl)) (EP X i Z Q) X.xe s
def TW(r:V->UW->UW->Hp->VK->Prop)(te:TE)(tl th:TO):TE:=λZ H Q=>te Z H λx a=>tl Z a λl i=>th Z i λu f=>r x l u f Q
def Bv(U:OM X r)(C:PE X e te)(hl:PO X lo tl)(P:PO X hi th):PE X (.Subscript e (.Slice lo hi Y p2) pos) (TW r te tl th):=by intro f s Z H Q y h;refine Subscript_ (ka (C f s Z H _ y h) λv W ⟨x,R,L,B,E⟩=>?_);refine wpAny_Slice (ka (hl f W Z R _ L E) λj s2 ⟨l,H2,I2,pl,M⟩=>ka (P f s2 Z H2 _ I2 M) λi a ⟨u,z,I3,O,S⟩=>?_);refine ii ?_;have I4:Inv X f Z z { a with heap:=a.heap.push { cls:=.type "slice",data:=.fields #[j,i,.none]}}:=I3.kept (t':=a.toks) λb ob q=>m_ _ q;obtain⟨F,id,hT,G,hg⟩:=U f { a with heap:=a.heap.push { cls:=.type "slice",data:=.fields #[j,i,.none]}} Z z x v j i l u a.heap.objs.size Q I4 B (Heap.IsSliceOf.new ..) pl O S;exact tail_any G hT hg (by with_unfolding_all rfl)
def mJ(xs:List V)(lo hi:UW):List V:=(xs.drop (HT.ki xs.length 0 lo)).take (HT.ki xs.length xs.length hi-HT.ki xs.length 0 lo)
def mq(xs:List V)(lo hi:UW):(mJ xs lo hi).length<=xs.length:=by unfold mJ;rw[Di,Cu];lia
def QH(K:ib):V->UW->UW->Hp->VK->Prop:=λx lo hi H Q=>∃a xs,x=.ref a/\SqT K H a xs /\
 ¬(HT.ki xs.length 0 lo=0/\HT.ki xs.length xs.length hi=xs.length)/\∀p,H p=Y->Q (.ref p) (kg H p (.tup (mJ xs lo hi)))
def Hx:OM X (QH X.K):=by
 intro M s Z H x v L G lo hi sl Q i F z B y h;obtain⟨a,xs,rfl,C,E,q⟩:=h;cases F;obtain⟨j,r,l,u⟩:=i.tuple C;have f:j.toArray.size=xs.length:=by exact r.length.symm
 refine⟨"tuple",_,PyProof.Rows.slot_tuple_getitem.lookup,l.typeIs,?_⟩;refine HT.lW l z B y (by rw[f];exact E) ?_ (by rw[f];exact u);rw[f];refine⟨.ref s.heap.objs.size,_,i.laid (t':=s.toks) (λb O q=>m_ _ q) (il _) ?_,rfl,q _ (i.hok.fresh (il _))⟩;exact⟨mu (mq xs lo hi) u,_,(r.drop (HT.ki xs.length 0 lo)).take (HT.ki xs.length xs.length hi-HT.ki xs.length 0 lo),gO.new _ _⟩
def L0(K:ib):R2:=λx y H Q=>∃a b xs ys,x=.ref a/\y=.ref b/\SqT K H a xs/\SqT K H b ys/\xs≠[]/\xs.length+ys.length<=sizeLine /\
 (ys=[]->Q (.ref a) H)/\(ys≠[]->∀p,H p=Y->Q (.ref p) (kg H p (.tup (xs++ys))))
def aB.nil_iff(r:aB xs us):us=[]↔xs=[]:=by
 cases r with
 |nil=>simp
 |cons _ _=>simp
def DJ:OpR X (binaryOp .Add) (L0 X.K):=by intro R s Z H x y v u Q f P G h;obtain⟨a,b,xs,ys,rfl,rfl,L,O,M,l,B,E⟩:=h;cases P;cases G;obtain⟨F,j,C,_⟩:=f.tuple L;obtain⟨r,i,p2,_⟩:=f.tuple O;refine HT.DE C p2 (λz=>M (j.nil_iff.mp z)) (λz=>⟨.ref a,H,f,rfl,B (i.nil_iff.mp z)⟩) (λz=>?_) (by rw[<-j.length,<-i.length];exact l);refine⟨.ref s.heap.objs.size,_,f.laid (t':=s.toks) (λb S q=>m_ _ q) (il _) ?_,rfl,E (λw=>z (i.nil_iff.mpr w)) _ (f.hok.fresh (il _))⟩;exact⟨by rw[z_];exact l,_,j.append i,gO.new _ _⟩
end
def wx(n:Nat)(i:Int):UD:=if 0<=i then(if i<n then J i.toNat else Y)else if -(n:Int)<=i then J (i+n).toNat else Y
def mh{α:Type}(xs:List α)(i:Int):Option α:=(wx xs.length i).bind λj=>xs[j]?
def wv(h:wx n i=J j):seqIndex? i n=J j/\j<n /\ -(n:Int)<=i/\i<n:=by
 unfold wx at h;by_cases f:0<=i
 .rw[b_ f]at h;by_cases a:i<n
  .rw[b_ a]at h;have e:=Option.some.inj h;exact⟨by rw[seqIndex_of f a,e],⋯,⋯,a⟩
  .rw[f_ a]at h;cases h
 .rw[f_ f]at h;by_cases a:-(n:Int)<=i
  .rw[b_ a]at h;have e:=Option.some.inj h;exact⟨by rw[seqIndex_neg ⋯ a,e],⋯,a,⋯⟩
  .rw[f_ a]at h;cases h
def oV(h:mh xs i=J v):∃j,seqIndex? i xs.length=J j/\xs[j]?=J v/\j<xs.length /\ -(xs.length:Int)<=i/\i<xs.length:=by
 unfold mh at h
 cases e:wx xs.length i with
 |none=>rw[e]at h;cases h
 |some j =>
  rw[e]at h;obtain⟨f,l,a,r⟩:=wv e;exact⟨j,f,h,l,a,r⟩
def ik{α:Type}{xs:List α}{j:Nat}{v:α}(h:xs[j]?=J v):mh xs (j:Int)=J v:=by
 have a:=(oI.mp h).1;have e:wx xs.length (j:Int)=J j:=by
  unfold wx
  simp_all
 unfold mh;rw[e];exact h
def ly(b:Expr):Prop:=∀o i,subscripted b T o i=operate [o,i] (getItem o i)
def IxR(X:Cx)(r:R2):Prop :=
 ∀(f a:Expr)(i:UU)(s:Shared)(Z:St)(H:Hp)(x y:V)(v u:Value)(Q:VK),Inv X i Z H s->aN x v->aN y u->r x y H Q ->
  subscripted a T v u=operate [v,u] (getItem v u)->wpAny (model X.prog X.w) X.A (subscriptTail f a v u) (EP X i Z Q) X.xe s
def Hy(X:Cx)(id:String)(r:V->List V->Hp->VK->Prop):Prop :=
 ∀(f:UU)(s:Shared)(Z:St)(H:Hp)(x:V)(xs:List V)(v:Value)(a:UT)(Q:VK),Inv X f Z H s->aN x v->aB xs a->r x xs H Q ->
  wpAny (model X.prog X.w) X.A (call (.builtin id) (v::a)) (EP X f Z Q) X.xe s
section
variable{X:Cx}{a b:Expr}{ta tb:TE}{pos:Pos}
def IxR.or(h:IxR X r)(E:IxR X r'):IxR X (λx y H Q=>r x y H Q\/r' x y H Q):=by
 intro f i l s Z H x y v u Q j C z q B;rcases q with q|q
 .exact h f i l s Z H x y v u Q j C z q B
 .exact E f i l s Z H x y v u Q j C z q B
def L3{r:R2}(z:IxR X r)(B:PE X a ta)(F:PE X b tb)(j:ly b):PE X (.Subscript a b pos) (LJ r ta tb):=by intro l s Z H Q f h;exact Subscript_ (Hn B F f h λv u L x y E C G i q=>z a b l L Z E x y v u Q C G i q (j _ _))
def L4(K:ib):R2:=λx y H Q=>∃p xs i v,x=.ref p/\y=.int i/\SqL K H p xs/\mh xs i=J v/\Q v H
def L5(K:ib):R2:=λx y H Q=>∃p xs i v,x=.ref p/\y=.int i/\SqT K H p xs/\mh xs i=J v/\Q v H
def L6:R2:=λx y H Q=>∃z i c,x=.str z/\y=.int i/\z.length<=sizeLine/\mh z.cps.toList i=J c/\Q (.str ⟨#[c]⟩) H
def DK:IxR X (L4 X.K):=by
 intro B E LU s Z H x y v u Q f rx U h O;obtain⟨p,xs,i,z,rfl,rfl,hq,R,q⟩:=h;cases rx;obtain⟨t,rfl⟩:=U;obtain⟨F,r,G,hz⟩:=f.list hq;obtain⟨j,l,W,h3,h4,S⟩:=oV R;obtain⟨w,M,L⟩:=r.get W;have hl:=r.length;have hn:=oi;have fin:EP X LU Z Q w s:=⟨z,H,f,L,q⟩;by_cases P:0<=i
 .have C:i.toNat=j:=by
   rw[seqIndex_of P S]at l;exact Option.some.inj l
  exact item_listR G.isList P ⋯ (by rw[C];simpa using M) fin O
 .have C:(i+(F.toArray.size:Int)).toNat=j:=by
   rw[seqIndex_neg ⋯ h4]at l;rw[qd,<-hl];exact Option.some.inj l
  exact subscriptTail_builtinR G.isList.typeIs slot_list_getitem.lookup
   (wpAny_getItem_list_neg G.isList ⋯ (by rw[qd]<;>lia) ⋯ (by rw[C];simpa using M) ⟨rfl,fin⟩) O
def Hz:IxR X (L5 X.K):=by
 intro l B S s Z H x y v u Q f rx O h P;obtain⟨p,xs,i,z,rfl,rfl,U,F,q⟩:=h;cases rx;obtain⟨t,rfl⟩:=O;obtain⟨M,r,E,hz⟩:=f.tuple U;obtain⟨j,G,R,h3,h4,h5⟩:=oV F;obtain⟨w,L,C⟩:=r.get R;have W:=r.length;have hn:=oi;have fin:EP X S Z Q w s:=⟨z,H,f,C,q⟩;exact subscriptTail_builtinR E.typeIs slot_tuple_getitem.lookup
  (getItem_tuple E ⋯ ⋯ (by rw[qd,<-W];exact G) (by simpa using L) ⟨rfl,fin⟩) P
def HA:IxR X L6:=by
 intro f l U s Z H x y v u Q r P F h G;obtain⟨z,i,c,rfl,rfl,W,C,q⟩:=h;obtain⟨t,rfl⟩:=P;obtain⟨R,rfl⟩:=F;obtain⟨j,B,L,S,M,E⟩:=oV C;have O:z.cps.toList.length=z.length:=by simp[Str.length]
 rw[O]at B M E;have hn:=oi
 exact tail_any (typeIs_str s z t) slot_str_getitem.lookup (getItem_str (by
  have e1:decide (i < -(2^63:Int))=T:=decide_eq_false ⋯;have e2:decide (i>=2^63)=T:=decide_eq_false ⋯
  rw[e1,e2,Bool.or_false]) (by rw[B];simpa using L) ⟨.str ⟨#[c]⟩,H,r.tok _,⟨_,rfl⟩,q⟩) G
def TX(K:ib):R2:=λx y H Q=>L4 K x y H Q\/L5 K x y H Q\/L6 x y H Q
def HD:IxR X (TX X.K):=DK.or (Hz.or HA)
def yc(f:UT)(n j:Nat)(u:Value):Obj.mapSeq (·.setIfInBounds j u) { cls:=.type "list",data:=.seq f.toArray n}={ cls:=.type "list",data:=.seq (f.set j u).toArray n}:=by simp[Obj.mapSeq]
def Inv.lst{j:UU}{Z:St}{H:Hp}{s:Shared}{p:Addr}{xs:List V}(i:Inv X j Z H s)(h:H p=J (.lst xs)):
  ∃(f:UT) (n:Nat),aB xs f/\s.heap.get? p=J { cls:=.type "list",data:=.seq f.toArray n}/\xs.length<=sizeLine:=by
 obtain⟨z,f,n,r,e⟩:=i.hok p _ h;exact⟨f,n,r,e,z⟩
def Inv.lstUpd{z:UU}{Z:St}{H:Hp}{s:Shared}{p:Addr}{xs ys:List V}{j i:UT}{n y:Nat}{f:Obj->Obj}(l:Inv X z Z H s)(h:H p=J (.lst xs))(C:s.heap.get? p=J { cls:=.type "list",data:=.seq j.toArray n})(hf:f { cls:=.type "list",data:=.seq j.toArray n}={ cls:=.type "list",data:=.seq i.toArray y})(r:aB ys i)(B:ys.length<=sizeLine)(t:Nat):
  Inv X z Z (kg H p (.lst ys)) { s with heap:=s.heap.update p f,toks:=t}:=by
 have e:(s.heap.update p f).get? p=J { cls:=.type "list",data:=.seq i.toArray y}:=by rw[GO f C (by rw[hf]<;>rfl),hf]
 refine l.write (by rw[h];trivial) (.inl rfl) (λb u E q=>(Df _ _ (Ne.symm E)).trans q) ⟨_,e⟩ ?_;exact⟨B,i,y,r,e⟩
def L7:V->V->V->Hp->(Hp->Prop)->Prop:=λo i v H Q=>∃p xs k j,o=.ref p/\i=.int k/\H p=J (.lst xs)/\wx xs.length k=J j/\Q (kg H p (.lst (xs.set j v)))
def AJ:Hg X L7:=by
 intro LU s Z H o i v ov iv u Q l S P U h;obtain⟨p,xs,k,j,rfl,rfl,L,O,q⟩:=h;cases S;obtain⟨t,rfl⟩:=P;obtain⟨f,n,r,B,R⟩:=l.lst L;obtain⟨y,W,E,G⟩:=wv O;have C:=r.length;have hn:=oi;have M :=
  l.lstUpd L B (yc f n j u) (r.set U j) (by rw[List.length_set];exact R) s.toks
 by_cases F:0<=k
 .have z:k.toNat=j:=by
   rw[seqIndex_of F G]at y;exact Option.some.inj y
  exact PySem.W.ki_setAt B F ⋯ (by rw[qd,<-C];exact G) (by rw[z];exact⟨_,M,q⟩)
 .have z:(k+(f.toArray.size:Int)).toNat=j:=by
   rw[seqIndex_neg ⋯ E]at y;rw[qd,<-C];exact Option.some.inj y
  exact PySem.W.ki_setBack B ⋯ (by rw[qd,<-C];exact E) ⋯ (by rw[z];exact⟨_,M,q⟩)
def uc(lo f:UW)(n:Nat):(sliceBounds lo f Y n).1=((HT.ki n 0 lo:Nat):Int)/\(sliceBounds lo f Y n).2.1=((HT.ki n n f:Nat):Int)/\(sliceBounds lo f Y n).2.2=1:=by
 refine⟨?_,?_,rfl⟩
 .cases lo with
  |none=>simp[sliceBounds,HT.ki]
  |some i =>
   simp only[sliceBounds,HT.ki,Option.getD_none,show(1:Int)>0 by decide,if_true];by_cases h:i<0
   .simp only[h,if_true]<;>lia
   .simp only[h,if_false]<;>lia
 .cases f with
  |none=>simp[sliceBounds,HT.ki]
  |some i =>
   simp only[sliceBounds,HT.ki,Option.getD_none,show(1:Int)>0 by decide,if_true];by_cases h:i<0
   .simp only[h,if_true]<;>lia
   .simp only[h,if_false]<;>lia
def rM(f:UT)(lo i:UW):slicePick f.toArray lo i Y=((f.drop (HT.ki f.length 0 lo)).take (HT.ki f.length f.length i-HT.ki f.length 0 lo)).toArray:=by obtain⟨l,r,j⟩:=uc lo i f.toArray.size;unfold slicePick;rw[l,r,j];simp only[sliceRange_one,pick_run]<;>rfl
def QI(K:ib):V->UW->UW->Hp->VK->Prop:=λx lo f H Q=>∃a xs,x=.ref a/\SqL K H a xs/\∀p,H p=Y->Q (.ref p) (kg H p (.lst (mJ xs lo f)))
def vX:OM X (QI X.K):=by intro M s Z H x v L G lo l sl Q f F z C u h;obtain⟨a,xs,rfl,E,q⟩:=h;cases F;obtain⟨y,r,j,B⟩:=f.list E;have i:=r.length;refine⟨"list",_,slot_list_getitem.lookup,j.isList.typeIs,?_⟩;refine wpAny_getItem_list_slice j.isList z C u .none (by simp) ?_ (by rw[qd]<;>lia);rw[rM,<-i];refine⟨.ref s.heap.objs.size,_,f.laid (t':=s.toks) (λb O q=>m_ _ q) (il _) ?_,rfl,q _ (f.hok.fresh (il _))⟩;exact⟨mu (mq xs lo l) B,_,0,(r.drop (HT.ki xs.length 0 lo)).take (HT.ki xs.length xs.length l-HT.ki xs.length 0 lo),rT _ rfl⟩
def tY:cS X (.type "list") (λxs H Q=>∃p ys,xs=[.ref p]/\(SqL X.K H p ys\/SqT X.K H p ys)/\∀l,H l=Y->Q (.ref l) (kg H l (.lst ys))):=by
 intro O s Z H xs R Q i r h;obtain⟨p,ys,rfl,E,q⟩:=h;obtain⟨u,rfl,P⟩:=jG r;cases P;have fin:∀(f:UT),aB ys f->ys.length<=sizeLine->∀(j:Heap)(y:Nat),(∀b M,s.heap.get? b=J M->j.get? b=J M) ->
   j.get? s.heap.objs.size=J { cls:=.type "list",dict:=Y,data:=.seq f.toArray y,slots:=#[]}->EP X O Z Q (.ref s.heap.objs.size) { s with heap:=j}:=λf z C j y kp e =>
  ⟨.ref s.heap.objs.size,_,i.laid (t':=s.toks) kp (il _) (show ObjOk X.prog X.w _ j _ (.lst ys) from⟨C,f,y,z,e⟩),rfl,q _ (i.hok.fresh (il _))⟩
 rcases E with E|E
 .obtain⟨f,z,F,C⟩:=i.list E;have B:=z.length;obtain⟨o,G,L,n,hd⟩:=F.isList;exact call_list_seq p (.inl rfl) G L hd (λj y kp e=>fin f z C j y kp e) (by simp only[qd]<;>lia)
 .obtain⟨f,z,F,C⟩:=i.tuple E;have B:=z.length;obtain⟨o,G,L,n,hd⟩:=F;exact call_list_seq p (.inr rfl) G L hd (λj y kp e=>fin f z C j y kp e) (by simp only[qd]<;>lia)
def kq:cS X (.type "tuple") (λxs H Q=>∃p ys,xs=[.ref p]/\((SqL X.K H p ys/\∀l,H l=Y->Q (.ref l) (kg H l (.tup ys)))\/(SqT X.K H p ys/\Q (.ref p) H))):=by
 intro O s Z H xs M Q f r h;obtain⟨p,ys,rfl,h⟩:=h;obtain⟨u,rfl,L⟩:=jG r;cases L;rcases h with⟨y,q⟩|⟨y,q⟩
 .obtain⟨i,j,z,E⟩:=f.list y;have C:=j.length;refine call_tuple_list z.isList (λF kp=>?_) (by simp only[qd]<;>lia);have B:=f.kept (t':=s.toks) kp;have G :=
   B.laid (t':=s.toks) (λb o e=>m_ _ e) (il _) (show ObjOk X.prog X.w _ _ _ (.tup ys) from⟨E,i,j,gO.new _ _⟩)
  exact⟨.ref F.objs.size,_,G,rfl,q _ (B.hok.fresh (il _))⟩
 .obtain⟨i,j,z,E⟩:=f.tuple y;exact call_tuple_same z ⟨.ref p,H,f,rfl,q⟩
def QJ(K:ib)(f:String)(x:V)(H:Hp):Prop:=match x with
 |.str _=>f="str"
 |.int _=>f="int"
 |.ref p=>(f="list"/\∃xs,SqL K H p xs)\/(f="tuple"/\∃o,K.lookup p=J o/\o.cls=.type "tuple"/\o.dict=Y) \/
   (f="dict"/\((∃i,H p=J (.dK i))\/∃i,H p=J (.dT i)))\/(f="set"/\∃S n,H p=J (.set S n))
 |_=>False
def HE{E:UU}{Z:St}{H:Hp}{s:Shared}{l:String}{x:V}{v:Value}(f:Inv X E Z H s)(r:aN x v)(ty:QJ X.K l x H):
  s.TypeIs v l/\∀a,v=.ref a->∃B,s.heap.get? a=J B/\B.dict=Y:=by
 cases x with
 |str z =>
  obtain⟨t,rfl⟩:=r;cases(ty);exact⟨typeIs_str s z t,λ_ e=>nomatch e⟩
 |int i =>
  obtain⟨t,rfl⟩:=r;cases(ty);exact⟨typeIs_int s i t,λ_ e=>nomatch e⟩
 |ref p =>
  cases r;rcases ty with⟨rfl,xs,F⟩|⟨rfl,o,j,G,hd⟩|⟨rfl,j⟩|⟨rfl,S,n,j⟩
  .obtain⟨C,_,y,_⟩:=f.list F;refine⟨y.isList.typeIs,λa e=>?_⟩;cases e;obtain⟨o,n,e,c,hd,_⟩:=y;exact⟨o,e,hd⟩
  .refine⟨⟨o,f.kIn p o j,G⟩,λa e=>?_⟩;cases e;exact⟨o,f.kIn _ o j,hd⟩
  .have z:∃o,s.heap.get? p=J o/\o.ExactDict:=by
    rcases j with⟨u,j⟩|⟨u,j⟩
    .obtain⟨_,_,_,_,o,_,_,e,ex,_⟩:=f.hok p _ j;exact⟨o,e,ex⟩
    .obtain⟨_,_,_,_,o,_,_,e,ex,_⟩:=f.hok p _ j;exact⟨o,e,ex⟩
   obtain⟨o,e,ex⟩:=z;refine⟨⟨o,e,ex.1⟩,λa e2=>?_⟩;cases e2;exact⟨o,e,ex.2.1⟩
  .obtain⟨o,_,_,_,e,ex,_⟩:=f.hok p _ j;refine⟨⟨o,e,ex.1⟩,λa e2=>?_⟩;cases e2;exact⟨o,e,ex.2.1⟩
 |_=>exact False.elim ty
def TY(K:ib)(f:String)(r:V->List V->Hp->VK->Prop)(to:TE)(t:TA):TE:=λZ H Q=>to Z H λx i=>QJ K f x i/\t Z i λxs j=>r x xs j Q
variable{o e:Expr}{es:UX}{to:TE}{t:TA}{name:Str}{apos cpos:Pos}{T id:String}{r:V->List V->Hp->VK->Prop}
def L8(pa:PlainAttrs T)(slot:Slot T name id)(u:typeOf (.builtin id)=pure (.type "method_descriptor"))(W:Hy X id r)(ho:PE X o to)(ha:PA X (e::es) t)(i:attributeBase o name X.env (eval o X.env)=eval o X.env:=by rfl)(l:((backTo cpos (starEach (e::es) X.env)).all (λx=>!x.1)&&(backToKw cpos (keywordEach [] X.env)).all (λx=>x.1.isSome)
   && decide ((e::es).length+([]:List Keyword).length+(if([]:List Keyword).isEmpty then 0 else 1)<30))=I:=by rfl)(j:(apos.endLine==cpos.line)=I:=by rfl)(S:starEach (e::es) X.env=(false,eval e X.env)::starEach es X.env:=by rfl)(f:(backTo cpos (starEach es X.env)).any (·.1)=false:=by rfl):
  PE X (.Call (.Attribute o name apos) (e::es) [] cpos) (TY X.K T r to t):=by
 intro y s Z H Q z h;refine wpAny_Call_method_late i l j rfl (ka (ho y s Z H _ z h) λv s1 ⟨x,R,C,B,ty,M⟩=>?_);obtain⟨L,U⟩:=HE C B ty;refine⟨T,id,pa,slot,u,L,U,?_⟩;have E:=ha cpos y s1 Z R _ C M;rw[S]at E ⊢;refine Calls.callWith_builtin (by show(false||(backTo cpos (starEach es X.env)).any (·.1))=false;rw[f]<;>rfl) (Calls.evalArgs_plain ?_);exact ka E λP s2 ⟨G,H2,I2,F,O⟩=>W y s2 Z H2 x G v P Q I2 B F O
end
def QK(X:Cx)(id:String)(r:V->List V->Hp->VK->Prop):Prop :=
 ∀(f:UU)(s:Shared)(Z:St)(H:Hp)(x:V)(xs:List V)(v:Value)(a:UT)(Q:VK),Inv X f Z H s->aN x v->aB xs a->r x xs H Q ->
  wpAny (model X.prog X.w) X.A (call (.builtin id) (v::a)) (EP X f Z Q) X.xe s
def aB.zero(h:aB [] us):us=[]:=by cases h;rfl
def aB.one(h:aB [x] us):∃u,us=[u]/\aN x u:=by cases h with|cons r t=>exact⟨_,by rw[aB.zero t],r⟩
def aB.eraseIdx(i:Nat)(r:aB xs us):aB (xs.eraseIdx i) (us.eraseIdx i):=by
 induction r generalizing i with
 |nil=>exact .nil
 |cons a t f =>
  cases i with
  |zero=>exact t
  |succ i=>exact .cons a (f i)
def aB.rep(h:aB xs us):∀k:Nat,aB (List.replicate k xs).flatten (List.replicate k us).flatten
 |0=>.nil
 |k+1=>by
  exact aB.append h (aB.rep h k)
def qP{α:Type}:∀(l:List α)(i:Nat),(l.eraseIdx i).length<=l.length
 |[],_=>il _
 |_::_,0=>KH _
 |_::r,i+1=>GV (qP r i)
def qe(a:UT):∀(k:Nat)(f:UT),
  List.foldl (λj i=>j++i) f.toArray (List.replicate k a.toArray)=(f++(List.replicate k a).flatten).toArray
 |0,f=>by simp
 |k+1,f=>by
  have e:f.toArray++a.toArray=(f++a).toArray:=by simp
  have e2:(f++a)++(List.replicate k a).flatten=f++(List.replicate (k+1) a).flatten:=by rw[List.replicate_succ,List.flatten_cons,CN]
  rw[<-e2,<-qe a k (f++a),<-e,List.replicate_succ,P_]
section
variable{X:Cx}{LU:List (Addr × Obj)}{Z:St}{H:Hp}{s:Shared}{l b:Addr}{xs ys zs:List V}
def Inv.lset{a its':UT}{n:Nat}{f:Array Value->Array Value}{r:Nat}(i:Inv X LU Z H s)(z:H l=J (.lst xs))(e:s.heap.get? l=J { cls:=.type "list",data:=.seq a.toArray n})(hf:f a.toArray=its'.toArray)(hv:aB ys its')(j:ys.length<=sizeLine):
  Inv X LU Z (kg H l (.lst ys)) { s with heap:=s.heap.update l (Obj.mapSeq f),toks:=r}:=by
 have q:=PySem.IsL.update e f;rw[hf]at q;refine i.write (x:=l) (e:=l) (by rw[z];exact trivial) (.inl rfl) (λC u y B=>(Df s.heap (Obj.mapSeq f) (Ne.symm y)).trans B) ⟨_,q⟩ ?_;exact⟨j,its',_,hv,q⟩
def Inv.lnew(a:Inv X LU Z H s)(hv:aB ys its)(f:ys.length<=sizeLine):
  Inv X LU Z (kg H s.heap.objs.size (.lst ys)) { s with heap:=s.heap.push { cls:=.type "list",data:=.seq its.toArray},toks:=t'} :=
 a.laid (λ_ _ q=>m_ _ q) (il _) ⟨f,its,0,hv,rT _ rfl⟩
def Inv.fresh(a:Inv X LU Z H s):H s.heap.objs.size=Y:=a.hok.fresh (il _)
def Inv.lstM(f:Inv X LU Z H s)(i:H l=J (.lst xs)):xs.length<=sizeLine/\∃(a:UT) (n:Nat),aB xs a/\xs.length=a.length/\s.heap.get? l=J { cls:=.type "list",data:=.seq a.toArray n}:=by obtain⟨z,a,n,r,e⟩:=f.hok l _ i;exact⟨z,a,n,r,r.length,e⟩
def mV(h:n<=sizeLine):Builtin.List.listTooLong n=T:=by unfold Builtin.List.listTooLong;exact decide_eq_false ⋯
end
section
variable{X:Cx}
def DL:V->List V->Hp->VK->Prop:=λx a H Q=>∃l xs y,x=.ref l/\a=[y]/\H l=J (.lst xs)/\xs.length<sizeLine/\Q .non (kg H l (.lst (xs++[y])))
def qt:QK X "list.append" DL:=by
 intro L s Z H x E v G Q f C B h;obtain⟨l,xs,y,rfl,rfl,i,M,q⟩:=h;cases C;obtain⟨u,rfl,j⟩:=B.one;obtain⟨z,a,n,r,O,e⟩:=f.lstM i;refine call_meets F.slot_list_append ⟨_,e,rfl⟩ F.entry_list_append (F.args_list_append_2 _ _) (PySem.list_append l a.toArray n u (by rw[qd];lia)) ⟨e,?_⟩;refine⟨.non,_,f.lset (its':=a++[u]) i e (by simp) (r.append (.cons j .nil)) ?_,rfl,q⟩
 grind
def DM:V->List V->Hp->VK->Prop:=λx f H Q=>∃l b xs a,x=.ref l/\f=[.ref b]/\H l=J (.lst xs)/\H b=J (.lst a)/\xs.length+a.length<=sizeLine/\Q .non (kg H l (.lst (xs++a)))
def zx:QK X "list.extend" DM:=by
 intro W s Z H x S v U Q i P M h;obtain⟨l,b,xs,zs,rfl,rfl,B,C,hz,q⟩:=h;cases P;obtain⟨u,rfl,E⟩:=M.one;cases E;obtain⟨z,f,n,r,hl,e⟩:=i.lstM B;obtain⟨R,a,O,G,L,e2⟩:=i.lstM C;have y:f.toArray.size+a.toArray.size<=sizeLine:=by rw[qd,qd];lia
 have j:¬(!f.toArray.isEmpty&&Builtin.List.listTooLong (f.toArray.size+a.toArray.size))=I:=by rw[mV y,Qd];exact FV
 refine call_meets F.slot_list_extend ⟨_,e,rfl⟩ F.entry_list_extend (F.args_list_extend_2 _ _)
  (AutoSeq1.list_extend_list_list_0 l f.toArray n b a.toArray O j (by rw[qd];lia) ⋯) ⟨e,e2,?_⟩
 refine⟨.non,_,i.lset (its':=f++a) B e (by simp) (r.append G) ?_,rfl,q⟩;rw[z_];lia
def HG:V->List V->Hp->VK->Prop:=λx a H Q=>∃l xs i k y,x=.ref l/\a=[.int i]/\H l=J (.lst xs) /\ -(2^63)<=i/\i<2^63/\seqIndex? i xs.length=J k/\xs[k]?=J y/\Q y (kg H l (.lst (xs.eraseIdx k)))
def Br:QK X "list.pop" HG:=by
 intro LU s Z H x U v W Q f S O h;obtain⟨l,xs,i,k,y,rfl,rfl,B,G,L,C,M,q⟩:=h;cases S;obtain⟨u,rfl,E⟩:=O.one;obtain⟨t,rfl⟩:=E;obtain⟨z,a,n,r,R,e⟩:=f.lstM B;obtain⟨w,P,j⟩:=r.get M;refine call_meets F.slot_list_pop ⟨_,e,rfl⟩ F.entry_list_pop (F.args_list_pop_2 _ _)
  (MeetsSeq.list_pop_at l a.toArray n i t k w (fitsIndex_both G L) (by rw[qd,<-R];exact C) (by rw[<-w_];exact P) (by rw[qd];lia)) ⟨e,?_⟩
 refine⟨y,_,f.lset (its':=a.eraseIdx k) B e ?_ (r.eraseIdx k) ?_,j,q⟩
 .simp_all
 .have:=qP xs k
  lia
def QL:R2:=λx y H Q=>∃l b xs a,x=.ref l/\y=.ref b/\H l=J (.lst xs)/\H b=J (.lst a)/\xs.length+a.length<=sizeLine/\∀p,H p=Y->Q (.ref p) (kg H p (.lst (xs++a)))
def HH:OpR X (binaryOp .Add) QL:=by
 intro O s Z H x y v u Q a L C h;obtain⟨l,b,xs,R,rfl,rfl,G,j,P,q⟩:=h;cases L;cases C;obtain⟨z,i,n,r,U,e⟩:=a.lstM G;obtain⟨M,f,S,B,E,e2⟩:=a.lstM j;refine PySem.P.add_list e e2 ?_ (by rw[qd,qd];lia);have F:i.toArray++f.toArray=(i++f).toArray:=by simp
 rw[F];exact⟨.ref _,_,a.lnew (t':=s.toks) (r.append B) (by rw[z_];lia),rfl,q _ a.fresh⟩
def QM:R2:=λx y H Q=>∃l k xs,x=.ref l/\y=.int k/\H l=J (.lst xs) /\ -(2^63)<=k/\k<2^63/\xs.length*k.toNat<=sizeLine /\
 ∀p,H p=Y->Q (.ref p) (kg H p (.lst (List.replicate k.toNat xs).flatten))
def vC{α:Type}(xs:List α)(k:Nat):(List.replicate k xs).flatten.length=k*xs.length:=by simp
def HJ:OpR X (binaryOp .Mult) QM:=by
 intro LU s Z H x y v u Q i rx R h;obtain⟨l,k,xs,rfl,rfl,hH,P,S,O,q⟩:=h;cases rx;obtain⟨t,rfl⟩:=R;obtain⟨z,f,n,r,hl,e⟩:=i.lstM hH;have C:f.toArray.size*k.toNat<=sizeLine:=by rw[qd,<-hl];exact O
 have B:¬f.toArray.size*k.toNat>(2^63-1)/8:=by
  have:(sizeLine:Nat)<=(2^63-1)/8:=by decide
  lia
 have E:¬(!Builtin.List.listFitsIndex k)=I:=by rw[fitsIndex_both P S];exact FV
 have j:¬Builtin.List.listTooLong (f.toArray.size*k.toNat)=I:=by rw[mV C];exact FV
 have G:List.foldl (λL M=>L++M) #[] (List.replicate (if f.toArray.isEmpty=I then 0 else k.toNat) f.toArray)=(List.replicate k.toNat f).flatten.toArray:=by
  have U:∀m:Nat,List.foldl (λL M=>L++M) #[] (List.replicate m f.toArray)=(List.replicate m f).flatten.toArray:=λm=>by
   have:=qe f m []
   exact this
  rw[U]
  cases f with
  |nil=>simp
  |cons a r'=>rw[f_ (by simp)]
 refine wpAny_binaryOp_repeat_ref (by decide) ⟨_,e,rfl⟩ (λW=>typeIs_int W k t) noFill_list_mul F.fills_int_mul F.slot_int_rmul repeat_list F.slot_int_index.lookup
  (call_meets F.slot_int_rmul (typeIs_int s k t) F.entry_int_rmul (F.args_int_rmul_2 _ _) (int___rmul___int_list k t l f.toArray n)
   ⟨e,rfl,⟨_,e,rfl⟩,call_meets F.slot_list_mul ⟨_,e,rfl⟩ F.entry_list_mul (F.args_list_mul_2 _ _) (AutoListH.list___mul___list_int_3 l f.toArray n k t E B j) ⟨e,?_⟩⟩)
 rw[G];exact⟨.ref _,_,i.lnew (t':=s.toks) (r.rep k.toNat) (by rw[vC,Nat.mul_comm];exact O),rfl,q _ i.fresh⟩
end
section
variable{prog:Program}{w:World}{A:Around}{E:UA}{s:Shared}
end
section
variable{X:Cx}
end
end L2
namespace Att
open PySem.W PySem.Calls PyProof.Rows
def nB:∀(ns:UN)(f:UT),WellAll P h f (ns.map WData.int)->IntsAre f ns:=by
 intro ns
 induction ns with
 |nil =>
  intro f w;rw[Do]at w;cases w;exact .nil
 |cons n ns i =>
  intro f w;rw[n9]at w
  cases w with
  |cons a b =>
   cases a;exact .cons _ _ (i _ b)
def zc{l:OpenLaw}{n:Nat}(L:l.most=J n){P:Params}{h:Heap}{f:List WData}{j:UT}(i:l.row.toRowW.claim.pre f=I)(C:WellAll P h j f):
  ∃a E ns,j=[Value.ref a]/\f=[WData.list (ns.map WData.int)]/\h.get? a=J { cls:=.type "list",data:=.seq E.toArray}/\IntsAre E ns/\ns.length<=n:=by
 have B:=(pre_splitW i).1;have R:=(pre_splitW i).2;obtain⟨d,r,rfl,F,H⟩:=hasAllW_cons B;obtain rfl:=hasAllW_nil H;obtain⟨xs,rfl,G⟩:=hasW_list F;obtain⟨ns,rfl⟩:=items_int G;have u:ns.length<=n:=by
  have z:(WTm.not (.lt (.lit (.int (n:Int))) (.len (.arg 0)))).holds [] { args:=[.list (ns.map .int)]}=I:=by have z:=(holds_andW R).1;rw[L]at z;exact z
  have S:=condW_of z (w_not (w_lt w_lit (w_len_list (w_arg rfl))))
  simp_all
 cases C with
 |cons M O =>
  cases O
  cases M with
  |list Q y=>exact⟨_,_,ns,rfl,rfl,Q,nB ns _ y,u⟩
def yZ(l:OpenLaw)(a:List WData):l.row.toRowW.claim.post a (.bool I) a=I :=
 postW_of
  (show WShape.has [] (.bool I) .bool=I by first | rfl | decide | simp)
  (w_eq_bool (w_res rfl) w_lit) rfl
def uD{l:OpenLaw}{n:Nat}{q:Program}{loose:UM}{XP:(Str->UV)->Heap->Prop}{W:World->Heap->Prop}{d:DefRec}(hn:l.most=J n)(O:d.params.defaults=[])(call:∀(w:World)(s₀ i:Shared)(mg M:UB)(z:Addr)(o:Obj)(pm F j:Value)(a:Addr)(y:UT)(ns:UN),
   Ground q loose [] XP w s₀ mg M i.heap->W w i.heap ->
   i.heap.get? z=J o->o.data=.func (docDef d.name d.params d.body d.scope pm F j)->i.heap.CodeRec F d.name->mg d.name=J (.ref z) ->
   i.heap.get? a=J { cls:=.type "list",data:=.seq y.toArray}->IntsAre y ns->ns.length<=n->i.gens=#[] ->
   codeAny (model l.prog w) callerA (.call (.ref z) ⟨[.ref a],[]⟩) (λr H=>r=.ok (.ret (.bool I))/\OldK i.heap H.heap/\H.os=i.os/\AllBare H.gens) i):
  WalkO q loose XP W l.row.toRowW d [] (λf y=>PySem.call f y):=by
 intro w s₀ i mg M G L z o pm F j dV kV ho hd R Z Q hg X S as B U al P an;obtain rfl:=Dflts.none Z O;obtain rfl:=Dflts.noKw Z;obtain⟨a,y,ns,rfl,rfl,E,u,C⟩:=zc hn B P;refine enter_call (codeAny_mono (call w s₀ i mg M z o pm F j a y ns G L ho (fd_plain hd) R Q E u C hg) λr H hq=>?_);obtain⟨rfl,h2,h3,h4⟩:=hq;exact⟨.inl ⟨.bool I,.bool I,[],rfl,λ_=>rfl,.bool I,yZ l _,λ_=>⟨List.Pairwise.nil,λ_ hm=>(nomatch hm)⟩⟩,h2,h3,h4⟩
section
variable{prog:Program}{w:World}{A:Around}{E:UA}{s:Shared}{K:Frag}
end
end Att
namespace L2
open PySem.Spec PyProof.Rows
def qG:∀{a:UT}{ns:UN},IntsAre a ns->aB (ns.map V.int) a
 |_,_,.nil=>.nil
 |_,_,.cons n t h=>.cons ⟨t,rfl⟩ (qG h)
def HK(H:Hp):Prop:=∀b,H b=Y\/∃o xs,H b=J (.frz o (.lst xs))
def Ah{P:Program}{w:World}{K:ib}{mg Z:UB}{CX:CH}{k:Nat}{fa a:Addr}{fd:FuncData}{x:Str}{sp:Sp}{f:Shared}{C:UT}{ns:UN}(KX:K.In f.heap)(G:f.heap.Ns mainGlobals mg)(j:f.heap.Ns builtinsNs Z)(al:∀x:Str,x≠"__name__"->Z x=bootBuiltins x)(O:f.heap.NoLimit)(hg:f.gens=#[])(W:f.heap.get? a=J { cls:=.type "list",data:=.seq C.toArray})(hi:IntsAre C ns)(hl:ns.length<=sizeLine)(hr:Room k callerA)(F:∀base:Heap,K.In base->base.Ns mainGlobals mg->FnOk P w K mg base CX k fa fd [x] sp)(E:∀(s:Shared) (u:Value),BindsTo s fd ⟨[u],[]⟩ [(x,u)])(ap:∀H:Hp,HK H->SqL K H a (ns.map V.int)->sp [.ref a] H (λv _=>v=.bl I) λ_ _ _=>False)(X:∀H e l,CX [] H f (λ_ _ _=>False) e l->False):
  codeAny (model P w) callerA (.call (.ref fa) ⟨[.ref a],[]⟩) (λr l=>r=.ok (.ret (.bool I))/\OldK f.heap l.heap/\l.os=f.os/\AllBare l.gens) f:=by
 have rv:=qG hi;have M:=hi.length;have B:∀H:Hp,HK H->SqL K H a (ns.map V.int)->HOk P w H f.heap->(∀b,H b≠Y->b=a)->(H a≠Y->K.lookup a=Y) ->
   codeAny (model P w) callerA (.call (.ref fa) ⟨[.ref a],[]⟩) (λr l=>r=.ok (.ret (.bool I))/\OldK f.heap l.heap/\l.os=f.os/\AllBare l.gens) f:=by
  intro H hO hS hok hA hK;have i:∀{b:Addr}{o:Obj},f.heap.get? b=J o->H b=Y->(jO f.heap H).get? b=J o:=λe n=>Aa e n;have an:∀{b:Addr}{o:Obj}{L:Array DictEntry}{R:Nat},f.heap.get? b=J o->o.data=.dict L R->H b=Y:=λ{b o L R} e d=>by
   cases q:H b with
   |none=>rfl
   |some u =>
    have e':b=a:=hA b (by rw[q];simp);subst e';rw[W]at e;cases e;have d':Data.seq C.toArray _=Data.dict L R:=d;cases d'
  have y:∀{b:Addr}{m:UB},f.heap.Ns b m->(jO f.heap H).Ns b m:=λ{b m} ⟨o,L,R,e,d,r⟩=>⟨o,L,R,i e (an e d),d,r⟩
  have Q:K.In (jO f.heap H):=λb o e=>i (KX b o e) (by
   cases q:H b with
   |none=>rfl
   |some u =>
    have e':b=a:=hA b (by rw[q];simp);subst e'
    rw[hK (by rw[q];simp)]at e;cases e)
  have hM:Mod K mg (jO f.heap H):=⟨Q,y G,⟨Z,y j,al⟩,let⟨mc,h1,h2⟩:=O;⟨mc,y h1,h2⟩⟩;have e0:DD P w K mg (jO f.heap H) callerA [] f H:=⟨rfl,hM,λb o e=>Dp e,Qf (yd _ _),trivial,λb j=>absurd (show b∈([]:US)from j) (by simp),hok,.of_eq hg⟩;refine codeAny_mono ((F _ Q (y G)).run callerA [] f H ⟨[.ref a],[]⟩ [.ref a] [.ref a] _ _ hr e0 (E f (.ref a)) (.cons rfl .nil) (ap H hO hS)) λr l h=>?_
  cases r with
  |error e=>exact(X H e l h).elim
  |ok fl =>
   cases fl with
   |next=>exact False.elim h
   |brk=>exact False.elim h
   |cont=>exact False.elim h
   |ret u =>
    obtain⟨v,H',os,bare,un,S,r',q⟩:=h;have q':v=.bl I:=q;subst q';obtain rfl:u=Value.bool I:=r';refine⟨rfl,OldK.of_keep λb o e=>?_,os,bare⟩
    cases q:H b with
    |none=>exact un.keep b o e q (by intro z;exact absurd (show b∈([]:US)from z) (by simp)) (by simp)
    |some u =>
     rcases hO b with z|⟨ob,xs,z⟩
     .rw[q]at z;cases z
     .have z2:=un.frzs b ob _ z;obtain⟨e1,_⟩:=hok b _ z;obtain⟨e2,_⟩:=S b _ z2;rw[e]at e1;cases e1;exact e2
 cases hk:K.lookup a with
 |some o =>
  have e:=KX a o hk;rw[W]at e;cases e;refine B (λ_=>Y) (λ_=>.inl rfl) (.inr ⟨_,C.toArray,_,hk,rfl,rfl,rfl,by rw[qd,M];exact hl,by simpa using rv⟩) (λb u z=>by have U:(Y:Option HO)=J u:=z;cases U) (λb z=>absurd rfl z) λz=>absurd rfl z
 |none =>
  refine B (λb=>if b=a then J (.frz { cls:=.type "list",data:=.seq C.toArray} (.lst (ns.map V.int)))else Y) (λb=>?_) (.inl (.inr ⟨{ cls:=.type "list",data:=.seq C.toArray},b_ rfl⟩)) (λb u z=>?_) (λb z=>?_) λ_=>hk
  .by_cases j:b=a
   .exact .inr ⟨_,_,b_ j⟩
   .exact .inl (f_ j)
  .by_cases j:b=a
   .have U:=(b_ j).symm.trans z;cases U;subst j;exact⟨W,by rw[q7];exact hl,C,_,rv,W⟩
   .have U:=(f_ j).symm.trans z;cases U
  .by_cases j:b=a
   .exact j
   .exact absurd (f_ j) z
abbrev ny{K:ib}{h:Heap}(_:K.In h):ib:=K
def DN{l:PySem.W.OpenLaw}{n k:Nat}{q:Program}{loose:UM}{XP:(Str->UV)->Heap->Prop}{S:World->Heap->Prop}{d:DefRec}{K:Params->ib}{CX:World->CH}{sp:World->Sp}{x:Str}(hn:l.most=J n)(O:n<=sizeLine)(L:d.params.defaults=[])(hr:Room k callerA)(Z:∀(w:World)(h:Heap),S w h->(K w.params).In h)(F:∀(w:World)(mg:UB)(z:Addr)(h:Heap),(K w.params).In h->h.Ns mainGlobals mg->mg d.name=J (.ref z) ->
   ∃fd:FuncData,(∀(s:Shared)(u:Value),BindsTo s fd ⟨[u],[]⟩ [(x,u)]) /\
    ∀base:Heap,(K w.params).In base->base.Ns mainGlobals mg->FnOk l.prog w (K w.params) mg base (CX w) k z fd [x] (sp w))(C:∀(w:World)(H:Hp)(a:Addr)(ns:UN),ns.length<=n->HK H->SqL (K w.params) H a (ns.map V.int)->sp w [.ref a] H (λv _=>v=.bl I) λ_ _ _=>False)(B:∀(w:World)(H:Hp)(s:Shared)(e:Value)(P:Shared),CX w [] H s (λ_ _ _=>False) e P->False):
  PySem.W.WalkO q loose XP S l.row.toRowW d [] (λf Q=>PySem.call f Q):=by
 refine Att.uD hn L λw s₀ y mg mb z o pm cd U a Q ns G E ho hd al M r j i hg=>?_;have R:=Z w _ E;obtain⟨fd,hb,hF⟩:=F w mg z _ R G.T.g M;exact Ah R G.T.g G.T.b G.T.builtins G.T.nolimit hg r j (mu i O) hr hF hb (λH W X=>C w H a ns i W X) λH e P=>B w H y e P
def ig(s:Stmt):Arguments:=match s with
 |.FunctionDef _ a _ _ _ _ _ _ _ _=>a
 |_=>{ posonlyargs:=[],args:=[],vararg:=Y,kwonlyargs:=[],kw_defaults:=[],kwarg:=Y,defaults:=[]}
def aD(s:Stmt):List Stmt:=match s with
 |.FunctionDef _ _ b _ _ _ _ _ _ _=>b
 |_=>[]
def aj(s:Stmt):Scope:=match s with
 |.FunctionDef _ _ _ _ _ _ a _ _ _=>a
 |_=>{ kind:=.function,names:=[],isGenerator:=T,isCoroutine:=T}
structure Fun(K:ib)(x qual:Str)(st:Stmt)(f:Addr)(fd:FuncData):Prop where
 ex:∃(oc:Value)(od:UE)(kV doc pm:Value)(an:UE)(cdv ct:Value)(osl:Array (UV)),
  fd=PySem.W.fnOf x qual (ig st) (aD st) (aj st) .none kV doc pm an cdv ct/\K.lookup f=J ⟨oc,od,.func fd,osl⟩/\PySem.W.codeIn K cdv qual=I
 kp:PySem.W.keepIn K (.ref f)=I
section
variable{P:Program}{w:World}{K:ib}{mg:UB}{base:Heap}
def Fun.binds{x a:Str}{st:Stmt}{f:Addr}{fd:FuncData}{r:UM}(F:Fun K x a st f fd)(h:∀(kV i pm:Value)(u:UE)(j ct:Value)(l:UT),l.length=r.length->bindArgs (PySem.W.fnOf x a (ig st) (aD st) (aj st) .none kV i pm u j ct) ⟨l,[]⟩=pure (r.zip l)):nu K fd r []:=by
 obtain⟨C,B,kV,i,pm,u,j,ct,z,rfl,lk,y⟩:=F.ex;exact .all (h kV i pm u j ct)
def HL{x a:Str}{st:Stmt}{f:Addr}{y:Value}{z u:UE}{r:Array (UV)}{kV j pm i ct:Value}(l:K.lookup f=J ⟨y,z,.func (PySem.W.fnOf x a (ig st) (aD st) (aj st) .none kV j pm u i ct),r⟩)(c:PySem.W.codeIn K i a=I)(k:PySem.W.keepIn K (.ref f)=I):Fun K x a st f (PySem.W.fnOf x a (ig st) (aD st) (aj st) .none kV j pm u i ct):=⟨⟨y,z,kV,j,pm,u,i,ct,r,rfl,l,c⟩,k⟩
end
section
variable{X:Cx}
end
end L2
namespace MM
open PySem.Spec PyProof.Rows L2
inductive PV where
 |non | bl (b:Bool) | int (i:Int) | str (x:Str) | tup (xs:List PV) | frl (xs:List PV) | loc (n:Nat)
abbrev _root_.UL:=List PV
structure Cc where
 cls:Str
 fs:List (Str×PV):=[]
inductive MO where
 |lst(xs:UL)
 |dic(ks:UP)(xs:UL)
 |exc(x:Cc)
abbrev MH:=List MO
abbrev k_:=List (Option PV)
inductive Out(α:Type) where
 |ok(a:α)(h:MH)
 |exc(x:Cc)(h:MH)
 |bad
abbrev _root_.UZ:=Out PV
def Out.bind{α β:Type}(o:Out α)(f:α->MH->Out β):Out β:=match o with
 |.ok a h=>f a h
 |.exc x h=>.exc x h
 |.bad=>.bad
@[simp]theorem Out.bind_ok(a:α)(h:MH)(f:α->MH->Out β):(Out.ok a h).bind f=f a h:=rfl
@[simp]theorem Out.bind_exc(x:Cc)(h:MH)(f:α->MH->Out β):(Out.exc x h).bind f=.exc x h:=rfl
@[simp]theorem Out.bind_bad(f:α->MH->Out β):(Out.bad:Out α).bind f=.bad:=rfl
inductive SOut where
 |nx(Z:k_)(h:MH)
 |rt(v:PV)(h:MH)
 |bk(Z:k_)(h:MH)
 |ct(Z:k_)(h:MH)
 |exc(x:Cc)(Z:k_)(h:MH)
 |rse(x:Cc)(Z:k_)(h:MH)
 |bad
def Out.ne{α:Type}(o:Out α):Out α:=match o with
 |.exc _ _=>.bad
 |o=>o
@[simp]theorem Out.ne_ok(a:α)(h:MH):(Out.ok a h).ne=.ok a h:=rfl
@[simp]theorem Out.ne_bad:(Out.bad:Out α).ne=.bad:=rfl
@[simp]theorem Out.ne_ne(o:Out α):o.ne.ne=o.ne:=by cases o<;>rfl
def SqF(K:ib)(H:Hp)(a:Addr)(ys:List V):Prop :=
 (∃o,H a=J (.frz o (.lst ys))) \/
  ∃(o:Obj) (f:Array Value) (n:Nat),K.lookup a=J o/\o.cls=.type "list"/\o.dict=Y/\o.data=.seq f n/\f.size<=sizeLine/\aB ys f.toList
def SqF.sq{K:ib}{H:Hp}{a:Addr}{ys:List V}(h:SqF K H a ys):SqL K H a ys:=by
 rcases h with h|h
 .exact .inl (.inr h)
 .exact .inr h
mutual
inductive RP(K:ib)(U:US)(H:Hp):PV->V->Prop where
 |non:RP K U H .non .non
 |bl(b:Bool):RP K U H (.bl b) (.bl b)
 |int(i:Int):RP K U H (.int i) (.int i)
 |str(x:Str):RP K U H (.str x) (.str x)
 |tup{xs:UL}{a:Addr}{ys:List V}(s:SqT K H a ys)(r:RPs K U H xs ys):RP K U H (.tup xs) (.ref a)
 |frl{xs:UL}{a:Addr}{ys:List V}(s:SqF K H a ys)(r:RPs K U H xs ys):RP K U H (.frl xs) (.ref a)
 |loc{n:Nat}{a:Addr}(e:U[n]?=J a):RP K U H (.loc n) (.ref a)
inductive RPs(K:ib)(U:US)(H:Hp):UL->List V->Prop where
 |nil:RPs K U H [] []
 |cons{x:PV}{y:V}{xs:UL}{ys:List V}(r:RP K U H x y)(t:RPs K U H xs ys):RPs K U H (x::xs) (y::ys)
end
structure Le(U:US)(H:Hp)(U':US)(H':Hp):Prop where
 pre:∃m,U'=U++m
 tup:∀a xs,H a=J (.tup xs)->H' a=J (.tup xs)
 frz:∀a o u,H a=J (.frz o u)->H' a=J (.frz o u)
def Le.refl(U:US)(H:Hp):Le U H U H:=⟨⟨[],by simp⟩,λ_ _ h=>h,λ_ _ _ h=>h⟩
def Le.trans(a:Le U H U1 H1)(b:Le U1 H1 U2 H2):Le U H U2 H2:=by obtain⟨m,e⟩:=a.pre;obtain⟨f,i⟩:=b.pre;exact⟨⟨m++f,by rw[i,e,CN]⟩,λc xs h=>b.tup c xs (a.tup c xs h),λc o u h=>b.frz c o u (a.frz c o u h)⟩
def Le.get{U f:US}{H i:Hp}(l:Le U H f i){n:Nat}{a:Addr}(e:U[n]?=J a):f[n]?=J a:=by obtain⟨m,j⟩:=l.pre;rw[j,qr (oI.mp e).1];exact e
def Le.sqt{K:ib}{U i:US}{H f:Hp}(l:Le U H i f){a:Addr}{xs:List V}(h:SqT K H a xs):SqT K f a xs:=by
 rcases h with(h|⟨o,h⟩)|h
 .exact .inl (.inl (l.tup _ _ h))
 .exact .inl (.inr ⟨o,l.frz _ _ _ h⟩)
 .exact .inr h
def Le.sqf{K:ib}{U i:US}{H f:Hp}(l:Le U H i f){a:Addr}{xs:List V}(h:SqF K H a xs):SqF K f a xs:=by
 rcases h with⟨o,h⟩|h
 .exact .inl ⟨o,l.frz _ _ _ h⟩
 .exact .inr h
section
variable{K:ib}{U U':US}{H H':Hp}
def RP.le(l:Le U H U' H'){x:PV}{y:V}(r:RP K U H x y):RP K U' H' x y :=
 RP.rec .non .bl .int .str (λs _ i=>.tup (l.sqt s) i) (λs _ i=>.frl (l.sqf s) i) (λe=>.loc (l.get e)) .nil (λ_ _ a b=>.cons a b) r
def RPs.le(l:Le U H U' H')(r:RPs K U H xs ys):RPs K U' H' xs ys:=by
 induction xs generalizing ys with
 |nil=>cases r;exact .nil
 |cons x xs f=>cases r with|cons a t=>exact .cons (a.le l) (f t)
def RPs.length(r:RPs K U H xs ys):xs.length=ys.length:=by
 induction xs generalizing ys with
 |nil=>cases r;rfl
 |cons x xs f=>cases r with|cons a t=>exact congrArg (·+1) (f t)
def RPs.get{xs:UL}{ys:List V}{i:Nat}{x:PV}(r:RPs K U H xs ys)(e:xs[i]?=J x):∃y,ys[i]?=J y/\RP K U H x y:=by
 induction xs generalizing ys i with
 |nil=>cases e
 |cons x xs f =>
  cases r with
  |cons a t =>
   cases i with
   |zero=>cases e;exact⟨_,rfl,a⟩
   |succ i=>have z:=@f _ i t e;exact z
def RPs.set(r:RP K U H x u)(i:Nat)(q:RPs K U H xs us):RPs K U H (xs.set i x) (us.set i u):=by
 induction xs generalizing us i with
 |nil=>cases q;exact .nil
 |cons x xs f =>
  cases q with
  |cons a t =>
   cases i with
   |zero=>exact .cons r t
   |succ i=>exact .cons a (f i t)
def RPs.append(r:RPs K U H xs us)(s:RPs K U H ys ws):RPs K U H (xs++ys) (us++ws):=by
 induction xs generalizing us with
 |nil=>cases r;exact s
 |cons x xs f=>cases r with|cons a t=>exact .cons a (f t)
def RPs.take(n:Nat)(r:RPs K U H xs us):RPs K U H (xs.take n) (us.take n):=by
 induction n generalizing xs us with
 |zero=>exact .nil
 |succ n f =>
  cases xs with
  |nil=>cases r;exact .nil
  |cons x xs=>cases r with|cons a t=>exact .cons a (f t)
def RPs.drop(n:Nat)(r:RPs K U H xs us):RPs K U H (xs.drop n) (us.drop n):=by
 induction n generalizing xs us with
 |zero=>exact r
 |succ n f =>
  cases xs with
  |nil=>cases r;exact .nil
  |cons x xs=>cases r with|cons a t=>exact f t
def RPs.ints:∀(ns:UN),RPs K U H (ns.map PV.int) (ns.map V.int)
 |[]=>.nil
 |n::r=>.cons (.int n) (RPs.ints r)
end
def L9(a C:Addr)(h:Heap):Prop:=∃o f,h.get? a=J o/\o.cls=.ref C/\o.data=.fields f
abbrev DO:=Str->UV
def QN(x:UN×Addr×Value):DictEntry:=⟨reduceHash (Builtin.Tuple.tupleHashOf (x.1.map hashInt)),.ref x.2.1,x.2.2⟩
def DT(a:Addr)(bs:List (UN×Addr×Value))(h:Heap):Prop :=
 ∃o f i,h.get? a=J o/\o.ExactDict/\o.data=.dict f i/\f.toList=bs.map QN/\(bs.map (·.1)).Nodup/\(a==sysModules)=T/\bs.length<=sizeLine
def qW{a:Addr}{bs:List (UN×Addr×Value)}:∀f i:Heap,DT a bs f->(∀o,f.get? a=J o->i.get? a=J o)->DT a bs i :=
 λ_ _ ⟨o,l,u,j,r⟩ k=>⟨o,l,u,k o j,r⟩
inductive DR(K:ib)(U:US)(H:Hp)(a:Addr)(ks:UP)(xs:UL)(oh:Option HO):Prop
 |mk(bs:List (UN×Addr×Value))(ys:List V)(e:ks=bs.map (·.1))(kr:∀x∈bs,SqT K H x.2.1 (x.1.map V.int))(vs:aB ys (bs.map (·.2.2)))(r:RPs K U H xs ys)(o:oh=J (.ext (DT a bs)))
def DR.le{K:ib}{U j:US}{H u:Hp}{a:Addr}{i:UP}{xs:UL}{f:Option HO}(l:Le U H j u)(r:DR K U H a i xs f):DR K j u a i xs f:=by obtain⟨bs,ys,e,z,y,r,o⟩:=r;exact⟨bs,ys,e,λx B=>l.sqt (z x B),y,r.le l,o⟩
def RO(K:ib)(mg:DO)(U:US)(H:Hp)(a:Addr):MO->Option HO->Prop
 |.lst xs,f=>∃ys,f=J (.lst ys)/\RPs K U H xs ys
 |.dic i xs,f=>DR K U H a i xs f
 |.exc x,f=>x.fs=[]/\∃C,mg x.cls=J (.ref C)/\f=J (.ext (L9 a C))
structure RH(K:ib)(mg:DO)(U:US)(H:Hp)(h:MH):Prop where
 len:U.length=h.length
 nd:U.Nodup
 at':∀(n:Nat)(a:Addr)(o:MO),U[n]?=J a->h[n]?=J o->RO K mg U H a o (H a)
def RO.le{K:ib}{mg:DO}{U i:US}{H j:Hp}{a:Addr}(l:Le U H i j){o:MO}{f:Option HO}(r:RO K mg U H a o f):RO K mg i j a o f:=by
 cases o with
 |lst xs=>obtain⟨ys,e,r⟩:=r;exact⟨ys,e,r.le l⟩
 |dic u xs=>exact DR.le l r
 |exc x=>exact r
def RO.some{K:ib}{mg:DO}{U:US}{H:Hp}{a:Addr}{o:MO}{f:Option HO}(r:RO K mg U H a o f):f≠Y:=by
 cases o with
 |lst xs=>obtain⟨ys,e,_⟩:=r;rw[e];simp
 |dic i xs=>obtain⟨_,_,_,_,_,_,e⟩:=r;rw[e];simp
 |exc x=>obtain⟨_,C,_,e⟩:=r;rw[e];simp
def RO.plain{K:ib}{mg:DO}{U:US}{H:Hp}{a:Addr}{o:MO}{f:Option HO}(r:RO K mg U H a o f):(∀xs,f≠Option.some (.tup xs))/\∀p u,f≠Option.some (.frz p u):=by
 cases o with
 |lst xs=>obtain⟨ys,e,_⟩:=r;rw[e];exact⟨(λ_ z=>nomatch z),(λ_ _ z=>nomatch z)⟩
 |dic i xs=>obtain⟨_,_,_,_,_,_,e⟩:=r;rw[e];exact⟨(λ_ z=>nomatch z),(λ_ _ z=>nomatch z)⟩
 |exc x=>obtain⟨_,C,_,e⟩:=r;rw[e];exact⟨(λ_ z=>nomatch z),(λ_ _ z=>nomatch z)⟩
section
variable{K:ib}{mg:DO}{U:US}{H:Hp}{h:MH}
def RH.obj(r:RH K mg U H h){n:Nat}{a:Addr}(e:U[n]?=J a):∃o,h[n]?=J o/\RO K mg U H a o (H a):=by
 have f:n<h.length:=by rw[<-r.len];exact(oI.mp e).1
 exact⟨h[n],by simp,r.at' n a _ e (by simp)⟩
def RH.new(r:RH K mg U H h){p:Addr}(B:H p=Y){o:MO}{ho:HO}(G:RO K mg U H p o (J ho)):RH K mg (U++[p]) (kg H p ho) (h++[o])/\Le U H (U++[p]) (kg H p ho):=by
 have f:∀n a,U[n]?=J a->a≠p:=λn a e z=>by
  obtain⟨E,_,q⟩:=r.obj e;rw[z,B]at q;exact q.some rfl
 have l:Le U H (U++[p]) (kg H p ho):=⟨⟨[p],rfl⟩,λa xs e=>by rw[aY (bR e B)];exact e,λa M u e=>by rw[aY (bR e B)];exact e⟩;refine⟨⟨by simp[r.len],?_,λn a E e1 e2=>?_⟩,l⟩
 .rw[Cj];refine⟨r.nd,by simp,λa F b L=>?_⟩;obtain⟨n,e⟩:=Bo.mp F;have j:b=p:=by simpa using L
  rw[j];exact f n a e
 .by_cases i:n<U.length
  .rw[qr i]at e1;rw[qr (by rw[<-r.len];exact i)]at e2;rw[aY (f n a e1)];exact(r.at' n a E e1 e2).le l
  .rw[Ch ⋯]at e1;rw[Ch (by rw[<-r.len];lia)]at e2;have y:n-U.length=0:=by
    grind
   rw[y]at e1;have C:n-h.length=0:=by have:=r.len;lia
   rw[C]at e2;simp at e1 e2;subst e1;subst e2;rw[bQ];exact G.le l
def RH.put(r:RH K mg U H h){n:Nat}{a:Addr}(e:U[n]?=J a){o:MO}{ho:HO}(F:RO K mg U H a o (J ho)):RH K mg U (kg H a ho) (h.set n o)/\Le U H U (kg H a ho):=by
 obtain⟨M,_,q⟩:=r.obj e;obtain⟨y,B⟩:=q.plain
 have l:Le U H U (kg H a ho):=⟨⟨[],by simp⟩,λb xs z=>by
   have:b≠a:=by rintro rfl;exact y _ z
   rw[aY this];exact z,λb P u z=>by
   have:b≠a:=by rintro rfl;exact B _ _ z
   rw[aY this];exact z⟩
 refine⟨⟨by simp[r.len],r.nd,λm b E e1 e2=>?_⟩,l⟩;by_cases f:m=n
 .subst f;rw[e]at e1;cases e1;rw[bQ]
  have:m<h.length:=by rw[<-r.len];exact(oI.mp e).1
  rw[xJ this]at e2;cases e2;exact F.le l
 .rw[nr (λz=>f z.symm)]at e2;have G:b≠a:=by
   rintro rfl;have j:=oI.mp e;have C:=oI.mp e1;obtain⟨Q,L⟩:=j;obtain⟨O,i⟩:=C;exact f ((List.getElem_inj r.nd).mp (i.trans L.symm))
  rw[aY G];exact(r.at' m b E e1 e2).le l
def RH.tup(r:RH K mg U H h){p:Addr}(f:H p=Y)(ys:List V):RH K mg U (kg H p (.tup ys)) h/\Le U H U (kg H p (.tup ys)):=by
 have i:∀n a,U[n]?=J a->a≠p:=λn a e z=>by
  obtain⟨j,_,q⟩:=r.obj e;rw[z,f]at q;exact q.some rfl
 have l:Le U H U (kg H p (.tup ys)):=⟨⟨[],by simp⟩,λa xs e=>by rw[aY (bR e f)];exact e,λa y u e=>by rw[aY (bR e f)];exact e⟩;exact⟨⟨r.len,r.nd,λn a o e1 e2=>by rw[aY (i n a e1)];exact(r.at' n a o e1 e2).le l⟩,l⟩
end
def RS(K:ib)(U:US)(H:Hp)(a:k_)(Z:L2.St):Prop :=
 Z.length=a.length/\∀(i:Nat)(v:PV),a[i]?=J (J v)->∃f,Z[i]?=J (J f)/\RP K U H v f
def RS.le{K:ib}{U f:US}{H j:Hp}{a:k_}{Z:L2.St}(l:Le U H f j)(r:RS K U H a Z):RS K f j a Z :=
 ⟨r.1,λi v e=>by obtain⟨u,y,q⟩:=r.2 i v e;exact⟨u,y,q.le l⟩⟩
def RS.set{K:ib}{U:US}{H:Hp}{a:k_}{Z:L2.St}(r:RS K U H a Z)(i:Nat){v:PV}{l:V}(q:RP K U H v l):RS K U H (a.set i (J v)) (Z.set i (J l)):=by
 refine⟨by simp[r.1],λj u e=>?_⟩;by_cases f:j=i
 .subst f;by_cases y:j<a.length
  .rw[xJ y]at e;cases e;exact⟨l,xJ (by rw[r.1];exact y),q⟩
  .rw[Dg (by simp;lia)]at e;cases e
 .rw[nr (λz=>f z.symm)]at e;obtain⟨B,C,E⟩:=r.2 j u e;exact⟨B,by rw[nr (λz=>f z.symm)];exact C,E⟩
def TZ(B:Heap)(fs:US)(h:Heap):Prop:=∀b o,h.get? b=J o->b∉fs->∃a,B.get? b=J a
def QO(l:List Env)(H:Hp)(a:Heap)(C f:Addr)(h:Heap):Prop :=
 ∃B t,Heap.FlyingW B l f (.ref C) (.ref t) h/\(∀b o,H b=J o->∃i,B.get? b=J i)/\TZ B (xN l) a/\H f=Y
structure F5(X:Cx)(h:Heap):Prop where
 old:∀b o,X.s₀.heap.get? b=J o->b∉X.ex->∃o',h.get? b=J o'
 cell:∀x c,X.env.cells.lookup x=J c->∃o,h.get? c=J o
 pin:∀p∈X.pn,∃o,h.get? p.1=J o
def Inv.bears{X:Cx}{j:UU}{Z:L2.St}{H:Hp}{s:Shared}(a:Inv X j Z H s):F5 X s.heap :=
 ⟨λb o e n=>a.base.there b o e n,λx c e=>let⟨_,o,f,_⟩:=a.cell x c e;⟨o,f⟩,λp i=>⟨_,(a.pin p (xg _ i)).1⟩⟩
def XP(X:Cx)(i:k_)(U:US)(H:Hp)(x:Cc)(h:MH):Prop:=∀(u C:Addr)(j:US)(f:Hp)(r:L2.St)(l:Shared)(a:Heap),x.fs=[]->X.mg x.cls=J (.ref C)->Le U H j f->RH X.K X.mg j f h->RS X.K j f i r ->
 Inv X [] r f l->F5 X a->QO X.stack f a C u l.heap->X.xe (.ref u) l
def XM(X:Cx)(i:k_)(U:US)(H:Hp)(x:Cc)(h:MH):Prop:=∀(y C:Addr)(j:US)(f:Hp)(u:L2.St)(l:Shared)(r:Heap)(a:UT),x.fs=[]->X.mg x.cls=J (.ref C)->Le U H j f->RH X.K X.mg j f h->RS X.K j f i u ->
 Inv X [] u f { l with heap:=r}->Heap.MadeExcOf r l.heap y (.ref C) a->X.xe (.ref y) l
def XP.le(l:Le U H U' H')(q:XP X σp U H x h):XP X σp U' H' x h :=
 λy C f r j u a e1 e2 i=>q y C f r j u a e1 e2 (l.trans i)
def XM.le(l:Le U H U' H')(q:XM X σp U H x h):XM X σp U' H' x h :=
 λz C i u r y f a e1 e2 j=>q z C i u r y f a e1 e2 (l.trans j)
abbrev Rl(α β:Type):=US->Hp->α->β->Prop
def Ful{α β:Type}(X:Cx)(R:Rl α β)(f:k_)(U:US)(H:Hp)(o:Out α)(Q:β->Hp->Prop):Prop:=match o with
 |.ok v j=>∀i a l,Le U H i a->RH X.K X.mg i a j->R i a v l->Q l a
 |.exc x j=>XP X f U H x j
 |.bad=>False
def iH{α β:Type}(X:Cx)(R:Rl α β)(U:US)(H:Hp)(o:Out α)(Q:β->Hp->Prop):Prop:=match o with
 |.ok v j=>∀f a i,Le U H f a->RH X.K X.mg f a j->R f a v i->Q i a
 |_=>False
def Ful.zero(f:Ful X R σp U H o.ne Q):iH X R U H o Q:=by
 cases o with
 |ok v h=>exact f
 |exc x h=>exact f
 |bad=>exact f
def Ful.le(l:Le U H U1 H1)(f:Ful X R σp U H o Q):Ful X R σp U1 H1 o Q:=by
 cases o with
 |ok v h=>exact λi r j a=>f i r j (l.trans a)
 |exc x h=>exact XP.le l f
 |bad=>exact f
def Ful.bind{α β γ δ:Type}{X:Cx}{R:Rl α β}{S:Rl γ δ}{a:k_}{U:US}{H:Hp}{o:Out α}{f:α->MH->Out γ}{Q:δ->Hp->Prop}{z:β->Hp->Prop}(q:Ful X S a U H (o.bind f) Q)(k:∀j i v u y,o=.ok v y->Le U H j i->RH X.K X.mg j i y->R j i v u->Ful X S a j i (f v y) Q->z u i):Ful X R a U H o z:=by
 cases o with
 |ok v h=>exact λB C u l r w=>k B C v u h rfl l r w (Ful.le l q)
 |exc x h=>exact q
 |bad=>exact q
abbrev RV'(X:Cx):Rl PV V:=λU H=>RP X.K U H
abbrev RVs'(X:Cx):Rl (UL) (List V):=λU H=>RPs X.K U H
abbrev L_{α:Type}:Rl α α:=λ_ _ x y=>x=y
abbrev Mx(α:Type):=k_->MH->Out α
inductive tM{α β:Type}(X:Cx)(R:Rl α β)(m:Mx α)(Z:L2.St)(H:Hp)(Q:β->Hp->Prop):Prop
 |mk(U:US)(σp:k_)(h:MH)(rs:RS X.K U H σp Z)(rh:RH X.K X.mg U H h)(q:Ful X R σp U H (m σp h) Q):tM X R m Z H Q
def ME(X:Cx)(e:Expr)(m:Mx PV):Prop:=PE X e (tM X (RV' X) m)
def MT(X:Cx)(e:Expr)(m:Mx Bool):Prop:=PT X e (tM X L_ m)
def MW(X:Cx)(e:Expr)(m:Mx Bool):Prop:=PW X e (tM X L_ m)
def MA(X:Cx)(a:UX)(m:Mx (UL)):Prop:=PA X a (tM X (RVs' X) m)
def PE.imp(h:PE X e t)(i:∀Z H Q,t' Z H Q->t Z H Q):PE X e t':=λf s Z H Q a q=>h f s Z H Q a (i Z H Q q)
def PT.imp(h:PT X e t)(i:∀Z H Q,t' Z H Q->t Z H Q):PT X e t':=λf s Z H Q a q=>h f s Z H Q a (i Z H Q q)
def PW.imp(h:PW X e t)(i:∀Z H Q,t' Z H Q->t Z H Q):PW X e t':=λa j s Z H Q f q=>h a j s Z H Q f (i Z H Q q)
def PA.imp(h:PA X e t)(i:∀Z H Q,t' Z H Q->t Z H Q):PA X e t':=λa j s Z H Q f q=>h a j s Z H Q f (i Z H Q q)
def PS.imp(h:PS X e t)(i:∀D Z H,t' D Z H->t D Z H):PS X e t':=λf s Z H D a q=>h f s Z H D a (i D Z H q)
def PSs.imp(h:PSs X e t)(i:∀D Z H,t' D Z H->t D Z H):PSs X e t':=λf s Z H D a q=>h f s Z H D a (i D Z H q)
def bK(X:Cx)(U:US)(H:Hp)(o:SOut)(D:Ends):Prop:=match o with
 |.nx f j=>∀i a l,Le U H i a->RH X.K X.mg i a j->RS X.K i a f l->D.nx l a
 |.bk f j=>∀i a l,Le U H i a->RH X.K X.mg i a j->RS X.K i a f l->D.bk l a
 |.ct f j=>∀i a l,Le U H i a->RH X.K X.mg i a j->RS X.K i a f l->D.ct l a
 |.rt v j=>∀i a r,Le U H i a->RH X.K X.mg i a j->RP X.K i a v r->D.rt r a
 |.exc x f j=>XP X f U H x j
 |.rse x f j=>XM X f U H x j
 |.bad=>False
def bK.le(l:Le U H U1 H1)(f:bK X U H o D):bK X U1 H1 o D:=by
 cases o with
 |nx a h=>exact λj u r i=>f j u r (l.trans i)
 |bk a h=>exact λj u r i=>f j u r (l.trans i)
 |ct a h=>exact λj u r i=>f j u r (l.trans i)
 |rt v h=>exact λj u r i=>f j u r (l.trans i)
 |exc x a h=>exact XP.le l f
 |rse x a h=>exact XM.le l f
 |bad=>exact f
abbrev lg:=k_->MH->SOut
inductive ON(X:Cx)(m:lg)(D:Ends)(Z:L2.St)(H:Hp):Prop
 |mk(U:US)(σp:k_)(h:MH)(rs:RS X.K U H σp Z)(rh:RH X.K X.mg U H h)(q:bK X U H (m σp h) D):ON X m D Z H
def MS(X:Cx)(st:Stmt)(m:lg):Prop:=PS X st (ON X m)
def Bq(X:Cx)(st:List Stmt)(m:lg):Prop:=PSs X st (ON X m)
section
variable{X:Cx}{N W G:UM}{k:Nat}
structure Good(X:Cx)(N W G:UM)(k:Nat):Prop where
 hN:X.N=N
 nd:N.Nodup
 loc:∀x∈N,Loc X.env.scope x
 fn:∀x∈W,X.fn x=I\/X.env.scope.names.lookup x=J .local
 gl:∀x∈G,Gl X x
 dbg:∀x∈N++G,(x==("__debug__":Str))=T/\(x==("__classdict__":Str))=T/\x≠"__name__"
 calm:X.calm=I
 room:Room k X.A
 po:PassesOwn (model X.prog X.w) X.A X.env X.xe
def Good.x(g:Good X N W G k){i:Nat}{x:Str}(a:N[i]?=J x):X.N[i]?=J x:=by rw[g.hN];exact a
def aL{l:UM}{i:Nat}{x:Str}(a:l[i]?=J x):x∈l:=Ci a
def rJ(X:Cx)(g:PV->PV->MH->UZ):R2:=λf a H Q=>∃U h x y,RH X.K X.mg U H h/\RP X.K U H x f/\RP X.K U H y a/\iH X (RV' X) U H (g x y h) Q
abbrev xk(X:Cx)(f:Value->Value->Sem Value)(g:PV->PV->MH->UZ):Prop:=OpR X f (rJ X g)
def uJ(X:Cx)(g:PV->MH->UZ):V->Hp->VK->Prop:=λa H Q=>∃U h x,RH X.K X.mg U H h/\RP X.K U H x a/\iH X (RV' X) U H (g x h) Q
abbrev SG(X:Cx)(f:Value->Sem Value)(g:PV->MH->UZ):Prop:=OL X f (uJ X g)
def cJ(X:Cx)(g:UL->MH->UZ):List V->Hp->VK->Prop:=λa H Q=>∃U h xs,RH X.K X.mg U H h/\RPs X.K U H xs a/\iH X (RV' X) U H (g xs h) Q
abbrev cU(X:Cx)(f:Value)(g:UL->MH->UZ):Prop:=cS X f (cJ X g)
def ae(i:Nat):Mx PV:=λZ h=>match Z[i]? with
 |some (J v)=>.ok v h
 |_=>.bad
def mC(v:PV):Mx PV:=λ_ h=>.ok v h
def yk(g:Good X N W G k)(i:Nat){x:Str}{j:Pos}(l:N[i]?=J x):ME X (.Name x j) (ae i):=by
 have d:=g.dbg x (xg _ (aL l));have hv:OI X.env.scope x:=by
  rcases g.loc x (aL l)with q|q
  .exact .inl q
  .exact .inr (.inl q)
 refine PE.imp (G5 (g.x l) hv d.1 d.2.1) λZ H Q ⟨U,a,h,z,B,f⟩=>?_;unfold ae at f
 cases e:a[i]? with
 |none=>rw[e]at f;exact f.elim
 |some o =>
  rw[e]at f
  cases o with
  |none=>exact f.elim
  |some v =>
   obtain⟨u,y,r⟩:=z.2 i v e;exact⟨u,y,f U H u (Le.refl _ _) B r⟩
def ao:ME X (.Constant (.int i) j pos) (mC (.int i)):=PE.imp G6 λ_ H _ ⟨U,_,_,_,a,f⟩=>f U H _ (Le.refl _ _) a (.int i)
def HM:ME X (.Constant (.str i) j pos) (mC (.str i)):=PE.imp G8 λ_ H _ ⟨U,_,_,_,a,f⟩=>f U H _ (Le.refl _ _) a (.str i)
def oB:ME X (.Constant (.bool i) j pos) (mC (.bl i)):=PE.imp Lu λ_ H _ ⟨U,_,_,_,a,f⟩=>f U H _ (Le.refl _ _) a (.bl i)
def HN:ME X (.Constant .none j pos) (mC .non):=PE.imp G7 λ_ H _ ⟨U,_,_,_,a,f⟩=>f U H _ (Le.refl _ _) a .non
def ah(f:PV->PV->MH->UZ)(a l:Mx PV):Mx PV:=λZ h=>(a Z h).bind λx i=>(l Z i).bind λy j=>(f x y j).ne
def OO(f:PV->MH->UZ)(a:Mx PV):Mx PV:=λZ h=>(a Z h).bind λx i=>(f x i).ne
def ug{f:PV->PV->MH->UZ}{r l:Mx PV}{Z:L2.St}{H:Hp}{Q:VK}(q:tM X (RV' X) (ah f r l) Z H Q):LJ (rJ X f) (tM X (RV' X) r) (tM X (RV' X) l) Z H Q:=by obtain⟨U,a,h,u,R,q⟩:=q;refine⟨U,a,h,u,R,Ful.bind q λz H1 x x' B _ P j S C=>?_⟩;refine⟨z,a,B,u.le P,j,Ful.bind C λO H2 y y' L _ M i F E=>?_⟩;exact⟨O,L,x,y,i,S.le M,F,E.zero⟩
def aH(i:xk X (binaryOp op) f)(l:ME X a ma)(j:ME X b mb):ME X (.BinOp a op b pos) (ah f ma mb) :=
 PE.imp (LK i l j) λ_ _ _ q=>ug q
def Ma(r:SG X (unaryOp op) f)(C:ME X a ma):ME X (.UnaryOp op a pos) (OO f ma) :=
 PE.imp (LL r C) λ_ _ _ ⟨U,i,h,l,y,q⟩=>⟨U,i,h,l,y,Ful.bind q λu F x L z _ H j E B=>⟨u,z,x,j,E,B.zero⟩⟩
def HP(i:xk X (compareOp op) f)(r:ME X a ma)(j:ME X b mb)(l:behindInMarks op b=T):ME X (.Compare a [op] [b] pos) (ah f ma mb) :=
 PE.imp (DB i r j l) λ_ _ _ q=>ug q
def mB(m:Mx PV):Mx Bool:=λZ h=>(m Z h).bind λv a=>match v with
 |.bl b=>.ok b a
 |_=>.bad
def Mb(q:tM X L_ (mB m) Z H Q):tM X (RV' X) m Z H λx f=>∃c,x=.bl c/\Q c f:=by
 obtain⟨U,i,h,r,u,q⟩:=q;refine⟨U,i,h,r,u,Ful.bind q λl f x B z _ C a y j=>?_⟩
 cases y with
 |bl b=>exact⟨b,rfl,j l f b (Le.refl _ _) a rfl⟩
 |_=>exact j.elim
def yI(l:xk X (compareOp op) f)(z:ME X a ma)(u:ME X b mb)(y:behindInMarks op b=T):MT X (.Compare a [op] [b] pos) (mB (ah f ma mb)) :=
 PT.imp (DC l z u y) λZ H Q q=>by
  obtain⟨U,i,h,j,r,q⟩:=Mb q;exact ug ⟨U,i,h,j,r,q⟩
def HQ(h:ME X e m)(f:∀a,isTrue e X.env a=(do let v <-a;standAt e.pos;holding [v] (truthy v)):=by intro _;rfl):MT X e (mB m) :=
 PT.imp (G9 h f) λ_ _ _ q=>Mb q
def HR(m:Mx Bool):Mx Bool:=λZ h=>(m Z h).bind λb a=>.ok (!b) a
def HU(h:MT X e m):MT X (.UnaryOp .Not e pos) (HR m) :=
 PT.imp (Hb h) λ_ _ _ ⟨U,a,h,i,r,q⟩=>⟨U,a,h,i,r,Ful.bind q λj l x B C _ z f y u=>by
  cases y;exact u j l _ (Le.refl _ _) f rfl⟩
def DP(a b:Mx Bool):Mx Bool:=λZ h=>(a Z h).bind λx f=>if x=I then b Z f else .ok T f
def OP(a b:Mx Bool):Mx Bool:=λZ h=>(a Z h).bind λx f=>if x=I then .ok I f else b Z f
section
variable{a b:Expr}{rest:UX}{ma mb:Mx Bool}{pos:Pos}
def vm(f:MT X a ma):MW X (.BoolOp .And [a] pos) ma:=Ds f
def yn(f:MT X a ma):MW X (.BoolOp .Or [a] pos) ma:=G_ f
def zS(z:MT X a ma)(E:MW X (.BoolOp .And (b::rest) pos) mb):MW X (.BoolOp .And (a::b::rest) pos) (DP ma mb) :=
 PW.imp (Ha z E) λZ H Q ⟨U,i,h,r,C,q⟩=>⟨U,i,h,r,C,Ful.bind q λj y x L u _ B f F l=>by
  cases F
  cases x with
  |true=>exact⟨j,i,u,r.le B,f,l⟩
  |false=>exact l j y _ (Le.refl _ _) f rfl⟩
def F6(z:MT X a ma)(E:MW X (.BoolOp .Or (b::rest) pos) mb):MW X (.BoolOp .Or (a::b::rest) pos) (OP ma mb) :=
 PW.imp (Lv z E) λZ H Q ⟨U,i,h,r,C,q⟩=>⟨U,i,h,r,C,Ful.bind q λj y x L u _ B f F l=>by
  cases F
  cases x with
  |true=>exact l j y _ (Le.refl _ _) f rfl
  |false=>exact⟨j,i,u,r.le B,f,l⟩⟩
def MW.mt(h:MW X e m):MT X e m:=PW.pt h
end
def xu(a b:Mx PV):Mx PV:=λZ h=>(a Z h).bind λx f=>match x with
 |.bl c=>if c=I then b Z f else .ok (.bl T) f
 |_=>.bad
def wP(a:Mx PV):Mx PV:=λZ h=>(a Z h).bind λx f=>match x with
 |.bl c=>.ok (.bl (!c)) f
 |_=>.bad
section
variable{a b:Expr}{rest:UX}{ma mb:Mx PV}{pos:Pos}
def HV(f:ME X a ma):ME X (.BoolOp op [a] pos) ma:=Hc f
def HW(z:ME X a ma)(E:ME X (.BoolOp .And (b::rest) pos) mb):ME X (.BoolOp .And (a::b::rest) pos) (xu ma mb) :=
 PE.imp (Hd z E) λZ H Q ⟨U,i,h,r,C,q⟩=>⟨U,i,h,r,C,Ful.bind q λl y x L u _ B f F j=>by
  cases F with
  |bl c =>
   refine⟨c,rfl,?_⟩
   cases c with
   |true=>exact⟨l,i,u,r.le B,f,j⟩
   |false=>exact j l y _ (Le.refl _ _) f (.bl T)
  |_=>exact j.elim⟩
def HX(u:ME X a ma):ME X (.UnaryOp .Not a pos) (wP ma) :=
 PE.imp (He u) λZ H Q ⟨U,i,h,y,z,q⟩=>⟨U,i,h,y,z,Ful.bind q λl r x E C _ F f B j=>by
  cases B with
  |bl c=>exact⟨c,rfl,j l r _ (Le.refl _ _) f (.bl _)⟩
  |_=>exact j.elim⟩
end
def h8:Mx (UL):=λ_ h=>.ok [] h
def af(a:Mx PV)(r:Mx (UL)):Mx (UL):=λZ h=>(a Z h).bind λx f=>(r Z f).bind λxs i=>.ok (x::xs) i
def aS:MA X [] h8:=PA.imp jx λZ H Q ⟨U,a,h,i,f,q⟩=>q U H _ (Le.refl _ _) f .nil
def aw(F:ME X e m)(E:MA X es ms)(C:starEach (e::es) X.env=(T,eval e X.env)::starEach es X.env:=by rfl):MA X (e::es) (af m ms) :=
 PA.imp (fX F E C) λZ H Q ⟨U,a,h,j,R,q⟩=>⟨U,a,h,j,R,Ful.bind q λl H1 x x' r _ P i S u =>
  ⟨l,a,r,j.le P,i,Ful.bind u λO M y y' h2 _ L f B z=>z O M _ (Le.refl _ _) f (.cons (S.le L) B)⟩⟩
def pe(xs:UL)(h:MH):UZ:=if xs.length<=sizeLine then .ok (.loc h.length) (h++[.lst xs])else .bad
def r_(xs:UL)(h:MH):UZ:=if xs.length<=sizeLine then .ok (.tup xs) h else .bad
def lr{U:US}{H:Hp}{h:MH}{xs:UL}{ys:List V}{Q:VK}(i:RH X.K X.mg U H h)(a:RPs X.K U H xs ys)(f:iH X (RV' X) U H (pe xs h) Q):ys.length<=sizeLine/\∀p,H p=Y->Q (.ref p) (kg H p (.lst ys)):=by
 unfold pe at f
 split at f
 .rename_i r
  refine⟨by rw[<-a.length];exact r,λp u=>?_⟩;obtain⟨j,l⟩:=i.new u (o:=.lst xs) ⟨ys,rfl,a⟩;refine f _ _ _ l j (.loc ?_);rw[<-i.len];simp
 .exact f.elim
def wc{U:US}{H:Hp}{h:MH}{xs:UL}{ys:List V}{Q:VK}(l:RH X.K X.mg U H h)(a:RPs X.K U H xs ys)(f:iH X (RV' X) U H (r_ xs h) Q):ys.length<=sizeLine/\∀p,H p=Y->Q (.ref p) (kg H p (.tup ys)):=by
 unfold r_ at f
 split at f
 .rename_i r
  refine⟨by rw[<-a.length];exact r,λp u=>?_⟩;obtain⟨j,i⟩:=l.tup u ys;exact f _ _ _ i j (.tup (.inl (.inl bQ)) (a.le i))
 .exact f.elim
def HY{a:k_}{U:US}{H:Hp}{h:MH}{xs:UL}{Q:VK}(f:Ful X (RV' X) a U H (pe xs h) Q):iH X (RV' X) U H (pe xs h) Q:=by
 unfold pe at f ⊢
 split at f
 .rw[b_ (by assumption)];exact f
 .exact f.elim
def HZ{a:k_}{U:US}{H:Hp}{h:MH}{xs:UL}{Q:VK}(f:Ful X (RV' X) a U H (r_ xs h) Q):iH X (RV' X) U H (r_ xs h) Q:=by
 unfold r_ at f ⊢
 split at f
 .rw[b_ (by assumption)];exact f
 .exact f.elim
def eX(m:Mx (UL)):Mx PV:=λZ h=>(m Z h).bind pe
def iA(m:Mx (UL)):Mx PV:=λZ h=>(m Z h).bind r_
def yi(h:MA X es ms):ME X (.List es pos) (eX ms) :=
 PE.imp (Hw h) λZ H Q ⟨U,f,h,j,l,q⟩=>⟨U,f,h,j,l,Ful.bind q λu z x B y _ C a r i=>lr a r (HY i)⟩
def H_(h:MA X es ms):ME X (.Tuple es j pos) (iA ms) :=
 PE.imp (Hv h) λZ H Q ⟨U,f,h,l,r,q⟩=>⟨U,f,h,l,r,Ful.bind q λy B x C z _ E a u i=>wc a u (HZ i)⟩
def SOut.then(o:SOut)(k:lg):SOut:=match o with
 |.nx Z h=>k Z h
 |o=>o
def aZ(a b:lg):lg:=λZ h=>(a Z h).then b
def kw:lg:=λZ h=>.nx Z h
def dH:Bq X [] kw:=PSs.imp Dt λD Z H ⟨U,a,h,f,i,q⟩=>q U H Z (Le.refl _ _) i f
def DQ{st:Stmt}{m:lg}(h:MS X st m):Bq X [st] m:=Du h
def bK.then{U:US}{H:Hp}{o:SOut}{k:lg}{D:Ends}(q:bK X U H (o.then k) D):bK X U H o { D with nx:=λZ H=>ON X k D Z H}:=by
 cases o with
 |nx a h=>exact λf j i l r s=>⟨f,a,h,s,r,bK.le l q⟩
 |_=>exact q
def BH{st:Stmt}{a:List Stmt}{m u:lg}(l:MS X st m)(r:Bq X a u):Bq X (st::a) (aZ m u) :=
 PSs.imp (AC l r) λD Z H ⟨U,f,h,i,j,q⟩=>⟨U,f,h,i,j,bK.then q⟩
def bP(m:Mx PV):lg:=λZ h=>match m Z h with
 |.ok v a=>.rt v a
 |.exc x a=>.exc x Z a
 |.bad=>.bad
def Ia(i:ME X e m):MS X (.Return (J e) pos) (bP m) :=
 PS.imp (Hf i) λD Z H ⟨U,a,h,f,j,q⟩=>⟨U,a,h,f,j,by
  unfold bP at q
  cases e:m a h with
  |ok v l=>rw[e]at q;exact q
  |exc x l=>rw[e]at q;exact q
  |bad=>rw[e]at q;exact q⟩
def wH{α:Type}(m:Mx α)(k:α->lg):lg:=λZ h=>match m Z h with
 |.ok v a=>k v Z a
 |.exc x a=>.exc x Z a
 |.bad=>.bad
def bK.ex{α β:Type}{R:Rl α β}{m:Mx α}{k:α->lg}{U:US}{H:Hp}{a:k_}{h:MH}{D:Ends}{Q:β->Hp->Prop}(q:bK X U H (wH m k a h) D)(w:∀i f v j u,Le U H i f->RH X.K X.mg i f u->R i f v j->bK X i f (k v a u) D->Q j f):Ful X R a U H (m a h) Q:=by
 unfold wH at q
 cases e:m a h with
 |ok v y=>rw[e]at q;exact λi f j l r z=>w i f v j y l r z (bK.le l q)
 |exc x y=>rw[e]at q;exact q
 |bad=>rw[e]at q;exact q
def gZ(m:Mx PV):lg:=wH m λ_=>kw
def vL{e:Expr}{m:Mx PV}{a:Pos}(j:ME X e m)(B:swapsWith e Y a.line X.env=pure T:=by rfl):MS X (.Expr e a) (gZ m) :=
 PS.imp (Dv j B) λD Z H ⟨U,f,h,i,C,q⟩=>⟨U,f,h,i,C,bK.ex q λu y v F E l r z w=>w u y Z (Le.refl _ _) r (i.le l)⟩
def BN(c:Mx Bool)(a b:lg):lg:=wH c λx=>if x=I then a else b
def fi{c:Expr}{a b:List Stmt}{E:Mx Bool}{C B:lg}{j:Pos}(O:MT X c E)(F:Bq X a C)(M:Bq X b B):MS X (.If c a b j) (BN E C B) :=
 PS.imp (LA O F M) λD Z H ⟨U,f,h,i,L,q⟩=>⟨U,f,h,i,L,bK.ex q λu P v Q y l r z w=>by
  cases z
  cases v with
  |true=>exact⟨u,f,y,i.le l,r,w⟩
  |false=>exact⟨u,f,y,i.le l,r,w⟩⟩
def bp(i:Nat)(m:Mx PV):lg:=wH m λv Z h=>.nx (Z.set i (J v)) h
def lm(g:Good X N W G k)(i:Nat){x:Str}{e:Expr}{m:Mx PV}{f a:Pos}(y:N[i]?=J x)(M:W[i]?=J x)(B:ME X e m)(F:swapsWith e (J (.Name x a)) f.line X.env=pure T:=by rfl):
  MS X (.Assign [.Name x a] e f) (bp i m):=by
 refine PS.imp (Hj (by rw[g.hN];exact g.nd) (g.x y) (g.loc x (aL y)) B F (g.fn x (aL M))) λD Z H ⟨U,j,h,u,L,q⟩=>?_;exact⟨U,j,h,u,L,bK.ex q λC E v P O l r z w=>w C E _ (Le.refl _ _) r ((u.le l).set i z)⟩
end
section
variable{X:Cx}{N W G:UM}{k:Nat}
abbrev Mg:=PV->lg
def m9(X:Cx)(U:US)(H:Hp)(o:SOut)(Q:L2.St->Hp->Prop):Prop:=match o with
 |.nx a j=>∀i f l,Le U H i f->RH X.K X.mg i f j->RS X.K i f a l->Q l f
 |.exc x a j=>XP X a U H x j
 |_=>False
def m9.le(l:Le U H U1 H1)(f:m9 X U H o Q):m9 X U1 H1 o Q:=by
 cases o with
 |nx a h=>exact λj u r i=>f j u r (l.trans i)
 |exc x a h=>exact XP.le l f
 |_=>exact f
inductive tG(X:Cx)(g:Mg)(v':V)(Z:L2.St)(H:Hp)(Q:L2.St->Hp->Prop):Prop
 |mk(U:US)(σp:k_)(h:MH)(v:PV)(rs:RS X.K U H σp Z)(rh:RH X.K X.mg U H h)(rv:RP X.K U H v v')(q:m9 X U H (g v σp h) Q):tG X g v' Z H Q
def MG(X:Cx)(a:Expr)(g:Mg):Prop:=PG X a (tG X g)
def PG.imp(h:PG X e t)(i:∀v Z H Q,t' v Z H Q->t v Z H Q):PG X e t':=λf s Z H v u Q a r q=>h f s Z H v u Q a r (i v Z H Q q)
def Cm(i:Nat):Mg:=λv Z h=>.nx (Z.set i (J v)) h
def wm(g:Good X N W G k)(i:Nat)(a:N[i]?=J x)(u:W[i]?=J x):MG X (.Name x pos) (Cm i) :=
 PG.imp (vA (by rw[g.hN];exact g.nd) (g.x a) (g.loc x (aL a)) (g.fn x (aL u))) λy Z H Q ⟨U,f,h,v,j,r,l,q⟩=>q U H _ (Le.refl _ _) r (j.set i l)
abbrev DU:=UL->lg
inductive SH(X:Cx)(g:DU)(v':List V)(Z:L2.St)(H:Hp)(Q:L2.St->Hp->Prop):Prop
 |mk(U:US)(σp:k_)(h:MH)(v:UL)(rs:RS X.K U H σp Z)(rh:RH X.K X.mg U H h)(rv:RPs X.K U H v v')(q:m9 X U H (g v σp h) Q):SH X g v' Z H Q
def Mc(X:Cx)(a:UX)(g:DU):Prop:=PGs X a (SH X g)
def PGs.imp(h:PGs X e t)(i:∀v Z H Q,t' v Z H Q->t v Z H Q):PGs X e t':=λf s Z H v u Q a r q=>h f s Z H v u Q a r (i v Z H Q q)
def QP:DU:=λa Z h=>match a with
 |[]=>.nx Z h
 |_=>.bad
def OQ(a:Mg)(r:DU):DU:=λf Z h=>match f with
 |v::i=>(a v Z h).then (r i)
 |[]=>.bad
def DV:Mc X [] QP:=PGs.imp Dw λl Z H Q ⟨U,a,h,v,f,j,i,q⟩=>by
 cases i with
 |nil=>exact⟨rfl,q U H Z (Le.refl _ _) j f⟩
 |cons _ _=>exact q.elim
def Ar(i:MG X e a)(B:Mc X es r)(u:(assignEach (e::es) X.env).map (·.2)=assign e X.env::(assignEach es X.env).map (·.2):=by rfl):Mc X (e::es) (OQ a r) :=
 PGs.imp (Aw i B u) λR Z H Q ⟨U,f,h,v,E,M,L,q⟩=>by
  cases L with
  |nil=>exact q.elim
  |@cons x y xs ys P z =>
   refine⟨_,_,rfl,U,f,h,x,E,M,P,?_⟩;dsimp only[OQ]at q
   cases e:a x f h with
   |nx O i=>rw[e]at q;exact λF S Z' l j C=>⟨F,O,i,xs,C,j,z.le l,m9.le l q⟩
   |_=>rw[e]at q;exact q
def OR(r:DU)(n:Nat):Mg:=λv Z h=>match v with
 |.tup xs=>if xs.length=n then r xs Z h else .bad
 |_=>.bad
def Ib(g:Good X N W G k){a:UX}{j:Nat}{r:DU}{n:Nat}{l:Pos}(h:Mc X a r)(y:(assignEach a X.env).length=n:=by rfl)(f:(assignEach a X.env).findIdx? (·.1)=Y:=by rfl):
  MG X (.Tuple a j l) (OR r n) :=
 PG.imp (Hh g.calm h y f) λF Z H Q ⟨U,i,h,v,z,C,B,q⟩=>by
  cases B with
  |tup s u =>
   dsimp only[OR]at q
   split at q
   .rename_i E
    exact⟨_,_,rfl,s,by rw[<-u.length];exact E,U,i,h,_,z,C,u,q⟩
   .exact q.elim
  |_=>exact q.elim
def mW(m:Mx PV)(g:Mg):lg:=wH m λv Z h=>match g v Z h with
 |.nx f a=>.nx f a
 |.exc x f a=>.exc x f a
 |_=>.bad
def nX{f e:Expr}{m:Mx PV}{g:Mg}{i:Pos}(y:ME X e m)(E:MG X f g)(C:swapsWithSole [f] e i.line X.env=pure T:=by rfl)(L:swappedStores [f] e X.env=pure Y:=by rfl)(j:(assignEach [f] X.env).map (·.2)=[assign f X.env]:=by rfl):MS X (.Assign [f] e i) (mW m g) :=
 PS.imp (Hi y E C L j) λD Z H ⟨U,a,h,u,F,q⟩=>⟨U,a,h,u,F,bK.ex q λB M v O j l r z w=>⟨B,a,j,v,u.le l,r,z,by
  cases e:g v a j with
  |_=>rw[e]at w;exact w⟩⟩
def sO(o i v:PV)(h:MH):Option MH:=match o,i with
 |.loc n,.int j=>(match h[n]? with
  |some (.lst xs)=>(wx xs.length j).map λp=>h.set n (.lst (xs.set p v))
  |_=>Y)
 |_,_=>Y
def Md(mo f:Mx PV):Mg:=λv=>wH mo λo=>wH f λi Z h=>match sO o i v h with
 |some a=>.nx Z a
 |none=>.bad
def yq(ho:ME X o mo)(hi:ME X i mi)(ha:∀v,assign (.Subscript o i pos) X.env v=(do
   let r <-holding [v] (eval o X.env)
   let y <-holding [v,r] (eval i X.env)
   standAt pos
   holding [v,r,y] (setItem r y v)
   release [v,r,y] []):=by intro _;rfl):MG X (.Subscript o i pos) (Md mo mi) :=
 PG.imp (yR ho hi AJ ha) λv' Z H Q ⟨U,f,h,v,L,rh,rv,q⟩=>by
  refine⟨U,f,h,L,rh,?_⟩;unfold Md wH at q
  cases e:mo f h with
  |exc x C=>rw[e]at q;exact q
  |bad=>rw[e]at q;exact q
  |ok r C =>
   rw[e]at q;intro S H1 o' u B ro;refine⟨S,f,C,L.le u,B,?_⟩;dsimp only at q
   cases e2:mi f C with
   |exc x h2=>rw[e2]at q;exact XP.le u q
   |bad=>rw[e2]at q;exact q
   |ok y h2 =>
    rw[e2]at q;intro U2 H2 i' z l ri;have F:=ro.le z;have O:=(rv.le u).le z;unfold sO at q
    cases F with
    |@loc n a P =>
     cases ri with
     |int j =>
      dsimp only at q;obtain⟨ob,eo,M⟩:=l.obj P;rw[eo]at q
      cases ob with
      |dic al=>exact q.elim
      |exc x=>exact q.elim
      |lst xs =>
       obtain⟨ys,ey,R⟩:=M;dsimp only at q
       cases E:wx xs.length j with
       |none=>rw[E]at q;exact q.elim
       |some p =>
        rw[E]at q;refine⟨a,ys,j,p,rfl,rfl,ey,by rw[<-R.length];exact E,?_⟩;obtain⟨r3,l3⟩:=l.put P (o:=.lst (xs.set p v)) ⟨_,rfl,RPs.set O p R⟩;exact q U2 _ Z (u.trans (z.trans l3)) r3 (L.le (u.trans (z.trans l3)))
     |_=>exact q.elim
    |_=>exact q.elim
structure MIt where
 xs:UL
 gd:List (Nat×UL):=[]
def MIt.ok(a:MIt)(h:MH):Prop:=∀p∈a.gd,h[p.1]?=J (.lst p.2)
def tF(X:Cx):Rl MIt It:=λy u f a=>∀U H h (i:Nat),Le y u U H->RH X.K X.mg U H h->f.ok h ->
 (i<f.xs.length->a.go i H/\∀r j,a.yld i H r j->∃l x,Le U H l j/\RH X.K X.mg l j h/\f.xs[i]?=J x/\RP X.K l j x r)/\(f.xs.length<=i->a.stop i H)
def MI(X:Cx)(f a:Expr)(m:Mx MIt):Prop:=PI X f a (tM X (tF X) m)
def PI.imp(h:PI X tg e t)(i:∀Z H Q,t' Z H Q->t Z H Q):PI X tg e t':=λf s Z H Q a q=>h f s Z H Q a (i Z H Q q)
def xm(i:MIt)(g:Mg)(b:lg):UL->lg
 |[]=>λZ h=>if i.ok h then .nx Z h else .bad
 |x::r=>λZ h=>if i.ok h then (match g x Z h with
   |.nx l j=>(match b l j with
    |.nx f a=>xm i g b r f a
    |.ct f a=>xm i g b r f a
    |.bk f a=>.nx f a
    |.rt v a=>.rt v a
    |.exc e f a=>.exc e f a
    |.rse e f a=>.rse e f a
    |.bad=>.bad)
   |.exc e l j=>.exc e l j
   |_=>.bad)else .bad
def mK(f:Mx MIt)(g:Mg)(b:lg):lg:=wH f λa=>xm a g b a.xs
def zr(gd:Good X N W G k)(hi:MI X tg iter mi)(hg:MG X tg g)(hb:Bq X body mb)(hs:∀x,foldedSetIterable iter X.env x=pure x:=by intro _;rfl):MS X (.For tg iter body [] pos) (mK mi g mb):=by
 refine PS.imp (Hm gd.po gd.calm hi hg hb hs) λD Z H ⟨U,l,h,rs,rh,q⟩=>⟨U,l,h,rs,rh,bK.ex q λS H1 f as h1 l1 an jr w=>?_⟩;refine⟨λi m Z H=>m=f.xs.length-i/\i<=f.xs.length/\∃U l h,Le S H1 U H/\RS X.K U H l Z/\RH X.K X.mg U H h/\bK X U H (xm f g mb (f.xs.drop i) l h) D,⟨_,rfl,wl _,S,l,h1,Le.refl _ _,rs.le l1,an,w⟩,?_⟩;rintro i m Z2 H2 ⟨rfl,hi,U2,C,Q,l2,M,E,r⟩;by_cases u:i<f.xs.length
 .have ed:f.xs.drop i=f.xs[i]::f.xs.drop (i+1):=C2 u;rw[ed]at r;unfold xm at r
  split at r
  .rename_i hok
   obtain⟨j1,j2⟩:=jr U2 H2 Q i l2 E hok;obtain⟨go,yl⟩:=j1 u;refine .inr ⟨go,λZ3 O=>∃R B h3,Le S H1 R O/\RS X.K R O B Z3/\RH X.K X.mg R O h3/\bK X R O (xm f g mb (f.xs.drop (i+1)) B h3) D,λZ3 O z=>⟨_,by ext,rfl,u,z⟩,λx' H' y=>?_⟩;obtain⟨U',x,l',al,ex,rx⟩:=yl x' H' y;have ap:x=f.xs[i]:=by rw[zb u]at ex;exact(Option.some.inj ex).symm
   subst ap;refine⟨U',C,Q,_,M.le l',al,rx,?_⟩;have j:=bK.le l' r
   cases eg:g f.xs[i] C Q with
   |nx Z4 h4 =>
    rw[eg]at j;intro U5 H5 Z5 l5 r5 s5;refine⟨U5,Z4,h4,s5,r5,?_⟩;have a:=bK.le l5 j;have l6:Le S H1 U5 H5:=l2.trans (l'.trans l5);dsimp only at a
    cases em:mb Z4 h4 with
    |nx L F=>rw[em]at a;exact λU7 H7 Z7 P r7 s7=>⟨U7,L,F,l6.trans P,s7,r7,bK.le P a⟩
    |ct L F=>rw[em]at a;exact λU7 H7 Z7 P r7 s7=>⟨U7,L,F,l6.trans P,s7,r7,bK.le P a⟩
    |bk L F=>rw[em]at a;exact a
    |rt v F=>rw[em]at a;exact a
    |exc e L F=>rw[em]at a;exact a
    |rse e L F=>rw[em]at a;exact a
    |bad=>rw[em]at a;exact a
   |exc e Z4 h4=>rw[eg]at j;exact j
   |_=>rw[eg]at j;exact j.elim
  .exact r.elim
 .have e:i=f.xs.length:=by ext
  rw[e,GW]at r;unfold xm at r
  split at r
  .rename_i hok
   obtain⟨j1,j2⟩:=jr U2 H2 Q i l2 E hok;exact .inl ⟨j2 (by ext),r U2 H2 Z2 (Le.refl _ _) E M⟩
  .exact r.elim
def F7(v:PV)(h:MH):Out MIt:=match v with
 |.loc n=>(match h[n]? with
  |some (.lst xs)=>.ok ⟨xs,[(n,xs)]⟩ h
  |_=>.bad)
 |.frl xs=>.ok ⟨xs,[]⟩ h
 |_=>.bad
def Me(m:Mx PV):Mx MIt:=λZ h=>(m Z h).bind F7
def vo(L:∀f j h,Le U H f j->RH X.K X.mg f j h->(⟨xs,gd⟩:MIt).ok h->∃ys,SqL X.K j a ys/\RPs X.K f j xs ys):tF X U H ⟨xs,gd⟩ (Qy X.K a):=by
 intro f j h i l F ok;obtain⟨ys,r,C⟩:=L f j h l F ok;refine⟨λu=>?_,λu=>⟨ys,r,by rw[<-C.length];exact u⟩⟩;have E:=zb u;obtain⟨y,B,M⟩:=C.get E;refine⟨⟨ys,y,r,B⟩,λO P ⟨e,z⟩=>?_⟩;subst e
 have:=z ys r
 rw[B]at this;cases this;exact⟨f,_,Le.refl _ _,F,E,M⟩
def DW(hl:ME X l m):MI X tg l (Me m) :=
 PI.imp (Dx hl) λZ H Q ⟨U,B,h,O,rh,q⟩=>⟨U,B,h,O,rh,Ful.bind q λE F x x' h1 _ l1 f rx i=>by
  cases rx with
  |@loc n a e =>
   obtain⟨R,M,C⟩:=f.obj e;dsimp only[F7]at i;rw[M]at i
   cases R with
   |dic al=>exact i.elim
   |exc x=>exact i.elim
   |lst xs =>
    obtain⟨ys,L,ry⟩:=C;refine⟨a,rfl,⟨ys,SqL.of L⟩,i E F _ (Le.refl _ _) f (vo λP S h' l j ok=>?_)⟩;obtain⟨y,z,u⟩:=j.at' n a _ (l.get e) (ok (n,xs) (by simp));exact⟨y,SqL.of z,u⟩
  |frl s r =>
   exact⟨_,rfl,⟨_,s.sq⟩,i E F _ (Le.refl _ _) f (vo λP S h' l j ok=>⟨_,(l.sqf s).sq,r.le l⟩)⟩
  |_=>exact i.elim⟩
def Mf(m:Mx PV):Mx MIt:=λZ h=>(m Z h).bind λv a=>match v with
 |.tup xs=>.ok ⟨xs,[]⟩ a
 |_=>.bad
def Ic(hl:ME X l m):MI X tg l (Mf m) :=
 PI.imp (Hl hl) λZ H Q ⟨U,u,h,S,rh,q⟩=>⟨U,u,h,S,rh,Ful.bind q λM O x x' h1 _ l1 f rx E=>by
  cases rx with
  |@tup xs a ys s r =>
   refine⟨_,rfl,⟨_,s⟩,E M O _ (Le.refl _ _) f ?_⟩;intro U' H' h' i l j ok;have B:=l.sqt s;have R:=r.le l;refine⟨λC=>?_,λC=>⟨ys,B,by rw[<-r.length];exact C⟩⟩;have L:=zb C;obtain⟨y,F,P⟩:=R.get L;refine⟨⟨ys,y,B,F⟩,λx' H2 ⟨e,z⟩=>?_⟩;subst e
   have:=z ys B
   rw[F]at this;cases this;exact⟨U',_,Le.refl _ _,j,L,P⟩
  |_=>exact E.elim⟩
def bz(lo:Int)(n:Nat):UL:=(List.range n).map λ(i:Nat)=>PV.int (lo+(i:Int))
def xV(lo:Int)(n:Nat):(bz lo n).length=n:=by simp[bz]
def DX(lo:Int)(n:Nat):tF X U H ⟨bz lo n,[]⟩ (OK lo n):=by intro j y h i l r ok;have f:=xV lo n;refine⟨λa=>⟨by rw[f]at a;exact a,λu z ⟨e1,e2⟩=>?_⟩,λa=>by rw[f]at a;exact a⟩;subst e1;subst e2;rw[f]at a;exact⟨j,.int (lo+i),Le.refl _ _,r,by simp[bz,a],.int _⟩
def lv(m:Mx (UL)):Mx MIt:=λZ h=>(m Z h).bind λa f=>match a with
 |[.int j]=>if -(2^62)<=j/\j<2^62 then .ok ⟨bz 0 j.toNat,[]⟩ f else .bad
 |_=>.bad
def qY(M:Gl X "range")(C:X.mg "range"=Y)(E:MA X [a] m)(B:starEach [a] X.env=[(T,eval a X.env)]:=by rfl):MI X tg (.Call (.Name "range" p) [a] [] pos) (lv m):=by
 refine PI.imp (yQ M C E B) λZ H Q ⟨U,l,h,F,O,q⟩=>⟨U,l,h,F,O,Ful.bind q λy z x x' S _ l1 i P f=>?_⟩
 cases P with
 |nil=>exact f.elim
 |cons r L =>
  cases L with
  |nil =>
   cases r with
   |int j =>
    dsimp only at f
    split at f
    .rename_i u
     exact⟨j,rfl,u.1,u.2,f y z _ (Le.refl _ _) i (DX 0 j.toNat)⟩
    .exact f.elim
   |_=>exact f.elim
  |cons R t2=>cases r<;>exact f.elim
def b9(c:Mx Bool)(b:lg):Nat->lg
 |0=>λ_ _=>.bad
 |n+1=>wH c λx=>if x=I then (λZ h=>match b Z h with
   |.nx f a=>b9 c b n f a
   |.ct f a=>b9 c b n f a
   |.bk f a=>.nx f a
   |.rt v a=>.rt v a
   |.exc e f a=>.exc e f a
   |.rse e f a=>.rse e f a
   |.bad=>.bad)else kw
def Ie(c:Mx Bool)(b:lg):lg:=λZ h=>if z:∃n,b9 c b n Z h≠.bad then b9 c b (Classical.choose z) Z h else .bad
def kH:∀{n:Nat}{Z:k_}{h:MH},b9 c b n Z h≠.bad->b9 c b (n+1) Z h=b9 c b n Z h
 |n+1,Z,h,q=>by
  rw[b9]at q;rw[b9]
  conv=>rhs;rw[b9]
  unfold wH at q ⊢
  cases e:c Z h with
  |exc x a=>rfl
  |bad=>rfl
  |ok x a =>
   rw[e]at q
   cases x with
   |false=>rfl
   |true =>
    simp only[if_true]at q ⊢
    cases em:b Z a with
    |nx i f=>rw[em]at q;exact kH q
    |ct i f=>rw[em]at q;exact kH q
    |_=>rfl
def uY(q:b9 c b n Z h≠.bad)(l:n<=m):b9 c b m Z h=b9 c b n Z h:=by
 induction l with
 |refl=>rfl
 |step l a=>rw[kH (by rw[a];exact q),a]
def jp(q:b9 c b n Z h≠.bad):Ie c b Z h=b9 c b n Z h:=by
 have z:∃n,b9 c b n Z h≠.bad:=⟨n,q⟩;unfold Ie;rw[dif_pos z];have a:=Classical.choose_spec z;rcases Nat.le_total n (Classical.choose z)with l|l
 .exact uY q l
 .exact (uY a l).symm
def Bc(gd:Good X N W G k)(hc:MT X c mc)(hb:Bq X body mb):MS X (.While c body [] pos) (Ie mc mb):=by
 refine PS.imp (AK gd.po hc hb) λD Z H ⟨U,a,h,R,rh,q⟩=>?_;refine⟨λm Z H=>∃U a h,RS X.K U H a Z/\RH X.K X.mg U H h/\bK X U H (b9 mc mb m a h) D,?_,?_⟩
 .unfold Ie at q
  split at q
  .exact⟨_,U,a,h,R,rh,q⟩
  .exact q.elim
 .rintro m Z1 H1 ⟨P,f,Q,j,r,F⟩
  cases m with
  |zero=>exact F.elim
  |succ m =>
   refine⟨P,f,Q,j,r,bK.ex F λO H2 v v' L M E z w=>?_⟩;cases z
   cases v with
   |false=>exact w O H2 Z1 (Le.refl _ _) E (j.le M)
   |true =>
    rw[b_ rfl]at w ⊢;refine⟨λZ H=>∃U a h,RS X.K U H a Z/\RH X.K X.mg U H h/\bK X U H (b9 mc mb m a h) D,λZ' H' z=>⟨m,Lp _,z⟩,O,f,L,j.le M,E,?_⟩
    cases em:mb f L with
    |nx l i=>rw[em]at w;exact λu H7 S C B y=>⟨u,l,i,y,B,bK.le C w⟩
    |ct l i=>rw[em]at w;exact λu H7 S C B y=>⟨u,l,i,y,B,bK.le C w⟩
    |bk l i=>rw[em]at w;exact w
    |rt v i=>rw[em]at w;exact w
    |exc e l i=>rw[em]at w;exact w
    |rse e l i=>rw[em]at w;exact w
    |bad=>rw[em]at w;exact w
def cC(f:PV->Option PyData):UL->Option (List PyData)
 |[]=>J []
 |x::r=>match f x,cC f r with
  |some d,J a=>J (d::a)
  |_,_=>Y
def rd:Nat->MH->PV->Option PyData
 |0,_,v=>(match v with
  |.non=>J .none
  |.bl b=>J (.bool b)
  |.int i=>J (.int i)
  |.str x=>J (.str x)
  |_=>Y)
 |n+1,h,v=>(match v with
  |.non=>J .none
  |.bl b=>J (.bool b)
  |.int i=>J (.int i)
  |.str x=>J (.str x)
  |.tup xs=>(cC (rd n h) xs).map PyData.tuple
  |.frl xs=>(cC (rd n h) xs).map PyData.list
  |.loc m=>(match h[m]? with
   |some (.lst xs)=>(cC (rd n h) xs).map PyData.list
   |_=>Y))
def gc{y:Heap}{f:PV->Option PyData}{K:ib}{U:US}{H:Hp}(hf:∀v l u d,RP K U H v l->aN l u->f v=J d->∃j,Reads y u d j):
  ∀{xs:UL}{ys:List V}{a:UT}{i:List PyData},RPs K U H xs ys->aB ys a->cC f xs=J i->∃j,ReadsAll y a i j:=by
 intro xs
 induction xs with
 |nil =>
  intro ys a i r v e;cases r;cases v;cases e;exact⟨_,.nil⟩
 |cons x xs E =>
  intro ys a i r v e;cases r with|cons r t=>cases v with|cons v w =>
  simp only[cC]at e
  split at e
  .rename_i d z e1 e2
   cases e;obtain⟨L,B⟩:=hf _ _ _ _ r v e1;obtain⟨F,C⟩:=E t w e2;exact⟨_,.cons B C⟩
  .cases e
def fW{R:UU}{Z:L2.St}{H:Hp}{s:Shared}{U:US}{h:MH}(f:Inv X R Z H s)(rh:RH X.K X.mg U H h):
  ∀(n:Nat)(v:PV)(B:V)(u:Value)(d:PyData),RP X.K U H v B->aN B u->rd n h v=J d->∃z,Reads s.heap u d z:=by
 intro n
 induction n with
 |zero =>
  intro v B u d rp r e
  cases rp with
  |non=>cases e;cases r;exact⟨_,.none⟩
  |bl b=>cases e;cases r;exact⟨_,.bool b⟩
  |int i=>cases e;obtain⟨t,rfl⟩:=r;exact⟨_,.int i t⟩
  |str i=>cases e;obtain⟨t,rfl⟩:=r;exact⟨_,.str i t⟩
  |_=>cases e
 |succ n F =>
  intro v B u d rp r e
  cases rp with
  |non=>cases e;cases r;exact⟨_,.none⟩
  |bl b=>cases e;cases r;exact⟨_,.bool b⟩
  |int i=>cases e;obtain⟨t,rfl⟩:=r;exact⟨_,.int i t⟩
  |str i=>cases e;obtain⟨t,rfl⟩:=r;exact⟨_,.str i t⟩
  |@tup xs a ys s C =>
   cases r;simp only[rd]at e
   cases q:cC (rd n h) xs with
   |none=>rw[q]at e;cases e
   |some L =>
    rw[q]at e;cases e;obtain⟨j,y,⟨o,e1,e2,m,e3⟩,_⟩:=f.tuple s;obtain⟨z,l⟩:=gc (F) C y q;exact⟨_,.tuple e1 e2 e3 (by simpa using l)⟩
  |@frl xs a ys s C =>
   cases r;simp only[rd]at e
   cases q:cC (rd n h) xs with
   |none=>rw[q]at e;cases e
   |some L =>
    rw[q]at e;cases e;obtain⟨j,y,⟨o,m,e1,e2,_,e3⟩,_⟩:=f.list s.sq;obtain⟨z,l⟩:=gc (F) C y q;exact⟨_,.list e1 e2 e3 (by simpa using l)⟩
  |loc O =>
   cases r;simp only[rd]at e;obtain⟨S,P,E⟩:=rh.obj O;rw[P]at e
   cases S with
   |dic ks xs=>cases e
   |exc x=>cases e
   |lst xs =>
    obtain⟨ys,M,Q⟩:=E;dsimp only at e
    cases q:cC (rd n h) xs with
    |none=>rw[q]at e;cases e
    |some L =>
     rw[q]at e;cases e;obtain⟨j,y,⟨o,m',e1,e2,_,e3⟩,_⟩:=f.list (SqL.of M);obtain⟨z,l⟩:=gc (F) Q y q;exact⟨_,.list e1 e2 e3 (by simpa using l)⟩
def BS(x y:PV)(h:MH):UZ:=match rd 60 h x,rd 60 h y with
 |some a,J b=>if SeqAt.shaped a=I/\SeqAt.shaped b=I then .ok (.bl (PyData.eqv a b)) h else .bad
 |_,_=>.bad
def Ae(x y:PV)(h:MH):UZ:=match rd 60 h x,rd 60 h y with
 |some a,J b=>if SeqAt.shaped a=I/\SeqAt.shaped b=I then .ok (.bl (!PyData.eqv a b)) h else .bad
 |_,_=>.bad
def F8(E:Room k X.A):xk X (compareOp .Eq) BS:=by
 intro R s Z H M L u v Q f l i ⟨U,h,x,y,j,P,B,q⟩;unfold BS at q
 split at q
 .rename_i a b O z
  split at q
  .rename_i r
   obtain⟨_,F⟩:=fW f j 60 x M u a P l O;obtain⟨_,C⟩:=fW f j 60 y L v b B i z;exact eq_dataH F C r.1 r.2 E.units ⟨.bl _,H,f,rfl,q U H _ (Le.refl _ _) j (.bl _)⟩
  .exact q.elim
 .exact q.elim
def se(E:Room k X.A):xk X (compareOp .NotEq) Ae:=by
 intro R s Z H M L u v Q f l i ⟨U,h,x,y,j,P,B,q⟩;unfold Ae at q
 split at q
 .rename_i a b O z
  split at q
  .rename_i r
   obtain⟨_,F⟩:=fW f j 60 x M u a P l O;obtain⟨_,C⟩:=fW f j 60 y L v b B i z;exact ne_dataH F C r.1 r.2 E.units ⟨.bl _,H,f,rfl,q U H _ (Le.refl _ _) j (.bl _)⟩
  .exact q.elim
 .exact q.elim
def mY(f:Int->Int->PV):PV->PV->MH->UZ:=λx y h=>match x,y with
 |.int i,.int j=>.ok (f i j) h
 |_,_=>.bad
def oE(C:OpR X F (Dy f))(O9:∀U H i j,RP X.K U H (g i j) (f i j)):xk X F (mY g):=by
 intro B s Z H O M u v Q l r a ⟨U,h,x,y,E,L,z,q⟩;unfold mY at q
 split at q
 .cases L;cases z;exact C B s Z H _ _ u v Q l r a ⟨_,_,rfl,rfl,q U H _ (Le.refl _ _) E (O9 U H _ _)⟩
 .exact q.elim
def BU:=mY λi j=>.bl (decide (i<j))
def Ig:=mY λi j=>.bl (decide (i<=j))
def BV:=mY λi j=>.bl (decide (j<i))
def CQ:=mY λi j=>.bl (decide (j<=i))
def nT:xk X (compareOp .Lt) BU:=oE LN λ_ _ _ _=>.bl _
def Mh:xk X (compareOp .LtE) Ig:=oE LP λ_ _ _ _=>.bl _
def sd:xk X (compareOp .Gt) BV:=oE LQ λ_ _ _ _=>.bl _
def Mi:xk X (compareOp .GtE) CQ:=oE LR λ_ _ _ _=>.bl _
def Mj(a:Bool):PV->PV->MH->UZ:=λx y h=>match y with
 |.non=>(match x with
  |.non=>.ok (.bl (!a)) h
  |_=>.ok (.bl a) h)
 |.bl b=>(match x with
  |.bl c=>.ok (.bl (if a then !(c==b)else c==b)) h
  |.non=>.ok (.bl a) h
  |.int _=>.ok (.bl a) h
  |.str _=>.ok (.bl a) h
  |.tup _=>.ok (.bl a) h
  |_=>.bad)
 |_=>.bad
def j0(x y:PV)(h:MH):UZ:=match x,y with
 |.int i,.int j=>if IntMulOk i j then .ok (.int (i*j)) h else .bad
 |.loc n,.int j=>(match h[n]? with
  |some (.lst xs)=>if -(2^63)<=j/\j<2^63 then pe (List.flatten (List.replicate j.toNat xs)) h else .bad
  |_=>.bad)
 |_,_=>.bad
def Cw(x y:PV)(h:MH):UZ:=match x,y with
 |.int i,.int j=>if j≠0/\Builtin.divisionGoesByPylong i j=T then .ok (.int (i.fdiv j)) h else .bad
 |_,_=>.bad
def kx(x y:PV)(h:MH):UZ:=match x,y with
 |.int i,.int j=>if j≠0 then .ok (.int (i.fmod j)) h else .bad
 |_,_=>.bad
def pk(x y:PV)(h:MH):UZ:=match x,y with
 |.int i,.int j=>if gK i j then .ok (.int (i^j.toNat)) h else .bad
 |_,_=>.bad
def j3(x y:PV)(h:MH):UZ:=match x,y with
 |.int i,.int j=>.ok (.int (i+j)) h
 |.str a,.str b=>if a.length+b.length<=sizeLine then .ok (.str (a++b)) h else .bad
 |.loc n,.loc m=>(match h[n]?,h[m]? with
  |some (.lst xs),J (.lst ys)=>pe (xs++ys) h
  |_,_=>.bad)
 |.tup xs,.tup ys=>if xs≠[]then r_ (xs++ys) h else .bad
 |_,_=>.bad
def A0:=mY λi j=>.int (i-j)
def CT(x:PV)(h:MH):UZ:=match x with
 |.int i=>.ok (.int (-i)) h
 |_=>.bad
def nN:xk X (binaryOp .Sub) A0:=oE Hr λ_ _ _ _=>.int _
def Ih:SG X (unaryOp .USub) CT:=by
 intro l s Z H y u Q a f ⟨U,h,x,j,r,q⟩
 cases r with
 |int i=>exact Ht l s Z H _ u Q a f ⟨i,rfl,q U H _ (Le.refl _ _) j (.int _)⟩
 |_=>exact q.elim
def F9:xk X (binaryOp .FloorDiv) Cw:=by
 intro C s Z H F E u v Q f i a ⟨U,h,x,y,r,z,l,q⟩;unfold Cw at q
 split at q
 .cases z;cases l
  split at q
  .rename_i j
   obtain⟨t,rfl⟩:=i;obtain⟨B,rfl⟩:=a;exact floordiv_int j.1 ⟨.int _,H,f.tok _,⟨_,rfl⟩,q U H _ (Le.refl _ _) r (.int _)⟩ (.inl j.2)
  .exact q.elim
 .exact q.elim
def dN:xk X (binaryOp .Mod) kx:=by
 intro C s Z H F E u v Q f i a ⟨U,h,x,y,l,z,j,q⟩;unfold kx at q
 split at q
 .cases z;cases j
  split at q
  .rename_i r
   obtain⟨t,rfl⟩:=i;obtain⟨B,rfl⟩:=a;exact mod_int' r ⟨.int _,H,f.tok _,⟨_,rfl⟩,q U H _ (Le.refl _ _) l (.int _)⟩
  .exact q.elim
 .exact q.elim
def zG:xk X (binaryOp .Pow) pk:=by
 intro z s Z H L F u v Q f l a ⟨U,h,x,y,B,E,r,q⟩;unfold pk at q
 split at q
 .rename_i i j
  cases E;cases r
  split at q
  .rename_i C
   exact Hs z s Z H _ _ u v Q f l a ⟨i,j,rfl,rfl,C,q U H _ (Le.refl _ _) B (.int _)⟩
  .exact q.elim
 .exact q.elim
def c6:xk X (binaryOp .Add) j3:=by
 intro L s Z H x' y' u v Q l r f ⟨U,h,x,y,B,rx,E,q⟩
 cases rx with
 |int i =>
  cases E with
  |int j=>exact Ho L s Z H _ _ u v Q l r f ⟨i,j,rfl,rfl,q U H _ (Le.refl _ _) B (.int _)⟩
  |_=>exact q.elim
 |str a =>
  cases E with
  |str b =>
   dsimp only[j3]at q
   split at q
   .rename_i hl
    exact wM L s Z H _ _ u v Q l r f ⟨a,b,rfl,rfl,hl,q U H _ (Le.refl _ _) B (.str _)⟩
   .exact q.elim
  |_=>exact q.elim
 |@loc n a e =>
  cases E with
  |@loc m b e2 =>
   dsimp only[j3]at q;obtain⟨o1,h1,C⟩:=B.obj e;obtain⟨o2,h2,F⟩:=B.obj e2;rw[h1,h2]at q
   cases o1 with
   |dic ks xs=>exact q.elim
   |exc x=>exact q.elim
   |lst xs =>
    cases o2 with
    |dic ks xs=>exact q.elim
    |exc x=>exact q.elim
    |lst ys =>
     obtain⟨O,ex,S⟩:=C;obtain⟨R,ey,an⟩:=F;obtain⟨P,M⟩:=lr B (S.append an) q;exact HH L s Z H _ _ u v Q l r f ⟨a,b,O,R,rfl,rfl,ex,ey,by rw[<-z_];exact P,M⟩
  |_=>exact q.elim
 |tup s1 C =>
  cases E with
  |tup s2 F =>
   dsimp only[j3]at q
   split at q
   .rename_i al
    obtain⟨P,M⟩:=wc B (C.append F) q;refine DJ L s Z H _ _ u v Q l r f ⟨_,_,_,_,rfl,rfl,s1,s2,?_,by rw[<-z_];exact P,λz=>?_,λ_=>M⟩
    .rintro rfl;cases C;exact al rfl
    .subst z;cases F;unfold r_ at q
     split at q
     .exact q U H _ (Le.refl _ _) B (by rw[KC];exact .tup s1 C)
     .exact q.elim
   .exact q.elim
  |_=>exact q.elim
 |_=>cases E<;>exact q.elim
def RPs.rep{K:ib}{U:US}{H:Hp}{xs:UL}{ys:List V}(r:RPs K U H xs ys):∀n:Nat,RPs K U H (List.replicate n xs).flatten (List.replicate n ys).flatten
 |0=>.nil
 |n+1=>by exact r.append (RPs.rep r n)
def iK:xk X (binaryOp .Mult) j0:=by
 intro R s Z H x' y' u v Q l r f ⟨U,h,x,y,E,rx,B,q⟩
 cases rx with
 |int i =>
  cases B with
  |int j =>
   dsimp only[j0]at q
   split at q
   .rename_i hc
    obtain⟨t,rfl⟩:=r;obtain⟨t',rfl⟩:=f;exact PyProof.Rows.mul_int ⟨.int _,H,l.tok _,⟨_,rfl⟩,q U H _ (Le.refl _ _) E (.int _)⟩ hc
   .exact q.elim
  |_=>exact q.elim
 |@loc n a e =>
  cases B with
  |int j =>
   dsimp only[j0]at q;obtain⟨S,P,O⟩:=E.obj e;rw[P]at q
   cases S with
   |dic ks xs=>exact q.elim
   |exc x=>exact q.elim
   |lst xs =>
    dsimp only at q
    split at q
    .rename_i F
     obtain⟨z,ex,C⟩:=O;obtain⟨L,M⟩:=lr E (C.rep j.toNat) q;refine HJ R s Z H _ _ u v Q l r f ⟨a,j,z,rfl,rfl,ex,F.1,F.2,?_,M⟩;rw[vC]at L;rw[Nat.mul_comm];exact L
    .exact q.elim
  |_=>exact q.elim
 |_=>cases B<;>exact q.elim
def kC{f:UU}{Z:L2.St}{H:Hp}{s:Shared}{Q:VK}{x':V}{u:Value}{b c:Bool}(a:Inv X f Z H s)(r:aN x' u)(i:plainIs u (.bool b)=I)(j:(!(u == .bool b))=c)(q:Q (.bl c) H):
  wpAny (model X.prog X.w) X.A (compareOp .IsNot u (.bool b)) (EP X f Z Q) X.xe s:=by
 exact d_ (wpAny_isSame_plain i (ii (by rw[j];exact⟨.bl c,H,a,rfl,q⟩)))
def Ii:xk X (compareOp .IsNot) (Mj I):=by
 intro B s Z H L F u v Q a f l ⟨U,h,x,y,j,r,z,q⟩
 cases z with
 |non =>
  refine DA B s Z H _ _ u v Q a f l ⟨rfl,?_⟩;cases r<;>exact q U H _ (Le.refl _ _) j (by first | exact .bl I | exact .bl T)
 |bl b =>
  cases l
  cases r with
  |non=>cases f;exact kC (x':=.non) a rfl (by cases b<;>rfl) (by cases b<;>rfl) (q U H _ (Le.refl _ _) j (.bl I))
  |bl c=>cases f;exact kC (x':=.bl c) a rfl (by cases b<;>cases c<;>rfl) (by cases b<;>cases c<;>rfl) (q U H _ (Le.refl _ _) j (.bl _))
  |int i=>obtain⟨t,rfl⟩:=f;exact kC (x':=.int i) a ⟨_,rfl⟩ (by cases b<;>rfl) (by cases b<;>rfl) (q U H _ (Le.refl _ _) j (.bl I))
  |str i=>obtain⟨t,rfl⟩:=f;exact kC (x':=.str i) a ⟨_,rfl⟩ (by cases b<;>rfl) (by cases b<;>rfl) (q U H _ (Le.refl _ _) j (.bl I))
  |tup E C=>cases f;exact kC (x':=.ref _) a rfl (by cases b<;>rfl) (by cases b<;>rfl) (q U H _ (Le.refl _ _) j (.bl I))
  |_=>exact q.elim
 |_=>exact q.elim
def aU(x y:PV)(h:MH):UZ:=match y with
 |.int i=>(match x with
  |.loc n=>(match h[n]? with
   |some (.lst xs)=>(match mh xs i with
    |some v=>.ok v h
    |none=>.bad)
   |_=>.bad)
  |.tup xs=>(match mh xs i with
   |some v=>.ok v h
   |none=>.bad)
  |.frl xs=>(match mh xs i with
   |some v=>.ok v h
   |none=>.bad)
  |.str z=>(match mh z.cps.toList i with
   |some c=>if z.length<=sizeLine then .ok (.str ⟨#[c]⟩) h else .bad
   |none=>.bad)
  |_=>.bad)
 |_=>.bad
def pP{K:ib}{U:US}{H:Hp}{xs:UL}{ys:List V}{i:Int}{v:PV}(r:RPs K U H xs ys)(e:mh xs i=J v):∃a,mh ys i=J a/\RP K U H v a:=by
 unfold mh at e ⊢;rw[<-r.length]
 cases q:wx xs.length i with
 |none=>rw[q]at e;cases e
 |some j =>
  rw[q]at e;exact r.get e
def F_{a b:Expr}{ma mb:Mx PV}{S:Pos}(ha:ME X a ma)(hb:ME X b mb)(hs:ly b):ME X (.Subscript a b S) (ah aU ma mb):=by
 refine PE.imp (L3 HD ha hb hs) λZ H Q q=>?_;obtain⟨U,C,h,rs,rh,q⟩:=q;refine⟨U,C,h,rs,rh,Ful.bind q λU1 H1 x x' h1 _ l1 M rx q1=>⟨U1,C,h1,rs.le l1,M,Ful.bind q1 λL F y y' h2 _ l2 l ry f=>?_⟩⟩;have R:=rx.le l2
 cases ry with
 |int i =>
  cases R with
  |@loc n a e =>
   obtain⟨ob,eo,P⟩:=l.obj e;dsimp only[aU]at f;rw[eo]at f
   cases ob with
   |dic ks xs=>exact f.elim
   |exc x=>exact f.elim
   |lst xs =>
    obtain⟨ys,ey,B⟩:=P;dsimp only at f
    cases j:mh xs i with
    |none=>rw[j]at f;exact f.elim
    |some v =>
     rw[j]at f;obtain⟨u,r,E⟩:=pP B j;exact .inl ⟨a,ys,i,u,rfl,rfl,SqL.of ey,r,f L F _ (Le.refl _ _) l E⟩
  |@tup xs a ys O B =>
   dsimp only[aU]at f
   cases j:mh xs i with
   |none=>rw[j]at f;exact f.elim
   |some v =>
    rw[j]at f;obtain⟨u,r,E⟩:=pP B j;exact .inr (.inl ⟨_,_,i,u,rfl,rfl,O,r,f L F _ (Le.refl _ _) l E⟩)
  |@frl xs a ys O B =>
   dsimp only[aU]at f
   cases j:mh xs i with
   |none=>rw[j]at f;exact f.elim
   |some v =>
    rw[j]at f;obtain⟨u,r,E⟩:=pP B j;exact .inl ⟨_,_,i,u,rfl,rfl,O.sq,r,f L F _ (Le.refl _ _) l E⟩
  |str z =>
   dsimp only[aU]at f
   cases j:mh z.cps.toList i with
   |none=>rw[j]at f;exact f.elim
   |some c =>
    rw[j]at f;dsimp only at f
    split at f
    .rename_i hz
     exact .inr (.inr ⟨z,i,c,rfl,rfl,hz,j,f L F _ (Le.refl _ _) l (.str _)⟩)
    .exact f.elim
  |_=>exact f.elim
 |_=>exact f.elim
def wR(f:UL->MH->UZ)(m:Mx (UL)):Mx PV:=λZ h=>(m Z h).bind λxs a=>(f xs a).ne
section
variable{x:Str}{id T:String}{e:Expr}{es:UX}{f:UL->MH->UZ}{m:Mx (UL)}{p pos:Pos}
def Ga{Z:L2.St}{H:Hp}{Q:VK}(q:tM X (RV' X) (wR f m) Z H Q):QG (cJ X f) (tM X (RVs' X) m) Z H Q:=by obtain⟨U,i,h,u,y,q⟩:=q;exact⟨U,i,h,u,y,Ful.bind q λj B x C l _ E a z r=>⟨j,l,x,a,z,r.zero⟩⟩
def tJ(g:Good X N W G k)(j:Nat)(i:G[j]?=J x)(y:cU X (.builtin id) f)(r:X.mg x=Y)(hv:bootBuiltins x=J (.builtin id))(u:MA X (e::es) m)(l:starEach (e::es) X.env=(false,eval e X.env)::starEach es X.env:=by rfl)(a:(backTo pos (starEach es X.env)).any (·.1)=false:=by rfl):ME X (.Call (.Name x p) (e::es) [] pos) (wR f m) :=
 have d:=g.dbg x (o_ _ (aL i))
 PE.imp (ng y (g.gl x (aL i)) r hv u d.2.2 d.1 l a) λ_ _ _ q=>Ga q
def qK(g:Good X N W G k)(j:Nat)(i:G[j]?=J x)(y:cU X (.type T) f)(r:X.mg x=Y)(hv:bootBuiltins x=J (.type T))(u:MA X (e::es) m)(l:starEach (e::es) X.env=(false,eval e X.env)::starEach es X.env:=by rfl)(a:(backTo pos (starEach es X.env)).any (·.1)=false:=by rfl):ME X (.Call (.Name x p) (e::es) [] pos) (wR f m) :=
 have d:=g.dbg x (o_ _ (aL i))
 PE.imp (gu y (g.gl x (aL i)) r hv u d.2.2 d.1 l a) λ_ _ _ q=>Ga q
end
def BW(xs:UL)(h:MH):UZ:=match xs with
 |[.int i]=>.ok (.int (if i<0 then -i else i)) h
 |_=>.bad
def BX(xs:UL)(h:MH):UZ:=match xs with
 |[.int i,.int j]=>.ok (.int (if j<i then j else i)) h
 |_=>.bad
def DY(xs:UL)(h:MH):UZ:=match xs with
 |[.int i,.int j]=>.ok (.int (if j>i then j else i)) h
 |_=>.bad
def p9(xs:UL)(h:MH):UZ:=match xs with
 |[.loc n]=>(match h[n]? with
  |some (.lst ys)=>.ok (.int ys.length) h
  |_=>.bad)
 |[.tup ys]=>.ok (.int ys.length) h
 |[.frl ys]=>.ok (.int ys.length) h
 |[.str z]=>if z.length<=sizeLine then .ok (.int z.length) h else .bad
 |_=>.bad
def zt:cU X (.builtin "abs") BW:=by
 intro l s Z H xs j Q a r ⟨U,h,z,y,rp,q⟩
 cases rp with
 |nil=>exact q.elim
 |cons f u =>
  cases u with
  |cons _ _=>cases f<;>exact q.elim
  |nil =>
   cases f with
   |int i=>exact AR l s Z H _ j Q a r ⟨i,rfl,q U H _ (Le.refl _ _) y (.int _)⟩
   |_=>exact q.elim
def ui{f:UL->MH->UZ}{F:Int->Int->Int}{r:List V->Hp->VK->Prop}{u:Value}(hf:∀i j h,f [.int i,.int j] h=.ok (.int (F i j)) h)(P:∀xs h,(∀i j,xs≠[.int i,.int j])->f xs h=.bad)(R:cS X u (λxs H Q=>∃i j,xs=[.int i,.int j]/\Q (.int (F i j)) H)):cU X u f:=by
 intro L s Z H xs C Q a r ⟨U,h,l,O,rp,q⟩;by_cases z:∃i j,l=[.int i,.int j]
 .obtain⟨i,j,rfl⟩:=z
  cases rp with
  |cons y M=>cases M with
   |cons B E =>
    cases E;cases y;cases B;rw[hf]at q;exact R L s Z H _ C Q a r ⟨i,j,rfl,q U H _ (Le.refl _ _) O (.int _)⟩
 .rw[P l h λi j e=>z ⟨i,j,e⟩]at q;exact q.elim
def sY(g:Good X N W G k):cU X (.builtin "min") BX:=ui (r:=λ_ _ _=>True) (λ_ _ _=>rfl) (λxs h z=>by unfold BX;split<;>first | rfl | exact absurd rfl (z _ _)) (qA g.calm)
def Ij(g:Good X N W G k):cU X (.builtin "max") DY:=ui (r:=λ_ _ _=>True) (λ_ _ _=>rfl) (λxs h z=>by unfold DY;split<;>first | rfl | exact absurd rfl (z _ _)) (qv g.calm)
def kW:cU X (.builtin "len") p9:=by
 intro u s Z H xs l Q f r ⟨U,h,R,j,rp,q⟩
 cases rp with
 |nil=>exact q.elim
 |cons C O =>
  cases O with
  |cons _ _=>cases C<;>exact q.elim
  |nil =>
   cases C with
   |@loc n a e =>
    obtain⟨M,F,B⟩:=j.obj e;dsimp only[p9]at q;rw[F]at q
    cases M with
    |dic P xs=>exact q.elim
    |exc x=>exact q.elim
    |lst xs =>
     obtain⟨ys,E,i⟩:=B;exact jZ u s Z H _ l Q f r ⟨_,_,rfl,.inl ⟨ys,SqL.of E,rfl⟩,by rw[<-i.length];exact q U H _ (Le.refl _ _) j (.int _)⟩
   |tup y i=>exact jZ u s Z H _ l Q f r ⟨_,_,rfl,.inr ⟨_,y,rfl⟩,by rw[<-i.length];exact q U H _ (Le.refl _ _) j (.int _)⟩
   |frl y i=>exact jZ u s Z H _ l Q f r ⟨_,_,rfl,.inl ⟨_,y.sq,rfl⟩,by rw[<-i.length];exact q U H _ (Le.refl _ _) j (.int _)⟩
   |str z =>
    dsimp only[p9]at q
    split at q
    .rename_i L
     exact jZ u s Z H _ l Q f r ⟨_,_,rfl,⟨L,rfl⟩,q U H _ (Le.refl _ _) j (.int _)⟩
    .exact q.elim
   |_=>exact q.elim
def Gb(h:MH):PV->Option String
 |.non=>J "NoneType"
 |.bl _=>J "bool"
 |.int _=>J "int"
 |.str _=>J "str"
 |.tup _=>J "tuple"
 |.frl _=>J "list"
 |.loc n=>match h[n]? with
  |some (.lst _)=>J "list"
  |some (.dic _ _)=>J "dict"
  |_=>Y
def gP(t:String)(a:String):Bool:=t==a||(t == "bool" && a == "int")
def tq(a:List String)(x:PV)(h:MH):UZ:=match Gb h x with
 |some t=>.ok (.bl (a.any (gP t))) h
 |none=>.bad
def Mk(a:String):Prop:=∀K:ib,∀t∈["NoneType","bool","int","str","tuple","list","dict"],PySem.W.kitOne K (.type t) (.type a)=J (gP t a)
def ye(l:∀K,PySem.W.kitOne K (.type "NoneType") (.type b)=J (gP "NoneType" b))(r:∀K,PySem.W.kitOne K (.type "bool") (.type b)=J (gP "bool" b))(j:∀K,PySem.W.kitOne K (.type "int") (.type b)=J (gP "int" b))(u:∀K,PySem.W.kitOne K (.type "str") (.type b)=J (gP "str" b))(f:∀K,PySem.W.kitOne K (.type "tuple") (.type b)=J (gP "tuple" b))(y:∀K,PySem.W.kitOne K (.type "list") (.type b)=J (gP "list" b))(i:∀K,PySem.W.kitOne K (.type "dict") (.type b)=J (gP "dict" b)):Mk b:=by
 intro K t a;simp only[k4,GX,or_false]at a;rcases a with rfl|rfl|rfl|rfl|rfl|rfl|rfl
 .exact l K
 .exact r K
 .exact j K
 .exact u K
 .exact f K
 .exact y K
 .exact i K
def DZ:Mk "int":=ye (λ_=>rfl) (λ_=>rfl) (λ_=>rfl) (λ_=>rfl) (λ_=>rfl) (λ_=>rfl) (λ_=>rfl)
def AD:Mk "bool":=ye (λ_=>rfl) (λ_=>rfl) (λ_=>rfl) (λ_=>rfl) (λ_=>rfl) (λ_=>rfl) (λ_=>rfl)
def kitx_of{S:UU}{Z:L2.St}{H:Hp}{s:Shared}{U:US}{h:MH}{x:PV}{E:V}{u:Value}{t:String}(f:Inv X S Z H s)(rh:RH X.K X.mg U H h)(O:RP X.K U H x E)(j:aN E u)(e:Gb h x=J t):
  t∈["NoneType","bool","int","str","tuple","list","dict"]/\u≠.builtin "__main__.__loader__#opaque"/\∃C,PySem.W.KitX X.K u (.type t) C/\C s.heap:=by
 cases O with
 |non=>cases e;cases j;exact⟨by simp,(λz=>nomatch z),_,PySem.W.kitx_none,trivial⟩
 |bl b=>cases e;cases j;exact⟨by simp,(λz=>nomatch z),_,PySem.W.kitx_bool,trivial⟩
 |int i=>cases e;obtain⟨t,rfl⟩:=j;exact⟨by simp,(λz=>nomatch z),_,PySem.W.kitx_int,trivial⟩
 |str i=>cases e;obtain⟨t,rfl⟩:=j;exact⟨by simp,(λz=>nomatch z),_,PySem.W.kitx_str,trivial⟩
 |tup B L =>
  cases e;cases j;obtain⟨l,F,⟨o,e1,e2,_⟩,_⟩:=f.tuple B;exact⟨by simp,(λz=>nomatch z),_,PySem.W.kitx_tuple,⟨o,e1,e2⟩⟩
 |frl B L =>
  cases e;cases j;obtain⟨l,F,⟨o,m,e1,e2,_,e3⟩,_⟩:=f.list B.sq;exact⟨by simp,(λz=>nomatch z),_,PySem.W.kitx_list,⟨o,e1,e2⟩⟩
 |@loc n a P =>
  obtain⟨ob,Q,r⟩:=rh.obj P;dsimp only[Gb]at e;rw[Q]at e;cases j
  cases ob with
  |lst xs =>
   cases e;obtain⟨ys,y,_⟩:=r;obtain⟨l,F,⟨o,m,e1,e2,_,e3⟩,_⟩:=f.list (SqL.of y);exact⟨by simp,(λz=>nomatch z),_,PySem.W.kitx_list,⟨o,e1,e2⟩⟩
  |dic ks xs =>
   cases e;obtain⟨bs,_,_,_,_,_,y⟩:=r;obtain⟨⟨o,es,ep,M,R,_⟩,_⟩:=(show ObjOk X.prog X.w H s.heap a (.ext (DT a bs))from f.hok a _ y);exact⟨by simp,(λz=>nomatch z),_,PySem.W.kitx_dict,⟨o,M,R.1⟩⟩
  |exc x=>cases e
def Ik(g:Good X N W G k){a:Expr}{m:Mx PV}{f:String}{c:Str}{i j:Nat}{p q z:Pos}(hi:G[i]?=J "isinstance")(hm:X.mg "isinstance"=Y)(R:G[j]?=J c)(hc:X.mg c=Y)(hv:bootBuiltins c=J (.type f))(hT:Mk f)(ha:ME X a m)(S:starEach [a,.Name c q] X.env=(T,eval a X.env)::starEach [.Name c q] X.env:=by rfl)(P:starEach [.Name c q] X.env=[(T,eval (.Name c q) X.env)]:=by rfl)(L:(backTo z (starEach [.Name c q] X.env)).any (·.1)=T:=by rfl):
  ME X (.Call (.Name "isinstance" p) [a,.Name c q] [] z) (OO (tq [f]) m):=by
 have d1:=g.dbg _ (o_ _ (aL hi));have d:=g.dbg c (o_ _ (aL R));have u:cS X (.builtin "isinstance") (λxs H Q=>∃y,xs=[y,.ty f]/\uJ X (tq [f]) y H Q):=by
  intro LU s Z H xs us Q l r ⟨y,e,U,h,x,B,O,q⟩;subst e
  cases r with
  |cons r1 t1=>cases t1 with
   |cons r2 t2 =>
    cases t2;obtain rfl:=(r2);unfold tq at q
    cases E:Gb h x with
    |none=>rw[E]at q;exact q.elim
    |some t =>
     rw[E]at q;obtain⟨ht,F,Hq,Za,hz⟩:=kitx_of l B O r1 E
     exact PySem.W.kia_one Za l.kIn hz (hT X.K t ht) F λtk=>⟨.bl _,H,l.tok _,rfl,by
      have q':=q U H _ (Le.refl _ _) B (.bl _)
      simpa using q'⟩
 refine PE.imp (ng u (g.gl _ (aL hi)) hm PyProof.Rows.Boot.«isinstance» (fX ha (fX (Dr (v:=.ty f) (g.gl c (aL R)) hc hv rfl d.2.2 d.1) jx P) S) d1.2.2 d1.1 S L) λZ H Q ⟨U,M,h,rs,B,q⟩=>?_;exact⟨U,M,h,rs,B,Ful.bind q λU1 H1 x y h1 _ l1 C O q1=>⟨y,rfl,U1,h1,x,C,O,q1.zero⟩⟩
def Il(K:ib)(mg:DO)(F:UL->MH->UZ):Sp:=λr H Q E=>∃U l h,RPs K U H l r/\RH K mg U H h/\match F l h with
 |.ok v i=>∀f a j,Le U H f a->RH K mg f a i->RP K f a v j->Q j a
 |.exc x i=>∀C f a,x.fs=[]->mg x.cls=J (.ref C)->Le U H f a->RH K mg f a i->E (.ref C) Y a
 |.bad=>False
def KJ(P:Program)(w:World):CH:=λouter H s E e a=>∃i C f,e=.ref i/\a.os=s.os/\AllBare a.gens/\Un (xN outer) [] H f s.heap a.heap/\HOk P w f a.heap/\QO outer f s.heap C i a.heap/\E (.ref C) Y f
structure Cal(X:Cx)(x:Str)(ps:UM)(F:UL->MH->UZ)(k:Nat):Prop where
 ex:∃f fd,X.mg x=J (.ref f)/\PySem.W.keepIn X.K (.ref f)=I/\nu X.K fd ps []/\FnOk X.prog X.w X.K X.mg X.base (KJ X.prog X.w) k f fd ps (Il X.K X.mg F)
def Cal.to(c:Cal X x ps F i)(e1:g.prog=X.prog)(e2:g.w=X.w)(e3:g.K=X.K)(e4:g.mg=X.mg)(e5:g.base=X.base):Cal g x ps F i:=by obtain⟨f,fd,a,b,d,e⟩:=c.ex;refine⟨f,fd,by rw[e4];exact a,by rw[e3];exact b,by rw[e3];exact d,?_⟩;rw[e1,e2,e3,e4,e5];exact e
def bA(F:UL->MH->UZ)(m:Mx (UL)):Mx PV:=λZ h=>(m Z h).bind F
def vO(g:Good X N W G k){x:Str}{j:Nat}(hj:G[j]?=J x){ps:UM}{F:UL->MH->UZ}(C:Cal X x ps F k){e:Expr}{es:UX}{m:Mx (UL)}{p S:Pos}(ha:MA X (e::es) m)(he:starEach (e::es) X.env=(T,eval e X.env)::starEach es X.env:=by rfl)(ax:(backTo S (starEach es X.env)).any (·.1)=T:=by rfl):ME X (.Call (.Name x p) (e::es) [] S) (bA F m):=by
 obtain⟨f,fd,hm,hk,hb,F'⟩:=C.ex;have d:=g.dbg x (o_ _ (aL hj));intro LU s Z H Q R ⟨U,an,h,rs,rh,q⟩;refine wpAny_Call_Name_kw (vE R (g.gl x (aL hj)) hm ?_ d.1)
 refine PySem.W.callWith_K R.ok.mod.kin hk (ka (ha S LU s Z H (λvs B=>∃y xs M,Le U H y B/\RH X.K X.mg y B M/\RPs X.K y B xs vs/\Ful X (RV' X) an y B (F xs M) Q) R
  ⟨U,an,h,rs,rh,Ful.bind q λy B xs vs M _ l1 L rx O=>⟨y,xs,M,l1,L,rx,O⟩⟩) λus P ⟨vs,B,I1,r,y,xs,M,l1,L,rx,O⟩=>⟨I1.kIn,?_⟩) he ax
 have run:∀E:XK,Il X.K X.mg F vs B Q E->(∀ea C i l,l.os=P.os->AllBare l.gens->Un (xN X.stack) [] B i P.heap l.heap->HOk X.prog X.w i l.heap->QO X.stack i P.heap C ea l.heap->E (.ref C) Y i->X.xe (.ref ea) l) ->
   wpAny (model X.prog X.w) X.A (call (.ref f) us) (EP X LU Z Q) X.xe P:=λE ap hE=>by
  have hl:(us++[]).length=ps.length:=by rw[KC,<-r.length];exact F'.len _ _ _ _ ap
  have al:=hb P us I1.kIn hl;rw[KC]at al;refine wpAny_call (codeAny_mono (F'.run X.A X.stack P B ⟨us,[]⟩ us vs Q E g.room I1.env0 al r ap) λr l hq=>?_)
  cases r with
  |error e =>
   obtain⟨ea,C,i,rfl,a1,a2,a3,a4,a5,a6⟩:=hq;exact hE ea C i l a1 a2 a3 a4 a5 a6
  |ok fl =>
   cases fl with
   |ret u=>exact I1.after hq
   |next=>exact False.elim hq
   |brk=>exact False.elim hq
   |cont=>exact False.elim hq
 cases eF:F xs M with
 |bad=>rw[eF]at O;exact O.elim
 |ok v h' =>
  rw[eF]at O;exact run (λ_ _ _=>False) ⟨y,xs,M,rx,L,by rw[eF];exact O⟩ λ_ _ _ _ _ _ _ _ _ z=>z.elim
 |exc x' h' =>
  rw[eF]at O;refine run (λc _ i=>∃C U',c=.ref C/\x'.fs=[]/\X.mg x'.cls=J (.ref C)/\Le y B U' i/\RH X.K X.mg U' i h') ⟨y,xs,M,rx,L,by rw[eF];exact λC U' i a b c d=>⟨C,U',rfl,a,b,c,d⟩⟩ λea C i l a1 a2 a3 a4 a5 a6=>?_;obtain⟨C',U',eC,b1,b2,b3,b4⟩:=a6;cases eC;have IX:=I1.call' (s':=l) a1 a3 a4 a2 (λb z=>absurd z (by simp));have as:=Inv.unpinned (LU:=[]) IX;exact O ea C U' i Z l P.heap b1 b2 b3 b4 (rs.le (l1.trans b3)) as (Inv.bears I1) a5
def bO(n:Nat)(a:UL):k_:=a.map J++List.replicate (n-a.length) Y
def cc(n i:Nat)(m:lg):UL->MH->UZ:=λf h=>if f.length=i then (match m (bO n f) h with
 |.nx _ a=>.ok .non a
 |.rt v a=>.ok v a
 |.exc x _ a=>.exc x a
 |.rse x _ a=>.exc x a
 |_=>.bad)else .bad
def A7{K:ib}{U:US}{H:Hp}{N:UM}{a:UL}{f:List V}(r:RPs K U H a f):RS K U H (bO N.length a) (L2.start N f):=by
 have z:=r.length;refine⟨by simp[bO,L2.start,z],λi v e=>?_⟩;unfold bO at e;by_cases j:i<a.length
 .rw[qr (by simpa using j),pr]at e
  cases q:a[i]? with
  |none=>rw[q]at e;cases e
  |some x =>
   rw[q]at e;cases e;obtain⟨u,l,y⟩:=r.get q;refine⟨u,?_,y⟩;unfold L2.start;rw[qr (by simp;lia),pr,l];rfl
 .rw[Ch (by simpa using j),GN]at e
  split at e<;>cases e
def Au{B h:Heap}(k:B.StaysIn h){b:Addr}{o a:Obj}(e1:B.get? b=J a)(e2:h.get? b=J o):a=o:=by
 have:=k b a e1
 rw[e2]at this;exact(Option.some.inj this).symm
def vd{X:Cx}{Z':L2.St}{L:Hp}{M:Shared}{E B:Heap}(f:Inv X [] Z' L M)(R:X.ex=[])(U:B.StaysIn M.heap)(r:B.StaysIn E)(S:M.heap.UpToSlots E)(C:∀b o,X.s₀.heap.get? b=J o->b∉X.fs->∃i,B.get? b=J i)(y:∀b o,L b=J o->∃i,B.get? b=J i):Un X.fs [] X.H₀ L X.s₀.heap E/\HOk X.prog X.w L E:=by
 have j:∀b:Addr,b∉X.ex:=λb=>by rw[R];simp
 have kp:∀b o i,B.get? b=J i->M.heap.get? b=J o->E.get? b=J o:=λb o i e1 e2=>by
  have:=Au U e1 e2
  subst this;exact r b i e1
 refine⟨⟨λb o e n hf _=>?_,λb o e n hf _=>?_,λb o e n _=>f.base.free b o e n (j b),λb o e _=>?_,f.base.tups,f.base.frzs,f.base.tbls⟩,λa o e=>?_⟩
 .obtain⟨i,l⟩:=C b o e hf;exact kp b o i l (f.base.keep b o e n hf (j b))
 .obtain⟨sl,e1⟩:=f.base.slot b o e n hf (j b);obtain⟨_,Z,F,P⟩:=f.ok.funs.mem hf;rw[e]at F;cases F;obtain⟨H,e2⟩:=S b _ e1 (λO z=>P O z);exact⟨H,e2⟩
 .by_cases hf:b∈X.fs
  .obtain⟨_,Z,F,P⟩:=f.ok.funs.mem hf;rw[e]at F;cases F;obtain⟨sl,e1⟩:=f.base.slot b o e (f.ok.frf b hf) hf (j b);obtain⟨H,e2⟩:=S b _ e1 (λO z=>P O z);exact⟨_,e2⟩
  .obtain⟨i,l⟩:=C b o e hf;exact⟨i,r b i l⟩
 .refine (f.hok a o e).stay (λb u Q z=>?_) (λ_ z=>z) λ_ _ z=>z;rcases Q with rfl|Q
  .obtain⟨i,l⟩:=y _ _ e;exact kp _ u i l z
  .obtain⟨i,l⟩:=y _ _ Q;exact kp _ u i l z
def _root_.L2.ObjOk.has(x:ObjOk P w H h a o):∃u,h.get? a=J u:=by
 cases o with
 |lst xs=>obtain⟨_,_,_,_,e⟩:=x;exact⟨_,e⟩
 |tup xs=>obtain⟨_,_,_,o,e,_⟩:=x;exact⟨o,e⟩
 |dK i=>obtain⟨_,_,_,_,o,_,_,e,_⟩:=x;exact⟨o,e⟩
 |dT i=>obtain⟨_,_,_,_,o,_,_,e,_⟩:=x;exact⟨o,e⟩
 |set S n=>obtain⟨o,_,_,_,e,_⟩:=x;exact⟨o,e⟩
 |ins C l fs=>obtain⟨_,_,_,e,_⟩:=x;exact⟨_,e⟩
 |own y=>obtain⟨o,e⟩:=x;exact⟨o,e⟩
 |xd fs=>obtain⟨_,⟨o,_,_,e,_⟩,_⟩:=x;exact⟨o,e⟩
 |rng lo z=>obtain⟨_,_,_,e⟩:=x;exact⟨_,e⟩
 |frz r u=>obtain⟨e,_⟩:=x;exact⟨_,e⟩
 |tbl j=>exact⟨_,(x)⟩
 |met f y=>exact⟨_,(x)⟩
 |ext φ=>obtain⟨_,⟨o,e⟩,_⟩:=x;exact⟨o,e⟩
structure i4(X:Cx):Prop where
 stk:X.stack=X.env::X.outer
 fr:X.env.frame=J X.env.locals
 ex:X.ex=[]
def QQ{P:Program}{w:World}{K:ib}{mg:UB}{base:Heap}{x a:Str}{st:Stmt}{f:Addr}{fd:FuncData}{ps:UM}{m:lg}(Fu:Fun K x a st f fd)(S:n_ N ps (aj st))(hl:∀y∈N,Loc (aj st) y)(a4:∀y∈G,(aj st).names.lookup y=J .globalImplicit)(dbg:∀x∈N++G,(x==("__debug__":Str))=T/\(x==("__classdict__":Str))=T/\x≠"__name__")(hb:∀X:Cx,X.prog=P->X.w=w->X.K=K->X.mg=mg->X.base=base->X.env.scope=aj st->Good X N N G k->i4 X->Bq X (aD st) m):
  FnOk P w K mg base (KJ P w) (k+1) f fd ps (Il K mg (cc N.length ps.length m)):=by
 have len:∀vs H Q E,Il K mg (cc N.length ps.length m) vs H Q E->vs.length=ps.length:=by
  rintro vs H Q E ⟨U,zs,h,r,rh,q⟩;rw[<-r.length];unfold cc at q;by_cases hp:zs.length=ps.length
  .exact hp
  .rw[f_ hp]at q;exact q.elim
 obtain⟨oc,od,kV,bn,pm,an,i,ct,bm,rfl,lk,a8⟩:=Fu.ex;refine LY lk a8 S len λA outer s H vs Q E hr ba=>?_;obtain⟨U,zs,h,r,rh,q⟩:=ba;refine⟨_,hb _ rfl rfl rfl rfl rfl rfl ⟨rfl,S.nd,hl,λ_ _=>.inl rfl,a4,dbg,rfl,hr,PassesOwn.leaving⟩ ⟨rfl,rfl,rfl⟩,U,bO N.length zs,h,A7 r,rh,?_⟩;unfold cc at q;by_cases hp:zs.length=ps.length
 .rw[b_ hp]at q
  cases e:m (bO N.length zs) h with
  |nx Z' h'=>rw[e]at q;exact λU' R Z' l r' s'=>q U' R .non l r' .non
  |rt v h'=>rw[e]at q;exact q
  |bk Z h'=>rw[e]at q;exact q.elim
  |ct Z h'=>rw[e]at q;exact q.elim
  |bad=>rw[e]at q;exact q.elim
  |exc x Z h' =>
   rw[e]at q;intro ea C U' R Z' s' bj ax ay l al a7 F a3 a9;obtain⟨B,t,a1,M,a0,as⟩:=a9;refine wpAny_leaves_onW (base:=B) (env:=envOfC a (aj st) s.heap.objs.size f i) (outer:=outer) F.ok.frames rfl a1 λa2 j sm=>?_;have L:∀b o,s.heap.get? b=J o->b∉xN outer->∃ob,B.get? b=J ob:=λb o eb hf=>by
    obtain⟨o',e'⟩:=a3.old b o eb (by show b∉([]:US);simp);refine a0 b o' e' λhm=>?_;rcases k4.mp (F.stkSub b hm)with z|z
    .exact absurd (l_ eb) (by rw[z];exact B4 _)
    .exact hf z
   obtain⟨un,ap⟩:=vd (B:=B) F rfl a1.1 j.1 sm L M;exact⟨ea,C,R,rfl,F.os,F.bare,un,ap,⟨B,t,j,M,L,as⟩,q C U' R ax ay l al⟩
  |rse x Z h' =>
   rw[e]at q;intro ea C U' R Z' s' h0 bi ax ay l al a7 F O;have be:=F.stack;have a6:∀env∈(envOfC a (aj st) s.heap.objs.size f i::outer),∀b,env.frame=J b->b∈xN (envOfC a (aj st) s.heap.objs.size f i::outer):=λenv he b hb=>C6.mpr ⟨env,he,hb⟩;refine wpAny_leaves_madeW (base:=PySem.W.hideAll h0 (xN (envOfC a (aj st) s.heap.objs.size f i::outer))) (h:=h0) (env:=envOfC a (aj st) s.heap.objs.size f i) (outer:=outer) F.ok.frames rfl (λb o z=>PySem.W.of_hideAll _ z)
    (PySem.W.funFrames_hide (base:=base) be a6) O λa2 t j _ _ sm=>?_
   have sub:∀b,b∈xN (envOfC a (aj st) s.heap.objs.size f i::outer)->b=s.heap.objs.size\/b∈xN outer:=λb hm=>k4.mp (F.stkSub b hm);have L:∀b o,s.heap.get? b=J o->b∉xN outer->∃ob,(PySem.W.hideAll h0 (xN (envOfC a (aj st) s.heap.objs.size f i::outer))).get? b=J ob:=λb o eb hf=>by
    obtain⟨o',e'⟩:=F.base.there b o eb (by show b∉([]:US);simp);refine⟨o',PySem.W.hideAll_get _ e' λhm=>?_⟩;rcases sub b hm with z|z
    .exact absurd (l_ eb) (by rw[z];exact B4 _)
    .exact hf z
   have M:∀b o,R b=J o->∃ob,(PySem.W.hideAll h0 (xN (envOfC a (aj st) s.heap.objs.size f i::outer))).get? b=J ob:=λb o eb=>by
    obtain⟨u,eu⟩:∃u,h0.get? b=J u:=(F.hok b o eb).has;refine⟨u,PySem.W.hideAll_get _ eu λhm=>?_⟩
    have:=F.stkFree b hm
    rw[eb]at this;cases this
   have a5:h0.UpToSlots a2:=(Heap.UpToSlots.of_keeps O.keeps).trans sm;obtain⟨un,ap⟩:=vd (B:=PySem.W.hideAll h0 (xN (envOfC a (aj st) s.heap.objs.size f i::outer))) F rfl (λb o z=>PySem.W.of_hideAll _ z) j.1 a5 L M;have as:R ea=Y:=by
    cases z:R ea with
    |none=>rfl
    |some o =>
     obtain⟨u,eu⟩:=(F.hok ea o z).has;rw[O.new]at eu;cases eu
   exact⟨ea,C,R,rfl,F.os,F.bare,un,ap,⟨_,t,j,M,L,as⟩,q C U' R ax ay l al⟩
 .rw[f_ hp]at q;exact q.elim
def wT(v:PV)(h:MH):Out MIt:=match v with
 |.loc n=>(match h[n]? with
  |some (.lst xs)=>.ok ⟨xs,[(n,xs)]⟩ h
  |_=>.bad)
 |.frl xs=>.ok ⟨xs,[]⟩ h
 |.tup xs=>.ok ⟨xs,[]⟩ h
 |_=>.bad
def iQ(m:Mx PV):Mx MIt:=λZ h=>(m Z h).bind wT
def n4(y:ME X l m):MI X tg l (iQ m):=by
 intro j s Z H R i ⟨U,a,h,r,u,q⟩;by_cases z:∃xs f,m a h=.ok (.tup xs) f
 .obtain⟨xs,f,e⟩:=z;refine Ic y j s Z H R i ⟨U,a,h,r,u,?_⟩;unfold iQ at q;unfold Mf;rw[e]at q ⊢;exact q
 .refine DW y j s Z H R i ⟨U,a,h,r,u,?_⟩;unfold iQ at q;unfold Me
  cases e:m a h with
  |ok v f =>
   rw[e]at q
   cases v with
   |tup xs=>exact absurd ⟨xs,f,e⟩ z
   |_=>exact q
  |exc x f=>rw[e]at q;exact q
  |bad=>rw[e]at q;exact q
def Inv.bigM{f:UU}{Z:L2.St}{H:Hp}{s:Shared}(a:Inv X f Z H s):sysModules<s.heap.objs.size:=by have h:=(a.mod.glob.keeps a.bk).lt;exact OF (by decide) h
def D_:Mx PV:=λ_ h=>.ok (.loc h.length) (h++[.dic [] []])
def v9:ME X (.Dict [] [] pos) D_:=λu s Z H Q a ⟨U,i,h,r,f,q⟩=>by
 have hf:=a.hok.fresh (il _);obtain⟨j,l⟩:=f.new hf (o:=.dic [] []) (ho:=.ext (DT s.heap.objs.size [])) ⟨[],[],rfl,(λ_ z=>nomatch z),.nil,.nil,rfl⟩;refine wpAny_Dict_empty ⟨.ref s.heap.objs.size,_,a.laid (t':=s.toks) (λ_ _ q=>m_ _ q) (il _) ?_,rfl,q _ _ _ l j (.loc (by rw[<-f.len];simp))⟩;refine⟨⟨_,#[],0,rT _ rfl,⟨rfl,rfl,rfl⟩,rfl,rfl,OD,beq_eq_false_iff_ne.mpr (Ne.symm (u_ (Inv.bigM a))),wl _⟩,⟨_,rT _ rfl⟩,qW⟩
structure FnAt(P:Program)(w:World)(K:ib)(mg:UB)(base:Heap)(x:Str)(ps:UM)(F:UL->MH->UZ)(k:Nat):Prop where
 ex:∃f fd,mg x=J (.ref f)/\PySem.W.keepIn K (.ref f)=I/\nu K fd ps []/\FnOk P w K mg base (KJ P w) k f fd ps (Il K mg F)/\∃oc od osl,K.lookup f=J ⟨oc,od,.func fd,osl⟩
def FnAt.mono{P:Program}{w:World}{K:ib}{mg:UB}{base:Heap}{x:Str}{l:UM}{F:UL->MH->UZ}{i j:Nat}(c:FnAt P w K mg base x l F i)(h:i<=j):FnAt P w K mg base x l F j :=
 let⟨f,fd,a,b,d,e,z⟩:=c.ex;⟨f,fd,a,b,d,e.mono h,z⟩
def FnAt.cal{P:Program}{w:World}{K:ib}{mg:UB}{base:Heap}{x:Str}{j:UM}{F:UL->MH->UZ}{i:Nat}(c:FnAt P w K mg base x j F i){X:Cx}(e1:X.prog=P)(e2:X.w=w)(e3:X.K=K)(e4:X.mg=mg)(e5:X.base=base):Cal X x j F i:=by subst e1;subst e2;subst e3;subst e4;subst e5;obtain⟨f,fd,a,b,d,e,_⟩:=c.ex;exact⟨f,fd,a,b,d,e⟩
structure e_(K:ib)(x:Str)(st:Stmt):Prop where
 ex:∃f fd,PySem.W.nsIn K mainGlobals x=J (J (.ref f))/\Fun K x x st f fd
def CU{K:ib}{x:Str}{st:Stmt}{f:Addr}{r:Value}{y u:UE}{sl:Array (UV)}{kV j pm i ct:Value}(a:PySem.W.nsIn K mainGlobals x=J (J (.ref f)))(l:K.lookup f=J ⟨r,y,.func (PySem.W.fnOf x x (ig st) (aD st) (aj st) .none kV j pm u i ct),sl⟩)(c:PySem.W.codeIn K i x=I)(kp:PySem.W.keepIn K (.ref f)=I):e_ K x st :=
 ⟨f,_,a,HL l c kp⟩
def hJ(x:Str)(st:Stmt)(j:UM):Prop:=∀(kV f pm:Value)(l:UE)(i ct:Value)(a:UT),a.length=j.length->bindArgs (PySem.W.fnOf x x (ig st) (aD st) (aj st) .none kV f pm l i ct) ⟨a,[]⟩=pure (j.zip a)
def sP{P:Program}{w:World}{K:ib}{mg:UB}{base:Heap}{x:Str}{st:Stmt}{j:UM}{m:lg}(kin:K.In base)(ns:base.Ns mainGlobals mg)(D:e_ K x st)(S:n_ N j (aj st))(B:hJ x st j)(L:∀y∈N,(aj st).names.lookup y=J .local\/(aj st).names.lookup y=J .cell)(l:∀y∈G,(aj st).names.lookup y=J .globalImplicit)(dbg:∀x∈N++G,(x==("__debug__":Str))=T/\(x==("__classdict__":Str))=T/\x≠"__name__")(H:∀X:Cx,X.prog=P->X.w=w->X.K=K->X.mg=mg->X.base=base->X.env.scope=aj st->Good X N N G k->i4 X->Bq X (aD st) m):
  FnAt P w K mg base x j (cc N.length j.length m) (k+1):=by
 obtain⟨f,fd,a,i⟩:=D.ex;have E:=i.ex;obtain⟨F,C,kV,u,pm,M,z,ct,r,e1,e2,_⟩:=E;exact⟨f,fd,PySem.W.mg_of kin ns a,i.kp,i.binds B,QQ i S L l dbg H,F,C,r,e2⟩
def Im{P:Program}{w:World}{K:ib}{mg:UB}{h:Heap}{x y:Str}{st:Stmt}{F:UL->MH->UZ}{r:Addr}(D:e_ K x st)(B:hJ x st [y])(l:mg x=J (.ref r))(kin:K.In h)(ns:h.Ns mainGlobals mg)(H:∀base:Heap,K.In base->base.Ns mainGlobals mg->FnAt P w K mg base x [y] F k):
  ∃fd:FuncData,(∀(s:Shared)(u:Value),BindsTo s fd ⟨[u],[]⟩ [(y,u)])/\∀base:Heap,K.In base->base.Ns mainGlobals mg->FnOk P w K mg base (KJ P w) k r fd [y] (Il K mg F):=by
 obtain⟨f,fd,a,E⟩:=D.ex;have e:=l.symm.trans (PySem.W.mg_of kin ns a);obtain⟨oc,Z,kV,i,pm,M,j,ct,Q,e1,e2,e3⟩:=E.ex;refine⟨fd,λs u=>.of_eq ?_,λbase kb nb=>?_⟩
 .rw[e1];exact B kV i pm M j ct [u] rfl
 .obtain⟨f',O,g1,R,g3,S,L,C,z,U⟩:=(H base kb nb).ex
  grind
def Ml(K:ib):Sp:=λf H Q _=>∃(a:Addr)(ns:UN),f=[.ref a]/\SqF K H a (ns.map V.int)/\ns.length<=63/\∀i,Q (.bl I) i
def Io{l:PySem.W.OpenLaw}{q:Program}{loose:UM}{XP:(Str->UV)->Heap->Prop}{P:World->Heap->Prop}{d:DefRec}{K:Params->ib}{x:Str}{F:UL->MH->UZ}(hn:l.most=J 63)(j:d.params.defaults=[])(hr:Room k callerA)(hY:∀(w:World)(h:Heap),P w h->(K w.params).In h)(HF:∀(w:World)(mg:UB)(i:Addr)(h:Heap),(K w.params).In h->h.Ns mainGlobals mg->mg d.name=J (.ref i) ->
   ∃fd:FuncData,(∀(s:Shared)(u:Value),BindsTo s fd ⟨[u],[]⟩ [(x,u)])/\∀base:Heap,(K w.params).In base->base.Ns mainGlobals mg->FnOk l.prog w (K w.params) mg base (KJ l.prog w) k i fd [x] (Il (K w.params) mg F))(Z:∀ns:UN,ns.length<=63->∃R,F [.frl (ns.map .int)] []=.ok (.bl I) R):
  PySem.W.WalkO q loose XP P l.row.toRowW d [] (λf O=>PySem.call f O):=by
 refine L2.DN (x:=x) (CX:=λw=>KJ l.prog w) (sp:=λw=>Ml (K w.params)) hn (by decide) j hr hY (λw mg i h hK L C=>?_) (λw H a ns M S U=>?_) λw H s e s' z=>?_
 .obtain⟨fd,hb,hF⟩:=HF w mg i h hK L C;refine⟨fd,hb,λbase kb nb=>(hF base kb nb).imp λO H Q E z=>?_⟩;obtain⟨a,ns,rfl,B,M,hq⟩:=z;obtain⟨R,e⟩:=Z ns M;refine⟨[],[.frl (ns.map .int)],[],.cons (.frl B (RPs.ints ns)) .nil,⟨rfl,OD,λn a o z _=>by simp at z⟩,?_⟩;rw[e];intro U' H' v' _ _ r;cases r;exact hq H'
 .have B:SqF (K w.params) H a (ns.map V.int):=by
   rcases U with(z|z)|z
   .rcases S a with y|⟨o,xs,y⟩
    .rw[y]at z;cases z
    .rw[y]at z;cases z
   .exact .inl z
   .exact .inr z
  exact⟨a,ns,rfl,B,M,λ_=>rfl⟩
 .obtain⟨_,_,_,_,_,_,_,_,_,z⟩:=z;exact z
end
section
variable{α:Type}{Z:k_}{h:MH}
@[simp]theorem Gc:mC v Z h=.ok v h:=rfl
@[simp]theorem QR{v:PV}{r:k_}:ae 0 (J v::r) h=.ok v h:=rfl
@[simp]theorem QS{i:Nat}{o:Option PV}{r:k_}:ae (i+1) (o::r) h=ae i r h:=by simp[ae]
@[simp]theorem lO:ah f a b Z h=(a Z h).bind λx h1=>(b Z h1).bind λy h2=>(f x y h2).ne:=rfl
@[simp]theorem QT:OO f a Z h=(a Z h).bind λx h1=>(f x h1).ne:=rfl
@[simp]theorem QU:wR f a Z h=(a Z h).bind λx h1=>(f x h1).ne:=rfl
@[simp]theorem m8:bA f a Z h=(a Z h).bind f:=rfl
@[simp]theorem lA:h8 Z h=.ok [] h:=rfl
@[simp]theorem fP:af a r Z h=(a Z h).bind λx h1=>(r Z h1).bind λxs h2=>.ok (x::xs) h2:=rfl
@[simp]theorem Ea:eX a Z h=(a Z h).bind pe:=rfl
@[simp]theorem Eb:iA a Z h=(a Z h).bind r_:=rfl
@[simp]theorem Ec:D_ Z h=.ok (.loc h.length) (h++[.dic [] []]):=rfl
@[simp]theorem Ge:mB a Z h=(a Z h).bind λv h1=>match v with|.bl b=>.ok b h1|_=>.bad:=rfl
@[simp]theorem OS:HR a Z h=(a Z h).bind λb h1=>.ok (!b) h1:=rfl
@[simp]theorem OT:DP a b Z h=(a Z h).bind λx h1=>if x=I then b Z h1 else .ok T h1:=rfl
@[simp]theorem QV:OP a b Z h=(a Z h).bind λx h1=>if x=I then .ok I h1 else b Z h1:=rfl
@[simp]theorem Mm:xu a b Z h=(a Z h).bind λx h1=>match x with|.bl c=>if c=I then b Z h1 else .ok (.bl T) h1|_=>.bad:=rfl
@[simp]theorem Mn:wP a Z h=(a Z h).bind λx h1=>match x with|.bl c=>.ok (.bl (!c)) h1|_=>.bad:=rfl
@[simp]theorem tK:kw Z h=.nx Z h:=rfl
@[simp]theorem dG:aZ a b Z h=(a Z h).then b:=rfl
@[simp]theorem ak:(SOut.nx Z h).then k=k Z h:=rfl
@[simp]theorem vH:(SOut.rt v h).then k=.rt v h:=rfl
@[simp]theorem then_bk:(SOut.bk Z h).then k=.bk Z h:=rfl
@[simp]theorem then_ct:(SOut.ct Z h).then k=.ct Z h:=rfl
@[simp]theorem BA:(SOut.rse x Z h).then k=.rse x Z h:=rfl
@[simp]theorem BO:(SOut.exc x Z h).then k=.exc x Z h:=rfl
@[simp]theorem AB:SOut.bad.then k=.bad:=rfl
def Out.rt(o:UZ)(Z:k_):SOut:=match o with
 |.ok v a=>.rt v a
 |.exc x a=>.exc x Z a
 |.bad=>.bad
@[simp]theorem SI:(Out.ok v h).rt Z=.rt v h:=rfl
@[simp]theorem QW:(Out.exc x h:UZ).rt Z=.exc x Z h:=rfl
@[simp]theorem QX:(Out.bad:UZ).rt Z=.bad:=rfl
@[simp]theorem pZ:bP m Z h=(m Z h).rt Z:=rfl
def Out.go{α:Type}(o:Out α)(Z:k_)(k:α->lg):SOut:=match o with
 |.ok v a=>k v Z a
 |.exc x a=>.exc x Z a
 |.bad=>.bad
@[simp]theorem aA:(Out.ok v h).go Z k=k v Z h:=rfl
@[simp]theorem go_exc:(Out.exc x h:Out α).go Z k=.exc x Z h:=rfl
@[simp]theorem go_bad:(Out.bad:Out α).go Z k=.bad:=rfl
@[simp]theorem Ip:wH m k Z h=(m Z h).go Z k:=rfl
@[simp]theorem Mo:gZ m Z h=(m Z h).go Z λ_=>kw:=rfl
@[simp]theorem tP:BN c a b Z h=(c Z h).go Z λx=>if x=I then a else b:=rfl
@[simp]theorem oW:bp i m Z h=(m Z h).go Z λv Z h=>.nx (Z.set i (J v)) h:=rfl
@[simp]theorem Ed:mW m g Z h=(m Z h).go Z λv Z h=>match g v Z h with|.nx Z2 h2=>.nx Z2 h2|.exc x Z2 h2=>.exc x Z2 h2|_=>.bad:=rfl
@[simp]theorem QY:Cm i v Z h=.nx (Z.set i (J v)) h:=rfl
@[simp]theorem QZ:QP [] Z h=.nx Z h:=rfl
@[simp]theorem Q0:OQ a r (v::vs) Z h=(a v Z h).then (r vs):=rfl
@[simp]theorem Q1:OR r n (.tup xs) Z h=if xs.length=n then r xs Z h else .bad:=rfl
@[simp]theorem Ee:mK mi g b Z h=(mi Z h).go Z λit=>xm it g b it.xs:=rfl
@[simp]theorem OU:iQ m Z h=(m Z h).bind wT:=rfl
@[simp]theorem Mp:lv m Z h=(m Z h).bind λvs h1=>match vs with
 |[.int j]=>if -(2^62)<=j/\j<2^62 then .ok ⟨bz 0 j.toNat,[]⟩ h1 else .bad
 |_=>.bad:=rfl
@[simp]theorem Q2:Md mo mi v Z h=(mo Z h).go Z λo=>wH mi λi Z h=>match sO o i v h with
 |some h2=>.nx Z h2
 |none=>.bad:=rfl
def SOut.fin(o:SOut):UZ:=match o with
 |.nx _ a=>.ok .non a
 |.rt v a=>.ok v a
 |.exc x _ a=>.exc x a
 |.rse x _ a=>.exc x a
 |_=>.bad
@[simp]theorem fin_exc:(SOut.exc x Z h).fin=.exc x h:=rfl
@[simp]theorem fin_rse:(SOut.rse x Z h).fin=.exc x h:=rfl
@[simp]theorem iu:(SOut.rt v h).fin=.ok v h:=rfl
@[simp]theorem fin_nx:(SOut.nx Z h).fin=.ok .non h:=rfl
theorem e9(e:ps.length=np):cc n np m ps h=(m (bO n ps) h).fin:=by unfold cc;rw[b_ e];rfl
end
section
variable{h:MH}{i j:Int}
@[simp]theorem Mq:j3 (.int i) (.int j) h=.ok (.int (i+j)) h:=rfl
@[simp]theorem Mr:A0 (.int i) (.int j) h=.ok (.int (i-j)) h:=rfl
@[simp]theorem OV:CT (.int i) h=.ok (.int (-i)) h:=rfl
@[simp]theorem OW:BU (.int i) (.int j) h=.ok (.bl (decide (i<j))) h:=rfl
@[simp]theorem OX:Ig (.int i) (.int j) h=.ok (.bl (decide (i<=j))) h:=rfl
@[simp]theorem OY:BV (.int i) (.int j) h=.ok (.bl (decide (j<i))) h:=rfl
@[simp]theorem OZ:CQ (.int i) (.int j) h=.ok (.bl (decide (j<=i))) h:=rfl
@[simp]theorem O0:BS (.int i) (.int j) h=.ok (.bl (decide (i=j))) h:=rfl
@[simp]theorem O3:Ae (.int i) (.int j) h=.ok (.bl (!decide (i=j))) h:=rfl
@[simp]theorem O4:BS (.bl a) (.bl b) h=.ok (.bl (a==b)) h:=by simp[BS,rd,SeqAt.shaped,PyData.canLay0,PyData.depth,PyData.eqv]
@[simp]theorem O5:Ae (.bl a) (.bl b) h=.ok (.bl (!(a==b))) h:=by simp[Ae,rd,SeqAt.shaped,PyData.canLay0,PyData.depth,PyData.eqv]
theorem fR(a:j≠0):kx (.int i) (.int j) h=.ok (.int (i.fmod j)) h:=by simp[kx,a]
def wF(a:j≠0)(f:j.natAbs.log2<9000):Cw (.int i) (.int j) h=.ok (.int (i.fdiv j)) h:=by simp[Cw,a,PyProof.noPylong_of_log2 f]
def hU(a:-(2^64)<i/\i<2^64):j0 (.int i) (.int j) h=.ok (.int (i*j)) h:=by simp[j0,IntMulOk.of_left (intBits_le_64 a.1 a.2)]
def Ef(a:-(2^64)<j/\j<2^64):j0 (.int i) (.int j) h=.ok (.int (i*j)) h:=by simp[j0,IntMulOk.of_right (intBits_le_64 a.1 a.2)]
def uv(a:0<=j/\j<=1000000/\i.natAbs<2^64):pk (.int i) (.int j) h=.ok (.int (i^j.toNat)) h:=by simp[pk,gK,a]
@[simp]theorem Q3:BW [.int i] h=.ok (.int (if i<0 then -i else i)) h:=rfl
@[simp]theorem O6:BX [.int i,.int j] h=.ok (.int (if j<i then j else i)) h:=rfl
@[simp]theorem O7:DY [.int i,.int j] h=.ok (.int (if j>i then j else i)) h:=rfl
@[simp]theorem Ms:p9 [.frl xs] h=.ok (.int xs.length) h:=rfl
@[simp]theorem Mt:p9 [.tup xs] h=.ok (.int xs.length) h:=rfl
theorem nC(a:xs.length<=1000):pe xs h=.ok (.loc h.length) (h++[.lst xs]):=by unfold pe;rw[b_ (mu a (by decide))]
def u9(a:m<n):wx n (m:Int)=J m:=by unfold wx;rw[b_ ⋯,b_ ⋯];simp
@[simp]theorem xw:mh (a::r) 0=J a:=ik (j:=0) rfl
@[simp]theorem Gf:mh (a::b::r) 1=J b:=ik (j:=1) rfl
@[simp]theorem SJ:mh (a::b::c::r) 2=J c:=ik (j:=2) rfl
@[simp]theorem SK:mh (a::b::c::d::r) 3=J d:=ik (j:=3) rfl
def Out.ofO(o:Option PV)(h:MH):UZ:=match o with
 |some v=>.ok v h
 |none=>.bad
@[simp]theorem Mu:Out.ofO (J v) h=.ok v h:=rfl
@[simp]theorem Mw:aU (.tup xs) (.int i) h=Out.ofO (mh xs i) h:=rfl
@[simp]theorem My:aU (.frl xs) (.int i) h=Out.ofO (mh xs i) h:=rfl
theorem jH(e:h[n]?=J (.lst xs)):aU (.loc n) (.int i) h=Out.ofO (mh xs i) h:=by simp only[aU,e];rfl
def mQ(e:h[n]?=J (.lst xs)):sO (.loc n) (.int i) v h=(wx xs.length i).map λp=>h.set n (.lst (xs.set p v)):=by simp only[sO,e]
@[simp]theorem KL:wT (.tup xs) h=.ok ⟨xs,[]⟩ h:=rfl
@[simp]theorem KN:wT (.frl xs) h=.ok ⟨xs,[]⟩ h:=rfl
@[simp]theorem Eg:(⟨xs,[]⟩:MIt).ok h↔True:=⟨λ_=>trivial,λ_ p hp=>nomatch hp⟩
@[simp]theorem O8:(⟨xs,[(n,zs)]⟩:MIt).ok h↔h[n]?=J (.lst zs):=by
 constructor
 .intro q;exact q (n,zs) (by simp)
 .intro q p hp;have e:=B3.mp hp;subst e;exact q
end
def SOut.turn(o:SOut)(k:lg):SOut:=match o with
 |.nx f a=>k f a
 |.ct f a=>k f a
 |.bk f a=>.nx f a
 |.rt v a=>.rt v a
 |.exc e f a=>.exc e f a
 |.rse e f a=>.rse e f a
 |.bad=>.bad
@[simp]theorem Aj:(SOut.rse x Z h).turn k=.rse x Z h:=rfl
@[simp]theorem BL:(SOut.exc x Z h).turn k=.exc x Z h:=rfl
@[simp]theorem turn_nx:(SOut.nx Z h).turn k=k Z h:=rfl
@[simp]theorem turn_ct:(SOut.ct Z h).turn k=k Z h:=rfl
@[simp]theorem turn_bk:(SOut.bk Z h).turn k=.nx Z h:=rfl
@[simp]theorem turn_rt:(SOut.rt v h).turn k=.rt v h:=rfl
theorem Eh(e:it.ok h):xm it g b [] Z h=.nx Z h:=by rw[xm];dsimp only;rw[b_ e]
def AM(e:it.ok h)(a:g x Z h=.nx Z1 h1):xm it g b (x::r) Z h=(b Z1 h1).turn (xm it g b r):=by rw[xm];dsimp only;rw[b_ e,a];rfl
def ua(i:Nat->Shared->Prop)(turn:∀n s,i n s->wpAny (model prog w) A (pyNext it) (λr l=>match r with
   |none=>R (.ok .next) l
   |some v=>wpAny (model prog w) A (letOwnedTupleGo target it v) (λ_ a=>wpAny (model prog w) A (assign target env v) (λ_ B =>
     wpAny (model prog w) A (forIn ifs I λc r=>if r=I then do let ok <-isTrue c env (eval c env);pure (ForInStep.yield ok)else pure (ForInStep.yield r)) (λok f =>
      if ok=I then wpAny (model prog w) A (eval elt env) (λx C =>
       wpAny (model prog w) A (call (.builtin "list.append") [acc,x]) (λ_ z=>∃m,m<n/\i m z) (λ_ _=>False) C) (λ_ _=>False) f
      else ∃m,m<n/\i m f) (λ_ _=>False) B) (λ_ _=>False) a) (λ_ _=>False) l) (λ_ _=>False) s)(n:Nat)(h:i n s):
  codeAny (model prog w) A (.compLoop (.ListComp elt [⟨target,iter,ifs,0⟩] scope pos) 0 it acc env) R s:=by
 refine codeAny_loop rfl i (λn s L=>?_) n h;refine wpAny_noted ?_;rw[compTurn_list];refine d_ (wpAny_standAt (d_ (wpAny_mono (turn n s L) (λr l u=>?_) λ_ _ j=>j.elim)))
 cases r with
 |none=>exact ii u
 |some v =>
  refine d_ (wpAny_mono u (λ_ a E=>?_) λ_ _ j=>j.elim);refine d_ (wpAny_mono E (λ_ B G=>d_ (wpAny_mono G (λok f y=>?_) λ_ _ j=>j.elim)) λ_ _ j=>j.elim)
  cases ok with
  |false=>exact ii ⟨rfl,y⟩
  |true =>
   exact d_ (d_ (wpAny_mono y (λx C H=>d_ (wpAny_mono H (λ_ z F=>ii (ii ⟨rfl,F⟩)) λ_ _ j=>j.elim)) λ_ _ j=>j.elim))
def jV(env:Env):List (Str×NameKind)->List (Str×Addr)->List (Str×Addr)
 |[],a=>a
 |(n,k)::r,a=>jV env r (if(k==NameKind.free)=I then(n,(env.cells.lookup n).getD 0)::a else a)
def rn(h:∀y∈scope.names,y.2=.free->∃c,env.cells.lookup y.1=J c):closureFor scope env=pure (jV env scope.names []):=by
 have key:∀(l:List (Str×NameKind))(f:List (Str×Addr)),(∀y∈l,y.2=.free->∃c,env.cells.lookup y.1=J c) ->
   (forIn l f λ(x:Str×NameKind)(r:List (Str×Addr))=>if(x.2==NameKind.free)=I then(do let a <-cellOf env x.1;pure (ForInStep.yield ((x.1,a)::r)):Sem _)else pure (ForInStep.yield r))=(pure (jV env l f):Sem _):=by
  intro l
  induction l with
  |nil=>intro f _;rfl
  |cons y l u =>
   intro f C;obtain⟨n,k⟩:=y;rw[List.forIn_cons];have B:=λz F=>C z (lb _ F);by_cases i:(k==NameKind.free)=I
   .obtain⟨c,E⟩:=C (n,k) wj (by simpa using i);rw[b_ i];have j:cellOf env n=pure c:=by unfold cellOf;rw[E]
    rw[j];refine(u ((n,c)::f) B).trans ?_;simp only[jV,i,if_true,E,C7]
   .rw[f_ i];refine(u f B).trans ?_;simp[jV,i]
 exact(congrArg (λz=>z >>= λr=>pure r) (key scope.names [] h)).trans rfl
def mj:∀(l:List (Str×NameKind))(f:List (Str×Addr)),(∀a,f.lookup x=J a->a=(env.cells.lookup x).getD 0)->(∀a,(jV env l f).lookup x=J a->a=(env.cells.lookup x).getD 0)/\((∃k,(x,k)∈l/\k=.free)\/(∃a,f.lookup x=J a)->∃a,(jV env l f).lookup x=J a):=by
 intro l
 induction l with
 |nil =>
  intro f h;refine⟨h,λz=>?_⟩;rcases z with⟨k,z,_⟩|z
  .cases z
  .exact z
 |cons y r E =>
  intro f h;obtain⟨n,k⟩:=y;have F:∀a,(if(k==NameKind.free)=I then(n,(env.cells.lookup n).getD 0)::f else f).lookup x=J a->a=(env.cells.lookup x).getD 0:=λa i=>by
   split at i
   .rw[Dj]at i
    split at i
    .rename_i e
     have:x=n:=by simpa using e
     subst this;exact(Option.some.inj i).symm
    .exact h a i
   .exact h a i
  obtain⟨B,u⟩:=E _ F;refine⟨B,λz=>u ?_⟩;rcases z with⟨C,z,j⟩|⟨a,z⟩
  .rcases k4.mp z with e|e
   .cases e;right;subst j;exact⟨(env.cells.lookup x).getD 0,by simp⟩
   .exact .inl ⟨C,e,j⟩
  .right;split
   .rw[Dj];split
    .exact⟨_,rfl⟩
    .exact⟨a,z⟩
   .exact⟨a,z⟩
def cr{env:Env}(j:env.scope.kind=.function):∀{names:List (Str×NameKind)}{x:Str}{k:NameKind},names.lookup x=J k ->
  (names.map λ(n,k)=>if(k==NameKind.free&&env.scope.kind == .function&&env.kindOf n==J .cell)then(n,NameKind.cell)else(n,k)).lookup x=J (if k=.free/\env.kindOf x=J .cell then .cell else k):=by
 intro names
 induction names with
 |nil=>intro x k h;simp at h
 |cons y r i =>
  intro x k h;obtain⟨n,f⟩:=y;have l:=@i x k;show List.lookup x ((if(f==NameKind.free&&env.scope.kind == .function&&env.kindOf n==J .cell)=I then(n,NameKind.cell)else(n,f))::_)=_
  cases a:x==n with
  |true =>
   have e:x=n:=by simpa using a
   subst e;simp only[Dj,a]at h;cases h;by_cases z:k=.free/\env.kindOf x=J .cell
   .rw[b_ (by simp[z.1,z.2,j]),b_ z];simp
   .rw[f_ (by simp[j];intro B C;exact z ⟨B,C⟩),f_ z];simp
  |false =>
   simp only[Dj,a]at h;by_cases u:(f==NameKind.free&&env.scope.kind == .function&&env.kindOf n==J .cell)=I
   .rw[b_ u];simp only[Dj,a];exact l h
   .rw[f_ u];simp only[Dj,a];exact l h
def dW(X:Cx)(a:Scope)(cl:List (Str×Addr))(f:Shared)(i:Hp)(j:US)(l:UM):Cx :=
 { X with N:=l,s₀:=f,H₀:=i,env:=compEnvC a cl f.heap.objs.size X.env,outer:=X.stack,ex:=j,fn:=λx=>decide (a.names.lookup x=J .cell),pn:=[],xe:=λ_ _=>False}
structure xP(X:Cx)(N:UM)(scope:Scope)(vars frees:UM)(fm:UQ):Prop where
 kind:scope.kind=.function
 cell:∀y∈scope.names,y.2=.cell->scope.names.lookup y.1=J .cell
 names:∀y∈scope.names,y.2=.local->scope.names.lookup y.1=J .local
 hv:∀x∈vars,scope.names.lookup x=J .local\/scope.names.lookup x=J .cell
 hf:∀x∈frees,scope.names.lookup x=J .free
 all:∀y∈scope.names,y.2=.free->y.1∈frees
 fm:fm.map (λi=>N[i]?)=frees.map J
 cl:∀x∈frees,X.env.kindOf x=J .cell
def CV(a:Nat)(fm:UQ)(Z:k_):k_:=List.replicate a Y++fm.map λi=>(Z[i]?).getD Y
def A4(a:MIt)(n:Nat)(j:Mg)(mt:Mx Bool)(i:Mx PV):UL->k_->MH->Out Unit
 |[],_,h=>if a.ok h then .ok () h else .bad
 |x::r,Z,h=>if a.ok h then (match j x Z h with
  |.nx f y=>(mt f y).ne.bind λb u=>if b=I then (i f u).ne.bind λv l=>(match l[n]? with
    |some (.lst ys)=>if ys.length<sizeLine then A4 a n j mt i r f (l.set n (.lst (ys++[v])))else .bad
    |_=>.bad)else A4 a n j mt i r f u
  |_=>.bad)else .bad
def dY(j:Nat)(fm:UQ)(u:Mx MIt)(r:Mg)(mt:Mx Bool)(l:Mx PV):Mx PV:=λZ h =>
 (u Z h).bind λf a=>(A4 f a.length r mt l f.xs (CV j fm Z) (a++[.lst []])).bind λ_ i=>.ok (.loc a.length) i
def Gg(X:Cx)(a:UX)(m:Mx Bool):Prop :=
 ∀(f:UU)(s:Shared)(Z:L2.St)(H:Hp)(Q:Bool->Hp->Prop),Inv X f Z H s->tM X L_ m Z H Q ->
  wpAny (model X.prog X.w) X.A (forIn a I λc r=>if r=I then do let ok <-isTrue c X.env (eval c X.env);pure (ForInStep.yield ok)else pure (ForInStep.yield r)) (TP X f Z Q) X.xe s
def xQ:Mx Bool:=λ_ h=>.ok I h
def oH:Gg X [] xQ:=λl s Z H Q a ⟨U,f,h,j,i,q⟩=>wpAny_tests_nil ⟨H,a,q U H I (Le.refl _ _) i rfl⟩
def vB(h:MT X c m):Gg X [c] m:=λf s Z H Q a q=>wpAny_tests_one (h f s Z H Q a q)
inductive CS(X:Cx)(U:US)(H:Hp)(σp:k_)(gt:Mg)(mt:Mx Bool)(me:Mx PV)(Z0:k_)(Q:VK)(J:It)(H1:Hp):Prop
 |mk(U1:US)(it:MIt)(h1:MH)(l:Le U H U1 H1)(rh:RH X.K X.mg U1 H1 h1)(j:tF X U1 H1 it J)(q:Ful X (RV' X) σp U1 H1 ((A4 it h1.length gt mt me it.xs Z0 (h1++[.lst []])).bind λ_ h3=>.ok (.loc h1.length) h3) Q):CS X U H σp gt mt me Z0 Q J H1
inductive CI(X Y:Cx)(it:MIt)(tn:Nat->Heap->Prop)(fp U0:US)(H0:Hp)(σp:k_)(n1:Nat)(gt:Mg)(mt:Mx Bool)(me:Mx PV)(Q:VK)(n:Nat)(s6:Shared):Prop
 |mk(i:Nat)(Z6:L2.St)(H6:Hp)(U6:US)(σp6:k_)(h6:MH)(e:n=it.xs.length-i)(l:i<=it.xs.length)(v:Inv Y [] Z6 H6 s6)(t:tn i s6.heap)(f:∀b∈fp,H6 b=none)(le:Le U0 H0 U6 H6)(rs:RS X.K U6 H6 σp6 Z6)(rh:RH X.K X.mg U6 H6 h6)
   (q:Ful X (RV' X) σp U6 H6 ((A4 it n1 gt mt me (it.xs.drop i) σp6 h6).bind λ_ h3=>.ok (.loc n1) h3) Q):CI X Y it tn fp U0 H0 σp n1 gt mt me Q n s6
def rF(j:Q (newEnv scope s.heap.objs.size globals (cellsFrom (s.heap.objs.size+1) scope.names closure) qual Y .none (J env) builtinsNs) { s with heap:=pushCells (s.heap.push { cls:=.type "dict",data:=.dict #[]}) scope.names}):
  wpAny M A (newFunctionEnv scope globals closure [] qual Y .none (J env)) Q E s:=by
 simp only[newFunctionEnv,Option.isSome_some,if_true];refine d_ (wpAny_alloc ?_);refine d_ (wpAny_layCells _ (λf kind a=>by cases i:kind==NameKind.cell<;>simp) _ _ _ _ ?_);rw[show({ s with heap:=s.heap.push { cls:=.type "dict",data:=.dict #[]}}:Shared).heap.objs.size=s.heap.objs.size+1 from F1 ..];exact d_ (ii (ii j))
def dv:∀(names:List (Str×NameKind))(n:Nat)(a:List (Str×Addr)),cellsFrom n names a=cellsFrom n names []++a
 |[],n,a=>rfl
 |(x,k)::r,n,a=>by
  unfold cellsFrom;split
  .rw[dv r (n+1) ((x,n)::a),dv r (n+1) [(x,n)]];simp
  .exact dv r n a
def fu:∀(names:List (Str×NameKind))(n:Nat)(x:Str),(∃c,(x,c)∈cellsFrom n names [])↔(x,NameKind.cell)∈names
 |[],n,x=>by simp[cellsFrom]
 |(y,k)::r,n,x=>by
  unfold cellsFrom;split
  .rename_i i
   have f:k=NameKind.cell:=by simpa using i
   subst f;rw[dv];constructor
   .rintro⟨c,a⟩;rcases lT.mp a with a|a
    .exact lb _ ((fu r (n+1) x).mp ⟨c,a⟩)
    .have:x=y:=by simp at a;exact a.1
     rw[this];exact wj
   .intro h;rcases k4.mp h with e|h
    .have:x=y:=by simpa using e
     subst this;exact⟨n,o_ _ (by simp)⟩
    .obtain⟨c,a⟩:=(fu r (n+1) x).mpr h;exact⟨c,xg _ a⟩
  .rw[fu r n x];constructor
   .exact lb _
   .intro h;rcases k4.mp h with e|h
    .exfalso
     grind
    .exact h
def m5{α:Type}:∀(a b:List (Str×α))(x:Str),(a++b).lookup x=(a.lookup x).or (b.lookup x):= by grind
def AU{α:Type}:∀(a:List (Str×α))(x:Str),a.lookup x=Y->∀c,(x,c)∉a:= by grind
section
variable{X:Cx}{N W G:UM}{k:Nat}
def qh(g:Good X N W G k){tg ax cp:Expr}{cb:UX}{f:Scope}{dg:Pos}{B frees G':UM}{fm:UQ}{mi:Mx MIt}{gt:Mg}{mt:Mx Bool}{me:Mx PV}(C:xP X N f B frees fm)(nd:(B++frees).Nodup)(gp:∀x∈G',f.names.lookup x=J .globalImplicit)(dbg:∀x∈(B++frees)++G',(x==("__debug__":Str))=T/\(x==("__classdict__":Str))=T/\x≠"__name__")(hi:MI X tg ax mi)(hY:∀al:Cx,al.prog=X.prog->al.w=X.w->al.K=X.K->al.mg=X.mg->al.base=X.base->al.env.scope=relabel f X.env->Good al (B++frees) B G' k->MG al tg gt/\Gg al cb mt/\ME al cp me)(hs:∀x,foldedSetIterable ax X.env x=pure x){use:Option (Value->Sem Unit)}{Qv:UA}{pp:Pos}{LU:UU}{s:Shared}{Z:L2.St}{H:Hp}{Q:VK}(dd:Inv X LU Z H s)(tm:tM X (RV' X) (dY B.length fm mi gt mt me) Z H Q)(fin:∀(d2 C:Addr) (H6:Hp) (s7:Shared) (m7:UB),Inv X LU Z H6 s7->H6 C=Y->s7.heap.Ns C m7->C≠X.env.locals->X.s₀.heap.objs.size<=C->C∉X.fs->(∀x c,X.env.cells.lookup x=J c->c≠C)->(∀p∈X.pn++LU,p.1≠C)->Q (.ref d2) H6 ->
   compPost (model X.prog X.w) X.A X.xe use Qv (.ref d2) C (.ok .next) s7):
  wpAny (model X.prog X.w) X.A (comprehension (.ListComp cp [⟨tg,ax,cb,0⟩] f dg) f X.env pp (newList []) T (eval ax X.env) use) Qv X.xe s:=by
 obtain⟨U,as,h,rs,rh,q⟩:=tm;have b4:∀y∈f.names,y.2=.free->∃c,X.env.cells.lookup y.1=J c:=λy hy e=>dd.ok.has y.1 (.inl (C.cl _ (C.all y hy e)));refine wpAny_comprehension_free (use:=use) rfl hs (rn b4) C.kind C.names ?_;generalize df:jV X.env f.names []=cl;have eh:∀x a,cl.lookup x=J a->X.env.cells.lookup x=J a\/((X.env.cells.lookup x)=Y/\a=0):=λx a e=>by
  rw[<-df]at e
  have:=(mj (env:=X.env) (x:=x) f.names [] (λa z=>by simp at z)).1 a e
  cases z:X.env.cells.lookup x with
  |none=>right;rw[z]at this;exact⟨rfl,this⟩
  |some c=>left;rw[z]at this;rw[this];rfl
 have ec:∀x∈frees,∃c,cl.lookup x=J c/\X.env.cells.lookup x=J c:=λx hx=>by
  obtain⟨c,hc⟩:=dd.ok.has x (.inl (C.cl x hx));have hm:(∃kk,(x,kk)∈f.names/\kk=.free):=⟨.free,PySem.mem_of_lookup (C.hf x hx),rfl⟩;obtain⟨a,ha⟩:=(mj (env:=X.env) (x:=x) f.names [] (λa z=>by simp at z)).2 (.inl hm);rw[df]at ha;rcases eh x a ha with z|⟨z,_⟩
  .rw[hc]at z;cases z;exact⟨c,ha,hc⟩
  .rw[hc]at z;cases z
 have eF:∀x a,cl.lookup x=J a->X.env.cells.lookup x=J a/\x∈frees:=λx a e=>by
   have only:∀(l:List (Str×NameKind))(cs:List (Str×Addr))(x:Str)(a:Addr),(jV X.env l cs).lookup x=J a->(x,NameKind.free)∈l\/cs.lookup x=J a:=by
    intro l
    induction l with
    |nil=>intro cs x a e;exact .inr e
    |cons y l ih =>
     intro cs x a e;obtain⟨n,kk⟩:=y;rcases ih _ x a e with z|z
     .exact .inl (lb _ z)
     .split at z
      .rename_i hk
       have ge:kk=NameKind.free:=by simpa using hk
       rw[Dj]at z
       split at z
       .rename_i e'
        have:x=n:=by simpa using e'
        subst this;subst ge;exact .inl wj
       .exact .inr z
      .exact .inr z
   have e':=e;rw[<-df]at e';rcases only _ _ x a e' with z'|z'
   .refine⟨?_,C.all _ z' rfl⟩;rcases eh x a e with z|⟨z,_⟩
    .exact z
    .obtain⟨c,hc⟩:=b4 _ z' rfl;rw[z]at hc;cases hc
   .simp at z'
 have start:=hi LU s Z H (CS X U H as gt mt me (CV B.length fm as) Q) dd
  ⟨U,as,h,rs,rh,Ful.bind q λU1 H1 it f5 h1 _ l1 cd jr q1=>⟨U1,it,h1,l1,cd,jr,q1⟩⟩
 refine wpAny_mono start (λx hz eC=>wpAny_mono eC (λhE F e0=>?_) λ_ _ e=>e) λ_ _ e=>e;obtain⟨d3,fp,tn,f5,H2,rfl,I2,R,ew,f2,U1,it,h1,l1,cd,jr,q1⟩:=e0;refine wpAny_newObj_type ?_;have f1:H2 F.heap.objs.size=Y:=I2.hok.fresh (il _);have M:=I2.lnew (ys:=[]) (its:=[]) (t':=F.toks) .nil (wl _);obtain⟨eu,l3⟩:=cd.new f1 (o:=.lst []) (ho:=.lst []) ⟨[],rfl,.nil⟩;generalize fo:({ F with heap:=F.heap.push { cls:=.type "list",data:=.seq ([]:UT).toArray},toks:=F.toks}:Shared)=E at M;generalize es:kg H2 F.heap.objs.size (.lst [])=L at M eu l3;have hw:L F.heap.objs.size=J (.lst []):=by rw[<-es];exact bQ
 have hq:E.heap=F.heap.push { cls:=.type "list",data:=.seq ([]:UT).toArray}:=by rw[<-fo]
 have b6:tn 0 E.heap:=R.keep _ _ _ ew λb _ o e=>by rw[hq];exact m_ _ e
 have bm:∀b∈fp,ja X LU L b:=λb S=>by
  obtain⟨a0,a1⟩:=f2 b S;refine⟨?_,a1⟩;obtain⟨o,eo,_⟩:=R.obj _ _ ew b S;rw[<-es,aY (u_ (l_ eo))];exact a0
 have c1:wpAny (model X.prog X.w) X.A (newFunctionEnv f X.env.globals cl [] X.env.qual Y .none (J X.env)) (λq_ d1 =>
    codeAny (model X.prog X.w) X.A (.compStart (.ListComp cp [⟨tg,ax,cb,0⟩] f dg) 0 (.ref d3) (.ref F.heap.objs.size) { q_ with scope:=relabel f X.env}) (compPost (model X.prog X.w) X.A X.xe use Qv (.ref F.heap.objs.size) q_.locals) d1) X.xe E:=by
  refine rF ?_;have O:∀b o,E.heap.get? b=J o->(pushCells (E.heap.push { cls:=.type "dict",data:=.dict #[]}) f.names).get? b=J o:=λb o e=>pushCells_keeps _ _ b o (m_ _ e);have et:=(Heap.Ns.new E.heap (.type "dict")).keeps (pushCells_keeps f.names _);have be:=cellsFrom_ok f.names (E.heap.push { cls:=.type "dict",data:=.dict #[]}) (E.heap.objs.size+1) [] ⟨λ_ _ hm=>(nomatch hm),List.Pairwise.nil⟩ (by rw[F1];exact il _);rw[F1]at be;rw[dv];have cq:=fu f.names (E.heap.objs.size+1);generalize cellsFrom (E.heap.objs.size+1) f.names []=cn at be cq ⊢;generalize pushCells (E.heap.push { cls:=.type "dict",data:=.dict #[]}) f.names=h' at O et be ⊢;dsimp only[newEnv];have a8:∀x c,(cn++cl).lookup x=J c->((x,c)∈cn/\f.names.lookup x=J .cell/\E.heap.objs.size<c/\h'.IsCell c Y)\/(X.env.cells.lookup x=J c/\f.names.lookup x=J .free):=λx c e=>by
   rw[m5]at e
   cases z:cn.lookup x with
   |some c' =>
    rw[z]at e
    have:c'=c:=by simpa using e
    subst this;have m:=PySem.mem_of_lookup z;obtain⟨q1,q2⟩:=be.empty x c' m;exact .inl ⟨m,C.cell _ ((cq x).mp ⟨c',m⟩) rfl,q2,q1⟩
   |none =>
    rw[z]at e;obtain⟨q1,q2⟩:=eF x c (by simpa using e);exact .inr ⟨q1,C.hf x q2⟩
  have e6:∀x c,x∈frees->cl.lookup x=J c->(cn++cl).lookup x=J c:=λx c hx e=>by
   rw[m5]
   cases z:cn.lookup x with
   |none=>simpa using e
   |some c' =>
    have:=C.cell _ ((cq x).mp ⟨c',PySem.mem_of_lookup z⟩) rfl
    rw[C.hf x hx]at this;cases this
  have old:∀x c,X.env.cells.lookup x=J c->c<E.heap.objs.size:=λx c e=>by
   obtain⟨v,qc⟩:=M.cell x c e;exact qc.lt
  have ok:(dW X f (cn++cl) E L fp (B++frees)).Ok:=by
   refine⟨M.ok.mod,C.kind,M.ok.glob,M.ok.blt,il _,λx y c h1 h2=>?_,λx hx=>?_,λx c hx e=>?_,M.ok.hd,M.ok.frames,.inl rfl,
    λb S=>⟨?_,λx c e z=>?_⟩,M.bs,mu M.ok.bsz M.sz,λb o e S=>?_,λb S z=>?_,M.stack,M.stkFree⟩
   .rcases a8 x c h1 with⟨a1,_,a2,_⟩|⟨a1,_⟩<;>rcases a8 y c h2 with⟨b1,_,b2,_⟩|⟨b1,_⟩
    .exact PySem.name_of_addr be.apart a1 b1
    .exact absurd (OF a2 (old y c b1)) (B4 _)
    .exact absurd (OF b2 (old x c a1)) (B4 _)
    .exact M.ok.inj x y c a1 b1
   .
    have bj:(relabel f X.env).names.lookup x=J .cell\/(relabel f X.env).names.lookup x=J .free:=hx
    cases e:f.names.lookup x with
    |none =>
     exfalso;have nn:∀(l:List (Str×NameKind)),l.lookup x=Y->(l.map λ(n,k)=>if(k==NameKind.free&&X.env.scope.kind == .function&&X.env.kindOf n==J .cell)then(n,NameKind.cell)else(n,k)).lookup x=Y:=by
      intro l
      induction l with
      |nil=>intro _;rfl
      |cons y l ih =>
       intro hl;obtain⟨n,kk⟩:=y;rw[Dj]at hl
       split at hl
       .cases hl
       .rename_i gi
        rw[n9];dsimp only
        split<;>(rw[Dj];simp only[gi];exact ih hl)
     have e2:=nn f.names e;rcases bj with z|z
     .rw[show(relabel f X.env).names.lookup x=Y from e2]at z;cases z
     .rw[show(relabel f X.env).names.lookup x=Y from e2]at z;cases z
    |some kk =>
     have e2:=cr (env:=X.env) M.ok.kind e;have hk:kk=.free\/kk=.cell:=by
      rcases bj with z|z
      .rw[show(relabel f X.env).names.lookup x=_ from e2]at z;have z':=Option.some.inj z;by_cases zz:kk=.free/\X.env.kindOf x=J .cell
       .exact .inl zz.1
       .rw[f_ zz]at z';exact .inr z'
      .rw[show(relabel f X.env).names.lookup x=_ from e2]at z;have z':=Option.some.inj z;by_cases zz:kk=.free/\X.env.kindOf x=J .cell
       .exact .inl zz.1
       .rw[f_ zz]at z';exact .inl z'
     rcases hk with hk|hk
     .subst hk;have hf:=C.all _ (PySem.mem_of_lookup e) rfl;obtain⟨c,h1,_⟩:=ec x hf;exact⟨c,e6 x c hf h1⟩
     .subst hk;obtain⟨c,hc⟩:=(cq x).mpr (PySem.mem_of_lookup e);show ∃c,(cn++cl).lookup x=J c;rw[m5]
      cases z:cn.lookup x with
      |some c'=>exact⟨c',rfl⟩
      |none=>exact absurd hc (AU cn x z c)
   .have bj:=of_decide_eq_true hx;rcases a8 x c e with⟨_,_,q,_⟩|⟨_,q⟩
    .exact vw q
    .rw[q]at bj;cases bj
   .obtain⟨o,eo,_⟩:=R.obj _ _ b6 b S;exact u_ (l_ eo)
   .rcases a8 x c e with⟨_,_,q,_⟩|⟨q,_⟩
    .obtain⟨o,eo,_⟩:=R.obj _ _ b6 b S;exact absurd (OF q (z▸l_ eo)) (B4 _)
    .exact (bm b S).2.2.2.2.1 x c q z
   .obtain⟨_,_,_,h4,_⟩:=bm b S;rcases h4 with h4|h4
    .exact M.ok.noex b o e h4
    .exact absurd (oQ (l_ e) (mu M.ok.bsz h4)) (B4 _)
   .obtain⟨_,h2,h3,_⟩:=bm b S;rcases k4.mp (M.stkSub b z)with e|e
    .exact h2 e
    .exact h3 e
  obtain⟨mX,hA,lX⟩:=M.loc;have gx:Le U H (U1++[F.heap.objs.size]) L:=l1.trans l3
  let ay:L2.St:=List.replicate B.length Y++fm.map λi=>(Z[i]?).getD Y
  have g2:fm.length=frees.length:=by have:=congrArg List.length C.fm;simpa using this
  have e8:Inv (dW X f (cn++cl) E L fp (B++frees)) [] ay L { E with heap:=h',toks:=E.toks}:=by
   refine⟨ok,rfl,M.bare,Un.kept O,⟨_,et,λi x v hN hv hu=>?_⟩,λx c e=>?_,?_,λx c e=>?_,λp hp=>absurd (show p∈([]:UU)from hp) (by simp),M.hok.kept O,?_⟩
   .have c9:(B++frees)[i]?=J x:=hN;have el:B.length<=i:=by
     by_cases z:B.length<=i
     .exact z
     .exfalso;have a3:ay[i]?=J (J v):=hv;rw[qr (by simp;ext),GN]at a3
      split at a3<;>cases a3
    have a3:ay[i]?=J (J v):=hv;rw[Ch (by simpa using el),Lg,pr]at a3;rw[Ch el]at c9
    cases ej:fm[i-B.length]? with
    |none=>rw[ej]at a3;cases a3
    |some j =>
     rw[ej]at a3;have ef:=congrArg (λl=>l[i-B.length]?) C.fm;simp only[pr,ej,c9,GZ]at ef;have g1:N[j]?=J x:=by simpa using ef
     have ev:Z[j]?=J (J v):=by
      have:(Z[j]?).getD Y=J v:=by simpa using a3
      cases z:Z[j]? with
      |none=>rw[z]at this;cases this
      |some o=>rw[z]at this;simp at this;rw[this]
     have hx:x∈frees:=Ci c9;have gs:OI X.env.scope x:=.inr (.inl (C.cl x hx));obtain⟨u,ru,e7⟩:=lX j x v (by rw[g.hN];exact g1) ev gs;refine⟨u,ru,.inr ⟨?_,?_⟩⟩
     .left;show(relabel f X.env).names.lookup x=J .cell
      have:=cr (env:=X.env) M.ok.kind (C.hf x hx)
      rw[b_ ⟨rfl,C.cl x hx⟩]at this;exact this
     .rcases e7 with⟨hk,_⟩|⟨_,c,hc,da⟩
      .rw[C.cl x hx]at hk;cases hk
      .obtain⟨c',h1,h2⟩:=ec x hx;rw[hc]at h2;cases h2;obtain⟨o,eo,ed⟩:=da;exact⟨c,e6 x c hx h1,o,O _ _ eo,ed⟩
   .rcases a8 x c e with⟨_,_,_,q⟩|⟨q,_⟩
    .exact⟨Y,q⟩
    .obtain⟨v,o,eo,ed⟩:=M.cell x c q;exact⟨v,o,O _ _ eo,ed⟩
   .exact M.hok.fresh (il _)
   .rcases a8 x c e with⟨_,_,q,_⟩|⟨q,_⟩
    .exact M.hok.fresh (vw q)
    .exact M.freeC x c q
   .show ay.length=(B++frees).length;simp[ay,g2]
  have gY:Good (dW X f (cn++cl) E L fp (B++frees)) (B++frees) B G' k:=by
   refine⟨rfl,nd,λx hx=>?_,λx hx=>?_,λx hx=>?_,dbg,g.calm,g.room,PassesOwn.never⟩
   .rcases lT.mp hx with z|z
    .rcases C.hv x z with z|z
     .left
      have:=cr (env:=X.env) M.ok.kind z
      rw[f_ (λq=>nomatch q.1)]at this;exact this
     .right
      have:=cr (env:=X.env) M.ok.kind z
      rw[f_ (λq=>nomatch q.1)]at this;exact this
    .right
     have:=cr (env:=X.env) M.ok.kind (C.hf x z)
     rw[b_ ⟨rfl,C.cl x z⟩]at this;exact this
   .rcases C.hv x hx with z|z
    .right
     have:=cr (env:=X.env) M.ok.kind z
     rw[f_ (λq=>nomatch q.1)]at this;exact this
    .exact .inl (decide_eq_true z)
   .have:=cr (env:=X.env) M.ok.kind (gp x hx)
    rw[f_ (λq=>nomatch q.1)]at this;exact this
  obtain⟨hg,ht,he⟩:=hY (dW X f (cn++cl) E L fp (B++frees)) rfl rfl rfl rfl rfl rfl gY;have fv:RS X.K (U1++[F.heap.objs.size]) L (CV B.length fm as) ay:=by
   refine⟨by simp[ay,CV],λi v e=>?_⟩;unfold CV at e;by_cases z:B.length<=i
   .rw[Ch (by simpa using z),Lg,pr]at e
    cases ej:fm[i-B.length]? with
    |none=>rw[ej]at e;cases e
    |some j =>
     rw[ej]at e;have ev:as[j]?=J (J v):=by
      have:(as[j]?).getD Y=J v:=by simpa using e
      cases z:as[j]? with
      |none=>rw[z]at this;cases this
      |some o=>rw[z]at this;simp at this;rw[this]
     obtain⟨v',e',rv⟩:=rs.2 j v ev;refine⟨v',?_,rv.le gx⟩;show ay[i]?=_;rw[Ch (by simpa using z),Lg,pr,ej];simp[e']
   .rw[qr (by simp;ext),GN]at e
    split at e<;>cases e
  have q3:Ful X (RV' X) as (U1++[F.heap.objs.size]) L ((A4 it h1.length gt mt me it.xs (CV B.length fm as) (h1++[.lst []])).bind λ_ h3=>.ok (.loc h1.length) h3) Q:=Ful.le l3 q1;have bi:(U1++[F.heap.objs.size])[h1.length]?=J F.heap.objs.size:=by rw[<-cd.len];simp
  have cv:∀bn:Shared,bn={ E with heap:=h',toks:=E.toks}->codeAny (model X.prog X.w) X.A (.compLoop (.ListComp cp [⟨tg,ax,cb,0⟩] f dg) 0 (.ref d3) (.ref F.heap.objs.size) (compEnvC f (cn++cl) E.heap.objs.size X.env))
    (compPost (model X.prog X.w) X.A X.xe use Qv (.ref F.heap.objs.size) E.heap.objs.size) bn:=by
   rintro bn rfl;refine ua (CI X (dW X f (cn++cl) E L fp (B++frees)) it tn fp (U1++[F.heap.objs.size]) L as h1.length gt mt me Q) ?_ it.xs.length
    ⟨0,ay,L,_,_,_,rfl,wl _,e8,R.keep _ _ _ b6 (λb _ o e=>O b o e),λb S=>(bm b S).1,Le.refl _ _,fv,eu,by simpa using q3⟩
   rintro n s6 ⟨i,Z6,H6,U6,b3,h6,rfl,hD,I6,dV,ek,l6,PF,c3,q6⟩;have b0:∀{H':Hp},(∀b∈fp,H' b=Y)->∀b∈fp,ja (dW X f (cn++cl) E L fp (B++frees)) [] H' b:=λ{H'} hn b S =>
    ⟨hn b S,(ok.exf b S).1,ok.exfs b S,.inl S,(ok.exf b S).2,λp hp=>absurd (show p∈([]:UU)from hp) (by simp)⟩
   by_cases b5:i<it.xs.length
   .have ed:it.xs.drop i=it.xs[i]::it.xs.drop (i+1):=C2 b5;rw[ed]at q6;simp only[A4]at q6;by_cases hok:it.ok h6
    .rw[b_ hok]at q6;obtain⟨j1,_⟩:=jr U6 H6 h6 i (l3.trans l6) c3 hok;obtain⟨go,yl⟩:=j1 b5;refine ka (R.item (dW X f (cn++cl) E L fp (B++frees)) rfl rfl rfl g.calm i [] s6 Z6 H6 (λ_ _=>False) I6 (b0 ek) dV go) λr s7 ⟨u,hr,h7⟩=>?_;subst hr;refine ka h7 λ_ s8 ⟨x8,H8,I8,r8,y8,c2,g5⟩=>?_;obtain⟨U8,x,l8,g4,ex,rx⟩:=yl x8 H8 y8;have g0:x=it.xs[i]:=by rw[zb b5]at ex;exact(Option.some.inj ex).symm
     subst g0;have f3:=I8.pinned (b0 g5) (R.obj _ _ c2);have q8:=Ful.le l8 q6;have c0:∀{Z9:L2.St}{H9:Hp}{s9:Shared},Inv (dW X f (cn++cl) E L fp (B++frees)) ([]++kS fp s8.heap) Z9 H9 s9->Inv (dW X f (cn++cl) E L fp (B++frees)) [] Z9 H9 s9/\tn (i+1) s9.heap/\∀b∈fp,H9 b=Y:=λ{Z9 H9 s9} I9=>by
      refine⟨I9.unpinned,R.keep _ _ _ c2 λb S o e=>(I9.pin (b,o) (o_ _ (o_ _ (gS S e)))).1,λb S=>?_⟩;obtain⟨o,e,d⟩:=R.obj _ _ c2 b S;exact(I9.pin (b,o) (o_ _ (o_ _ (gS S e)))).2.1
     cases eg:gt it.xs[i] b3 h6 with
     |nx P h9 =>
      rw[eg]at q8;dsimp only at q8
      refine ka (hg _ s8 Z6 H8 x8 u (λZ' H'=>∃U',Le U8 H8 U' H'/\RH X.K X.mg U' H' h9/\RS X.K U' H' P Z') f3 r8 ⟨U8,b3,h6,_,PF.le l8,g4,rx,by
       show m9 _ _ _ (gt it.xs[i] b3 h6) _
       rw[eg];exact λU' H' Z' l r s=>⟨U',l,r,s⟩⟩) λ_ s9 ⟨Z9,H9,I9,U9,l9,gV,ca⟩=>?_
      have q9:=Ful.le l9 q8
      cases em:mt P h9 with
      |ok b ba =>
       rw[em,Out.ne_ok]at q9;rw[Out.bind_ok]at q9
       refine ka (ht _ s9 Z9 H9 (λb' H'=>b'=b/\∃U',Le U9 H9 U' H'/\RH X.K X.mg U' H' ba) I9 ⟨U9,P,h9,ca,gV,by
        show Ful _ _ _ _ _ (mt P h9) _
        rw[em];exact λU' H' v' l r e=>⟨e.symm,U',l,r⟩⟩) λb' g3 ⟨c5,ei,eb,c4,a9,cy⟩=>?_
       subst eb;have an:=Ful.le a9 q9
       cases b' with
       |false =>
        rw[f_ FV]at an ⊢;obtain⟨dF,ey,en⟩:=c0 ei;exact⟨_,by ext,i+1,Z9,c5,c4,P,ba,rfl,b5,dF,ey,en,l6.trans (l8.trans (l9.trans a9)),ca.le a9,cy,an⟩
       |true =>
        rw[b_ rfl]at an ⊢
        cases ee:me P ba with
        |ok v ea =>
         rw[ee,Out.ne_ok]at an;rw[Out.bind_ok]at an
         refine ka (he _ g3 Z9 c5 (λv' H'=>∃U',Le c4 c5 U' H'/\RH X.K X.mg U' H' ea/\RP X.K U' H' v v') ei ⟨c4,P,ba,ca.le a9,cy,by
          show Ful _ _ _ _ _ (me P ba) _
          rw[ee];exact λU' H' v' l r e=>⟨U',l,r,e⟩⟩) λf0 gg ⟨v',db,gy,ez,dx,dr,cx,ep⟩=>?_
         have a7:=Ful.le dr an;have bx:Le (U1++[F.heap.objs.size]) L dx db:=l6.trans (l8.trans (l9.trans (a9.trans dr)));obtain⟨oa,hh,fl⟩:=cx.obj (bx.get bi);rw[hh]at a7
         cases oa with
         |dic ks xs=>exact a7.elim
         |exc x=>exact a7.elim
         |lst ys =>
          dsimp only at a7;by_cases bt:ys.length<sizeLine
          .rw[b_ bt]at a7;obtain⟨c8,hj,ry⟩:=fl;obtain⟨dt,dc⟩:=cx.put (bx.get bi) (o:=.lst (ys++[v])) (ho:=.lst (c8++[v'])) ⟨_,rfl,ry.append (.cons ep .nil)⟩;have ap:=qt (X:=dW X f (cn++cl) E L fp (B++frees)) _ gg Z9 db (.ref F.heap.objs.size) [v'] (.ref F.heap.objs.size) [f0] (λ_ H'=>H'=kg db F.heap.objs.size (.lst (c8++[v']))) gy rfl (.cons ez .nil) ⟨F.heap.objs.size,c8,v',rfl,rfl,hj,by rw[<-ry.length];exact bt,rfl⟩;refine ka ap λ_ hB ⟨_,hC,fa,_,eH⟩=>?_;subst eH;obtain⟨d0,ds,er⟩:=c0 fa;exact⟨_,by ext,i+1,Z9,_,dx,P,_,rfl,b5,d0,ds,er,bx.trans dc,(ca.le a9).le (dr.trans dc),dt,Ful.le dc a7⟩
          .rw[f_ bt]at a7;exact a7.elim
        |exc x ea=>rw[ee]at an;exact an.elim
        |bad=>rw[ee]at an;exact an.elim
      |exc x ba=>rw[em]at q9;exact q9.elim
      |bad=>rw[em]at q9;exact q9.elim
     |_=>rw[eg]at q8;exact q8.elim
    .rw[f_ hok]at q6;exact q6.elim
   .have e:i=it.xs.length:=by ext
    rw[e,GW]at q6;simp only[A4]at q6;by_cases hok:it.ok h6
    .rw[b_ hok]at q6;obtain⟨_,j2⟩:=jr U6 H6 h6 i (l3.trans l6) c3 hok;refine ka (R.done (dW X f (cn++cl) E L fp (B++frees)) rfl rfl rfl g.calm i [] s6 Z6 H6 (λ_ _=>False) I6 (b0 ek) dV (j2 (by ext))) λr s7 ⟨hr,I7⟩=>?_;subst hr;obtain⟨m7,f4,_⟩:=I7.loc;have IX:=M.call' (s':=s7) (ch:=fp) I7.os I7.base I7.hok I7.bare λb S=>by
      obtain⟨_,a2,_,a4,a5,a6⟩:=bm b S;exact⟨a4,a2,a5,a6⟩
     exact fin _ _ H6 s7 m7 IX I7.free f4 (Dn M.lt) M.sz (M.nofs (il _)) (λx c e z=>by
      obtain⟨v,qc⟩:=M.cell x c e
      exact absurd qc.lt (by rw[z];exact B4 _)) (λp hp z=>absurd (l_ (M.pin p hp).1) (by rw[z];exact B4 _)) (q6 U6 H6 _ (Le.refl _ _) c3 (.loc (l6.get bi)))
    .rw[f_ hok]at q6;exact q6.elim
  exact codeAny_compStart_list (cv _ rfl) (R.self X.A 0 _ _ _ (R.keep _ _ _ b6 (λb _ o e=>O b o e)) (cv _ rfl))
 exact c1
def vY(g:Good X N W G k){u j r:Expr}{l:UX}{i:Scope}{F:Pos}{f frees L:UM}{fm:UQ}{M:Mx MIt}{P:Mg}{mt:Mx Bool}{O:Mx PV}(C:xP X N i f frees fm)(nd:(f++frees).Nodup)(B:∀x∈L,i.names.lookup x=J .globalImplicit)(dbg:∀x∈(f++frees)++L,(x==("__debug__":Str))=T/\(x==("__classdict__":Str))=T/\x≠"__name__")(hi:MI X u j M)(hY:∀a:Cx,a.prog=X.prog->a.w=X.w->a.K=X.K->a.mg=X.mg->a.base=X.base->a.env.scope=relabel i X.env->Good a (f++frees) f L k->MG a u P/\Gg a l mt/\ME a r O)(hs:∀x,foldedSetIterable j X.env x=pure x:=by intro _;rfl):ME X (.ListComp r [⟨u,j,l,0⟩] i F) (dY f.length fm M P mt O):=by
 intro LU s Z H Q y U;refine qh g C nd B dbg hi hY hs y U λE D H6 s7 m7 S hC ns hL hz al z hp q=>?_;refine⟨m7,ns,λR B5=>⟨.ref E,H6,?_,rfl,q⟩⟩;exact S.turned (t':=s7.toks) (λb o hb e=>B5.extBut b o hb e) hC hL (.inr hz) z hp
def wp(g:Good X N W G k)(i:Nat){y:Str}{py B:Pos}{P u L:Expr}{F:UX}{a:Scope}{O:Pos}{j frees G':UM}{fm:UQ}{mi:Mx MIt}{gt:Mg}{mt:Mx Bool}{me:Mx PV}(M:N[i]?=J y)(hw:W[i]?=J y)(S:swapsWith (.ListComp L [⟨P,u,F,0⟩] a O) (J (.Name y py)) B.line X.env=pure I)(C:xP X N a j frees fm)(nd:(j++frees).Nodup)(al:∀x∈G',a.names.lookup x=J .globalImplicit)(dbg:∀x∈(j++frees)++G',(x==("__debug__":Str))=T/\(x==("__classdict__":Str))=T/\x≠"__name__")(hi:MI X P u mi)(hY:∀f:Cx,f.prog=X.prog->f.w=X.w->f.K=X.K->f.mg=X.mg->f.base=X.base->f.env.scope=relabel a X.env->Good f (j++frees) j G' k->MG f P gt/\Gg f F mt/\ME f L me)(hs:∀x,foldedSetIterable u X.env x=pure x:=by intro _;rfl):MS X (.Assign [.Name y py] (.ListComp L [⟨P,u,F,0⟩] a O) B) (bp i (dY j.length fm mi gt mt me)):=by
 intro LU s Z H D as tm;obtain⟨U,an,h,rs,rh,q⟩:=tm;rw[exec_Assign_Name_used _ _ _ _ S];refine d_ (wpAny_standAt (d_ ?_))
 refine d_ (wpAny_mono (qh g C nd al dbg hi hY hs as
  ⟨U,an,h,rs,rh,bK.ex q λU1 H1 v v' h1 l r z w=>w U1 H1 _ (Le.refl _ _) r ((rs.le l).set i z)⟩ λE Q H6 s7 m7 IX hC ns hL hz ap ax hp q6=>?_) (λ_ s' hq=>ii (ii hq)) λ_ _ e=>e)
 .obtain⟨o,es,ep,ho,hd,hr⟩:=id ns;have IP:Inv X (LU++[(Q,o)]) Z H6 s7:=IX.pins_of λp R=>(lT.mp R).elim (λz=>IX.pin p (o_ _ z)) λz=>by
   have e:p=(Q,o):=by simpa using z
   subst e;exact⟨ho,hC,hL,ap,λv z=>by rw[hd]at z;cases z⟩
  have st:=vA (pos:=py) (by rw[g.hN];exact g.nd) (g.x M) (g.loc y (aL M)) (g.fn y (aL hw)) (LU++[(Q,o)]) s7 Z H6 (.ref E) (.ref E) (λZ' H'=>Z'=Z.set i (J (.ref E))/\H'=H6) IP rfl ⟨rfl,rfl⟩;refine ka st λ_ s8 ⟨Z8,H8,I8,e1,e2⟩=>?_;subst e1;subst e2;have pn:=I8.pin (Q,o) (o_ _ (o_ _ (by simp)));refine⟨m7,⟨o,es,ep,pn.1,hd,hr⟩,λay B5=>⟨_,_,?_,q6⟩⟩;exact(I8.unpinned).turned (t':=s8.toks) (λb o hb e=>B5.extBut b o hb e) hC hL (.inr hz) ax hp
end
section
variable{X:Cx}{N W G:UM}{k:Nat}{Z:L2.St}{H:Hp}{s:Shared}
end
section
variable{prog:Program}{w:World}{A:Around}{E:UA}{h:Heap}{g:Array GenState}{d:Drawn}{t:Nat}{os:OsState}{a C:Addr}{o:Obj}{K:ib}
end
section
variable{X:Cx}{N W G:UM}{k:Nat}
end
def lZ(hf:∀v d,f v=J d->d.depth<=n/\d.hasDict=T):∀{xs:UL}{a:List PyData},cC f xs=J a->PyData.depthAll a<=n/\PyData.hasDictAll a=T
 |[],a,e=>by cases e;simp[PyData.depthAll,PyData.hasDictAll]
 |x::r,a,e=>by
  simp only[cC]at e
  split at e
  .rename_i d j e1 e2
   cases e;obtain⟨y,l⟩:=hf _ _ e1;obtain⟨u,i⟩:=lZ hf e2;simp only[PyData.depthAll,PyData.hasDictAll,l,i];exact⟨⋯,rfl⟩
  .cases e
def tR:∀(n:Nat)(v:PV)(d:PyData),rd n h v=J d->d.depth<=n/\d.hasDict=T
 |0,v,d,e=>by
  cases v<;>simp only[rd]at e<;>cases e<;>simp[PyData.depth,PyData.hasDict]
 |n+1,v,d,e=>by
  have key:∀xs,(∀f,cC (rd n h) xs=J f->PyData.depthAll f<=n/\PyData.hasDictAll f=T):=λxs f=>lZ (tR n)
  cases v with
  |non=>cases e;simp[PyData.depth,PyData.hasDict]
  |bl b=>cases e;simp[PyData.depth,PyData.hasDict]
  |int b=>cases e;simp[PyData.depth,PyData.hasDict]
  |str b=>cases e;simp[PyData.depth,PyData.hasDict]
  |tup xs =>
   simp only[rd,vu]at e;obtain⟨f,e1,rfl⟩:=e;obtain⟨a,b⟩:=key xs f e1;exact⟨by simp only[PyData.depth];lia,by simp only[PyData.hasDict,b]⟩
  |frl xs =>
   simp only[rd,vu]at e;obtain⟨f,e1,rfl⟩:=e;obtain⟨a,b⟩:=key xs f e1;exact⟨by simp only[PyData.depth];lia,by simp only[PyData.hasDict,b]⟩
  |loc m =>
   simp only[rd]at e
   split at e
   .rename_i xs _
    simp only[vu]at e;obtain⟨f,e1,rfl⟩:=e;obtain⟨a,b⟩:=key xs f e1;exact⟨by simp only[PyData.depth];lia,by simp only[PyData.hasDict,b]⟩
   .cases e
section
variable{X:Cx}{N W G:UM}{k:Nat}
def Cal.at(e1:a.prog=X.prog)(e2:a.w=X.w)(e3:a.K=X.K)(e4:a.mg=X.mg)(e5:a.base=X.base)(c:Cal X x ps F i):Cal a x ps F i:=c.to e1 e2 e3 e4 e5
end
def Iq(Ap:X.env.scope=sc)(z:scope.kind=.function)(B:∀y∈scope.names,y.2=.cell->scope.names.lookup y.1=J .cell)(r:∀y∈scope.names,y.2=.local->scope.names.lookup y.1=J .local)(C:∀x∈a,scope.names.lookup x=J .local\/scope.names.lookup x=J .cell)(j:∀x∈frees,scope.names.lookup x=J .free)(E:∀y∈scope.names,y.2=.free->y.1∈frees)(l:fm.map (λi=>N[i]?)=frees.map J)(f:∀x∈frees,sc.names.lookup x=J .cell):xP X N scope a frees fm :=
 ⟨z,B,r,C,j,E,l,λx u=>by rw[<-Ap]at f;exact f x u⟩
section
variable{Z:k_}{h:MH}
@[simp]theorem Aq{nv:Nat}{fm:UQ}{mi:Mx MIt}{gt:Mg}{mt:Mx Bool}{me:Mx PV}:dY nv fm mi gt mt me Z h =
 (mi Z h).bind λit h1=>(A4 it h1.length gt mt me it.xs (CV nv fm Z) (h1++[.lst []])).bind λ_ h3=>.ok (.loc h1.length) h3:=rfl
def Ei{a:MIt}{n:Nat}{i:Mg}{mt:Mx Bool}{f:Mx PV}(e:a.ok h):A4 a n i mt f [] Z h=.ok () h:=by rw[A4,b_ e]
def Ej{j:MIt}{n:Nat}{i:Mg}{mt:Mx Bool}{f:Mx PV}{x v:PV}{r ys:UL}{Z1:k_}{h1 l a:MH}(e:j.ok h)(B:i x Z h=.nx Z1 h1)(z:mt Z1 h1=.ok I l)(y:f Z1 l=.ok v a)(u:a[n]?=J (.lst ys))(C:ys.length<1000):
  A4 j n i mt f (x::r) Z h=A4 j n i mt f r Z1 (a.set n (.lst (ys++[v]))):=by
 rw[A4,b_ e,B];simp only[z,Out.ne_ok,Out.bind_ok,if_true,y,u];rw[b_ (oQ C (by decide))]
def Mz{o:MO}{g:MH}:(h++o::g)[h.length]?=J o:=by simp
end
def Ek(f:Nat->UL->MH->UZ)(m:Mx PV)(i:Mx (UL)):Mx PV:=λZ h=>(m Z h).bind λo a=>match o with
 |.loc n=>(match a[n]? with
  |some (.lst _)=>(i Z a).bind λj l=>(f n j l).ne
  |_=>.bad)
 |_=>.bad
def lz(n:Nat)(a:UL)(h:MH):UZ:=match a,h[n]? with
 |[v],J (.lst xs)=>if xs.length<sizeLine then .ok .non (h.set n (.lst (xs++[v])))else .bad
 |_,_=>.bad
def jB(n:Nat)(a:UL)(h:MH):UZ:=match a with
 |[.loc m]=>(match h[n]?,h[m]? with
  |some (.lst xs),J (.lst ys)=>if xs.length+ys.length<=sizeLine then .ok .non (h.set n (.lst (xs++ys)))else .bad
  |_,_=>.bad)
 |[.tup ys]=>(match h[n]? with
  |some (.lst xs)=>if xs.length+ys.length<=sizeLine then .ok .non (h.set n (.lst (xs++ys)))else .bad
  |_=>.bad)
 |_=>.bad
section
variable{X:Cx}{N W G:UM}{k:Nat}
def Ir(X:Cx)(f:Nat->UL->MH->UZ):V->List V->Hp->VK->Prop:=λx j H Q=>∃U h n a i,x=.ref a/\U[n]?=J a/\RH X.K X.mg U H h/\RPs X.K U H i j/\iH X (RV' X) U H (f n i h) Q
def yO:Hy X "list.append" (Ir X lz):=by
 intro E s Z H x R v z Q i P O ⟨U,h,n,a,S,e,l,u,rp,q⟩;subst e;obtain⟨o,C,F⟩:=u.obj l;unfold lz at q
 cases rp with
 |nil=>exact q.elim
 |cons y L =>
  cases L with
  |cons _ _=>exact q.elim
  |nil =>
   rw[C]at q
   cases o with
   |lst xs =>
    dsimp only at q;by_cases j:xs.length<sizeLine
    .rw[b_ j]at q;obtain⟨ys,B,r⟩:=F;obtain⟨f,M⟩:=u.put l (o:=.lst (xs++[_])) ⟨_,rfl,r.append (.cons y .nil)⟩;exact qt E s Z H _ _ v z Q i P O ⟨a,ys,_,rfl,rfl,B,by rw[<-r.length];exact j,q U _ .non M f .non⟩
    .rw[f_ j]at q;exact q.elim
   |_=>exact q.elim
def rG(l b:Addr)(f:Array Value)(n:Nat)(a:Array Value)(j:¬(!f.isEmpty&&Builtin.List.listTooLong (f.size+a.size))=I)(i:f.size<=sizeLine)(u:f.size+a.size<=sizeLine+1):
  Meets (Builtin.«list.extend» ⟨[.ref l,.ref b],[]⟩) (λ_ R s=>s.heap.get? l=J { cls:=.type "list",data:=.seq f n}/\IsTup s.heap b a/\R (.ok (.ret Value.none)) { s with heap:=s.heap.update l (Obj.mapSeq λx=>x++a),toks:=s.toks}):=by
 intro prog w A R s ⟨z,⟨o,y,C,E,hd⟩,h⟩;have r:(f++a).size<=sizeLine+1:=by rw[Lm];exact u
 show wpAny _ A.in1 (Builtin.List.listExtendWith (.ref l) (.ref b) .none) _ _ s;refine d_ (wpAny_typeOf ⟨o,y,C⟩ ?_);have B:(Builtin.List.listSameRef (.ref l) (.ref b)||Value.type "tuple" == Value.type "list" || Value.type "tuple" == Value.type "tuple")=I:=by simp
 simp only[B];refine d_ ?_;refine d_ (wpAny_seqItems y hd (ii ?_));refine d_ ?_;refine d_ (wpAny_seqItems z rfl (ii ?_));simp only[j];refine d_ (wpAny_updateSeq z rfl ?_ (hz:=i) (_hz':=r));exact ii h
def zB:Hy X "list.extend" (Ir X jB):=by
 intro LU s Z H x vs v us Q j rx rv ⟨U,h,n,a,ps,e,S,P,rp,q⟩;subst e;obtain⟨o,eo,ro⟩:=P.obj S;unfold jB at q
 cases rp with
 |nil=>exact q.elim
 |cons r1 t1 =>
  cases t1 with
  |cons _ _=>cases r1<;>exact q.elim
  |nil =>
   cases r1 with
   |@loc m b em =>
    obtain⟨o2,al,R⟩:=P.obj em;dsimp only at q;rw[eo,al]at q
    cases o with
    |lst xs =>
     cases o2 with
     |lst L =>
      dsimp only at q;by_cases B:xs.length+L.length<=sizeLine
      .rw[b_ B]at q;obtain⟨ys,O,E⟩:=ro;obtain⟨C,ew,M⟩:=R;obtain⟨l,l'⟩:=P.put S (o:=.lst (xs++L)) (ho:=.lst (ys++C)) ⟨_,rfl,E.append M⟩;exact zx LU s Z H _ _ v us Q j rx rv ⟨a,b,ys,C,rfl,rfl,O,ew,by rw[<-E.length,<-M.length];exact B,q U _ .non l' l .non⟩
      .rw[f_ B]at q;exact q.elim
     |_=>exact q.elim
    |_=>exact q.elim
   |@tup L a2 C sq rr =>
    rw[eo]at q
    cases o with
    |lst xs =>
     dsimp only at q;by_cases B:xs.length+L.length<=sizeLine
     .rw[b_ B]at q;obtain⟨ys,O,E⟩:=ro;obtain⟨l,l'⟩:=P.put S (o:=.lst (xs++L)) (ho:=.lst (ys++C)) ⟨_,rfl,E.append rr⟩;cases rx;obtain⟨u,rfl,ru⟩:=rv.one;cases ru;obtain⟨z,i,n,r,ay,e⟩:=j.lstM O;obtain⟨f,r2,pl,as⟩:=j.tuple sq;have ap:ys.length+C.length<=sizeLine:=by rw[<-E.length,<-rr.length];exact B
      have ax:=r2.length;have an:i.toArray.size+f.toArray.size<=sizeLine:=by rw[qd,qd];lia
      have y:¬(!i.toArray.isEmpty&&Builtin.List.listTooLong (i.toArray.size+f.toArray.size))=I:=by rw[mV an,Qd];exact FV
      refine call_meets F.slot_list_extend ⟨_,e,rfl⟩ F.entry_list_extend (F.args_list_extend_2 _ _) (rG a _ i.toArray n f.toArray y (by rw[qd];lia) ⋯) ⟨e,pl,?_⟩;refine⟨.non,_,j.lset (its':=i++f) O e (by simp) (r.append r2) ?_,rfl,q U _ .non l' l .non⟩;rw[z_];lia
     .rw[f_ B]at q;exact q.elim
    |_=>exact q.elim
   |_=>exact q.elim
variable{o e:Expr}{es:UX}{name:Str}{apos cpos:Pos}{id:String}{f:Nat->UL->MH->UZ}{m:Mx PV}{ma:Mx (UL)}
def MB{E:TA}(z:∀Z H Q,tM X (RVs' X) ma Z H Q->E Z H Q){Z:L2.St}{H:Hp}{Q:VK}(P:tM X (RV' X) (Ek f m ma) Z H Q):tM X (RV' X) m Z H (λx r=>QJ X.K "list" x r/\E Z r λxs F=>Ir X f x xs F Q):=by
 obtain⟨U,l,h,C,rh,q⟩:=P;refine⟨U,l,h,C,rh,?_⟩;refine Ful.bind q λL r x x' O _ l1 i rx j=>?_
 cases rx with
 |@loc n a B =>
  obtain⟨ob,eo,ro⟩:=i.obj B;dsimp only at j;rw[eo]at j
  cases ob with
  |lst xs =>
   obtain⟨ys,S,ry⟩:=ro;refine⟨.inl ⟨rfl,ys,SqL.of S⟩,z Z r _ ⟨L,l,O,C.le l1,i,?_⟩⟩;exact Ful.bind j λU2 F M al h2 _ l2 u y R=>⟨U2,h2,n,a,M,rfl,l2.get B,u,y,R.zero⟩
  |_=>exact j.elim
 |_=>exact j.elim
def MC(slot:Slot "list" name id)(r:typeOf (.builtin id)=pure (.type "method_descriptor"))(C:Hy X id (Ir X f))(y:ME X o m)(u:MA X (e::es) ma)(i:attributeBase o name X.env (eval o X.env)=eval o X.env:=by rfl)(l:((backTo cpos (starEach (e::es) X.env)).all (λx=>!x.1)&&(backToKw cpos (keywordEach [] X.env)).all (λx=>x.1.isSome)
   && decide ((e::es).length+([]:List Keyword).length+(if([]:List Keyword).isEmpty then 0 else 1)<30))=I:=by rfl)(j:(apos.endLine==cpos.line)=I:=by rfl)(B:starEach (e::es) X.env=(T,eval e X.env)::starEach es X.env:=by rfl)(a:(backTo cpos (starEach es X.env)).any (·.1)=T:=by rfl):
  ME X (.Call (.Attribute o name apos) (e::es) [] cpos) (Ek f m ma) :=
 PE.imp (L8 PySem.F.plainAttrs_list slot r C y u i l j B a) λZ H Q q=>MB (λ_ _ _ z=>z) q
@[simp]theorem Q4:Ek f m ma Z h=(m Z h).bind λo h1=>match o with
 |.loc n=>(match h1[n]? with
  |some (.lst _)=>(ma Z h1).bind λvs h2=>(f n vs h2).ne
  |_=>.bad)
 |_=>.bad:=rfl
end
def bZ(h:MH):PV->Option (UL)
 |.tup xs=>J xs
 |.frl xs=>J xs
 |.loc n=>(match h[n]? with
  |some (.lst xs)=>J xs
  |_=>Y)
 |_=>Y
section
variable{X:Cx}{N W G:UM}{k:Nat}
def jh(y:RH X.K X.mg U H h)(B:RP X.K U H x x')(e:bZ h x=J xs):∃a ys,x'=.ref a/\(SqL X.K H a ys\/SqT X.K H a ys)/\RPs X.K U H xs ys:=by
 cases B with
 |tup s r=>cases e;exact⟨_,_,rfl,.inr s,r⟩
 |frl s r=>cases e;exact⟨_,_,rfl,.inl s.sq,r⟩
 |@loc n a j =>
  obtain⟨o,i,l⟩:=y.obj j;simp only[bZ,i]at e
  cases o with
  |lst ys =>
   cases e;obtain⟨u,f,z⟩:=l;exact⟨a,u,rfl,.inl (SqL.of f),z⟩
  |_=>cases e
 |_=>cases e
def ot(f g:PV->PV->MH->UZ)(a b c:Mx PV):Mx PV:=λZ h=>(a Z h).bind λx j=>(b Z j).bind λy l=>(f x y l).ne.bind λz i=>match z with
 |.bl t=>if t=I then(c Z i).bind λw r=>(g y w r).ne else .ok (.bl T) i
 |_=>.bad
variable{a b c:Expr}{ma mb mc:Mx PV}{f g':PV->PV->MH->UZ}{op op':CmpOp}{pos:Pos}
def Be{Z:L2.St}{H:Hp}{Q:VK}(q:tM X (RV' X) (ot f g' ma mb mc) Z H Q):ze (rJ X f) (rJ X g') (tM X (RV' X) ma) (tM X (RV' X) mb) (tM X (RV' X) mc) Z H Q:=by
 obtain⟨U,i,h,E,rh,q⟩:=q;refine⟨U,i,h,E,rh,Ful.bind q λU1 H1 x x' h1 _ l1 u rx q1=>?_⟩;refine⟨U1,i,h1,E.le l1,u,Ful.bind q1 λU2 H2 y y' O _ R r M q2=>?_⟩;refine⟨U2,O,x,y,r,rx.le R,M,?_⟩;have key:Ful X (RV' X) i U2 H2 (f x y O).ne (λz l=>∃k,z=.bl k/\(if k=I then tM X (RV' X) mc Z l λP S=>rJ X g' y' P S Q else Q (.bl T) l)):=Ful.bind q2 λL l z z' h3 _ l3 j rz C=>by
  cases rz with
  |bl t =>
   refine⟨t,rfl,?_⟩
   cases t with
   |true =>
    exact⟨L,i,h3,E.le (l1.trans (R.trans l3)),j,Ful.bind C λU4 S w P h4 _ l4 B F q4=>⟨U4,h4,y,w,B,(M.le l3).le l4,F,q4.zero⟩⟩
   |false =>
    exact C L l _ (Le.refl _ _) j (.bl _)
  |_=>exact C.elim
 exact key.zero
def BG(j:xk X (compareOp op) f)(i:xk X (compareOp op') g')(y:ME X a ma)(r:ME X b mb)(l:ME X c mc)(u:lastMarks [op,op'] [b,c]=T:=by with_unfolding_all rfl):ME X (.Compare a [op,op'] [b,c] pos) (ot f g' ma mb mc) :=
 PE.imp (Bl j i y r l u) λ_ _ _ q=>Be q
@[simp]theorem KO:ot f g' ma mb mc Z h=(ma Z h).bind λx h1=>(mb Z h1).bind λy h2=>(f x y h2).ne.bind λz h3=>match z with
 |.bl t=>if t=I then(mc Z h3).bind λw h4=>(g' y w h4).ne else .ok (.bl T) h3
 |_=>.bad:=rfl
def El(j:Bool)(x y:PV)(h:MH):UZ:=match bZ h y with
 |some ys=>(match rd 60 h x,cC (rd 60 h) ys with
  |some d,J i=>if d.canLay0=I/\PyData.canLayAll0 i=I then .ok (.bl (if j then !i.any (λe=>PyData.eqv e d)else i.any (λe=>PyData.eqv e d))) h else .bad
  |_,_=>.bad)
 |none=>.bad
def nQ:∀{i:List PyData},PyData.canLayAll0 i=I->∀d∈i,d.canLay0=I
 |e::i,h,d,hd=>by
  simp only[PyData.canLayAll0,Lo]at h;rcases k4.mp hd with rfl|hd
  .exact h.1
  .exact nQ h.2 d hd
def qL(hf:∀u d i,Reads hp u d i->fq u=PyData.eqv d dx):∀{j:UT}{l:List PyData}{i:US},ReadsAll hp j l i->j.any fq=l.any λe=>PyData.eqv e dx
 |_,_,_,.nil=>rfl
 |_,_,_,.cons r t=>by rw[OE,OE,hf _ _ _ r,qL hf t]
def qJ:∀{j:UT}{l:List PyData}{y:US},ReadsAll hp j l y->∀u∈j,∃d i,d∈l/\Reads hp u d i
 |_,_,_,.nil,u,h=>nomatch h
 |_,_,_,.cons r t,u,h=>by
  rcases k4.mp h with rfl|h
  .exact⟨_,_,wj,r⟩
  .obtain⟨d,i,hd,z⟩:=qJ t u h;exact⟨d,i,lb _ hd,z⟩
def fq(l:Heap)(j:PyData)(u:Value):Bool:=if z:∃d i,Reads l u d i then PyData.eqv z.choose j else T
def Gh(r:Reads hp u d i):fq hp dx u=PyData.eqv d dx:=by have z:∃d i,Reads hp u d i:=⟨d,i,r⟩;unfold fq;rw[dif_pos z];obtain⟨j,l⟩:=z.choose_spec;rw[<-(Reads.unique r _ _ l).1]
def Gi(hr:Room k X.A)(F:Bool):xk X (compareOp (if F then .NotIn else .In)) (El F):=by
 intro LU s Z H x' y' u v Q j ap al ⟨U,h,x,y,P,rx,ry,q⟩;unfold El at q
 cases es:bZ h y with
 |none=>rw[es]at q;exact q.elim
 |some ys =>
  rw[es]at q;dsimp only at q;obtain⟨a,zs,rfl,S,an⟩:=jh P ry es
  cases ex:rd 60 h x with
  |none=>rw[ex]at q;exact q.elim
  |some l =>
   rw[ex]at q
   cases ed:cC (rd 60 h) ys with
   |none=>rw[ed]at q;exact q.elim
   |some ds =>
    rw[ed]at q;dsimp only at q;by_cases hl:l.canLay0=I/\PyData.canLayAll0 ds=I
    .rw[b_ hl]at q;cases al;obtain⟨_,rX⟩:=fW j P 60 x x' u l rx ap ex;have ax:=(tR 60 x l ex).1;have z:∀(i:UT),aB zs i->(∀w∈i,SeqAt.EqAt X.A.in1 s w u (fq s.heap l w))/\i.any (fq s.heap l)=ds.any λe=>PyData.eqv e l:=λi B=>by
      obtain⟨as,RA⟩:=gc (λv v' u d r1 r2 e=>fW j P 60 v v' u d r1 r2 e) an B ed;refine⟨λw C=>?_,qL (λu d as r=>Gh r) RA⟩;obtain⟨d,ay,hd,R⟩:=qJ RA w C;rw[Gh R];refine SeqAt.eqAt_reads d l X.A.in1 s w u _ _ R rX (nQ hl.2 d hd) hl.1 ?_
      have:=hr.un
      lia
     cases F with
     |false =>
      rcases S with M|M
      .obtain⟨i,B,O,hz⟩:=j.list M;obtain⟨E,L⟩:=z i B;refine SeqAt.in_listAt (fq s.heap l) O.isList (λw C=>E w (by simpa using C)) ⟨.bl _,H,j,rfl,?_⟩;rw[show i.toArray.any (fq s.heap l)=i.any (fq s.heap l) by simp,L];exact q U H _ (Le.refl _ _) P (.bl _)
      .obtain⟨i,B,O,hz⟩:=j.tuple M;obtain⟨E,L⟩:=z i B;refine SeqAt.in_tupleAt (fq s.heap l) O (λw C=>E w (by simpa using C)) ⟨.bl _,H,j,rfl,?_⟩;rw[show i.toArray.any (fq s.heap l)=i.any (fq s.heap l) by simp,L];exact q U H _ (Le.refl _ _) P (.bl _)
     |true =>
      rcases S with M|M
      .obtain⟨i,B,O,hz⟩:=j.list M;obtain⟨E,L⟩:=z i B;refine SeqAt.notIn_listAt (fq s.heap l) O.isList (λw C=>E w (by simpa using C)) ⟨.bl _,H,j,rfl,?_⟩;rw[show i.toArray.any (fq s.heap l)=i.any (fq s.heap l) by simp,L];exact q U H _ (Le.refl _ _) P (.bl _)
      .obtain⟨i,B,O,hz⟩:=j.tuple M;obtain⟨E,L⟩:=z i B;refine SeqAt.notIn_tupleAt (fq s.heap l) O (λw C=>E w (by simpa using C)) ⟨.bl _,H,j,rfl,?_⟩;rw[show i.toArray.any (fq s.heap l)=i.any (fq s.heap l) by simp,L];exact q U H _ (Le.refl _ _) P (.bl _)
    .rw[f_ hl]at q;exact q.elim
def Co(xs:UL)(h:MH):UZ:=match xs with
 |[x]=>(match bZ h x with
  |some ys=>pe ys h
  |none=>.bad)
 |_=>.bad
def xZ(xs:UL)(h:MH):UZ:=match xs with
 |[x]=>(match bZ h x with
  |some ys=>.ok (.tup ys) h
  |none=>.bad)
 |_=>.bad
def Em:cU X (.type "list") Co:=by
 intro F s Z H xs E Q l r ⟨U,h,O,z,rp,q⟩
 cases rp with
 |nil=>exact q.elim
 |cons B M =>
  cases M with
  |cons _ _=>exact q.elim
  |nil =>
   rename_i x y
   unfold Co at q
   cases j:bZ h x with
   |none=>simp only[j]at q;exact q.elim
   |some ys =>
    simp only[j]at q;obtain⟨a,L,rfl,u,i⟩:=jh z B j;obtain⟨_,C⟩:=lr z i q;exact tY F s Z H _ E Q l r ⟨a,L,rfl,u,C⟩
def tj:cU X (.type "tuple") xZ:=by
 intro L s Z H xs F Q j r ⟨U,h,ps,E,rp,q⟩
 cases rp with
 |nil=>exact q.elim
 |cons O R =>
  cases R with
  |cons _ _=>exact q.elim
  |nil =>
   rename_i x y
   unfold xZ at q
   cases z:bZ h x with
   |none=>simp only[z]at q;exact q.elim
   |some ys =>
    simp only[z]at q;obtain⟨a,B,rfl,C,i⟩:=jh E O z;rcases C with u|u
    .refine kq L s Z H _ F Q j r ⟨a,B,rfl,.inl ⟨u,λl S=>?_⟩⟩;obtain⟨P,M⟩:=E.tup S B;exact q U _ _ M P (.tup (SqT.of bQ) (i.le M))
    .exact kq L s Z H _ F Q j r ⟨a,B,rfl,.inr ⟨u,q U H _ (Le.refl _ _) E (.tup u i)⟩⟩
def fM(xs:UL)(lo i:UW):UL:=(xs.drop (HT.ki xs.length 0 lo)).take (HT.ki xs.length xs.length i-HT.ki xs.length 0 lo)
def Is(x:PV)(lo i:UW)(h:MH):UZ:=match x with
 |.tup xs=>if HT.ki xs.length 0 lo=0/\HT.ki xs.length xs.length i=xs.length then .bad else .ok (.tup (fM xs lo i)) h
 |.frl xs=>.ok (.loc h.length) (h++[.lst (fM xs lo i)])
 |.loc n=>(match h[n]? with
  |some (.lst xs)=>.ok (.loc h.length) (h++[.lst (fM xs lo i)])
  |_=>.bad)
 |_=>.bad
def T4(X:Cx)(f:PV->UW->UW->MH->UZ):V->UW->UW->Hp->VK->Prop:=λj lo i H Q=>∃U h x,RH X.K X.mg U H h/\RP X.K U H x j/\iH X (RV' X) U H (f x lo i h) Q
def pg{K:ib}{U:US}{H:Hp}{xs:UL}{ys:List V}(r:RPs K U H xs ys)(lo i:UW):RPs K U H (fM xs lo i) (mJ ys lo i):=by unfold fM mJ;rw[r.length];exact(r.drop _).take _
def MD:OM X (T4 X Is):=by
 intro O s Z H x' v L E lo i sl Q j S M R F ⟨U,h,x,r,C,q⟩
 cases C with
 |tup P B =>
  unfold Is at q;dsimp only at q
  rename_i xs a ys
  by_cases z:HT.ki xs.length 0 lo=0/\HT.ki xs.length xs.length i=xs.length
  .rw[b_ z]at q;exact q.elim
  .rw[f_ z]at q;refine Hx O s Z H _ v L E lo i sl Q j S M R F ⟨a,ys,rfl,P,by rw[<-B.length];exact z,λp y=>?_⟩;obtain⟨u,l⟩:=r.tup y (mJ ys lo i);exact q U _ _ l u (.tup (SqT.of bQ) ((pg B lo i).le l))
 |frl P B =>
  rename_i xs a ys
  refine vX O s Z H _ v L E lo i sl Q j S M R F ⟨a,ys,rfl,P.sq,λp y=>?_⟩;obtain⟨u,l⟩:=r.new y (o:=.lst (fM xs lo i)) ⟨_,rfl,pg B lo i⟩;exact q _ _ _ l u (.loc (by rw[<-r.len];simp))
 |@loc n a en =>
  obtain⟨o,eo,ro⟩:=r.obj en;unfold Is at q;dsimp only at q;rw[eo]at q
  cases o with
  |lst xs =>
   obtain⟨ys,ey,ry⟩:=ro;refine vX O s Z H _ v L E lo i sl Q j S M R F ⟨a,ys,rfl,SqL.of ey,λp y=>?_⟩;obtain⟨u,l⟩:=r.new y (o:=.lst (fM xs lo i)) ⟨_,rfl,pg ry lo i⟩;exact q _ _ _ l u (.loc (by rw[<-r.len];simp))
  |_=>exact q.elim
 |_=>exact q.elim
def MO'(X:Cx)(e:Option Expr)(m:Mx (UW)):Prop:=PO X e (tM X L_ m)
def SM:Mx (UW):=λ_ h=>.ok Y h
def SO(m:Mx PV):Mx (UW):=λZ h=>(m Z h).bind λv j=>match v with
 |.int i=>.ok (J i) j
 |_=>.bad
def En:MO' X Y SM:=λr s Z H Q i ⟨U,j,h,u,l,q⟩=>DH r s Z H Q i (q U H Y (Le.refl _ _) l rfl)
def Eo(h:ME X e m):MO' X (J e) (SO m):=λB s Z H Q l ⟨U,r,L,C,F,q⟩=>DI h B s Z H Q l ⟨U,r,L,C,F,Ful.bind q λy z v O M _ P j E u=>by
 cases E with
 |int i=>exact⟨i,rfl,u y z (J i) (Le.refl _ _) j rfl⟩
 |_=>exact u.elim⟩
def SQ(m:Mx PV)(y i:Mx (UW)):Mx PV:=λZ h=>(m Z h).bind λx r=>(y Z r).bind λlo u=>(i Z u).bind λl j=>(Is x lo l j).ne
def MF{e:Expr}{lo y:Option Expr}{m:Mx PV}{z B:Mx (UW)}{p2:Pos}(M:ME X e m)(hl:MO' X lo z)(hu:MO' X y B):ME X (.Subscript e (.Slice lo y Y p2) pos) (SQ m z B) :=
 PE.imp (Bv MD M hl hu) λZ H Q ⟨U,i,h,u,rh,q⟩=>⟨U,i,h,u,rh,Ful.bind q λL H1 x x' O _ E r rx P=>⟨L,i,O,u.le E,r,Ful.bind P λU2 H2 lo an h2 _ C l S R=>by
  subst S
  exact⟨U2,i,h2,u.le (E.trans C),l,Ful.bind R λF H3 y al h3 _ l3 j eh q3=>by
   subst eh
   exact⟨F,h3,x,j,(rx.le C).le l3,q3.zero⟩⟩⟩⟩
end
section
variable{X:Cx}{N W G:UM}{k:Nat}
def m6{A:Around}{E:UA}{F:UU}{Z:L2.St}{H:Hp}{s:Shared}{a:Addr}{ys:List V}{Q:UA}(C:A.handled=Y)(u:Inv X F Z H s)(r:SqL X.K H a ys\/SqT X.K H a ys)(h:∀(f:UT)(z:Heap)(It:Addr)(St:Nat->Heap->Prop),aB ys f->Walks X.prog X.w A It [It,a] [It] f.toArray.size (λi v=>f.toArray[i]?=J v) St->St 0 z->(∀b∈[It,a],b<z.objs.size)->(∀b o,s.heap.get? b=J o->z.get? b=J o)->s.heap.objs.size=It->Q (.ref It) { s with heap:=z}):
  wpAny (model X.prog X.w) A (pyIter (.ref a)) Q E s:=by
 have sz:∀(o:Obj),a<s.heap.objs.size->∀b∈[s.heap.objs.size,a],b<(s.heap.push o).objs.size:=λo j b y=>by
  rw[F1];rcases k4.mp y with rfl|y
  .exact Lp _
  .rcases k4.mp y with rfl|y
   .exact Ln j
   .cases y
 rcases r with r|r
 .obtain⟨f,B,L,_⟩:=u.list r;have l:=L.isList;have j:a<s.heap.objs.size:=by obtain⟨_,e,_⟩:=l;exact l_ e
  exact wpAny_pyIter_list l (h f _ _ _ B (Walks.list C _ a (u_ j) f.toArray) ⟨⟨_,rT _ rfl,rfl,rfl⟩,l.push _⟩ (sz _ j) (λb o e=>m_ _ e) rfl)
 .obtain⟨f,B,l,_⟩:=u.tuple r;have j:a<s.heap.objs.size:=by obtain⟨_,e,_⟩:=l;exact l_ e
  exact wpAny_pyIter_tuple l (h f _ _ _ B (Walks.tuple C _ a (u_ j) f.toArray) ⟨⟨_,rT _ rfl,rfl,rfl⟩,l.push _⟩ (sz _ j) (λb o e=>m_ _ e) rfl)
def xl{s:Shared}{a f:Heap}{It:Addr}(l:∀b o,s.heap.get? b=J o->a.get? b=J o)(e:s.heap.objs.size=It)(i:∀b o,b∉[It]->a.get? b=J o->f.get? b=J o):∀b o,s.heap.get? b=J o->f.get? b=J o:=λb o q=>by
 refine i b o (λj=>?_) (l b o q)
 have:b=It:=by simpa using j
 exact absurd (l_ q) (by rw[this,e];exact B4 _)
def f7:UL->Option (UN)
 |[]=>J []
 |.int i::r=>(f7 r).map (i::·)
 |_=>Y
def sQ{K:ib}{U:US}{H:Hp}:∀{xs:UL}{ys:List V}{j:UN}{f:UT},RPs K U H xs ys->aB ys f->f7 xs=J j->f.length=j.length/\∀(i:Nat)(u:Value),f[i]?=J u->∃t,u=.int (j.getD i 0) t:=by
 intro xs
 induction xs with
 |nil=>intro ys j f r v e;cases r;cases v;cases e;exact⟨rfl,λi u h=>by simp at h⟩
 |cons x xs M =>
  intro ys j f r v e
  cases r with
  |cons l y =>
   cases v with
   |cons C E =>
    cases l with
    |int b =>
     simp only[f7,vu]at e;obtain⟨B,z,rfl⟩:=e;obtain⟨a,F⟩:=M y E z;obtain⟨L,rfl⟩:=C;refine⟨by simp[a],λi u h=>?_⟩
     cases i with
     |zero=>simp at h;exact⟨L,by rw[<-h];rfl⟩
     |succ i=>obtain⟨t,e⟩:=F i u (by simpa using h);exact⟨t,by rw[e];simp⟩
    |_=>cases e
def lS(b:Nat->Nat->Bool)(a:UN):Int:=a.getD (argBest b (a.length-1)) 0
def Cp(xs:UL)(h:MH):UZ:=match xs with
 |[x]=>(match (bZ h x).bind f7 with
  |some a=>if 0<a.length then .ok (.int (lS (λi j=>decide (a.getD i 0>a.getD j 0)) a)) h else .bad
  |none=>.bad)
 |[.int i,.int j]=>.ok (.int (if j>i then j else i)) h
 |_=>.bad
def A_(xs:UL)(h:MH):UZ:=match xs with
 |[x]=>(match (bZ h x).bind f7 with
  |some a=>if 0<a.length then .ok (.int (lS (λi j=>decide (a.getD i 0<a.getD j 0)) a)) h else .bad
  |none=>.bad)
 |[.int i,.int j]=>.ok (.int (if j<i then j else i)) h
 |_=>.bad
def Ep(g:Good X N W G k):cU X (.builtin "max") Cp:=by
 intro LU s Z H xs us Q f r ⟨U,h,ps,O,rp,q⟩;unfold Cp at q
 split at q
 .rename_i x
  cases rp with
  |cons u L =>
  cases L
  cases E:(bZ h x).bind f7 with
  |none=>simp only[E]at q;exact q.elim
  |some C =>
   simp only[E]at q;by_cases F:0<C.length
   .rw[b_ F]at q;obtain⟨ys,e1,e2⟩:=C3.mp E;obtain⟨a,zs,rfl,M,z⟩:=jh O u e1
    cases r with
    |cons R tu =>
     cases tu;cases R;refine call_max_walk (m6 g.room.hd f M λB h2 It St rv Wk st fp kp y=>?_);obtain⟨el,P⟩:=sQ z rv e2;have l:B.toArray.size=C.length:=by exact el
     refine⟨It,_,_,_,_,St,_,rfl,Wk,st,fp,by rw[l];exact F,CmpOf.ints_gt (λi=>C.getD i 0) (λi v hv=>P i v (by simpa using hv)),λv h' tk hP kk=>?_⟩;have j:=hP;rw[l,Lh]at j;obtain⟨t,rfl⟩:=P _ v j;exact⟨.int _,H,f.kept (xl kp y kk),⟨t,rfl⟩,q U H _ (Le.refl _ _) O (.int _)⟩
   .rw[f_ F]at q;exact q.elim
 .cases rp with
  |cons u L =>
   cases L with
   |cons S t2 =>
    cases t2;cases u;cases S;exact qv g.calm LU s Z H _ us Q f r ⟨_,_,rfl,q U H _ (Le.refl _ _) O (.int _)⟩
 .exact q.elim
def pI(g:Good X N W G k):cU X (.builtin "min") A_:=by
 intro LU s Z H xs us Q f r ⟨U,h,ps,O,rp,q⟩;unfold A_ at q
 split at q
 .rename_i x
  cases rp with
  |cons u L =>
  cases L
  cases E:(bZ h x).bind f7 with
  |none=>simp only[E]at q;exact q.elim
  |some C =>
   simp only[E]at q;by_cases F:0<C.length
   .rw[b_ F]at q;obtain⟨ys,e1,e2⟩:=C3.mp E;obtain⟨a,zs,rfl,M,z⟩:=jh O u e1
    cases r with
    |cons R tu =>
     cases tu;cases R;refine call_min_walk (m6 g.room.hd f M λB h2 It St rv Wk st fp kp y=>?_);obtain⟨el,P⟩:=sQ z rv e2;have l:B.toArray.size=C.length:=by exact el
     refine⟨It,_,_,_,_,St,_,rfl,Wk,st,fp,by rw[l];exact F,CmpOf.ints_lt (λi=>C.getD i 0) (λi v hv=>P i v (by simpa using hv)),λv h' tk hP kk=>?_⟩;have j:=hP;rw[l,Lh]at j;obtain⟨t,rfl⟩:=P _ v j;exact⟨.int _,H,f.kept (xl kp y kk),⟨t,rfl⟩,q U H _ (Le.refl _ _) O (.int _)⟩
   .rw[f_ F]at q;exact q.elim
 .cases rp with
  |cons u L =>
   cases L with
   |cons S t2 =>
    cases t2;cases u;cases S;exact qA g.calm LU s Z H _ us Q f r ⟨_,_,rfl,q U H _ (Le.refl _ _) O (.int _)⟩
 .exact q.elim
end
def RH.loose{K:ib}{mg:DO}{U:US}{H:Hp}{h:MH}(r:RH K mg U H h){p:Addr}(f:H p=Y)(j:HO):RH K mg U (kg H p j) h/\Le U H U (kg H p j):=by
 have i:∀n a,U[n]?=J a->a≠p:=λn a e z=>by
  obtain⟨y,_,q⟩:=r.obj e;rw[z,f]at q;exact q.some rfl
 have l:Le U H U (kg H p j):=⟨⟨[],by simp⟩,λa xs e=>by rw[aY (bR e f)];exact e,λa B u e=>by rw[aY (bR e f)];exact e⟩;exact⟨⟨r.len,r.nd,λn a o e1 e2=>by rw[aY (i n a e1)];exact(r.at' n a o e1 e2).le l⟩,l⟩
section
variable{X:Cx}{N W G:UM}{k:Nat}
def lj(xs:UL)(i:Int)(v:PV):UL :=
 let k:=if i<0 then(i+(xs.length:Int)).toNat else min i.toNat xs.length
 xs.take k++v::xs.drop k
def lM(n:Nat)(a:UL)(h:MH):UZ:=match a with
 |[.int i,v]=>(match h[n]? with
  |some (.lst xs)=>if(-(2^63)<=i/\i<2^63)/\xs.length<sizeLine then .ok .non (h.set n (.lst (lj xs i v)))else .bad
  |_=>.bad)
 |_=>.bad
def yf:Hy X "list.insert" (Ir X lM):=by
 intro LU s Z H x vs v us Q u rx rv ⟨U,h,n,a,ps,e,en,rh,rp,q⟩;subst e;obtain⟨o,eo,ro⟩:=rh.obj en;unfold lM at q
 split at q
 .rename_i i R
  cases rp with
  |cons r1 t1 =>
   cases t1 with
   |cons r2 t2 =>
    cases t2;cases r1;rw[eo]at q
    cases o with
    |lst xs =>
     dsimp only at q;by_cases B:(-(2^63)<=i/\i<2^63)/\xs.length<sizeLine
     .rw[b_ B]at q;obtain⟨ys,ey,E⟩:=ro;cases rx
      cases rv with
      |cons L O=>cases O with
       |cons P C =>
        cases C
        rename_i v' u1 S
        obtain⟨t,rfl⟩:=L;obtain⟨z,f,nn,r,j,e⟩:=u.lstM ey
        let kk:=if i<0 then(i+(f.length:Int)).toNat else min i.toNat f.length
        have y:RPs X.K U H (lj xs i R) (ys.take kk++v'::ys.drop kk):=by
         have:(if i<0 then(i+(xs.length:Int)).toNat else min i.toNat xs.length)=kk:=by rw[E.length,j]
         unfold lj;rw[this];exact(E.take kk).append (.cons r2 (E.drop kk))
        obtain⟨F,l'⟩:=rh.put en (o:=.lst (lj xs i R)) ⟨_,rfl,y⟩;refine call_meets PySem.F.slot_list_insert ⟨_,e,rfl⟩ PySem.F.entry_list_insert (PySem.F.args_list_insert_3 _ _ _) (AutoListH.list_insert_list_int_val_1 a f.toArray nn i t S (by rw[fitsIndex_both B.1.1 B.1.2];simp) (by rw[qd];ext)) ⟨e,?_⟩;have l:=(r.take kk).append (.cons P (r.drop kk));have M:(ys.take kk++v'::ys.drop kk).length<=sizeLine:=by
         rw[<-y.length];have e1:(lj xs i R).length=xs.length+1:=by unfold lj;simp only[z_,AQ,Di,Cu];ext
         ext
        refine⟨.non,_,u.lset (its':=f.take kk++S::f.drop kk) ey e ?_ l M,rfl,q U _ .non l' F .non⟩;simp[kk,List.extract];refine Lc ?_;rw[Cu];exact il _
     .rw[f_ B]at q;exact q.elim
    |_=>exact q.elim
 .exact q.elim
def Iu(g:Good X N W G k){x:Str}{j:Nat}{i:Int}{a:Pos}(l:G[j]?=J x)(f:∃t,X.mg x=J (.int i t)):ME X (.Name x a) (mC (.int i)):=by obtain⟨t,f⟩:=f;have d:=g.dbg x (o_ _ (aL l));exact PE.imp (Dq (v:=.int i) (g.gl x (aL l)) f ⟨t,rfl⟩ d.1) λZ H Q ⟨U,r,h,y,u,q⟩=>q U H _ (Le.refl _ _) u (.int _)
def MK(i:TA):TE:=λZ H Q=>i Z H λf a=>∃j:Int,f=[.int j] /\ -(2^62)<=j/\j<2^62/\∀p,a p=Y->Q (.ref p) (kg a p (.rng 0 j))
def qQ(L:Gl X "range")(B:X.mg "range"=Y)(E:PA X [a] ta)(y:starEach [a] X.env=[(T,eval a X.env)]:=by rfl):PE X (.Call (.Name "range" p) [a] [] pos) (MK ta):=by
 intro C s Z H R f h;refine Call_ (gB f L B boot_range (PyProof.Rows.callWith_type1 (ka (E pos C s Z H _ f h) λP F ⟨M,Q,l,u,i⟩=>?_) y rfl));obtain⟨j,e,i,O,q⟩:=i;subst e
 cases u with
 |cons r z =>
  cases z;obtain⟨t,rfl⟩:=r;refine call_range_1 ⟨.ref F.heap.objs.size,_,l.laid (λb o e=>m_ _ e) (il _) ?_,rfl,q _ (l.hok.fresh (il _))⟩;exact⟨_,_,_,rT _ rfl⟩
def gU:∀(n:Nat)(lo:Int)(a:UT),a.length=n->(∀(i:Nat)(v:Value),a[i]?=J v->∃t,v=.int (lo+i) t)->aB ((List.range n).map λi=>V.int (lo+(i:Nat))) a
 |0,lo,a,f,_=>by cases a with|nil=>exact .nil|cons _ _=>simp at f
 |n+1,lo,a,f,h=>by
  cases a with
  |nil=>simp at f
  |cons u a =>
   rw[List.range_succ_eq_map,n9,Bp];obtain⟨t,e⟩:=h 0 u rfl;refine .cons ⟨t,e⟩ ?_;have j:=gU n (lo+1) a (by simpa using f) λi v hv=>by
    obtain⟨t,e⟩:=h (i+1) v (by simpa using hv);exact⟨t,by rw[e];congr 1;push_cast;ext⟩
   have e2:((λi=>V.int (lo+((i:Nat):Int)))∘Nat.succ)=λi=>V.int (lo+1+((i:Nat):Int)):=by funext i;simp only[Function.comp];congr 1;push_cast;ext
   rw[e2];exact j
def rB(S:X.calm=I):cS X (.type "list") (λxs H Q=>∃r j,xs=[.ref r]/\H r=J (.rng 0 j) /\ -(2^62)<=j/\j<2^62/\j.toNat<=sizeLine/\∀l,H l=Y->Q (.ref l) (kg H l (.lst ((List.range j.toNat).map λi=>V.int (0+(i:Nat)))))):=by
 intro LU s Z H xs U Q a r ⟨M,j,e,L,E,F,y,q⟩;subst e
 cases r with
 |cons B P =>
  cases P;cases B;obtain⟨t,u,v,R⟩:=(a.hok M _ L);refine call_list_range (a.ok.hd S) R (small_one (by ext) (by ext) E F) (by rw[rangeSize_one];split<;>ext) y λh' tk f C kp e z=>?_;have O:=gU _ 0 _ (by exact z.1) λi v hv=>by
   obtain⟨t,e⟩:=z.2 i v (by rw[<-w_];exact hv)
   grind
  refine⟨.ref s.heap.objs.size,_,a.laid (o:=.lst _) kp (il _) (⟨by simpa using y,f.toList,C,O,by simpa using e⟩),rfl,q _ (a.hok.fresh (il _))⟩
def T5(m:Mx (UL)):Mx PV:=λZ h=>(m Z h).bind λf a=>match f with
 |[.int j]=>if -(2^62)<=j/\j<2^62/\j.toNat<=sizeLine then .ok (.loc a.length) (a++[.lst (bz 0 j.toNat)])else .bad
 |_=>.bad
def iZ{K:ib}{U:US}{H:Hp}{lo:Int}:∀(l:UQ),RPs K U H (l.map λ(i:Nat)=>PV.int (lo+(i:Int))) (l.map λ(i:Nat)=>V.int (lo+(i:Int)))
 |[]=>.nil
 |i::l=>.cons (.int _) (iZ l)
def A1(g:Good X N W G k){a:Expr}{m:Mx (UL)}{i j:Nat}{p O M f:Pos}(S:G[i]?=J "list")(hm:X.mg "list"=Y)(hj:G[j]?=J "range")(F:X.mg "range"=Y)(ha:MA X [a] m)(hs:starEach [a] X.env=[(T,eval a X.env)]:=by rfl)(R:starEach [.Call (.Name "range" O) [a] [] f] X.env=[(T,eval (.Call (.Name "range" O) [a] [] f) X.env)]:=by rfl):ME X (.Call (.Name "list" p) [.Call (.Name "range" O) [a] [] f] [] M) (T5 m):=by
 have d:=g.dbg _ (o_ _ (aL S));refine PE.imp (gu (rB g.calm) (g.gl _ (aL S)) hm PyProof.Rows.Boot.«list» (fX (qQ (g.gl _ (aL hj)) F ha hs) jx R) d.2.2 d.1 R rfl) λZ H Q ⟨U,L,h,rs,rh,q⟩=>?_;refine⟨U,L,h,rs,rh,Ful.bind q λU1 H1 x x' h1 _ l1 B rx u=>?_⟩
 cases rx with
 |nil=>exact u.elim
 |cons P t1 =>
  cases t1 with
  |cons _ _=>cases P<;>exact u.elim
  |nil =>
   cases P with
   |int y =>
    dsimp only at u;by_cases z:-(2^62)<=y/\y<2^62/\y.toNat<=sizeLine
    .rw[b_ z]at u;refine⟨y,rfl,z.1,z.2.1,λr hr=>?_⟩;obtain⟨E,l2⟩:=B.loose hr (.rng 0 y);refine⟨r,y,rfl,bQ,z.1,z.2.1,z.2.2,λl hl=>?_⟩;obtain⟨C,l3⟩:=E.new hl (o:=.lst (bz 0 y.toNat)) ⟨_,rfl,iZ _⟩;exact u _ _ _ (l2.trans l3) C (.loc (by rw[<-B.len];simp))
    .rw[f_ z]at u;exact u.elim
   |_=>exact u.elim
end
end MM
namespace SetT
open PySem.SetTable
def eR(xs:Array Nat):Prop:=∀a b u v:Nat,a<b->xs[a]?=J u->xs[b]?=J v->u<v
def At(xs:Array Nat)(j:Nat)(L:eR xs):∀l lo i:Nat,i-lo<=l->lo<=i->i<=xs.size ->
  (∀a v,xs[a]?=J v->a<lo->v<j)->(∀a v,xs[a]?=J v->i<=a->j<=v) ->
  below.go xs j l lo i<=xs.size/\(∀a v,xs[a]?=J v->a<below.go xs j l lo i->v<j) /\
   (∀a v,xs[a]?=J v->below.go xs j l lo i<=a->j<=v):=by
 intro l
 induction l with
 |zero =>
  intro lo i O P F B z
  have:lo=i:=by lia
  subst this;exact⟨F,B,z⟩
 |succ f M =>
  intro lo i O P F B z;unfold below.go;by_cases y:lo<i
  .simp only[y,if_true];have u:(lo+i)/2<xs.size:=by lia
   have C:xs[(lo+i)/2]?=J (xs[(lo+i)/2]'u):=Lb u;have hd:xs.getD ((lo+i)/2) j=xs[(lo+i)/2]'u:=by simp[Array.getD,u]
   rw[hd];by_cases G:xs[(lo+i)/2]'u<j
   .simp only[G,if_true];apply M
    .lia
    .lia
    .lia
    .intro a v r H;by_cases E:a=(lo+i)/2
     .subst E;rw[C]at r;cases r;exact G
     .have:=L a ((lo+i)/2) v _ ⋯ r C;lia
    .exact z
   .simp only[G,if_false];apply M
    .lia
    .lia
    .lia
    .exact B
    .intro a v r Q;by_cases E:a=(lo+i)/2
     .subst E;rw[C]at r;cases r;lia
     .have:=L ((lo+i)/2) a _ v ⋯ C r;lia
  .simp only[y,if_false]
   have:lo=i:=by lia
   subst this;exact⟨F,B,z⟩
def d5(xs:Array Nat)(j:Nat)(f:eR xs):
  below xs j<=xs.size/\(∀a v,xs[a]?=J v->a<below xs j->v<j)/\(∀a v,xs[a]?=J v->below xs j<=a->j<=v):=by
 apply At xs j f
 .lia
 .lia
 .lia
 .lia
 .intro a v i h
  simp_all
def iP(xs:Array Nat)(i j:Nat)(f:eR xs)(h:xs[i]?=J j):below xs j=i:=by
 obtain⟨_,z,u⟩:=d5 xs j f;by_cases y:i<below xs j
 .have:=z i j h y;lia
 .by_cases r:below xs j=i
  .exact r
  .have a:below xs j<i:=by lia
   have E:i<xs.size:=by grind
   have l:xs[below xs j]?=J (xs[below xs j]'⋯):=Lb ⋯;have B:=f _ i _ j a l h;have C:=u _ _ l (il _);lia
def BY(a:Array Nat)(s:Nat):Prop:=∃i:Nat,a[i]?=J s
def wq(j:Nat):has (#[]:Array Nat) j=T:=by unfold has;simp
def qM(t:SetTable)(a:eR t.place)(i s:Nat)(h:t.place[i]?=J s):t.slot s=.live i:=by unfold SetTable.slot;simp only[iP t.place i s a h,h];simp
def xx(t:SetTable)(hd:t.dummies=#[])(s:Nat)(h:¬BY t.place s):t.slot s=.empty:=by
 unfold SetTable.slot;simp only[hd,wq];split
 .rename_i a
  exact absurd ⟨_,by simpa using a⟩ h
 .simp
def cA(xs:Array α)(p:Nat)(x:α)(l:p<=xs.size)(i:Nat):
  (insertAt xs p x)[i]?=if i<p then xs[i]? else if i=p then J x else xs[i-1]?:=by
 unfold insertAt;have e1:(xs.extract 0 p).size=p:=by simp;lia
 rw[Array.getElem?_append];simp only[Dl,e1];split
 .rw[Array.getElem?_push];simp only[e1];split
  .rename_i a;subst a;simp
  .rw[Ld];lia
 .have a:¬i<p:=by lia
  have j:¬i=p:=by lia
  rw[Ld];have e2:p+(i-(p+1))=i-1:=by lia
  simp only[e2];split
  .rfl
  .rename_i f
   rw[Su];simp at f;lia
def dE(xs:Array α)(p:Nat)(x:α)(a:p<=xs.size):(insertAt xs p x).size=xs.size+1:=by unfold insertAt;simp;lia
def sF(f:α->β)(xs:Array α)(p:Nat)(x:α):(insertAt xs p x).map f=insertAt (xs.map f) p (f x):=by unfold insertAt;simp
def oG(x M:Nat):x % (M+1)<=M:=FW (Nat.mod_lt x (Nat.succ_pos M))
def Cd(M:Nat)(p:Probe):Probe :=
 if p.more>0 then { p with j:=p.j+1,more:=p.more-1} else
 { p with j:=(leap M p.i p.perturb).1,more:=runEnd M (leap M p.i p.perturb).1-(leap M p.i p.perturb).1,i:=(leap M p.i p.perturb).1,perturb:=(leap M p.i p.perturb).2}
def wO(t:SetTable)(p:Probe):t.advance p=Cd t.mask p:=by unfold SetTable.advance Cd;rfl
def Er(M:Nat)(h:Int):Probe:={ j:=bits h % (M+1),more:=runEnd M (bits h % (M+1))-bits h % (M+1),i:=bits h % (M+1),perturb:=bits h,dummy:=Y}
def st(M:Nat)(h:Int):Nat->Probe
 |0=>Er M h
 |n+1=>Cd M (st M h n)
def sl(M:Nat)(h:Int)(n:Nat):Nat:=(st M h n).j
def gD(M i:Nat)(h:i<=M):i<=runEnd M i/\runEnd M i<=M/\runEnd M i-i<=9:=by unfold runEnd;split<;>lia
def zn(M:Nat)(h:Int)(n:Nat):(st M h n).i<=M/\(st M h n).j+(st M h n).more=runEnd M (st M h n).i/\(st M h n).dummy=Y:=by
 induction n with
 |zero =>
  have a:bits h % (M+1)<=M:=oG _ _
  have:=gD M _ a
  refine⟨a,?_,rfl⟩;show bits h % (M+1)+(runEnd M (bits h % (M+1))-bits h % (M+1))=runEnd M (bits h % (M+1));lia
 |succ n f =>
  show(Cd M (st M h n)).i<=M/\(Cd M (st M h n)).j+(Cd M (st M h n)).more=runEnd M (Cd M (st M h n)).i/\(Cd M (st M h n)).dummy=Y;unfold Cd;split
  .lia
  .have a:(leap M (st M h n).i (st M h n).perturb).1<=M:=oG _ _
   have:=gD M _ a
   grind
def Gj(M:Nat)(h:Int)(n:Nat):sl M h n<=M:=by
 have:=zn M h n
 have a:=gD M _ this.1;unfold sl;lia
def base(M:Nat)(h:Int):Nat->Nat×Nat
 |0=>(bits h % (M+1),bits h)
 |b+1=>leap M (base M h b).1 (base M h b).2
def o8(M:Nat)(h:Int)(b:Nat):(base M h b).1<=M:=by
 cases b with
 |zero=>exact oG _ _
 |succ b =>
  exact oG _ _
def tb(M:Nat)(h:Int):Nat->Nat
 |0=>0
 |b+1=>tb M h b+(runEnd M (base M h b).1-(base M h b).1)+1
def ML(M:Nat)(h:Int)(b:Nat):tb M h b<=10*b:=by
 induction b with
 |zero=>exact il _
 |succ b a =>
  have:=gD M _ (o8 M h b)
  show tb M h b+(runEnd M (base M h b).1-(base M h b).1)+1<=10*(b+1);lia
def MN(M:Nat)(h:Int)(b k:Nat):Probe :=
 { j:=(base M h b).1+k,more:=runEnd M (base M h b).1-(base M h b).1-k,i:=(base M h b).1,perturb:=(base M h b).2,dummy:=Y}
def sM(M:Nat)(h:Int)(b:Nat):∀k,k<=runEnd M (base M h b).1-(base M h b).1->st M h (tb M h b+k)=MN M h b k:=by
 induction b with
 |zero =>
  intro k
  induction k with
  |zero=>intro _;rfl
  |succ k a =>
   intro i;show Cd M (st M h (tb M h 0+k))=_;rw[a ⋯];unfold Cd MN;lia
 |succ b f =>
  intro k
  induction k with
  |zero =>
   intro _;show Cd M (st M h (tb M h b+(runEnd M (base M h b).1-(base M h b).1)))=_;rw[f _ (il _)];unfold Cd MN;simp;exact⟨rfl,rfl,rfl,rfl⟩
  |succ k a =>
   intro i;show Cd M (st M h (tb M h (b+1)+k))=_;rw[a ⋯];unfold Cd MN
   have:runEnd M (base M h (b+1)).1-(base M h (b+1)).1-k>0:=by lia
   lia
def Es(h:Int):bits h<2^64:=by unfold bits;lia
def yF(M:Nat)(h:Int):∀b,(base M h b).2=bits h/32^b:=by
 intro b
 induction b with
 |zero=>simp[base]
 |succ b a =>
  show(base M h b).2/32=_;rw[a,Nat.div_div_eq_div_mul,Qg]
def xY(M:Nat)(h:Int)(b:Nat)(a:13<=b):(base M h b).2=0:=by rw[yF];apply Nat.div_eq_of_lt;have f:=Es h;have i:32^13<=32^b:=PP (by decide) a;lia
def Ce(M:Nat):Nat->Nat->Nat
 |0,x=>x
 |n+1,x=>(Ce M n x*5+1) % (M+1)
def Ad(M:Nat)(h:Int)(n:Nat):(base M h (13+n)).1=Ce M n (base M h 13).1:=by
 induction n with
 |zero=>rfl
 |succ n a =>
  show((base M h (13+n)).1*5+1+(base M h (13+n)).2/32) % (M+1)=(Ce M n (base M h 13).1*5+1) % (M+1);rw[a,xY M h (13+n) ⋯]
def lJ(M:Nat)(a b x:Nat):Ce M (a+b) x=Ce M a (Ce M b x):=by
 induction a with
 |zero=>simp[Ce]
 |succ a f=>rw[Nat.succ_add];show(Ce M (a+b) x*5+1) % (M+1)=(Ce M a (Ce M b x)*5+1) % (M+1);rw[f]
def KP(M:Nat):Nat->Nat->UQ
 |0,_=>[]
 |n+1,x=>x::KP M n ((x*5+1) % (M+1))
def AE(M n x:Nat):Ce M n ((x*5+1) % (M+1))=Ce M (n+1) x:=by
 have:=lJ M n 1 x
 rw[this];rfl
def vf(M:Nat)(s:Nat):∀n x,s∈KP M n x->∃m,m<n/\Ce M m x=s:=by
 intro n
 induction n with
 |zero=>intro x h;cases h
 |succ n a =>
  intro x h
  cases h with
  |head=>exact⟨0,⋯,rfl⟩
  |tail _ h =>
   obtain⟨m,f,e⟩:=a _ h;exact⟨m+1,⋯,by rw[<-e,AE]⟩
def fQ(M:Nat):Prop:=Ce M (M+1) 0=0/\∀s,s<=M->s∈KP M (M+1) 0
set_option maxRecDepth 100000 in
theorem MP:fQ 7:=⟨by decide,by
 have:∀s:Fin 8,(KP 7 8 0).contains s.val=I:=by decide
 intro s a;have:=this ⟨s,⋯⟩;simpa using this⟩
set_option maxRecDepth 100000 in
theorem Iv:fQ 31:=⟨by decide,by
 have:(List.range 32).all (λs=>(KP 31 32 0).contains s)=I:=by decide
 intro s f;have a:=P6.mp this s (by simp;lia)
 simpa using a⟩
set_option maxRecDepth 100000 in
theorem Et:fQ 127:=⟨by decide,by
 have:(List.range 128).all (λs=>(KP 127 128 0).contains s)=I:=by decide
 intro s f;have a:=P6.mp this s (by simp;lia)
 simpa using a⟩
def zl(M:Nat)(hf:fQ M)(x s:Nat)(l:x<=M)(j:s<=M):∃m,m<=2*M+1/\m<=M/\Ce M m x=s:=by
 obtain⟨a,u,i⟩:=vf M x _ _ (hf.2 x l);obtain⟨b,r,f⟩:=vf M s _ _ (hf.2 s j);by_cases h:a<=b
 .refine⟨b-a,⋯,⋯,?_⟩;rw[<-i,<-lJ,GR h];exact f
 .refine⟨M+1-a+b,⋯,⋯,?_⟩;rw[<-i,<-lJ]
  have:M+1-a+b+a=b+(M+1):=by lia
  rw[this,lJ,hf.1];exact f
def nE(M:Nat)(hf:fQ M)(h:Int)(s:Nat)(a:s<=M):∃b,b<=M+13/\(base M h b).1=s:=by obtain⟨m,_,f,e⟩:=zl M hf (base M h 13).1 s (o8 M h 13) a;exact⟨13+m,⋯,by rw[Ad];exact e⟩
def A6(M:Nat)(hf:fQ M)(h:Int)(s:Nat)(a:s<=M):∃n,n<=10*(M+13)/\sl M h n=s:=by
 obtain⟨b,f,e⟩:=nE M hf h s a;refine⟨tb M h b,?_,?_⟩
 .have:=ML M h b;lia
 .have:=sM M h b 0 ⋯
  unfold sl;rw[Nat.add_zero]at this;rw[this];show(base M h b).1+0=s;lia
structure WF(M:Nat)(pl:Array Nat)(hs:Array Int):Prop where
 rise:eR pl
 bound:∀i v:Nat,pl[i]?=J v->v<=M
 size:pl.size=hs.size
 reach:∀(i:Nat)(h:Int)(v:Nat),hs[i]?=J h->pl[i]?=J v->∃n,sl M h n=v/\∀m,m<n->BY pl (sl M h m)
def eA{α:Type}{xs:Array α}{i:Nat}{v:α}(h:xs[i]?=J v):i<xs.size:=by grind
def dP{α:Type}(xs:Array α)(i:Nat)(h:i<xs.size):∃v,xs[i]?=J v:=⟨_,Lb h⟩
def zH(j:Array Nat)(l:eR j)(M:Nat)(h:∀s,s<=M->BY j s):∀s i:Nat,s<=M->j[i]?=J s->s<=i:=by
 intro s
 induction s with
 |zero=>lia
 |succ s u =>
  intro i y f;obtain⟨k,a⟩:=h s ⋯;have z:=u k ⋯ a;by_cases B:k<i
  .lia
  .by_cases r:k=i
   .subst r;rw[a]at f;cases f
   .have:=l i k (s+1) s ⋯ f a;lia
def zC(f:Array Nat)(u:eR f)(M:Nat)(r:f.size<=M):∃s,s<=M/\¬BY f s:=by
 apply Classical.byContradiction;intro l;have a:∀s,s<=M->BY f s:=by
  intro s y
  simp_all
 obtain⟨i,j⟩:=a M (il _)
 have:=zH f u M a M i (il _) j
 have:=eA j
 lia
def MQ(P:Nat->Prop):∀n,P n->∃m,m<=n/\P m/\∀k,k<m->¬P k:=by
 intro n
 induction n using Nat.strongRecOn with
 |_ n i =>
  intro j;by_cases h:∃k,k<n/\P k
  .obtain⟨k,a,f⟩:=h;obtain⟨m,l,r⟩:=i k a f;exact⟨m,⋯,r⟩
  .exact⟨n,il _,j,λk a f=>h ⟨k,a,f⟩⟩
def x9(a:Array Nat)(y:eR a)(M:Nat)(hf:fQ M)(i:a.size<=M)(h:Int):
  ∃n,n<=10*(M+13)/\¬BY a (sl M h n)/\∀m,m<n->BY a (sl M h m):=by
 obtain⟨s,l,f⟩:=zC a y M i;obtain⟨n,B,e⟩:=A6 M hf h s l;obtain⟨m,z,u,r⟩:=MQ (λn=>¬BY a (sl M h n)) n (by rw[e];exact f);exact⟨m,⋯,u,λk j=>Classical.byContradiction (r k j)⟩
def An(t:SetTable)(hd:t.dummies=#[])(M:eR t.place)(hashAt:Nat->Int)(h:Int)(y:Nat)(G:¬BY t.place (sl t.mask h y))(E:∀m,m<y->BY t.place (sl t.mask h m)):
  ∀j n,n<=y->y-n<j ->
   (probe.go t hashAt h j (st t.mask h n)=J (.empty (sl t.mask h y) Y) /\
    ∀m i:Nat,n<=m->m<y->t.place[i]?=J (sl t.mask h m)->hashAt i≠h) \/
   (∃m i:Nat,n<=m/\m<y/\t.place[i]?=J (sl t.mask h m)/\hashAt i=h /\
    probe.go t hashAt h j (st t.mask h n)=J (.candidate (sl t.mask h m) i (st t.mask h (m+1))) /\
    ∀z l:Nat,n<=z->z<m->t.place[l]?=J (sl t.mask h z)->hashAt l≠h):=by
 intro j
 induction j with
 |zero=>intro n X h2;lia
 |succ f ih =>
  intro n X h2;by_cases U:n=y
  .subst U;left;refine⟨?_,λm i L C=>by lia⟩;unfold probe.go;have r:=xx t hd _ G;unfold sl at r;simp only[r]
   have:=(zn t.mask h n).2.2
   rw[this];rfl
  .obtain⟨i,P⟩:=E n ⋯;have r:=qM t M i _ P;have R:probe.go t hashAt h (f+1) (st t.mask h n)=if hashAt i==h then J (.candidate (sl t.mask h n) i (st t.mask h (n+1)))else probe.go t hashAt h f (st t.mask h (n+1)):=by
    conv=>lhs;unfold probe.go
    unfold sl at r;simp only[r,wO];rfl
   by_cases F:hashAt i=h
   .right;refine⟨n,i,il _,⋯,P,F,?_,λz l L C=>by lia⟩;rw[R];simp[F]
   .have Q:probe.go t hashAt h (f+1) (st t.mask h n)=probe.go t hashAt h f (st t.mask h (n+1)):=by
     rw[R];simp[F]
    rw[Q];have u:∀l:Nat,t.place[l]?=J (sl t.mask h n)->l=i:=by intro l O;have a:=iP _ _ _ M P;have b:=iP _ _ _ M O;lia
    rcases ih (n+1) ⋯ ⋯with⟨S,W⟩|⟨m,i2,q1,Z,q3,q4,q5,q6⟩
    .left;refine⟨S,?_⟩;intro m l L C B;by_cases H:m=n
     .subst H;rw[u l B];exact F
     .exact W m l ⋯ C B
    .right;refine⟨m,i2,⋯,Z,q3,q4,q5,?_⟩;intro z l L C B;by_cases H:z=n
     .subst H;rw[u l B];exact F
     .exact q6 z l ⋯ C B
def ph(f:Array Nat)(p s:Nat)(l:p<=f.size)(x:Nat)(h:BY f x):BY (insertAt f p s) x:=by
 obtain⟨i,j⟩:=h;by_cases r:i<p
 .exact⟨i,by rw[cA _ _ _ l];simp[r,j]⟩
 .refine⟨i+1,?_⟩;rw[cA _ _ _ l];have a:¬i+1<p:=by lia
  have b:¬i+1=p:=by lia
  simp[a,b,j]
def AN(j:Array Nat)(s:Nat)(r:eR j)(y:¬BY j s):eR (insertAt j (below j s) s):=by
 obtain⟨G,C,z⟩:=d5 j s r;intro a b u v B l f;rw[cA _ _ _ G]at l f;have E:=λi H=>y ⟨i,H⟩
 split at l
 .rename_i F
  have L:=C a u l F
  split at f
  .exact r a b u v B l f
  .split at f
   .cases f;exact L
   .exact r a (b-1) u v ⋯ l f
 .split at l
  .have e1:¬b<below j s:=by lia
   have e2:¬b=below j s:=by lia
   simp only[e1,e2,if_false]at f
   have:=z (b-1) v f ⋯
   have M:v≠s:=λe=>E (b-1) (by rw[f,e]);lia
  .have e1:¬b<below j s:=by lia
   have e2:¬b=below j s:=by lia
   simp only[e1,e2]at f;exact r (a-1) (b-1) u v ⋯ l f
def Ix(M:Nat)(a:Array Nat)(E:Array Int)(w:WF M a E)(h:Int)(n:Nat)(B:¬BY a (sl M h n))(z:∀m,m<n->BY a (sl M h m)):
  WF M (insertAt a (below a (sl M h n)) (sl M h n)) (insertAt E (below a (sl M h n)) h):=by
 have j:=(d5 a (sl M h n) w.rise).1;have u:below a (sl M h n)<=E.size:=by have:=w.size;lia
 refine⟨AN a _ w.rise B,?_,?_,?_⟩
 .intro i v l;rw[cA _ _ _ j]at l
  split at l
  .exact w.bound _ _ l
  .split at l
   .cases l;exact Gj M h n
   .exact w.bound _ _ l
 .rw[dE _ _ _ j,dE _ _ _ u,w.size]
 .intro i G v f hv;rw[cA _ _ _ j]at hv;rw[cA _ _ _ u]at f
  split at hv
  .rename_i C
   simp only[C]at f;obtain⟨k,e,r⟩:=w.reach i G v f hv;exact⟨k,e,λm y=>ph _ _ _ j _ (r m y)⟩
  .rename_i C
   split at hv
   .rename_i F
    simp only[F]at f;cases hv;simp at f;cases f;exact⟨n,rfl,λm y=>ph _ _ _ j _ (z m y)⟩
   .rename_i F
    simp only[C,F]at f;obtain⟨k,e,r⟩:=w.reach (i-1) G v f hv;exact⟨k,e,λm y=>ph _ _ _ j _ (r m y)⟩
def iG(ow:Array (UD))(s:Nat):Prop:=∃i:Nat,ow[s]?=J (J i)
structure LC(M:Nat)(ow:Array (UD))(k:Nat)(hs:Array Int):Prop where
 size:ow.size=M+1
 own:∀i,i<k->∃j:Nat,ow[j]?=J (J i)
 inj:∀i j j':Nat,ow[j]?=J (J i)->ow[j']?=J (J i)->j=j'
 lt:∀j i:Nat,ow[j]?=J (J i)->i<k
 reach:∀(j i:Nat)(h:Int),ow[j]?=J (J i)->hs[i]?=J h->∃n,sl M h n=j/\∀m,m<n->iG ow (sl M h m)
def kj(ow:Array (UD))(s:Nat)(a:s<ow.size):(ow.getD s (J 0)).isNone=I↔¬iG ow s:=by
 unfold iG
 have:=Lb a
 simp only[Array.getD,a,this]
 cases h:ow[s]'a with
 |none=>simp[h]
 |some v=>simp[h]
def yE(M:Nat)(hf:fQ M)(ow:Array (UD))(al:ow.size=M+1)(h:Int)(s:Nat)(S:s<=M)(E:¬iG ow s):
  ∀l b,M+13<b+l->(∀m,m<tb M h b->iG ow (sl M h m)) ->
   ∃n,layClean.free M ow l (base M h b).1 (base M h b).2=J (sl M h n)/\¬iG ow (sl M h n)/\∀m,m<n->iG ow (sl M h m):=by
 have r:∀b c,b<c->tb M h b<tb M h c:=by
  intro b c Q
  induction c with
  |zero=>lia
  |succ c G =>
   show tb M h b<tb M h c+(runEnd M (base M h c).1-(base M h c).1)+1;by_cases e:b=c
   .subst e;lia
   .have:=G ⋯;lia
 intro l
 induction l with
 |zero =>
  intro b Z i;obtain⟨C,R,e⟩:=nE M hf h s S;have z:=r C b ⋯;have u:=i _ z;have y:=sM M h C 0 ⋯;rw[Nat.add_zero]at y;unfold sl at u;rw[y]at u
  have:(MN M h C 0).j=s:=by show(base M h C).1+0=s;lia
  rw[this]at u;exact absurd u E
 |succ f G =>
  intro b Z i;have F:=o8 M h b;have P:=gD M _ F;have a:∀k,k<=runEnd M (base M h b).1-(base M h b).1->sl M h (tb M h b+k)=(base M h b).1+k:=by intro k L;unfold sl;rw[sM M h b k L];rfl
  unfold layClean.free
  cases KR:(List.range (runEnd M (base M h b).1+1-(base M h b).1)).find? λk=>(ow.getD ((base M h b).1+k) (J 0)).isNone with
  |some k =>
   rw[List.find?_range_eq_some]at KR;obtain⟨p1,W,U⟩:=KR;have L:k<runEnd M (base M h b).1+1-(base M h b).1:=by simpa using W
   refine⟨tb M h b+k,?_,?_,?_⟩
   .rw[a k ⋯]
   .rw[a k ⋯];exact(kj ow _ ⋯).mp p1
   .intro m O;by_cases z:m<tb M h b
    .exact i m z
    .have e:m=tb M h b+(m-tb M h b):=by lia
     rw[e,a _ ⋯];have u:=U (m-tb M h b) ⋯;have y:=kj ow ((base M h b).1+(m-tb M h b)) ⋯;apply Classical.byContradiction;intro H;rw[y.mpr H]at u;simp at u
  |none =>
   rw[List.find?_range_eq_none]at KR;have B:∀m,m<tb M h (b+1)->iG ow (sl M h m):=by
    intro m O;by_cases z:m<tb M h b
    .exact i m z
    .have X:m<tb M h b+(runEnd M (base M h b).1-(base M h b).1)+1:=O;have e:m=tb M h b+(m-tb M h b):=by lia
     rw[e,a _ ⋯];have u:=KR (m-tb M h b) ⋯;have y:=kj ow ((base M h b).1+(m-tb M h b)) ⋯;apply Classical.byContradiction;intro H;rw[y.mpr H]at u;simp at u
   exact G (b+1) ⋯ B
def Eu(M:Nat)(ow:Array (UD))(k:Nat)(j:Array Int)(c:LC M ow k j)(H:k<=M):∃s,s<=M/\¬iG ow s:=by
 apply Classical.byContradiction;intro u;have l:=λs j=>Classical.byContradiction (λh=>u ⟨s,j,h⟩);have f:∀s,s<=M->ow[s]?=J (J ((ow.getD s Y).getD 0)):=by
  intro s j;obtain⟨i,L⟩:=l s j
  simp_all
 have B:((List.range (M+1)).map (λs=>(ow.getD s Y).getD 0)).Nodup:=by unfold List.Nodup;rw[Kx];apply List.Pairwise.imp_of_mem _ OB;intro a b E G z e;have y:=f a (by simp at E;lia);have C:=f b (by simp at G;lia);rw[<-e]at C;exact z (c.inj _ _ _ y C)
 have r:((List.range (M+1)).map (λs=>(ow.getD s Y).getD 0)) ⊆ List.range k:=by
  intro x F;obtain⟨s,j,e⟩:=nw.mp F;have y:=f s (by simp at j;lia)
  have:=c.lt _ _ y
  rw[e]at this;simpa using this
 have:=List.Nodup.length_le_of_subset B r
 simp at this;lia
def Ev(M:Nat)(hf:fQ M)(ow:Array (UD))(k:Nat)(B:Array Int)(c:LC M ow k B)(O:k<=M)(h:Int)(S:B[k]?=J h):
  ∃j,layClean.free M ow (turns M) (bits h % (M+1)) (bits h)=J j/\LC M (ow.setIfInBounds j (J k)) (k+1) B:=by
 obtain⟨s,F,H⟩:=Eu M ow k B c O;obtain⟨n,e,C,z⟩:=yE M hf ow c.size h s F H (turns M) 0 (by unfold turns;lia) (by intro m y;exact absurd y (Qb m));refine⟨sl M h n,e,?_⟩;have E:=Gj M h n;have G:sl M h n<ow.size:=by have:=c.size;lia
 have a:∀s:Nat,(ow.setIfInBounds (sl M h n) (J k))[s]?=if s=sl M h n then J (J k)else ow[s]?:=by
  intro s;by_cases e:sl M h n=s
  .subst e;simp[G]
  .have e2:¬s=sl M h n:=λx=>e x.symm;simp[e,e2]
 have l:∀s,iG ow s->iG (ow.setIfInBounds (sl M h n) (J k)) s:=by
  intro s ⟨i,L⟩;by_cases e:s=sl M h n
  .exact⟨k,by rw[a];simp[e]⟩
  .exact⟨i,by rw[a];simp[e,L]⟩
 refine⟨by simp[c.size],?_,?_,?_,?_⟩
 .intro i L;by_cases e:i=k
  .subst e;exact⟨sl M h n,by rw[a];simp⟩
  .obtain⟨j,E⟩:=c.own i ⋯;refine⟨j,?_⟩;rw[a]
   have:¬j=sl M h n:=λe=>C ⟨i,by rw[<-e];exact E⟩
   simp[this,E]
 .intro i j P f u;rw[a]at f u;by_cases e1:j=sl M h n<;>by_cases e2:P=sl M h n
  .rw[e1,e2]
  .simp[e1]at f;simp[e2]at u
   have:=c.lt _ _ u;lia
  .simp[e1]at f;simp[e2]at u
   have:=c.lt _ _ f;lia
  .simp[e1]at f;simp[e2]at u;exact c.inj _ _ _ f u
 .intro j i f;rw[a]at f;by_cases e1:j=sl M h n
  .simp[e1]at f;lia
  .simp[e1]at f;have:=c.lt _ _ f;lia
 .intro j i U f u;rw[a]at f;by_cases e1:j=sl M h n
  .simp[e1]at f;subst f;rw[S]at u;cases u;exact⟨n,e1.symm,λm y=>l _ (z m y)⟩
  .simp[e1]at f;obtain⟨R,Q,r⟩:=c.reach _ _ _ f u;exact⟨R,Q,λm y=>l _ (r m y)⟩
def Iy(M:Nat)(f:Array Int):LC M (Array.replicate (M+1) Y) 0 f:=by
 have a:∀(s i:Nat),(Array.replicate (M+1) (Y:UD))[s]?≠J (J i):=by
  intro s i h;rw[Array.getElem?_replicate]at h
  split at h<;>cases h
 exact⟨by simp,λi r=>by lia,λi j u h=>absurd h (a _ _),λj i h=>absurd h (a _ _),λj i h l=>absurd l (a _ _)⟩
def rH(M:Nat)(hf:fQ M)(a:Array Int)(G:a.size<=M):∀(l:UN)(ow:Array (UD))(k:Nat),
  LC M ow k a->(∀q:Nat,l[q]?=a[k+q]?)->k<=a.size ->
  ∃f,(l.foldl (init:=J (ow,k)) λu h=>do
   let(owner,k) <-u
   let j <-layClean.free M owner (turns M) (bits h % (M+1)) (bits h)
   pure (owner.setIfInBounds j (J k),k+1))=J (f,a.size)/\LC M f a.size a:=by
 intro l
 induction l with
 |nil =>
  intro ow k c i z
  have:=i 0
  simp at this;have r:k=a.size:=by lia
  subst r;exact⟨ow,rfl,c⟩
 |cons h l E =>
  intro ow k c i z;have y:=i 0;have F:=eA y.symm;obtain⟨j,e,B⟩:=Ev M hf ow k a c ⋯ h y.symm
  obtain⟨f,e2,C⟩:=E (ow.setIfInBounds j (J k)) (k+1) B (by
   intro q
   have:=i (q+1)
   simp at this
   lia) ⋯
  refine⟨f,?_,C⟩;rw[<-e2];simp[e]
def uN(M:Nat)(hf:fQ M)(a:Array Int)(f:a.size<=M):∃ow,layClean M a=J ow/\LC M ow a.size a:=by
 obtain⟨ow,e,c⟩:=rH M hf a f a.toList _ 0 (Iy M a) (by simp) ⋯;refine⟨ow,?_,c⟩;unfold layClean
 simp_all
def Ew{L:UQ}(h:L.Pairwise (·<·)):eR L.toArray:=by intro a b u v i z y;simp at z y;obtain⟨j,r⟩:=oI.mp z;obtain⟨f,l⟩:=oI.mp y;rw[<-r,<-l];exact FP.mp h a b j f i
def eP{α β:Type}(f:α->Option β):∀(l:List α),(∀x,x∈l->∃v,f x=J v)->∀q:Nat,(l.filterMap f)[q]?=l[q]?.bind f:=by
 intro l
 induction l with
 |nil=>intro _ q;simp
 |cons x l a =>
  intro h q;obtain⟨v,hv⟩:=h x (by simp);rw[Ow,hv]
  cases q with
  |zero=>simp[hv]
  |succ q=>exact a (λy i=>h y (by simp[i])) q
def jY{α:Type}(a:Array α):(List.range a.size).filterMap (a[·]?)=a.toList:=by
 apply Ky;intro q;rw[eP _ _ (by intro x f;exact dP a x (by simpa using f))];by_cases h:q<a.size
 .rw[List.getElem?_range h];simp
 .rw[Dg (by simp;lia)];simp;lia
def Ex{α:Type}(M:Nat)(hf:fQ M)(E:α->Int)(u:Array α)(an:u.size<=M)(fin mv:Nat)(led U:Bool):
  ∃pl z,laid M fin mv led U (u.map E)=J ({ mask:=M,place:=pl,dummies:=#[],finger:=fin,led:=led,moves:=mv,plain:=U},z) /\
   WF M pl ((z.filterMap (u[·]?)).map E)/\(z.filterMap (u[·]?)).size=u.size/\(z.filterMap (u[·]?)).toList.Perm u.toList /\
   z.toList.Perm (List.range u.size):=by
 obtain⟨ow,e,c⟩:=uN M hf (u.map E) (by simpa using an);have hn:(u.map E).size=u.size:=by simp
 let f:Nat->Option (Nat×Nat):=λj=>(ow.getD j Y).map (j,·)
 let l:=(List.range (M+1)).filterMap f
 have G:∀j b,f j=J b↔(b.1=j/\ow[j]?=J (J b.2)):=by
  intro j b;show(ow.getD j Y).map (j,·)=J b↔_;by_cases F:j<ow.size
  .have:ow[j]?=J (ow[j]'F):=Lb F
   simp only[Array.getD,F,dite_true,this]
   cases h:ow[j]'F with
   |none=>simp[h]
   |some v =>
    simp[h];constructor
    .intro e;subst e;simp
    .rintro⟨e1,e2⟩;cases b;simp_all
  .simp[Array.getD,F]
 have B:∀b:Nat×Nat,b∈l↔ow[b.1]?=J (J b.2):=by
  intro b;rw[C6];constructor
  .rintro⟨j,_,F⟩;obtain⟨e1,e2⟩:=(G j b).mp F;rw[e1];exact e2
  .intro h;refine⟨b.1,?_,(G b.1 b).mpr ⟨rfl,h⟩⟩
   have:=eA h
   have:=c.size
   simp;lia
 have W:l.Pairwise (λa b=>a.1<b.1):=by show((List.range (M+1)).filterMap f).Pairwise _;rw[PM];apply List.Pairwise.imp _ (PN (n:=M+1));intro a b S x hx y hy;rw[((G _ _).mp hx).1,((G _ _).mp hy).1];exact S
 have al:(l.map (·.2)).Nodup:=by
  unfold List.Nodup;rw[Kx];apply List.Pairwise.imp_of_mem _ W;intro a b ha L S e;have O:=(B a).mp ha;have R:=(B b).mp L;have e':a.2=b.2:=e;rw[<-e']at R
  have:=c.inj _ _ _ O R
  lia
 have C:(l.map (·.2)).Perm (List.range u.size):=by
  rw[K_ al OB];intro i;rw[nw];constructor
  .rintro⟨b,L,e⟩
   have:=c.lt _ _ ((B b).mp L)
   rw[e]at this;simpa using this
  .intro X;obtain⟨j,F⟩:=c.own i (by simpa using X);exact⟨(j,i),(B (j,i)).mpr F,rfl⟩
 have Q:((l.map (·.2)).filterMap (u[·]?)).Perm u.toList:=by
  have:=C.filterMap (u[·]?)
  rw[jY]at this;exact this
 have H:((l.map (·.2)).toArray.filterMap (u[·]?)).toList=(l.map (·.2)).filterMap (u[·]?):=by simp
 have P:∀x,x∈l.map (·.2)->∃v,u[x]?=J v:=by
  intro x hx
  have:=C.mem_iff.mp hx
  exact dP u x (by simpa using this)
 refine⟨(l.map (·.1)).toArray,(l.map (·.2)).toArray,?_,?_,?_,?_,?_⟩
 .unfold laid;rw[e];rfl
 .refine⟨Ew (by rw[Kx];exact W),?_,?_,?_⟩
  .intro i v X;simp at X;obtain⟨b,L⟩:=X;have O:=(B _).mp (Ci L);have R:=eA O
   have:=c.size
   have h3:v<ow.size:=R;lia
  .have O:=Q.length_eq;have R:(((l.map (·.2)).toArray.filterMap (u[·]?)).map E).size=((l.map (·.2)).filterMap (u[·]?)).length:=by
    rw[Array.size_map,<-BI,H]
   rw[R,O]
   have:=C.length_eq
   simp at this ⊢;exact this
  .intro i h v hh hv;simp at hv;obtain⟨b,L⟩:=hv;have O:=(B _).mp (Ci L);have h3:((l.map (·.2)).toArray.filterMap (u[·]?))[i]?=u[b]?:=by
    rw[<-w_,H,eP _ _ P];simp[L]
   rw[Array.getElem?_map,h3]at hh;obtain⟨n,en,r⟩:=c.reach v b h O (by rw[Array.getElem?_map];exact hh);refine⟨n,en,?_⟩;intro m hm;obtain⟨i',Z⟩:=r m hm;have h5:=(B (sl M h m,i')).mpr Z;have h6:sl M h m∈l.map (·.1):=nw.mpr ⟨_,h5,rfl⟩;obtain⟨q,hq⟩:=Bo.mp h6;exact⟨q,by simpa using hq⟩
 .rw[<-BI,H,Q.length_eq];simp
 .rw[H];exact Q
 .exact C
section
variable{prog:Program}{w:World}{A:Around}{E:UA}{s:Shared}
abbrev TK(prog:Program)(w:World)(h:Heap)(k:UN)(a:Addr):Prop:=IsTupleKey (intKind prog w) h k a
abbrev TH(prog:Program)(w:World)(k:UN):Int:=tupleKeyHash (intKind prog w) k
def ItemsAre.ints(h:ItemsAre (intKind prog w) j f):∀v∈f,∃i t,v=.int i t:=by
 induction h with
 |nil=>intro v hv;cases hv
 |@cons k v j f r _ l =>
  intro u a
  cases a with
  |head =>
   cases v with
   |int i t=>exact⟨i,t,rfl⟩
   |_=>simp[intKind,Value.isInt]at r
  |tail _ a=>exact l u a
def jk(z:TK prog w s.heap ks a)(h:Q I s):wpAny (model prog w) A (hashByValue 8 (.ref a)) Q E s:=by
 have H:=z.typeIs;obtain⟨o,items,n,C,_,hd,G⟩:=z;refine d_ (wpAny_specialOf H F.slot_tuple_hash.lookup ?_);refine d_ (wpAny_seqItems C hd ?_);refine d_ ?_;rw[<-Array.forIn_toList];refine wpAny_forIn_list _ (λf r y=>r.1=Y/\y=s/\∀v∈f,∃i t,v=Value.int i t) _ ?_ ?_ _ _ ⟨rfl,rfl,ItemsAre.ints G⟩
 .rintro v f r y ⟨B,rfl,j⟩;obtain⟨i,t,rfl⟩:=j v wj;exact ii ⟨rfl,rfl,λu l=>j u (lb _ l)⟩
 .rintro⟨L,M⟩ y ⟨B,rfl,_⟩;subst B;exact ii h
def gq(z:TK prog w s.heap ks a)(h:Q T s):wpAny (model prog w) A (ofAClassStatement 8 (.ref a)) Q E s:=by
 have G:=z.typeIs;obtain⟨o,items,n,C,_,hd,F⟩:=z;unfold ofAClassStatement;refine d_ (wpAny_typeOf G ?_);refine d_ ?_;refine ii ?_;refine d_ (wpAny_seqItems C hd ?_);refine d_ ?_;rw[<-Array.forIn_toList];refine wpAny_forIn_list _ (λf r y=>r.1=Y/\y=s/\∀v∈f,∃i t,v=Value.int i t) _ ?_ ?_ _ _ ⟨rfl,rfl,ItemsAre.ints F⟩
 .rintro v f r y ⟨B,rfl,j⟩;obtain⟨i,t,rfl⟩:=j v wj;exact ii ⟨rfl,rfl,λu l=>j u (lb _ l)⟩
 .rintro⟨H,L⟩ y ⟨B,rfl,_⟩;subst B;exact ii h
def pD{k:UN}{a:Addr}{stored:UT}{Q:Bool->Shared->Prop}(C:TK prog w s.heap k a)(f:∀v∈stored,∃b y,v=.ref b/\TK prog w s.heap y b)(h:Q T s):wpAny (model prog w) A (searchCouldBeSeen (.ref a) stored) Q E s:=by
 refine d_ ?_;refine wpAny_forIn_list _ (λj r B=>r.1=Y/\B=s/\∀v∈j,∃b y,v=Value.ref b/\TK prog w s.heap y b) _ ?_ ?_ _ _ ⟨rfl,rfl,f⟩
 .rintro v j r B ⟨F,rfl,f⟩;obtain⟨b,y,rfl,G⟩:=f v wj;have i:=λu z=>f u (lb _ z);by_cases l:(a==b||(carriedByValue (.ref a)&&carriedByValue (.ref b)))=I
  .rw[b_ l];exact ii ⟨rfl,rfl,i⟩
  .rw[f_ l];refine d_ (wpAny_eqIsQuiet_tuple C ?_);refine d_ (wpAny_eqIsQuiet_tuple G ?_);refine d_ (gq C ?_);refine d_ (gq G ?_);exact ii ⟨rfl,rfl,i⟩
 .rintro⟨H,L⟩ B ⟨F,rfl,_⟩;subst F;exact ii h
def gM(prog:Program)(w:World)(P:Addr->Prop)(h:Heap)(j:Array (Int×Value))(f:UP):Prop :=
 j.size=f.length/\∀(i:Nat)(e:Int×Value)(k:UN),j[i]?=J e->f[i]?=J k->∃a,e.2=.ref a/\TK prog w h k a/\e.1=TH prog w k/\P a
def gM.at'{P:Addr->Prop}{h:Heap}{l:Array (Int×Value)}{f:UP}(x:gM prog w P h l f){i:Nat}{e:Int×Value}(j:l[i]?=J e):
  ∃k a,f[i]?=J k/\e.2=.ref a/\TK prog w h k a/\e.1=TH prog w k:=by
 have z:=eA j
 have:i<f.length:=by rw[<-x.1];exact z
 obtain⟨a,r,u,y,_⟩:=x.2 i e f[i] j (by simp);exact⟨f[i],a,by simp,r,u,y⟩
def gM.key{P:Addr->Prop}{h:Heap}{f:Array (Int×Value)}{j:UP}(x:gM prog w P h f j){i:Nat}{k:UN}(r:j[i]?=J k):
  ∃e a,f[i]?=J e/\e.2=.ref a/\TK prog w h k a/\e.1=TH prog w k:=by
 have B:i<f.size:=by rw[x.1];exact(oI.mp r).1
 obtain⟨e,l⟩:=dP f i B;obtain⟨a,u,y,z,_⟩:=x.2 i e k l r;exact⟨e,a,l,u,y,z⟩
def yv{P:Addr->Prop}{S:Addr}{o:Obj}{r:Array (Int×Value)}{ep:Nat}{t:SetTable}{ks:UP}{k:UN}{a:Addr}{n1:Nat}{Q:SetFound->Shared->Prop}(hu:A.units<cLine)(ho:s.heap.get? S=J o)(hd:o.data=.set r ep t)(hf:t.fits r.size=I)(a6:t.dummies=#[])(an:t.gaveWay=T)(W:WF t.mask t.place (r.map (·.1)))(B:gM prog w P s.heap r ks)(hk:TK prog w s.heap k a)(Z:¬BY t.place (sl t.mask (TH prog w k) n1))(al:∀m,m<n1->BY t.place (sl t.mask (TH prog w k) m))(bj:n1<10*turns t.mask)(h1:k∈ks->Q (.there Y) s)(h2:k∉ks->Q (.free (sl t.mask (TH prog w k) n1) T) s):
  ∀(l n:Nat)(j:Option Probe),j.getD (t.probeStart (TH prog w k))=st t.mask (TH prog w k) n->n<=n1->n1-n<l ->
   (∀(m i:Nat),m<n->t.place[i]?=J (sl t.mask (TH prog w k) m)->ks[i]?≠J k) ->
   wpAny (model prog w) A (setSearchFrom S (.ref a) (TH prog w k) I l j) Q E s:=by
 intro l
 induction l with
 |zero=>intro n j _ _ h;lia
 |succ f ih =>
  intro n j a9 hn bi u;unfold setSearchFrom;refine d_ (wpAny_setState_of ho hd hf ?_);dsimp only;rw[an];simp only[o0,if_false];rw[a9];have a4:=An t a6 W.rise (λi=>(r[i]?.map (·.1)).getD 0) (TH prog w k) n1 Z al (10*turns t.mask) n hn ⋯;have G:∀i:Nat,ks[i]?=J k->∃m,m<n1/\t.place[i]?=J (sl t.mask (TH prog w k) m):=by
   intro i hi;obtain⟨e,b,C,_,_,O⟩:=B.key hi;have hl:i<t.place.size:=by have:=W.size;simp at this;rw[this];exact eA C
   obtain⟨v,hv⟩:=dP t.place i hl;obtain⟨m,em,hm⟩:=W.reach i (TH prog w k) v (by simp[C,O]) hv;refine⟨m,?_,by rw[em];exact hv⟩;by_cases ba:m<n1
   .exact ba
   .exfalso;by_cases X:m=n1
    .subst X;exact Z ⟨i,by rw[em];exact hv⟩
    .exact Z (hm n1 ⋯)
  rcases a4 with⟨e1,e2⟩|⟨m,i,q1,q2,q3,q4,q5,q6⟩
  .have L:t.probe (λi=>(r[i]?.map (·.1)).getD 0) (TH prog w k) (st t.mask (TH prog w k) n)=J (.empty (sl t.mask (TH prog w k) n1) Y):=e1;erw [L];dsimp only;refine ii (h2 λax=>?_);obtain⟨i,hi⟩:=Bo.mp ax;obtain⟨m,hm,hp⟩:=G i hi;by_cases a8:m<n
   .exact u m i a8 hp hi
   .obtain⟨e,b,C,_,_,O⟩:=B.key hi;exact e2 m i ⋯ hm hp (by simp[C,O])
  .have L:t.probe (λi=>(r[i]?.map (·.1)).getD 0) (TH prog w k) (st t.mask (TH prog w k) n)=J (.candidate (sl t.mask (TH prog w k) m) i (st t.mask (TH prog w k) (m+1))):=q5;erw [L];dsimp only;have a5:i<r.size:=by
    have:=W.size;simp at this;rw[<-this];exact eA q3
   obtain⟨e,C⟩:=dP r i a5;obtain⟨k',b,as,eb,hb,O⟩:=B.at' C;obtain⟨eh,ev⟩:=e;simp only at eb O;subst eb
   have ap:wpAny (model prog w) A (do
     let J (_,y):=r[i]? | unsupported "internal:set-entry"
     let z <-holding [y] (eqBool y (.ref a))
     let(es',_,t') <-setState S
     if I&&z then return .there Y
     let J same:=t'.sameMemory t.moves t.mask|unsupported "set.changed-during-lookup:is-the-new-block-at-the-old-address"
     let U <-match(if same then t'.slot (sl t.mask (TH prog w k) m)else .empty) with
      |.live H=>match es'[H]? with
       |some (_,y')=>do pure (if <-isSame y' y then J H else Y)
       |none=>pure Y
      |_=>pure Y
     match U with
     |none=>rule "set.search.anew";setSearchFrom S (.ref a) (TH prog w k) I f Y
     |some H=>if z then return .there (J H)else setSearchFrom S (.ref a) (TH prog w k) I f (J (st t.mask (TH prog w k) (m+1)))) Q E s:=by
    rw[C];dsimp only;refine d_ (wpAny_holding (wpAny_eqBool_tuple hu hb hk ?_));refine d_ (wpAny_setState_of ho hd hf ?_);dsimp only;by_cases R:k'=k
    .subst R;simp only[decide_true,Bool.and_self,if_true];exact ii (h1 (Bo.mpr ⟨i,as⟩))
    .simp only[R,decide_false,Qd,o0,if_false];have ay:t.sameMemory t.moves t.mask=J I:=by unfold SetTable.sameMemory;simp
     rw[ay];simp only[if_true];rw[qM t W.rise i _ q3];dsimp only;rw[C];dsimp only;refine d_ (wpAny_isSame_ref_self ?_);simp only[if_true];refine d_ (ii ?_);dsimp only;refine ih (m+1) _ rfl ⋯ ⋯ ?_;intro m' H bm M F;by_cases a3:m'<n
     .exact u m' H a3 M F
     .by_cases a7:m'<m
      .obtain⟨e,b,C,_,_,O⟩:=B.key F;exact q6 m' H ⋯ a7 M (by simp[C,O])
      .have:m'=m:=by lia
       subst this;have a1:=iP _ _ _ W.rise q3;have a2:=iP _ _ _ W.rise M
       have:H=i:=by lia
       subst this;rw[as]at F;exact R (Option.some.inj F)
   cases be:t.led with
   |true =>
    simp only[Dm,o0,if_false];exact ap
   |false =>
    simp only[KG,if_true];refine d_ (pD hk ?_ ?_)
    .intro v hv;obtain⟨e,a0,rfl⟩:=nw.mp hv;have X:e∈r.toList:=by
      have:e∈r.filter (λx=>x.1==TH prog w k):=Array.mem_toList_iff.mp a0
      exact Array.mem_toList_iff.mpr (Array.mem_filter.mp this).1
     obtain⟨q,hq⟩:=Bo.mp X;obtain⟨k2,b2,_,e2,h2,_⟩:=B.at' (i:=q) (e:=e) (by simpa using hq);exact⟨b2,k2,e2,h2⟩
    .simp only[o0,if_false];exact ap
structure TTab(prog:Program)(w:World)(P:Addr->Prop)(h:Heap)(S:Addr)(led:Bool)(o:Obj)(es:Array (Int×Value))(ep:Nat)(t:SetTable)(ks:UP):Prop where
 get:h.get? S=J o
 ex:o.ExactSet
 data:o.data=.set es ep t
 dm:t.dummies=#[]
 mask:t.mask=7\/t.mask=31\/t.mask=127
 plain:t.plain=I
 led':t.led=led
 wf:WF t.mask t.place (es.map (·.1))
 ents:gM prog w P h es ks
def lu(t:SetTable)(n:Nat):Prop:=n*5<t.mask*3
def dk(prog:Program)(w:World)(P:Addr->Prop)(h:Heap)(S:Addr)(led:Bool)(f:UP):Prop :=
 ∃o i j t a,TTab prog w P h S led o i j t a/\lu t i.size/\a.Perm f/\f.Nodup
def vt(h:M=7\/M=31\/M=127):fQ M:=by
 rcases h with h|h | h<;>subst h
 .exact MP
 .exact Iv
 .exact Et
def TTab.size{P:Addr->Prop}{h:Heap}{S:Addr}{led:Bool}{o:Obj}{a:Array (Int×Value)}{i:Nat}{t:SetTable}{f:UP}(x:TTab prog w P h S led o a i t f):t.place.size=a.size:=by have:=x.wf.size;simpa using this
def TTab.fits{P:Addr->Prop}{h:Heap}{S:Addr}{led:Bool}{o:Obj}{a:Array (Int×Value)}{i:Nat}{t:SetTable}{f:UP}(x:TTab prog w P h S led o a i t f)(j:a.size<=t.mask):t.fits a.size=I:=by
 unfold SetTable.fits SetTable.fill
 have:=x.size
 simp[this,x.dm];exact j
def TTab.odd{P:Addr->Prop}{h:Heap}{S:Addr}{led:Bool}{o:Obj}{f:Array (Int×Value)}{i:Nat}{t:SetTable}{a:UP}(x:TTab prog w P h S led o f i t a):t.gaveWay=T:=by unfold SetTable.gaveWay;rcases x.mask with h|h | h<;>rw[h]<;>rfl
def Ey(u:Heap.SameBut S h h')(r:h.get? S=J o)(j:o.ExactSet)(x:TK prog w h k a):TK prog w h' k a:=by
 obtain⟨z,items,n,f,l,hd,y⟩:=x;have i:a≠S:=by rintro rfl;obtain rfl:=Option.some.inj (f.symm.trans r);rw[j.1]at l;exact absurd l (by simp)
 exact⟨z,items,n,(u.2 a i).trans f,l,hd,y⟩
def qN(r:Heap.SameBut S h h')(l:h.get? S=J o)(j:o.ExactSet)(x:gM prog w P h es ks):gM prog w P h' es ks :=
 ⟨x.1,λi e k a b=>let⟨c,d,f,g⟩:=x.2 i e k a b;⟨c,d,Ey r l j f,g⟩⟩
def qg{h:Heap}{S:Addr}{o:Obj}{l a:Array (Int×Value)}{i:Nat}{t f:SetTable}(j:h.get? S=J o)(hd:o.data=.set l i t):
  (h.update S (Obj.putSet a f)).get? S=J { o with data:=.set a (i+1) f}:=by
 have:=GO (Obj.putSet a f) j (by rw[putSet_of a f hd];rfl)
 rw[putSet_of a f hd]at this;exact this
def yr(x:gM prog w P h es ks)(f:Array Nat)(y:f.toList.Perm (List.range es.size)):
  gM prog w P h (f.filterMap (es[·]?)) (f.toList.filterMap (ks[·]?))/\(f.toList.filterMap (ks[·]?)).Perm ks:=by
 have r:∀i,i∈f.toList->i<es.size:=λi l=>by simpa using y.mem_iff.mp l
 have C:=λi l=>dP es i (r i l);have F:∀i,i∈f.toList->∃v,ks[i]?=J v:=λi l=>⟨_,zb (by rw[<-x.1];exact r i l)⟩;have e1:(f.filterMap (es[·]?)).toList=f.toList.filterMap (es[·]?):=by simp
 have z:(f.toList.filterMap (ks[·]?)).Perm ks:=by
  have a:=y.filterMap (ks[·]?);have b:(List.range es.size).filterMap (ks[·]?)=ks:=by
   have:=jY ks.toArray
   simp only[Lh]at this;rw[x.1];exact this
  rw[b]at a;exact a
 have G:(f.toList.filterMap (es[·]?)).Perm es.toList:=by have a:=y.filterMap (es[·]?);rw[jY]at a;exact a
 refine⟨⟨?_,?_⟩,z⟩
 .rw[<-BI,e1,G.length_eq,z.length_eq,BI,x.1]
 .intro i e k j u;rw[<-w_,e1,eP _ _ C]at j;rw[eP _ _ F]at u
  cases B:f.toList[i]? with
  |none=>rw[B]at j;cases j
  |some q =>
   rw[B]at j u;exact x.2 q e k j u
def MU:SetTable.sizeAbove (SetTable.grown 5)=32:=by decide
def MV:SetTable.sizeAbove (SetTable.grown 19)=128:=by decide
def t5{P:Addr->Prop}{S:Addr}{led:Bool}{o:Obj}{l:Array (Int×Value)}{W:Nat}{t:SetTable}{O:UP}{f M:Nat}{Q:Unit->Shared->Prop}(a:TTab prog w P s.heap S led o l W t O)(y:l.size<=t.mask)(U:SetTable.sizeAbove f=M+1)(j:M=7\/M=31\/M=127)(r:l.size*5<M*3)(h:∀G o' u B L z,Heap.SameBut S s.heap G->TTab prog w P G S led o' u B L z->lu L u.size->z.Perm O->Q () { s with heap:=G}):
  wpAny (model prog w) A (setRelay S f) Q E s:=by
 obtain⟨R,i,e1,w1,F,p1,X⟩:=Ex M (vt j) (λe:Int×Value=>e.1) l ⋯ t.finger (t.movedTo M) t.led t.plain;have C:t.relaid (l.map (·.1)) f=J ({ mask:=M,place:=R,dummies:=#[],finger:=t.finger,led:=t.led,moves:=t.movedTo M,plain:=t.plain},i):=by unfold SetTable.relaid;rw[U];exact e1
 refine d_ (wpAny_setState_of a.get a.data (a.fits y) ?_);dsimp only;have H:¬SetTable.sizeAbove f>sizeLine:=by rw[U];rcases j with h|h | h<;>rw[h]<;>decide
 rw[f_ H,C];have Z:l.size<=sizeLine:=by rw[sizeLine_eq];rcases j with h|h | h<;>lia
 refine d_ (?_:wpAny _ _ (if((i.filterMap (l[·]?)).size != l.size)=I then _ else _) _ _ _);rw[f_ (by simp[F])];refine ii ?_;refine wpAny_storeSet_of a.get a.data ?_ (by rw[F];exact Z);have sb:=Heap.SameBut.update s.heap S (Obj.putSet (i.filterMap (l[·]?)) { mask:=M,place:=R,dummies:=#[],finger:=t.finger,led:=t.led,moves:=t.movedTo M,plain:=t.plain});obtain⟨n1,n2⟩:=yr a.ents i X;refine h _ _ _ _ _ _ sb ⟨qg a.get a.data,a.ex,rfl,rfl,j,a.plain,a.led',w1,qN sb a.get a.ex n1⟩ ?_ n2;rw[F];exact r
def Bj(x:gM prog w P h es ks)(z:p<=es.size)(C:TK prog w h k a)(F:P a):
  gM prog w P h (insertAt es p (TH prog w k,.ref a)) (ks.take p++k::ks.drop p):=by
 have G:=x.1;refine⟨?_,?_⟩
 .rw[dE _ _ _ z];simp;lia
 .intro i e u j f;rw[cA _ _ _ z]at j;by_cases r:i<p
  .rw[b_ r]at j;rw[qr (by simp;lia),Oq r]at f;exact x.2 i e u j f
  .rw[f_ r]at j;rw[Ch (by simp;lia)]at f;have l:(ks.take p).length=p:=by simp;lia
   rw[l]at f;by_cases y:i=p
   .rw[b_ y]at j
    have:i-p=0:=by lia
    rw[this]at f;simp at f;cases j;subst f;exact⟨a,rfl,C,rfl,F⟩
   .rw[f_ y]at j;obtain⟨q,B⟩:∃q,i-p=q+1:=⟨i-p-1,⋯⟩;rw[B,FQ,Oz]at f
    have:p+q=i-1:=by lia
    rw[this]at f;exact x.2 (i-1) e u j f
def AL(p:Nat)(k:UN):(ks.take p++k::ks.drop p).Perm (ks++[k]):=by have a:(ks.take p++k::ks.drop p).Perm (k::(ks.take p++ks.drop p)):=Lq;rw[FS]at a;exact a.trans (Sn k ks).symm
def Iz{P:Addr->Prop}{S a:Addr}{led:Bool}{C:UP}{k:UN}{Q:Bool->Shared->Prop}(hu:A.units<cLine)(f:dk prog w P s.heap S led C)(hk:TK prog w s.heap k a)(hP:P a)(a6:k∈C\/C.length<66)(h:∀b H,Heap.SameBut S s.heap H->dk prog w P H S led (if k∈C then C else C++[k])->Q b { s with heap:=H}):
  wpAny (model prog w) A (setAddHashed S (.ref a) (TH prog w k)) Q E s:=by
 obtain⟨o,z,ep,t,G,f,hr,U,a2⟩:=f;unfold lu at hr;have X:z.size<=t.mask:=by rcases f.mask with e|e | e<;>rw[e]at hr ⊢<;>lia
 have hf:=f.fits X;have a5:t.place.size<=t.mask:=by rw[f.size];exact X
 obtain⟨l,a8,ay,Z⟩:=x9 t.place f.wf.rise t.mask (vt f.mask) a5 (TH prog w k);have a3:t.mask<=127:=by rcases f.mask with e|e | e<;>lia
 have a7:z.size=C.length:=by rw[f.ents.1,U.length_eq]
 refine wpAny_holding ?_;refine d_ (wpAny_setState_of f.get f.data hf ?_);dsimp only;have a4:byScan (.ref a) z=T:=rfl;rw[a4];unfold setSearch;refine d_ (yv (n1:=l) (ks:=G) hu f.get f.data hf f.dm f.odd f.wf f.ents hk ay Z (by unfold turns;lia) ?_ ?_ 100000 0 Y rfl (wl _) ⋯ (λm i hm=>absurd hm (Qb m)))
 .intro R;have r:k∈C:=U.mem_iff.mp R;dsimp only;refine ii ?_
  have:=h T s.heap (Heap.SameBut.refl _ _)
  rw[b_ r]at this;exact this ⟨o,z,ep,t,G,f,hr,U,a2⟩
 .intro R;have r:k∉C:=λx=>R (U.mem_iff.mpr x);have a9:C.length<66:=a6.resolve_left r;rw[f_ r]at h;dsimp only;refine d_ (wpAny_setState_of f.get f.data hf ?_);dsimp only;have a0:t.put (sl t.mask (TH prog w k) l)=({ t with place:=insertAt t.place (below t.place (sl t.mask (TH prog w k) l)) (sl t.mask (TH prog w k) l)},below t.place (sl t.mask (TH prog w k) l)):=by
   unfold SetTable.put;simp only[f.dm,wq,o0,if_false]
  rw[a0];dsimp only;rw[b_ f.plain];refine d_ (jk hk ?_);simp only[if_true];have hp:=(d5 t.place (sl t.mask (TH prog w k) l) f.wf.rise).1;have a1:below t.place (sl t.mask (TH prog w k) l)<=z.size:=by rw[<-f.size];exact hp
  have F:=dE z (below t.place (sl t.mask (TH prog w k) l)) (TH prog w k,.ref a) a1;refine d_ (wpAny_storeSet_of f.get f.data ?_ (by rw[F,sizeLine_eq];lia))
  have sb:=Heap.SameBut.update s.heap S (Obj.putSet (insertAt z (below t.place (sl t.mask (TH prog w k) l)) (TH prog w k,.ref a))
   { t with place:=insertAt t.place (below t.place (sl t.mask (TH prog w k) l)) (sl t.mask (TH prog w k) l)})
  have T2:TTab prog w P (s.heap.update S (Obj.putSet (insertAt z (below t.place (sl t.mask (TH prog w k) l)) (TH prog w k,.ref a))
    { t with place:=insertAt t.place (below t.place (sl t.mask (TH prog w k) l)) (sl t.mask (TH prog w k) l)})) S led
    { o with data:=.set (insertAt z (below t.place (sl t.mask (TH prog w k) l)) (TH prog w k,.ref a)) (ep+1) { t with place:=insertAt t.place (below t.place (sl t.mask (TH prog w k) l)) (sl t.mask (TH prog w k) l)}}
    (insertAt z (below t.place (sl t.mask (TH prog w k) l)) (TH prog w k,.ref a)) (ep+1)
    { t with place:=insertAt t.place (below t.place (sl t.mask (TH prog w k) l)) (sl t.mask (TH prog w k) l)}
    (G.take (below t.place (sl t.mask (TH prog w k) l))++k::G.drop (below t.place (sl t.mask (TH prog w k) l))):=by
   refine⟨qg f.get f.data,f.ex,rfl,f.dm,f.mask,f.plain,f.led',?_,qN sb f.get f.ex (Bj f.ents a1 hk hP)⟩;rw[sF];exact Ix t.mask t.place (z.map (·.1)) f.wf (TH prog w k) l ay Z
  have W:(G.take (below t.place (sl t.mask (TH prog w k) l))++k::G.drop (below t.place (sl t.mask (TH prog w k) l))).Perm (C++[k]):=(AL _ k).trans (U.append_right [k]);have O:(C++[k]).Nodup:=by
   rw[Cj];refine⟨a2,by simp,λx hx y hy=>?_⟩
   have:y=k:=by simpa using hy
   subst this;rintro rfl;exact r hx
  have L:({ t with place:=insertAt t.place (below t.place (sl t.mask (TH prog w k) l)) (sl t.mask (TH prog w k) l)}:SetTable).fill=z.size+1:=by unfold SetTable.fill;rw[dE _ _ _ hp,f.size];simp[f.dm]
  by_cases j:({ t with place:=insertAt t.place (below t.place (sl t.mask (TH prog w k) l)) (sl t.mask (TH prog w k) l)}:SetTable).tooFull=I
  .have B:(z.size+1)*5>=t.mask*3:=by
    unfold SetTable.tooFull at j;rw[L]at j;simpa using j
   rw[b_ (by rw[j];rfl)];have an:(t.mask=7/\z.size=4)\/(t.mask=31/\z.size=18):=by rcases f.mask with e|e | e<;>rw[e]at hr B<;>lia
   refine d_ (wpAny_mono (Q:=λ_ s'=>∃H,s'={ s with heap:=H}/\Heap.SameBut S s.heap H/\dk prog w P H S led (C++[k])) ?_ (λu s' hq=>?_) λ_ _ x=>x)
   .rcases an with⟨c1,c2⟩|⟨c1,c2⟩
    .have e5:z.size+1=5:=by lia
     rw[e5];refine t5 (M:=31) (s:={ s with heap:=_}) T2 (by rw[F];show z.size+1<=t.mask;lia) MU (.inr (.inl rfl)) (by rw[F];lia) λH o' ap al t' ax as T3 r3 p3=>?_;exact⟨H,rfl,sb.trans as,o',ap,al,t',ax,T3,r3,p3.trans W,O⟩
    .have e5:z.size+1=19:=by lia
     rw[e5];refine t5 (M:=127) (s:={ s with heap:=_}) T2 (by rw[F];show z.size+1<=t.mask;lia) MV (.inr (.inr rfl)) (by rw[F];lia) λH o' ap al t' ax as T3 r3 p3=>?_;exact⟨H,rfl,sb.trans as,o',ap,al,t',ax,T3,r3,p3.trans W,O⟩
   .obtain⟨H,rfl,q1,q2⟩:=hq;exact ii (h I H q1 q2)
  .have B:(z.size+1)*5<t.mask*3:=by
    unfold SetTable.tooFull at j;rw[L]at j;simpa using j
   rw[f_ (by simpa using j)];refine ii (h I _ sb ⟨_,_,_,_,_,T2,?_,W,O⟩);unfold lu;rw[F];exact B
end
end SetT
namespace SetT
open PySem.SetTable PyProof.Rows
def bq(a:UP)(k:UN):UP:=if k∈a then a else a++[k]
def l7(l:UP):UP:=l.foldl bq []
def Bb(l:UP)(k:UN):l7 (l++[k])=bq (l7 l) k:=by unfold l7;rw[P2];rfl
def yA(a:UP)(k:UN):a.length<=(bq a k).length:=by unfold bq;split<;>simp
def zT(l:UP):∀a:UP,a.length<=(l.foldl bq a).length:=by
 induction l with
 |nil=>intro a;exact il _
 |cons k l f=>intro a;exact mu (yA a k) (f _)
def tW(l:UP)(i:Nat):(l7 (l.take i)).length<=(l7 l).length:=by
 have h:l7 l=(l.drop i).foldl bq (l7 (l.take i)):=by unfold l7;rw[<-P2,FS]
 rw[h];exact zT _ _
def rD{l:UP}{i:Nat}{k:UN}(h:l[i]?=J k):l7 (l.take (i+1))=bq (l7 (l.take i)) k:=by rw[C9,h];exact Bb _ _
def kZ(x:UN)(l:UP):∀f:UP,x∈l.foldl bq f↔x∈f\/x∈l:=by
 induction l with
 |nil=>simp
 |cons k l j =>
  intro f;rw[P_,j];unfold bq;split
  .rename_i h
   constructor
   .rintro (a|a)
    .exact .inl a
    .exact .inr (lb _ a)
   .rintro (a|a)
    .exact .inl a
    .rcases k4.mp a with rfl|i
     .exact .inl h
     .exact .inr i
  .constructor
   .rintro (a|a)
    .rcases lT.mp a with i|i
     .exact .inl i
     .simp_all
    .exact .inr (lb _ a)
   .rintro (a|a)
    .exact .inl (xg _ a)
    .rcases k4.mp a with rfl|i
     .exact .inl (o_ _ (by simp))
     .exact .inr i
def fL(x:UN)(l:UP):x∈l7 l↔x∈l:=by unfold l7;rw[kZ];simp
section
variable{prog:Program}{w:World}{A:Around}{E:UA}{s:Shared}
abbrev PB(H0:Heap)(R:Addr->Prop):Addr->Prop:=λa=>(∃o,H0.get? a=J o)/\R a
def BZ(a h:Heap):Prop:=∀b o,a.get? b=J o->h.get? b=J o
def kz(x:BZ H0 h)(t:TK prog w H0 k a):TK prog w h k a:=by obtain⟨o,items,n,f,r⟩:=t;exact⟨o,items,n,x a o f,r⟩
def vy{j h B:Heap}{F:Addr->Prop}{S:Addr}{led:Bool}{C:UP}(f:dk prog w (PB j F) h S led C)(H:∀o,h.get? S=J o->B.get? S=J o)(x:BZ j h)(O:BZ j B):dk prog w (PB j F) B S led C:=by
 obtain⟨o,L,G,t,y,f,r,p,n⟩:=f;refine⟨o,L,G,t,y,⟨H o f.get,f.ex,f.data,f.dm,f.mask,f.plain,f.led',f.wf,f.ents.1,λi e k a b=>?_⟩,r,p,n⟩;obtain⟨c,d,⟨u,l,m,Q,q⟩,g,⟨P,z⟩,M⟩:=f.ents.2 i e k a b;have e1:=Option.some.inj (Q.symm.trans (x c P z));subst e1;exact⟨c,d,⟨u,l,m,O c u z,q⟩,g,⟨u,z⟩,M⟩
def Db(prog:Program)(w:World)(j:Heap)(items:Array Value)(f:UP):Prop :=
 items.size=f.length/\∀(i:Nat)(v:Value)(k:UN),items[i]?=J v->f[i]?=J k->∃a,v=.ref a/\TK prog w j k a
def wN{h:Heap}{S:Addr}{led:Bool}{P:Addr->Prop}{o:Obj}(l:h.get? S=J o)(j:o.ExactSet)(hd:o.data=.set #[] 0 (.fresh 0 0 led)):dk prog w P h S led []:=by
 refine⟨o,#[],0,.fresh 0 0 led,[],⟨l,j,hd,rfl,.inl rfl,rfl,rfl,⟨?_,?_,by simp[SetTable.fresh],?_⟩,rfl,?_⟩,?_,List.Perm.nil,OD⟩
 .intro a b u v _ f;simp[SetTable.fresh]at f
 .intro i v f;simp[SetTable.fresh]at f
 .intro i r v f;simp at f
 .intro i e k f;simp at f
 .show 0*5<7*3;decide
def uL{RR:Addr->Prop}{R:Result->Shared->Prop}{L:Addr}{fp z:US}{G:Array GenState->Array GenState->Prop}{n:Nat}{P:Nat->Value->Prop}{St:Nat->Shared->Prop}(hu:A.units+1<cLine)(W:WalksS prog w A.in1 L fp z G n P St)(S:Addr)(Q:S∉fp){H0:Heap}(a4:H0.get? S=Y)(ax:∀b∈z,H0.get? b=Y){led:Bool}(u:UP)(hn:u.length=n)(X:∀i v k,P i v->u[i]?=J k->∃a,v=.ref a/\TK prog w H0 k a/\RR a)(a7:(l7 u).length<=66):
  ∀(c i:Nat)(s:Shared),n-i=c->i<=n->St i s->BZ H0 s.heap->dk prog w (PB H0 RR) s.heap S led (l7 (u.take i)) ->
   (∀f,Moved (S::z) G s f->BZ H0 f.heap->dk prog w (PB H0 RR) f.heap S led (l7 u)->R (.ok (.ret .none)) f) ->
   codeAny (model prog w) A (.builtin "set.update.loop" ⟨[.ref S,.ref L],[]⟩) R s:=by
 have an:S∉z:=λh=>Q (W.sub _ h);have y:∀b∈z,b∈S::z:=λb M=>lb _ M;have l:∀{s f:Shared},Moved z G s f->BZ H0 s.heap->BZ H0 f.heap:=λ{s f} r x b o e =>
  r.heap b o (λM=>by rw[ax b M]at e;cases e) (x b o e)
 intro c
 induction c with
 |zero =>
  intro i s hc hi B O hT H;have e:i=n:=by lia
  subst e;refine codeAny_builtin F.entry_set_update_loop ?_;refine d_ (W.done s _ _ B λf r=>?_);rw[<-hn,FY]at hT;exact ii (H f (r.mono y) (l r O) (vy hT (λo e=>r.heap S o an e) O (l r O)))
 |succ c ih =>
  intro i s hc hi B O hT H;have as:i<n:=by lia
  refine codeAny_builtin F.entry_set_update_loop ?_;show wpAny _ A.in1 (pyNext (.ref L) >>= _) _ _ s;refine d_ (W.item i s _ _ as B λv f hP U r=>?_);obtain⟨k,hk⟩:∃k,u[i]?=J k:=⟨_,zb ⋯⟩;obtain⟨a,rfl,ha,hR⟩:=X i v k hP hk;have C:=l r O;have a1:=vy hT (λo e=>r.heap S o an e) O C;have al:=kz C ha;show wpAny _ A.in1 (holding [Value.ref a] (setAdd S (.ref a)) >>= _) _ _ f;refine d_ (wpAny_holding ?_);unfold setAdd;refine wpAny_holding ?_;refine d_ (wpAny_pyHash_tuple (by show A.units+1<cLine;exact hu) al ?_);have j:=rD hk;refine Iz (s:={ f with toks:=f.toks+(k.length+1)}) (by show A.units+1<cLine;exact hu) a1 al ⟨let⟨o,_,_,ho,_⟩:=ha;⟨o,ho⟩,hR⟩ ?_ λb h' sb a2=>?_
  .have h1:=tW u (i+1);rw[j]at h1;unfold bq at h1;by_cases Z:k∈l7 (u.take i)
   .exact .inl Z
   .rw[f_ Z]at h1;simp at h1;exact .inr ⋯
  .have a3:BZ H0 h':=λq o e=>by
    have hq:q≠S:=by rintro rfl;rw[a4]at e;cases e
    exact(sb.2 q hq).trans (C q o e)
   have ay:dk prog w (PB H0 RR) h' S led (l7 (u.take (i+1))):=by rw[j];exact a2
   refine ii ⟨plainId_quiet F.plain_set_update_loop _,ih (i+1) _ ⋯ as (W.frame _ f _ _ U (KA _ _) λb M o e=>?_) a3 ay λa0 ap a6 a5=>?_⟩
   .exact (sb.2 b (λq:b=S=>Q (by rw[<-q];exact M))).trans e
   .refine H a0 (Moved.trans W.gtrans ((r.mono y).then_heap (KA _ _) λb o M e=>?_) ap) a6 a5;exact(sb.2 b (λq:b=S=>M (by rw[q];exact wj))).trans e
abbrev gH(led:Bool):Obj:={ cls:=.type "set",dict:=Y,data:=.set #[] 0 (.fresh 0 0 led)}
abbrev bY(w:World):Bool:=!w.params.followText "set-order"
def Bw(a:Value)(h:Q₁ (.ref s.heap.objs.size) { s with heap:=s.heap.push (gH (bY w))}):
  codeAny (model prog w) A (.call (.builtin "set.__new__") ⟨[.type "set",a],[]⟩) (wants Q₁ E) s:=by
 refine codeAny_of_tree ?_;refine d_ (wpAny_of_eq (PySem.F.newCall_set_1 a) (ii ⟨plainId_quiet PySem.F.plain_set_new _,codeAny_builtin PySem.F.entry_set_new ?_⟩));unfold Builtin.«set.__new__» Builtin.Frozenset.newClass;have f:=sub_set_self
 wp_walk
 refine wpAny_askSetting (ii ?_);dsimp only;simp only[newObj];exact d_ (wpAny_alloc (ii (ii h)))
set_option maxHeartbeats 3200000 in
theorem rC(hh:A.handled=Y)(hu:A.units+16<cLine)(hl:s.heap.IsList l items)(hk:Db prog w s.heap items ks)(a2:(l7 ks).length<=66)(h:∀(u:Heap)(L:Nat),dk prog w (PB s.heap λa=>Value.ref a∈items.toList) u s.heap.objs.size (bY w) (l7 ks)->BZ s.heap u->s.toks<=L->Q (.ref s.heap.objs.size) { s with heap:=u,toks:=L}):
  wpAny (model prog w) A (call (.type "set") [.ref l]) Q E s:=by
 obtain⟨c,tl,a5⟩:=PySem.F.called_set.mro;have a0:=PySem.F.called_set.made;have a7:=PySem.F.called_set.sub;refine wpAny_call (codeAny_of_tree ?_);show wpAny _ _ (callAny (.type "set") _) _ _ _;refine ii ⟨Code.quiet_builtin _ (by decide +kernel),codeAny_builtin PySem.F.entry_type_call ?_⟩;rw[Around.under_plain (weight_type_call_type "set" [.ref l] []) rfl];have h1:=PySem.F.called_set.notType;have h2:=PySem.F.called_set.canCreate;have bi:=PySem.F.typeCall_set_1 (.ref l)
 repeat (any_goals (first | assumption | wp_step))
 refine codeAny_mono (Bw (.ref l) (E:=E) (Q₁:=λobj B=>obj=.ref s.heap.objs.size/\B={ s with heap:=s.heap.push (gH (bY w))}) ⟨rfl,rfl⟩) λr B hr=>?_
 cases r with
 |error e=>exact hr
 |ok fl =>
  cases fl with
  |ret obj =>
   obtain⟨rfl,rfl⟩:=hr;have hS:(s.heap.push (gH (bY w))).get? s.heap.objs.size=J (gH (bY w)):=rT _ rfl;have hT:Shared.TypeIs { s with heap:=s.heap.push (gH (bY w))} (.ref s.heap.objs.size) "set":=⟨_,hS,rfl⟩;have a8:=PySem.F.called_set.init.lookup;have ba:=PySem.F.called_set.init.bind (.ref s.heap.objs.size)
   repeat (any_goals (first | assumption | wp_step))
   refine codeAny_mono (codeAny_call_builtin (R:=wants (λr z=>r=.none/\∃u L,z={ s with heap:=u,toks:=L} /\
     dk prog w (PB s.heap λa=>Value.ref a∈items.toList) u s.heap.objs.size (bY w) (l7 ks)/\BZ s.heap u/\s.toks<=L) E) PySem.F.called_set.init.plain PySem.F.entry_set_init (check_set_init_1 hT ?_)) λZ z f=>?_
   .have be:=hl;obtain⟨ol,O,X,nl,P⟩:=hl;obtain⟨a6,G,ay,y⟩:=ol;simp only at X P;subst X;subst P;have W:(s.heap.push (gH (bY w))).get? l=J { cls:=.type "list",dict:=G,data:=.seq items nl,slots:=y}:=m_ _ O;have a3:=PySem.F.sub_list_set;have a4:=PySem.F.sub_list_frozenset;have a9:(Value.type "list" == Value.type "dict")=T:=by decide
    have M:(s.heap.push (gH (bY w))).IsList l items:=⟨_,W,rfl,nl,rfl⟩;unfold Builtin.«set.__init__» noKeywords Builtin.Frozenset.updateFrom;generalize ax:pyIter=PI
    wp_walk
    subst ax;refine wpAny_pyIter_list M ?_;refine d_ (wpAny_runValue ?_);have U:l<s.heap.objs.size:=l_ O;have a1:A.in1.in1.in1.handled=Y:=by simp[hh]
    have H:(s.heap.push (gH (bY w))).objs.size=s.heap.objs.size+1:=by rw[F1]
    have S:l≠(s.heap.push (gH (bY w))).objs.size:=by rw[H];exact u_ (Ln U)
    have j:∀b,s.heap.objs.size<=b->s.heap.get? b=Y:=λb hb=>by
     cases e:s.heap.get? b with
     |none=>rfl
     |some o=>exact absurd (l_ e) (Nat.not_lt.mpr hb)
    have an:s.heap.objs.size∉[(s.heap.push (gH (bY w))).objs.size,l]:=by rw[H];simp only[k4,GX,or_false,not_or];exact⟨u_ (Lp _),Dn U⟩
    refine uL (RR:=λa=>Value.ref a∈items.toList) (H0:=s.heap) (led:=bY w) (by show A.units+1+1+1<cLine;lia) ((Walks.list a1 _ l S items).toS) s.heap.objs.size an (j _ (il _)) ?_ ks hk.1.symm
     (λi v k hv as=>let⟨a,e,t⟩:=hk.2 i v k hv as;⟨a,e,t,by rw[<-e];exact Bo.mpr ⟨i,by rw[w_];exact hv⟩⟩) a2 (items.size-0) 0 _ ⋯ (wl _) ⟨⟨_,rT _ rfl,rfl,rfl⟩,(M.push _)⟩ ?_ ?_ ?_
    .intro b hb
     have:b=(s.heap.push (gH (bY w))).objs.size:=by simpa using hb
     rw[this,H];exact j _ (KH _)
    .intro b o e;exact m_ _ (m_ _ e)
    .exact wN (o:=gH (bY w)) (m_ _ hS) ⟨rfl,rfl,rfl⟩ rfl
    .intro s' hm hx F;obtain⟨u,g',d',al,ap⟩:=s';have eg:g'=s.gens:=hm.gens;have ed:d'=s.drawn:=hm.drawn;have eo:ap=s.os:=hm.os;have et:s.toks<=al:=hm.toks;subst eg;subst ed;subst eo;show wpAny _ _ _ _ _ _;refine ii ?_;show wpAny _ _ (ret Value.none) _ _ _;exact ii ⟨rfl,u,al,rfl,F,hx,et⟩
   .cases Z with
    |error e=>exact f
    |ok C =>
     cases C with
     |ret r =>
      obtain⟨rfl,u,L,rfl,F,hx,et⟩:=f
      repeat (any_goals (first | assumption | wp_step))
      exact h _ _ F hx et
     |_=>exact f.elim
  |_=>exact hr.elim
end
def cW:Slot "set_iterator" "__next__" "set_iterator.__next__" :=
 .of (owner:="set_iterator") (n:="__next__") (by kernel_rfl) (by decide +kernel) (by decide +kernel) (by decide +kernel) (.inl (by decide +kernel)) (by kernel_rfl)
def k7:Slot "set_iterator" "__iter__" "set_iterator.__iter__" :=
 .of (owner:="set_iterator") (n:="__iter__") (by kernel_rfl) (by decide +kernel) (by decide +kernel) (by decide +kernel) (.inl (by decide +kernel)) (by kernel_rfl)
def kn:entryFor table "set_iterator.__next__"=J Builtin.«set_iterator.__next__»:=entryFor_of_fast (by kernel_rfl)
def rP:entryFor table "set_iterator.__iter__"=J Builtin.«dict_keyiterator.__iter__» :=
 entryFor_alias (id':="dict_keyiterator.__iter__") (by kernel_rfl) rfl (by decide +kernel) (by kernel_rfl)
def kv(a:Value):argsOk "set_iterator.__next__" ⟨[a],[]⟩:=by unfold argsOk;kernel_rfl
def ul(a:Value):argsOk "set_iterator.__iter__" ⟨[a],[]⟩:=by unfold argsOk;kernel_rfl
def sg:entryFor table "set.__iter__"=J Builtin.«frozenset.__iter__» :=
 entryFor_alias (id':="frozenset.__iter__") (by kernel_rfl) rfl (by decide +kernel) (by kernel_rfl)
def wQ{α:Type}(l:List α)(i:Nat)(h:i<l.length):(l[i]::l.eraseIdx i).Perm l:=by
 rw[List.eraseIdx_eq_take_drop_succ];have e:l.take i++l[i]::l.drop (i+1)=l:=by rw[Sv h,FS]
 exact Lq.symm.trans (List.Perm.of_eq e)
def Ez(next:Nat->Nat):∀(a k:Nat)(left:List α)(i:Array α),left.length<=a->(pickOrder.go next a k left i).toList.Perm (i.toList++left):=by
 intro a
 induction a with
 |zero =>
  intro k left i h
  have:left=[]:=C4.mp ⋯
  subst this;unfold pickOrder.go;simp
 |succ f y =>
  intro k left i h;unfold pickOrder.go
  cases left with
  |nil=>simp
  |cons x l =>
   have j:next k % (x::l).length<(x::l).length:=Nat.mod_lt _ (by simp)
   have u:=zb j;rw[u];have z:((x::l).eraseIdx (next k % (x::l).length)).length<=f:=by rw[List.length_eraseIdx_of_lt j];lia
   refine(y (k+1) _ _ z).trans ?_;rw[Dh,CN];refine List.Perm.append_left _ ?_;have r:=(wQ _ _ j).symm;exact r.symm
def zu(next:Nat->Nat)(xs:Array α):(pickOrder next xs).toList.Perm xs.toList:=by
 unfold pickOrder
 have:=Ez next xs.size 0 xs.toList #[] (by simp)
 simpa using this
def xv(xs:Array Nat)(f:eR xs):below xs 0=0:=by
 obtain⟨i,a,_⟩:=d5 xs 0 f;by_cases h:below xs 0=0
 .exact h
 .obtain⟨v,hv⟩:=dP xs 0 ⋯
  have:=a 0 v hv ⋯
  lia
def xc(xs:Array Nat)(f:eR xs)(i j:Nat)(h:xs[i]?=J j):below xs (j+1)=i+1:=by
 obtain⟨z,y,r⟩:=d5 xs (j+1) f;by_cases u:below xs (j+1)<=i
 .have:=r i j h u;lia
 .by_cases l:i+1<below xs (j+1)
  .obtain⟨v,hv⟩:=dP xs (i+1) ⋯;have a:=y (i+1) v hv l;have b:=f i (i+1) j v ⋯ h hv;lia
  .lia
section
variable{prog:Program}{w:World}{A:Around}{E:UA}{s:Shared}
def b8(w:World)(S:Addr)(f:Nat)(a:Array (Int×Value)):Array (Int×Value):=if w.params.followText "set-order" then pickOrder (w.params.setOrder S f) a else a
def iY(w:World)(S:Addr)(f:Nat)(a:Array (Int×Value)):(b8 w S f a).toList.Perm a.toList:=by
 unfold b8;split
 .exact zu _ _
 .exact List.Perm.refl _
def MX(w:World)(a S:Addr)(o:Obj)(f:Array (Int×Value))(j:Nat)(t:SetTable)(i:Nat)(h:Heap):Prop :=
 h.get? S=J o/\∃slot:Nat,h.get? a=J { cls:=.type "set_iterator",dict:=Y,data:=.fields #[.int slot 0,.int i 0,.ref S,.int f.size 0,.int j 0],slots:=#[]} /\
  (w.params.followText "set-order"=T->below t.place slot=i)
end
section
variable{prog:Program}{w:World}{A:Around}{E:UA}{s:Shared}{S it:Addr}{o:Obj}{es:Array (Int × Value)}{ep:Nat}{t:SetTable}{ks:UP}
def o9(a:MX w it S o es ep t i s.heap):s.TypeIs (.ref it) "set_iterator":=let⟨_,_,h,_⟩:=a;⟨_,h,rfl⟩
def Wkd(prog:Program)(w:World)(S:Addr)(o:Obj)(es:Array (Int×Value))(ep:Nat)(t:SetTable):Prop :=
 o.ExactSet/\o.data=.set es ep t/\t.dummies=#[]/\t.plain=I/\t.led=bY w/\eR t.place/\t.place.size=es.size/\es.size<=t.mask
def uX{i:Nat}{h:Heap}{slot:Nat}{Q:Option (Value×Nat)->Shared->Prop}(y:Wkd prog w S o es ep t)(O:s.heap.get? S=J o)(B:w.params.followText "set-order"=T->below t.place slot=i)(l:∀(x:Int×Value) a,(b8 w S ep es)[i]?=J x->(w.params.followText "set-order"=T->below t.place a=i+1)->Q (J (x.2,a)) s)(r:(b8 w S ep es)[i]?=Y->Q Y s):
  wpAny (model prog w) A (setNext S slot i ep) Q E s:=by
 obtain⟨Z,P,T3,U,R,W,L,X⟩:=y;have hf:t.fits es.size=I:=by unfold SetTable.fits SetTable.fill;simp[L,T3];exact X
 refine d_ (wpAny_setState_of O P hf ?_);unfold b8 at l r
 cases f:w.params.followText "set-order" with
 |true =>
  rw[f]at l r;show wpAny _ _ (if w.params.followText "set-order"=I then _ else _) _ _ _;rw[f];simp only[bne_self_eq_false];refine d_ (d_ (wpAny_setState_of O P hf ?_));show wpAny _ _ (if w.params.followText "set-order"=I then _ else _) _ _ _;rw[f];refine d_ (wpAny_askSetting (ii ?_));refine ii ?_;show Q (((pickOrder (w.params.setOrder S ep) es)[i]?).map λe=>(e.2,slot)) s
  cases M:(pickOrder (w.params.setOrder S ep) es)[i]? with
  |none=>exact r M
  |some x=>exact l x slot M (λz=>nomatch z)
 |false =>
  rw[f]at l r;show wpAny _ _ (if w.params.followText "set-order"=I then _ else _) _ _ _;rw[f];have C:¬((!t.plain&&decide (es.size>1))=I):=by rw[U];simp
  refine(?_:wpAny _ _ (if(!t.plain&&decide (es.size>1))=I then _ else _) _ _ _);rw[f_ C];have F:¬((!t.led && !es.isEmpty)=I):=by rw[R];simp[f]
  refine d_ (?_:wpAny _ _ (if(!t.led && !es.isEmpty)=I then _ else _) _ _ _);rw[f_ F];refine ii ?_;refine ii ?_;have G:=B f;rw[G]
  cases u:es[i]? with
  |none=>exact r u
  |some x =>
   obtain⟨j,H⟩:=dP t.place i (by rw[L];exact eA u);rw[H];exact l x (j+1) u (λ_=>xc _ W i j H)
def Wkd.fits(a:Wkd prog w S o es ep t):t.fits es.size=I:=by obtain⟨j,y,T3,l,r,u,i,f⟩:=a;unfold SetTable.fits SetTable.fill;simp[i,T3];exact f
def uU{i:Nat}{x:Int×Value}{Q:UV->Shared->Prop}(f:Wkd prog w S o es ep t)(y:S≠it)(l:MX w it S o es ep t i s.heap)(C:(b8 w S ep es)[i]?=J x)(M:∀z,MX w it S o es ep t (i+1) z->Heap.SameBut it s.heap z->Q (J x.2) { s with heap:=z}):wpAny (model prog w) A (pyNext (.ref it)) Q E s:=by
 have G:=o9 l;obtain⟨B,slot,F,u⟩:=l;refine d_ (wpAny_attempt (wpAny_callSpecial?_slot G cW (wpAny_call_entry cW G kn ?_ (kv _))));refine d_ (ii ?_);refine d_ (wpAny_fieldsOf F rfl ?_);refine d_ (wpAny_setEntries_of B f.2.1 f.fits ?_);rw[f_ (by simp)];refine d_ ?_;rw[AO,AO,AO];refine uX (h:=s.heap) f B u (λR a e1 e2=>?_) (λe1=>by rw[C]at e1;cases e1);rw[C]at e1;cases e1;refine d_ (wpAny_setField_rec F (by simp) λP O j=>?_);refine d_ (wpAny_setField_rec O (by simp) λL H r=>?_);refine ii ⟨_,rfl,ii (M L ⟨?_,a,?_,e2⟩ (j.trans r))⟩
 .rw[(j.trans r).2 S y];exact B
 .exact H
def xF{i:Nat}{Q:UV->Shared->Prop}(G:A.handled=Y)(f:Wkd prog w S o es ep t)(j:MX w it S o es ep t i s.heap)(C:(b8 w S ep es)[i]?=Y)(F:∀B,Heap.ExtBut it s.heap B->Q Y { s with heap:=B}):wpAny (model prog w) A (pyNext (.ref it)) Q E s:=by
 have z:=o9 j;obtain⟨u,slot,y,r⟩:=j;refine d_ (wpAny_attempt (wpAny_callSpecial?_slot (name:=Str.ofString "__next__") z cW (wpAny_call_entry cW z kn ?_ (kv _))));refine d_ (m:=slotArgs "__next__" 0 _) (ii ?_);refine d_ (wpAny_fieldsOf y rfl ?_);refine d_ (wpAny_setEntries_of u f.2.1 f.fits ?_);rw[f_ (by simp)];refine d_ ?_;rw[AO,AO,AO];refine uX (h:=s.heap) f u r (λH l e1 e2=>by rw[C]at e1;cases e1) (λe1=>?_);refine d_ (wpAny_setField y rfl (by simp) ?_);refine d_ ?_;refine d_ (m:=firstArgMember _ _) (wpAny_of_eq (a:=Value.none) (by first | rfl | (simp only[firstArgMember])) ?_);refine wpAny_newObj_type ?_ (by size_fits);refine d_ (wpAny_handled ?_);rw[show A.in1.handled=Y from G];refine d_ (ii (wpAny_throw ?_));refine d_ (wpAny_isInstance (T:="StopIteration") (b:=I) ⟨_,rT _ rfl,rfl⟩ isSubtype_stop ?_);exact ii (F _ (((Heap.SameBut.update ..).extBut.push _).push _))
def yV(H:A.handled=Y)(u:S≠it)(j:Wkd prog w S o es ep t):
  Walks prog w A it [it,S] [it] es.size (λi v=>∃x,(b8 w S ep es)[i]?=J x/\v=x.2) (λi h=>MX w it S o es ep t i h) where
 sub:=λb f=>by simp at f;simp[f]
 frame:=λ_ _ _ st B=>⟨B S (by simp) _ st.1,let⟨slot,a,b⟩:=st.2;⟨slot,B it (by simp) _ a,b⟩⟩
 item:=λi s Q E L st l=>by
  have G:(b8 w S ep es).size=es.size:=by rw[<-BI,(iY w S ep es).length_eq,BI]
  obtain⟨x,C⟩:=dP (b8 w S ep es) i ⋯;exact uU j u st C λz r sb=>l _ z s.toks ⟨x,C,rfl⟩ r λb o f e=>sb.extBut b o (λh=>f (by simp[h])) e
 done:=λs Q E st l=>by
  have G:(b8 w S ep es).size=es.size:=by rw[<-BI,(iY w S ep es).length_eq,BI]
  exact xF H j st (Su ⋯) λz F=>l z s.toks λb o f e=>F b o (λh=>f (by simp[h])) e
 self:=λ_ s Q E st l=>by
  have y:=o9 st;refine wpAny_pyIter_slot y k7 (wpAny_call_entry k7 y rP ?_ (ul _));exact ii ⟨_,rfl,"set_iterator",_,y,cW.lookup,l⟩
def wW(a:Wkd prog w S o es ep t)(f:s.heap.get? S=J o)(l:Q (.ref s.heap.objs.size) { s with heap:=s.heap.push { cls:=.type "set_iterator",data:=.fields #[.int 0 0,.int 0 0,.ref S,.int es.size 0,.int ep 0]}}):
  wpAny (model prog w) A (pyIter (.ref S)) Q E s:=by
 have j:s.TypeIs (.ref S) "set":=⟨o,f,a.1.1⟩;refine wpAny_pyIter_slot j PySem.F.slot_set_iter (wpAny_call_entry PySem.F.slot_set_iter j sg ?_ (PySem.F.args_set_iter_1 _));refine d_ (d_ (ii (ii ?_)));refine d_ (d_ (wpAny_setEntries_of f a.2.1 a.fits (ii ?_)));refine d_ (d_ (wpAny_setState_of f a.2.1 a.fits ?_));refine d_ (d_ (wpAny_askSetting (ii (ii ?_))));have i:(!w.params.followText "set-order" && (!t.plain&&decide (es.size>1)))=T:=by rw[a.2.2.2.1];simp
 refine(?_:wpAny _ _ (if(!w.params.followText "set-order" && (!t.plain&&decide (es.size>1)))=I then _ else _) _ _ _);rw[f_ (by rw[i];simp)];refine d_ (ii ?_);refine d_ (wpAny_setEpoch_of f a.2.1 a.fits ?_);exact d_ (wpAny_newObj_type (ii ⟨_,rfl,"set_iterator",_,⟨_,rT _ rfl,rfl⟩,cW.lookup,l⟩))
end
section
variable{prog:Program}{w:World}{A:Around}{E:UA}{s:Shared}{S:Addr}{o:Obj}{es:Array (Int × Value)}{ep:Nat}{t:SetTable}
def Ai(a:s.TypeIs (.ref S) "set")(f:Q T s):wpAny (model prog w) A (Builtin.List.listLengthHint (.ref S)) Q E s:=by refine d_ (wpAny_specialOf a PySem.F.slot_set_len.lookup ?_);dsimp only;refine d_ (wpAny_isInstance a sub_set_self ?_);refine d_ (wpAny_typeOf a ?_);exact ii f
def sG(hh:A.handled=Y)(j:Wkd prog w S o es ep t)(ho:s.heap.get? S=J o)(hn:es.size<=sizeLine)(hQ:∀X tk,BZ s.heap X->s.heap.objs.size<X.objs.size->s.toks<=tk->Q ((b8 w S ep es).toList.map (·.2)) { s with heap:=X,toks:=tk}):
  wpAny (model prog w) A (collect (.ref S)) Q E s:=by
 have f:S<s.heap.objs.size:=l_ ho;refine d_ (wpAny_runValue (codeAny_builtin PySem.F.entry_proto_collect ?_));refine d_ (wpAny_newObj_type ?_);refine ii ⟨plainId_quiet PySem.F.plain_list_iadd _,codeAny_builtin PySem.F.entry_list_iadd ?_⟩;generalize hL:({ cls:=.type "list",data:=.seq ([]:UT).toArray}:Obj)=a;have G:(s.heap.push a).get? S=J o:=m_ _ ho;have as:(s.heap.push a).get? s.heap.objs.size=J a:=rT _ (by rw[<-hL];rfl);have l:(s.heap.push a).objs.size=s.heap.objs.size+1:=by rw[F1]
 show wpAny _ A.in1 (Builtin.List.listExtendWith (.ref s.heap.objs.size) (.ref S) (.ref s.heap.objs.size)) _ _ { s with heap:=s.heap.push a};have ap:Shared.TypeIs { s with heap:=s.heap.push a} (.ref S) "set":=⟨o,G,j.1.1⟩;refine d_ (wpAny_typeOf ap ?_);have h1:Builtin.List.listSameRef (.ref s.heap.objs.size) (.ref S)=T:=by simp only[Builtin.List.listSameRef,beq_eq_false_iff_ne];exact Dn f
 have h2:(Value.type "set" == Value.type "list")=T:=by decide
 have h3:(Value.type "set" == Value.type "tuple")=T:=by decide
 simp only[h1,h2,h3,Bool.or_false,o0,if_false];refine d_ (wW (s:={ s with heap:=s.heap.push a}) j G ?_);generalize hI:({ cls:=.type "set_iterator",data:=.fields #[.int 0 0,.int 0 0,.ref S,.int es.size 0,.int ep 0]}:Obj)=B;have U:((s.heap.push a).push B).get? S=J o:=m_ _ G;have P:((s.heap.push a).push B).get? s.heap.objs.size=J a:=m_ _ as;have Z:((s.heap.push a).push B).get? (s.heap.push a).objs.size=J B:=rT _ (by rw[<-hI];rfl);show wpAny _ A.in1 _ _ _ { s with heap:=(s.heap.push a).push B};have ax:Shared.TypeIs { s with heap:=(s.heap.push a).push B} (.ref S) "set":=⟨o,U,j.1.1⟩;refine d_ (wpAny_holding (Ai ax ?_));rw[b_ (by decide +kernel)];refine d_ (wpAny_rule ?_);refine d_ ?_;show wpAny _ A.in1 (updateSeq s.heap.objs.size (·.push .none) >>= λ_=>updateSeq s.heap.objs.size (·.pop)) _ _ _;subst hL;refine d_ (wpAny_updateSeq P rfl ?_);have u:=GO (Obj.mapSeq (·.push Value.none)) P rfl;refine wpAny_updateSeq u rfl ?_;have F:=GO (Obj.mapSeq (·.pop)) u rfl;have B_:∀b H,b≠s.heap.objs.size->((s.heap.push { cls:=.type "list",data:=.seq ([]:UT).toArray}).push B).get? b=J H ->
   ((((s.heap.push { cls:=.type "list",data:=.seq ([]:UT).toArray}).push B).update s.heap.objs.size (Obj.mapSeq (·.push Value.none))).update s.heap.objs.size (Obj.mapSeq (·.pop))).get? b=J H :=
  λb H L e=>(Df _ _ (Ne.symm L)).trans ((Df _ _ (Ne.symm L)).trans e)
 have y:s.heap.objs.size≠(s.heap.push { cls:=.type "list",data:=.seq ([]:UT).toArray}).objs.size:=by rw[l];exact u_ (Lp _)
 have R:S≠(s.heap.push { cls:=.type "list",data:=.seq ([]:UT).toArray}).objs.size:=by rw[l];exact u_ (Ln f)
 have hW:=(yV (A:=A.in1) (it:=(s.heap.push { cls:=.type "list",data:=.seq ([]:UT).toArray}).objs.size) hh R j).toS;have al:s.heap.objs.size∉[(s.heap.push { cls:=.type "list",data:=.seq ([]:UT).toArray}).objs.size,S]:=by simp only[k4,GX,or_false,not_or];exact⟨y,Dn f⟩
 refine ii ⟨plainId_quiet PySem.F.plain_extend_loop _,codeAny_extend_loopS hW hn _ al _ es.size 0 _ _ _ rfl (wl _) ?_ F (ItemsOf.nil _) λs' z c' O M r=>?_⟩
 .refine⟨B_ S _ (u_ f) U,0,?_,λ_=>xv _ j.2.2.2.2.2.1⟩;subst hI;exact B_ _ _ (Ne.symm y) Z
 .show wpAny _ A (load s.heap.objs.size >>= _) _ _ s';refine d_ (wpAny_load M ?_);refine ii ?_;have C:z.toList=(b8 w S ep es).toList.map (·.2):=by
   have hl:(b8 w S ep es).size=es.size:=by rw[<-BI,(iY w S ep es).length_eq,BI]
   apply Ky;intro i;by_cases hi:i<es.size
   .obtain⟨v,hv⟩:=dP z i (by rw[r.1];exact hi);obtain⟨x,hx,e⟩:=r.2 i v hv;rw[w_,hv,pr,w_,hx,e];rfl
   .rw[Dg (by rw[BI,r.1];lia),Dg (by rw[q7,BI,hl];lia)]
  rw[C];obtain⟨X,g',d',W,an⟩:=s';have eg:g'=s.gens:=O.gens;have ed:d'=s.drawn:=O.drawn;have eo:an=s.os:=O.os;have et:s.toks<=W:=O.toks;subst eg;subst ed;subst eo;refine hQ X W (λb H e=>?_) (l_ M) et;have L:b<s.heap.objs.size:=l_ e;refine O.heap b H ?_ (B_ b H (u_ L) (m_ _ (m_ _ e)));simp only[k4,GX,or_false,not_or];exact⟨u_ L,by rw[l];exact u_ (Ln L)⟩
def uF(hh:A.handled=Y)(f:dk prog w (PB H0 R) s.heap S (bY w) ks)(hx:BZ H0 s.heap)(hQ:∀L M O H,BZ s.heap L->s.heap.objs.size<L.objs.size->s.toks<=M->Db prog w H0 (List.toArray O) H->(∀v∈O,∃a,v=.ref a/\R a)->H.Perm ks->Q O { s with heap:=L,toks:=M}):
  wpAny (model prog w) A (collect (.ref S)) Q E s:=by
 obtain⟨o,es,ep,t,r,f,hr,Z,an⟩:=f;unfold lu at hr;have C:es.size<=t.mask:=by rcases f.mask with e|e | e<;>rw[e]at hr ⊢<;>lia
 have al:t.mask<=127:=by rcases f.mask with e|e | e<;>lia
 refine sG hh ⟨f.ex,f.data,f.dm,f.plain,f.led',f.wf.rise,f.size,C⟩ f.get (by rw[sizeLine_eq];lia) λL M e1 e3 e2=>?_;have X:=iY w S ep es;have l:∀e∈es.toList,∃k a,e.2=.ref a/\TK prog w H0 k a/\R a:=by intro e y;obtain⟨i,j⟩:=Bo.mp y;rw[w_]at j;obtain⟨k,u⟩:∃k,r[i]?=J k:=⟨_,zb (by rw[<-f.ents.1];exact eA j)⟩;obtain⟨c,d,⟨oc,P,m,hc,q⟩,g,⟨ob,hb⟩,hR⟩:=f.ents.2 i e k j u;have e3:oc=ob:=Option.some.inj (hc.symm.trans (hx c ob hb));subst e3;exact⟨k,c,d,⟨oc,P,m,hb,q⟩,hR⟩
 let G:Int×Value->UN:=λe=>Classical.epsilon λk=>∃a,e.2=.ref a/\TK prog w H0 k a
 have F:∀e∈es.toList,∃a,e.2=.ref a/\TK prog w H0 (G e) a:=by intro e y;obtain⟨k,a,z,W,_⟩:=l e y;exact Classical.epsilon_spec (p:=λk=>∃a,e.2=.ref a/\TK prog w H0 k a) ⟨k,a,z,W⟩
 have B:es.toList.map G=r:=by
  apply Ky;intro i;rw[pr,w_]
  cases j:es[i]? with
  |none =>
   have:r.length<=i:=by
    rw[<-f.ents.1]
    have:=PJ.mp j
    lia
   rw[Dg this];rfl
  |some e =>
   obtain⟨k,u⟩:∃k,r[i]?=J k:=⟨_,zb (by rw[<-f.ents.1];exact eA j)⟩;obtain⟨c,d,hc,g,⟨ob,hb⟩,_⟩:=f.ents.2 i e k j u;have y:e∈es.toList:=Bo.mpr ⟨i,by rw[w_];exact j⟩;obtain⟨a,z,W⟩:=F e y;rw[d]at z;cases z;have U:=kz hx W;rw[u];show J (G e)=J k;rw[IsTupleKey.inj U hc]
 refine hQ L M _ ((b8 w S ep es).toList.map G) e1 e3 e2 ⟨by simp,?_⟩ ?_ ?_
 .intro i v k hv u;rw[Lh,pr]at hv;rw[pr]at u
  cases j:(b8 w S ep es).toList[i]? with
  |none=>rw[j]at hv;cases hv
  |some e =>
   rw[j]at hv u;cases hv;cases u;exact F e (X.mem_iff.mp (Ci j))
 .intro v hv;obtain⟨e,y,rfl⟩:=nw.mp hv;obtain⟨k,a,z,_,U⟩:=l e (X.mem_iff.mp y);exact⟨a,z,U⟩
 .have:=X.map G
  rw[B]at this;exact this.trans Z
end
end SetT
namespace SortT
open PyProof.Rows
structure vb(prog:Program)(w:World)(A:Around)(E:UA)(s:Shared)(kd:SortKind)(O:KeyOrd) where
 key:Keyed->O.α
 dflt:O.α
 good:Keyed->Prop
 ask:∀(x y:Keyed)(st:SortSt)(Q:Option Bool->SortSt->Prop),good x->good y->kindOf st=kd->Q (J (O.blt (key x) (key y))) st->wpS (model prog w) A E s (lt' x y) Q st
section
variable{prog:Program}{w:World}{A:Around}{E:UA}{s:Shared}{kd:SortKind}{O:KeyOrd}(C:vb prog w A E s kd O)
def kk(xs:Array Keyed)(i:Nat):O.α:=match xs[i]? with
 |some p=>C.key p
 |none=>C.dflt
def ql(xs:Array Keyed)(lo a:Nat):Prop:=∀i j,lo<=i->i<=j->j<a->O.kle (kk C xs i) (kk C xs j)
def KQ(xs:Array Keyed)(lo a:Nat):Prop:=∀i j,lo<=i->i<=j->j<a->O.kle (kk C xs j) (kk C xs i)
def cH(xs:Array Keyed):Prop:=∀p,p∈xs.toList->C.good p
structure SB(kd:SortKind)(a₀:Array Keyed)(st:SortSt):Prop where
 perm:(arrOf st).Perm a₀
 kind:kindOf st=kd
 failed:failedOf st=Y
def cR(lo:Nat)(xs ys:Array Keyed):Prop:=∀i,i<lo->ys[i]?=xs[i]?
def cR.rfl'{lo:Nat}{xs:Array Keyed}:cR lo xs xs:=λ_ _=>rfl
def cR.trans{lo:Nat}{xs ys f:Array Keyed}(h:cR lo xs ys)(g:cR lo ys f):cR lo xs f:=λi a=>(g i a).trans (h i a)
variable{C}{a₀:Array Keyed}{st:SortSt}
def SB.size(h:SB kd a₀ st):(arrOf st).size=a₀.size:=h.perm.size_eq
def SB.arr(h:SB kd a₀ st)(a:xs.Perm (arrOf st)):SB kd a₀ (setArr st xs):=⟨a.trans h.perm,h.kind,h.failed⟩
def SB.good(h:SB kd a₀ st)(a:cH C a₀):cH C (arrOf st):=λp f=>a p ((PK.mp h.perm).mem_iff.mp f)
def eW(h:xs[i]?=ys[j]?):kk C xs i=kk C ys j:=by unfold kk;rw[h]
def aP(h:xs[i]?=J p):kk C xs i=C.key p:=by unfold kk;rw[h]
def bD{xs:Array Keyed}(g:cH C xs){i:Nat}{p:Keyed}(h:xs[i]?=J p):C.good p:=by refine g p (Bo.mpr ⟨i,?_⟩);rw[w_];exact h
def aR(a:i<xs.size)(h:∀p,xs[i]?=J p->Q p st):wpS (model prog w) A E s (elem' xs i) Q st:=by rw[elem'_eq];have e:=getElem?_pos xs i a;rw[e];exact wpS_pure (h _ e)
def kR{i j:Nat}{Q:Option Bool->SortSt->Prop}(a:SB kd a₀ st)(l:cH C a₀)(z:i<a₀.size)(u:j<a₀.size)(h:Q (J (O.blt (kk C (arrOf st) i) (kk C (arrOf st) j))) st):wpS (model prog w) A E s (ltAt' i j) Q st:=by
 refine wpS_bind (wpS_get ?_);refine wpS_bind (aR (by rw[a.size];exact z) λx f=>wpS_bind (aR (by rw[a.size];exact u) λy r=>?_));rw[aP f,aP r]at h;exact C.ask x y st Q (bD (a.good l) f) (bD (a.good l) r) a.kind h
def qZ(j:src<xs.size)(hd:d<=src)(i:Nat):
  kk C (bubble xs src d) i=if i=src-d then kk C xs src else if src-d<i/\i<=src then kk C xs (i-1)else kk C xs i:=by
 have e:=getElem?_bubble j d hd i;split
 .next a=>rw[b_ a]at e;exact eW e
 .next a =>
  rw[f_ a]at e;split
  .next f=>rw[b_ f]at e;exact eW e
  .next f=>rw[f_ f]at e;exact eW e
def kF(f:j<=xs.size)(q:Nat):
  kk C (mirror xs i j ((j-i)/2)) q=if i<=q/\q<j then kk C xs (i+j-1-q)else kk C xs q:=by
 have e:=getElem?_mirror_all (i:=i) f q;split
 .next a=>rw[b_ a]at e;exact eW e
 .next a=>rw[f_ a]at e;exact eW e
def dM(f:j<=xs.size)(a:∀q,i<=q->q<j->kk C xs q=kk C xs (j-1))(q:Nat):
  kk C (mirror xs i j ((j-i)/2)) q=kk C xs q:=by
 rw[kF f];split
 .next h=>rw[a (i+j-1-q) ⋯ ⋯,a q h.1 h.2]
 .rfl
def f6{xs:Array Keyed}{lo i j:Nat}(a:j<=xs.size)(h:lo<=i):cR lo xs (mirror xs i j ((j-i)/2)):=λq f=>by
 rw[getElem?_mirror_all a,f_ ⋯]
def uH{xs:Array Keyed}{lo a d:Nat}(f:a<xs.size)(hd:d<=a)(h:lo<=a-d):cR lo xs (bubble xs a d):=λq i=>by
 rw[getElem?_bubble f d hd,f_ ⋯,f_ ⋯]
abbrev AS:=Option (UD)×Nat
abbrev DS:=Option (UD)×Nat×Nat
def lf(p a f:Nat):StateT SortSt Sem AS :=
 forIn [a:f] ((Y,a):AS) λ_ c=>do
  let q <-ltAt' (p+c.2) (p+c.2-1)
  match q with
  |some z=>if z=I then pure (ForInStep.done (Y,c.2))else pure (ForInStep.yield (Y,c.2+1))
  |_=>pure (ForInStep.done (J Y,c.2))
def IA(p n a:Nat):StateT SortSt Sem (UD):=do
 reverseSlice' p (p+n)
 let c <-lf p n a
 match c.1 with
 |some r=>pure r
 |none=>pure (J c.2)
def EA(p n a:Nat):StateT SortSt Sem DS :=
 forIn [n:a] ((Y,n,0):DS) λ_ c=>do
  let q <-ltAt' (p+c.2.1) (p+c.2.1-1)
  match q with
  |some z =>
   if z=I then
    if c.2.2>0 then do
     reverseSlice' (p+c.2.1-(c.2.2+1)) (p+c.2.1)
     pure (ForInStep.yield (Y,c.2.1+1,0))
    else pure (ForInStep.yield (Y,c.2.1+1,0))
   else do
    let q <-ltAt' (p+c.2.1-1) (p+c.2.1)
    match q with
    |some z=>if z=I then pure (ForInStep.done (Y,c.2.1,c.2.2))else pure (ForInStep.yield (Y,c.2.1+1,c.2.2+1))
    |_=>pure (ForInStep.done (J Y,c.2.1,c.2.2))
  |_=>pure (ForInStep.done (J Y,c.2.1,c.2.2))
def IB(p n a:Nat):StateT SortSt Sem (UD):=do
 liftM (rule "list.sort.descending-run")
 let c <-EA p (n+1) a
 match c.1 with
 |some r=>pure r
 |none =>
  if c.2.2>0 then do
   reverseSlice' (p+c.2.1-(c.2.2+1)) (p+c.2.1)
   IA p c.2.1 a
  else IA p c.2.1 a
def IC(p a:Nat):countRun' p a=(do
  let c <-lf p 1 a
  match c.1 with
  |some r=>pure r
  |none =>
   if(c.2==a)=I then pure (J c.2)
   else if c.2>1 then do
    let q <-ltAt' p (p+c.2-1)
    match q with
    |some z=>if z=I then pure (J c.2)else do
      reverseSlice' p (p+c.2)
      IB p c.2 a
    |_=>pure Y
   else IB p c.2 a):=by
 refine congrArg (λg=>lf p 1 a >>= g) (funext λc=>?_);obtain⟨r,n⟩:=c
 cases r with
 |some r=>rfl
 |none =>
  dsimp only;split
  .rfl
  .split
   .congr 1;funext x
    cases x with
    |none=>rfl
    |some z =>
     dsimp only;split
     .rfl
     .refine congrArg _ (funext λ_=>?_);refine congrArg _ (funext λ_=>?_);refine congrArg (λg=>EA p (n+1) a >>= g) (funext λy=>?_);obtain⟨j,l,B⟩:=y
      cases j with
      |some j=>rfl
      |none =>
       dsimp only;split
       .refine congrArg _ (funext λ_=>?_);refine congrArg _ (funext λ_=>?_);refine congrArg (λg=>lf p l a >>= g) (funext λf=>?_);obtain⟨i,u⟩:=f;cases i<;>rfl
       .refine congrArg _ (funext λ_=>?_);refine congrArg (λg=>lf p l a >>= g) (funext λf=>?_);obtain⟨i,u⟩:=f;cases i<;>rfl
   .refine congrArg _ (funext λ_=>?_);refine congrArg (λg=>EA p (n+1) a >>= g) (funext λy=>?_);obtain⟨j,l,B⟩:=y
    cases j with
    |some j=>rfl
    |none =>
     dsimp only;split
     .refine congrArg _ (funext λ_=>?_);refine congrArg _ (funext λ_=>?_);refine congrArg (λg=>lf p l a >>= g) (funext λf=>?_);obtain⟨i,u⟩:=f;cases i<;>rfl
     .refine congrArg _ (funext λ_=>?_);refine congrArg (λg=>lf p l a >>= g) (funext λf=>?_);obtain⟨i,u⟩:=f;cases i<;>rfl
def u7(L:cH C a₀)(S:p+nrem<=a₀.size)(U:1<=a)(M:a<=nrem)(F:SB kd a₀ st)(H:ql C (arrOf st) p (p+a))(h:∀n,a<=n->n<=nrem->ql C (arrOf st) p (p+n)->(n=nrem\/O.klt (kk C (arrOf st) (p+n)) (kk C (arrOf st) (p+n-1)))->Q (Y,n) st):
  wpS (model prog w) A E s (lf p a nrem) Q st:=by
 refine wpS_forRange (I:=λx c f=>f=st/\c=(Y,x)/\ql C (arrOf st) p (p+x)) ?_ ?_ ⟨rfl,rfl,H⟩
 .rintro x c f G R ⟨rfl,rfl,l⟩;refine wpS_bind (kR F L ⋯ ⋯ ?_)
  cases z:O.blt (kk C (arrOf f) (p+x)) (kk C (arrOf f) (p+x-1)) with
  |true=>exact wpS_pure (h x G ⋯ l (.inr z))
  |false =>
   refine wpS_pure ⟨rfl,rfl,λi j B y P=>?_⟩;by_cases u:j<p+x
   .exact l i j B y u
   .have e:j=p+x:=by lia
    subst e;by_cases r:i=p+x
    .subst r;exact KeyOrd.kle_refl _
    .exact KeyOrd.kle_trans (l i (p+x-1) B ⋯ ⋯) z
 .simp_all
def lp(h:Q () (setArr st (mirror (arrOf st) i j ((j-i)/2)))):wpS (model prog w) A E s (reverseSlice' i j) Q st:=by exact wpS_modify h
def vI(F:cH C a₀)(G:p+nrem<=a₀.size)(y:1<=n)(r:n<=nrem)(u:SB kd a₀ st)(B:KQ C (arrOf st) p (p+n))(h:∀m a,SB kd a₀ a->cR p (arrOf st) (arrOf a)->pendingOf a=pendingOf st->1<=m->m<=nrem->ql C (arrOf a) p (p+m)->Q (J m) a):
  wpS (model prog w) A E s (IA p n nrem) Q st:=by
 have f:p+n<=(arrOf st).size:=by rw[u.size];lia
 refine wpS_bind (lp ?_);have l:=u.arr (mirror_perm (arrOf st) p (p+n) ((p+n-p)/2));refine wpS_bind (u7 F G y r l (λi j R H M=>?_) λm P z L _=>wpS_pure (h m _ l (f6 f (il _)) rfl ⋯ z L));rw[kF f,kF f,b_ ⋯,b_ ⋯];exact B _ _ ⋯ ⋯ ⋯
def EB{p n l:Nat}{Q:DS->SortSt->Prop}(h0:cH C a₀)(hn:p+l<=a₀.size)(h1:1<=n)(W:n<=l)(hB:SB kd a₀ st)(hs:KQ C (arrOf st) p (p+n))(h:∀m q f,SB kd a₀ f->cR p (arrOf st) (arrOf f)->pendingOf f=pendingOf st->n<=m->m<=l->KQ C (arrOf f) p (p+m)->q+1<=m ->
   (∀i,p+m-(q+1)<=i->i<p+m->kk C (arrOf f) i=kk C (arrOf f) (p+m-1))->Q (Y,m,q) f):
  wpS (model prog w) A E s (EA p n l) Q st:=by
 refine wpS_forRange (I:=λx c f=>∃q,c=(Y,x,q)/\SB kd a₀ f/\cR p (arrOf st) (arrOf f)/\pendingOf f=pendingOf st/\KQ C (arrOf f) p (p+x)/\q+1<=x /\
   ∀i,p+x-(q+1)<=i->i<p+x->kk C (arrOf f) i=kk C (arrOf f) (p+x-1)) ?_ ?_ ⟨0,rfl,hB,cR.rfl',rfl,hs,⋯,λi a b=>by congr 1;lia⟩
 .rintro x c f L al ⟨q,rfl,r,u,y,hf,H,z⟩;have F:p+x<=(arrOf f).size:=by rw[r.size];lia
  have grow:∀xs:Array Keyed,(∀i,kk C xs i=kk C (arrOf f) i)->O.kle (kk C (arrOf f) (p+x)) (kk C (arrOf f) (p+x-1))->KQ C xs p (p+(x+1)):=by
   intro xs hk X i j hi U hj;rw[hk,hk];by_cases S:j<p+x
   .exact hf i j hi U S
   .have e:j=p+x:=by lia
    subst e;by_cases R:i=p+x
    .subst R;exact KeyOrd.kle_refl _
    .exact KeyOrd.kle_trans X (hf i (p+x-1) hi ⋯ ⋯)
  dsimp only;refine wpS_bind (kR r h0 ⋯ ⋯ ?_)
  cases P:O.blt (kk C (arrOf f) (p+x)) (kk C (arrOf f) (p+x-1)) with
  |true =>
   dsimp only;rw[b_ rfl];by_cases G:q>0
   .rw[b_ G];refine wpS_bind (lp (wpS_pure ⟨0,rfl,r.arr (mirror_perm _ _ _ _),u.trans (f6 F ⋯),y,grow _ (dM F z) (KeyOrd.kle_of_klt P),⋯,λi a b=>by congr 1;lia⟩))
   .rw[f_ G];exact wpS_pure ⟨0,rfl,r,u,y,grow _ (λ_=>rfl) (KeyOrd.kle_of_klt P),⋯,λi a b=>by congr 1;lia⟩
  |false =>
   dsimp only;rw[f_ (by simp)];refine wpS_bind (kR r h0 ⋯ ⋯ ?_)
   cases B:O.blt (kk C (arrOf f) (p+x-1)) (kk C (arrOf f) (p+x)) with
   |true =>
    dsimp only;rw[b_ rfl];exact wpS_pure (h x q f r u y L ⋯ hf H z)
   |false =>
    dsimp only;rw[f_ (by simp)];have M:kk C (arrOf f) (p+x)=kk C (arrOf f) (p+x-1):=KeyOrd.kle_antisymm B P;refine wpS_pure ⟨q+1,rfl,r,u,y,grow _ (λ_=>rfl) B,⋯,λi a b=>?_⟩;have e1:p+(x+1)-1=p+x:=by lia
    rw[e1];by_cases Z:i=p+x
    .subst Z;rfl
    .rw[M];exact z i ⋯ ⋯
 .rintro c f ⟨q,rfl,r,u,y,hf,H,z⟩;have e:max n l=l:=by lia
  rw[e]at hf H z ⊢;exact h l q f r u y W (il _) hf H z
def tz{p n f:Nat}{Q:UD->SortSt->Prop}(M:cH C a₀)(P:p+f<=a₀.size)(U:n+1<=f)(X:SB kd a₀ st)(hs:KQ C (arrOf st) p (p+(n+1)))(h:∀m a,SB kd a₀ a->cR p (arrOf st) (arrOf a)->pendingOf a=pendingOf st->1<=m->m<=f->ql C (arrOf a) p (p+m)->Q (J m) a):
  wpS (model prog w) A E s (IB p n f) Q st:=by
 refine wpS_bind (wpS_lift (wpAny_rule ⟨rfl,?_⟩));refine wpS_bind (EB M P ⋯ U X hs λm q a l z B al y hf hq W=>?_);dsimp only;have u:p+m<=(arrOf a).size:=by rw[l.size];lia
 by_cases F:q>0
 .rw[b_ F];refine wpS_bind (lp (vI M P ⋯ y (l.arr (mirror_perm _ _ _ _)) ?_ λR r G H L=>h R r G ((z.trans (f6 u ⋯)).trans H) (L.trans B)));intro i j hi S Z;rw[dM u W,dM u W];exact hf i j hi S Z
 .rw[f_ F];exact vI M P ⋯ y l hf λR r G H L=>h R r G (z.trans H) (L.trans B)
def u5(L:cH C a₀)(U:p+nrem<=a₀.size)(h1:1<=nrem)(r:SB kd a₀ st)(h:∀m f,SB kd a₀ f->cR p (arrOf st) (arrOf f)->pendingOf f=pendingOf st->1<=m->m<=nrem->ql C (arrOf f) p (p+m)->Q (J m) f):
  wpS (model prog w) A E s (countRun' p nrem) Q st:=by
 rw[IC];refine wpS_bind (u7 L U (il 1) h1 r (λi j M F X=>by have e:i=j:=⋯;subst e;exact KeyOrd.kle_refl _) λn a1 Z l S=>?_);by_cases y:n=nrem
 .rw[b_ (by simpa using y)];exact wpS_pure (h n st r cR.rfl' rfl a1 Z l)
 .rw[f_ (by simpa using y)];have G:=S.resolve_left y;by_cases B:n>1
  .rw[b_ B];refine wpS_bind (kR r L ⋯ ⋯ ?_)
   cases hz:O.blt (kk C (arrOf st) p) (kk C (arrOf st) (p+n-1)) with
   |true =>
    dsimp only;exact wpS_pure (h n st r cR.rfl' rfl a1 Z l)
   |false =>
    dsimp only;have z:p+n<=(arrOf st).size:=by rw[r.size];lia
    have a:∀q,p<=q->q<p+n->kk C (arrOf st) q=kk C (arrOf st) (p+n-1):=λq H P =>
     KeyOrd.kle_antisymm (l q (p+n-1) H ⋯ ⋯) (KeyOrd.kle_trans hz (l p q (il _) H P))
    refine wpS_bind (lp (tz L U ⋯ (r.arr (mirror_perm _ _ _ _)) ?_ λm2 W H P b3=>h m2 W H ((f6 z (il _)).trans P) b3));intro i j M F X;rw[dM z a,dM z a];by_cases R:j<p+n
    .rw[a i M ⋯,a j ⋯ R];exact KeyOrd.kle_refl _
    .have e:j=p+n:=by lia
     subst e;by_cases u:i=p+n
     .subst u;exact KeyOrd.kle_refl _
     .rw[a i M ⋯];exact KeyOrd.kle_of_klt G
  .rw[f_ B];have e:n=1:=by lia
   subst e;refine tz L U ⋯ r ?_ h;intro i j M F X;by_cases u:i=j
   .subst u;exact KeyOrd.kle_refl _
   .have e1:i=p:=by lia
    have e2:j=p+1:=by lia
    subst e1;subst e2;exact KeyOrd.kle_of_klt G
end
section
variable{prog:Program}{w:World}{A:Around}{E:UA}{s:Shared}{kd:SortKind}{O:KeyOrd}{C:vb prog w A E s kd O}{a₀:Array Keyed}{st:SortSt}
def SS{l m r k x:Nat}(a:l<=m)(b:m<r)(h:r-l<=k-x):m-l<=k-(x+1):=by rw[Qe];exact Li (oQ (Nat.sub_lt_sub_right a b) h)
def SU{l m r k x:Nat}(a:l<=m)(h:r-l<=k-x):r-(m+1)<=k-(x+1):=by rw[Qe,Qe];exact Nat.sub_le_sub_right (mu (Ox a r) h) 1
def SV{l r k:Nat}(a:l<=r)(h:r-l<=k-max 0 k):l=r:=Nat.le_antisymm a (Sw.1 (Nat.le_zero.1 (Nat.sub_eq_zero_of_le (Nat.le_max_right 0 k)▸h)))
def T6{l r:Nat}(h:¬l>=r):l<=(l+r)/2/\(l+r)/2<r:=by lia
def ID{l r:Nat}(h:¬l>=r):l<=l+(r-l)/2/\l+(r-l)/2<r:=by lia
def vg(h0:cH C a₀)(hn:p+n<=a₀.size)(hok:ok<=n)(hB:SB kd a₀ st)(hs:ql C (arrOf st) p (p+ok))(h:∀f,SB kd a₀ f->cR p (arrOf st) (arrOf f)->pendingOf f=pendingOf st->ql C (arrOf f) p (p+n)->Q I f):wpS (model prog w) A E s (binarySort' p n ok) Q st:=by
 rw[binarySort'_eq]
 refine wpS_bind (wpS_mono (wpS_forRange (I:=λk c f=>c=(Y,())/\SB kd a₀ f/\cR p (arrOf st) (arrOf f)/\pendingOf f=pendingOf st/\ql C (arrOf f) p (p+min k n))
  (Q:=λc f=>c=(Y,())/\SB kd a₀ f/\cR p (arrOf st) (arrOf f)/\pendingOf f=pendingOf st/\ql C (arrOf f) p (p+n)) ?_ ?_ ?_) ?_)
 .rintro k c f an ap ⟨rfl,z,G,L,y⟩;have ek:min k n=k:=by lia
  rw[ek]at y
  refine wpS_bind (wpS_mono (wpS_forRange (I:=λx c u=>u=f/\∃l r,c=(Y,l,r)/\l<=r/\r<=k/\r-l<=k-x /\
    (∀i,p<=i->i<p+l->O.kle (kk C (arrOf f) i) (kk C (arrOf f) (p+k)))/\∀i,p+r<=i->i<p+k->O.klt (kk C (arrOf f) (p+k)) (kk C (arrOf f) i))
   (Q:=λc u=>u=f/\∃l r,c=(Y,l,r)/\l<=k /\
    (∀i,p<=i->i<p+l->O.kle (kk C (arrOf f) i) (kk C (arrOf f) (p+k)))/\∀i,p+l<=i->i<p+k->O.klt (kk C (arrOf f) (p+k)) (kk C (arrOf f) i)) ?_ ?_ ?_) ?_)
  .rintro x c u _ hx ⟨rfl,l,r,rfl,R,H,U,F,B⟩;by_cases M:l>=r
   .rw[b_ M];have e:l=r:=by lia
    subst e;exact wpS_pure ⟨rfl,l,l,rfl,H,F,B⟩
   .rw[f_ M];have⟨X,Z⟩:=T6 M;have m3:=oQ Z H;dsimp only;generalize (l+r)/2=m at *;refine wpS_bind (kR z h0 ⋯ ⋯ ?_)
    cases hz:O.blt (kk C (arrOf u) (p+k)) (kk C (arrOf u) (p+m)) with
    |true =>
     simp only[if_true];exact wpS_pure ⟨rfl,l,m,rfl,X,vw m3,SS X Z U,F,λi a b=>KeyOrd.klt_of_klt_of_kle hz (y _ _ (KA ..) a b)⟩
    |false =>
     simp only[o0,if_false];exact wpS_pure ⟨rfl,m+1,r,rfl,Z,H,SU X U,λi a b=>KeyOrd.kle_trans (y i (p+m) a (FW b) (Oy m3 p)) hz,B⟩
  .rintro c u ⟨rfl,l,r,rfl,R,H,U,F,B⟩;have e:=SV R U;subst e;exact⟨rfl,l,l,rfl,H,F,B⟩
  .exact⟨rfl,0,k,rfl,⋯,⋯,⋯,λi a b=>by lia,λi a b=>by lia⟩
  .rintro c u ⟨rfl,l,r,rfl,al,F,B⟩;dsimp only;rw[moveDown'_eq];have P:p+k<(arrOf u).size:=by rw[z.size];lia
   have ed:p+k-(p+l)=k-l:=Nat.add_sub_add_left _ _ _;have W:k-l<=p+k:=mu (C_ _ _) (Nat.le_add_left _ _);have e2:p+k-(k-l)=p+l:=by rw[Nat.add_sub_assoc (C_ _ _),Lr al]
   rw[ed];refine wpS_bind (wpS_modify (wpS_pure ⟨rfl,z.arr (bubble_perm _ _ _),G.trans (uH P W (e2▸KA _ _)),L,?_⟩));have e1:min (k+1) n=k+1:=by lia
   rw[e1];intro i j hi S hj;show O.kle (kk C (bubble (arrOf u) (p+k) (k-l)) i) (kk C (bubble (arrOf u) (p+k) (k-l)) j);rw[qZ P W,qZ P W,e2]
   repeat' split
   all_goals first
    |(exfalso;lia)
    |exact KeyOrd.kle_refl _
    |exact F _ ⋯ ⋯
    |exact KeyOrd.kle_of_klt (B _ ⋯ ⋯)
    |exact y _ _ ⋯ ⋯ ⋯
 .rintro c f ⟨hc,z,G,L,y⟩;refine⟨hc,z,G,L,?_⟩;have e:min (max (max ok 1) n) n=n:=P7 (Nat.le_max_right ..)
  rwa [e]at y
 .refine⟨rfl,hB,cR.rfl',rfl,λi j hi S hj=>?_⟩;by_cases h1:ok=0
  .have e:i=j:=by lia
   subst e;exact KeyOrd.kle_refl _
  .exact hs i j hi S ⋯
 .rintro c f ⟨rfl,z,G,L,y⟩;exact wpS_pure (h f z G L y)
def gallop':Bool->Keyed->Array Keyed->Nat->Nat->Nat->StateT SortSt Sem (UD):=sortPriv% PySem.Builtin.gallop
def pV(left:Bool)(key:Keyed)(arr:Array Keyed)(base i:Nat):StateT SortSt Sem (Option Bool):=do
 let x <-elem' arr (base+i)
 if left then lt' x key else return (<-lt' key x).map (!·)
def xX(left:Bool)(key:Keyed)(arr:Array Keyed)(base n a:Nat):gallop' left key arr base n a=(do
  let mut la:=0
  let mut of:=1
  let mut lo:=0
  let mut hi:=0
  let J rt <-pV left key arr base a|return Y
  if rt then
   let f:=n-a
   for _ in [0:n] do
    if of>=f then break
    let J q <-pV left key arr base (a+of)|return Y
    if !q then break
    la:=of
    of:=2*of+1
   lo:=a+la+1
   hi:=a+min of f
  else
   let f:=a+1
   for _ in [0:n] do
    if of>=f then break
    let J q <-pV left key arr base (a-of)|return Y
    if q then break
    la:=of
    of:=2*of+1
   lo:=a+1-min of f
   hi:=a-la
  for _ in [0:n] do
   if lo>=hi then break
   let m:=lo+(hi-lo)/2
   let J q <-pV left key arr base m|return Y
   if q then lo:=m+1 else hi:=m
  return J hi):=rfl
def ij(C:vb prog w A E s kd O)(left:Bool)(key:Keyed)(arr:Array Keyed)(i:Nat):Bool:=if left then O.blt (kk C arr i) (C.key key)else !O.blt (C.key key) (kk C arr i)
def lQ(j:kindOf st=kd)(l:cH C arr)(a:C.good key)(r:base+i<arr.size)(h:Q (J (ij C left key arr (base+i))) st):wpS (model prog w) A E s (pV left key arr base i) Q st:=by
 refine wpS_bind (aR r λx f=>?_);unfold ij at h;rw[aP f]at h
 cases left with
 |true =>
  exact C.ask x key st Q (bD l f) a j h
 |false =>
  exact wpS_bind (C.ask key x st _ a (bD l f) j (wpS_pure h))
def MY(left:Bool)(key:Keyed)(arr:Array Keyed)(base n lo a:Nat):StateT SortSt Sem DS :=
 forIn [:n] ((Y,lo,a):DS) λ_ c =>
  if c.2.1>=c.2.2 then pure (ForInStep.done (Y,c.2.1,c.2.2))
  else do
   let q <-pV left key arr base (c.2.1+(c.2.2-c.2.1)/2)
   match q with
   |some q=>if q=I then pure (ForInStep.yield (Y,c.2.1+(c.2.2-c.2.1)/2+1,c.2.2))else pure (ForInStep.yield (Y,c.2.1,c.2.1+(c.2.2-c.2.1)/2))
   |_=>pure (ForInStep.done (J Y,c.2.1,c.2.2))
section
variable{left:Bool}{key:Keyed}{arr:Array Keyed}{base n:Nat}
def gT(u:base+n<=arr.size)(f:ql C arr base (base+n)):∀i j,i<=j->j<n->ij C left key arr (base+j)=I->ij C left key arr (base+i)=I:=by
 intro i j l r;have a:=f (base+i) (base+j) ⋯ ⋯ ⋯;unfold ij
 cases left with
 |true=>exact λq=>KeyOrd.klt_of_kle_of_klt a q
 |false =>
  simp only[o0,if_false,FX];exact λq=>KeyOrd.kle_trans a q
def jN(y:base+n<=arr.size)(u:ql C arr base (base+n)):∀i j,i<=j->j<n->ij C left key arr (base+i)=T->ij C left key arr (base+j)=T:=by
 intro i j f r l
 cases a:ij C left key arr (base+j) with
 |false=>rfl
 |true=>rw[gT y u i j f r a]at l;cases l
def sN{lo hi:Nat}{Q:DS->SortSt->Prop}(X:kindOf st=kd)(hg:cH C arr)(y:C.good key)(M:base+n<=arr.size)(U:ql C arr base (base+n))(P:lo<=hi)(L:hi<=n)(Z:∀i,i<lo->ij C left key arr (base+i)=I)(h2:∀i,hi<=i->i<n->ij C left key arr (base+i)=T)(h:∀k,k<=n->(∀i,i<k->ij C left key arr (base+i)=I)->(∀i,k<=i->i<n->ij C left key arr (base+i)=T)->Q (Y,k,k) st):
  wpS (model prog w) A E s (MY left key arr base n lo hi) Q st:=by
 refine wpS_forRange (I:=λx c u=>u=st/\∃l r,c=(Y,l,r)/\l<=r/\r<=n/\r-l<=n-x/\(∀i,i<l->ij C left key arr (base+i)=I)/\∀i,r<=i->i<n->ij C left key arr (base+i)=T)
  ?_ ?_ ⟨rfl,lo,hi,rfl,P,L,⋯,Z,h2⟩
 .rintro x c u _ hx ⟨rfl,l,r,rfl,z,f,B,F,G⟩;by_cases j:l>=r
  .rw[b_ j];have e:l=r:=by lia
   subst e;exact wpS_pure (h l f F G)
  .rw[f_ j];have⟨R,S⟩:=ID j;have H:=oQ S f;dsimp only;generalize l+(r-l)/2=m at *;refine wpS_bind (lQ X hg y (oQ (Oy H _) M) ?_)
   cases W:ij C left key arr (base+m) with
   |true =>
    simp only[if_true];exact wpS_pure ⟨rfl,_,_,rfl,S,f,SU R B,λi hi=>gT M U i m (FW hi) H W,G⟩
   |false =>
    simp only[o0,if_false];exact wpS_pure ⟨rfl,_,_,rfl,R,vw H,SS R S B,F,λi a b=>jN M U m i a b W⟩
 .rintro c u ⟨rfl,l,r,rfl,z,f,B,F,G⟩;have e:=SV z B;subst e;exact h l f F G
def O9{x of:Nat}(h:x+1<=of):of<2*of+1/\x+1+1<=2*of+1:=by lia
def SW{f of h n:Nat}(a:f<of)(b:h+f<n):h+f+1<=h+min of (n-h)/\h+min of (n-h)<=n :=
 ⟨Nat.add_le_add_left (Nat.le_min.2 ⟨a,Sy b⟩) h,mu (Nat.add_le_add_left (Nat.min_le_right ..) h) (Qf (FT (vw (Kw (KA ..) b))))⟩
def KR{f of h:Nat}(a:f<of)(b:f<=h):h+1-min of (h+1)<=h-f :=
 Nat.add_sub_add_right h 1 f▸Ox (Nat.le_min.2 ⟨a,GV b⟩) (h+1)
def dX{f:Nat}{Q:UD->SortSt->Prop}(P:kindOf st=kd)(U:cH C arr)(u:C.good key)(G:base+n<=arr.size)(W:f<n)(L:ql C arr base (base+n))(h:∀k,k<=n->(∀i,i<k->ij C left key arr (base+i)=I)->(∀i,k<=i->i<n->ij C left key arr (base+i)=T)->Q (J k) st):
  wpS (model prog w) A E s (gallop' left key arr base n f) Q st:=by
 rw[xX];refine wpS_bind (lQ P U u ⋯ ?_)
 cases hz:ij C left key arr (base+f) with
 |true =>
  refine wpS_bind (wpS_mono (wpS_forRange (I:=λx c l=>l=st/\∃j of,c=(Y,j,of)/\j<of/\x+1<=of/\f+j<n/\ij C left key arr (base+(f+j))=I)
   (Q:=λc l=>l=st/\∃j of,c=(Y,j,of)/\j<of/\f+j<n/\ij C left key arr (base+(f+j))=I/\(n-f<=of\/of<n-f/\ij C left key arr (base+(f+of))=T)) ?_ ?_
    ⟨rfl,0,1,rfl,⋯,⋯,W,hz⟩) ?_)
  .rintro x c l _ hx ⟨rfl,j,of,rfl,z,H,y,B⟩;dsimp only;by_cases r:of>=n-f
   .rw[b_ r];exact wpS_pure ⟨rfl,j,of,rfl,z,y,B,.inl r⟩
   .rw[f_ r];have S:=Nat.add_lt_of_lt_sub' (P8 r);have⟨o1,Z⟩:=O9 H;refine wpS_bind (lQ P U u (oQ (Oy S _) G) ?_)
    cases R:ij C left key arr (base+(f+of)) with
    |true =>
     simp only[Dm,o0,if_false];exact wpS_pure ⟨rfl,_,_,rfl,o1,Z,S,R⟩
    |false =>
     simp only[KG,if_true];exact wpS_pure ⟨rfl,j,of,rfl,z,y,B,.inr ⟨P8 r,R⟩⟩
  .rintro c l ⟨rfl,j,of,rfl,z,H,y,B⟩;exact⟨rfl,j,of,rfl,z,y,B,.inl (mu (C_ ..) (Kz H))⟩
  .rintro c l ⟨rfl,j,of,rfl,z,y,B,F⟩;dsimp only;refine wpS_bind (sN (lo:=f+j+1) (hi:=f+min of (n-f)) P U u G L (SW z y).1 (SW z y).2 (λi M=>gT G L i (f+j) (FW M) y B) (λi a b=>?_) λk a b c=>wpS_pure (h k a b c));rcases F with F|⟨F,X⟩
   .rw[P7 F]at a;lia
   .rw[KD (vw F)]at a;exact jN G L (f+of) i a b X
 |false =>
  simp only[o0,if_false]
  refine wpS_bind (wpS_mono (wpS_forRange (I:=λx c l=>l=st/\∃j of,c=(Y,j,of)/\j<of/\x+1<=of/\j<=f/\ij C left key arr (base+(f-j))=T)
   (Q:=λc l=>l=st/\∃j of,c=(Y,j,of)/\j<of/\j<=f/\ij C left key arr (base+(f-j))=T/\(f+1<=of\/of<f+1/\ij C left key arr (base+(f-of))=I)) ?_ ?_
    ⟨rfl,0,1,rfl,⋯,⋯,⋯,hz⟩) ?_)
  .rintro x c l _ hx ⟨rfl,j,of,rfl,z,H,y,B⟩;dsimp only;by_cases r:of>=f+1
   .rw[b_ r];exact wpS_pure ⟨rfl,j,of,rfl,z,y,B,.inl r⟩
   .rw[f_ r];have⟨o1,Z⟩:=O9 H;have S:=P8 r;refine wpS_bind (lQ P U u (oQ (Oy (Kw (C_ ..) W) _) G) ?_)
    cases R:ij C left key arr (base+(f-of)) with
    |true =>
     simp only[if_true];exact wpS_pure ⟨rfl,j,of,rfl,z,y,B,.inr ⟨S,R⟩⟩
    |false =>
     simp only[o0,if_false];exact wpS_pure ⟨rfl,_,_,rfl,o1,Z,FW S,R⟩
  .rintro c l ⟨rfl,j,of,rfl,z,H,y,B⟩;exact⟨rfl,j,of,rfl,z,y,B,.inl (mu (GV (vw W)) H)⟩
  .rintro c l ⟨rfl,j,of,rfl,z,y,B,F⟩;dsimp only;refine wpS_bind (sN (lo:=f+1-min of (f+1)) (hi:=f-j) P U u G L (KR z y) (mu (C_ ..) (vw W)) (λi M=>?_) (λi a b=>jN G L (f-j) i a b B) λk a b c=>wpS_pure (h k a b c));rcases F with F|⟨F,X⟩
   .rw[P7 F,Nat.sub_self]at M
    nomatch M
   .rw[KD (vw F),Nat.succ_sub (FW F)]at M;exact gT G L i (f-of) (FW M) (Kw (C_ ..) W) X
end
end
def mM:Array Keyed->Array Keyed->StateT SortSt Sem (Array Keyed):=sortPriv% PySem.Builtin.mergeLo
def EC:Nat->StateT SortSt Sem Unit:=sortPriv% PySem.Builtin.setMinGallop
section
variable{prog:Program}{w:World}{A:Around}{E:UA}{s:Shared}{kd:SortKind}{O:KeyOrd}(C:vb prog w A E s kd O)
def LS(l:List Keyed):Prop:=l.Pairwise λx y=>O.kle (C.key x) (C.key y)
def LB(l m:List Keyed):Prop:=∀x∈l,∀y∈m,O.kle (C.key x) (C.key y)
variable{C}
def ci(a:LS C l)(f:LS C m)(i:LB C l m):LS C (l++m):=by unfold LS;rw[PQ];exact⟨a,f,i⟩
def nV{xs:Array Keyed}{lo hi:Nat}(l:hi<=xs.size)(h:ql C xs lo hi):LS C (xs.extract lo hi).toList:=by
 unfold LS;rw[FP];intro i j f a y;have r:(xs.extract lo hi).size=hi-lo:=by simp;lia
 have u:j<(xs.extract lo hi).size:=by exact a
 have e1:(xs.extract lo hi).toList[i]=xs[lo+i]'⋯:=by simp
 have e2:(xs.extract lo hi).toList[j]=xs[lo+j]'⋯:=by simp
 rw[e1,e2]
 have:=h (lo+i) (lo+j) ⋯ ⋯ ⋯
 rw[aP (getElem?_pos xs (lo+i) ⋯),aP (getElem?_pos xs (lo+j) ⋯)]at this;exact this
def k5(h:LS C xs.toList):ql C xs 0 xs.size:=by
 intro i j _ f a;rw[aP (getElem?_pos xs i ⋯),aP (getElem?_pos xs j a)];by_cases e:i=j
 .subst e;exact KeyOrd.kle_refl _
 .unfold LS at h;rw[FP]at h
  have:=h i j (by simp;lia) (by simpa using a) ⋯
  simpa using this
structure MI(C:vb prog w A E s kd O)(a b ou:Array Keyed)(i j:Nat):Prop where
 perm:(ou.toList++(a.toList.drop i++b.toList.drop j)).Perm (a.toList++b.toList)
 srt:LS C ou.toList
 low:LB C ou.toList (a.toList.drop i++b.toList.drop j)
variable{a b ou:Array Keyed}{i j:Nat}
def MI.size(m:MI C a b ou i j)(l:i<=a.size)(f:j<=b.size):ou.size+(a.size-i)+(b.size-j)=a.size+b.size:=by
 have:=m.perm.length_eq
 simp at this;lia
def jE{xs:Array Keyed}{i:Nat}{p:Keyed}(h:xs[i]?=J p):xs.toList.drop i=p::xs.toList.drop (i+1):=by
 have f:i<xs.toList.length:=by
  have:=(La.mp h).1
  simpa using this
 have e:xs.toList[i]=p:=by
  have:=(La.mp h).2
  simpa using this
 rw[<-e,Sv f]
def jz{xs:Array Keyed}(h:LS C xs.toList)(i:Nat):LS C (xs.toList.drop i):=h.sublist (P4 i _)
def jw{xs:Array Keyed}(h:LS C xs.toList){i:Nat}{p:Keyed}(r:xs[i]?=J p):∀y∈xs.toList.drop i,O.kle (C.key p) (C.key y):=by
 have f:=jz h i;rw[jE r]at f ⊢;unfold LS at f;rw[GU]at f;intro y l;rcases k4.mp l with rfl|l
 .exact KeyOrd.kle_refl _
 .exact f.1 y l
def MI.pushA(m:MI C a b ou i j)(F:LS C a.toList)(H:LS C b.toList){p:Keyed}(B:a[i]?=J p)(G:∀q,b[j]?=J q->O.kle (C.key p) (C.key q)):MI C a b (ou.push p) (i+1) j:=by
 have hd:=jE B;have z:∀y∈a.toList.drop i++b.toList.drop j,O.kle (C.key p) (C.key y):=by
  intro y f;rcases lT.mp f with f|f
  .exact jw F B y f
  .cases r:b[j]? with
   |none =>
    have:b.toList.drop j=[]:=Lf (by have:=PJ.mp r;simpa using this)
    rw[this]at f;cases f
   |some q=>exact KeyOrd.kle_trans (G q r) (jw H r y f)
 refine⟨?_,?_,?_⟩
 .have:=m.perm
  rw[hd]at this;rw[Dh,CN];exact this
 .rw[Dh];refine ci m.srt (by unfold LS;simp) λx l y f=>?_
  have:y=p:=by simpa using f
  subst this;exact m.low x l y (xg _ (by rw[hd];exact wj))
 .intro x l y f;rw[Dh]at l;have u:y∈a.toList.drop i++b.toList.drop j:=by
   simp_all
  rcases lT.mp l with l|l
  .exact m.low x l y u
  .have:x=p:=by simpa using l
   subst this;exact z y u
def MI.pushB(m:MI C a b ou i j)(F:LS C a.toList)(H:LS C b.toList){p:Keyed}(B:b[j]?=J p)(G:∀q,a[i]?=J q->O.kle (C.key p) (C.key q)):MI C a b (ou.push p) i (j+1):=by
 have hd:=jE B;have z:∀y∈a.toList.drop i++b.toList.drop j,O.kle (C.key p) (C.key y):=by
  intro y f;rcases lT.mp f with f|f
  .cases r:a[i]? with
   |none =>
    have:a.toList.drop i=[]:=Lf (by have:=PJ.mp r;simpa using this)
    rw[this]at f;cases f
   |some q=>exact KeyOrd.kle_trans (G q r) (jw F r y f)
  .exact jw H B y f
 refine⟨?_,?_,?_⟩
 .have:=m.perm
  rw[hd]at this;rw[Dh,CN];refine List.Perm.trans (List.Perm.append_left _ ?_) this;show(p::(a.toList.drop i++b.toList.drop (j+1))).Perm _;exact Lq.symm
 .rw[Dh];refine ci m.srt (by unfold LS;simp) λx l y f=>?_
  have:y=p:=by simpa using f
  subst this;exact m.low x l y (o_ _ (by rw[hd];exact wj))
 .intro x l y f;rw[Dh]at l;have u:y∈a.toList.drop i++b.toList.drop j:=by
   rcases lT.mp f with f|f
   .exact xg _ f
   .exact o_ _ (by rw[hd];exact lb _ f)
  rcases lT.mp l with l|l
  .exact m.low x l y u
  .have:x=p:=by simpa using l
   subst this;exact z y u
def lh{xs:Array Keyed}{i k:Nat}{p:Keyed}(h:xs[i+k]?=J p):xs.extract i (i+(k+1))=(xs.extract i (i+k)).push p:=by
 apply FZ.mp;simp only[Ou,Dh,PL];have e1:i+(k+1)-i=k+1:=by lia
 have e2:i+k-i=k:=by lia
 rw[e1,e2,C9,Oz,w_,h];rfl
def MI.moveA(m:MI C a b ou i j)(F:LS C a.toList)(B:LS C b.toList):∀k,i+k<=a.size->(∀r p q,r<k->a[i+r]?=J p->b[j]?=J q->O.kle (C.key p) (C.key q))->MI C a b (ou++a.extract i (i+k)) (i+k) j:=by
 intro k
 induction k with
 |zero =>
  intro _ _;have e:ou++a.extract i (i+0)=ou:=by apply FZ.mp;simp
  rw[e];exact m
 |succ k z =>
  intro H u;have l:=getElem?_pos a (i+k) ⋯;have y:=(z ⋯ λr p q G=>u r p q ⋯).pushA F B l (λq f=>u k _ q ⋯ l f);have e:ou++(a.extract i (i+k)).push (a[i+k]'⋯)=(ou++a.extract i (i+k)).push (a[i+k]'⋯):=by simp
  rw[lh l,e];exact y
def MI.moveB(m:MI C a b ou i j)(F:LS C a.toList)(B:LS C b.toList):∀k,j+k<=b.size->(∀r p q,r<k->b[j+r]?=J p->a[i]?=J q->O.kle (C.key p) (C.key q))->MI C a b (ou++b.extract j (j+k)) i (j+k):=by
 intro k
 induction k with
 |zero =>
  intro _ _;have e:ou++b.extract j (j+0)=ou:=by apply FZ.mp;simp
  rw[e];exact m
 |succ k z =>
  intro H u;have l:=getElem?_pos b (j+k) ⋯;have y:=(z ⋯ λr p q G=>u r p q ⋯).pushB F B l (λq f=>u k _ q ⋯ l f);have e:ou++(b.extract j (j+k)).push (b[j+k]'⋯)=(ou++b.extract j (j+k)).push (b[j+k]'⋯):=by simp
  rw[lh l,e];exact y
def MR(C:vb prog w A E s kd O)(a b f:Array Keyed):Prop:=f.toList.Perm (a.toList++b.toList)/\LS C f.toList
def iM{xs:Array Keyed}{i:Nat}:(xs.extract i xs.size).toList=xs.toList.drop i:=by rw[Ou];exact Lc (by simp)
def MI.all(m:MI C a b ou i j)(l:LS C a.toList)(f:LS C b.toList)(h:a.size<=i\/b.size<=j):MR C a b (ou++a.extract i a.size++b.extract j b.size):=by
 have e:(ou++a.extract i a.size++b.extract j b.size).toList=ou.toList++(a.toList.drop i++b.toList.drop j):=by rw[GP,GP,iM,iM,CN]
 unfold MR;rw[e];refine⟨m.perm,ci m.srt ?_ m.low⟩;rcases h with h|h
 .have:a.toList.drop i=[]:=Lf (by simpa using h)
  rw[this];exact jz f j
 .have:b.toList.drop j=[]:=Lf (by simpa using h)
  rw[this,KC];exact jz l i
def MI.one(m:MI C a b ou i j)(F:LS C a.toList)(z:LS C b.toList)(h:i+1=a.size)(B:∀x q,x∈b.toList->a[i]?=J q->O.kle (C.key x) (C.key q)):MR C a b (ou++b.extract j b.size++a.extract i a.size):=by
 have e:(ou++b.extract j b.size++a.extract i a.size).toList=ou.toList++(b.toList.drop j++a.toList.drop i):=by rw[GP,GP,iM,iM,CN]
 unfold MR;rw[e];have u:=getElem?_pos a i ⋯;have hd:=jE u;have f:a.toList.drop (i+1)=[]:=Lf (by simp;lia);rw[f]at hd;refine⟨(List.Perm.append_left _ Sz).trans m.perm,ci m.srt (ci (jz z j) (jz F i) ?_) ?_⟩
 .intro x r y l;rw[hd]at l
  have:y=a[i]'⋯:=by simpa using l
  subst this;exact B x _ (Ov r) u
 .intro x r y l;exact m.low x r y (lT.mpr (lT.mp l).symm)
end
structure Eqv(st st':SortSt):Prop where
 kind:kindOf st'=kindOf st
 arr:arrOf st'=arrOf st
 pend:pendingOf st'=pendingOf st
 failed:failedOf st'=failedOf st
def Eqv.rfl'{st:SortSt}:Eqv st st:=⟨rfl,rfl,rfl,rfl⟩
def Eqv.trans{st a f:SortSt}(x:Eqv st a)(y:Eqv a f):Eqv st f:=⟨y.kind.trans x.kind,y.arr.trans x.arr,y.pend.trans x.pend,y.failed.trans x.failed⟩
abbrev GS:=Option (Array Keyed)×Array Keyed×Nat×Nat×Nat×Nat×Nat
def IE(a b f:Array Keyed)(i j g na nb:Nat):StateT SortSt Sem (ForInStep GS):=do
 let x <-elem' a i
 if(i+1+1==a.size)=I then pure (ForInStep.done (J (f.push x++b.extract j b.size++a.extract (i+1) a.size),f.push x,i+1,j,g,na,nb))
 else if(decide (na<7)&&decide (nb<7))=I then pure (ForInStep.done (Y,f.push x,i+1,j,g,na,nb))
 else pure (ForInStep.yield (Y,f.push x,i+1,j,g,na,nb))
def IF(a b f:Array Keyed)(i j g na nb:Nat):StateT SortSt Sem (ForInStep GS):=do
 let x <-elem' b j
 if(j+1==b.size)=I then pure (ForInStep.done (J (f.push x++a.extract i a.size++b.extract (j+1) b.size),f.push x,i,j+1,g,na,nb))
 else do
  let y <-elem' a i
  let q <-gallop' I y b (j+1) (b.size-(j+1)) 0
  match q with
  |some k =>
   if k>0 then
    if(j+1+k==b.size)=I then
     pure (ForInStep.done (J (f.push x++b.extract (j+1) (j+1+k)++a.extract i a.size++b.extract (j+1+k) b.size),f.push x++b.extract (j+1) (j+1+k),i,j+1+k,g,na,k))
    else IE a b (f.push x++b.extract (j+1) (j+1+k)) i (j+1+k) g na k
   else IE a b (f.push x) i (j+1) g na k
  |_=>pure (ForInStep.done (J (f.push x++a.extract i a.size++b.extract (j+1) b.size),f.push x,i,j+1,g,na,nb))
def ED(a b f:Array Keyed)(i j g na nb:Nat):StateT SortSt Sem (ForInStep GS):=do
 EC g
 let x <-elem' b j
 let q <-gallop' T x a i (a.size-i) 0
 match q with
 |some k =>
  if k>0 then
   if(i+k+1==a.size)=I then
    pure (ForInStep.done (J (f++a.extract i (i+k)++b.extract j b.size++a.extract (i+k) a.size),f++a.extract i (i+k),i+k,j,g,k,nb))
   else if(i+k==a.size)=I then
    pure (ForInStep.done (J (f++a.extract i (i+k)++a.extract (i+k) a.size++b.extract j b.size),f++a.extract i (i+k),i+k,j,g,k,nb))
   else IF a b (f++a.extract i (i+k)) (i+k) j g k nb
  else IF a b f i j g k nb
 |_=>pure (ForInStep.done (J (f++a.extract i a.size++b.extract j b.size),f,i,j,g,na,nb))
abbrev KU:=Option (Array Keyed)×Array Keyed×Nat×Nat×Nat×Nat
abbrev LCt:=Option (Array Keyed)×Array Keyed×Nat×Nat×Nat
def Q5(a b:Array Keyed)(g:Nat)(c:KU):StateT SortSt Sem (ForInStep KU):=do
 let x <-elem' b c.2.2.2.1
 let y <-elem' a c.2.2.1
 let q <-lt' x y
 match q with
 |some q =>
  if q=I then do
   let z <-elem' b c.2.2.2.1
   if(c.2.2.2.1+1==b.size)=I then pure (ForInStep.done (J (c.2.1.push z++a.extract c.2.2.1 a.size++b.extract (c.2.2.2.1+1) b.size),c.2.1.push z,c.2.2.1,c.2.2.2.1+1,0,c.2.2.2.2.2+1))
   else if c.2.2.2.2.2+1>=g then pure (ForInStep.done (Y,c.2.1.push z,c.2.2.1,c.2.2.2.1+1,0,c.2.2.2.2.2+1))
   else pure (ForInStep.yield (Y,c.2.1.push z,c.2.2.1,c.2.2.2.1+1,0,c.2.2.2.2.2+1))
  else do
   let z <-elem' a c.2.2.1
   if(c.2.2.1+1+1==a.size)=I then pure (ForInStep.done (J (c.2.1.push z++b.extract c.2.2.2.1 b.size++a.extract (c.2.2.1+1) a.size),c.2.1.push z,c.2.2.1+1,c.2.2.2.1,c.2.2.2.2.1+1,0))
   else if c.2.2.2.2.1+1>=g then pure (ForInStep.done (Y,c.2.1.push z,c.2.2.1+1,c.2.2.2.1,c.2.2.2.2.1+1,0))
   else pure (ForInStep.yield (Y,c.2.1.push z,c.2.2.1+1,c.2.2.2.1,c.2.2.2.2.1+1,0))
 |_=>pure (ForInStep.done (J (c.2.1++a.extract c.2.2.1 a.size++b.extract c.2.2.2.1 b.size),c.2.1,c.2.2.1,c.2.2.2.1,c.2.2.2.2.1,c.2.2.2.2.2))
def Q6(a b:Array Keyed)(c:GS):StateT SortSt Sem (ForInStep GS) :=
 if c.2.2.2.2.1>1 then ED a b c.2.1 c.2.2.1 c.2.2.2.1 (c.2.2.2.2.1-1) c.2.2.2.2.2.1 c.2.2.2.2.2.2
 else ED a b c.2.1 c.2.2.1 c.2.2.2.1 c.2.2.2.2.1 c.2.2.2.2.2.1 c.2.2.2.2.2.2
def SX(c:GS):StateT SortSt Sem (ForInStep LCt) :=
 match c.1 with
 |some r=>pure (ForInStep.done (J r,c.2.1,c.2.2.1,c.2.2.2.1,c.2.2.2.2.1))
 |none=>do
  EC (c.2.2.2.2.1+1)
  pure (ForInStep.yield (Y,c.2.1,c.2.2.1,c.2.2.2.1,c.2.2.2.2.1+1))
def SY(a b:Array Keyed)(g:Nat)(c:KU):StateT SortSt Sem (ForInStep LCt) :=
 match c.1 with
 |some r=>pure (ForInStep.done (J r,c.2.1,c.2.2.1,c.2.2.2.1,g))
 |none=>do
  liftM (rule "list.sort.gallop")
  let e <-forIn [:a.size+b.size] ((Y,c.2.1,c.2.2.1,c.2.2.2.1,g+1,c.2.2.2.2.1,c.2.2.2.2.2):GS) λ_ e=>Q6 a b e
  SX e
def S0(a b:Array Keyed)(c:LCt):StateT SortSt Sem (ForInStep LCt):=do
 let d <-forIn [:a.size+b.size] ((Y,c.2.1,c.2.2.1,c.2.2.2.1,0,0):KU) λ_ d=>Q5 a b c.2.2.2.2 d
 SY a b c.2.2.2.2 d
def S1(a b:Array Keyed)(x:Keyed):StateT SortSt Sem (Array Keyed):=do
 let g <-get
 let r <-forIn [:a.size+b.size] ((Y,#[x],0,1,gallopOf g):LCt) λ_ c=>S0 a b c
 match r.1 with
 |some r=>pure r
 |none=>liftM (unsupported "internal:list.sort.merge-bound":Sem (Array Keyed))
def Q7(a b:Array Keyed):mM a b=(do
 liftM (rule "list.sort.merge-lo")
 let x <-elem' b 0
 if(1==b.size)=I then pure (#[x]++a.extract 0 a.size++b.extract 1 b.size)
 else if(0+1==a.size)=I then pure (#[x]++b.extract 1 b.size++a.extract 0 a.size)
 else S1 a b x):=by
 refine congrArg (Bind.bind _) (funext λ_=>congrArg (Bind.bind _) (funext λx=>congrArg (λz=>ite _ _ (ite _ _ z)) ?_));have e:∀{α β:Type}{x y:StateT SortSt Sem α}{f h:α->StateT SortSt Sem β},x=y->(∀a,f a=h a)->(x >>= f)=(y >>= h):=λe f=>by rw[e,funext f]
 refine congrArg (Bind.bind _) (funext λg=>e (congrArg (forIn _ _) (funext λ_=>funext λc=>?_)) λ⟨r,_⟩=>by cases r<;>rfl);refine e rfl λd=>?_;obtain⟨i,j⟩:=d
 cases i with
 |some r=>rfl
 |none=>exact congrArg (Bind.bind _) (funext λ_=>e rfl λ⟨r,_⟩=>by cases r<;>rfl)
section
variable{prog:Program}{w:World}{A:Around}{E:UA}{s:Shared}{kd:SortKind}{O:KeyOrd}{C:vb prog w A E s kd O}{st:SortSt}{a b:Array Keyed}
structure Bh(C:vb prog w A E s kd O)(a b:Array Keyed):Prop where
 ga:cH C a
 gb:cH C b
 sa:LS C a.toList
 sb:LS C b.toList
 na:1<=a.size
 nb:1<=b.size
 fst:∀p q,b[0]?=J p->a[0]?=J q->O.kle (C.key p) (C.key q)
 lst:∀x q,x∈b.toList->a[a.size-1]?=J q->O.kle (C.key x) (C.key q)
def LI(C:vb prog w A E s kd O)(a b:Array Keyed)(N:Nat)(c:GS):Prop:=c.1=Y/\MI C a b c.2.1 c.2.2.1 c.2.2.2.1/\c.2.2.1+1<a.size/\c.2.2.2.1<b.size/\N<=c.2.1.size
def kX(C:vb prog w A E s kd O)(a b:Array Keyed)(N:Nat)(st:SortSt)(r:ForInStep GS)(f:SortSt):Prop:=Eqv st f/\match r with
 |.done c=>(∃x,c.1=J x/\MR C a b x)\/LI C a b N c
 |.yield c=>LI C a b N c
def v6(f:Bh C a b)(m:MI C a b ou i j)(M:i+1<a.size)(G:j<b.size)(hN:N<=ou.size)(u:∀p q,a[i]?=J p->b[j]?=J q->O.kle (C.key p) (C.key q)):
  wpS (model prog w) A E s (IE a b ou i j g na nb) (kX C a b N st) st:=by
 refine wpS_bind (aR ⋯ λx B=>?_);have z:=m.pushA f.sa f.sb B (λq r=>u x q B r);have H:(ou.push x).size=ou.size+1:=Dl ..;by_cases l:i+1+1=a.size
 .rw[b_ (by simpa using l)];exact wpS_pure ⟨Eqv.rfl',.inl ⟨_,rfl,z.one f.sa f.sb l λy q L r=>f.lst y q L (by rw[<-l];exact r)⟩⟩
 .rw[f_ (by simpa using l)];have F:LI C a b N (Y,ou.push x,i+1,j,g,na,nb):=⟨rfl,z,⋯,G,⋯⟩;split
  .exact wpS_pure ⟨Eqv.rfl',.inr F⟩
  .exact wpS_pure ⟨Eqv.rfl',F⟩
def wd(f:Bh C a b)(Z:kindOf st=kd)(m:MI C a b ou i j)(X:i+1<a.size)(hj:j<b.size)(hN:N<=ou.size)(Q:∀p q,b[j]?=J p->a[i]?=J q->O.kle (C.key p) (C.key q)):
  wpS (model prog w) A E s (IF a b ou i j g na nb) (kX C a b N st) st:=by
 refine wpS_bind (aR hj λx U=>?_);have P:=m.pushB f.sa f.sb U (λq u=>Q x q U u);have ap:(ou.push x).size=ou.size+1:=Dl ..;by_cases R:j+1=b.size
 .rw[b_ (by simpa using R)];exact wpS_pure ⟨Eqv.rfl',.inl ⟨_,rfl,P.all f.sa f.sb (.inr ⋯)⟩⟩
 .rw[f_ (by simpa using R)];refine wpS_bind (aR ⋯ λy H=>?_);refine wpS_bind (dX (C:=C) Z f.gb (bD f.ga H) ⋯ ⋯ ?_ λk al L G=>?_)
  .intro p q F M u;exact k5 f.sb p q (wl _) M ⋯
  .have B:∀r p q,r<k->b[j+1+r]?=J p->a[i]?=J q->O.kle (C.key p) (C.key q):=λr p q hr F u=>by
    have:=L r hr
    unfold ij at this;rw[aP F]at this;rw[H]at u;cases u;exact KeyOrd.kle_of_klt this
   have l:∀p q,a[i]?=J p->b[j+1+k]?=J q->O.kle (C.key p) (C.key q):=λp q F u=>by
    have an:=(La.mp u).1
    have:=G k (il _) ⋯
    unfold ij at this;rw[aP u]at this;rw[H]at F;cases F;exact this
   dsimp only;by_cases z:k>0
   .rw[b_ z];have W:=P.moveB f.sa f.sb k ⋯ B;by_cases S:j+1+k=b.size
    .rw[b_ (by simpa using S)];exact wpS_pure ⟨Eqv.rfl',.inl ⟨_,rfl,W.all f.sa f.sb (.inr ⋯)⟩⟩
    .rw[f_ (by simpa using S)];exact v6 f W X ⋯ (by rw[Lm];lia) l
   .rw[f_ z];have e:k=0:=by lia
    subst e;exact v6 f P X ⋯ ⋯ l
def wB(f:Bh C a b)(X:kindOf st=kd)(m:MI C a b ou i j)(hi:i+1<a.size)(L:j<b.size)(hN:N<=ou.size):
  wpS (model prog w) A E s (ED a b ou i j g na nb) (kX C a b N st) st:=by
 unfold ED;refine wpS_bind (wpS_modify ?_);have ev:Eqv st (SortSt.mk' (kindOf st) (arrOf st) (pendingOf st) g (failedOf st)):=⟨rfl,rfl,rfl,rfl⟩;refine wpS_mono (Q:=kX C a b N (SortSt.mk' (kindOf st) (arrOf st) (pendingOf st) g (failedOf st))) ?_ λr al h=>⟨ev.trans h.1,h.2⟩;have z:kindOf (SortSt.mk' (kindOf st) (arrOf st) (pendingOf st) g (failedOf st))=kd:=X;refine wpS_bind (aR L λx S=>?_);refine wpS_bind (dX (C:=C) z f.ga (bD f.gb S) ⋯ ⋯ ?_ λk an P M=>?_)
 .intro p q G R u;exact k5 f.sa p q (wl _) R ⋯
 .have F:∀r p q,r<k->a[i+r]?=J p->b[j]?=J q->O.kle (C.key p) (C.key q):=λr p q hr G u=>by
   have:=P r hr
   unfold ij at this;rw[aP G]at this;rw[S]at u;cases u;simp only[o0,if_false,FX]at this;exact this
  have l:∀p q,b[j]?=J p->a[i+k]?=J q->O.kle (C.key p) (C.key q):=λp q G u=>by
   have ap:=(La.mp u).1
   have:=M k (il _) ⋯
   unfold ij at this;rw[aP u]at this;rw[S]at G;cases G;simp only[o0,if_false,P0]at this;exact KeyOrd.kle_of_klt this
  dsimp only;by_cases B:k>0
  .rw[b_ B];have U:=m.moveA f.sa f.sb k ⋯ F;by_cases H:i+k+1=a.size
   .rw[b_ (by simpa using H)];exact wpS_pure ⟨Eqv.rfl',.inl ⟨_,rfl,U.one f.sa f.sb H λy q Z u=>f.lst y q Z (by rw[<-H];exact u)⟩⟩
   .rw[f_ (by simpa using H)];by_cases W:i+k=a.size
    .rw[b_ (by simpa using W)];exact wpS_pure ⟨Eqv.rfl',.inl ⟨_,rfl,U.all f.sa f.sb (.inl ⋯)⟩⟩
    .rw[f_ (by simpa using W)];exact wd f z U ⋯ L (by rw[Lm];lia) l
  .rw[f_ B];have e:k=0:=by lia
   subst e;exact wd f z m hi L hN l
def MZ(C:vb prog w A E s kd O)(a b:Array Keyed)(N:Nat)(c:KU):Prop:=c.1=Y/\MI C a b c.2.1 c.2.2.1 c.2.2.2.1/\c.2.2.1+1<a.size/\c.2.2.2.1<b.size/\N<=c.2.1.size
def Q8(C:vb prog w A E s kd O)(a b:Array Keyed)(N:Nat)(c:LCt):Prop:=c.1=Y/\MI C a b c.2.1 c.2.2.1 c.2.2.2.1/\c.2.2.1+1<a.size/\c.2.2.2.1<b.size/\N<=c.2.1.size
def Q9(C:vb prog w A E s kd O)(a b:Array Keyed)(N:Nat)(st:SortSt)(r:ForInStep KU)(f:SortSt):Prop:=match r with
 |.done c=>f=st/\((∃x,c.1=J x/\MR C a b x)\/MZ C a b N c)
 |.yield c=>f=st/\MZ C a b N c
def IG(C:vb prog w A E s kd O)(a b:Array Keyed)(N:Nat)(st:SortSt)(r:ForInStep LCt)(f:SortSt):Prop:=match r with
 |.done c=>Eqv st f/\∃x,c.1=J x/\MR C a b x
 |.yield c=>Eqv st f/\Q8 C a b N c
def IH(f:Bh C a b)(H:kindOf st=kd)(M:MI C a b ou' i' j')(F:i'+1<a.size)(r:j'<b.size)(hN:N<=ou'.size):
  wpS (model prog w) A E s (Q5 a b g (Y,ou',i',j',na,nb)) (Q9 C a b (N+1) st) st:=by
 unfold Q5;dsimp only;refine wpS_bind (aR r λp G=>wpS_bind (aR ⋯ λq B=>?_));refine wpS_bind (C.ask p q st _ (bD f.gb G) (bD f.ga B) H ?_)
 cases L:O.blt (C.key p) (C.key q) with
 |true =>
  dsimp only;refine wpS_bind (aR r λR i=>?_);rw[G]at i;cases i;have z:=M.pushB f.sa f.sb G (λP l=>by rw[B]at l;cases l;exact KeyOrd.kle_of_klt L);have j:(ou'.push p).size=ou'.size+1:=Dl ..;by_cases u:j'+1=b.size
  .rw[b_ (by simpa using u)];exact wpS_pure ⟨rfl,.inl ⟨_,rfl,z.all f.sa f.sb (.inr ⋯)⟩⟩
  .rw[f_ (by simpa using u)];split
   .exact wpS_pure ⟨rfl,.inr ⟨rfl,z,F,⋯,by rw[j];lia⟩⟩
   .exact wpS_pure ⟨rfl,rfl,z,F,⋯,by rw[j];lia⟩
 |false =>
  dsimp only;refine wpS_bind (aR ⋯ λP l=>?_);rw[B]at l;cases l;have z:=M.pushA f.sa f.sb B (λR i=>by rw[G]at i;cases i;exact L);have j:(ou'.push q).size=ou'.size+1:=Dl ..;by_cases u:i'+1+1=a.size
  .rw[b_ (by simpa using u)];exact wpS_pure ⟨rfl,.inl ⟨_,rfl,z.one f.sa f.sb u λy q Q B=>f.lst y q Q (by rw[<-u];exact B)⟩⟩
  .rw[f_ (by simpa using u)];split
   .exact wpS_pure ⟨rfl,.inr ⟨rfl,z,⋯,r,by rw[j];lia⟩⟩
   .exact wpS_pure ⟨rfl,rfl,z,⋯,r,by rw[j];lia⟩
def II(j:Eqv Er st)(f:(∃x,c.1=J x/\MR C a b x)\/LI C a b N c):wpS (model prog w) A E s (SX c) (IG C a b N Er) st:=by
 obtain⟨H,y,F,B,G,z,u⟩:=c;rcases f with⟨r,i,l⟩|⟨f,i⟩
 .cases i;exact wpS_pure ⟨j,r,rfl,l⟩
 .cases f;exact wpS_bind (wpS_modify (wpS_pure ⟨j.trans ⟨rfl,rfl,rfl,rfl⟩,rfl,i⟩))
def IJ(l:Bh C a b)(u:kindOf st=kd)(h:LI C a b N c):wpS (model prog w) A E s (Q6 a b c) (kX C a b N st) st:=by
 obtain⟨_,r,f,j,i⟩:=h;unfold Q6;split
 .exact wB l u r f j i
 .exact wB l u r f j i
def IK(u:Bh C a b)(G:kindOf st=kd)(B:Eqv Er st)(l:(∃x,c.1=J x/\MR C a b x)\/MZ C a b N c):wpS (model prog w) A E s (SY a b g c) (IG C a b N Er) st:=by
 obtain⟨W,P,S,R,na,nb⟩:=c;rcases l with⟨r,j,F⟩|⟨l,j⟩
 .cases j;exact wpS_pure ⟨B,r,rfl,F⟩
 .cases l;refine wpS_bind (wpS_lift (wpAny_rule ⟨rfl,?_⟩));refine wpS_bind (wpS_mono (wpS_forRange (I:=λy c i=>Eqv st i/\LI C a b N c) (Q:=λc i=>Eqv st i/\((∃x,c.1=J x/\MR C a b x)\/LI C a b N c)) ?_ ?_ ⟨Eqv.rfl',rfl,j⟩) ?_)
  .rintro y c i _ U ⟨f,M⟩;refine wpS_mono (IJ u (f.kind.trans G) M) λr L j=>?_
   cases r with
   |done H=>exact⟨f.trans j.1,j.2⟩
   |yield H=>exact⟨f.trans j.1,j.2⟩
  .rintro c i ⟨f,z⟩;exact⟨f,.inr z⟩
  .rintro c i ⟨f,l⟩;exact II (B.trans f) l
def IL(i:Bh C a b)(F:kindOf st=kd)(h:Q8 C a b N c):wpS (model prog w) A E s (S0 a b c) (IG C a b (N+1) st) st:=by
 obtain⟨B,M⟩:=h
 refine wpS_bind (wpS_mono (wpS_forRange (I:=λy c f=>f=st/\MZ C a b (N+y) c)
  (Q:=λc f=>f=st/\((∃x,c.1=J x/\MR C a b x)\/MZ C a b (N+1) c)) ?_ ?_ ⟨rfl,rfl,M⟩) ?_)
 .rintro y c f _ R ⟨rfl,H⟩;obtain⟨B,P,u,z,j⟩:=H;refine wpS_mono (IH i F P u z j) λr L l=>?_
  cases r with
  |done G=>exact⟨l.1,l.2.imp_right λh=>⟨h.1,h.2.1,h.2.2.1,h.2.2.2.1,mu ⋯ h.2.2.2.2⟩⟩
  |yield G=>exact l
 .rintro c f ⟨rfl,h⟩;exact⟨rfl,.inr ⟨h.1,h.2.1,h.2.2.1,h.2.2.2.1,mu ⋯ h.2.2.2.2⟩⟩
 .rintro c f ⟨rfl,B⟩;exact IK i F Eqv.rfl' B
def IM(u:Bh C a b)(B:kindOf st=kd)(y:MI C a b #[x0] 0 1)(H:0+1<a.size)(L:1<b.size)(h:∀x f,Eqv st f->MR C a b x->Q x f):wpS (model prog w) A E s (S1 a b x0) Q st:=by
 refine wpS_bind (wpS_get ?_)
 refine wpS_bind (wpS_mono (wpS_forRange (I:=λx c f=>Eqv st f/\Q8 C a b (x+1) c)
  (Q:=λc f=>Eqv st f/\∃x,c.1=J x/\MR C a b x) ?_ ?_ ⟨Eqv.rfl',rfl,y,H,L,il _⟩) ?_)
 .rintro x c f _ P ⟨l,i⟩;refine wpS_mono (IL u (l.kind.trans B) i) λr G j=>?_
  cases r with
  |done F=>exact⟨l.trans j.1,j.2⟩
  |yield F=>exact⟨l.trans j.1,j.2⟩
 .rintro c f ⟨l,i⟩;exfalso;have y:=i.2.2.1;have M:=i.2.2.2.1
  have:=i.2.1.size ⋯ ⋯
  have:=i.2.2.2.2
  lia
 .rintro c f ⟨l,r,j,z⟩;obtain⟨S,R⟩:=c;cases j;exact wpS_pure (h r f l z)
def IN(f:Bh C a b)(G:kindOf st=kd)(h:∀x j,Eqv st j->MR C a b x->Q x j):wpS (model prog w) A E s (mM a b) Q st:=by
 rw[Q7];refine wpS_bind (wpS_lift (wpAny_rule ⟨rfl,?_⟩));have F:=f.na;have P:=f.nb;refine wpS_bind (aR ⋯ λB i=>?_);have H:MI C a b #[] 0 0:=⟨by simp,by unfold LS;simp,λx L=>by simp at L⟩;have u:MI C a b #[B] 0 1:=by
  have:=H.pushB f.sa f.sb i (λq r=>f.fst B q i r)
  simpa using this
 by_cases z:1=b.size
 .rw[b_ (by simpa using z)]
  have:=u.all f.sa f.sb (.inr ⋯)
  exact wpS_pure (h _ st Eqv.rfl' (by simpa using this))
 .rw[f_ (by simpa using z)];by_cases l:0+1=a.size
  .rw[b_ (by simpa using l)]
   have:=u.one f.sa f.sb l λy q M r=>f.lst y q M (by rw[<-l];exact r)
   exact wpS_pure (h _ st Eqv.rfl' (by simpa using this))
  .rw[f_ (by simpa using l)];exact IM f G u ⋯ ⋯ h
end
def B5{m k:Nat}(a:1<=m)(b:m<=k):m-1<k:=oQ (F2 a G0) b
def Ap{m k:Nat}(h:k<m):m-k=m-(k+1)+1:=(Nat.succ_pred_eq_of_pos (Nat.sub_pos_of_lt h)).symm
def O_{m k s:Nat}(h:k<m)(b:m<=s):m-(k+1)<s:=oQ (F2 (Nat.zero_lt_of_lt h) (Nat.succ_pos k)) b
def m4:Array Keyed->Array Keyed->StateT SortSt Sem (Array Keyed):=sortPriv% PySem.Builtin.mergeHi
section
variable{prog:Program}{w:World}{A:Around}{E:UA}{s:Shared}{kd:SortKind}{O:KeyOrd}{C:vb prog w A E s kd O}{a b ou:Array Keyed}{m n:Nat}{st:SortSt}
structure HI(C:vb prog w A E s kd O)(a b ou:Array Keyed)(m n:Nat):Prop where
 perm:(a.toList.take m++b.toList.take n++ou.toList.reverse).Perm (a.toList++b.toList)
 srt:LS C ou.toList.reverse
 hgh:LB C (a.toList.take m++b.toList.take n) ou.toList.reverse
def HI.size(h:HI C a b ou m n)(f:m<=a.size)(i:n<=b.size):ou.size+m+n=a.size+b.size:=by
 have:=h.perm.length_eq
 simp at this;lia
def lH{xs:Array Keyed}{i:Nat}{p:Keyed}(h:xs[i]?=J p):xs.toList.take (i+1)=xs.toList.take i++[p]:=by rw[C9,w_,h];rfl
def jC{xs:Array Keyed}(h:LS C xs.toList)(i:Nat):LS C (xs.toList.take i):=h.sublist (List.take_sublist i _)
def lw{xs:Array Keyed}(h:LS C xs.toList){i:Nat}{p:Keyed}(l:xs[i]?=J p):∀y∈xs.toList.take (i+1),O.kle (C.key y) (C.key p):=by
 have j:=jC h (i+1);rw[lH l]at j ⊢;unfold LS at j;rw[PQ]at j;intro y f;rcases lT.mp f with f|f
 .exact j.2.2 y f p (by simp)
 .have:y=p:=by simpa using f
  subst this;exact KeyOrd.kle_refl _
def iC(p:Keyed):(ou.push p).toList.reverse=p::ou.toList.reverse:=by simp
def HI.pushA(h:HI C a b ou (m+1) n)(B:LS C a.toList)(G:LS C b.toList){p:Keyed}(u:a[m]?=J p)(z:1<=n)(l:n<=b.size)(F:∀q,b[n-1]?=J q->O.kle (C.key q) (C.key p)):HI C a b (ou.push p) m n:=by
 have hd:=lH u;obtain⟨q,j⟩:∃q,b[n-1]?=J q:=⟨_,getElem?_pos b (n-1) (B5 z l)⟩;have r:∀y∈a.toList.take m++b.toList.take n,O.kle (C.key y) (C.key p):=by
  intro y f;rcases lT.mp f with f|f
  .exact lw B u y (by rw[hd];exact xg _ f)
  .refine KeyOrd.kle_trans (lw G j y ?_) (F q j);rw[GR z];exact f
 refine⟨?_,?_,?_⟩
 .have:=h.perm
  rw[hd]at this;rw[iC];refine List.Perm.trans ?_ this;have e1:(a.toList.take m++b.toList.take n++p::ou.toList.reverse).Perm (p::(a.toList.take m++b.toList.take n++ou.toList.reverse)):=Lq;have e2:(a.toList.take m++[p]++b.toList.take n++ou.toList.reverse).Perm (p::(a.toList.take m++b.toList.take n++ou.toList.reverse)):=by simp_all
  exact e1.trans e2.symm
 .rw[iC];unfold LS;rw[GU];refine⟨λy f=>h.hgh p (xg _ (by rw[hd];simp)) y f,h.srt⟩
 .rw[iC];intro x i y f;rcases k4.mp f with rfl|f
  .exact r x i
  .refine h.hgh x ?_ y f;rcases lT.mp i with i|i
   .exact xg _ (by rw[hd];exact xg _ i)
   .exact o_ _ i
def HI.pushB(h:HI C a b ou m (n+1))(B:LS C a.toList)(G:LS C b.toList){p:Keyed}(z:b[n]?=J p)(u:1<=m)(l:m<=a.size)(F:∀q,a[m-1]?=J q->O.kle (C.key q) (C.key p)):HI C a b (ou.push p) m n:=by
 have hd:=lH z;obtain⟨q,j⟩:∃q,a[m-1]?=J q:=⟨_,getElem?_pos a (m-1) (B5 u l)⟩;have r:∀y∈a.toList.take m++b.toList.take n,O.kle (C.key y) (C.key p):=by
  intro y f;rcases lT.mp f with f|f
  .refine KeyOrd.kle_trans (lw B j y ?_) (F q j);rw[GR u];exact f
  .exact lw G z y (by rw[hd];exact xg _ f)
 refine⟨?_,?_,?_⟩
 .have:=h.perm
  simp_all
 .rw[iC];unfold LS;rw[GU];refine⟨λy f=>h.hgh p (o_ _ (by rw[hd];simp)) y f,h.srt⟩
 .rw[iC];intro x i y f;rcases k4.mp f with rfl|f
  .exact r x i
  .refine h.hgh x ?_ y f;rcases lT.mp i with i|i
   .exact xg _ i
   .exact o_ _ (by rw[hd];exact xg _ i)
def tZ{xs:Array Keyed}{m k:Nat}{p:Keyed}(f:k<m)(i:m<=xs.size)(h:xs[m-(k+1)]?=J p):ou++(xs.extract (m-(k+1)) m).reverse=(ou++(xs.extract (m-k) m).reverse).push p:=by apply FZ.mp;simp only[GP,Array.toList_reverse,Dh,Ou,PL];rw[Lr f,Lr (vw f),jE h,<-Ap f];simp
def HI.moveA(h:HI C a b ou m n)(H:LS C a.toList)(M:LS C b.toList)(B:m<=a.size)(G:1<=n)(j:n<=b.size):∀k,k<=m->(∀r p q,m-k<=r->r<m->a[r]?=J p->b[n-1]?=J q->O.kle (C.key q) (C.key p)) ->
  HI C a b (ou++(a.extract (m-k) m).reverse) (m-k) n:=by
 intro k
 induction k with
 |zero =>
  intro _ _;have e:ou++(a.extract (m-0) m).reverse=ou:=by apply FZ.mp;simp
  rw[e];exact h
 |succ k L =>
  intro f F;have i:=getElem?_pos a (m-(k+1)) (O_ f B);have y:=L (vw f) λr p q l=>F r p q (mu (Ox (KH k) _) l);have e:=Ap f;rw[tZ f B i];rw[e]at y;have z:=y.pushA H M i G j (λq u=>F _ _ q (il _) (O_ f (il _)) i u);rw[<-e]at z;exact z
def HI.moveB(h:HI C a b ou m n)(H:LS C a.toList)(M:LS C b.toList)(B:n<=b.size)(G:1<=m)(i:m<=a.size):∀k,k<=n->(∀r p q,n-k<=r->r<n->b[r]?=J p->a[m-1]?=J q->O.kle (C.key q) (C.key p)) ->
  HI C a b (ou++(b.extract (n-k) n).reverse) m (n-k):=by
 intro k
 induction k with
 |zero =>
  intro _ _;have e:ou++(b.extract (n-0) n).reverse=ou:=by apply FZ.mp;simp
  rw[e];exact h
 |succ k L =>
  intro f F;have j:=getElem?_pos b (n-(k+1)) (O_ f B);have y:=L (vw f) λr p q l=>F r p q (mu (Ox (KH k) _) l);have e:=Ap f;rw[tZ f B j];rw[e]at y;have z:=y.pushB H M j G i (λq u=>F _ _ q (il _) (O_ f (il _)) j u);rw[<-e]at z;exact z
def nc{xs:Array Keyed}{i:Nat}:(xs.extract 0 i).toList=xs.toList.take i:=by rw[Ou,PL];simp
def HI.all(h:HI C a b ou m n)(j:LS C a.toList)(f:LS C b.toList)(i:m=0\/n=0):MR C a b (a.extract 0 m++b.extract 0 n++ou.reverse):=by
 have e:(a.extract 0 m++b.extract 0 n++ou.reverse).toList=a.toList.take m++b.toList.take n++ou.toList.reverse:=by simp_all
 unfold MR;rw[e];refine⟨h.perm,ci ?_ h.srt h.hgh⟩;rcases i with rfl|rfl
 .simpa using jC f n
 .simpa using jC j m
def HI.one(h:HI C a b ou m n)(f:Bh C a b)(F:n=1):MR C a b (b.extract 0 n++a.extract 0 m++ou.reverse):=by
 subst F;have e:(b.extract 0 1++a.extract 0 m++ou.reverse).toList=b.toList.take 1++a.toList.take m++ou.toList.reverse:=by rw[GP,GP,nc,nc,Array.toList_reverse]
 unfold MR;rw[e];have B:=f.nb;have z:=f.na;have u:=getElem?_pos b 0 ⋯;have r:=getElem?_pos a 0 ⋯;have hd:=lH u;refine⟨(List.Perm.append_right _ Sz).trans h.perm,ci (ci (jC f.sb 1) (jC f.sa m) ?_) h.srt ?_⟩
 .intro x j y l;have i:x=b[0]'⋯:=by
   have:=j
   rw[hd]at this;simpa using this
  subst i;refine KeyOrd.kle_trans (f.fst _ _ u r) (jw f.sa r y ?_);exact List.mem_of_mem_take l
 .intro x j y l;exact h.hgh x (lT.mpr (lT.mp j).symm) y l
end
abbrev HS:=Option (Array Keyed)×Nat×Nat×Array Keyed×Nat×Nat×Nat
def IQ(a b i:Array Keyed)(m n g f j:Nat):StateT SortSt Sem (ForInStep HS):=do
 let x <-elem' a (m-1)
 if(m-1==0)=I then pure (ForInStep.done (J (a.extract 0 (m-1)++b.extract 0 n++(i.push x).reverse),m-1,n,i.push x,g,f,j))
 else if(decide (f<7)&&decide (j<7))=I then pure (ForInStep.done (Y,m-1,n,i.push x,g,f,j))
 else pure (ForInStep.yield (Y,m-1,n,i.push x,g,f,j))
def IR(a b f:Array Keyed)(m n g i j:Nat):StateT SortSt Sem (ForInStep HS):=do
 let x <-elem' b (n-1)
 if(n-1==1)=I then pure (ForInStep.done (J (b.extract 0 (n-1)++a.extract 0 m++(f.push x).reverse),m,n-1,f.push x,g,i,j))
 else do
  let y <-elem' a (m-1)
  let q <-gallop' I y b 0 (n-1) (n-1-1)
  match q with
  |some z =>
   if n-1-z>0 then
    if(z==1)=I then
     pure (ForInStep.done (J (b.extract 0 z++a.extract 0 m++(f.push x++(b.extract z (n-1)).reverse).reverse),m,z,f.push x++(b.extract z (n-1)).reverse,g,i,n-1-z))
    else if(z==0)=I then
     pure (ForInStep.done (J (a.extract 0 m++b.extract 0 z++(f.push x++(b.extract z (n-1)).reverse).reverse),m,z,f.push x++(b.extract z (n-1)).reverse,g,i,n-1-z))
    else IQ a b (f.push x++(b.extract z (n-1)).reverse) m z g i (n-1-z)
   else IQ a b (f.push x) m (n-1) g i (n-1-z)
  |_=>pure (ForInStep.done (J (a.extract 0 m++b.extract 0 (n-1)++(f.push x).reverse),m,n-1,f.push x,g,i,j))
def EF(a b f:Array Keyed)(m n g j i:Nat):StateT SortSt Sem (ForInStep HS):=do
 EC g
 let x <-elem' b (n-1)
 let q <-gallop' T x a 0 m (m-1)
 match q with
 |some z =>
  if m-z>0 then
   if(z==0)=I then
    pure (ForInStep.done (J (a.extract 0 z++b.extract 0 n++(f++(a.extract z m).reverse).reverse),z,n,f++(a.extract z m).reverse,g,m-z,i))
   else IR a b (f++(a.extract z m).reverse) z n g (m-z) i
  else IR a b f m n g (m-z) i
 |_=>pure (ForInStep.done (J (a.extract 0 m++b.extract 0 n++f.reverse),m,n,f,g,j,i))
abbrev HB:=Option (Array Keyed)×Nat×Nat×Array Keyed×Nat×Nat
abbrev HC:=Option (Array Keyed)×Nat×Nat×Array Keyed×Nat
def Q_(a b:Array Keyed)(g:Nat)(c:HB):StateT SortSt Sem (ForInStep HB):=do
 let x <-elem' b (c.2.2.1-1)
 let y <-elem' a (c.2.1-1)
 let q <-lt' x y
 match q with
 |some q =>
  if q=I then do
   let z <-elem' a (c.2.1-1)
   if(c.2.1-1==0)=I then pure (ForInStep.done (J (a.extract 0 (c.2.1-1)++b.extract 0 c.2.2.1++(c.2.2.2.1.push z).reverse),c.2.1-1,c.2.2.1,c.2.2.2.1.push z,c.2.2.2.2.1+1,0))
   else if c.2.2.2.2.1+1>=g then pure (ForInStep.done (Y,c.2.1-1,c.2.2.1,c.2.2.2.1.push z,c.2.2.2.2.1+1,0))
   else pure (ForInStep.yield (Y,c.2.1-1,c.2.2.1,c.2.2.2.1.push z,c.2.2.2.2.1+1,0))
  else do
   let z <-elem' b (c.2.2.1-1)
   if(c.2.2.1-1==1)=I then pure (ForInStep.done (J (b.extract 0 (c.2.2.1-1)++a.extract 0 c.2.1++(c.2.2.2.1.push z).reverse),c.2.1,c.2.2.1-1,c.2.2.2.1.push z,0,c.2.2.2.2.2+1))
   else if c.2.2.2.2.2+1>=g then pure (ForInStep.done (Y,c.2.1,c.2.2.1-1,c.2.2.2.1.push z,0,c.2.2.2.2.2+1))
   else pure (ForInStep.yield (Y,c.2.1,c.2.2.1-1,c.2.2.2.1.push z,0,c.2.2.2.2.2+1))
 |_=>pure (ForInStep.done (J (a.extract 0 c.2.1++b.extract 0 c.2.2.1++c.2.2.2.1.reverse),c.2.1,c.2.2.1,c.2.2.2.1,c.2.2.2.2.1,c.2.2.2.2.2))
def Ra(a b:Array Keyed)(c:HS):StateT SortSt Sem (ForInStep HS) :=
 if c.2.2.2.2.1>1 then EF a b c.2.2.2.1 c.2.1 c.2.2.1 (c.2.2.2.2.1-1) c.2.2.2.2.2.1 c.2.2.2.2.2.2
 else EF a b c.2.2.2.1 c.2.1 c.2.2.1 c.2.2.2.2.1 c.2.2.2.2.2.1 c.2.2.2.2.2.2
def S2(c:HS):StateT SortSt Sem (ForInStep HC) :=
 match c.1 with
 |some r=>pure (ForInStep.done (J r,c.2.1,c.2.2.1,c.2.2.2.1,c.2.2.2.2.1))
 |none=>do
  EC (c.2.2.2.2.1+1)
  pure (ForInStep.yield (Y,c.2.1,c.2.2.1,c.2.2.2.1,c.2.2.2.2.1+1))
def S3(a b:Array Keyed)(g:Nat)(c:HB):StateT SortSt Sem (ForInStep HC) :=
 match c.1 with
 |some r=>pure (ForInStep.done (J r,c.2.1,c.2.2.1,c.2.2.2.1,g))
 |none=>do
  liftM (rule "list.sort.gallop")
  let e <-forIn [:a.size+b.size] ((Y,c.2.1,c.2.2.1,c.2.2.2.1,g+1,c.2.2.2.2.1,c.2.2.2.2.2):HS) λ_ e=>Ra a b e
  S2 e
def S4(a b:Array Keyed)(c:HC):StateT SortSt Sem (ForInStep HC):=do
 let d <-forIn [:a.size+b.size] ((Y,c.2.1,c.2.2.1,c.2.2.2.1,0,0):HB) λ_ d=>Q_ a b c.2.2.2.2 d
 S3 a b c.2.2.2.2 d
def S5(a b:Array Keyed)(x:Keyed):StateT SortSt Sem (Array Keyed):=do
 let g <-get
 let r <-forIn [:a.size+b.size] ((Y,a.size-1,b.size,#[x],gallopOf g):HC) λ_ c=>S4 a b c
 match r.1 with
 |some r=>pure r
 |none=>liftM (unsupported "internal:list.sort.merge-bound":Sem (Array Keyed))
def Rb(a b:Array Keyed):m4 a b=(do
 liftM (rule "list.sort.merge-hi")
 let x <-elem' a (a.size-1)
 if(a.size-1==0)=I then pure (a.extract 0 (a.size-1)++b.extract++#[x].reverse)
 else if(b.size==1)=I then pure (b.extract++a.extract 0 (a.size-1)++#[x].reverse)
 else S5 a b x):=by
 refine congrArg (Bind.bind _) (funext λ_=>congrArg (Bind.bind _) (funext λx=>congrArg (λz=>ite _ _ (ite _ _ z)) ?_));have e:∀{α β:Type}{x y:StateT SortSt Sem α}{f h:α->StateT SortSt Sem β},x=y->(∀a,f a=h a)->(x >>= f)=(y >>= h):=λe f=>by rw[e,funext f]
 refine congrArg (Bind.bind _) (funext λg=>e (congrArg (forIn _ _) (funext λ_=>funext λc=>?_)) λ⟨r,_⟩=>by cases r<;>rfl);refine e rfl λd=>?_;obtain⟨i,j⟩:=d
 cases i with
 |some r=>rfl
 |none=>exact congrArg (Bind.bind _) (funext λ_=>e rfl λ⟨r,_⟩=>by cases r<;>rfl)
section
variable{prog:Program}{w:World}{A:Around}{E:UA}{s:Shared}{kd:SortKind}{O:KeyOrd}{C:vb prog w A E s kd O}{st:SortSt}{a b:Array Keyed}
def IS(C:vb prog w A E s kd O)(a b:Array Keyed)(N:Nat)(c:HS):Prop :=
 c.1=Y/\HI C a b c.2.2.2.1 c.2.1 c.2.2.1/\1<=c.2.1/\c.2.1<=a.size/\2<=c.2.2.1/\c.2.2.1<=b.size/\N<=c.2.2.2.1.size
def nU(C:vb prog w A E s kd O)(a b:Array Keyed)(N:Nat)(st:SortSt)(r:ForInStep HS)(f:SortSt):Prop:=Eqv st f/\match r with
 |.done c=>(∃x,c.1=J x/\MR C a b x)\/IS C a b N c
 |.yield c=>IS C a b N c
def v5(f:Bh C a b)(h:HI C a b ou m n)(r:1<=m)(i:m<=a.size)(B:2<=n)(j:n<=b.size)(hN:N<=ou.size)(u:∀p q,b[n-1]?=J p->a[m-1]?=J q->O.kle (C.key p) (C.key q)):wpS (model prog w) A E s (IQ a b ou m n g ca cb) (nU C a b N st) st:=by
 refine wpS_bind (aR (B5 r i) λx F=>?_);have e:=(GR r).symm;have z:HI C a b (ou.push x) (m-1) n:=by have H:=h;rw[e]at H;exact H.pushA f.sa f.sb F (Kz B) j (λq L=>u q x L F)
 have y:(ou.push x).size=ou.size+1:=Dl ..;by_cases l:m-1=0
 .rw[b_ (by simpa using l)];exact wpS_pure ⟨Eqv.rfl',.inl ⟨_,rfl,z.all f.sa f.sb (.inl l)⟩⟩
 .rw[f_ (by simpa using l)];have G:IS C a b N (Y,m-1,n,ou.push x,g,ca,cb):=⟨rfl,z,Lj l,vw (B5 r i),B,j,y▸P5 hN⟩;split
  .exact wpS_pure ⟨Eqv.rfl',.inr G⟩
  .exact wpS_pure ⟨Eqv.rfl',G⟩
def vP(f:Bh C a b)(hk:kindOf st=kd)(h:HI C a b ou m n)(M:1<=m)(j:m<=a.size)(hn:2<=n)(ap:n<=b.size)(hN:N<=ou.size)(as:∀p q,a[m-1]?=J p->b[n-1]?=J q->O.kle (C.key p) (C.key q)):wpS (model prog w) A E s (IR a b ou m n g ca cb) (nU C a b N st) st:=by
 have P:=Kz hn;have H:=B5 P ap;refine wpS_bind (aR H λx hx=>?_);have e:=(GR P).symm;have W:HI C a b (ou.push x) m (n-1):=by have h':=h;rw[e]at h';exact h'.pushB f.sa f.sb hx M j (λq i=>as q x i hx)
 have ax:(ou.push x).size=ou.size+1:=Dl ..;by_cases X:n-1=1
 .rw[b_ (by simpa using X)];exact wpS_pure ⟨Eqv.rfl',.inl ⟨_,rfl,W.one f X⟩⟩
 .rw[f_ (by simpa using X)];refine wpS_bind (aR (B5 M j) λy Z=>?_);refine wpS_bind (dX (C:=C) hk f.gb (bD f.ga Z) ⋯ (F2 (Li hn) G0) ?_ λz hz al U=>?_)
  .intro p q u an i;exact k5 f.sb p q (wl _) an ⋯
  .have l:∀r p q,r<z->b[r]?=J p->a[m-1]?=J q->O.kle (C.key p) (C.key q):=λr p q hr u i=>by
    have:=al r hr
    unfold ij at this;rw[pu,aP u]at this;rw[Z]at i;cases i;exact KeyOrd.kle_of_klt this
   have L:∀r p q,z<=r->r<n-1->b[r]?=J p->a[m-1]?=J q->O.kle (C.key q) (C.key p):=λr p q G F u i=>by
    have:=U r G F
    unfold ij at this;rw[pu,aP u]at this;rw[Z]at i;cases i;exact this
   dsimp only;by_cases B:n-1-z>0
   .rw[b_ B];have ez:=Lr hz;have Q:=W.moveB f.sa f.sb (vw H) M j (n-1-z) (C_ ..) (λr p q G F=>L r p q (ez▸G) F);rw[ez]at Q;by_cases S:z=1
    .rw[b_ (by simpa using S)];exact wpS_pure ⟨Eqv.rfl',.inl ⟨_,rfl,Q.one f S⟩⟩
    .rw[f_ (by simpa using S)];by_cases R:z=0
     .rw[b_ (by simpa using R)];exact wpS_pure ⟨Eqv.rfl',.inl ⟨_,rfl,Q.all f.sa f.sb (.inr R)⟩⟩
     .rw[f_ (by simpa using R)];exact v5 f Q M j ⋯ ⋯ (by rw[Lm];lia) (λp q u i=>l (z-1) p q (Nat.sub_one_lt R) u i)
   .rw[f_ B];exact v5 f W M j ⋯ (vw H) (ax▸P5 hN) (λp q u i=>l (n-1-1) p q (oQ (F2 (Li hn) G0) (SA (Sx B))) u i)
def vW(f:Bh C a b)(hk:kindOf st=kd)(h:HI C a b ou m n)(U:1<=m)(B:m<=a.size)(P:2<=n)(j:n<=b.size)(hN:N<=ou.size):
  wpS (model prog w) A E s (EF a b ou m n g ca cb) (nU C a b N st) st:=by
 unfold EF;refine wpS_bind (wpS_modify ?_);have ev:Eqv st (SortSt.mk' (kindOf st) (arrOf st) (pendingOf st) g (failedOf st)):=⟨rfl,rfl,rfl,rfl⟩;refine wpS_mono (Q:=nU C a b N (SortSt.mk' (kindOf st) (arrOf st) (pendingOf st) g (failedOf st))) ?_ λr al h=>⟨ev.trans h.1,h.2⟩;have F:kindOf (SortSt.mk' (kindOf st) (arrOf st) (pendingOf st) g (failedOf st))=kd:=hk;refine wpS_bind (aR (B5 (Kz P) j) λx Z=>?_);refine wpS_bind (dX (C:=C) F f.ga (bD f.gb Z) ⋯ (F2 U G0) ?_ λz hz W R=>?_)
 .intro p q u X i;exact k5 f.sa p q (wl _) X ⋯
 .have l:∀r p q,r<z->a[r]?=J p->b[n-1]?=J q->O.kle (C.key p) (C.key q):=λr p q hr u i=>by
   have:=W r hr
   unfold ij at this;rw[pu,aP u]at this;rw[Z]at i;cases i;simp only[o0,if_false,FX]at this;exact this
  have L:∀r p q,z<=r->r<m->a[r]?=J p->b[n-1]?=J q->O.kle (C.key q) (C.key p):=λr p q H G u i=>by
   have:=R r H G
   unfold ij at this;rw[pu,aP u]at this;rw[Z]at i;cases i;simp only[o0,if_false,P0]at this;exact KeyOrd.kle_of_klt this
  dsimp only;by_cases y:m-z>0
  .rw[b_ y];have ez:=Lr hz;have S:=h.moveA f.sa f.sb B (Kz P) j (m-z) (C_ ..) (λr p q H G=>L r p q (ez▸H) G);rw[ez]at S;by_cases M:z=0
   .rw[b_ (by simpa using M)];exact wpS_pure ⟨Eqv.rfl',.inl ⟨_,rfl,S.all f.sa f.sb (.inl M)⟩⟩
   .rw[f_ (by simpa using M)];exact vP f F S (Lj M) (mu hz B) P j (by rw[Lm];lia) (λp q u i=>l (z-1) p q (Nat.sub_one_lt M) u i)
  .rw[f_ y];exact vP f F h U B P j hN (λp q u i=>l (m-1) p q (B5 U (SA (Sx y))) u i)
def M0(C:vb prog w A E s kd O)(a b:Array Keyed)(N:Nat)(c:HB):Prop :=
 c.1=Y/\HI C a b c.2.2.2.1 c.2.1 c.2.2.1/\1<=c.2.1/\c.2.1<=a.size/\2<=c.2.2.1/\c.2.2.1<=b.size/\N<=c.2.2.2.1.size
def Re(C:vb prog w A E s kd O)(a b:Array Keyed)(N:Nat)(c:HC):Prop :=
 c.1=Y/\HI C a b c.2.2.2.1 c.2.1 c.2.2.1/\1<=c.2.1/\c.2.1<=a.size/\2<=c.2.2.1/\c.2.2.1<=b.size/\N<=c.2.2.2.1.size
def M1(C:vb prog w A E s kd O)(a b:Array Keyed)(N:Nat)(st:SortSt)(r:ForInStep HB)(f:SortSt):Prop:=match r with
 |.done c=>f=st/\((∃x,c.1=J x/\MR C a b x)\/M0 C a b N c)
 |.yield c=>f=st/\M0 C a b N c
def xj(C:vb prog w A E s kd O)(a b:Array Keyed)(N:Nat)(st:SortSt)(r:ForInStep HC)(f:SortSt):Prop:=match r with
 |.done c=>Eqv st f/\∃x,c.1=J x/\MR C a b x
 |.yield c=>Eqv st f/\Re C a b N c
def IT(f:Bh C a b)(Q:kindOf st=kd)(H:HI C a b ou' m' n')(u:1<=m')(j:m'<=a.size)(F:2<=n')(i:n'<=b.size)(hN:N<=ou'.size):
  wpS (model prog w) A E s (Q_ a b g (Y,m',n',ou',ca,cb)) (M1 C a b (N+1) st) st:=by
 unfold Q_;dsimp only;have G:=Kz F;have na:=B5 u j;have nb:=B5 G i;refine wpS_bind (aR nb λp M=>wpS_bind (aR na λq P=>?_));refine wpS_bind (C.ask p q st _ (bD f.gb M) (bD f.ga P) Q ?_)
 cases R:O.blt (C.key p) (C.key q) with
 |true =>
  dsimp only;refine wpS_bind (aR na λS y=>?_);rw[P]at y;cases y;have em:=(GR u).symm;have B:HI C a b (ou'.push q) (m'-1) n':=by have L:=H;rw[em]at L;exact L.pushA f.sa f.sb P G i (λW l=>by rw[M]at l;cases l;exact KeyOrd.kle_of_klt R)
  have r:(ou'.push q).size=ou'.size+1:=Dl ..;by_cases z:m'-1=0
  .rw[b_ (by simpa using z)];exact wpS_pure ⟨rfl,.inl ⟨_,rfl,B.all f.sa f.sb (.inl z)⟩⟩
  .rw[f_ (by simpa using z)];split
   .exact wpS_pure ⟨rfl,.inr ⟨rfl,B,Lj z,vw na,F,i,r▸GV hN⟩⟩
   .exact wpS_pure ⟨rfl,rfl,B,Lj z,vw na,F,i,r▸GV hN⟩
 |false =>
  dsimp only;rw[f_ (by simp)];refine wpS_bind (aR nb λW l=>?_);rw[M]at l;cases l;have U:=(GR G).symm;have B:HI C a b (ou'.push p) m' (n'-1):=by have L:=H;rw[U]at L;exact L.pushB f.sa f.sb M u j (λS y=>by rw[P]at y;cases y;exact R)
  have r:(ou'.push p).size=ou'.size+1:=Dl ..;by_cases z:n'-1=1
  .rw[b_ (by simpa using z)];exact wpS_pure ⟨rfl,.inl ⟨_,rfl,B.one f z⟩⟩
  .rw[f_ (by simpa using z)];split
   .exact wpS_pure ⟨rfl,.inr ⟨rfl,B,u,j,⋯,vw nb,r▸GV hN⟩⟩
   .exact wpS_pure ⟨rfl,rfl,B,u,j,⋯,vw nb,r▸GV hN⟩
def IU(j:Eqv Er st)(f:(∃x,c.1=J x/\MR C a b x)\/IS C a b N c):wpS (model prog w) A E s (S2 c) (xj C a b N Er) st:=by
 obtain⟨H,B,F,y,G,u,z⟩:=c;rcases f with⟨r,i,l⟩|⟨f,i⟩
 .cases i;exact wpS_pure ⟨j,r,rfl,l⟩
 .cases f;exact wpS_bind (wpS_modify (wpS_pure ⟨j.trans ⟨rfl,rfl,rfl,rfl⟩,rfl,i⟩))
def IV(u:Bh C a b)(y:kindOf st=kd)(h:IS C a b N c):wpS (model prog w) A E s (Ra a b c) (nU C a b N st) st:=by
 obtain⟨_,z,r,i,j,f,l⟩:=h;unfold Ra;split
 .exact vW u y z r i j f l
 .exact vW u y z r i j f l
def IW(u:Bh C a b)(G:kindOf st=kd)(B:Eqv Er st)(l:(∃x,c.1=J x/\MR C a b x)\/M0 C a b N c):wpS (model prog w) A E s (S3 a b g c) (xj C a b N Er) st:=by
 obtain⟨W,U,Z,P,X,S⟩:=c;rcases l with⟨r,j,F⟩|⟨l,j⟩
 .cases j;exact wpS_pure ⟨B,r,rfl,F⟩
 .cases l;refine wpS_bind (wpS_lift (wpAny_rule ⟨rfl,?_⟩));refine wpS_bind (wpS_mono (wpS_forRange (I:=λy c i=>Eqv st i/\IS C a b N c) (Q:=λc i=>Eqv st i/\((∃x,c.1=J x/\MR C a b x)\/IS C a b N c)) ?_ ?_ ⟨Eqv.rfl',rfl,j⟩) ?_)
  .rintro y c i _ R ⟨f,M⟩;refine wpS_mono (IV u (f.kind.trans G) M) λr L j=>?_
   cases r with
   |done H=>exact⟨f.trans j.1,j.2⟩
   |yield H=>exact⟨f.trans j.1,j.2⟩
  .rintro c i ⟨f,z⟩;exact⟨f,.inr z⟩
  .rintro c i ⟨f,l⟩;exact IU (B.trans f) l
def IY(i:Bh C a b)(R:kindOf st=kd)(h:Re C a b N c):wpS (model prog w) A E s (S4 a b c) (xj C a b (N+1) st) st:=by
 obtain⟨P,hI,X,F,Z,l,M⟩:=h
 refine wpS_bind (wpS_mono (wpS_forRange (I:=λy c f=>f=st/\M0 C a b (N+y) c)
  (Q:=λc f=>f=st/\((∃x,c.1=J x/\MR C a b x)\/M0 C a b (N+1) c)) ?_ ?_ ⟨rfl,rfl,hI,X,F,Z,l,M⟩) ?_)
 .rintro y c f _ hy ⟨rfl,U⟩;obtain⟨P,B,L,z,H,u,j⟩:=U;refine wpS_mono (IT i R B L z H u j) λr W G=>?_
  cases r with
  |done S=>exact⟨G.1,G.2.imp_right λh=>⟨h.1,h.2.1,h.2.2.1,h.2.2.2.1,h.2.2.2.2.1,h.2.2.2.2.2.1,mu ⋯ h.2.2.2.2.2.2⟩⟩
  |yield S=>exact G
 .rintro c f ⟨rfl,h⟩;exact⟨rfl,.inr ⟨h.1,h.2.1,h.2.2.1,h.2.2.2.1,h.2.2.2.2.1,h.2.2.2.2.2.1,mu ⋯ h.2.2.2.2.2.2⟩⟩
 .rintro c f ⟨rfl,P⟩;exact IW i R Eqv.rfl' P
def IZ(u:Bh C a b)(z:kindOf st=kd)(F:HI C a b #[x0] (a.size-1) b.size)(H:1<=a.size-1)(L:2<=b.size)(h:∀x f,Eqv st f->MR C a b x->Q x f):wpS (model prog w) A E s (S5 a b x0) Q st:=by
 refine wpS_bind (wpS_get ?_)
 refine wpS_bind (wpS_mono (wpS_forRange (I:=λx c f=>Eqv st f/\Re C a b (x+1) c)
  (Q:=λc f=>Eqv st f/\∃x,c.1=J x/\MR C a b x) ?_ ?_ ⟨Eqv.rfl',rfl,F,H,C_ _ _,L,il _,il _⟩) ?_)
 .rintro x c f _ M ⟨l,i⟩;refine wpS_mono (IY u (l.kind.trans z) i) λr G j=>?_
  cases r with
  |done B=>exact⟨l.trans j.1,j.2⟩
  |yield B=>exact⟨l.trans j.1,j.2⟩
 .rintro c f ⟨l,i⟩;exfalso
  have:=i.2.1.size i.2.2.2.1 i.2.2.2.2.2.1
  have:=i.2.2.2.2.2.2
  lia
 .rintro c f ⟨l,r,j,y⟩;obtain⟨R,P⟩:=c;cases j;exact wpS_pure (h r f l y)
def I0(f:Bh C a b)(F:kindOf st=kd)(h:∀x i,Eqv st i->MR C a b x->Q x i):wpS (model prog w) A E s (m4 a b) Q st:=by
 rw[Rb];refine wpS_bind (wpS_lift (wpAny_rule ⟨rfl,?_⟩));have G:=f.na;have u:=f.nb;refine wpS_bind (aR ⋯ λB j=>?_)
 have H:HI C a b #[] a.size b.size:=⟨by
   have e1:a.toList.take a.size=a.toList:=Lc (by simp);have e2:b.toList.take b.size=b.toList:=Lc (by simp)
   rw[e1,e2];simp,by unfold LS;simp,λx _ y L=>by simp at L⟩
 have l:HI C a b #[B] (a.size-1) b.size:=by
  have e:a.size=a.size-1+1:=by lia
  have P:HI C a b #[] (a.size-1+1) b.size:=by rw[<-e];exact H
  have:=P.pushA f.sa f.sb j u (il _) (λq M=>f.lst q B (Bo.mpr ⟨_,by rw[w_];exact M⟩) j)
  simpa using this
 by_cases r:a.size-1=0
 .rw[b_ (by simpa using r)];exact wpS_pure (h _ st Eqv.rfl' (l.all f.sa f.sb (.inl r)))
 .rw[f_ (by simpa using r)];by_cases z:b.size=1
  .rw[b_ (by simpa using z)];exact wpS_pure (h _ st Eqv.rfl' (l.one f z))
  .rw[f_ (by simpa using z)];exact IZ f F l ⋯ ⋯ h
end
def uS(i:Nat):mergeAt' i=(do
 let c <-get
 let(J (sa,na,pw),J (sb,nb,_)):=((pendingOf c)[i]?,(pendingOf c)[i+1]?)|unsupported "internal:list.sort.pending"
 set (setPending c (((pendingOf c).setIfInBounds i (sa,na+nb,pw)).eraseIdxIfInBounds (i+1)))
 let J k <-gallop' T (<-elem' (arrOf c) sb) (arrOf c) sa na 0|return T
 let(sa,na):=(sa+k,na-k)
 if na==0 then return I
 let J nb <-gallop' I (<-elem' (arrOf c) (sa+na-1)) (arrOf c) sb nb (nb-1)|return T
 if nb==0 then return I
 let x:=(arrOf c).extract sa sb
 let y:=(arrOf c).extract sb (sb+nb)
 let f <-if na<=nb then mM x y else m4 x y
 modify λc=>setArr c (f.toList.zipIdx.foldl (λa (p,j)=>a.setIfInBounds (sa+j) p) (arrOf c))
 return (failedOf (<-get)).isNone):=rfl
def EG(f:Nat):∀(l:List Keyed)(q:Nat)(xs:Array Keyed)(i:Nat),((l.zipIdx q).foldl (λa (p:Keyed×Nat)=>a.setIfInBounds (f+p.2) p.1) xs)[i]? =
  if f+q<=i/\i<f+q+l.length/\i<xs.size then l[i-(f+q)]? else xs[i]?:=by
 intro l
 induction l with
 |nil=>intro q xs i;rw[f_ (by simp;lia)];rfl
 |cons p l j =>
  intro q xs i;rw[List.zipIdx_cons,P_,j];simp only[Array.size_setIfInBounds]
  grind
def Ax{xs ou:Array Keyed}{off:Nat}(h:off+ou.size<=xs.size):
  (ou.toList.zipIdx.foldl (λa (p:Keyed×Nat)=>a.setIfInBounds (off+p.2) p.1) xs).toList=xs.toList.take off++(ou.toList++xs.toList.drop (off+ou.size)):=by
 apply Ky;intro i;rw[w_,EG];have l:(xs.toList.take off).length=off:=by simp;lia
 by_cases f:i<off
 .rw[f_ ⋯,qr ⋯,Oq f,w_]
 .rw[Ch ⋯,l];by_cases j:i<off+ou.size
  .rw[b_ ⟨⋯,by simpa using j,⋯⟩,qr (by simp;lia)];congr 1
  .rw[f_ (by simp;lia),Ch (by simp;lia),Oz,w_];congr 1;simp;lia
section
variable{prog:Program}{w:World}{A:Around}{E:UA}{s:Shared}{kd:SortKind}{O:KeyOrd}{C:vb prog w A E s kd O}{a₀:Array Keyed}{st:SortSt}
def ir{xs:Array Keyed}{lo l i j:Nat}(h:ql C xs lo l)(a:lo<=i)(f:i<=j)(r:j<l){p q:Keyed}(y:xs[i]?=J p)(u:xs[j]?=J q):O.kle (C.key p) (C.key q):=by
 have:=h i j a f r
 rw[aP y,aP u]at this;exact this
def vN{xs:Array Keyed}{lo f:Nat}{p:Keyed}(j:f<=xs.size)(h:p∈(xs.extract lo f).toList):∃i,lo<=i/\i<f/\xs[i]?=J p:=by
 obtain⟨q,a⟩:=Bo.mp h;rw[w_,Ld]at a
 split at a
 .exact⟨lo+q,⋯,⋯,a⟩
 .cases a
def I_{xs:Array Keyed}{i j k:Nat}(f:i<=j)(u:j<=k)(r:k<=xs.size):xs.toList=xs.toList.take i++((xs.extract i j).toList++(xs.extract j k).toList++xs.toList.drop k):=by
 have e1:(xs.extract i j).toList=(xs.toList.drop i).take (j-i):=by simp
 have e2:(xs.extract j k).toList=(xs.toList.drop j).take (k-j):=by simp
 rw[e1,e2];have a:(xs.toList.drop j).take (k-j)++xs.toList.drop k=xs.toList.drop j:=by
  have:=FS (k-j) (xs.toList.drop j)
  simp_all
 have l:(xs.toList.drop i).take (j-i)++xs.toList.drop j=xs.toList.drop i:=by
  have:=FS (j-i) (xs.toList.drop i)
  rw[List.drop_drop]at this;rw[FT f]at this;exact this
 rw[CN,a,l,FS]
def uG{n1 pw:Nat}{Q:Bool->SortSt->Prop}(h0:cH C a₀)(hB:SB kd a₀ st)(h1:1<=n1)(h2:n1<a₀.size)(hp:pendingOf st=#[(0,n1,pw),(n1,a₀.size-n1,0)])(H:ql C (arrOf st) 0 n1)(F:ql C (arrOf st) n1 a₀.size)(h:∀ax,SB kd a₀ ax->(pendingOf ax).size=1->ql C (arrOf ax) 0 a₀.size->Q I ax):wpS (model prog w) A E s (mergeAt' 0) Q st:=by
 have a1:=hB.size;have hg:=hB.good h0;have a0:=vw h2;rw[uS];refine wpS_bind (wpS_get ?_);rw[hp];have e0:(#[(0,n1,pw),(n1,a₀.size-n1,0)]:Array (Nat×Nat×Nat))[0]?=J (0,n1,pw):=rfl;have e1:(#[(0,n1,pw),(n1,a₀.size-n1,0)]:Array (Nat×Nat×Nat))[0+1]?=J (n1,a₀.size-n1,0):=rfl;rw[e0,e1];dsimp only;refine wpS_bind ?_;have a8:∀(c:SortSt)(Q':PUnit->SortSt->Prop),Q' ⟨⟩ c->wpS (model prog w) A E s (set c:StateT SortSt Sem PUnit) Q' st:=λc Q' hq=>by
  unfold wpS;rw[StateT.run_set];exact ii ⟨rfl,hq⟩
 refine a8 _ _ ?_;obtain⟨M,G⟩:∃c,c=setPending st (((#[(0,n1,pw),(n1,a₀.size-n1,0)]:Array (Nat×Nat×Nat)).setIfInBounds 0 (0,n1+(a₀.size-n1),pw)).eraseIdxIfInBounds (0+1)):=⟨_,rfl⟩;rw[<-G];have B:SB kd a₀ M:=by rw[G];exact⟨hB.perm,hB.kind,hB.failed⟩
 have a3:(pendingOf M).size=1:=by rw[G];simp[pendingOf]
 have bi:arrOf M=arrOf st:=by rw[G]
 clear G;have W:ql C (arrOf st) 0 n1->ql C (arrOf st) n1 a₀.size->(∀i j,i<n1->n1<=j->j<a₀.size->O.kle (kk C (arrOf st) i) (kk C (arrOf st) j))->ql C (arrOf M) 0 a₀.size:=by
  intro g1 g2 g3 i j _ be X;rw[bi];by_cases c1:j<n1
  .exact g1 i j (wl _) be c1
  .by_cases c2:i<n1
   .exact g3 i j c2 ⋯ X
   .exact g2 i j ⋯ be X
 refine wpS_bind (aR ⋯ λb0 ap=>?_);refine wpS_bind (dX (C:=C) B.kind hg (bD hg ap) ⋯ ⋯ (by rw[pu];exact H) λk hk b1 bx=>?_);have Z:∀r p,r<k->(arrOf st)[r]?=J p->O.kle (C.key p) (C.key b0):=λr p hr f=>by
  have:=b1 r hr
  unfold ij at this;rw[pu,aP f]at this;simp only[o0,if_false,FX]at this;exact this
 have a5:∀r p,k<=r->r<n1->(arrOf st)[r]?=J p->O.kle (C.key b0) (C.key p):=λr p L as f=>by
  have:=bx r L as
  unfold ij at this;rw[pu,aP f]at this;simp only[o0,if_false,P0]at this;exact KeyOrd.kle_of_klt this
 dsimp only;rw[pu];have R:∀i,i<a₀.size->∃p,(arrOf st)[i]?=J p:=λi u=>⟨_,getElem?_pos _ i ⋯⟩;by_cases z1:n1-k=0
 .rw[b_ (by simpa using z1)];refine wpS_pure (h M B a3 (W H F λi j u ba U=>?_));obtain⟨p,f⟩:=R i ⋯;obtain⟨q,z⟩:=R j U;rw[aP f,aP z];exact KeyOrd.kle_trans (Z i p (oQ u (Sw.1 z1)) f) (ir F (il _) ba U ap z)
 .rw[f_ (by simpa using z1)];have ez:k+(n1-k)-1=n1-1:=by rw[FT hk]
  rw[ez];refine wpS_bind (aR (a1▸Kw (C_ ..) h2) λal ay=>?_);refine wpS_bind (dX (C:=C) B.kind hg (bD hg ay) (Qf ((FT a0).trans a1.symm)) (F2 (Nat.sub_pos_of_lt h2) G0) (by rw[FT a0];exact F) λm hm bm a6=>?_);have a4:∀r p,n1<=r->r<n1+m->(arrOf st)[r]?=J p->O.kle (C.key p) (C.key al):=λr p L as f=>by
   have:=bm (r-n1) (Nat.sub_lt_left_of_lt_add L as)
   unfold ij at this;rw[FT L,aP f]at this;exact KeyOrd.kle_of_klt this
  have an:∀r p,n1+m<=r->r<a₀.size->(arrOf st)[r]?=J p->O.kle (C.key al) (C.key p):=λr p L as f=>by
   have a7:=Nat.le_of_add_right_le L
   have:=a6 (r-n1) (Sy L) (Nat.sub_lt_sub_right a7 as)
   unfold ij at this;rw[FT a7,aP f]at this;exact this
  dsimp only;by_cases z2:m=0
  .rw[b_ (by simpa using z2)];refine wpS_pure (h M B a3 (W H F λi j u ba U=>?_));obtain⟨p,f⟩:=R i ⋯;obtain⟨q,z⟩:=R j U;rw[aP f,aP z];exact KeyOrd.kle_trans (ir H (wl _) (Li u) (F2 h1 G0) f ay) (an j q ⋯ U z)
  .rw[f_ (by simpa using z2)];have mx:=KD (a1.symm▸a0:n1<=(arrOf st).size);have mg:n1+m<=(arrOf st).size:=a1.symm▸Nat.add_le_of_le_sub' a0 hm;have my:=KD mg;have sx:((arrOf st).extract k n1).size=n1-k:=by rw[Array.size_extract,mx]
   have sy:((arrOf st).extract n1 (n1+m)).size=m:=by rw[Array.size_extract,my,Ss]
   have gx:∀r,r<n1-k->((arrOf st).extract k n1)[r]?=(arrOf st)[k+r]?:=λr hr=>by rw[Ld,mx,b_ hr]
   have gy:∀r,r<m->((arrOf st).extract n1 (n1+m))[r]?=(arrOf st)[n1+r]?:=λr hr=>by rw[Ld,my,Ss,b_ hr]
   have a2:∀p,p∈((arrOf st).extract k n1).toList->∃i,k<=i/\i<n1/\(arrOf st)[i]?=J p:=λp f=>vN ⋯ f;have S:∀p,p∈((arrOf st).extract n1 (n1+m)).toList->∃i,n1<=i/\i<n1+m/\(arrOf st)[i]?=J p:=λp f=>vN mg f;have a9:Bh C ((arrOf st).extract k n1) ((arrOf st).extract n1 (n1+m)):=by
    refine⟨λp f=>?_,λp f=>?_,nV ⋯ λi j a b c=>H i j (wl _) b c,nV ⋯ λi j a b c=>F i j a b ⋯,⋯,⋯,?_,?_⟩
    .obtain⟨i,_,_,u⟩:=a2 p f;exact bD hg u
    .obtain⟨i,_,_,u⟩:=S p f;exact bD hg u
    .intro p q f z;rw[gy 0 ⋯]at f;rw[gx 0 ⋯]at z;have e:(arrOf st)[n1+0]?=J b0:=ap;rw[e]at f;cases f;exact a5 (k+0) q ⋯ ⋯ z
    .intro x q hx z;obtain⟨i,i1,i2,u⟩:=S x hx;rw[sx,gx _ ⋯]at z;rw[<-Nat.add_sub_assoc (Lj z1),ez,ay]at z;cases z;exact a4 i x i1 i2 u
   have fin:∀P l,Eqv M l->MR C ((arrOf st).extract k n1) ((arrOf st).extract n1 (n1+m)) P ->
     wpS (model prog w) A E s (do
      modify λc=>setArr c (P.toList.zipIdx.foldl (λa (p:Keyed×Nat)=>a.setIfInBounds (k+p.2) p.1) (arrOf c))
      return (failedOf (<-get)).isNone) Q l:=by
    intro P l ev mr;refine wpS_bind (wpS_modify ?_);refine wpS_bind (wpS_get (wpS_pure ?_));have ea:arrOf l=arrOf st:=ev.arr.trans bi;have so:P.size=n1-k+m:=by
     have:=mr.1.length_eq
     rw[BI,z_,BI,BI,sx,sy]at this;exact this
    have eo:k+P.size=n1+m:=by rw[so,<-Nat.add_assoc,FT hk]
    have hl:=Ax (xs:=arrOf l) (ou:=P) (off:=k) (by rw[ea,eo];exact mg);rw[eo,ea]at hl;have b2:=I_ (xs:=arrOf st) (i:=k) (j:=n1) (k:=n1+m) hk (KA ..) mg;have ID:(failedOf (setArr l (P.toList.zipIdx.foldl (λa (p:Keyed×Nat)=>a.setIfInBounds (k+p.2) p.1) (arrOf l)))).isNone=I:=by show(failedOf l).isNone=I;rw[ev.failed,B.failed];rfl
    rw[ID];have bt:LS C (P.toList.zipIdx.foldl (λa (p:Keyed×Nat)=>a.setIfInBounds (k+p.2) p.1) (arrOf l)).toList:=by
     rw[ea,hl];have mo:∀p,p∈P.toList->(∃i,k<=i/\i<n1/\(arrOf st)[i]?=J p)\/(∃i,n1<=i/\i<n1+m/\(arrOf st)[i]?=J p):=λp f =>
      (lT.mp (mr.1.mem_iff.mp f)).imp (a2 p) (S p)
     have mt:∀p,p∈(arrOf st).toList.take k->∃i,i<k/\(arrOf st)[i]?=J p:=λp f=>by
      obtain⟨i,u⟩:=Bo.mp f;by_cases c:i<k
      .rw[Oq c,w_]at u;exact⟨i,c,u⟩
      .rw[Dg (by simp;lia)]at u;cases u
     have md:∀p,p∈(arrOf st).toList.drop (n1+m)->∃i,n1+m<=i/\i<a₀.size/\(arrOf st)[i]?=J p:=λp f=>by
      obtain⟨i,u⟩:=Bo.mp f;rw[Oz,w_]at u
      have:=(La.mp u).1
      exact⟨n1+m+i,⋯,⋯,u⟩
     refine ci ?_ (ci mr.2 ?_ ?_) ?_
     .have:=nV (C:=C) (xs:=arrOf st) (lo:=0) (hi:=k) ⋯ λi j a b c=>H i j a b ⋯
      rw[nc]at this;exact this
     .have:=nV (C:=C) (xs:=arrOf st) (lo:=n1+m) (hi:=(arrOf st).size) (il _) λi j a b c=>F i j ⋯ b ⋯
      rw[iM]at this;exact this
     .intro x hx y hy;obtain⟨j,j1,j2,X⟩:=md y hy;rcases mo x hx with⟨i,i1,i2,u⟩|⟨i,i1,i2,u⟩
      .exact KeyOrd.kle_trans (ir H (wl _) (Li i2) (F2 h1 G0) u ay) (an j y j1 j2 X)
      .exact ir F i1 ⋯ j2 u X
     .intro x hx y hy;obtain⟨i,i1,u⟩:=mt x hx;rcases lT.mp hy with hy|hy
      .rcases mo y hy with⟨j,j1,j2,X⟩|⟨j,j1,j2,X⟩
       .exact ir H (wl _) ⋯ j2 u X
       .exact KeyOrd.kle_trans (Z i x i1 u) (ir F (il _) j1 ⋯ ap X)
      .obtain⟨j,j1,j2,X⟩:=md y hy;exact KeyOrd.kle_trans (Z i x i1 u) (ir F (il _) ⋯ j2 ap X)
    have bj:(P.toList.zipIdx.foldl (λa (p:Keyed×Nat)=>a.setIfInBounds (k+p.2) p.1) (arrOf l)).Perm (arrOf st):=by rw[PK,ea,hl];refine List.Perm.trans ?_ (List.Perm.of_eq b2.symm);exact List.Perm.append_left _ (List.Perm.append_right _ mr.1)
    refine h _ ⟨bj.trans hB.perm,ev.kind.trans B.kind,ev.failed.trans B.failed⟩ ?_ ?_
    .show (pendingOf l).size=1;rw[ev.pend];exact a3
    .have:=k5 bt
     have e2:(P.toList.zipIdx.foldl (λa (p:Keyed×Nat)=>a.setIfInBounds (k+p.2) p.1) (arrOf l)).size=a₀.size:=(bj.trans hB.perm).size_eq;rw[e2]at this;exact this
   by_cases bn:n1-k<=m
   .rw[b_ bn];refine wpS_bind (IN a9 B.kind λP l ev mr=>?_);exact fin P l ev mr
   .rw[f_ bn];refine wpS_bind (I0 a9 B.kind λP l ev mr=>?_);exact fin P l ev mr
end
def tV(a:2<=n)(h:n<64):minRun' n n 0=n:=by
 obtain⟨f,hf⟩:∃f,n=f+1:=⟨n-1,⋯⟩
 have:minRun' (f+1) n 0=n+0:=by rw[minRun'_succ,b_ h]
 rw[<-hf]at this;exact this
def zV(a:2<=n)(h:n<=66):1<=minRun' n n 0/\minRun' n n 0<=n/\n<=2*minRun' n n 0:=by
 by_cases c:n<64
 .rw[tV a c];lia
 .have:n=64\/n=65\/n=66:=by lia
  rcases this with e|e | e<;>subst e
  .have:minRun' 64 64 0=32:=by decide
   rw[this];lia
  .have:minRun' 65 65 0=33:=by decide
   rw[this];lia
  .have:minRun' 66 66 0=33:=by decide
   rw[this];lia
section
variable{prog:Program}{w:World}{A:Around}{E:UA}{s:Shared}{kd:SortKind}{O:KeyOrd}{C:vb prog w A E s kd O}{a₀:Array Keyed}{st:SortSt}
def One(C:vb prog w A E s kd O)(a₀:Array Keyed)(f a:Nat)(st:SortSt):Prop:=SB kd a₀ st/\pendingOf st=#[(0,a,0)]/\f<=a/\a<=a₀.size/\ql C (arrOf st) 0 a
def M2(C:vb prog w A E s kd O)(a₀:Array Keyed)(a:Nat)(st:SortSt):Prop :=
 SB kd a₀ st/\1<=a/\a<a₀.size/\(∃f,pendingOf st=#[(0,a,f),(a,a₀.size-a,0)])/\ql C (arrOf st) 0 a/\ql C (arrOf st) a a₀.size
def tH{xs ys:Array Keyed}{p lo f:Nat}(h:cR p xs ys)(u:f<=p)(g:ql C xs lo f):ql C ys lo f:=by intro i j a l r;rw[eW (h i ⋯),eW (h j ⋯)];exact g i j a l r
def Am(h0:cH C a₀)(hB:SB kd a₀ st)(a5:pendingOf st=#[])(h2:2<=a₀.size)(ay:a₀.size<=66)(h:∀i,(arrOf i).Perm a₀->failedOf i=Y->ql C (arrOf i) 0 a₀.size->Q () i):wpS (model prog w) A E s sortRuns' Q st:=by
 obtain⟨m1,m2,m3⟩:=zV h2 ay;rw[sortRuns'_eq];refine wpS_bind (wpS_get ?_);dsimp only;rw[hB.size];generalize minRun' a₀.size a₀.size 0=mr at m1 m2 m3 ⊢
 refine wpS_bind (wpS_mono (wpS_forRange
  (I:=λx c i=>(x=0/\c=(Y,0)/\SB kd a₀ i/\pendingOf i=#[])\/(x=1/\∃f,c=(Y,f)/\One C a₀ mr f i)\/(2<=x/\c=(Y,a₀.size)/\∃f,M2 C a₀ f i))
  (Q:=λc i=>c=(Y,a₀.size)/\(One C a₀ mr a₀.size i\/∃f,M2 C a₀ f i)) ?_ ?_ (.inl ⟨rfl,rfl,hB,a5⟩)) ?_)
 .rintro x c i _ hx (⟨rfl,rfl,r,j⟩|⟨rfl,f,rfl,r,j,a0,ax,M⟩|⟨a7,rfl,f,S⟩)
  .rw[f_ ⋯];simp only[Nat.sub_zero,pu];refine wpS_bind (u5 (p:=0) h0 ⋯ ⋯ r λm B u _ G a2 ap H=>?_);rw[pu]at H;dsimp only;by_cases R:m<mr
   .rw[b_ R];refine wpS_bind (wpS_lift (wpAny_rule ⟨rfl,?_⟩));refine wpS_bind (vg (p:=0) h0 ⋯ ⋯ u (by rw[pu];exact H) λz F _ L P=>?_);simp only[Dm,o0,if_false];refine wpS_bind (wpS_get ?_);have S:(pendingOf z).back?=Y:=by rw[L,G,j];rfl
    rw[S];dsimp only;refine wpS_bind (wpS_modify (wpS_pure (.inr (.inl ⟨trivial,_,rfl,⟨F.perm,F.kind,F.failed⟩,?_,⋯,⋯,?_⟩))))
    .show (pendingOf z).push _=_;rw[L,G,j];rfl
    .rw[pu]at P;exact P
   .rw[f_ R];refine wpS_bind (wpS_get ?_);have S:(pendingOf B).back?=Y:=by rw[G,j];rfl
    rw[S];dsimp only;refine wpS_bind (wpS_modify (wpS_pure (.inr (.inl ⟨trivial,_,rfl,⟨u.perm,u.kind,u.failed⟩,?_,⋯,⋯,H⟩))));show(pendingOf B).push _=_;rw[G,j];rfl
  .dsimp only;by_cases U:f>=a₀.size
   .rw[b_ U];have e:f=a₀.size:=by lia
    subst e;exact wpS_pure ⟨rfl,.inl ⟨r,j,a0,ax,M⟩⟩
   .rw[f_ U];have a1:a₀.size-f<=mr:=by lia
    refine wpS_bind (u5 (p:=f) h0 ⋯ ⋯ r λm B u an G a2 ap H=>?_);dsimp only;by_cases R:m<mr
    .rw[b_ R];refine wpS_bind (wpS_lift (wpAny_rule ⟨rfl,?_⟩));have em:min (a₀.size-f) mr=a₀.size-f:=by lia
     rw[em];refine wpS_bind (vg (p:=f) h0 ⋯ ⋯ u H λz F al L P=>?_);simp only[Dm,o0,if_false];refine wpS_bind (wpS_get ?_);have Z:pendingOf z=#[(0,f,0)]:=by rw[L,G,j]
     have S:(pendingOf z).back?=J (0,f,0):=by rw[Z];rfl
     rw[S];dsimp only;refine wpS_bind (wpS_mono (wpS_forRange (I:=λ_ c l=>c=(Y,())/\l=z) (Q:=λc l=>c=(Y,())/\l=z) ?_ (λ_ _ hh=>hh) ⟨rfl,rfl⟩) ?_)
     .rintro y c l _ _ ⟨rfl,rfl⟩;refine wpS_bind (wpS_get ?_);rw[Z];exact wpS_pure ⟨rfl,rfl⟩
     .rintro c l ⟨rfl,rfl⟩;dsimp only;refine wpS_bind (wpS_modify (wpS_bind (wpS_modify (wpS_pure (.inr (.inr ⟨⋯,?_,f,⟨F.perm,F.kind,F.failed⟩,⋯,⋯,⟨power' a₀.size (2*0+f) (2*0+f+f+(a₀.size-f)) a₀.size,?_⟩,(tH (an.trans al) (il _) M),(by have e:f+(a₀.size-f)=a₀.size:=⋯;rw[e]at P;exact P)⟩))))))
      .have e:f+(a₀.size-f)=a₀.size:=by lia
       rw[e]
      .show ((pendingOf l).modify _ _).push _=_;rw[Z];simp
    .rw[f_ R];have em:m=a₀.size-f:=by lia
     subst em;refine wpS_bind (wpS_get ?_);have W:pendingOf B=#[(0,f,0)]:=by rw[G,j]
     have S:(pendingOf B).back?=J (0,f,0):=by rw[W];rfl
     rw[S];dsimp only;refine wpS_bind (wpS_mono (wpS_forRange (I:=λ_ c l=>c=(Y,())/\l=B) (Q:=λc l=>c=(Y,())/\l=B) ?_ (λ_ _ hh=>hh) ⟨rfl,rfl⟩) ?_)
     .rintro y c l _ _ ⟨rfl,rfl⟩;refine wpS_bind (wpS_get ?_);rw[W];exact wpS_pure ⟨rfl,rfl⟩
     .rintro c l ⟨rfl,rfl⟩;dsimp only;refine wpS_bind (wpS_modify (wpS_bind (wpS_modify (wpS_pure (.inr (.inr ⟨⋯,?_,f,⟨u.perm,u.kind,u.failed⟩,⋯,⋯,⟨power' a₀.size (2*0+f) (2*0+f+f+(a₀.size-f)) a₀.size,?_⟩,(tH an (il _) M),(by have e:f+(a₀.size-f)=a₀.size:=⋯;rw[e]at H;exact H)⟩))))))
      .have e:f+(a₀.size-f)=a₀.size:=by lia
       rw[e]
      .show ((pendingOf l).modify _ _).push _=_;rw[W];simp
  .dsimp only;rw[b_ (il _)];exact wpS_pure ⟨rfl,.inr ⟨f,S⟩⟩
 .rintro c i (⟨hx,_⟩|⟨hx,_⟩|⟨_,hc,S⟩)
  .lia
  .lia
  .exact⟨hc,.inr S⟩
 .rintro c i ⟨rfl,hc⟩;dsimp only;rcases hc with⟨r,j,_,_,M⟩|⟨f,r,as,n12,⟨pw,j⟩,a3,a4⟩
  .refine wpS_bind (wpS_mono (wpS_forRange (I:=λ_ c a=>a=i/\c=(Y,())) (Q:=λc a=>a=i/\c=(Y,())) ?_ (λ_ _ hh=>hh) ⟨rfl,rfl⟩) ?_)
   .rintro x c a _ _ ⟨rfl,rfl⟩;refine wpS_bind (wpS_get ?_);rw[b_ (by rw[j];exact il 1)];exact wpS_pure ⟨rfl,rfl⟩
   .rintro c a ⟨rfl,rfl⟩;exact wpS_pure (h _ r.perm r.failed M)
  .refine wpS_bind (wpS_mono (wpS_forRange (I:=λx c a=>c=(Y,())/\((x=0/\a=i)\/(1<=x/\SB kd a₀ a/\(pendingOf a).size=1/\ql C (arrOf a) 0 a₀.size)))
    (Q:=λc a=>c=(Y,())/\SB kd a₀ a/\ql C (arrOf a) 0 a₀.size) ?_ ?_ ⟨rfl,.inl ⟨rfl,rfl⟩⟩) ?_)
   .rintro x c a _ _ ⟨rfl,X⟩;rcases X with⟨rfl,rfl⟩|⟨a6,b1,b2,b3⟩
    .refine wpS_bind (wpS_get ?_);rw[f_ (by rw[j];simp)];rw[j];refine wpS_bind (uG (n1:=f) (pw:=pw) h0 r as n12 j a3 a4 λz c1 c2 c3=>?_);simp only[Dm,o0,if_false];exact wpS_pure ⟨rfl,.inr ⟨⋯,c1,c2,c3⟩⟩
    .refine wpS_bind (wpS_get ?_);rw[b_ (by rw[b2];exact il 1)];exact wpS_pure ⟨rfl,b1,b3⟩
   .rintro c a ⟨rfl,⟨hx,_⟩|⟨_,b1,_,b3⟩⟩
    .lia
    .exact⟨rfl,b1,b3⟩
   .rintro c a ⟨rfl,b1,b3⟩;exact wpS_pure (h _ b1.perm b1.failed b3)
end
end SortT
namespace SortT
open PyProof.Rows SetT PySem.W
def bV:UN->UN->Bool
 |[],[]=>T
 |[],_::_=>I
 |_::_,[]=>T
 |a::x,b::y=>if a=b then bV x y else decide (a<b)
def mf:∀x,bV x x=T
 |[]=>rfl
 |a::x=>by unfold bV;rw[b_ rfl];exact mf x
def oe:∀x y z,bV x y=I->bV y z=I->bV x z=I
 |[],_::_,_::_,_,_=>rfl
 |a::x,b::y,c::z,i,f=>by
  unfold bV at i f ⊢;by_cases e1:a=b
  .rw[b_ e1]at i;by_cases e2:b=c
   .rw[b_ e2]at f;rw[b_ (e1.trans e2)];exact oe x y z i f
   .rw[f_ e2]at f;rw[f_ (λq=>e2 (e1.symm.trans q)),e1];exact f
  .grind
def sV:∀x y z,bV x z=I->bV x y=I\/bV y z=I
 |[],[],_::_,_=>.inr rfl
 |[],_::_,_,_=>.inl rfl
 |_::_,[],_::_,_=>.inr rfl
 |a::x,b::y,c::z,h=>by
  unfold bV at h ⊢;by_cases e1:a=b
  .rw[b_ e1];by_cases e2:b=c
   .rw[b_ e2];rw[b_ (e1.trans e2)]at h;exact sV x y z h
   .rw[f_ (λq=>e2 (e1.symm.trans q)),e1]at h;rw[f_ e2];exact .inr h
  .grind
def j9:∀x y,bV x y=T->bV y x=T->x=y
 |[],[],_,_=>rfl
 |a::x,b::y,f,i=>by
  unfold bV at f i;by_cases e:a=b
  .rw[b_ e]at f;rw[b_ e.symm]at i;rw[e,j9 x y f i]
  .rw[f_ e]at f;rw[f_ (λq=>e q.symm)]at i
   grind
def EH:KeyOrd:=⟨UN,bV,mf,oe,sV,j9⟩
def EI(l:UP):Prop:=l.Pairwise λx y=>bV y x=T
section
variable{prog:Program}{w:World}{A:Around}{E:UA}{s:Shared}
def p_(prog:Program)(w:World)(h:Heap)(v:Value):UN:=Classical.epsilon λk=>∃a,v=.ref a/\TK prog w h k a
def hV(t:TK prog w h k a):p_ prog w h (.ref a)=k:=by
 have:=Classical.epsilon_spec (p:=λk=>∃b,Value.ref a=.ref b/\TK prog w h k b) ⟨k,a,rfl,t⟩
 obtain⟨b,e,f⟩:=this;cases e;exact IsTupleKey.inj f t
def Ja:∀(xs ys:UT)(f l:UN)(i:Nat),ItemsAre (intKind prog w) f xs->ItemsAre (intKind prog w) l ys->fin=decide (xs.length<ys.length)->Q (bV f l) s ->
  KatLex prog w A b fin Q (xs.zip ys) i s:=by
 intro xs
 induction xs with
 |nil =>
  intro ys f l i H C hf a;cases H
  cases C with
  |nil=>rw[hf];exact a
  |cons L M=>rw[hf];exact a
 |cons x xs O =>
  intro ys f l i H C hf a
  cases H with
  |@cons j _ u _ L F =>
   cases C with
   |nil=>rw[hf];exact a
   |@cons r y z B M G =>
    obtain⟨R,rfl⟩:=Value.isInt_shape (k:=j) (v:=x) L;obtain⟨P,rfl⟩:=Value.isInt_shape (k:=r) (v:=y) M;refine kat_cons (wpAny_eqBool_int ?_);unfold bV at a;by_cases e:j=r
    .rw[b_ e]at a
     have:(j==r)=I:=by simpa using e
     rw[this];exact kat_yes (O B u z (i+1) F G (by rw[hf];simp) a)
    .rw[f_ e]at a
     have:(j==r)=T:=by simpa using e
     rw[this];refine kat_no ?_
     cases S:(b&&i==0) with
     |true=>exact oneLt_int a
     |false=>exact kat_one _ _ (wpAny_lt_int a)
def M3(prog:Program)(w:World)(A:Around)(E:UA)(s:Shared)(b:Bool):vb prog w A E s (tuples' b) EH where
 key:=λp=>p_ prog w s.heap p.1
 dflt:=([]:UN)
 good:=λp=>∃a k,p.1=.ref a/\TK prog w s.heap k a
 ask:=λx y st Q S G H R=>by
  obtain⟨X,x2⟩:=x;obtain⟨Z,y2⟩:=y;obtain⟨O,B,ex,z⟩:=S;obtain⟨U,F,C,ty⟩:=G;simp only at ex C;subst ex;subst C;have M:Q (J (bV B F)) st:=by
   have L:=hV z;have P:=hV ty;have e:EH.blt (p_ prog w s.heap (.ref O)) (p_ prog w s.heap (.ref U))=bV B F:=by rw[L,P];rfl
   rw[<-e];exact R
  obtain⟨ox,ix,nx,l,_,u,r⟩:=z;obtain⟨oy,iy,W,f,_,j,i⟩:=ty;rw[lt'_eq];refine wpS_bind (wpS_get ?_);rw[H];refine wpS_bind (wpS_lift (wpAny_attempt (kat_lt l u f j (Ja _ _ _ _ _ r i (by simp) ⟨rfl,?_⟩))));exact wpS_pure M
def ub{z:UT}{F:UP}{Q:SortKind->Shared->Prop}(P:Db prog w s.heap z.toArray F)(H:∀k∈F,k≠[])(h1:0<z.length)(h:Q (tuples' I) s):
  wpAny (model prog w) A (keyKind' z.toArray) Q E s:=by
 have B:z.length=F.length:=by have:=P.1;simpa using this
 have key:∀(y:UT)(j:UP),y.length=j.length->(∀(i:Nat)(v:Value)(k:UN),y[i]?=J v->j[i]?=J k->∃a,v=.ref a/\TK prog w s.heap k a)->(∀k∈j,k≠[]) ->
   ∃fs:UT,fs.length=y.length/\KatTups s.heap y fs/\∀v∈fs,∃i t,v=.int i t:=by
  intro y
  induction y with
  |nil=>intro j _ _ _;exact⟨[],rfl,KatTups.nil,λv hv=>by cases hv⟩
  |cons u y ih =>
   intro j X r S
   cases j with
   |nil=>simp at X
   |cons k j =>
    obtain⟨a,rfl,o,items,n,ho,hc,hd,hi⟩:=r 0 u k rfl rfl;obtain⟨fs,U,O,M⟩:=ih j (by simpa using X) (λi v L hv f=>r (i+1) v L (by simpa using hv) (by simpa using f)) (λL f=>S L (lb _ f))
    cases k with
    |nil=>exact absurd rfl (S [] wj)
    |cons R kr =>
     have C:=hi;generalize G:items.toList=l at C
     cases C with
     |@cons _ v0 _ vr Z hr =>
      obtain⟨W,rfl⟩:=Value.isInt_shape Z;have hg:items[0]?=J (.int R W):=by rw[<-w_,G];rfl
      refine⟨.int R W::fs,by simp[U],KatTups.cons ho hc hd hg O,λv hv=>?_⟩;rcases k4.mp hv with rfl|hv
      .exact⟨_,_,rfl⟩
      .exact M v hv
 obtain⟨fs,U,O,M⟩:=key z F B (λi v k hv f=>P.2 i v k (by simpa using hv) f) H;refine kat_kind (T:=.type "int") O ⋯ (λv hv=>?_) (by decide) ?_
 .obtain⟨i,t,rfl⟩:=M v hv;exact .now
 .exact h
def zm(ho:s.heap.get? a=J (seqObj "list" vs.toArray n))(G:Db prog w s.heap vs.toArray z)(ay:∀k∈z,k≠[])(a6:vs.length<=66)(h:∀(O:UT) (R:UP),Db prog w s.heap O.toArray R->O.Perm vs->R.Perm z->EI R->P (.done (.ret .none)) { s with heap:=sortedHeap s.heap a vs O.toArray}):
  wpAny (model prog w) A (Builtin.«list.sort» ⟨[.ref a],[]⟩) P E s:=by
 rw[list_sort_plain];have B:vs.length<=sizeLine:=by rw[sizeLine_eq];lia
 refine d_ (listItems_at ho rfl ?_);refine d_ (listUpdate_at ho rfl ?_ (by rw[qd];exact B) (wl _));obtain⟨e1,al⟩:∃e1,(s.heap.update a (Obj.mapSeq λ_=>(#[]:Array Value))).get? a=J (seqObj "list" #[] e1):=⟨_,get?_update_seq ho λ_=>#[]⟩;refine d_ (seqEpoch_at al rfl ?_);refine d_ (wpAny_newTuple ?_ (by show vs.length<=_;exact B));refine d_ (wpAny_newList ?_ (wl _));refine wpAny_holding ?_;have H:(((s.heap.update a (Obj.mapSeq λ_=>(#[]:Array Value))).push (seqObj "tuple" vs.toArray 0)).push (seqObj "list" #[] 0)).get? a=J (seqObj "list" #[] e1) :=
  m_ _ (m_ _ al)
 have X:∀k b,TK prog w s.heap k b->TK prog w (((s.heap.update a (Obj.mapSeq λ_=>(#[]:Array Value))).push (seqObj "tuple" vs.toArray 0)).push (seqObj "list" #[] 0)) k b:=by
  rintro k b ⟨o,items,m,hb,hc,r⟩;have U:b≠a:=by rintro rfl;rw[ho]at hb;cases hb;have ax:Value.type "list"=Value.type "tuple":=hc;exact absurd ax (by decide)
  exact⟨o,items,m,m_ _ (m_ _ ((PZ _ _ _ _ U).trans hb)),hc,r⟩
 show wpAny (model prog w) A _ P E { s with heap:=((s.heap.update a (Obj.mapSeq λ_=>(#[]:Array Value))).push (seqObj "tuple" vs.toArray 0)).push (seqObj "list" #[] 0)};have an:Db prog w (((s.heap.update a (Obj.mapSeq λ_=>(#[]:Array Value))).push (seqObj "tuple" vs.toArray 0)).push (seqObj "list" #[] 0)) vs.toArray z :=
  ⟨G.1,λi v k hv l=>let⟨b,e,t⟩:=G.2 i v k hv l;⟨b,e,X k b t⟩⟩
 have a5:vs.toArray.size=vs.length:=by simp
 dsimp only;by_cases h2:vs.toArray.size<2
 .rw[b_ h2,b_ h2];refine d_ (ii ?_);rw[StateT.run_pure];refine d_ (ii ?_);dsimp only;refine d_ (seqEpoch_at H rfl ?_);have hz:((vs.toArray.zip vs.toArray).map (·.2))=vs.toArray:=by
   apply FZ.mp;simp only[Array.toList_map,Array.toList_zip,List.toList_toArray];exact List.map_snd_zip (il _)
  refine d_ (listUpdate_at H rfl ?_ (wl _) (by show((vs.toArray.zip vs.toArray).map (·.2)).size<=_;rw[hz,a5];lia));simp only[bne_self_eq_false,o0,if_false];refine ii ?_
  have:=h vs z G (List.Perm.refl _) (List.Perm.refl _) (by
   have hl:z.length<2:=by have:=G.1;lia
   unfold EI
   match z,hl with
   |[],_=>simp
   |[x],_=>simp)
  have e:(arrOf (SortSt.mk' general' (vs.toArray.zip vs.toArray) #[] 7 Y)).map (·.2)=vs.toArray:=hz;rw[e];exact this
 .rw[f_ h2,f_ h2];refine d_ (ub (s:={ s with heap:=_}) an ay ⋯ ?_);have a4:(pairsOf vs).size=vs.length:=pairsOf_size vs
  refine d_ (wpAny_mono (Am (C:=M3 prog w A E { s with heap:=((s.heap.update a (Obj.mapSeq λ_=>(#[]:Array Value))).push (seqObj "tuple" vs.toArray 0)).push (seqObj "list" #[] 0)} I)
   (a₀:=pairsOf vs) (st:=SortSt.mk' (tuples' I) (vs.toArray.zip vs.toArray) #[] 7 Y)
   (Q:=λ_ f=>(arrOf f).Perm (pairsOf vs)/\failedOf f=Y/\ql (M3 prog w A E { s with heap:=((s.heap.update a (Obj.mapSeq λ_=>(#[]:Array Value))).push (seqObj "tuple" vs.toArray 0)).push (seqObj "list" #[] 0)} I) (arrOf f) 0 (pairsOf vs).size)
   ?_ ⟨Array.Perm.refl _,rfl,rfl⟩ rfl ⋯ ⋯ λf a1 a2 a3=>⟨a1,a2,a3⟩) ?_ λ_ _ e=>e)
  .intro p S;rw[pairsOf_toList]at S;obtain⟨q1,q2⟩:=mem_zip_self S;obtain⟨i,u⟩:=Bo.mp q2
   obtain⟨k,l⟩:∃k,z[i]?=J k:=⟨_,zb (by
    have h3:=(oI.mp u).1
    have:=G.1;lia)⟩
   obtain⟨b,e,t⟩:=an.2 i p.1 k (by simpa using u) l;exact⟨b,k,e,t⟩
  .rintro⟨⟨⟩,f⟩ s' ⟨rfl,S,hf,hs⟩;dsimp only;refine d_ (seqEpoch_at H rfl ?_);have hz:((arrOf f).map (·.2)).size=vs.length:=by rw[Array.size_map,S.size_eq,a4]
   refine d_ (listUpdate_at H rfl ?_ (wl _) (by show((arrOf f).map (·.2)).size<=_;rw[hz];lia));rw[hf];simp only[bne_self_eq_false,o0,if_false];refine ii ?_;have hl:(arrOf f).toList.Perm (vs.zip vs):=by rw[<-pairsOf_toList];exact PK.mp S
   have F:∀p,p∈(arrOf f).toList->p.1=p.2/\p.1∈vs:=λp ap=>mem_zip_self (hl.mem_iff.mp ap);have hv:∀v,v∈vs->∃k b,v=.ref b/\TK prog w s.heap k b/\k∈z:=λv hv=>by
    obtain⟨i,u⟩:=Bo.mp hv
    obtain⟨k,l⟩:∃k,z[i]?=J k:=⟨_,zb (by
     have h3:=(oI.mp u).1
     have:=G.1;lia)⟩
    obtain⟨b,e,t⟩:=G.2 i v k (by simpa using u) l;exact⟨k,b,e,t,Bo.mpr ⟨i,l⟩⟩
   have W:vs.map (p_ prog w s.heap)=z:=by
    apply Ky;intro i;rw[pr]
    cases u:vs[i]? with
    |none =>
     have:=List.getElem?_eq_none_iff.mp u
     rw[Dg (by have:=G.1;lia)];rfl
    |some v =>
     obtain⟨k,l⟩:∃k,z[i]?=J k:=⟨_,zb (by
      have h3:=(oI.mp u).1
      have:=G.1;lia)⟩
     obtain⟨b,e,t⟩:=G.2 i v k (by simpa using u) l;subst e;rw[l];show J (p_ prog w s.heap (.ref b))=J k;rw[hV t]
   have M:∀v,v∈vs->p_ prog w (((s.heap.update a (Obj.mapSeq λ_=>(#[]:Array Value))).push (seqObj "tuple" vs.toArray 0)).push (seqObj "list" #[] 0)) v=p_ prog w s.heap v:=λv y=>by
    obtain⟨k,b,rfl,t,_⟩:=hv v y;rw[hV t,hV (X k b t)]
   have L:=h ((arrOf f).toList.map (·.2)) ((arrOf f).toList.map λp=>p_ prog w s.heap p.1) ?_ ?_ ?_ ?_
   .have e:((arrOf f).toList.map (·.2)).toArray=(arrOf f).map (·.2):=by apply FZ.mp;simp
    rw[e]at L;exact L
   .refine⟨by simp,λi v k y l=>?_⟩;rw[Lh,pr]at y;rw[pr]at l
    cases u:(arrOf f).toList[i]? with
    |none=>rw[u]at y;cases y
    |some p =>
     rw[u]at y l;cases y;cases l;obtain⟨q1,q2⟩:=F p (Ci u);obtain⟨k,b,e,t,_⟩:=hv p.1 q2;refine⟨b,by show p.2=_;rw[<-q1];exact e,?_⟩;show TK prog w s.heap (p_ prog w s.heap p.1) b;rw[e,hV t];exact t
   .have q:=hl.map (·.2);rw[List.map_snd_zip (il _)]at q;exact q
   .have q:=hl.map λp=>p_ prog w s.heap p.1;have e2:(vs.zip vs).map (λp=>p_ prog w s.heap p.1)=z:=by
     rw[<-W]
     have:(vs.zip vs).map (λp=>p_ prog w s.heap p.1)=((vs.zip vs).map Prod.fst).map (p_ prog w s.heap):=by rw[Bp];rfl
     rw[this,List.map_fst_zip (il _)]
    rw[e2]at q;exact q
   .unfold EI;rw[Kx,FP];intro i j u hj a0;have as:i<(arrOf f).size:=by simpa using u
    have Z:j<(arrOf f).size:=by simpa using hj
    have q:=hs i j (wl _) (vw a0) (by rw[<-S.size_eq];exact Z);rw[aP (getElem?_pos _ i as),aP (getElem?_pos _ j Z)]at q;have m1:=(F (arrOf f)[i] (by simp)).2;have m2:=(F (arrOf f)[j] (by simp)).2;have q':bV (p_ prog w (((s.heap.update a (Obj.mapSeq λ_=>(#[]:Array Value))).push (seqObj "tuple" vs.toArray 0)).push (seqObj "list" #[] 0)) (arrOf f)[j].1)
     (p_ prog w (((s.heap.update a (Obj.mapSeq λ_=>(#[]:Array Value))).push (seqObj "tuple" vs.toArray 0)).push (seqObj "list" #[] 0)) (arrOf f)[i].1)=T:=q
    rw[M _ m1,M _ m2]at q';simpa using q'
def nL(j:h.get? a=J (seqObj "list" vs.toArray n))(f:Array Value):∃c,(sortedHeap h a vs f).get? a=J (seqObj "list" f c):=by obtain⟨e1,i⟩:∃e1,(h.update a (Obj.mapSeq λ_=>(#[]:Array Value))).get? a=J (seqObj "list" #[] e1):=⟨_,get?_update_seq j λ_=>#[]⟩;exact⟨_,get?_update_seq (m_ _ (m_ _ i)) λ_=>f⟩
def mS(i:b≠a)(j:h.get? b=J o)(f:Array Value):(sortedHeap h a vs f).get? b=J o:=by unfold sortedHeap;rw[PZ _ _ _ _ i];exact m_ _ (m_ _ ((PZ _ _ _ _ i).trans j))
structure Told(prog:Program)(w:World)(R:Value->Prop)(H0 h h':Heap)(l:Addr)(ks:UP)(out:UT)(ks':UP):Prop where
 ext:BZ h h'
 fresh:h.get? l=Y
 size:h.objs.size<=l
 at':∃c,h'.get? l=J (seqObj "list" out.toArray c)
 lie:Db prog w H0 out.toArray ks'
 perm:ks'.Perm ks
 ris:EI ks'
 mem:∀v∈out,R v
def yz(hx:BZ H0 s.heap)(ap:∀k∈ks,k≠[])(as:ks.length<=66)(hc:wpAny (model prog w) A.in1 (collect v) (λj s1=>∃G C f,s1={ s with heap:=G,toks:=C}/\BZ s.heap G/\s.heap.objs.size<G.objs.size/\s.toks<=C/\Db prog w H0 (List.toArray j) f/\f.Perm ks/\∀v∈j,R v) E s)(h:∀G C l r F,Told prog w R H0 s.heap G l ks r F->s.toks<=C->Q (.ref l) { s with heap:=G,toks:=C}):
  wpAny (model prog w) A (call (.builtin "sorted") [v]) Q E s:=by
 refine Calls.call_function_entry kind_sorted plain_sorted entry_sorted (args_sorted1 _) ?_;refine d_ (ii ?_);refine d_ (wpAny_mono hc (λj s1 W=>?_) λ_ _ e=>e);obtain⟨z,C,f,rfl,L,M,ax,a,Z,hR⟩:=W;have O:j.length=f.length:=by have:=a.1;simpa using this
 have P:j.length<=66:=by rw[O,Z.length_eq];exact as
 refine d_ (wpAny_newList ?_ (by rw[sizeLine_eq];lia));have B:(z.push (seqObj "list" j.toArray 0)).get? z.objs.size=J (seqObj "list" j.toArray 0):=rT _ rfl;have up:∀b o,z.get? b=J o->(z.push (seqObj "list" j.toArray 0)).get? b=J o:=λb o e=>m_ _ e;have U:Db prog w (z.push (seqObj "list" j.toArray 0)) j.toArray f:=⟨a.1,λi u k X H=>let⟨b,e,t⟩:=a.2 i u k X H;⟨b,e,kz (λc o ho=>up c o (L c o (hx c o ho))) t⟩⟩
 refine d_ (wpAny_holding (wpAny_call_entry slot_list_sort ⟨_,B,rfl⟩ entry_list_sort
  (zm B U (λk H=>ap k (Z.mem_iff.mp H)) P λr F l2 pv p2 r2=>⟨_,rfl,?_⟩) (args_list_sort _)))
 refine ii ⟨_,rfl,?_⟩;have y:s.heap.get? z.objs.size=Y:=by
  cases e:s.heap.get? z.objs.size with
  |none=>rfl
  |some o=>exact absurd (l_ (L _ _ e)) (B4 _)
 refine h _ C z.objs.size r F ⟨λb o e=>?_,y,vw M,nL B _,⟨l2.1,λi u k X H=>?_⟩,p2.trans Z,r2,λv hv=>hR v (pv.mem_iff.mp hv)⟩ ax
 .have hb:=u_ (l_ (L b o e));exact mS hb (up b o (L b o e)) _
 .obtain⟨b,e,t⟩:=l2.2 i u k X H;have al:r[i]?=J u:=by simpa using X
  have S:=pv.mem_iff.mp (Ci al);obtain⟨q,W⟩:=Bo.mp S;obtain⟨k1,an⟩:∃k1,f[q]?=J k1:=⟨_,zb (by have:=(oI.mp W).1;lia)⟩;obtain⟨b1,e1,t1⟩:=a.2 q u k1 (by simpa using W) an;rw[e]at e1;cases e1;have t2:=kz (λc o ho=>up c o (L c o (hx c o ho))) t1
  have:=IsTupleKey.inj t t2
  subst this;exact⟨b,e,t1⟩
def wL(G:A.handled=Y)(r:dk prog w (PB H0 R) s.heap S (bY w) u)(F:BZ H0 s.heap)(B:∀k∈u,k≠[])(C:u.length<=66)(h:∀j i l y f,Told prog w (λv=>∃a,v=.ref a/\R a) H0 s.heap j l u y f->s.toks<=i->Q (.ref l) { s with heap:=j,toks:=i}):
  wpAny (model prog w) A (call (.builtin "sorted") [.ref S]) Q E s :=
 yz F B C (uF (by simpa using G) r F λj i H f a z b c e d=>⟨j,i,f,rfl,a,z,b,c,d,e⟩) h
end
end SortT
namespace SortT
open PyProof.Rows PySem.W
section
variable{prog:Program}{w:World}{A:Around}{E:UA}{s:Shared}{rk:Value->Int}{vs:UT}
end
end SortT
namespace MM
open PySem.Spec PyProof.Rows L2 SetT SortT
def i7:UL->Option (UN)
 |[]=>J []
 |.int i::r=>(i7 r).map (i::·)
 |_=>Y
def Pa:PV->Option (UN)
 |.tup xs=>i7 xs
 |_=>Y
def km:UL->Option (UP)
 |[]=>J []
 |x::r=>(match Pa x,km r with
  |some k,J a=>J (k::a)
  |_,_=>Y)
def kP(k:UN):PV:=.tup (k.map .int)
def cf(l:UP):UP:=l.mergeSort λx y=>!bV y x
def cg(l:UP):(cf l).Perm l:=List.mergeSort_perm _ _
def jL(l:UP):EI (cf l):=by
 have:=List.pairwise_mergeSort (le:=λx y=>!bV y x) (λa b c f i=>by
   simp only[FX]at f i ⊢
   exact KeyOrd.kle_trans (O:=EH) f i) (λa b=>by
   cases h:bV b a with
   |false=>simp
   |true =>
    have:bV a b=T:=KeyOrd.klt_asymm (O:=EH) h
    simp[this])
 unfold EI cf
 simp_all
def jK(f:EI l)(i:EI m)(p:l.Perm m):l=m :=
 List.Perm.eq_of_pairwise (λa b _ _ x y=>j9 a b y x) f i p
def tE:∀{xs:UL}{k:UN},i7 xs=J k->xs=k.map .int
 |[],k,h=>by cases h;rfl
 |x::r,k,h=>by
  cases x with
  |int i =>
   unfold i7 at h
   cases a:i7 r with
   |none=>rw[a]at h;cases h
   |some f =>
    rw[a]at h;cases h;rw[tE a];rfl
  |_=>cases h
def Jb(h:Pa x=J k):x=kP k:=by
 cases x with
 |tup xs=>unfold kP;rw[tE (show i7 xs=J k from h)]
 |_=>cases h
def vS:∀{xs:UL}{a:UP},km xs=J a->xs=a.map kP
 |[],a,h=>by cases h;rfl
 |x::r,a,h=>by
  unfold km at h
  cases f:Pa x with
  |none=>rw[f]at h;cases h
  |some k =>
   cases i:km r with
   |none=>rw[f,i]at h;cases h
   |some j =>
    rw[f,i]at h;cases h;rw[Jb f,vS i];rfl
def Jc(K:ib)(H:Hp)(ys:List V)(f:UP):Prop :=
 ys.length=f.length/\∀(i:Nat)(y:V)(k:UN),ys[i]?=J y->f[i]?=J k->∃a,y=.ref a/\SqT K H a (k.map V.int)
def CW{K:ib}{U:US}{H:Hp}:∀{k:UN}{ys:List V},RPs K U H (k.map PV.int) ys->ys=k.map V.int
 |[],ys,h=>by cases h;rfl
 |i::k,ys,h=>by
  cases h with
  |cons r t =>
   cases r;rw[CW t];rfl
def we{K:ib}{U:US}{H:Hp}:∀{a:UP}{ys:List V},RPs K U H (a.map kP) ys->Jc K H ys a
 |[],ys,h=>by cases h;exact⟨rfl,λi y k e=>by simp at e⟩
 |k::a,ys,h=>by
  cases h with
  |cons r t =>
   obtain⟨l,g⟩:=we t;refine⟨by simp[l],λi y u e1 e2=>?_⟩
   cases i with
   |zero =>
    simp at e1 e2;subst e1;subst e2
    cases r with
    |tup f j =>
     rw[CW j]at f;exact⟨_,rfl,f⟩
   |succ i=>exact g i y u (by simpa using e1) (by simpa using e2)
def vn{K:ib}{U:US}{H:Hp}:∀{f:UP}{ys:List V},Jc K H ys f->RPs K U H (f.map kP) ys
 |[],ys,h=>by
  have:=C4.mp (by have:=h.1;simpa using this)
  subst this;exact .nil
 |k::f,ys,h=>by
  cases ys with
  |nil=>have:=h.1;simp at this
  |cons y ys =>
   obtain⟨a,rfl,r⟩:=h.2 0 y k rfl rfl;refine .cons (.tup r (RPs.ints k)) (vn ⟨by have:=h.1;simpa using this,λi l j e1 e2=>h.2 (i+1) l j (by simpa using e1) (by simpa using e2)⟩)
def nH:∀{k:UN}{a:UT},aB (k.map V.int) a->ItemsAre (intKind prog w) k a
 |[],_,h=>by cases h;exact .nil
 |i::k,_,h=>by
  cases h with
  |cons r t =>
   obtain⟨f,rfl⟩:=r;exact .cons (intKind_is _ _ _ _) (nH t)
section
variable{X:Cx}{LU:List (Addr × Obj)}{Z:L2.St}{H:Hp}{s:Shared}
def fC(i:Inv X LU Z H s)(h:SqT X.K H a (k.map V.int)):TK X.prog X.w s.heap k a:=by obtain⟨f,l,⟨o,j,r,n,hd⟩,_⟩:=i.tuple h;exact⟨o,f.toArray,n,j,r,hd,by simpa using nH l⟩
def EJ(f:Inv X LU Z H s)(h:Jc X.K H ys ks)(r:aB ys its):Db X.prog X.w s.heap its.toArray ks:=by
 refine⟨by simp[<-r.length,h.1],λi v k hv j=>?_⟩;have B:i<ys.length:=by rw[h.1];exact(oI.mp j).1
 obtain⟨a,e,y⟩:=h.2 i ys[i] k (by simp) j;obtain⟨u,z,l⟩:=r.get (show ys[i]?=J ys[i] by simp)
 have:v=u:=by simp_all
 subst this;rw[e]at l;exact⟨a,l,fC f y⟩
end
def Gk(prog:Program)(w:World)(S:Addr)(i:List (UN×Addr))(h:Heap):Prop :=
 ∃o a f t,h.get? S=J o/\o.ExactSet/\o.data=.set a f t/\t.dummies=#[]/\(t.mask=7\/t.mask=31\/t.mask=127)/\t.plain=I/\t.led=bY w /\
  WF t.mask t.place (a.map (·.1))/\lu t a.size/\a.toList=i.map λp=>(TH prog w p.1,Value.ref p.2)
def Jd(f:dk prog w P h S (bY w) ks):
  ∃j,Gk prog w S j h/\(j.map (·.1)).Perm ks/\∀p∈j,TK prog w h p.1 p.2/\P p.2:=by
 obtain⟨o,L,M,t,G,f,Q,E,U⟩:=f;have key:∀(l:List (Int×Value))(r:UP),l.length=r.length->(∀(i:Nat)(e:Int×Value)(k:UN),l[i]?=J e->r[i]?=J k->∃a,e.2=.ref a/\TK prog w h k a/\e.1=TH prog w k/\P a) ->
   ∃j:List (UN×Addr),l=j.map (λp=>(TH prog w p.1,Value.ref p.2))/\j.map (·.1)=r/\∀p∈j,TK prog w h p.1 p.2/\P p.2:=by
  intro l
  induction l with
  |nil =>
   intro r y _
   have:=C4.mp (by simpa using y.symm)
   subst this;exact⟨[],rfl,rfl,λp u=>by cases u⟩
  |cons e l W =>
   intro r y g
   cases r with
   |nil=>simp at y
   |cons k r =>
    obtain⟨a,e1,e2,e3,e4⟩:=g 0 e k rfl rfl;obtain⟨j,H,B,F⟩:=W r (by simpa using y) λi O R z C=>g (i+1) O R (by simpa using z) (by simpa using C);refine⟨(k,a)::j,?_,by simp[B],λp u=>?_⟩
    .congr 1;obtain⟨X,Z⟩:=e;simp only at e1 e3;rw[e1,e3]
    .rcases k4.mp u with rfl|u
     .exact⟨e2,e4⟩
     .exact F p u
 obtain⟨j,H,B,F⟩:=key L.toList G (by exact f.ents.1) λi e k z C=>f.ents.2 i e k (by rw[<-w_];exact z) C;exact⟨j,⟨o,L,M,t,f.get,f.ex,f.data,f.dm,f.mask,f.plain,f.led',f.wf,Q,H⟩,by rw[B];exact E,F⟩
def EK(p:Gk prog w S f h)(G:∀q∈f,TK prog w h q.1 q.2)(y:(f.map (·.1)).Nodup):
  dk prog w (PB h λa=>∃k,(k,a)∈f) h S (bY w) (f.map (·.1)):=by
 obtain⟨o,M,H,t,X,Q,P,F,O,W,E,R,L,l⟩:=p;refine⟨o,M,H,t,f.map (·.1),⟨X,Q,P,F,O,W,E,R,?_,λi e k j r=>?_⟩,L,List.Perm.refl _,y⟩
 .rw[<-BI,l];simp
 .rw[<-w_,l,pr]at j;rw[pr]at r
  cases z:f[i]? with
  |none=>rw[z]at j;cases j
  |some q =>
   rw[z]at j r;cases j;cases r;have B:=Ci z;have C:=G q B;exact⟨q.2,rfl,C,rfl,let⟨U,_,_,u,_⟩:=C;⟨U,u⟩,q.1,B⟩
def wY(p:Gk prog w S al h1)(k:∀o,h1.get? S=J o->h2.get? S=J o):Gk prog w S al h2:=by obtain⟨o,a,f,t,i,r⟩:=p;exact⟨o,a,f,t,k o i,r⟩
section
variable{X:Cx}{N W G:UM}{k:Nat}
def yo(hh:X.calm=I)(hr:Room k X.A):cS X (.type "set") (λxs H Q=>∃l ys y,xs=[.ref l]/\SqL X.K H l ys/\Jc X.K H ys y/\(l7 y).length<=66 /\
  ∀S j,H S=Y->(j.map (·.1)).Perm (l7 y)->(∀p∈j,SqT X.K H p.2 (p.1.map V.int))->Q (.ref S) (kg H S (.ext (Gk X.prog X.w S j)))):=by
 intro LU s Z H xs us Q f r ⟨l,ys,y,e,hq,C,M,q⟩;subst e;obtain⟨u,rfl,rx⟩:=jG r;cases rx;obtain⟨L,O,pl,hz⟩:=f.list hq;have lie:=EJ f C O;refine rC (f.ok.hd hh) (by have:=hr.units;lia) pl.isList lie M λh' tk E x ap=>?_;obtain⟨j,sp,pm,R⟩:=Jd E;have F:=f.hok.fresh (il s.heap.objs.size);obtain⟨o,es,ep,t,ho,U⟩:=id sp;refine⟨.ref s.heap.objs.size,_,f.laid (o:=.ext (Gk X.prog X.w s.heap.objs.size j)) x (il _) ⟨sp,⟨o,ho⟩,λh1 h2 a b=>wY a b⟩,rfl,q _ j F pm λp hp=>?_⟩;obtain⟨t1,⟨_,hm⟩⟩:=R p hp;obtain⟨i,hi⟩:=Bo.mp hm;have z:L[i]?=J (.ref p.2):=by simpa using hi
 have P:=(oI.mp z).1;have B:i<ys.length:=by rw[O.length];exact P
 have an:i<y.length:=by rw[<-C.1];exact B
 obtain⟨a,e,s1⟩:=C.2 i ys[i] y[i] (by simp) (by simp);obtain⟨u,eu,ru⟩:=O.get (show ys[i]?=J ys[i] by simp);rw[z]at eu;cases eu;rw[e]at ru;have ea:p.2=a:=by cases ru;rfl
 have t2:=kz x (fC f s1);rw[<-ea]at t2
 have:=IsTupleKey.inj t1 t2
 rw[this,ea];exact s1
def EL{LU:UU}{s:Shared}{Z:L2.St}{H:Hp}{Q:VK}{R:Value->Prop}{h':Heap}{tk:Nat}{l:Addr}{L F:UP}{j:UT}(E:Inv X LU Z H s)(f:Told X.prog X.w R s.heap s.heap h' l L j F)(hR:∀v,R v->∃(a:Addr)(k:UN),v=.ref a/\SqT X.K H a (k.map V.int))(hz:L.length<=66)(q:∀l ys,H l=Y->Jc X.K H ys (cf L)->Q (.ref l) (kg H l (.lst ys))):EP X LU Z Q (.ref l) { s with heap:=h',toks:=tk}:=by
 have S:=f.size;have M:=jK f.ris (jL L) (f.perm.trans (cg L).symm);obtain⟨c,hc⟩:=f.at';have z:j.length=F.length:=by have:=f.lie.1;simpa using this
 have B:∀v∈j,∃a,v=.ref a:=λv hv=>let⟨a,_,e,_⟩:=hR v (f.mem v hv);⟨a,e⟩;obtain⟨ys,U,C⟩:∃ys:List V,aB ys j/\∀y∈ys,∃a,y=.ref a/\Value.ref a∈j:=by
  clear z f hR M hc
  induction j with
  |nil=>exact⟨[],.nil,λy C=>by cases C⟩
  |cons v j ih =>
   obtain⟨a,rfl⟩:=B v wj;obtain⟨ys,r,g⟩:=ih (λu hu=>B u (lb _ hu));refine⟨.ref a::ys,.cons rfl r,λy C=>?_⟩;rcases k4.mp C with rfl|C
   .exact⟨a,rfl,wj⟩
   .obtain⟨b,e,m⟩:=g y C;exact⟨b,e,lb _ m⟩
 have P:Jc X.K H ys F:=by
  refine⟨by rw[U.length,z],λi y k O hk=>?_⟩;obtain⟨u,eu,ru⟩:=U.get O;obtain⟨a,e,m⟩:=C y (Ci O);subst e;cases ru;obtain⟨b,k2,e2,s1⟩:=hR _ (f.mem _ m);cases e2;obtain⟨b2,e3,t⟩:=f.lie.2 i (.ref a) k (by simpa using eu) hk;cases e3
  have:=IsTupleKey.inj t (fC E s1)
  subst this;exact⟨a,rfl,s1⟩
 have al:=E.hok.fresh S;refine⟨.ref l,_,E.laid (o:=.lst ys) f.ext S (⟨?_,j,c,U,hc⟩),rfl,q l ys al (by rw[<-M];exact P)⟩;rw[U.length,z,f.perm.length_eq,sizeLine_eq];lia
def sZ(hh:X.calm=I):cS X (.builtin "sorted") (λxs H Q=>∃S i,xs=[.ref S]/\H S=J (.ext (Gk X.prog X.w S i))/\(∀p∈i,SqT X.K H p.2 (p.1.map V.int))/\(i.map (·.1)).Nodup/\(∀p∈i,p.1≠[])/\i.length<=66 /\
  ∀l ys,H l=Y->Jc X.K H ys (cf (i.map (·.1)))->Q (.ref l) (kg H l (.lst ys))):=by
 intro LU s Z H xs us Q f r ⟨S,i,e,L,j,C,B,E,q⟩;subst e;obtain⟨u,rfl,rx⟩:=jG r;cases rx;obtain⟨O,_,_⟩:=(f.hok S _ L);have y:=EK O (λp z=>fC f (j p z)) C;refine wL (f.ok.hd hh) y (λb o e=>e) (λk F=>?_) (by simpa using E) λh' tk l R an P U=>?_
 .obtain⟨p,z,rfl⟩:=nw.mp F;exact B p z
 .refine EL f P (λv ⟨a,e,k,M⟩=>⟨a,k,e,j (k,a) M⟩) (by simpa using E) q
def dJ(h:MH):PV->Option (UL)
 |.frl xs=>J xs
 |.loc n=>(match h[n]? with
  |some (.lst xs)=>J xs
  |_=>Y)
 |_=>Y
def pz{U:US}{H:Hp}{h:MH}{x:PV}{y:V}{xs:UL}{K:ib}{mg:DO}(B:RH K mg U H h)(r:RP K U H x y)(e:dJ h x=J xs):∃a f,y=.ref a/\SqL K H a f/\RPs K U H xs f:=by
 cases r with
 |frl s r=>cases e;exact⟨_,_,rfl,s.sq,r⟩
 |@loc n a l =>
  obtain⟨o,j,z⟩:=B.obj l;unfold dJ at e;dsimp only at e;rw[j]at e
  cases o with
  |lst f =>
   cases e;obtain⟨ys,i,u⟩:=z;exact⟨a,ys,rfl,SqL.of i,u⟩
  |_=>cases e
 |_=>cases e
def T7(m:Mx (UL)):Mx PV:=λZ h=>(m Z h).bind λi f=>match i with
 |[x]=>(match (dJ f x).bind km with
  |some a=>if(∀k∈a,k≠[])/\(l7 a).length<=66 then .ok (.loc f.length) (f++[.lst ((cf (l7 a)).map kP)])else .bad
  |none=>.bad)
 |_=>.bad
def i8(l:UP):(l7 l).Nodup:=by
 have key:∀(m:UP)(a:UP),a.Nodup->(m.foldl SetT.bq a).Nodup:=by
  intro m
  induction m with
  |nil=>intro a h;exact h
  |cons k m i =>
   intro a h;refine i _ ?_;unfold SetT.bq;split
   .exact h
   .rename_i f
    rw[Cj];refine⟨h,by simp,λx j y r=>?_⟩
    have:y=k:=by simpa using r
    subst this;rintro rfl;exact f j
 exact key l [] OD
def xS(p:l.Perm m):cf l=cf m:=jK (jL l) (jL m) ((cg l).trans (p.trans (cg m).symm))
def uk(g:Good X N W G k){a:Expr}{m:Mx (UL)}{i j:Nat}{p p' ap r:Pos}(hi:G[i]?=J "sorted")(hm:X.mg "sorted"=Y)(hj:G[j]?=J "set")(R:X.mg "set"=Y)(ha:MA X [a] m)(hs:starEach [a] X.env=[(T,eval a X.env)]:=by rfl)(he:starEach [.Call (.Name "set" p') [a] [] r] X.env=[(T,eval (.Call (.Name "set" p') [a] [] r) X.env)]:=by rfl):
  ME X (.Call (.Name "sorted" p) [.Call (.Name "set" p') [a] [] r] [] ap) (T7 m):=by
 have d:=g.dbg _ (o_ _ (aL hi));have d':=g.dbg _ (o_ _ (aL hj));refine PE.imp (ng (sZ g.calm) (g.gl _ (aL hi)) hm PyProof.Rows.Boot.«sorted» (fX (gu (yo g.calm g.room) (g.gl _ (aL hj)) R PyProof.Rows.Boot.«set» ha d'.2.2 d'.1 hs rfl) jx he) d.2.2 d.1 he rfl) λZ H Q ⟨U,an,h,rs,rh,q⟩=>?_;refine⟨U,an,h,rs,rh,Ful.bind q λU1 H1 x x' h1 ex l1 u rx f=>?_⟩
 cases rx with
 |nil=>exact f.elim
 |@cons y y' _ _ r1 t1 =>
  cases t1 with
  |cons _ _=>exact f.elim
  |nil =>
   dsimp only at f
   cases hl:dJ h1 y with
   |none=>rw[hl]at f;exact f.elim
   |some xs =>
    rw[hl]at f
    cases F:km xs with
    |none=>simp only[Cv,F]at f;exact f.elim
    |some B =>
     simp only[Cv,F]at f;by_cases z:(∀k∈B,k≠[])/\(l7 B).length<=66
     .rw[b_ z]at f;obtain⟨la,zs,rfl,as,C⟩:=pz u r1 hl;rw[vS F]at C;refine⟨la,zs,B,rfl,as,we C,z.2,λS al hS pm P=>?_⟩;obtain⟨L,l2⟩:=u.loose hS (.ext (Gk X.prog X.w S al));refine⟨S,al,rfl,bQ,λp O=>l2.sqt (P p O),pm.nodup_iff.mpr (i8 B),λp O=>?_,?_,λl ys M tk=>?_⟩
      .have:p.1∈l7 B:=pm.mem_iff.mp (nw.mpr ⟨p,O,rfl⟩)
       exact z.1 p.1 ((fL _ _).mp this)
      .have:=pm.length_eq
       rw[q7]at this;rw[this];exact z.2
      .rw[xS pm]at tk;obtain⟨E,l3⟩:=L.new M (o:=.lst ((cf (l7 B)).map kP)) (ho:=.lst ys) ⟨_,rfl,vn tk⟩;exact f _ _ _ (l2.trans l3) E (.loc (by rw[<-u.len];simp))
     .rw[f_ z]at f;exact f.elim
end
end MM
namespace SeqT
abbrev Je(tp:Bool):String:=if tp then "tuple_iterator" else "list_iterator"
abbrev S6(tp:Bool):String:=if tp then "tuple" else "list"
def SqI(j:Bool)(h:Heap)(f a:Addr)(i:Nat):Prop:=∃o,h.get? f=J o/\o.cls=.type (Je j)/\o.data=.fields #[.ref a,.int i 0]
def SqO(f:Bool)(h:Heap)(a:Addr)(xs:Array Value):Prop:=∃o,h.get? a=J o/\o.cls=.type (S6 f)/\∃n,o.data=.seq xs n
def SqI.at'(x:SqI tp h it a i)(k:∀o,h.get? it=J o->h'.get? it=J o):SqI tp h' it a i:=let⟨o,e,r⟩:=x;⟨o,k o e,r⟩
def SqO.at'(x:SqO tp h a xs)(k:∀o,h.get? a=J o->h'.get? a=J o):SqO tp h' a xs:=let⟨o,e,r⟩:=x;⟨o,k o e,r⟩
def SqI.lt(x:SqI tp h it a i):it<h.objs.size:=let⟨_,e,_⟩:=x;l_ e
section
variable{prog:Program}{w:World}{A:Around}{E:UA}{s:Shared}
def yj(z:SqI tp s.heap it a i)(r:SqO tp s.heap a xs)(y:xs[i]?=J x)(u:∀l,SqI tp l it a (i+1)->Heap.SameBut it s.heap l->Q x { s with heap:=l}):wpAny (model prog w) A (Builtin.SmallTypes.nextOf (.ref it)) Q E s:=by
 cases tp with
 |false=>exact wpAny_nextOf_list_item (z) (r) y u
 |true =>
  obtain⟨o,e,C,hd⟩:=id z;obtain⟨G,f,_,H,j⟩:=r;have B:s.TypeIs (.ref it) "tuple_iterator":=⟨o,e,C⟩;refine d_ (wpAny_callSpecial?_slot B F.slot_tuple_iterator_next (wpAny_call_entry F.slot_tuple_iterator_next B F.entry_tuple_iterator_next ?_ (F.args_tuple_iterator_next_1 _)));show wpAny _ _ (field (.ref it) 0 >>= _) _ _ s;refine d_ (wpAny_field e hd rfl ?_);refine d_ (wpAny_field e hd rfl ?_);refine d_ (wpAny_seqItems f j ?_);simp only[AO,y];refine d_ (wpAny_setField e hd (by simp) (ii ⟨x,rfl,ii (u _ ?_ (Heap.SameBut.update ..))⟩));exact⟨_,GO _ e (Obj.isFreed_of_fields (Obj.data_mapFields hd _)),(Obj.cls_mapFields ..).trans C,by rw[Obj.data_mapFields hd];simp[rawInt]⟩
def sH(C:A.handled=Y)(z:SqI tp s.heap it a i)(r:SqO tp s.heap a xs)(y:xs[i]?=Y)(u:∀l e,Heap.ExtBut it s.heap l->(∃o,l.get? e=J o/\o.cls=.type "StopIteration")->E (.ref e) { s with heap:=l}):wpAny (model prog w) A (Builtin.SmallTypes.nextOf (.ref it)) Q E s:=by
 cases tp with
 |false=>exact wpAny_nextOf_list_end C (z) (r) y u
 |true =>
  obtain⟨o,e,G,hd⟩:=id z;obtain⟨H,f,_,L,j⟩:=r;have B:s.TypeIs (.ref it) "tuple_iterator":=⟨o,e,G⟩;refine d_ (wpAny_callSpecial?_slot B F.slot_tuple_iterator_next (wpAny_call_entry F.slot_tuple_iterator_next B F.entry_tuple_iterator_next ?_ (F.args_tuple_iterator_next_1 _)));show wpAny _ _ (field (.ref it) 0 >>= _) _ _ s;refine d_ (wpAny_field e hd rfl ?_);refine d_ (wpAny_field e hd rfl ?_);refine d_ (wpAny_seqItems f j ?_);simp only[AO,y];refine d_ (wpAny_rule (d_ (wpAny_setField e hd (by simp) ?_)));refine d_ ?_;refine d_ (m:=firstArgMember _ _) (wpAny_of_eq (by first | rfl | (simp only)) ?_);refine wpAny_newObj_type ?_ (by size_fits);refine d_ (wpAny_handled ?_);rw[show A.in1.handled=Y from C];refine d_ (ii (wpAny_throw ?_));exact u _ _ (((Heap.SameBut.update ..).extBut.push _).push _) ⟨_,rT _ rfl,rfl⟩
def oZ(i:SqO tp s.heap a xs)(f:Q (.ref s.heap.objs.size) { s with heap:=s.heap.push { cls:=.type (Je tp),data:=.fields #[.ref a,.int 0 0]}}):wpAny (model prog w) A (pyIter (.ref a)) Q E s:=by
 cases tp with
 |false=>exact wpAny_pyIter_list (i) f
 |true=>exact wpAny_pyIter_tuple (i) f
end
def M4(F:A.handled=Y)(y:Bool)(j a:Addr)(r:a≠j)(xs:Array Value):
  Draws prog w A j [j,a] xs.size (λi v=>xs[i]?=J v) (λi h=>SqI y h j a i/\SqO y h a xs) where
 live:=λ_ _ st=>let⟨o,B,_⟩:=st.1;⟨o,B⟩
 frame:=λ_ _ _ st u=>⟨st.1.at' λo e=>u j (by simp) o e,st.2.at' λo e=>u a (by simp) o e⟩
 item:=λi s Q E H st C=>by
  refine yj st.1 st.2 (x:=xs[i]) (by simp) λG l f=>?_;exact C _ G s.toks (by simp) ⟨l,st.2.at' λo e=>(f.2 a r).trans e⟩ f
 done:=λs Q E st z=>sH F st.1 st.2 (by simp) z
def AA(i:Bool)(a:Addr)(xs:Array Value)(n:Nat)(j:UE)(sl:Array (UV)):
  Meets (Builtin.«enumerate.__new__» ⟨[.type "enumerate",.ref a],[]⟩) (λ_ R s=>s.heap.get? a=J { cls:=.type (S6 i),dict:=j,data:=.seq xs n,slots:=sl} /\
   R (.ok (.ret (.ref (s.heap.push { cls:=.type (Je i),data:=.fields #[.ref a,.int 0 0]}).objs.size)))
    { s with heap:=(s.heap.push { cls:=.type (Je i),data:=.fields #[.ref a,.int 0 0]}).push { cls:=.type "enumerate",data:=.fields #[.none,.bool T,.ref s.heap.objs.size,rawInt 0,.none,.none]}}) :=
 .of_wp λprog w A R s h=>by
  obtain⟨r,g,d,u,os⟩:=s;obtain⟨f,h⟩:=h;have l:=sub_enumerate;have hL:SqO i (Shared.heap ⟨r,g,d,u,os⟩) a xs:=⟨_,f,rfl,n,rfl⟩
  wp_walk using AutoSeq1.wpAny_loadPart' f
  refine wpAny_stack_any λst=>ii ?_;split
  .rename_i c _ _ _ _ _
   cases(c==Value.type "enumerate")
   .wp_walk using AutoSeq1.wpAny_loadPart' f,oZ hL
    exact⟨_,rfl,h⟩
   .wp_walk using AutoSeq1.wpAny_loadPart' f,oZ hL
    exact⟨_,rfl,h⟩
  .wp_walk using AutoSeq1.wpAny_loadPart' f,oZ hL
   exact⟨_,rfl,h⟩
section
variable{prog:Program}{w:World}{A:Around}{E:UA}{s:Shared}
def zA(hL:SqO tp s.heap a xs)(h:∀f,IsEnum f (s.heap.objs.size+1) s.heap.objs.size 0 .none->SqI tp f s.heap.objs.size a 0->f.objs.size=s.heap.objs.size+2 ->
   (∀b o,s.heap.get? b=J o->f.get? b=J o)->Q (.ref (s.heap.objs.size+1)) { s with heap:=f}):
  wpAny (model prog w) A (call (.type "enumerate") [.ref a]) Q E s:=by
 obtain⟨⟨c,i,y,sl⟩,r,u,n,hd⟩:=hL;subst u hd;refine callType_new F.called_enumerate (by decide) (F.typeCall_enumerate_1 _) (F.newCall_enumerate_1 _) (λobj=>F.args_object_init_2 obj _) F.entry_enumerate_new (AA tp a xs n i sl) ⟨r,?_⟩;have j:(s.heap.push { cls:=.type (Je tp),data:=.fields #[.ref a,.int 0 0]}).objs.size=s.heap.objs.size+1:=F1 ..;rw[j]
 have l:IsEnum ((s.heap.push { cls:=.type (Je tp),data:=.fields #[.ref a,.int 0 0]}).push
   { cls:=.type "enumerate",data:=.fields #[.none,.bool T,.ref s.heap.objs.size,rawInt 0,.none,.none]}) (s.heap.objs.size+1) s.heap.objs.size 0 .none:=by
  have:=rT (s.heap.push { cls:=.type (Je tp),data:=.fields #[.ref a,.int 0 0]})
   (o:={ cls:=.type "enumerate",data:=.fields #[.none,.bool T,.ref s.heap.objs.size,rawInt 0,.none,.none]}) rfl
  rw[j]at this;exact this
 exact⟨⟨_,l,rfl⟩,h _ l ⟨_,m_ _ (rT _ rfl),rfl,rfl⟩ (by rw[F1,j]) λb o x=>m_ _ (m_ _ x)⟩
end
section
variable{prog:Program}{w:World}{A:Around}{E:UA}{s:Shared}{z TI TO i1 i2 l1 l2:Addr}{t1 t2:Bool}{k1 k2:Nat}{xs ys:Array Value}
end
section
variable{prog:Program}{w:World}{A:Around}{E:UA}{s:Shared}
end
end SeqT
namespace MM
open PySem.Spec PyProof.Rows L2 SeqT
def Gm(f:Bool)(K:ib)(H:Hp)(a:Addr)(ys:List V):Prop:=match f with
 |true=>SqT K H a ys
 |false=>SqL K H a ys
section
variable{X:Cx}{LU:List (Addr × Obj)}{Z:L2.St}{H:Hp}{s:Shared}
def sL(i:Inv X LU Z H s)(h:Gm tp X.K H a ys):∃f:UT,aB ys f/\SqO tp s.heap a f.toArray/\ys.length<=sizeLine:=by
 cases tp with
 |true =>
  obtain⟨f,j,l,r⟩:=i.tuple h;exact⟨f,j,l,r⟩
 |false =>
  obtain⟨f,j,l,r⟩:=i.list h;exact⟨f,j,l.isList,r⟩
def EM(f:Inv X LU Z H s)(h:Gm tp X.K H a xs)(i:Gm tp X.K H a ys):xs=ys:=by
 cases tp with
 |true=>exact f.tuple_inj h i
 |false=>exact f.list_inj h i
def nO(a:Inv X LU Z H s){l:Heap}{t':Nat}{j:US}(hf:∀b∈j,ja X LU H b)(k:∀b o,b∉j->s.heap.get? b=J o->l.get? b=J o):
  Inv X LU Z H { s with heap:=l,toks:=t'}:=by
 have i:∀b u,H b=J u->b∉j:=λb u e z=>by rw[(hf b z).1]at e;cases e
 refine a.step (g':=s.gens) (d':=s.drawn) (λb O=>?_) (λb o _ _ f e _=>k b o f e) (λb o _ _ f e _=>⟨o.slots,k b o f e⟩) (λ_ _ _ _ n=>n)
  (λb o f e=>⟨o,k b o f e⟩) (λ_ _ e=>e) (λ_ _ _ e=>e) (λb P e=>⟨#[],by rw[e];simp⟩) (λm E=>?_) (λb u e=>?_) a.bare
 .obtain⟨Q,F,R,L,y,M⟩:=hf b O;exact⟨L,F,y,M⟩
 .obtain⟨o,C,B,G,r⟩:=E;exact⟨o,C,B,k _ o (λz=>(hf _ z).2.1 rfl) G,r⟩
 .refine (a.hok b u e).stay (λc v f q=>k c v ?_ q) (λ_ q=>q) λ_ _ q=>q;rcases f with z|z
  .rw[z];exact i b u e
  .exact i c _ z
def EN(i:Inv X LU Z H s){h':Heap}{t':Nat}{ch:US}{ys:List V}{its:UT}(hf:∀b∈ch,ja X LU H b)(E:aB ys its)(C:ys.length<=sizeLine)(r:s.heap.objs.size∉ch)(F:h'.get? s.heap.objs.size=J { cls:=.type "tuple",data:=.seq its.toArray})(k:∀b o,b∉ch->s.heap.get? b=J o->h'.get? b=J o):
  Inv X LU Z (kg H s.heap.objs.size (.tup ys)) { s with heap:=h',toks:=t'}/\(∀b∈ch,(kg H s.heap.objs.size (.tup ys)) b=Y)/\H s.heap.objs.size=Y:=by
 have j:=i.hok.fresh (il s.heap.objs.size);have y:∀b∈ch,b≠s.heap.objs.size:=λb a z=>r (by rw[<-z];exact a);have B:Inv X LU Z (kg H s.heap.objs.size (.tup ys)) { s with heap:=s.heap.push { cls:=.type "tuple",data:=.seq its.toArray},toks:=s.toks} :=
  i.laid (λb u q=>m_ _ q) (il _) ⟨C,its,E,_,rT _ rfl,rfl,⟨_,rfl⟩,rfl⟩
 have f:∀b∈ch,(kg H s.heap.objs.size (.tup ys)) b=Y:=λb a=>by rw[aY (y b a)];exact(hf b a).1
 refine⟨?_,f,j⟩;refine nO (t':=t') B (λb a=>⟨f b a,(hf b a).2⟩) λb o a e=>?_;by_cases z:b=s.heap.objs.size
 .have l:(s.heap.push { cls:=.type "tuple",data:=.seq its.toArray}).get? s.heap.objs.size=J { cls:=.type "tuple",data:=.seq its.toArray}:=rT _ rfl
  grind
 .have l:=e;rw[Heap.get?_push_ne _ _ _ z]at l;exact k b o a l
end
def T8(K:ib)(f:Bool)(a:Addr):It :=
 ⟨λi H=>∃ys y,Gm f K H a ys/\ys[i]?=J y,λi H x j=>∃p y,H p=Y/\x=.ref p/\j=kg H p (.tup [.int i,y])/\∀ys,Gm f K H a ys->ys[i]?=J y,λi H=>∃ys,Gm f K H a ys/\ys.length<=i⟩
def yC{P:Program}{w:World}{K:ib}{S:UX}{x1:Nat}{a9:Pos}(tp:Bool)(a e j:Addr)(F:e≠j)(al:a≠e)(a6:a≠j):
  CO P w K (.Tuple S x1 a9) (T8 K tp a) [e,j] e (λi h=>(∃old,IsEnum h e j i old)/\SqI tp h j a i) where
 mem:=by simp
 obj:=λi h st b M=>by
  obtain⟨⟨old,l⟩,C⟩:=st
  have:b=e\/b=j:=by simpa using M
  rcases this with rfl|rfl
  .exact⟨_,l,λv z=>nomatch z⟩
  .obtain⟨o,ho,hc,hd⟩:=C;exact⟨o,ho,λv z=>by rw[hd]at z;cases z⟩
 keep:=λi h h' st k=>let⟨⟨old,l⟩,C⟩:=st;⟨⟨old,k e (by simp) _ l⟩,C.at' λo q=>k j (by simp) o q⟩
 item:=by
  intro X hP hw hK hc i LU s Z H E f hf st hg;subst hP hw hK;obtain⟨⟨old,l⟩,C⟩:=st;obtain⟨ys,y,W,hy⟩:=hg;obtain⟨r,rv,so,hz⟩:=sL f W;obtain⟨u,hu,ru⟩:=rv.get hy;have ba:i<r.toArray.size:=by
   have:=(oI.mp hu).1
   simpa using this
  have G:(X.A.in1).handled=Y:=by have:=f.ok.hd hc;simpa using this
  refine wpAny_pyNext_enum_itemD (M4 G tp j a a6 r.toArray) l ⟨C,so⟩ ba F (by simp[F,Ne.symm al]) λx h1 U hx as a4 a3 bi a1=>⟨_,rfl,?_⟩;have a0:x=u:=by
   have:r.toArray[i]?=J u:=by simpa using hu
   rw[this]at hx;exact(Option.some.inj hx).symm
  subst a0;refine wpAny_letOwnedTupleGo_enum (s:={ s with heap:=h1,toks:=U+1}) as λh2 a5 L=>?_;have B:e<s.heap.objs.size:=l_ l;have R:j<s.heap.objs.size:=C.lt;obtain⟨I2,an,a2⟩:=EN (t':=U+1) (h':=h2) f (ch:=[e,j]) (ys:=[.int i,y]) (its:=[.int i U,x]) hf (.cons ⟨U,rfl⟩ (.cons ru .nil)) (by rw[sizeLine_eq];show 2<=_;decide)
   (by simp only[k4,GX,or_false,not_or];exact⟨Dn B,Dn R⟩)
   ((L.2 _ (Dn B)).trans a3)
   (λb o M q=>by
    have O:b≠e:=λz=>M (by simp[z]);have a8:b≠j:=λz=>M (by simp[z])
    exact(L.2 b O).trans (a1 b o O a8 q))
  refine⟨.ref s.heap.objs.size,_,I2,rfl,⟨_,y,a2,rfl,rfl,λzs ax=>by rw[EM f ax W];exact hy⟩,⟨⟨x,by simpa using a5⟩,?_⟩,an⟩;exact a4.1.at' λo q=>(L.2 j (Ne.symm F)).trans q
 done:=by
  intro X hP hw hK hc i LU s Z H E f hf st hg;subst hP hw hK;obtain⟨⟨old,l⟩,C⟩:=st;obtain⟨ys,W,hy⟩:=hg;obtain⟨r,rv,so,hz⟩:=sL f W;have G:(X.A.in1).handled=Y:=by have:=f.ok.hd hc;simpa using this
  have be:=rv.length;have hT:s.TypeIs (.ref e) "enumerate":=⟨_,l,rfl⟩;unfold pyNext;refine d_ (wpAny_attempt (wpAny_callSpecial?_slot (name:=Str.ofString "__next__") hT PySem.F.slot_enumerate_next (wpAny_call_entry PySem.F.slot_enumerate_next hT PySem.F.entry_enumerate_next ?_ (PySem.F.args_enumerate_next_1 _))));show wpAny _ _ (field (.ref e) 2 >>= _) _ _ _;refine d_ (wpAny_field l rfl (x:=.ref j) rfl ?_);refine d_ (sH G C so (by simp;ext) λh1 x ay ap=>?_);obtain⟨o,ho,a7⟩:=ap;refine d_ (wpAny_isInstance (T:="StopIteration") (b:=I) ⟨o,ho,a7⟩ isSubtype_stop ?_);refine ii ⟨rfl,nO (t':=s.toks) f hf λb o M q=>ay b o (λz=>M (by simp[z])) q⟩
 self:=λA i s Q E st h=>let⟨⟨old,l⟩,_⟩:=st;wpAny_pyIter_enum l h
def gh(v:PV)(h:MH):Option (Bool×UL×List (Nat×UL)):=match v with
 |.loc n=>(match h[n]? with
  |some (.lst xs)=>J (T,xs,[(n,xs)])
  |_=>Y)
 |.frl xs=>J (T,xs,[])
 |.tup xs=>J (I,xs,[])
 |_=>Y
def Jf{X:Cx}{U:US}{H:Hp}{h:MH}{x:PV}{y:V}{C:Bool}{xs:UL}{gd:List (Nat×UL)}(O:RH X.K X.mg U H h)(r:RP X.K U H x y)(e:gh x h=J (C,xs,gd)):
  ∃a,y=.ref a/\(∃ys,Gm C X.K H a ys)/\∀i f j,Le U H i f->RH X.K X.mg i f j->(∀p∈gd,j[p.1]?=J (.lst p.2))->∃ys,Gm C X.K f a ys/\RPs X.K i f xs ys:=by
 cases r with
 |frl s r=>cases e;exact⟨_,rfl,⟨_,s.sq⟩,λi f j l _ _=>⟨_,(l.sqf s).sq,r.le l⟩⟩
 |tup s r=>cases e;exact⟨_,rfl,⟨_,s⟩,λi f j l _ _=>⟨_,l.sqt s,r.le l⟩⟩
 |@loc n a F =>
  obtain⟨o,L,M⟩:=O.obj F;unfold gh at e;dsimp only at e;rw[L]at e
  cases o with
  |lst Q =>
   cases e;obtain⟨ys,G,P⟩:=M;refine⟨a,rfl,⟨ys,SqL.of G⟩,λi f j l B ok=>?_⟩;obtain⟨z,E,u⟩:=B.at' n a _ (l.get F) (ok (n,xs) (by simp));exact⟨z,SqL.of E,u⟩
  |_=>cases e
 |_=>cases e
def iR(xs:UL):UL:=xs.zipIdx.map λp=>.tup [.int (p.2:Int),p.1]
def yM{xs:UL}{i:Nat}{x:PV}(h:xs[i]?=J x):(iR xs)[i]?=J (.tup [.int (i:Int),x]):=by unfold iR;rw[pr,PX,h];simp
def qR(xs:UL):(iR xs).length=xs.length:=by simp[iR]
def Rf(m:Mx (UL)):Mx MIt:=λZ h=>(m Z h).bind λf a=>match f with
 |[x]=>(match gh x a with
  |some (_,xs,gd)=>.ok ⟨iR xs,gd⟩ a
  |none=>.bad)
 |_=>.bad
section
variable{X:Cx}{N W G:UM}{k:Nat}
def EO(g:Good X N W G k){as:UX}{x1:Nat}{tp:Pos}{a:Expr}{m:Mx (UL)}{p a2:Pos}{j:Nat}(hj:G[j]?=J "enumerate")(hm:X.mg "enumerate"=Y)(ha:MA X [a] m)(hs:starEach [a] X.env=[(T,eval a X.env)]:=by rfl):MI X (.Tuple as x1 tp) (.Call (.Name "enumerate" p) [a] [] a2) (Rf m):=by
 have d:=g.dbg _ (o_ _ (aL hj));intro LU s Z H R a0 ⟨U,ap,h,rs,rh,q⟩;refine wpAny_Call_Name_kw (gB a0 (g.gl _ (aL hj)) hm PyProof.Rows.Boot.«enumerate» ?_ d.2.2 d.1)
 refine PyProof.Rows.callWith_type1 (ka (ha a2 LU s Z H (λvs B=>∃M P xs,Le U H M B/\RH X.K X.mg M B P/\RPs X.K M B xs vs/\Ful X (tF X) ap M B ((match xs with
   |[x]=>(match gh x P with|some (_,xs,gd)=>.ok ⟨iR xs,gd⟩ P|none=>.bad)
   |_=>.bad:Out MIt)) R) a0 ⟨U,ap,h,rs,rh,Ful.bind q λM B v v' P _ l1 E rv L=>⟨M,P,v,l1,E,rv,L⟩⟩) λus C ⟨vs,B,S,r1,M,P,xs,l1,E,rv,L⟩=>?_) hs rfl
 cases rv with
 |nil=>exact L.elim
 |@cons y y' ys be ry t1 =>
  cases t1 with
  |cons _ _=>exact L.elim
  |nil =>
   dsimp only at L
   cases Q:gh y P with
   |none=>rw[Q]at L;exact L.elim
   |some z =>
    obtain⟨b,zs,gd⟩:=z;rw[Q]at L;obtain⟨ad,rfl,⟨ws,a7⟩,a8⟩:=Jf E ry Q;obtain⟨u,rfl,rx⟩:=jG r1;cases rx;obtain⟨ba,a9,so,hz⟩:=sL S a7;refine zA so λh' he hi bj hk=>?_;refine wpAny_pyIter_enum he ?_;have I2:Inv X LU Z B { C with heap:=h',toks:=C.toks}:=S.kept hk;obtain⟨oa,a4,bi,_⟩:=id so;have a3:ad<C.heap.objs.size:=l_ a4;have ax:=S.hok.fresh (il C.heap.objs.size);have a1:=S.hok.fresh (KH C.heap.objs.size);refine⟨C.heap.objs.size+1,_,_,_,B,rfl,I2,yC b ad _ C.heap.objs.size (Dn (Lp _)) (u_ (Ln a3)) (u_ a3),⟨⟨_,he⟩,hi⟩,λc hc=>?_,?_⟩
    .have:c=C.heap.objs.size+1\/c=C.heap.objs.size:=by simpa using hc
     rcases this with rfl|rfl
     .have F:=Inv.fpOk S (H':=B) (b:=C.heap.objs.size+1) (KH _) a1;exact F
     .exact Inv.fpOk S (H':=B) (il _) ax
    .refine L M B _ (Le.refl _ _) E ?_;intro U' H' h2 i l al ok;obtain⟨O,r,an⟩:=a8 U' H' h2 l al ok;refine⟨λf=>?_,λf=>⟨O,r,by rw[<-an.length];rw[qR]at f;exact f⟩⟩;rw[qR]at f;have hx:zs[i]?=J (zs[i]'f):=zb f;obtain⟨w',ew,a5⟩:=an.get hx;refine⟨⟨O,w',r,ew⟩,λx' H3 ⟨pp,y2,hp,e1,e2,ay⟩=>?_⟩;subst e1;subst e2;have ey:y2=w':=by
      have:=ay O r
      rw[ew]at this;exact(Option.some.inj this).symm
     subst ey;obtain⟨a6,l3⟩:=al.tup hp [.int i,y2];exact⟨U',_,l3,a6,yM hx,.tup (SqT.of bQ) (.cons (.int _) (.cons (a5.le l3) .nil))⟩
end
end MM
namespace MM
open PySem.Spec PyProof.Rows L2 SetT SortT
def je:UL->Option (UN)
 |[]=>J []
 |.int i::r=>(je r).map (i::·)
 |_=>Y
def pB:∀{xs:UL}{k:UN},je xs=J k->xs=k.map .int
 |[],k,h=>by cases h;rfl
 |x::r,k,h=>by
  cases x with
  |int i =>
   unfold je at h
   cases a:je r with
   |none=>rw[a]at h;cases h
   |some f =>
    rw[a]at h;cases h;rw[pB a];rfl
  |_=>cases h
def mI:∀(k:UN),je (k.map .int)=J k
 |[]=>rfl
 |i::k=>by show(je (k.map .int)).map (i::·)=_;rw[mI k];rfl
def sK:∀{ns:UN}{a:UT},aB (ns.map V.int) a->IntsAre a ns
 |[],_,h=>by cases h;exact .nil
 |i::k,_,h=>by
  cases h with
  |cons r t =>
   obtain⟨f,rfl⟩:=r;exact .cons i f (sK t)
section
variable{X:Cx}{N W G:UM}{k:Nat}
end
def wG:Bq X b (λ_ _=>.bad):=λl s Z H D f ⟨U,a,h,i,j,q⟩=>q.elim
end MM
namespace MM
open PySem.Spec PyProof.Rows L2
def vZ(a:Nat->k_->MH->Prop):∀(xs:UL)(j:Nat)(Z:k_)(h:MH),a j Z h->(∀j Z h,a j Z h->it.ok h) ->
  (∀m Z h x,a (j+m) Z h->xs[m]?=J x->∃B u i f,g x Z h=.nx B u/\b B u=.nx i f/\a (j+m+1) i f) ->
  ∃i f,xm it g b xs Z h=.nx i f/\a (j+xs.length) i f
 |[],j,Z,h,l,hok,_=>⟨Z,h,Eh (hok _ _ _ l),l⟩
 |x::r,j,Z,h,l,hok,st=>by
  obtain⟨B,u,E,G,e1,e2,C⟩:=st 0 Z h x l rfl;obtain⟨H,F,e3,L⟩:=vZ a r (j+1) E G C hok λm i f y q z=>by
   have:=st (m+1) i f y (by rw[show j+(m+1)=j+1+m by lia];exact q) (by simpa using z)
   rw[show j+(m+1)+1=j+1+m+1 by lia]at this;exact this
  refine⟨H,F,?_,by rw[AQ,show j+(r.length+1)=j+1+r.length by lia];exact L⟩;rw[AM (hok _ _ _ l) e1,e2];exact e3
end MM
namespace MM
open PySem.Spec PyProof.Rows L2 SetT SortT
section
variable{h:MH}{i:Int}{xs:UL}{n:Nat}
end
def Jg{K:ib}{n:Str}{i:Int}{t:Nat}(e:PySem.W.nsIn K mainGlobals n=J (J (.int i t))):∃t,PySem.W.nsIn K mainGlobals n=J (J (.int i t)):=⟨t,e⟩
def fN:∀(k:UN),PyData.canLayAll0 (k.map .int)=I/\PyData.depthAll (k.map .int)<=1
 |[]=>⟨rfl,by simp[PyData.depthAll]⟩
 |i::k=>by
  obtain⟨a,b⟩:=fN k;constructor
  .simp[PyData.canLayAll0,PyData.canLay0,a]
  .simp only[n9,PyData.depthAll,PyData.depth];lia
def sh:∀(f:UP),PyData.canLayAll0 (f.map λk=>.tuple (k.map .int))=I/\PyData.depthAll (f.map λk=>.tuple (k.map .int))<=2
 |[]=>⟨rfl,by simp[PyData.depthAll]⟩
 |k::f=>by
  obtain⟨a,b⟩:=sh f;obtain⟨c,d⟩:=fN k;constructor
  .simp[PyData.canLayAll0,PyData.canLay0,a,c]
  .simp only[n9,PyData.depthAll,PyData.depth];lia
end MM
namespace MM
open PySem.Spec PyProof.Rows L2
def mz(h:MH):PV->Option Bool
 |.non=>J T
 |.bl b=>J b
 |.int i=>J (i != 0)
 |.str _=>Y
 |.tup xs=>J (!xs.isEmpty)
 |.frl xs=>J (!xs.isEmpty)
 |.loc n=>match h[n]? with
  |some (.lst xs)=>J (!xs.isEmpty)
  |_=>Y
def S7(m:Mx PV):Mx Bool:=λZ h=>(m Z h).bind λv a=>match mz a v with
 |some b=>.ok b a
 |none=>.bad
section
variable{X:Cx}{N W G:UM}{k:Nat}
def kN{K:ib}{U:US}{H:Hp}{xs:UL}{ys:List V}(r:RPs K U H xs ys):(!xs.isEmpty)=!ys.isEmpty:=by cases r<;>rfl
def Jh{e:Expr}{m:Mx PV}(h:ME X e m)(E:∀l,isTrue e X.env l=(do let v <-l;standAt e.pos;holding [v] (truthy v)):=by intro _;rfl):MT X e (S7 m):=by
 refine PT.imp (AY h E) λZ H Q ⟨U,C,h,M,P,q⟩=>⟨U,C,h,M,P,Ful.bind q λu y x x' S _ l1 f R j=>?_⟩
 cases R with
 |non=>exact⟨T,rfl,j u y _ (Le.refl _ _) f rfl⟩
 |bl b=>exact⟨b,rfl,j u y _ (Le.refl _ _) f rfl⟩
 |int i=>exact⟨_,rfl,j u y _ (Le.refl _ _) f rfl⟩
 |str i=>exact j.elim
 |@tup xs a ys s r=>exact⟨_,.inr (.inl ⟨ys,s,rfl⟩),by rw[<-kN r];exact j u y _ (Le.refl _ _) f rfl⟩
 |@frl xs a ys s r=>exact⟨_,.inl ⟨ys,s.sq,rfl⟩,by rw[<-kN r];exact j u y _ (Le.refl _ _) f rfl⟩
 |@loc n a e =>
  obtain⟨o,B,O⟩:=f.obj e
  cases o with
  |lst xs =>
   obtain⟨ys,F,L⟩:=O;simp only[mz,B]at j;exact⟨_,.inl ⟨ys,.inl (.inl F),rfl⟩,by rw[<-kN L];exact j u y _ (Le.refl _ _) f rfl⟩
  |dic ks xs=>simp only[mz,B]at j;exact j.elim
  |exc z=>simp only[mz,B]at j;exact j.elim
end
end MM
namespace MM
open PySem.Spec PyProof.Rows L2 PySem.W
section
variable{X:Cx}
end
end MM
namespace MM
open PySem.Spec PyProof.Rows L2
section
variable{X:Cx}{o e:Expr}{es:UX}{name:Str}{apos cpos:Pos}{id:String}{f:Str->UL->MH->UZ}{m:Mx PV}{ma:Mx (UL)}
end
end MM
namespace L2
open PySem.Spec PyProof.Rows
section
variable{X:Cx}{e st:Expr}{te:TE}{hi:Option Expr}{th ts:TO}{pos p2:Pos}
end
end L2
namespace MM
open PySem.Spec PyProof.Rows L2
section
variable{X:Cx}{pos p2:Pos}
end
section
variable{X:Cx}{k:Nat}
end
end MM
namespace MM
open PySem.Spec PyProof.Rows L2 SetT SortT
section
variable{X:Cx}{N W G:UM}{k:Nat}
end
end MM
namespace L2
open PySem.Spec PyProof.Rows
section
variable{X:Cx}{a:Expr}{ta:TE}{pos:Pos}
end
end L2
namespace MM
open PySem.Spec PyProof.Rows L2
section
variable{X:Cx}{pos:Pos}
end
def rZ(n:Nat)(a:UL)(h:MH):UZ:=match a,h[n]? with
 |[.int 0],J (.lst (y::r))=>.ok y (h.set n (.lst r))
 |_,_=>.bad
section
variable{X:Cx}
def EQ:Hy X "list.pop" (Ir X rZ):=by
 intro P s Z H x vs v G Q l rx W ⟨U,h,n,a,ps,e,B,E,rp,q⟩;subst e;obtain⟨o,M,R⟩:=E.obj B;unfold rZ at q;rw[M]at q
 split at q
 .rename_i y r e
  injection e with e
  subst e
  cases rp with
  |cons F S =>
   cases S;cases F;obtain⟨ys,L,O⟩:=R
   cases O with
   |@cons _ u _ f z i =>
    obtain⟨j,C⟩:=E.put B (o:=.lst r) (ho:=.lst f) ⟨_,rfl,i⟩;exact Br P s Z H _ _ v G Q l rx W ⟨a,u::f,0,0,u,rfl,rfl,L,by decide,by decide,by simp[seqIndex?],rfl,q U _ u C j (z.le C)⟩
 .exact q.elim
end
section
variable{X:Cx}{k:Nat}
end
end MM
namespace HT
open PyProof.Rows
section
open PySem.SeqAt
open PySem.AutoSeq1 (wpAny_loadPart')
open PySem.MeetsSeq PySem.MeetsSeq2 PySem.MeetsSeq3
end
section
variable{prog:Program}{w:World}{A:Around}{E:UA}{s:Shared}
def AH{t b:Addr}{r:UT}{Q:UA}(B:IsTup s.heap t ([]:UT).toArray)(F:IsTup s.heap b r.toArray)(h:Q (.ref b) s):wpAny (model prog w) A (binaryOp .Add (.ref t) (.ref b)) Q E s:=by
 obtain⟨⟨cls,C,data,sl⟩,u,z,n,hd⟩:=id B;obtain⟨⟨y,j,data2,l⟩,a,f,G,i⟩:=id F;simp only at z hd f i;subst z hd f i;exact concat_meets ⟨_,u,rfl⟩ ⟨_,a,rfl⟩ noFill_tuple_add seq_tuple_add PySem.F.slot_tuple_add PySem.F.entry_tuple_add (PySem.F.args_tuple_add_2 _ _)
   (tuple_addW0 t b ([]:UT).toArray r.toArray n G C j sl l (by simp)) ⟨u,a,h⟩
end
end HT
namespace L2
open PySem.Spec PyProof.Rows
section
variable{X:Cx}{e st:Expr}{te:TE}{ts:TO}{pos p2:Pos}
def M5(K:ib):R2:=λx y H Q=>∃a b ys,x=.ref a/\y=.ref b/\SqT K H a []/\SqT K H b ys/\Q (.ref b) H
def ER:OpR X (binaryOp .Add) (M5 X.K):=by intro G s Z H x y v u Q f E z h;obtain⟨a,b,ys,rfl,rfl,B,C,q⟩:=h;cases E;cases z;obtain⟨r,j,l,_⟩:=f.tuple B;obtain⟨i,F,p2,_⟩:=f.tuple C;cases j;exact HT.AH l p2 ⟨.ref b,H,f,rfl,q⟩
end
end L2
namespace MM
open PySem.Spec PyProof.Rows L2
def oq(x y:PV)(h:MH):UZ:=match x,y with
 |.tup [],.tup ys=>.ok (.tup ys) h
 |x,y=>j3 x y h
section
variable{X:Cx}{k:Nat}{pos:Pos}
def pJ:xk X (binaryOp .Add) oq:=by
 intro l s Z H L G u v Q f i a ⟨U,h,x,y,r,z,j,q⟩;unfold oq at q
 split at q
 .cases z with
  |tup F C =>
   cases j with
   |tup B E =>
    cases C;exact ER l s Z H _ _ u v Q f i a ⟨_,_,_,rfl,rfl,F,B,q U H _ (Le.refl _ _) r (.tup B E)⟩
 .exact c6 l s Z H L G u v Q f i a ⟨U,h,x,y,r,z,j,q⟩
end
end MM
namespace L2
open PySem.Spec PyProof.Rows
section
variable{X:Cx}{a b c d:Expr}{ta tb tc td:TE}{r r' r2:R2}{op op' op2:CmpOp}{pos:Pos}
end
end L2
namespace MM
open PySem.Spec PyProof.Rows L2
section
variable{X:Cx}{a b c d:Expr}{ma mb mc md:Mx PV}{f g' g2:PV->PV->MH->UZ}{op op' op2:CmpOp}{pos:Pos}{k:Nat}
def bJ:Expr->Bool
 |.Starred _ _=>T
 |_=>I
def bf(h:bJ e=I):starEach (e::es) env=(T,eval e env)::starEach es env:=by cases e<;>first | rfl | cases h
def Ji(j:ME X e m)(i:MA X es ms)(l:bJ e=I:=by rfl):MA X (e::es) (af m ms):=aw j i (bf l)
structure j_(X:Cx)(e:Expr)(m:Mx PV):Prop where
 h:ME X e m
structure BP(X:Cx)(es:UX)(ms:Mx (UL)):Prop where
 h:MA X es ms
structure y3(X:Cx)(st:Stmt)(m:lg):Prop where
 h:MS X st m
structure lB(X:Cx)(st:List Stmt)(m:lg):Prop where
 h:Bq X st m
section
variable{e:Expr}{es:UX}{m ma mb:Mx PV}{ms:Mx (UL)}{st:Stmt}{rest:List Stmt}{u v:lg}{f:PV->PV->MH->UZ}{N W G:UM}{x:Str}
def eB:BP X [] h8:=⟨aS⟩
def bI(j:j_ X e m)(i:BP X es ms)(l:bJ e=I:=by rfl):BP X (e::es) (af m ms):=⟨Ji j.h i.h l⟩
def oF(h:ME X e m):j_ X e m:=⟨h⟩
def M6(h:BP X es ms):j_ X (.List es pos) (eX ms):=⟨yi h.h⟩
def KY(h:BP X es ms):j_ X (.Tuple es j pos) (iA ms):=⟨H_ h.h⟩
def T9{op:Operator}{a b:Expr}(i:xk X (binaryOp op) f)(l:j_ X a ma)(j:j_ X b mb):j_ X (.BinOp a op b pos) (ah f ma mb):=⟨aH i l.h j.h⟩
def B6(h:MS X st u):y3 X st u:=⟨h⟩
def Cq(g:Good X N W G k)(i:Nat){j:Pos}(l:j_ X e m)(y:N[i]?=J x:=by rfl)(z:W[i]?=J x:=by rfl)(r:swapsWith e (J (.Name x j)) pos.line X.env=pure T:=by rfl):
  y3 X (.Assign [.Name x j] e pos) (bp i m):=⟨lm g i y z l.h r⟩
def Cy(i:j_ X e m):y3 X (.Return (J e) pos) (bP m):=⟨Ia i.h⟩
def Bt(h:y3 X st u):lB X [st] u:=⟨DQ h.h⟩
def w4(i:y3 X st u)(j:lB X rest v):lB X (st::rest) (aZ u v):=⟨BH i.h j.h⟩
end
end
section
variable{α β:Type}
end
inductive T3(K:ib)(U:US)(H:Hp):UL->List V->UT->List (PV×V×Value)->Prop
 |nil:T3 K U H [] [] [] []
 |cons{x:PV}{y:V}{u:Value}{xs:UL}{ys:List V}{us:UT}{ts:List (PV×V×Value)}(r:RP K U H x y)(v:aN y u)(t:T3 K U H xs ys us ts):T3 K U H (x::xs) (y::ys) (u::us) ((x,y,u)::ts)
section
variable{K:ib}{U:US}{H:Hp}
end
section
variable{X:Cx}
end
end MM
namespace SortT
open PySem.SeqAt PySem.MeetsSeq PySem.MeetsSeq2 PySem.MeetsSeq3 PySem.SeqRoads2 PyProof.Rows PySem.W
abbrev LO(z:UE×Array (UV))(xs:Array Value)(n:Nat):Obj:=⟨.type "list",z.1,.seq xs n,z.2⟩
section
variable{prog:Program}{w:World}{A:Around}{E:UA}{s:Shared}{rk:Value->Int}{vs:UT}
end
end SortT
namespace MM
open PySem.Spec PyProof.Rows L2
section
variable{X:Cx}{N W G:UM}{k:Nat}{a b:Expr}{p p' pos pos':Pos}
def M7(r:TA):TE:=λZ H Q=>r Z H λl f=>∃i j:Int,l=[.int i,.int j]/\∀p,f p=Y->Q (.ref p) (kg f p (.rng i j))
def zY(Q:Gl X "range")(L:X.mg "range"=Y)(O:PA X [a,b] ta)(F:starEach [a,b] X.env=[(T,eval a X.env),(T,eval b X.env)]:=by rfl)(l:starEach [b] X.env=[(T,eval b X.env)]:=by rfl):PE X (.Call (.Name "range" p) [a,b] [] pos) (M7 ta):=by
 intro M s Z H R f h;refine Call_ (gB f Q L boot_range (PyProof.Rows.callWith_type1 (ka (O pos M s Z H _ f h) λU P ⟨S,H1,z,B,E⟩=>?_) (F.trans (by rw[l])) (by rw[l];rfl)));obtain⟨i,j,e,q⟩:=E;subst e
 cases B with
 |cons r y =>
  cases y with
  |cons C y =>
   cases y;obtain⟨t,rfl⟩:=r;obtain⟨u,rfl⟩:=C;refine call_range_2 ⟨.ref P.heap.objs.size,_,z.laid (λb o e=>m_ _ e) (il _) ?_,rfl,q _ (z.hok.fresh (il _))⟩;exact⟨_,_,_,rT _ rfl⟩
def rK(hh:X.calm=I):cS X (.type "list") (λxs H Q=>∃r i j,xs=[.ref r]/\H r=J (.rng i j) /\ -(2^62)<=i/\i<2^62 /\ -(2^62)<=j/\j<2^62/\(j-i).toNat<=sizeLine/\∀l,H l=Y->Q (.ref l) (kg H l (.lst ((List.range (j-i).toNat).map λn=>V.int (i+(n:Nat)))))):=by
 intro LU s Z H xs us Q f r ⟨P,i,j,e,O,g1,E,L,M,z,q⟩;subst e
 cases r with
 |cons C S =>
  cases S;cases C;obtain⟨t,u,v,U⟩:=(f.hok P _ O);refine call_list_range (f.ok.hd hh) U (small_one g1 E L M) (by rw[rangeSize_one];split<;>ext) z λh' tk y F kp e B=>?_;have R:=gU _ i _ (by exact B.1) λi v hv=>by
   obtain⟨t,e⟩:=B.2 i v (by rw[<-w_];exact hv)
   grind
  refine⟨.ref s.heap.objs.size,_,f.laid (o:=.lst _) kp (il _) (⟨by simpa using z,y.toList,F,R,by simpa using e⟩),rfl,q _ (f.hok.fresh (il _))⟩
def Rh(m:Mx (UL)):Mx PV:=λZ h=>(m Z h).bind λl f=>match l with
 |[.int i,.int j]=>if(-(2^62)<=i/\i<2^62) /\ -(2^62)<=j/\j<2^62/\(j-i).toNat<=sizeLine then .ok (.loc f.length) (f++[.lst (bz i (j-i).toNat)])else .bad
 |_=>.bad
def y0(g:Good X N W G k){m:Mx (UL)}{i j:Nat}(S:G[i]?=J "list")(hm:X.mg "list"=Y)(hj:G[j]?=J "range")(M:X.mg "range"=Y)(ha:MA X [a,b] m)(hs:starEach [a,b] X.env=[(T,eval a X.env),(T,eval b X.env)]:=by rfl)(L:starEach [b] X.env=[(T,eval b X.env)]:=by rfl)(P:starEach [.Call (.Name "range" p') [a,b] [] pos'] X.env=[(T,eval (.Call (.Name "range" p') [a,b] [] pos') X.env)]:=by rfl):ME X (.Call (.Name "list" p) [.Call (.Name "range" p') [a,b] [] pos'] [] pos) (Rh m):=by
 have d:=g.dbg _ (o_ _ (aL S));refine PE.imp (gu (rK g.calm) (g.gl _ (aL S)) hm PyProof.Rows.Boot.«list» (fX (zY (g.gl _ (aL hj)) M ha hs L) jx P) d.2.2 d.1 P rfl) λZ H Q ⟨U,O,h,rs,rh,q⟩=>?_;refine⟨U,O,h,rs,rh,Ful.bind q λU1 H1 x x' h1 _ l1 B rx f=>?_⟩;rcases rx with _|⟨C,_|⟨R,_|_⟩⟩
 .exact f.elim
 .cases C<;>exact f.elim
 .cases C with
  |int u =>
   cases R with
   |int y =>
    dsimp only at f;by_cases z:(-(2^62)<=u/\u<2^62) /\ -(2^62)<=y/\y<2^62/\(y-u).toNat<=sizeLine
    .rw[b_ z]at f;refine⟨u,y,rfl,λr hr=>?_⟩;obtain⟨F,l2⟩:=B.loose hr (.rng u y);refine⟨r,u,y,rfl,bQ,z.1.1,z.1.2,z.2.1,z.2.2.1,z.2.2.2,λl hl=>?_⟩;obtain⟨E,l3⟩:=F.new hl (o:=.lst (bz u (y-u).toNat)) ⟨_,rfl,iZ _⟩;exact f _ _ _ (l2.trans l3) E (.loc (by rw[<-B.len];simp))
    .rw[f_ z]at f;exact f.elim
   |_=>exact f.elim
  |_=>exact f.elim
 .cases C<;>(first | exact f.elim | (cases R<;>exact f.elim))
end
section
variable{X:Cx}
end
end MM
namespace SetT
open PySem.SetTable PyProof.Rows
section
variable{prog:Program}{w:World}{A:Around}{E:UA}{s:Shared}
end
end SetT
namespace MM
open PySem.Spec PyProof.Rows L2 SetT SortT
section
variable{X:Cx}{N W G:UM}{k:Nat}
end
end MM
namespace MM
open PySem.Spec PyProof.Rows L2 SetT
def n5{κ α:Type}[DecidableEq κ](a:List κ)(xs:List α)(i:κ):Option α:=match a,xs with
 |k::a,x::xs=>if k=i then J x else n5 a xs i
 |_,_=>Y
def h_{κ α:Type}[DecidableEq κ](a:List κ)(xs:List α)(i:κ)(v:α):List κ×List α:=match a,xs with
 |k::a,x::xs=>if k=i then(k::a,v::xs)else(k::(h_ a xs i v).1,x::(h_ a xs i v).2)
 |_,_=>([i],[v])
abbrev Gn:=UN×Addr×Value
def zp{bs:List Gn}{k:UN}:n5 (bs.map (·.1)) (bs.map (·.2.2)) k=(atKey bs k).map (·.2):=by
 induction bs with
 |nil=>rfl
 |cons b bs a =>
  simp only[n9,n5,atKey,List.find?_cons];by_cases e:b.1=k
  .simp[e]
  .simp only[f_ e,e,decide_false];exact a
def AX{ks:UP}{ys:List V}{f:UT}(r:aB ys f)(k:UN):oO (n5 ks ys k) (n5 ks f k):=by
 induction r generalizing ks with
 |nil=>cases ks<;>exact True.intro
 |cons a t i =>
  cases ks with
  |nil=>exact True.intro
  |cons q ks =>
   unfold n5;by_cases e:q=k
   .simp only[b_ e];exact a
   .simp only[f_ e];exact i
def zX{ks:UP}{ys:List V}{f:UT}{v:V}{u:Value}(j:f.length=ks.length)(r:aB ys f)(i:aN v u)(k:UN):(h_ ks ys k v).1=(h_ ks f k u).1/\aB (h_ ks ys k v).2 (h_ ks f k u).2:=by
 induction r generalizing ks with
 |nil=>cases ks<;>exact⟨rfl,.cons i .nil⟩
 |cons a t y =>
  cases ks with
  |nil=>cases j
  |cons q ks =>
   unfold h_;by_cases e:q=k
   .simp only[b_ e];exact⟨trivial,.cons i t⟩
   .simp only[f_ e];obtain⟨l,z⟩:=y (by simpa using j);exact⟨by rw[l],.cons a z⟩
section
variable{K:ib}{U:US}{H:Hp}
def ES{ks:UP}(r:RPs K U H xs ys)(i:UN):match n5 ks xs i with
  |some x=>∃y,n5 ks ys i=J y/\RP K U H x y
  |none=>n5 ks ys i=Y:=by
 induction ks generalizing xs ys with
 |nil=>cases xs<;>cases ys<;>rfl
 |cons k ks f =>
  cases r with
  |nil=>rfl
  |cons a t =>
   unfold n5;by_cases e:k=i
   .simp only[b_ e];exact⟨_,rfl,a⟩
   .simp only[f_ e];exact f t
def A2{ks:UP}(r:RPs K U H xs ys)(q:RP K U H v y)(i:UN):(h_ ks xs i v).1=(h_ ks ys i y).1/\RPs K U H (h_ ks xs i v).2 (h_ ks ys i y).2:=by
 induction ks generalizing xs ys with
 |nil=>cases xs<;>cases ys<;>exact⟨rfl,.cons q .nil⟩
 |cons k ks j =>
  cases r with
  |nil=>exact⟨rfl,.cons q .nil⟩
  |cons a t =>
   unfold h_;by_cases e:k=i
   .simp only[b_ e];exact⟨trivial,.cons q t⟩
   .simp only[f_ e];obtain⟨f,l⟩:=j t;exact⟨by rw[f],.cons a l⟩
end
def uB{x:Gn}{bs:List Gn}{k:UN}{b:Addr}{u:Value}(e:¬x.1=k):storedH (x::bs) k b u=x::storedH bs k b u:=by
 unfold storedH;have e1:atKey (x::bs) k=atKey bs k:=by simp[atKey,List.find?_cons,e]
 rw[e1];by_cases h:(atKey bs k).isSome=I
 .rw[b_ h,b_ h,n9,putAt,f_ e]
 .rw[f_ h,f_ h];rfl
def uO{x:Gn}{bs:List Gn}{b:Addr}{u:Value}(nd:x.1∉bs.map (·.1)):storedH (x::bs) x.1 b u=(x.1,x.2.1,u)::bs:=by unfold storedH;rw[b_ (by simp[atKey]),n9,putAt,b_ rfl,map_putAt_of_not_mem bs _ _ nd]
def kK{bs:List Gn}{k:UN}{b:Addr}{u:Value}(nd:(bs.map (·.1)).Nodup):(storedH bs k b u).map (·.1)=(h_ (bs.map (·.1)) (bs.map (·.2.2)) k u).1/\(storedH bs k b u).map (·.2.2)=(h_ (bs.map (·.1)) (bs.map (·.2.2)) k u).2/\(storedH bs k b u).length<=bs.length+1 /\
  ∀x∈storedH bs k b u,(∃y∈bs,x.1=y.1/\x.2.1=y.2.1)\/x=(k,b,u):=by
 induction bs with
 |nil=>refine⟨rfl,rfl,il _,λx j=>.inr ?_⟩;simpa [storedH,atKey]using j
 |cons x bs C =>
  rw[n9,Dk]at nd;by_cases e:x.1=k
  .subst e;rw[uO nd.1];refine⟨by simp[h_],by simp[h_],by simp,λy a=>.inl ?_⟩;rcases k4.mp a with z|z
   .subst z;exact⟨x,by simp,rfl,rfl⟩
   .exact⟨y,lb _ z,rfl,rfl⟩
  .obtain⟨B,l,i,f⟩:=C nd.2;rw[uB e];refine⟨by simp[h_,e,B],by simp[h_,e,l],by simpa using i,λy a=>?_⟩;rcases k4.mp a with z|z
   .subst z;exact .inl ⟨y,by simp,rfl,rfl⟩
   .rcases f y z with⟨w,E,r⟩|r
    .exact .inl ⟨w,lb _ E,r⟩
    .exact .inr r
def lY{K:ib}{U:US}{H:Hp}:∀{k:UN}{ys:List V},RPs K U H (k.map PV.int) ys->ys=k.map V.int
 |[],_,r=>by cases r;rfl
 |i::k,_,r=>by
  cases r with
  |cons a t=>cases a;rw[lY t];rfl
def cV(h:MH)(y:PV):Option (UP×UL):=match y with
 |.loc n=>(match h[n]? with
  |some (.dic a xs)=>J (a,xs)
  |_=>Y)
 |_=>Y
def oX:PV->Option (UN)
 |.tup xs=>je xs
 |_=>Y
section
variable{X:Cx}{LU:List (Addr × Obj)}{Z:L2.St}{H:Hp}{s:Shared}{U:US}{h:MH}
def ln{x:PV}{y:V}{f:UP}{xs:UL}(u:RH X.K X.mg U H h)(r:RP X.K U H x y)(e:cV h x=J (f,xs)):
  ∃n a,x=.loc n/\U[n]?=J a/\y=.ref a/\h[n]?=J (.dic f xs)/\DR X.K U H a f xs (H a):=by
 cases r with
 |@loc n a j =>
  obtain⟨o,i,l⟩:=u.obj j;unfold cV at e;dsimp only at e;rw[i]at e
  cases o with
  |dic k z=>cases e;exact⟨n,a,rfl,j,rfl,i,l⟩
  |_=>cases e
 |_=>cases e
def sW{x:PV}{y:V}{k:UN}(r:RP X.K U H x y)(e:oX x=J k):∃b,y=.ref b/\SqT X.K H b (k.map V.int):=by
 cases r with
 |@tup xs a ys i f =>
  have e1:=pB e;subst e1
  have:ys=k.map V.int:=by have z:=RPs.ints (K:=X.K) (U:=U) (H:=H) k;exact lY f
  subst this;exact⟨a,rfl,i⟩
 |_=>cases e
def pS{a:Addr}{bs:List Gn}(f:Inv X LU Z H s)(l:∀x∈bs,SqT X.K H x.2.1 (x.1.map V.int))(F:H a=J (.ext (DT a bs))):
  (a==sysModules)=T/\bs.length<=sizeLine/\(bs.map (·.1)).Nodup/\s.heap.DictOfH (tupleKind (intKind X.prog X.w)) a bs:=by
 obtain⟨⟨o,r,z,B,C,u,E,i,G,j⟩,_⟩:=(show ObjOk X.prog X.w H s.heap a (.ext (DT a bs))from f.hok a _ F);exact⟨G,j,i,o,r,z,B,C,u,E,λx y=>fC f (l x y),i⟩
end
def ko{prog:Program}{w:World}{A:Around}{E:UA}{s:Shared}{d a:Addr}{k:UN}{xs:List Gn}{Q:Bool->Shared->Prop}(j:A.units+1<cLine)(f:TK prog w s.heap k a)(hd:(d==sysModules)=T)(i:s.heap.DictOfH (tupleKind (intKind prog w)) d xs)(h:Q (atKey xs k).isSome { s with toks:=s.toks+(k.length+1)}):wpAny (model prog w) A (contains (.ref d) (.ref a)) Q E s:=by
 unfold contains;refine wpAny_holding ?_;refine d_ (wpAny_specialOf i.typeIs slot_dict_contains.lookup ?_);show wpAny _ _ (if(J (Value.builtin "dict.__contains__")==J Value.none)=I then _ else _) _ E s;rw[f_ (by rw[beq_builtin_none];exact FV)];refine d_ (wpAny_callSpecialUnlessNone?_slot (name:=Str.ofString "__contains__") i.typeIs slot_dict_contains (wpAny_call_entry slot_dict_contains i.typeIs entry_dict_contains ?_ (args_dict_contains _ _)));show wpAny _ _ (dictGet d (.ref a) >>= _) _ _ s;refine d_ (wpAny_dictGet_heap (knd:=tupleKind (intKind prog w)) j f i ?_)
 cases hf:atKey xs k with
 |some p =>
  rw[hf]at h;show wpAny _ _ (ret (.bool I)) _ _ _;exact ii ⟨_,rfl,wpAny_truthy_bool h⟩
 |none =>
  rw[hf]at h;show wpAny _ _ (Builtin.Dict.pendingKey? d (.ref a) >>= _) _ _ _;exact d_ (wpAny_pendingKey_other hd (ii ⟨_,rfl,wpAny_truthy_bool h⟩))
def i5(a:Bool)(x y:PV)(h:MH):UZ:=match oX x,cV h y with
 |some i,J (f,xs)=>.ok (.bl (if a then !(n5 f xs i).isSome else(n5 f xs i).isSome)) h
 |_,_=>.bad
def tO{a:List κ}[DecidableEq κ]{xs:List α}{ys:List β}{i:κ}(h:xs.length=ys.length):(n5 a xs i).isSome=(n5 a ys i).isSome:=by
 induction a generalizing xs ys with
 |nil=>rfl
 |cons k a f =>
  cases xs with
  |nil=>cases ys with
   |nil=>rfl
   |cons _ _=>cases h
  |cons x xs=>cases ys with
   |nil=>cases h
   |cons y ys =>
    unfold n5;by_cases e:k=i
    .simp[e]
    .simp only[f_ e];exact f (by simpa using h)
section
variable{X:Cx}{N W G:UM}{k:Nat}
def yw(R:Room k X.A)(j:Bool):xk X (compareOp (if j then .NotIn else .In)) (i5 j):=by
 intro LU s Z H x' y' u v Q f B l ⟨U,h,x,y,z,rx,P,q⟩;unfold i5 at q
 split at q
 .rename_i i L xs M ed
  obtain⟨n,a,rfl,en,rfl,eo,bs,ys,e1,O,F,r,S⟩:=ln z P ed;obtain⟨b,rfl,sq⟩:=sW rx M;cases B;cases l;obtain⟨hd,hz,nd,C⟩:=pS f O S;have hl:xs.length=(bs.map (·.2.2)).length:=by rw[r.length];exact F.length
  have e:(n5 L xs i).isSome=(atKey bs i).isSome:=by rw[tO hl,e1,zp,Option.isSome_map]
  rw[e]at q;have E:X.A.units+1<cLine:=by have:=R.un;lia
  cases j with
  |false=>exact d_ (ko E (fC f sq) hd C (ii ⟨.bl _,H,f.tok _,rfl,q U H _ (Le.refl _ _) z (.bl _)⟩))
  |true=>exact d_ (ko E (fC f sq) hd C (ii ⟨.bl _,H,f.tok _,rfl,q U H _ (Le.refl _ _) z (.bl _)⟩))
 .exact q.elim
def M8(K:ib):dk:=λo i v H Q=>∃p bs k b,o=.ref p/\i=.ref b/\H p=J (.ext (DT p bs))/\(∀x∈bs,SqT K H x.2.1 (x.1.map V.int))/\SqT K H b (k.map V.int)/\bs.length<sizeLine/\∀u,aN v u->(bs.map (·.1)).Nodup->Q (kg H p (.ext (DT p (storedH bs k b u))))
def Al(U:Room k X.A):Hg X (M8 X.K):=by
 intro P s Z H o i v ov iv u Q a ro R rv h;obtain⟨p,bs,k,b,rfl,rfl,r,L,sq,S,q⟩:=h;cases ro;cases R;obtain⟨hd,j,nd,E⟩:=pS a L r;have hu:X.A.units+1<cLine:=by have:=U.un;lia
 refine wpAny_setItem_heap (knd:=tupleKind (intKind X.prog X.w)) (hsz:=j) hu (fC a sq) E λy f B5=>?_;have l:∃q,y.get? p=J q:=let⟨q,_,_,hq,_⟩:=f;⟨q,hq⟩;have I4:Inv X P Z (kg H p (.ext (DT p (storedH bs k b u)))) { s with heap:=y,toks:=s.toks+(k.length+1)} :=
  a.write (x:=p) (e:=p) (by rw[r];exact True.intro) (.inl rfl) (λc q hc z=>(B5.2 c hc).trans z) l ⟨by
   obtain⟨o,M,B,O,F,a3,a4,_,C⟩:=f
   exact⟨o,M,B,O,F,a3,a4,C,hd,mu (kK (k:=k) (b:=b) (u:=u) nd).2.2.1 S⟩,l,qW⟩
 exact⟨_,I4,q u rv nd⟩
def pY(o i v:PV)(h:MH):Option MH:=match o,cV h o,oX i with
 |.loc n,J (a,xs),J j=>if a.length<100000 then J (h.set n (.dic (h_ a xs j v).1 (h_ a xs j v).2))else Y
 |_,_,_=>Y
def k6(mo f:Mx PV):Mg:=λv=>wH mo λo=>wH f λi Z h=>match pY o i v h with
 |some a=>.nx Z a
 |none=>.bad
def vx(hr:Room k X.A){o i:Expr}{mo S:Mx PV}{l:Pos}(ho:ME X o mo)(hi:ME X i S)(ha:∀v,assign (.Subscript o i l) X.env v=(do
   let r <-holding [v] (eval o X.env)
   let F <-holding [v,r] (eval i X.env)
   standAt l
   holding [v,r,F] (setItem r F v)
   release [v,r,F] []):=by intro _;rfl):MG X (.Subscript o i l) (k6 mo S) :=
 PG.imp (yR ho hi (Al hr) ha) λv' Z H Q ⟨U,f,h,v,rs,rh,rv,q⟩=>by
  refine⟨U,f,h,rs,rh,?_⟩;unfold k6 wH at q
  cases e:mo f h with
  |exc x R=>rw[e]at q;exact q
  |bad=>rw[e]at q;exact q
  |ok r R =>
   rw[e]at q;intro U1 H1 o' C al ro;refine⟨U1,f,R,rs.le C,al,?_⟩;dsimp only at q
   cases e2:S f R with
   |exc x h2=>rw[e2]at q;exact XP.le C q
   |bad=>rw[e2]at q;exact q
   |ok F h2 =>
    rw[e2]at q;intro U2 H2 i' L E ri;have an:=ro.le L;have P:=(rv.le C).le L;dsimp only at q;unfold pY at q
    split at q
    .rename_i h3 e3
     split at e3
     .rename_i n B xs j ek ed
      obtain⟨_,a,e0,en,rfl,eo,bs,ys,e1,kr,vs,O,eh⟩:=ln E an ed;cases e0;obtain⟨b,rfl,sq⟩:=sW ri ek;by_cases M:B.length<100000
      .rw[b_ M]at e3;cases e3;have ap:bs.length<100000:=by rw[e1,q7]at M;exact M
       refine⟨a,bs,j,b,rfl,rfl,eh,kr,sq,by rw[sizeLine_eq];lia,λu ru nd=>?_⟩;have as:=eh;obtain⟨p1,p2⟩:=A2 (ks:=B) O P j;obtain⟨q1,q2⟩:=zX (ks:=B) (k:=j) (by rw[e1];simp) vs ru;obtain⟨w1,w2,_,w3⟩:=kK (k:=j) (b:=b) (u:=u) nd;rw[<-e1]at w1 w2
       obtain⟨r3,l3⟩:=E.put en (o:=.dic (h_ B xs j v).1 (h_ B xs j v).2) (ho:=.ext (DT a (storedH bs j b u))) ⟨_,_,p1.trans (q1.trans w1.symm),λx hx=>by
        rcases w3 x hx with⟨y,hy,z1,z2⟩|z
        .rw[z1,z2];exact kr y hy
        .subst z;exact sq,by rw[w2];exact q2,p2,rfl⟩
       exact q U2 _ Z (C.trans (L.trans l3)) r3 (rs.le (C.trans (L.trans l3)))
      .rw[f_ M]at e3;cases e3
     .cases e3
    .exact q.elim
end
def RawD(d:Addr)(a:Array DictEntry)(f:Nat)(h:Heap):Prop:=∃o,h.get? d=J o/\o.ExactDict/\o.data=.dict a f
section
variable{prog:Program}{w:World}{A:Around}{E:UA}{s:Shared}{d it:Addr}{es:Array DictEntry}{ep i:Nat}
def RawD.ty(x:RawD d es ep s.heap):s.TypeIs (.ref d) "dict":=let⟨o,a,f,_⟩:=x;⟨o,a,f.1⟩
end
section
variable{X:Cx}{N W G:UM}{k:Nat}
end
end MM
namespace MM
open PySem.Spec PyProof.Rows L2
section
variable{X:Cx}{N W G:UM}{k:Nat}
end
end MM
namespace MM
open PySem.Spec PyProof.Rows L2 SetT
def B0(f:UL)(h:MH):UZ:=match f with
 |[x]=>(match cV h x with
  |some (a,_)=>.ok (.int a.length) h
  |none=>.bad)
 |_=>.bad
section
variable{X:Cx}{N W G:UM}{k:Nat}
def ET{prog:Program}{w:World}{A:Around}{E:UA}{s:Shared}{d:Addr}{a:Array DictEntry}{r:Nat}{Q:UA}(hd:(d==sysModules)=T)(i:RawD d a r s.heap)(j:(a.size:Int)<2^63)(h:Q (.int a.size (s.toks+1)) { s with toks:=s.toks+1+1}):wpAny (model prog w) A (call (.builtin "len") [.ref d]) Q E s:=by
 refine Calls.call_function_entry kind_len plain_len entry_len (args_len1 _) ?_;unfold Builtin.«len»;refine d_ (m:=oneArg "len" _) (ii ?_)
 refine d_ (m:=callSpecial? (.ref d) (Str.ofString "__len__")) (wpAny_callSpecial?_slot (name:=Str.ofString "__len__") i.ty F.slot_dict_len
  (wpAny_call_entry F.slot_dict_len i.ty F.entry_dict_len ?_ (F.args_dict_len_1 _)))
 obtain⟨o,l,u,f⟩:=id i;show wpAny _ _ (dictSize d >>= _) _ _ s;unfold dictSize;refine d_ (d_ (wpAny_dictEntries l f (ii ?_)));show wpAny _ _ (Builtin.Dict.pendingCount d >>= _) _ _ s;refine d_ (wpAny_pendingCount_other hd ?_);refine wpAny_ret_mkInt ?_;rw[show((a.size:Int)+((0:Nat):Int))=a.size from by simp];refine d_ (wpAny_holding (ii ?_));refine d_ (wpAny_letGo ?_);show wpAny _ _ (if((a.size:Nat):Int)<0 then _ else _) _ _ _;rw[f_ (by ext)];show wpAny _ _ (if((a.size:Nat):Int)>=2^63 then _ else _) _ _ _;rw[f_ (by ext)];exact d_ (wpAny_mkInt (ii ⟨_,rfl,h⟩))
def EU:cU X (.builtin "len") B0:=by
 intro LU s Z H xs us Q f r ⟨U,h,ps,u,rp,q⟩;unfold B0 at q
 split at q
 .rename_i x
  cases rp with
  |cons y R =>
   cases R
   cases r with
   |cons S O =>
    cases O
    cases j:cV h x with
    |none=>rw[j]at q;exact q.elim
    |some w =>
     obtain⟨l,xs⟩:=w;rw[j]at q;obtain⟨n,a,rfl,en,rfl,eo,bs,ys,e1,kr,vs,B,P⟩:=ln u y j;cases S;obtain⟨⟨o,E,ep,z,L,F,M,h5,hd,C⟩,_⟩:=(show ObjOk X.prog X.w H s.heap a (.ext (DT a bs))from f.hok a _ P);have i:E.size=l.length:=by rw[<-BI,M,q7,e1,q7]
     have hb:bs.length=l.length:=by rw[e1,q7]
     rw[sizeLine_eq]at C;refine ET hd ⟨o,z,L,F⟩ (by rw[i];ext) ?_;rw[i];exact⟨.int _,H,f.tok _,⟨_,rfl⟩,q U H _ (Le.refl _ _) u (.int _)⟩
 .exact q.elim
end
def jM(x y:PV)(h:MH):UZ:=match oX y,cV h x with
 |some i,J (a,xs)=>Out.ofO (n5 a xs i) h
 |_,_=>.bad
section
variable{X:Cx}{N W G:UM}{k:Nat}
def Jj(hr:Room k X.A){ea b:Expr}{ma mb:Mx PV}{ax:Pos}(ha:ME X ea ma)(hb:ME X b mb)(hs:∀ov P,subscripted b T ov P=operate [ov,P] (getItem ov P):=by exact λ_ _=>rfl):ME X (.Subscript ea b ax) (ah jM ma mb):=by
 intro LU s Z H Q as ⟨U,f,h,rs,rh,q⟩;refine Subscript_ (ka (ha LU s Z H (λx' E=>∃l M x,Le U H l E/\RH X.K X.mg l E M/\RP X.K l E x x'/\Ful X (RV' X) f l E ((mb f M).bind λy F=>(jM x y F).ne) Q) as ⟨U,f,h,rs,rh,Ful.bind q λl E x x' M _ l1 L R q1=>⟨l,M,x,l1,L,R,q1⟩⟩) λu s1 ⟨x',E,I1,r1,l,M,x,l1,L,R,q1⟩=>ka (hb LU s1 Z E (λy' C=>∃B F y,Le l E B C/\RH X.K X.mg B C F/\RP X.K B C y y'/\Ful X (RV' X) f B C (jM x y F).ne Q) I1 ⟨l,f,M,rs.le l1,L,Ful.bind q1 λB C y y' F _ l2 z ry j=>⟨B,F,y,l2,z,ry,j⟩⟩) λP s2 ap=>?_);obtain⟨y',C,I2,r2,B,F,y,l2,z,ry,j⟩:=ap;unfold jM at j
 split at j
 .rename_i i ks xs ei ed
  obtain⟨n,a,rfl,en,rfl,eo,bs,ys,e1,kr,vs,al,eh⟩:=ln z (R.le l2) ed;obtain⟨b',rfl,sq⟩:=sW ry ei;cases r2;cases r1;obtain⟨hd,hz,nd,dd⟩:=pS I2 kr eh;have hu:X.A.units+1<cLine:=by have:=hr.un;lia
  cases ex:n5 ks xs i with
  |none=>rw[ex]at j;exact j.elim
  |some x =>
   rw[ex]at j;have bx:=ES (ks:=ks) al i;rw[ex]at bx;obtain⟨y,e2,S⟩:=bx;have ra:=AX (ks:=ks) vs i;rw[e2]at ra;obtain⟨w',hw,an⟩:=oO.some_of ra;rw[e1,zp]at hw;obtain⟨pp,hp,rfl⟩:=vu.mp hw;refine d_ ?_;refine d_ (wpAny_specialOf dd.typeIs PySem.F.slot_dict_getitem.lookup ?_);have fin:wpAny (model X.prog X.w) X.A (subscripted b T (.ref a) (.ref b')) (λr O=>wpAny (model X.prog X.w) X.A (letTemporaryGo ea (.ref a) r >>= λ_=>pure r) (EP X LU Z Q) X.xe O) X.xe s2:=by rw[hs (.ref a) (.ref b')];exact wpAny_operating (wpAny_getItem_heap (knd:=tupleKind (intKind X.prog X.w)) hu (fC I2 sq) dd hp (d_ (wpAny_letTemporaryGo (ii ⟨y,C,I2.tok _,an,j B C _ (Le.refl _ _) z S⟩))))
   exact ii (d_ fin)
 .exact j.elim
end
end MM
namespace SortT
open PySem.SeqAt PySem.MeetsSeq PySem.MeetsSeq2 PySem.MeetsSeq3 PySem.SeqRoads2 PyProof.Rows PySem.W
def eS:UN->UN->Bool
 |[],[]=>T
 |[],_::_=>I
 |_::_,[]=>T
 |x::xs,y::ys=>if x=y then eS xs ys else decide (x<y)
def iX(xs:Array Value)(a:UN):Prop:=xs.size=a.length/\∀i:Nat,i<a.length->∃t,xs[i]?=J (.int (a.getD i 0) t)
def BK{a:UN}:eS [] a=decide (0<a.length):=by cases a<;>simp[eS]
def zf{a:UN}:eS a []=T:=by cases a<;>rfl
def yx{a f:UN}{i:Nat}(j:i<a.length)(l:i<f.length):eS (a.drop i) (f.drop i)=if a.getD i 0=f.getD i 0 then eS (a.drop (i+1)) (f.drop (i+1))else decide (a.getD i 0<f.getD i 0):=by rw[C2 j,C2 l,eS];simp[List.getD,j,l]
def EV(a b:Addr)(z O:UE×Array (UV))(xs ys:Array Value)(n m:Nat)(f j:UN)(G:iX xs f)(H:iX ys j)(k:Nat):∀i:Nat,f.length-i=k->i<=f.length->i<=j.length->Meets (Builtin.«list.__eq__.loop» ⟨[.ref a,.ref b,rawInt i,rawInt 0],[]⟩)
  (λA R s=>s.heap.get? a=J (LO z xs n)/\s.heap.get? b=J (LO O ys m)/\R (.ok (.ret (.bool (eS (f.drop i) (j.drop i))))) s):=by
 have stop:∀i:Nat,i<=f.length->i<=j.length->(i=f.length\/i=j.length)->Meets (Builtin.«list.__eq__.loop» ⟨[.ref a,.ref b,rawInt i,rawInt 0],[]⟩)
  (λA R s=>s.heap.get? a=J (LO z xs n)/\s.heap.get? b=J (LO O ys m)/\R (.ok (.ret (.bool (eS (f.drop i) (j.drop i))))) s):=by
  intro i E F B prog w A R s h;obtain⟨S,g,d,U,os⟩:=s;obtain⟨l,r,h⟩:=h;have e:eS (f.drop i) (j.drop i)=decide (xs.size<ys.size):=by
   rw[G.1,H.1];rcases B with B|B
   .rw[B,GW,BK,Cu];exact decide_eq_decide.mpr ⋯
   .rw[B,GW,zf];exact(decide_eq_false ⋯).symm
  rw[e]at h;by_cases q:i=f.length
  .have L:xs[((i:Nat):Int).toNat]?=Y:=by have:=G.1;simp;lia
   wp_walk using AutoSeq1.wpAny_loadPart' l,AutoSeq1.wpAny_loadPart' r
   rw[L]
   wp_walk using AutoSeq1.wpAny_loadPart' l,AutoSeq1.wpAny_loadPart' r
   exact h
  .have L:ys[((i:Nat):Int).toNat]?=Y:=by have:=H.1;simp;lia
   obtain⟨t,Q⟩:=G.2 i ⋯;have M:xs[((i:Nat):Int).toNat]?=J (.int (f.getD i 0) t):=by simpa using Q
   wp_walk using AutoSeq1.wpAny_loadPart' l,AutoSeq1.wpAny_loadPart' r
   rw[L,M]
   wp_walk using AutoSeq1.wpAny_loadPart' l,AutoSeq1.wpAny_loadPart' r
   exact h
 induction k with
 |zero=>intro i P E F;exact stop i E F (.inl ⋯)
 |succ k W =>
  intro i P E F;by_cases q:i=j.length
  .exact stop i E F (.inr q)
  .intro prog w A R s h;obtain⟨S,g,d,U,os⟩:=s;obtain⟨l,r,h⟩:=h;rw[yx ⋯ ⋯]at h;obtain⟨t,e1⟩:=G.2 i ⋯;obtain⟨u,e2⟩:=H.2 i ⋯;have y:xs[((i:Nat):Int).toNat]?=J (.int (f.getD i 0) t):=by simpa using e1
   have C:ys[((i:Nat):Int).toNat]?=J (.int (j.getD i 0) u):=by simpa using e2
   wp_walk using AutoSeq1.wpAny_loadPart' l,AutoSeq1.wpAny_loadPart' r
   rw[y,C];refine d_ (wpAny_eqBool_int ?_);by_cases eq:f.getD i 0=j.getD i 0
   .rw[b_ eq]at h;rw[show(f.getD i 0==j.getD i 0)=I by simpa using eq]
    wp_walk using AutoSeq1.wpAny_loadPart' l,AutoSeq1.wpAny_loadPart' r
    exact⟨plainId_quiet plain_eq_loop _,codeAny_builtin entry_eq_loop (by
     rw[Around.under_plainId plain_eq_loop _]
     exact W (i+1) ⋯ ⋯ ⋯ prog w A R _ ⟨l,r,h⟩)⟩
   .rw[f_ eq]at h;rw[show(f.getD i 0==j.getD i 0)=T by simpa using eq]
    wp_walk using AutoSeq1.wpAny_loadPart' l,AutoSeq1.wpAny_loadPart' r
    rw[y,C];refine d_ (wpAny_lt_int ?_);exact ii h
section
variable{prog:Program}{w:World}{A:Around}{E:UA}{s:Shared}
def rm(a b:Addr)(z l:UE×Array (UV))(xs ys:Array Value)(n m:Nat)(f i:UN)(y:iX xs f)(r:iX ys i):Meets (Builtin.«list.__lt__» ⟨[.ref a,.ref b],[]⟩)
  (λA R s=>s.heap.get? a=J (LO z xs n)/\s.heap.get? b=J (LO l ys m)/\R (.ok (.ret (.bool (eS f i)))) s):=by
 intro prog w A R s h;obtain⟨B,g,d,C,os⟩:=s;obtain⟨u,j,h⟩:=h;refine d_ (ii ?_);refine d_ (wpAny_isInstance (T:="list") (b:=I) ⟨_,j,rfl⟩ sub_list_self ?_)
 wp_walk
 exact⟨plainId_quiet plain_eq_loop _,codeAny_builtin entry_eq_loop (by
  rw[Around.under_plainId plain_eq_loop _]
  exact EV a b z l xs ys n m f i y r f.length 0 ⋯ ⋯ ⋯ prog w A R _ ⟨u,j,h⟩)⟩
def su{a b:Addr}{z l:UE×Array (UV)}{xs ys:Array Value}{n m:Nat}{f i:UN}{Q:UA}(B:A.units<cLine)(r:s.heap.get? a=J (LO z xs n))(j:s.heap.get? b=J (LO l ys m))(u:iX xs f)(y:iX ys i)(h:Q (.bool (eS f i)) s):wpAny (model prog w) A (richCompare .Lt (.ref a) (.ref b)) Q E s :=
 richCompare_meets_room ⟨_,r,rfl⟩ ⟨_,j,rfl⟩ PySem.F.slot_list_lt PySem.F.entry_list_lt (PySem.F.args_list_lt_2 _ _) (rm a b z l xs ys n m f i u y) ⟨r,j,(λe=>nomatch e),h⟩ B
structure KZ(h:Heap)(a:Addr)(i:Int)(is:UN):Prop where
 ex:∃(o:Obj) (nt:Nat) (t:Tok) (l:Addr) (z:UE×Array (UV)) (xs:Array Value) (n:Nat),h.get? a=J o/\o.cls=.type "tuple"/\o.data=.seq #[.int i t,.ref l] nt/\h.get? l=J (LO z xs n)/\iX xs is
def jQ{h:Heap}:∀{f:UN}{a:UT},a.length=f.length->(∀i:Nat,i<f.length->∃t,a[i]?=J (.int (f.getD i 0) t))->ReadsAll h a (f.map PyData.int) []
 |[],a,j,_=>by rw[C4.mp j];exact .nil
 |i::f,a,j,hv=>by
  cases a with
  |nil=>cases j
  |cons v a =>
   obtain⟨t,e⟩:=hv 0 (by simp);simp at e;subst e
   exact ReadsAll.cons (as:=[]) (bs:=[]) (.int i t) (jQ (by simpa using j) λk l=>by
    have:=hv (k+1) (by simpa using l)
    simpa using this)
def nS(i j:Int)(f a:UN):Bool:=if i=j then eS f a else decide (i<j)
def qf:∀a:UN,eS a a=T
 |[]=>rfl
 |x::xs=>by simp[eS,qf xs]
def uC:∀(a f:UN),PyData.eqvAll (a.map PyData.int) (f.map PyData.int)=decide (a=f)
 |[],[]=>by simp[PyData.eqvAll]
 |[],_::_=>by simp[PyData.eqvAll]
 |_::_,[]=>by simp[PyData.eqvAll]
 |x::a,y::f=>by
  simp only[n9,PyData.eqvAll,PyData.eqv,uC a f];by_cases z:x=y<;>simp[z]
def Jk{f a:UN}:PyData.eqv (.list (f.map .int)) (.list (a.map .int))=decide (f=a):=by simp only[PyData.eqv,uC]
def zk(a:UN):PyData.canLay0 (.list (a.map .int))=I:=by
 have:∀a:UN,PyData.canLayAll0 (a.map PyData.int)=I:=λa=>by
  induction a with
  |nil=>rfl
  |cons i a f=>simpa [PyData.canLayAll0,PyData.canLay0]using f
 simpa [PyData.canLay0]using this a
def zj(a:UN):PyData.depth (.list (a.map .int))<=1:=by
 have:∀a:UN,PyData.depthAll (a.map PyData.int)<=0:=λa=>by
  induction a with
  |nil=>simp[PyData.depthAll]
  |cons i a f=>simp only[n9,PyData.depthAll,PyData.depth];lia
 have:=this a
 simp only[PyData.depth];lia
def uK{a b:Addr}{i j:Int}{f l:UN}{Q:UA}(hu:A.units+2<cLine)(M:KZ s.heap a i f)(R:KZ s.heap b j l)(h:Q (.bool (nS i j f l)) s):wpAny (model prog w) A (richCompare .Lt (.ref a) (.ref b)) Q E s:=by
 obtain⟨oa,na,H,F,Z,xa,X,ga,L,O,u,B⟩:=M.ex;obtain⟨ob,nb,tb,C,W,S,U,gb,G,P,r,y⟩:=R.ex;refine wpAny_richCompare_same_room (op:=.Lt) ⟨_,ga,L⟩ ⟨_,gb,G⟩ PySem.F.slot_tuple_lt (wpAny_call_entry PySem.F.slot_tuple_lt ⟨_,ga,L⟩ PySem.F.entry_tuple_lt ?_ (PySem.F.args_tuple_lt_2 _ _)) ⋯;show wpAny _ _ (isInstance (.ref b) (.type "tuple") >>= _) _ _ s;refine d_ (wpAny_isInstance ⟨_,gb,G⟩ isSubtype_tuple_tuple ?_);simp only[Dm,o0,if_false];refine d_ (wpAny_tupleItemsOf ga O ?_);refine d_ (wpAny_tupleItemsOf gb P ?_);refine d_ ?_;rw[show List.zip (#[Value.int i H,Value.ref F]).toList (#[Value.int j tb,Value.ref C]).toList=[(.int i H,.int j tb),(.ref F,.ref C)]from rfl];simp only[List.forIn_cons,List.forIn_nil];refine d_ ?_;refine d_ (wpAny_eqBool_int ?_);unfold nS at h;by_cases e:i=j
 .rw[b_ e]at h;rw[show(i==j)=I by simpa using e];simp only[Dm,o0,if_false];refine ii ?_
  refine d_ (d_ (eqBoolOverData prog w A.in1 E s (.ref F) (.ref C) (.list (f.map .int)) (.list (l.map .int)) _ _ _ (.list u rfl rfl (jQ (by simpa using B.1) λk z=>by simpa using B.2 k z)) (.list r rfl rfl (jQ (by simpa using y.1) λk z=>by simpa using y.2 k z)) (zk f) (zk l) (by
   have:=zj f
   have:=zj l
   show A.units+1+_<_
   lia) ?_))
  rw[Jk];by_cases q:f=l
  .subst q;rw[decide_eq_true rfl];simp only[Dm,o0,if_false];rw[qf]at h;exact ii (ii (ii ⟨_,rfl,(λe=>nomatch e),h⟩))
  .rw[decide_eq_false q];simp only[KG,if_true];refine d_ (wpAny_rule ?_);refine d_ (su (by show A.units+1<_;lia) u r B y ?_);exact d_ (ii (ii (ii (ii ⟨_,rfl,(λe=>nomatch e),h⟩))))
 .rw[f_ e]at h;rw[show(i==j)=T by simpa using e];simp only[KG,if_true];refine d_ (wpAny_rule ?_);refine d_ (wpAny_lt_int ?_);exact d_ (ii (ii (ii (ii ⟨_,rfl,(λe=>nomatch e),h⟩))))
end
def Kp(a:US)(S:Addr)(f h:Heap):Prop:=∀b o,b∉a->b≠S->f.get? b=J o->h.get? b=J o
def Jl(prog:Program)(w:World)(A:Around)(P:Nat->Value->Prop)(l:Nat->Nat->Bool)(K:Heap->Prop):Prop :=
 ∀i j a f (s:Shared) (Q E:UA),P i a->P j f->K s.heap->Q (.bool (l i j)) s->wpAny (model prog w) A (richCompare .Lt a f) Q E s
section
variable{prog:Program}{w:World}{A:Around}{R:Result->Shared->Prop}{I S:Addr}{fp wr:US}{n:Nat}{P:Nat->Value->Prop}{St:Nat->Heap->Prop}{bt:Nat->Nat->Bool}{h0:Heap}
def i6:(toString "min"++toString ".loop":String)="min.loop":=by decide
def Jm(W:Walks prog w A.in1 I fp wr n P St)(Z:Jl prog w A.in1 P bt (Kp wr S h0))(hf:S∉fp)(X:List (Str×Value)):
  ∀(k j:Nat)(s:Shared)(i:Value)(c:Nat),j+1+k=n->St (j+1) s.heap->P (argBest bt j) i ->
  s.heap.get? S=J { cls:=.type "list",dict:=Y,data:=.seq #[i,i] c,slots:=#[]}->Kp wr S h0 s.heap ->
  (∀v B G,P (argBest bt (n-1)) v->Kp wr S h0 B->R (.ok (.ret v)) { s with heap:=B,toks:=G}) ->
  codeAny (model prog w) A (.builtin "min.loop" ⟨[.ref I,.none,.ref S],X⟩) R s:=by
 have U:S∉wr:=λh=>hf (W.sub _ h);intro k
 induction k with
 |zero =>
  intro j s i c O st C u K E;obtain rfl:j+1=n:=O;refine codeAny_builtin F.entry_min_loop ?_;rw[Around.under_plainId F.plain_min_loop _];show wpAny _ A.in1 (seqItems? (.ref S) >>= _) _ _ s;refine d_ (wpAny_seqItems u rfl ?_);show wpAny _ A.in1 (tryCatch (pyNext (.ref I)) _ >>= _) _ _ s;refine d_ (wpAny_tryCatch (W.done s _ _ st λB G a=>?_));show wpAny _ A.in1 (updateSeq S (λ_=>#[]) >>= _) _ _ _;refine d_ (wpAny_updateSeq (a S _ U u) rfl (d_ (wpAny_letGo (ii ?_))));exact E i _ G C λb o x y e=>(Df _ _ (Ne.symm y)).trans (a b o x (K b o x y e))
 |succ k Q =>
  intro j s i c O st C u K E;refine codeAny_builtin F.entry_min_loop ?_;rw[Around.under_plainId F.plain_min_loop _];show wpAny _ A.in1 (seqItems? (.ref S) >>= _) _ _ s;refine d_ (wpAny_seqItems u rfl ?_);show wpAny _ A.in1 (tryCatch (pyNext (.ref I)) _ >>= _) _ _ s;refine d_ (wpAny_tryCatch (W.item (j+1) s _ _ (by ext) st λv B G hv z a=>?_));have r:=a S _ U u;have L:Kp wr S h0 B:=λb o x y e=>a b o x (K b o x y e);show wpAny _ A.in1 (tryCatch (holding [v,v] (richCompare .Lt v i >>= _)) _ >>= _) _ _ _;refine d_ (wpAny_tryCatch (wpAny_holding (d_ (Z (j+1) (argBest bt j) v i _ _ _ hv C L ?_))));refine d_ (wpAny_holding (wpAny_truthy_bool ?_));refine d_ (wpAny_letGo (ii ?_))
  cases H:bt (j+1) (argBest bt j) with
  |true =>
   simp only[if_true];refine d_ (wpAny_updateSeq r rfl (d_ (wpAny_letGo ?_)));rw[i6]
   exact ii ⟨plainId_quiet F.plain_min_loop _,Q (j+1) _ v _ (by ext) (W.frame _ _ _ z λb H o e=>(Df _ _ (λh:S=b=>hf (h▸H))).trans e) (by simp only[argBest,H,if_true];exact hv)
    (GO _ r rfl) (λb o x y e=>(Df _ _ (Ne.symm y)).trans (L b o x y e)) λM l f=>E M l f⟩
  |false =>
   simp only[o0,if_false];refine d_ (wpAny_letGo ?_);rw[i6];exact ii ⟨plainId_quiet F.plain_min_loop _,Q (j+1) _ i c (by ext) z (by simp only[argBest,H,o0,if_false];exact C) r L λM l f=>E M l f⟩
def zU(W:Walks prog w A.in1 I fp wr n P St)(L:Jl prog w A.in1 P bt (Kp wr S h0))(hf:S∉fp)(d:Value){s:Shared}{c:Nat}(st:St 0 s.heap)(B:s.heap.get? S=J { cls:=.type "list",dict:=Y,data:=.seq #[] c,slots:=#[]})(K:Kp wr S h0 s.heap)(C:∀v j u,(if n=0 then v=d else P (argBest bt (n-1)) v)->Kp wr S h0 j->R (.ok (.ret v)) { s with heap:=j,toks:=u}):
  codeAny (model prog w) A (.builtin "min.loop" ⟨[.ref I,.none,.ref S],[("default",d)]⟩) R s:=by
 have H:S∉wr:=λh=>hf (W.sub _ h);refine codeAny_builtin F.entry_min_loop ?_;rw[Around.under_plainId F.plain_min_loop _];show wpAny _ A.in1 (seqItems? (.ref S) >>= _) _ _ s;refine d_ (wpAny_seqItems B rfl ?_);show wpAny _ A.in1 (tryCatch (pyNext (.ref I)) _ >>= _) _ _ s;by_cases z:n=0
 .subst z;refine d_ (wpAny_tryCatch (W.done s _ _ st λj u a=>?_));refine d_ (wpAny_rule (ii ?_));exact C d _ _ rfl λb o x y e=>a b o x (K b o x y e)
 .refine d_ (wpAny_tryCatch (W.item 0 s _ _ (by ext) st λv j u hv r a=>?_));have f:=a S _ H B;show wpAny _ A.in1 (updateSeq S (λ_=>#[v,v]) >>= _) _ _ _;refine d_ (wpAny_updateSeq f rfl ?_);rw[i6]
  refine ii ⟨plainId_quiet F.plain_min_loop _,Jm W L hf _ (n-1) 0 _ v _ (by ext) (W.frame _ _ _ r λb G o e=>(Df _ _ (λh:S=b=>hf (h▸G))).trans e) hv (GO _ f rfl)
   (λb o x y e=>(Df _ _ (Ne.symm y)).trans (a b o x (K b o x y e))) λE l i p=>C E l i (by rw[f_ z];exact p)⟩
end
section
variable{prog:Program}{w:World}{A:Around}{E:UA}{s:Shared}
def xp(a d:Value):argsOk "min" ⟨[a],[("default",d)]⟩:=by unfold argsOk;kernel_rfl
def si{id:String}{b:Builtin}{a:UT}{j:List (Str×Value)}{Q:UA}(z:builtinKind id=Y)(F:plainId id=I)(H:entryFor table id=J b)(G:argsOk id ⟨a,j⟩)(y:wpAny (model prog w) A.in1 (b ⟨a,j⟩) (λfin i=>match fin with
   |.done f=>(match(Except.ok f:Result)with | .ok (.ret v)=>Q v i | .ok _=>False | .error e=>E e i)
   |.again u=>u.quiet=I/\codeAny (model prog w) A u (λr i=>match r with|.ok (.ret v)=>Q v i|.ok _=>False|.error e=>E e i) i) E s):
  wpAny (model prog w) A (call (.builtin id) a j) Q E s:=by
 refine wpAny_call (codeAny_call_builtin F H ?_);simp only[checkBuiltinCall,z]
 cases B:Manifest.signature? id with
 |none=>exact ii y
 |some l =>
  have C:Bind.checkArgs id l ⟨a,j⟩=pure ():=by simpa only[argsOk,B]using G
  simp only[C];exact ii y
def xD{x d:Value}{Q:UA}(h:wpAny (model prog w) A.in1 (pyIter x) (λG a=>∃f r l n P St C,G=.ref f/\Walks prog w A.in1 f r l n P St/\St 0 a.heap/\(∀b∈r,b<a.heap.objs.size)/\Jl prog w A.in1 P C (Kp l a.heap.objs.size a.heap) /\
   ∀v u B,(if n=0 then v=d else P (argBest C (n-1)) v)->(∀b o,b∉l->a.heap.get? b=J o->u.get? b=J o)->Q v { a with heap:=u,toks:=B}) E s):
  wpAny (model prog w) A (call (.builtin "min") [x] [("default",d)]) Q E s:=by
 refine si F.kind_min F.plain_min F.entry_min (xp _ _) ?_;show wpAny _ A.in1 (Builtin.Builtins.bindParams "min" ["key","default"] 0 ⟨[],[("default",d)]⟩ >>= _) _ _ s;refine d_ (wpAny_of_eq (show Builtin.Builtins.bindParams "min" ["key","default"] 0 ⟨[],[("default",d)]⟩=pure [Y,J d]from rfl) ?_);refine d_ (ii ?_);refine d_ (wpAny_mono h (λG a i=>?_) λ_ _ e=>e);obtain⟨f,r,l,n,P,St,C,rfl,W,y,z,j,L⟩:=i;refine d_ (wpAny_newObj_type ?_);rw[i6];have hf:a.heap.objs.size∉r:=λH=>B4 _ (z _ H);refine ii ⟨plainId_quiet F.plain_min_loop _,zU (h0:=a.heap) W j hf d (W.frame _ _ _ y λb _ o e=>m_ _ e) (rT _ rfl) (λb o _ _ e=>m_ _ e) λv u B p K=>?_⟩;exact L v u B p λb o x e=>K b o x (u_ (l_ e)) e
end
end SortT
namespace MM
open PySem.SeqAt PySem.MeetsSeq PySem.MeetsSeq2 PySem.MeetsSeq3 PySem.SeqRoads2 PyProof.Rows PySem.W L2 SetT SortT
def zQ{h j:Heap}{a:Addr}{i:Int}{f:UN}(r:KZ h a i f)(k:∀b o,h.get? b=J o->j.get? b=J o):KZ j a i f:=by obtain⟨o,u,t,l,z,xs,n,g,c,d,gl,y⟩:=r.ex;exact⟨o,u,t,l,z,xs,n,k _ _ g,c,d,k _ _ gl,y⟩
def cM(a:List (Int×UN))(i j:Nat):Bool:=nS (a.getD i (0,[])).1 (a.getD j (0,[])).1 (a.getD i (0,[])).2 (a.getD j (0,[])).2
def Ak{X:Cx}{A:Around}{E:UA}{P:UU}{Z:L2.St}{H:Hp}{s:Shared}{l:Addr}{ys:List V}{Q:UA}{d:Value}(f:List (Int×UN))(hu:A.in1.units+2<cLine)(hh:A.in1.handled=Y)(y:Inv X P Z H s)(W:SqL X.K H l ys\/SqT X.K H l ys)(F:∀a,aB ys a->∀k v,a[k]?=J v->∃b,v=.ref b/\KZ s.heap b (f.getD k (0,[])).1 (f.getD k (0,[])).2)(hQ:∀a,aB ys a->∀v r B,(if a.length=0 then v=d else a[argBest (cM f) (a.length-1)]?=J v)->(∀b o,s.heap.get? b=J o->r.get? b=J o)->Q v { s with heap:=r,toks:=B}):
  wpAny (model X.prog X.w) A (call (.builtin "min") [.ref l] [("default",d)]) Q E s:=by
 refine xD (m6 hh y W λa h2 It St C R st S kp u=>?_);refine⟨It,_,_,_,_,St,cM f,rfl,R,st,S,λi j U O s' Q' E' hi L K q=>?_,λv r B p kk=>?_⟩
 .obtain⟨b,rfl,M⟩:=F a C i U (by simpa using hi);obtain⟨c,rfl,rc⟩:=F a C j O (by simpa using L)
  have G:∀x o,s.heap.get? x=J o->s'.heap.get? x=J o:=λx o e=>K x o (λz=>by
   rw[B3]at z
   have:=l_ e
   lia) (u_ (l_ (kp x o e))) (kp x o e)
  exact uK hu (zQ M G) (zQ rc G) q
 .exact hQ a C v r B (by simpa using p) (xl kp u kk)
def pN(h:MH)(x:PV):Option (Int×UN):=match x with
 |.tup [.int i,y]=>((dJ h y).bind je).map (i,·)
 |_=>Y
def lq(h:MH):UL->Option (List (Int×UN))
 |[]=>J []
 |x::r=>(pN h x).bind λp=>(lq h r).map (p::·)
def Ab{f:UN}{a:UT}(h:IntsAre a f):iX a.toArray f:=by
 refine⟨by simpa using h.length,λi j=>?_⟩
 induction h generalizing i with
 |nil=>exact absurd j (Qb _)
 |cons n t _ l =>
  cases i with
  |zero=>exact⟨t,by simp⟩
  |succ i =>
   obtain⟨r,e⟩:=l i (by simpa using j);exact⟨r,by simpa using e⟩
section
variable{X:Cx}{LU:List (Addr × Obj)}{Z:L2.St}{H:Hp}{s:Shared}{U:US}{h:MH}
def EW(rh:RH X.K X.mg U H h){x:PV}{y:V}{p:Int×UN}(r:RP X.K U H x y)(e:pN h x=J p)(u:Inv X LU Z H s):∃a,y=.ref a/\KZ s.heap a p.1 p.2:=by
 unfold pN at e
 split at e
 .rename_i i y'
  obtain⟨is,R,rfl⟩:=vu.mp e;obtain⟨zs,hl,hi⟩:=C3.mp R
  cases r with
  |@tup _ a ys sq Q =>
   cases Q with
   |cons G t =>
    cases t with
    |cons M z =>
     cases z;cases G;obtain⟨l,ws,rfl,sl,F⟩:=pz rh M hl;rw[pB hi]at F;rw[CW F]at sl;obtain⟨O,rv,⟨o,g,hc,n,hd⟩,_⟩:=u.tuple sq;obtain⟨E,C,⟨S,m,L,B,al,P⟩,_⟩:=u.list sl
     cases rv with
     |cons W t1 =>
      cases t1 with
      |cons v2 z =>
       cases z;obtain⟨tk,rfl⟩:=W;cases v2;obtain⟨cls,j,data,f⟩:=S;cases B;exact⟨a,rfl,⟨o,n,tk,l,(j,f),E.toArray,m,g,hc,hd,by rw[L];simp_all [LO],Ab (sK C)⟩⟩
 .cases e
end
def f9(x d:PV)(h:MH):UZ:=match dJ h x with
 |some xs=>(match lq h xs with
  |some a=>.ok (if xs.length=0 then d else xs.getD (argBest (cM a) (xs.length-1)) .non) h
  |none=>.bad)
 |none=>.bad
def j7(a:Nat->Nat->Bool):∀n,argBest a n<=n
 |0=>il _
 |n+1=>by
  unfold argBest;split
  .exact il _
  .exact P5 (j7 a n)
def qX{h:MH}:∀{xs:UL}{a:List (Int×UN)}{k:Nat}{x:PV},lq h xs=J a->xs[k]?=J x->pN h x=J (a.getD k (0,[]))
 |[],_,_,_,_,e=>by cases e
 |x::r,_,k,y,e,g=>by
  obtain⟨p,e1,e2⟩:=C3.mp e;obtain⟨t,e3,rfl⟩:=vu.mp e2
  cases k with
  |zero=>cases g;simpa using e1
  |succ k=>simpa using qX (k:=k) e3 (by simpa using g)
def qH{ys:List V}{a:UT}(r:aB ys a){k:Nat}{v:Value}(e:a[k]?=J v):∃y,ys[k]?=J y/\aN y v:=by
 have j:k<ys.length:=by rw[r.length];exact(oI.mp e).1
 obtain⟨u,f,i⟩:=r.get (show ys[k]?=J ys[k] by simp);rw[e]at f;cases f;exact⟨_,by simp,i⟩
def sk{K:ib}{U:US}{H:Hp}{xs:UL}{ys:List V}(r:RPs K U H xs ys){k:Nat}{y:V}(e:ys[k]?=J y):∃x,xs[k]?=J x/\RP K U H x y:=by
 induction k generalizing xs ys with
 |zero=>cases r with
  |nil=>cases e
  |cons r t=>cases e;exact⟨_,rfl,r⟩
 |succ k a=>cases r with
  |nil=>cases e
  |cons r t=>obtain⟨x,ex,f⟩:=a t (by simpa using e);exact⟨x,by simpa using ex,f⟩
section
variable{X:Cx}{N W G:UM}{k:Nat}
def yH(hr:Room k X.A){S:UU}{Z:L2.St}{H:Hp}{s:Shared}{U:US}{h:MH}{x d:PV}{x' P:V}{u ud:Value}{Q:VK}(f:Inv X S Z H s)(F:RH X.K X.mg U H h)(rx:RP X.K U H x x')(rd:RP X.K U H d P)(ru:aN x' u)(L:aN P ud)(q:iH X (RV' X) U H (f9 x d h) Q):wpAny (model X.prog X.w) X.A (call (.builtin "min") [u] [("default",ud)]) (EP X S Z Q) X.xe s:=by
 unfold f9 at q
 split at q
 .rename_i xs hl
  split at q
  .rename_i C hp
   obtain⟨l,ys,rfl,R,j⟩:=pz F rx hl;cases ru;refine Ak C (by have:=hr.un;show X.A.units+1+2<_;lia) hr.hd f (.inl R) (λB E i v hv=>?_) λB E v h' tk p kk=>?_
   .obtain⟨y,M,O⟩:=qH E hv;obtain⟨x,ex,r⟩:=sk j M;obtain⟨a,rfl,ra⟩:=EW F r (qX hp ex) f;cases O;exact⟨a,rfl,ra⟩
   .have el:B.length=xs.length:=E.length.symm.trans j.length.symm;rw[el]at p;by_cases z:xs.length=0
    .rw[b_ z]at p q;subst p;exact⟨P,H,f.kept kk,L,q U H _ (Le.refl _ _) F rd⟩
    .rw[f_ z]at p q;obtain⟨y,M,O⟩:=qH E p;obtain⟨x,ex,r⟩:=sk j M;rw[So,ex]at q;exact⟨y,H,f.kept kk,O,q U H _ (Le.refl _ _) F r⟩
  .exact q.elim
 .exact q.elim
end
end MM
namespace MM
open PySem.Spec PyProof.Rows L2 SetT
section
variable{X:Cx}{N W G:UM}{k:Nat}
def EX(g:Good X N W G k){a b:Expr}{ma O:Mx PV}{j:Nat}{p kp an:Pos}(hj:G[j]?=J "min")(hm:X.mg "min"=Y)(ha:ME X a ma)(hb:ME X b O)(S:starEach [a] X.env=[(T,eval a X.env)]:=by rfl):ME X (.Call (.Name "min" p) [a] [⟨J "default",b,kp⟩] an) (ah f9 ma O):=by
 intro LU s Z H Q L ⟨U,f,h,rs,rh,q⟩;have d:=g.dbg _ (o_ _ (aL hj));refine wpAny_Call_Name_kw (gB L (g.gl _ (aL hj)) hm PyProof.Rows.Boot.«min» ?_ d.2.2 d.1)
 refine callWith_kw (spliced_more (ka (ha LU s Z H (λx' l=>∃i E x,Le U H i l/\RH X.K X.mg i l E/\RP X.K i l x x'/\Ful X (RV' X) f i l ((O f E).bind λy B=>(f9 x y B).ne) Q) L ⟨U,f,h,rs,rh,Ful.bind q λi l x x' E _ l1 z rx M=>⟨i,E,x,l1,z,rx,M⟩⟩) λu s1 ⟨x',l,I1,r1,i,E,x,l1,z,rx,M⟩ =>
  spliced_none (kws_cons (ka (hb LU s1 Z l (λy' F=>∃C B y,Le i l C F/\RH X.K X.mg C F B/\RP X.K C F y y'/\Ful X (RV' X) f C F (f9 x y B).ne Q) I1 ⟨i,f,E,rs.le l1,z,Ful.bind M λC F y y' B _ l2 r R P=>⟨C,B,y,l2,r,R,P⟩⟩) λu2 s2 al=>kws_nil ?_))) S) (by rw[S];rfl) (by rw[S];rfl) rfl rfl
 obtain⟨y',F,I2,r2,C,B,y,l2,r,R,P⟩:=al;exact yH g.room I2 r (rx.le l2) R r1 r2 P.zero
end
end MM
namespace MM
open PyProof.Rows
open PySem.AutoSeq1 (wpAny_loadPart')
section
variable{prog:Program}{w:World}{A:Around}{E:UA}{s:Shared}{r:Addr}{a b c:Int}{t u v:Tok}{n:Nat}
abbrev Pc(a c:Int)(acc:Array Value)(n:Nat):Prop:=ItemsOf (λ(i:Nat) v=>∃t,v=.int (a+i*c) t) acc n
def rE{Q:UT->Shared->Prop}(W:A.handled=Y)(O:IsRange s.heap r a b c t u v)(M:Builtin.Range.small a b c=I)(P:Builtin.Range.rangeSize a b c=n)(U:n<=2^24)(H:∀(j:Heap)(y:Nat)(i:Array Value),(∀b o,s.heap.get? b=J o->j.get? b=J o)->Pc a c i n->Q i.toList { s with heap:=j,toks:=y}):wpAny (model prog w) A (collect (.ref r)) Q E s:=by
 unfold collect;refine d_ (wpAny_runValue (codeAny_builtin F.entry_proto_collect ?_));rw[Around.under_plainId F.plain_proto_collect _];show wpAny _ A.in1 (newList [] >>= λl=>again (.builtin "list.__iadd__" ⟨[l,.ref r],[]⟩)) _ _ s;refine d_ (wpAny_newObj_type ?_);refine ii ⟨plainId_quiet F.plain_list_iadd _,codeAny_builtin F.entry_list_iadd ?_⟩;rw[Around.under_plainId F.plain_list_iadd _];show wpAny _ A.in1 (Builtin.List.listExtendWith (.ref s.heap.objs.size) (.ref r) (.ref s.heap.objs.size)) _ _ _
 refine wpAny_mono (wpAny_extend_range (A:=A) (R:=λr G=>∃(j:Heap)(y:Nat)(i:Array Value)(z:Nat),r=Except.ok (Flow.ret (.ref s.heap.objs.size))/\G={ s with heap:=j,toks:=y}/\(∀x o,s.heap.get? x=J o->j.get? x=J o) /\
   j.get? s.heap.objs.size=J { cls:=.type "list",dict:=Y,data:=.seq i z,slots:=#[]}/\Pc a c i n) (s:={ s with heap:=s.heap.push { cls:=.type "list",data:=.seq ([]:UT).toArray}}) W (m_ _ O) M P U s.heap.objs.size (.ref s.heap.objs.size) 0 (rT _ rfl)
   λj y i z k B C=>⟨j,y,i,z,rfl,rfl,λx o e=>k x o (u_ (l_ e)) (m_ _ e),B,C⟩) (λfin G h=>?_) (λe G h=>?_)
 .cases fin with
  |done f =>
   obtain⟨j,y,i,z,e,rfl,k,B,C⟩:=h;cases e;show wpAny _ A (load s.heap.objs.size >>= _) _ _ _;exact d_ (wpAny_load B (ii (H j y i k C)))
  |again d =>
   refine⟨h.1,codeAny_mono h.2 λr L S=>?_⟩;obtain⟨j,y,i,z,e,rfl,k,B,C⟩:=S;cases e;show wpAny _ A (load s.heap.objs.size >>= _) _ _ _;exact d_ (wpAny_load B (ii (H j y i k C)))
 .obtain⟨j,y,i,z,e,_⟩:=h;cases e
def lV(H:Builtin.Range.small a b c=I)(L:Builtin.Range.rangeSize a b c=n)(O:n<=2^24):Meets (Builtin.«tuple.__new__» ⟨[.type "tuple",.ref r],[]⟩)
  (λA R s=>A.handled=Y/\IsRange s.heap r a b c t u v/\∀(i:Heap) (C:Nat) (f:Array Value),(∀b o,s.heap.get? b=J o->i.get? b=J o)->Pc a c f n->R (.ok (.ret (.ref i.objs.size))) { s with heap:=i.push { cls:=.type "tuple",data:=.seq f},toks:=C}) :=
 .of_wp λprog w A R s h=>by
  obtain⟨P,j,h⟩:=h;have F:=sub_tuple_self;have l:=init_tuple_lookup;have G:=madeHere_tuple;have M:s.TypeIs (.ref r) "range":=⟨_,j,rfl⟩;have y:A.in1.handled=Y:=P;obtain⟨Q,g,d,C,os⟩:=s
  wp_walk using wpAny_loadPart' j,wpAny_typeOf M,rE y j H L O
  intro i z f k B;show wpAny _ _ (Builtin.Tuple.tupleExact f.toList.toArray >>= λv=>ret v) _ _ _;unfold Builtin.Tuple.tupleExact;refine d_ (wpAny_newObj_type ?_ (show f.toList.toArray.size<=sizeLine by simp only[Array.toArray_toList];rw[B.1,sizeLine_eq];ext));refine ii ⟨_,rfl,?_⟩;rw[show f.toList.toArray=f by simp];exact h i z f k B
def mZ{Q:UA}(C:A.handled=Y)(l:IsRange s.heap r a b c t u v)(z:Builtin.Range.small a b c=I)(G:Builtin.Range.rangeSize a b c=n)(B:n<=2^24)(h:∀(i:Heap) (j:Nat) (f:Array Value),(∀b o,s.heap.get? b=J o->i.get? b=J o)->Pc a c f n->Q (.ref i.objs.size) { s with heap:=i.push { cls:=.type "tuple",data:=.seq f},toks:=j}):wpAny (model prog w) A (call (.type "tuple") [.ref r]) Q E s :=
 callType_new F.called_tuple (by decide) (F.typeCall_tuple_1 _) (F.newCall_tuple_1 _) (λobj=>F.args_object_init_2 obj _) F.entry_tuple_new
  (lV (r:=r) z G B) ⟨C,l,λi j f k y=>⟨⟨_,rT _ rfl,rfl⟩,h i j f k y⟩⟩
end
end MM
namespace MM
open PySem.Spec PyProof.Rows L2
section
variable{X:Cx}{N W G:UM}{k:Nat}
def o4(hh:X.calm=I):cS X (.type "tuple") (λxs H Q=>∃r j,xs=[.ref r]/\H r=J (.rng 0 j) /\ -(2^62)<=j/\j<2^62/\j.toNat<=sizeLine/\∀l,H l=Y->Q (.ref l) (kg H l (.tup ((List.range j.toNat).map λi=>V.int (0+(i:Nat)))))):=by
 intro LU s Z H xs us Q a r ⟨O,j,e,M,F,L,z,q⟩;subst e
 cases r with
 |cons E S =>
  cases S;cases E;obtain⟨t,u,v,U⟩:=(a.hok O _ M);refine mZ (n:=j.toNat) (a.ok.hd hh) U (small_one (by ext) (by ext) F L) (by rw[rangeSize_one];split<;>ext) z λh' C f kp B=>?_;have P:=gU _ 0 _ (by exact B.1) λi v hv=>by
   obtain⟨t,e⟩:=B.2 i v (by rw[<-w_];exact hv)
   grind
  have y:=a.kept (t':=C) kp;have R:=y.laid (t':=C) (λb o e=>m_ _ e) (il _) (show ObjOk X.prog X.w _ _ _ (.tup _) from⟨by simpa using z,f.toList,P,by simpa using gO.new _ _⟩);exact⟨.ref h'.objs.size,_,R,rfl,q _ (y.hok.fresh (il _))⟩
def Ph(m:Mx (UL)):Mx PV:=λZ h=>(m Z h).bind λa f=>match a with
 |[.int j]=>if -(2^62)<=j/\j<2^62/\j.toNat<=sizeLine then .ok (.tup (bz 0 j.toNat)) f else .bad
 |_=>.bad
def zw(g:Good X N W G k){a:Expr}{m:Mx (UL)}{i j:Nat}{p O M f:Pos}(S:G[i]?=J "tuple")(hm:X.mg "tuple"=Y)(hj:G[j]?=J "range")(F:X.mg "range"=Y)(ha:MA X [a] m)(hs:starEach [a] X.env=[(T,eval a X.env)]:=by rfl)(R:starEach [.Call (.Name "range" O) [a] [] f] X.env=[(T,eval (.Call (.Name "range" O) [a] [] f) X.env)]:=by rfl):ME X (.Call (.Name "tuple" p) [.Call (.Name "range" O) [a] [] f] [] M) (Ph m):=by
 have d:=g.dbg _ (o_ _ (aL S));refine PE.imp (gu (o4 g.calm) (g.gl _ (aL S)) hm PyProof.Rows.Boot.«tuple» (fX (qQ (g.gl _ (aL hj)) F ha hs) jx R) d.2.2 d.1 R rfl) λZ H Q ⟨U,L,h,rs,rh,q⟩=>?_;refine⟨U,L,h,rs,rh,Ful.bind q λU1 H1 x x' h1 _ l1 E rx u=>?_⟩
 cases rx with
 |nil=>exact u.elim
 |cons P t1 =>
  cases t1 with
  |cons _ _=>cases P<;>exact u.elim
  |nil =>
   cases P with
   |int y =>
    dsimp only at u;by_cases z:-(2^62)<=y/\y<2^62/\y.toNat<=sizeLine
    .rw[b_ z]at u;refine⟨y,rfl,z.1,z.2.1,λr hr=>?_⟩;obtain⟨C,l2⟩:=E.loose hr (.rng 0 y);refine⟨r,y,rfl,bQ,z.1,z.2.1,z.2.2,λl hl=>?_⟩;obtain⟨B,l3⟩:=C.tup hl ((List.range y.toNat).map λi=>V.int (0+(i:Nat)));exact u _ _ _ (l2.trans l3) B (.tup (.inl (.inl bQ)) (iZ _))
    .rw[f_ z]at u;exact u.elim
   |_=>exact u.elim
end
end MM
namespace PU
open MM
def ys{α:Type}{a b:α}(h:a=b):a=b:=h
inductive D where
 |non | bl (b:Bool) | int (i:Int) | str (x:Str) | tup (xs:List D) | lst (xs:List D) | dic (ks:UP) (ds:List D) | exc (c:Str) | pen
abbrev _root_.UR:=List D
abbrev _root_.UC:=Option D
abbrev g_:=Int×Int×Int
abbrev aq:=List (UC)
def bF(h:MH)(p:Nat)(s:g_):Prop:=h[p]?=J (.lst [.int s.1,.int s.2.1,.int s.2.2])
inductive Ri(P:UL->Prop)(v:PV):Prop
 |mk(xs:UL)(e:v=.tup xs)(r:P xs):Ri P v
inductive S8(h:MH)(O:UQ)(P:UL->Prop)(v:PV):Prop
 |mk(n:Nat)(xs:UL)(e:v=.loc n)(no:n∉O)(g:h[n]?=J (.lst xs))(r:P xs):S8 h O P v
inductive S9(h:MH)(O:UQ)(o:MO)(v:PV):Prop
 |mk(n:Nat)(e:v=.loc n)(no:n∉O)(g:h[n]?=J o):S9 h O o v
inductive S_(h:MH)(O:UQ)(ks:UP)(P:UL->Prop)(v:PV):Prop
 |mk(n:Nat)(xs:UL)(e:v=.loc n)(no:n∉O)(g:h[n]?=J (.dic ks xs))(r:P xs):S_ h O ks P v
inductive Rj(P:PV->Prop)(Q:UL->Prop)(vs:UL):Prop
 |mk(x:PV)(r:UL)(e:vs=x::r)(a:P x)(b:Q r):Rj P Q vs
mutual
def Rp(p:Nat)(h:MH)(O:UQ):D->PV->Prop
 |.non,v=>v=.non
 |.bl b,v=>v=.bl b
 |.int i,v=>v=.int i
 |.str x,v=>v=.str x
 |.tup a,v=>Ri (Rps p h O a) v
 |.lst a,v=>S8 h O (Rps p h O a) v
 |.dic f a,v=>S_ h O f (Rps p h O a) v
 |.exc c,v=>S9 h O (.exc ⟨c,[]⟩) v
 |.pen,v=>v=.loc p
def Rps(p:Nat)(h:MH)(O:UQ):UR->UL->Prop
 |[],a=>a=[]
 |d::f,a=>Rj (Rp p h O d) (Rps p h O f) a
end
def aW{h:MH}{n:Nat}{o:MO}(e:h[n]?=J o):n<h.length:=(oI.mp e).1
structure Mv(O:UQ)(h:MH)(O':UQ)(h':MH):Prop where
 keep:∀n:Nat,n<h.length->n∉O->h'[n]?=h[n]?
 new:∀o∈O',o∈O\/h.length<=o
def Mv.get{O f:UQ}{h i:MH}(s:Mv O h f i){n:Nat}{o:MO}(e:h[n]?=J o)(a:n∉O):n∉f/\i[n]?=J o:=by
 have j:=aW e;refine⟨λz=>?_,(s.keep n j a).trans e⟩;rcases s.new n z with q|q
 .exact a q
 .lia
section
variable{p:Nat}{O O':UQ}{h h':MH}
def Rp.mv(s:Mv O h O' h')(r:Rp p h O d v):Rp p h' O' d v:=by
 refine D.rec (motive_1:=λd=>∀v,Rp p h O d v->Rp p h' O' d v) (motive_2:=λl=>∀u,Rps p h O l u->Rps p h' O' l u)
  (λ_ r=>r) (λ_ _ r=>r) (λ_ _ r=>r) (λ_ _ r=>r) (λl i _ r=>?_) (λl i _ r=>?_) (λ_ l i _ r=>?_) (λ_ _ r=>?_) (λ_ r=>r) (λ_ r=>r) (λ_ _ i j _ r=>?_) d v r
 .obtain⟨xs,e,r⟩:=r;exact⟨xs,e,i _ r⟩
 .obtain⟨n,xs,e,f,g,r⟩:=r;exact⟨n,xs,e,(s.get g f).1,(s.get g f).2,i _ r⟩
 .obtain⟨n,xs,e,f,g,r⟩:=r;exact⟨n,xs,e,(s.get g f).1,(s.get g f).2,i _ r⟩
 .obtain⟨n,e,f,g⟩:=r;exact⟨n,e,(s.get g f).1,(s.get g f).2⟩
 .obtain⟨x,t,e,a,b⟩:=r;exact⟨x,t,e,i _ a,j _ b⟩
def Rps.mv(s:Mv O h O' h')(r:Rps p h O f vs):Rps p h' O' f vs:=by
 induction f generalizing vs with
 |nil=>exact r
 |cons d f i=>obtain⟨x,t,e,a,b⟩:=r;exact⟨x,t,e,a.mv s,i b⟩
def Rps.length(r:Rps p h O f vs):vs.length=f.length:=by
 induction f generalizing vs with
 |nil=>rw[show vs=[]from r];rfl
 |cons d f i=>obtain⟨x,t,e,a,b⟩:=r;rw[e,AQ,AQ,i b]
def Rps.get{f:UR}{j:UL}{i:Nat}{d:D}(r:Rps p h O f j)(g:f[i]?=J d):∃v,j[i]?=J v/\Rp p h O d v:=by
 induction f generalizing j i with
 |nil=>cases g
 |cons d f l =>
  obtain⟨x,t,e,a,b⟩:=r;subst e
  cases i with
  |zero=>cases g;exact⟨x,rfl,a⟩
  |succ i=>have z:=@l t i b g;exact z
def Rps.app(r:Rps p h O f vs)(s:Rps p h O es ws):Rps p h O (f++es) (vs++ws):=by
 induction f generalizing vs with
 |nil=>rw[show vs=[]from r];exact s
 |cons d f i=>obtain⟨x,t,e,a,b⟩:=r;subst e;exact⟨x,t++_,rfl,a,i b⟩
def Rps.take(n:Nat)(r:Rps p h O f vs):Rps p h O (f.take n) (vs.take n):=by
 induction f generalizing vs n with
 |nil=>rw[show vs=[]from r];cases n<;>rfl
 |cons d f i =>
  obtain⟨x,t,e,a,b⟩:=r;subst e
  cases n with
  |zero=>rfl
  |succ n=>exact⟨x,t.take n,rfl,a,i n b⟩
def Rps.drop(n:Nat)(r:Rps p h O f vs):Rps p h O (f.drop n) (vs.drop n):=by
 induction f generalizing vs n with
 |nil=>rw[show vs=[]from r];cases n<;>rfl
 |cons d f i =>
  cases n with
  |zero=>exact r
  |succ n=>obtain⟨x,t,e,a,b⟩:=r;subst e;exact i n b
end
def dl:Option (UP)->UR->D
 |none,a=>.lst a
 |some f,a=>.dic f a
def mo:Option (UP)->UL->MO
 |none,xs=>.lst xs
 |some a,xs=>.dic a xs
def ip(e:D.lst ds=dl k es):k=Y/\ds=es:=by
 cases k with
 |none=>cases e;exact⟨rfl,rfl⟩
 |some _=>cases e
def sB(e:D.dic ks ds=dl k es):k=J ks/\ds=es:=by
 cases k with
 |none=>cases e
 |some _=>cases e;exact⟨rfl,rfl⟩
inductive Ta(p:Nat)(h:MH)(L:Nat)(O:UQ)(d:D)(v:PV):Prop
 |mk(n:Nat)(k:Option (UP))(xs:UL)(ds:UR)(e:d=dl k ds)(e':v=.loc n)(o:n∈O)(l:L<=n)(g:h[n]?=J (mo k xs))(r:Rps p h O ds xs):Ta p h L O d v
def Vw(p:Nat)(h:MH)(L:Nat)(O:UQ)(d:D)(v:PV):Prop:=Rp p h O d v\/Ta p h L O d v
def Jn(p:Nat)(h:MH)(L:Nat)(O:UQ):UR->UL->Prop
 |[],a=>a=[]
 |d::f,a=>Rj (Vw p h L O d) (Jn p h L O f) a
inductive M9(p:Nat)(L:Nat)(O:UQ)(h:MH)(k:Option (UP))(ds:UR)(v:PV):Prop
 |mk(n:Nat)(xs:UL)(e:v=.loc n)(l:L<=n)(g:h[n]?=J (mo k xs))(r:Rps p h (n::O) ds xs):M9 p L O h k ds v
def Frs(p:Nat)(L:Nat)(O:UQ)(h:MH)(d:D)(v:PV):Prop:=∀k a,d=dl k a->M9 p L O h k a v
structure KB(p:Nat)(h h':MH):Prop where
 len:h.length<=h'.length
 keep:∀n:Nat,n<h.length->n≠p->h'[n]?=h[n]?
def KB.refl(p:Nat)(h:MH):KB p h h:=⟨il _,λ_ _ _=>rfl⟩
def KB.trans(a:KB p h h1)(b:KB p h1 h2):KB p h h2 :=
 ⟨mu a.len b.len,λn i f=>(b.keep n (oQ i a.len) f).trans (a.keep n i f)⟩
def KB.app(p:Nat)(h g:MH):KB p h (h++g):=⟨by simp,λn a _=>qr a⟩
def KB.mv(k:KB p h h')(i:p∈O):Mv O h O h' :=
 ⟨λn j f=>k.keep n j λz=>f (z▸i),λo a=>.inl a⟩
def bF.app{p:Nat}{h g:MH}{s:g_}(e:bF h p s):bF (h++g) p s:=by unfold bF at *;rw[qr (aW e)];exact e
def Vw.kb{p L:Nat}{h f:MH}{O:UQ}{d:D}{v:PV}(k:KB p h f)(a:p∈O)(hL:p<L)(w:Vw p h L O d v):Vw p f L O d v:=by
 rcases w with r|⟨n,u,xs,j,e1,e2,l,i,g,r⟩
 .exact .inl (r.mv (k.mv a))
 .exact .inr ⟨n,u,xs,j,e1,e2,l,i,(k.keep n (aW g) ⋯).trans g,r.mv (k.mv a)⟩
inductive PR(α:Type) where
 |ok(a:α)(s:g_)
 |exc(c:Str)(s:g_)
 |bad
def PR.bind{α β:Type}(r:PR α)(f:α->g_->PR β):PR β:=match r with
 |.ok a s=>f a s
 |.exc c s=>.exc c s
 |.bad=>.bad
@[simp]theorem Pb(a:α)(s:g_)(f:α->g_->PR β):(PR.ok a s).bind f=f a s:=rfl
@[simp]theorem Pe(c:Str)(s:g_)(f:α->g_->PR β):(PR.exc c s).bind f=.exc c s:=rfl
@[simp]theorem Pd(f:α->g_->PR β):(PR.bad:PR α).bind f=.bad:=rfl
def PR.of{α:Type}(o:Option α)(s:g_):PR α:=match o with
 |some a=>.ok a s
 |none=>.bad
@[simp]theorem Pf(a:α)(s:g_):PR.of (J a) s=.ok a s:=rfl
@[simp]theorem Pn(s:g_):PR.of (Y:Option α) s=.bad:=rfl
inductive Rk{α β:Type}(p:Nat)(h:MH)(o:Out β)(a:α)(s:g_)(R:MH->α->β->Prop):Prop
 |mk(b:β)(h':MH)(e:o=.ok b h')(k:KB p h h')(n:bF h' p s)(r:R h' a b):Rk p h o a s R
inductive Tc{β:Type}(p:Nat)(h:MH)(o:Out β)(c:Str)(s:g_):Prop
 |mk(h':MH)(e:o=.exc ⟨c,[]⟩ h')(k:KB p h h')(n:bF h' p s):Tc p h o c s
def Ok{α β:Type}(p:Nat)(h:MH)(o:Out β)(r:PR α)(R:MH->α->β->Prop):Prop:=match r with
 |.ok a s=>Rk p h o a s R
 |.exc c s=>Tc p h o c s
 |.bad=>True
def Ok.bind{α β γ δ:Type}{p:Nat}{h:MH}{o:Out β}{r:PR α}{R:MH->α->β->Prop}{f:β->MH->Out δ}{g:α->g_->PR γ}{S:MH->γ->δ->Prop}(q:Ok p h o r R)(k:∀a b i s,KB p h i->bF i p s->R i a b->Ok p i (f b i) (g a s) S):Ok p h (o.bind f) (r.bind g) S:=by
 cases r with
 |ok a s =>
  obtain⟨b,i,rfl,kb,pn,z⟩:=q
  have:=k a b i s kb pn z
  rw[Pb]
  cases e:g a s with
  |ok c B =>
   rw[e]at this;obtain⟨d,u,e2,j,l,y⟩:=this;exact⟨d,u,e2,kb.trans j,l,y⟩
  |exc c B =>
   rw[e]at this;obtain⟨u,e2,j,l⟩:=this;exact⟨u,e2,kb.trans j,l⟩
  |bad=>trivial
 |exc c s =>
  obtain⟨i,rfl,kb,pn⟩:=q;exact⟨i,rfl,kb,pn⟩
 |bad=>trivial
def Ok.imp{α β:Type}{p:Nat}{h:MH}{o:Out β}{r:PR α}{R S:MH->α->β->Prop}(q:Ok p h o r R)(k:∀f a b,KB p h f->R f a b->S f a b):Ok p h o r S:=by
 cases r with
 |ok a s=>obtain⟨b,i,e,kb,pn,j⟩:=q;exact⟨b,i,e,kb,pn,k _ _ _ kb j⟩
 |exc c s=>exact q
 |bad=>trivial
structure SR(p:Nat)(h:MH)(L:Nat)(O:UQ)(ws:UQ)(Z:k_)(env:aq):Prop where
 len:Z.length=env.length
 fz:∀i d,env[i]?=J (J d)->i∉ws->∃v,Z[i]?=J (J v)/\Rp p h O d v
 ow:∀i d,env[i]?=J (J d)->i∈ws->∃n k xs ds,d=dl k ds/\Z[i]?=J (J (.loc n))/\n∈O/\L<=n/\h[n]?=J (mo k xs)/\Rps p h O ds xs
structure Cx(p:Nat)(h:MH)(L:Nat)(B O:UQ)(ws:UQ)(Z:k_)(env:aq)(s:g_):Prop where
 bd:∀o∈O,o<h.length
 sub:∀o∈B,o∈O
 bb:∀o∈B,o<L
 pb:p∈B
 hL:L<=h.length
 pen:bF h p s
 sr:SR p h L O ws Z env
section
variable{p L:Nat}{h h':MH}{B O ws:UQ}{Z:k_}{env:aq}{s s':g_}
def Cx.pO(c:Cx p h L B O ws Z env s):p∈O:=c.sub p c.pb
def Cx.pL(c:Cx p h L B O ws Z env s):p<L:=c.bb p c.pb
def SR.mv{O':UQ}(m:Mv O h O' h')(j:∀o∈O,o∈O')(u:∀n:Nat,n<h.length->L<=n->n∈O->h'[n]?=h[n]?)(r:SR p h L O ws Z env):SR p h' L O' ws Z env :=
 ⟨r.len,λi d e f=>let⟨v,e1,q⟩:=r.fz i d e f;⟨v,e1,q.mv m⟩,λi d e f=>let⟨n,k,xs,l,e1,e2,a,b,g,q⟩:=r.ow i d e f;⟨n,k,xs,l,e1,e2,j n a,b,(u n (aW g) b a).trans g,q.mv m⟩⟩
def Cx.kb(c:Cx p h L B O ws Z env s)(k:KB p h h')(pn:bF h' p s'):Cx p h' L B O ws Z env s' :=
 ⟨λo a=>oQ (c.bd o a) k.len,c.sub,c.bb,c.pb,mu c.hL k.len,pn,c.sr.mv (k.mv c.pO) (λ_ h=>h) λn f i _=>k.keep n f (by have:=c.pL;lia)⟩
def Vw.base(w:Vw p h L O d v)(sub:∀o∈B,o∈O)(bb:∀o∈B,o<L):Rp p h B d v:=by
 have m:Mv O h B h:=⟨λ_ _ _=>rfl,λo a=>.inl (sub o a)⟩;rcases w with r|⟨n,k,xs,f,rfl,rfl,_,i,g,r⟩
 .exact r.mv m
 .cases k<;>exact⟨n,xs,rfl,λz=>by have:=bb n z;lia,g,r.mv m⟩
def Frs.rp(f:Frs p L' O h d v)(bd:∀o∈O,o<L')(e:d=dl k ds):Rp p h O d v:=by obtain⟨n,xs,e1,i,g,r⟩:=f k ds e;subst e;cases k<;>exact⟨n,xs,e1,λz=>by have:=bd n z;lia,g,r.mv ⟨λ_ _ _=>rfl,λo a=>.inl (lb _ a)⟩⟩
def Frs.le(f:Frs p L2 O h d v)(i:L1<=L2):Frs p L1 O h d v:=λk a e =>
 let⟨n,xs,e1,j,g,r⟩:=f k a e;⟨n,xs,e1,mu i j,g,r⟩
end
abbrev Bd(h:MH)(O:UQ):Prop:=∀o∈O,o<h.length
inductive Gv(p:Nat)(h:MH)(O:UQ)(fr:Bool)(o:UZ)(d:D):Prop
 |mk(v:PV)(g:MH)(e:o=.ok v (h++g))(r:Rp p (h++g) O d v)(f:fr=I->Frs p h.length O (h++g) d v):Gv p h O fr o d
structure Pj where
 m:PV->MH->UZ
 p:D->UC
 fr:Bool
 ok:∀{q h L O a x d},Bd h O->Vw q h L O a x->p a=J d->Gv q h O fr (m x h) d
structure y4 where
 m:PV->PV->MH->UZ
 p:D->D->UC
 fr:Bool
 ok:∀{q h L O a x b y d},Bd h O->Vw q h L O a x->Vw q h L O b y->p a b=J d->Gv q h O fr (m x y h) d
structure B1 where
 k:UL->MH->UZ
 p:UR->UC
 fr:Bool
 ok:∀{q h L O as xs d},Bd h O->Jn q h L O as xs->p as=J d->Gv q h O fr (k xs h) d
structure Fn where
 m:UL->MH->UZ
 p:UR->g_->PR D
 fr:Bool
 ok:∀{q h O vs ds s},Bd h O->q∈O->bF h q s->Rps q h O ds vs->Ok q h (m vs h) (p ds s) (λh' d v=>Rp q h' O d v/\(fr=I->Frs q h.length O h' d v))
section
variable{p:Nat}{h h':MH}{O O':UQ}
end
structure Xe(ws:UQ) where
 m:Mx PV
 p:aq->g_->PR D
 fz:Bool
 fr:Bool
 ok:∀{q h L B O Z env s},Cx q h L B O ws Z env s->Ok q h (m Z h) (p env s) (λh' d v=>Vw q h' L O d v/\(fz=I->Rp q h' O d v)/\(fr=I->Frs q h.length O h' d v))
structure Xs(ws:UQ) where
 m:Mx (UL)
 p:aq->g_->PR (UR)
 fz:Bool
 ok:∀{q h L B O Z env s},Cx q h L B O ws Z env s->Ok q h (m Z h) (p env s) (λh' ds vs=>Jn q h' L O ds vs/\(fz=I->Rps q h' O ds vs))
structure Xt(ws:UQ) where
 m:Mx Bool
 p:aq->g_->PR Bool
 ok:∀{q h L B O Z env s},Cx q h L B O ws Z env s->Ok q h (m Z h) (p env s) (λ_ a b=>a=b)
noncomputable section
variable{ws:UQ}
def Cz{q L:Nat}{h a:MH}{O:UQ}{o:UZ}{d:D}{s:g_}{fr:Bool}(le:h.length<=a.length)(pn:bF a q s)(g:Gv q a O fr o d):
  Ok q a o (.ok d s) (λi d v=>Vw q i L O d v/\(I=I->Rp q i O d v)/\(fr=I->Frs q h.length O i d v)):=by
 obtain⟨v,g,e,r,f⟩:=g;exact⟨v,a++g,e,KB.app _ _ _,pn.app,.inl r,λ_=>r,λz=>(f z).le le⟩
def aa(i:Nat):Xe ws where
 m:=ae i
 p:=λenv s=>match env[i]? with
  |some (J d)=>.ok d s
  |_=>.bad
 fz:=!ws.contains i
 fr:=T
 ok {q h L B O Z env s} c:=by
  show Ok q h _ (match env[i]? with|some (J d)=>PR.ok d s|_=>.bad) _
  cases e:env[i]? with
  |none=>trivial
  |some o =>
   cases o with
   |none=>trivial
   |some d =>
    by_cases z:i∈ws
    .obtain⟨n,k,xs,j,e1,e2,a,b,g,r⟩:=c.sr.ow i d e z;exact⟨.loc n,h,by simp[ae,e2],KB.refl _ _,c.pen,.inr ⟨n,k,xs,j,e1,rfl,a,b,g,r⟩,λf=>by simp[z]at f,λf=>by simp at f⟩
    .obtain⟨v,e1,r⟩:=c.sr.fz i d e z;exact⟨v,h,by simp[ae,e1],KB.refl _ _,c.pen,.inl r,λ_=>r,λf=>by simp at f⟩
inductive Cn where
 |non | bl (b:Bool) | int (i:Int) | str (x:Str)
def Cn.v:Cn->PV
 |.non=>.non
 |.bl b=>.bl b
 |.int i=>.int i
 |.str x=>.str x
def Cn.d:Cn->D
 |.non=>.non
 |.bl b=>.bl b
 |.int i=>.int i
 |.str x=>.str x
def Cn.rp(c:Cn){q:Nat}{h:MH}{O:UQ}:Rp q h O c.d c.v:=by cases c<;>rfl
def xC(k:Cn):Xe ws where
 m:=mC k.v
 p:=λ_ s=>.ok k.d s
 fz:=I
 fr:=I
 ok {q h L B O Z env s} c:=⟨k.v,h,rfl,KB.refl _ _,c.pen,.inl k.rp,λ_=>k.rp,λ_ a f e=>by cases k<;>cases a<;>cases e⟩
def ac(o:y4)(a b:Xe ws):Xe ws where
 m:=ah o.m a.m b.m
 p:=λenv s=>(a.p env s).bind λx z=>(b.p env z).bind λy E=>.of (o.p x y) E
 fz:=I
 fr:=o.fr
 ok {q h L B O Z env s} c:=by
  refine(a.ok c).bind λx v M z i C ⟨F,_,_⟩=>?_;refine(b.ok (c.kb i C)).bind λy w P E j l ⟨G,_,_⟩=>?_
  cases e:o.p x y with
  |none=>trivial
  |some d =>
   have H:=(c.kb i C).kb j l;obtain⟨u,g,e1,r,f⟩:=o.ok H.bd (F.kb j c.pO c.pL) G e;exact Cz (mu i.len j.len) l ⟨u,g,by rw[e1];rfl,r,f⟩
def CJ(o:Pj)(a:Xe ws):Xe ws where
 m:=OO o.m a.m
 p:=λenv s=>(a.p env s).bind λx j=>.of (o.p x) j
 fz:=I
 fr:=o.fr
 ok {q h L B O Z env s} c:=by
  refine(a.ok c).bind λx v z j i l ⟨y,_,_⟩=>?_
  cases e:o.p x with
  |none=>trivial
  |some d =>
   obtain⟨u,g,e1,r,f⟩:=o.ok (c.kb i l).bd y e;exact Cz i.len l ⟨u,g,by rw[e1];rfl,r,f⟩
def a_:Xs ws where
 m:=h8
 p:=λ_ s=>.ok [] s
 fz:=I
 ok {q h L B O Z env s} c:=⟨[],h,rfl,KB.refl _ _,c.pen,rfl,λ_=>rfl⟩
def ab(a:Xe ws)(r:Xs ws):Xs ws where
 m:=af a.m r.m
 p:=λenv s=>(a.p env s).bind λx i=>(r.p env i).bind λy l=>.ok (x::y) l
 fz:=a.fz&&r.fz
 ok {q h L B O Z env s} c:=by refine(a.ok c).bind λx v P i F u ⟨G,z,_⟩=>?_;refine(r.ok (c.kb F u)).bind λy w C l j E ⟨H,M⟩=>?_;refine⟨v::w,C,rfl,KB.refl _ _,E,⟨v,w,rfl,G.kb j c.pO c.pL,H⟩,λf=>?_⟩;rw[Lo]at f;exact⟨v,w,rfl,(z f.1).mv (j.mv c.pO),M f.2⟩
def mm(o:B1)(a:Xs ws):Xe ws where
 m:=λZ h=>(a.m Z h).bind o.k
 p:=λenv s=>(a.p env s).bind λx j=>.of (o.p x) j
 fz:=I
 fr:=o.fr
 ok {q h L B O Z env s} c:=by
  refine(a.ok c).bind λx v r j i f ⟨l,_⟩=>?_
  cases e:o.p x with
  |none=>trivial
  |some d=>exact Cz i.len f (o.ok (c.kb i f).bd l e)
def ai(f:Fn)(a:Xs ws)(u:a.fz=I:=by exact ys rfl):Xe ws where
 m:=bA f.m a.m
 p:=λenv s=>(a.p env s).bind f.p
 fz:=I
 fr:=f.fr
 ok {q h L B O Z env s} c:=by refine(a.ok c).bind λx v y C i l ⟨_,z⟩=>?_;have j:=c.kb i l;refine(f.ok j.bd j.pO l (z u)).imp λE d v kb ⟨r,fr⟩=>⟨.inl r,λ_=>r,λz=>(fr z).le i.len⟩
def dS:100000<=sizeLine:=by decide
def oP(bd:Bd h O)(r:Rps q h O ds xs)(u:ds.length<=100000):Gv q h O I (pe xs h) (.lst ds):=by
 have l:=r.length;have m:Mv O h O (h++[MO.lst xs]):=⟨λn f _=>qr f,λo a=>.inl a⟩
 have j:Mv O h (h.length::O) (h++[MO.lst xs]):=⟨λn f _=>qr f,λo a=>by
  rcases k4.mp a with z|z
  .exact .inr ⋯
  .exact .inl z⟩
 have g:(h++[MO.lst xs])[h.length]?=J (.lst xs):=by simp
 refine⟨.loc h.length,[.lst xs],?_,⟨_,_,rfl,λz=>by have:=bd _ z;lia,g,r.mv m⟩,λ_ k i e=>?_⟩
 .unfold pe;have:=dS;lia
 .obtain⟨rfl,rfl⟩:=ip e;exact⟨_,_,rfl,il _,g,r.mv j⟩
def vz(r:Rps q h O ds xs)(i:ds.length<=100000):Gv q h O I (r_ xs h) (.tup ds):=by
 have f:=r.length;refine⟨.tup xs,[],?_,?_,λ_ k a e=>by cases k<;>cases e⟩
 .unfold r_;rw[b_ (by have:=dS;lia)];simp
 .simpa using⟨xs,rfl,r⟩
def bM(a:Xs ws)(r:a.fz=I:=by exact ys rfl):Xe ws where
 m:=eX a.m
 p:=λenv s=>(a.p env s).bind λx l=>if x.length<=100000 then .ok (.lst x) l else .bad
 fz:=I
 fr:=I
 ok {q h L B O Z env s} c:=by
  refine(a.ok c).bind λx v u l j i ⟨_,z⟩=>?_;by_cases f:x.length<=100000
  .rw[b_ f];exact Cz j.len i (oP (c.kb j i).bd (z r) f)
  .rw[f_ f];trivial
def aJ(a:Xs ws)(j:a.fz=I:=by exact ys rfl):Xe ws where
 m:=iA a.m
 p:=λenv s=>(a.p env s).bind λx i=>if x.length<=100000 then .ok (.tup x) i else .bad
 fz:=I
 fr:=I
 ok {q h L B O Z env s} c:=by
  refine(a.ok c).bind λx v u i r l ⟨_,z⟩=>?_;by_cases f:x.length<=100000
  .rw[b_ f];exact Cz r.len l (vz (z j) f)
  .rw[f_ f];trivial
def EY:Xe ws where
 m:=D_
 p:=λ_ s=>.ok (.dic [] []) s
 fz:=I
 fr:=I
 ok {q h L B O Z env s} c:=by
  have g:(h++[MO.dic [] []])[h.length]?=J (.dic [] []):=by simp
  have r:Rp q (h++[MO.dic [] []]) O (.dic [] []) (.loc h.length):=⟨_,[],rfl,λz=>by have:=c.bd _ z;lia,g,rfl⟩
  exact⟨.loc h.length,h++[.dic [] []],rfl,KB.app _ _ _,c.pen.app,.inl r,λ_=>r,λ_ k f e=>by
   cases k with
   |none=>cases e
   |some a=>cases e;exact⟨_,[],rfl,il _,g,rfl⟩⟩
def Vw.bl(w:Vw q h L O (.bl b) v):v=.bl b:=by
 rcases w with r|⟨n,k,xs,a,e,_⟩
 .exact r
 .cases k<;>cases e
def PR.bl(r:PR D):PR Bool:=r.bind λd s=>match d with
 |.bl b=>.ok b s
 |_=>.bad
@[simp]theorem Pl:(PR.ok (D.bl b) s).bl=.ok b s:=rfl
def xB(a:Xe ws):Xt ws where
 m:=mB a.m
 p:=λenv s=>(a.p env s).bl
 ok {q h L B O Z env s} c:=by
  refine(a.ok c).bind λx v f j l i ⟨w,_,_⟩=>?_
  cases x with
  |bl b=>rw[w.bl];exact⟨b,f,rfl,KB.refl _ _,i,rfl⟩
  |_=>trivial
def EZ(a:Xt ws):Xt ws where
 m:=HR a.m
 p:=λenv s=>(a.p env s).bind λb s=>.ok (!b) s
 ok {q h L B O Z env s} c:=(a.ok c).bind λx v f j l i e=>⟨!v,f,rfl,KB.refl _ _,i,by rw[e]⟩
def eV(a b:Xt ws):Xt ws where
 m:=DP a.m b.m
 p:=λenv s=>(a.p env s).bind λx s=>if x=I then b.p env s else .ok T s
 ok {q h L B O Z env s} c:=(a.ok c).bind λx v i l j f e=>by
  subst e
  cases x with
  |true=>simpa using b.ok (c.kb j f)
  |false=>exact⟨T,i,rfl,KB.refl _ _,f,rfl⟩
def E0(a b:Xt ws):Xt ws where
 m:=OP a.m b.m
 p:=λenv s=>(a.p env s).bind λx s=>if x=I then .ok I s else b.p env s
 ok {q h L B O Z env s} c:=(a.ok c).bind λx v i l j f e=>by
  subst e
  cases x with
  |false=>simpa using b.ok (c.kb j f)
  |true=>exact⟨I,i,rfl,KB.refl _ _,f,rfl⟩
def jj:Xt ws where
 m:=xQ
 p:=λ_ s=>.ok I s
 ok {q h L B O Z env s} c:=⟨I,h,rfl,KB.refl _ _,c.pen,rfl⟩
def Ok.after{α β:Type}{p:Nat}{h l:MH}{o:Out β}{r:PR α}{R:MH->α->β->Prop}(k:KB p h l)(q:Ok p l o r R):Ok p h o r R:=by
 cases r with
 |bad=>trivial
 |exc C z=>obtain⟨i,f,a,j⟩:=q;exact⟨i,f,k.trans a,j⟩
 |ok B z=>obtain⟨u,i,f,a,j,y⟩:=q;exact⟨u,i,f,k.trans a,j,y⟩
def Go(pn:bF h q s):Ok q h (.ok (.bl b) h) (.ok (.bl b) s) (λa d v=>Vw q a L O d v/\(I=I->Rp q a O d v)/\(I=I->Frs q l O a d v)) :=
 ⟨.bl b,h,rfl,KB.refl _ _,pn,.inl rfl,λ_=>rfl,λ_ k f e=>by cases k<;>cases e⟩
def Jo(k:Ok q h o r (λa d v=>Vw q a L O d v/\(fz=I->Rp q a O d v)/\(fr=I->Frs q l' O a d v))):
  Ok q h o (r.bl.bind λb s=>.ok (.bl b) s) (λa d v=>Vw q a L O d v/\(I=I->Rp q a O d v)/\(I=I->Frs q l O a d v)):=by
 cases r with
 |bad=>trivial
 |exc c s=>exact k
 |ok d s =>
  obtain⟨v,a,e,kb,pn,w,_,_⟩:=k
  cases d with
  |bl b=>exact⟨v,a,e,kb,pn,w,λ_=>by rw[w.bl];rfl,λ_ k f e=>by cases k<;>cases e⟩
  |_=>trivial
def nR(a b:Xe ws):Xe ws where
 m:=xu a.m b.m
 p:=λenv s=>(a.p env s).bl.bind λx s=>if x=I then(b.p env s).bl.bind λy s=>.ok (.bl y) s else .ok (.bl T) s
 fz:=I
 fr:=I
 ok {q h L B O Z env s} c:=by
  have k:=a.ok c;show Ok q h ((a.m Z h).bind _) _ _
  cases e:a.p env s with
  |bad=>trivial
  |exc x C =>
   rw[e]at k;obtain⟨j,e1,f,i⟩:=k;rw[e1];exact⟨j,rfl,f,i⟩
  |ok d C =>
   rw[e]at k;obtain⟨v,j,e1,f,i,w,_,_⟩:=k
   cases d with
   |bl x =>
    rw[w.bl]at e1;rw[e1]
    cases x with
    |true =>
     exact Ok.after f (Jo (l:=h.length) (b.ok (c.kb f i)))
    |false =>
     obtain⟨E,z,u,r,G,F⟩:=Go (L:=L) (l:=h.length) (O:=O) (b:=T) i;exact⟨E,z,u,f.trans r,G,F⟩
   |_=>trivial
def rY(a:Xe ws):Xe ws where
 m:=wP a.m
 p:=λenv s=>(a.p env s).bl.bind λx s=>.ok (.bl (!x)) s
 fz:=I
 fr:=I
 ok {q h L B O Z env s} c:=by
  have k:=a.ok c;show Ok q h ((a.m Z h).bind _) _ _
  cases e:a.p env s with
  |bad=>trivial
  |exc x z =>
   rw[e]at k;obtain⟨j,e1,f,i⟩:=k;rw[e1];exact⟨j,rfl,f,i⟩
  |ok d z =>
   rw[e]at k;obtain⟨v,j,e1,f,i,w,_,_⟩:=k
   cases d with
   |bl x =>
    rw[w.bl]at e1;rw[e1];obtain⟨C,y,u,r,F,E⟩:=Go (L:=L) (l:=h.length) (O:=O) (b:=!x) i;exact⟨C,y,u,f.trans r,F,E⟩
   |_=>trivial
def oC(f g:y4)(a b e:Xe ws):Xe ws where
 m:=ot f.m g.m a.m b.m e.m
 p:=λenv s=>(a.p env s).bind λx Q=>(b.p env Q).bind λy E=>match f.p x y with
  |some (.bl t)=>if t=I then(e.p env E).bind λz U=>.of (g.p y z) U else .ok (.bl T) E
  |_=>.bad
 fz:=I
 fr:=T
 ok {q h L B O Z env s} c:=by
  refine(a.ok c).bind λx v h1 Q P X ⟨w1,_,_⟩=>?_;refine(b.ok (c.kb P X)).bind λy w j E R C ⟨S,_,_⟩=>?_;have W:=(c.kb P X).kb R C
  cases e1:f.p x y with
  |none=>trivial
  |some d =>
   cases d with
   |bl t =>
    obtain⟨u,l,e2,r,_⟩:=f.ok W.bd (w1.kb R c.pO c.pL) S e1;have hu:u=.bl t:=r;subst hu;rw[e2];have i:=KB.app q j l;have M:=W.kb i C.app
    cases t with
    |true =>
     refine Ok.after i ?_;show Ok q (j++l) ((e.m Z (j++l)).bind _) _ _;refine(e.ok M).bind λz u h3 U H F ⟨w3,_,_⟩=>?_
     cases e4:g.p y z with
     |none=>trivial
     |some d =>
      obtain⟨u2,g2,e5,G,_⟩:=g.ok (M.kb H F).bd ((S.kb i c.pO c.pL).kb H c.pO c.pL) w3 e4;refine⟨u2,h3++g2,by rw[e5];rfl,KB.app _ _ _,F.app,.inl G,λ_=>G,λf=>by simp at f⟩
    |false=>exact⟨.bl T,j++l,rfl,i,C.app,.inl rfl,λ_=>rfl,λf=>by simp at f⟩
   |_=>trivial
end
structure Xi(ws:UQ) where
 m:Mx MIt
 p:aq->g_->PR (UR)
 fz:Bool
 ok:∀{q h L B O Z env s},Cx q h L B O ws Z env s->Ok q h (m Z h) (p env s) (λh' ds it=>Rps q h' O ds it.xs/\(∀g∈it.gd,h'[g.1]?=J (.lst g.2)/\g.1≠q)/\(fz=I->∀g∈it.gd,g.1∉O))
inductive GI(q:Nat)(h:MH)(O:UQ)(ds as:UR)(xs:UL)(o:Out MIt):Prop
 |mk(it:MIt)(e:o=.ok it h)(r:Rps q h O ds it.xs)(g:∀g∈it.gd,h[g.1]?=J (.lst g.2)/\g.1≠q)(z:Rps q h O as xs->∀g∈it.gd,g.1∉O):GI q h O ds as xs o
structure Pk where
 k:UL->MH->Out MIt
 p:UR->Option (UR)
 ok:∀{q h L O as xs ds},q<L->q∈O->Bd h O->Jn q h L O as xs->p as=J ds->GI q h O ds as xs (k xs h)
def D.items:D->Option (UR)
 |.lst a=>J a
 |.tup a=>J a
 |_=>Y
@[simp]theorem fh:(D.lst ds).items=J ds:=rfl
@[simp]theorem K1:(D.tup ds).items=J ds:=rfl
noncomputable section
variable{ws:UQ}
def bG(o:Pk)(a:Xs ws):Xi ws where
 m:=λZ h=>(a.m Z h).bind o.k
 p:=λenv s=>(a.p env s).bind λx i=>.of (o.p x) i
 fz:=a.fz
 ok {q h L B O Z env s} c:=by
  refine(a.ok c).bind λx v u i y j ⟨w,z⟩=>?_
  cases e:o.p x with
  |none=>trivial
  |some F =>
   obtain⟨C,e1,r,E,l⟩:=o.ok c.pL c.pO (c.kb y j).bd w e;exact⟨C,u,e1,KB.refl _ _,j,r,E,λf=>l (z f)⟩
def Vw.seq(F:q<L)(C:q∈O)(w:Vw q h L O d v)(e:d.items=J ds):∃xs gd,wT v h=.ok ⟨xs,gd⟩ h/\Rps q h O ds xs/\(∀g∈gd,h[g.1]?=J (.lst g.2)/\g.1≠q)/\(Rp q h O d v->∀g∈gd,g.1∉O):=by
 have one:∀n xs,h[n]?=J (MO.lst xs)->n≠q->(∀g∈[(n,xs)],h[g.1]?=J (MO.lst g.2)/\g.1≠q):=λn xs g u y a=>by
  have:y=(n,xs):=by simpa using a
  subst this;exact⟨g,u⟩
 cases d with
 |lst j =>
  have:j=ds:=by simpa using e
  subst this;rcases w with⟨n,xs,e1,f,g,r⟩|⟨n,B,xs,i,l,e1,_,u,g,r⟩
  .subst e1;refine⟨xs,[(n,xs)],by simp only[wT,g],r,one n xs g (λz=>f (z▸C)),λ_ y a=>?_⟩
   have:y=(n,xs):=by simpa using a
   subst this;exact f
  .obtain⟨rfl,rfl⟩:=ip l;subst e1;replace g:h[n]?=J (.lst xs):=g;refine⟨xs,[(n,xs)],by simp only[wT,g],r,one n xs g ⋯,λ⟨G,E,e1,f,_,_⟩ y a=>?_⟩
   grind
 |tup j =>
  have:j=ds:=by simpa using e
  subst this;rcases w with⟨xs,e1,r⟩|⟨n,B,xs,i,l,_⟩
  .subst e1;exact⟨xs,[],rfl,r,(λ_ a=>nomatch a),λ_ _ a=>nomatch a⟩
  .cases B<;>cases l
 |_=>simp[D.items]at e
def aI(a:Xe ws):Xi ws where
 m:=iQ a.m
 p:=λenv s=>(a.p env s).bind λx i=>.of x.items i
 fz:=a.fz
 ok {q h L B O Z env s} c:=by
  refine(a.ok c).bind λx v l i C y ⟨w,z,_⟩=>?_
  cases e:x.items with
  |none=>trivial
  |some E =>
   obtain⟨xs,gd,e1,r,u,j⟩:=w.seq c.pL c.pO e;exact⟨⟨xs,gd⟩,l,e1,KB.refl _ _,y,r,u,λf=>j (z f)⟩
structure Xg(ws:UQ) where
 m:Mg
 p:D->aq->Option aq
 ok:∀{q h L O Z env d v env'},SR q h L O ws Z env->Rp q h O d v->p d env=J env'->∃Z',m v Z h=.nx Z' h/\SR q h L O ws Z' env'/\∀i∈ws,Z'[i]?=Z[i]?/\env'[i]?=env[i]?
structure Gp(ws:UQ) where
 m:DU
 p:UR->aq->Option aq
 ok:∀{q h L O Z env ds vs env'},SR q h L O ws Z env->Rps q h O ds vs->p ds env=J env'->∃Z',m vs Z h=.nx Z' h/\SR q h L O ws Z' env'/\∀i∈ws,Z'[i]?=Z[i]?/\env'[i]?=env[i]?
def SR.set(r:SR q h L O ws Z env)(C:i∉ws)(w:Rp q h O d v):SR q h L O ws (Z.set i (J v)) (env.set i (J d))/\∀j∈ws,(Z.set i (J v))[j]?=Z[j]?/\(env.set i (J d))[j]?=env[j]?:=by
 have ne:∀j∈ws,i≠j:=λj a z=>C (z▸a);refine⟨⟨by simp[r.len],λj e a l=>?_,λj e a l=>?_⟩,λj a=>⟨nr (ne j a),nr (ne j a)⟩⟩
 .by_cases z:i=j
  .subst z;have y:i<env.length:=by
    have:=(oI.mp a).1;simpa using this
   rw[xJ y]at a;cases a;exact⟨v,xJ (by rw[r.len];exact y),w⟩
  .rw[nr z]at a;obtain⟨u,e1,F⟩:=r.fz j e a l
   simp_all
 .rw[nr (ne j l)]at a;obtain⟨n,E,xs,B,e1,e2,f⟩:=r.ow j e a l;exact⟨n,E,xs,B,e1,by rw[nr (ne j l)];exact e2,f⟩
def i0(i:Nat)(j:ws.contains i=T:=by exact ys rfl):Xg ws where
 m:=Cm i
 p:=λd env=>J (env.set i (J d))
 ok {q h L O Z env d v env'} r w e:=by
  cases e;have f:i∉ws:=λz=>by simp[z]at j
  obtain⟨a,b⟩:=r.set f w;exact⟨_,rfl,a,b⟩
def Bu:Gp ws where
 m:=QP
 p:=λa env=>match a with
  |[]=>J env
  |_=>Y
 ok {q h L O Z env a vs env'} r w e:=by
  cases a with
  |nil =>
   cases e
   have:vs=[]:=w
   subst this;exact⟨Z,rfl,r,λ_ _=>⟨rfl,rfl⟩⟩
  |cons _ _=>cases e
def pq(a:Xg ws)(t:Gp ws):Gp ws where
 m:=OQ a.m t.m
 p:=λj env=>match j with
  |d::j=>(a.p d env).bind λf=>t.p j f
  |[]=>Y
 ok {q h L O Z env j vs env'} r w e:=by
  cases j with
  |nil=>cases e
  |cons d j =>
   obtain⟨x,y,rfl,B,C⟩:=w;dsimp only at e
   cases e1:a.p d env with
   |none=>rw[e1]at e;cases e
   |some f =>
    rw[e1]at e;obtain⟨P,G,F,u⟩:=a.ok r B e1;obtain⟨E,H,M,z⟩:=t.ok F C e;exact⟨E,by show(a.m x Z h).then (t.m y)=_;rw[G];exact H,M,λi l=>⟨(z i l).1.trans (u i l).1,(z i l).2.trans (u i l).2⟩⟩
def By(t:Gp ws)(n:Nat):Xg ws where
 m:=OR t.m n
 p:=λd env=>match d with
  |.tup f=>if f.length=n then t.p f env else Y
  |_=>Y
 ok {q h L O Z env d v env'} r w e:=by
  cases d with
  |tup f =>
   obtain⟨xs,rfl,w⟩:=w;dsimp only at e;by_cases z:f.length=n
   .rw[b_ z]at e;obtain⟨i,a,b⟩:=t.ok r w e;exact⟨i,by show(if xs.length=n then t.m xs Z h else .bad)=_;rw[b_ (by rw[w.length];exact z)];exact a,b⟩
   .rw[f_ z]at e;cases e
  |_=>cases e
def CK(a:Nat)(fm ws:UQ):UQ:=((List.range fm.length).filter λj=>ws.contains (fm.getD j 0)).map (a+·)
def q_(a:Nat)(fm:UQ)(env:aq):aq:=List.replicate a Y++fm.map λi=>(env[i]?).getD Y
def PR.ne{α:Type}(r:PR α):PR α:=match r with
 |.exc _ _=>.bad
 |r=>r
@[simp]theorem PR.ne_ok(a:α)(s:g_):(PR.ok a s).ne=.ok a s:=rfl
def dq(g:D->aq->Option aq)(t:aq->g_->PR Bool)(e:aq->g_->PR D):UR->aq->g_->PR (UR)
 |[],_,s=>.ok [] s
 |d::f,env,s=>match g d env with
  |none=>.bad
  |some a=>(t a s).bind λb i=>if b=I then(e a i).bind λx l=>(dq g t e f a l).bind λr j=>.ok (x::r) j else dq g t e f a i
def M_{a:Nat}{fm:UQ}{α:Type}{env:List (Option α)}{i:Nat}{d:α}(e:(List.replicate a Y++fm.map λi=>(env[i]?).getD Y)[i]?=J (J d)):∃j k,i=a+j/\fm[j]?=J k/\env[k]?=J (J d):=by
 by_cases z:i<a
 .rw[qr (by simpa using z)]at e;simp[z]at e
 .rw[Ch (by simp;lia)]at e;simp only[Lg,pr]at e
  cases f:fm[i-a]? with
  |none=>rw[f]at e;cases e
  |some k =>
   rw[f]at e;simp only[GZ]at e;refine⟨i-a,k,⋯,f,?_⟩
   cases l:env[k]? with
   |none=>rw[l]at e;cases e
   |some o=>rw[l]at e;simp at e;rw[e]
def Na{a:Nat}{fm:UQ}{α:Type}{Z:List (Option α)}{j k:Nat}{v:α}(e1:fm[j]?=J k)(e2:Z[k]?=J (J v)):(List.replicate a Y++fm.map λi=>(Z[i]?).getD Y)[a+j]?=J (J v):=by rw[Ch (by simp)];simp[e1,e2]
def wA(e:fm[j]?=J k):nv+j∈CK nv fm ws↔k∈ws:=by
 have a:=(oI.mp e).1;unfold CK
 simp_all
def SR.comp{q:Nat}{h:MH}{L:Nat}{O:UQ}{Z:k_}{env:aq}(f:Nat)(fm:UQ)(r:SR q h L O ws Z env):SR q h L O (CK f fm ws) (CV f fm Z) (q_ f fm env):=by
 refine⟨by simp[CV,q_],λi d e a=>?_,λi d e a=>?_⟩
 .obtain⟨j,k,rfl,e1,e2⟩:=M_ e;obtain⟨v,e3,w⟩:=r.fz k d e2 λz=>a ((wA e1).mpr z);exact⟨v,Na e1 e3,w⟩
 .obtain⟨j,k,rfl,e1,e2⟩:=M_ e;obtain⟨n,y,xs,u,l,e3,w⟩:=r.ow k d e2 ((wA e1).mp a);exact⟨n,y,xs,u,l,Na e1 e3,w⟩
def Jp(W:Xg u)(t:Xt u)(e:Xe u)(hz:e.fz=I)(hq:q<h1.length)(gd:∀g∈it.gd,h1[g.1]?=J (.lst g.2)/\g.1≠q):
  ∀(Q:UR)(xs:UL)(env:aq)(Z:k_)(h:MH)(j:UR)(f:UL)(s:g_)(r:UR)(s':g_),(∀i∈u,∀d,env[i]?=J (J d)->∀n,Z[i]?=J (J (.loc n))->n<h1.length)->KB q h1 h->Cx q h L B (h1.length::O) u Z env s->Rps q h (h1.length::O) Q xs->h[h1.length]?=J (.lst f)->Rps q h (h1.length::O) j f->j.length+Q.length<=100000 ->
  dq W.p t.p e.p Q env s=.ok r s'->∃C U,A4 it h1.length W.m t.m e.m xs Z h=.ok () C/\KB q h1 C/\bF C q s'/\C[h1.length]?=J (.lst U)/\Rps q C (h1.length::O) (j++r) U:=by
 intro Q
 induction Q with
 |nil =>
  intro xs env Z h j f s r s' on kb c rx ga ra hl a
  have:xs=[]:=rx
  subst this;cases a;have ok:it.ok h:=λg P=>(kb.keep _ (aW (gd g P).1) (gd g P).2).trans (gd g P).1;exact⟨h,f,by rw[A4,b_ ok],kb,c.pen,ga,by simpa using ra⟩
 |cons d Q ih =>
  intro xs env Z h j f s r s' on kb c rx ga ra hl a;obtain⟨x,xr,rfl,r1,r2⟩:=rx;have ok:it.ok h:=λg P=>(kb.keep _ (aW (gd g P).1) (gd g P).2).trans (gd g P).1;rw[dq]at a
  cases eg:W.p d env with
  |none=>rw[eg]at a;cases a
  |some l =>
   rw[eg]at a;dsimp only at a;obtain⟨Z1,f1,ap,k1⟩:=W.ok c.sr r1 eg;have R:∀i∈u,∀d,l[i]?=J (J d)->∀n,Z1[i]?=J (J (.loc n))->n<h1.length:=λi M d e n z=>on i M d ((k1 i M).2▸e) n ((k1 i M).1▸z);have c1:Cx q h L B (h1.length::O) u Z1 l s:=⟨c.bd,c.sub,c.bb,c.pb,c.hL,c.pen,ap⟩;have kt:=t.ok c1
   cases et:t.p l s with
   |bad=>rw[et]at a;cases a
   |exc _ _=>rw[et]at a;cases a
   |ok b s1 =>
    rw[et]at a kt;obtain⟨b',h2,f2,k2,p2,eb⟩:=kt;subst eb;have c2:=c1.kb k2 p2;have E:Mv (h1.length::O) h (h1.length::O) h2:=k2.mv c.pO;have hn:h1.length<h.length:=aW ga;have S:h2[h1.length]?=J (.lst f):=(k2.keep _ hn ⋯).trans ga;rw[Pb]at a
    cases b with
    |false =>
     rw[f_ (by simp)]at a;obtain⟨C,U,a1,a2⟩:=ih xr l Z1 h2 j f s1 r s' R (kb.trans k2) c2 (r2.mv E) S (ra.mv E) (by simp at hl;lia) a;refine⟨C,U,?_,a2⟩;rw[A4,b_ ok,f1];simp only[f2,Out.ne_ok,Out.bind_ok,o0,if_false];exact a1
    |true =>
     rw[b_ rfl]at a;have ke:=e.ok c2
     cases ee:e.p l s1 with
     |bad=>rw[ee]at a;cases a
     |exc _ _=>rw[ee]at a;cases a
     |ok y s2 =>
      rw[ee]at a ke;obtain⟨v,H,f3,k3,p3,_,rv,_⟩:=ke;have rv:=rv hz;have G:=c2.kb k3 p3;have al:Mv (h1.length::O) h2 (h1.length::O) H:=k3.mv c.pO;have an:H[h1.length]?=J (.lst f):=(k3.keep _ (aW S) ⋯).trans S;have F:Mv (h1.length::O) H (h1.length::O) (H.set h1.length (.lst (f++[v]))) :=
       ⟨λn hn no=>nr (λz=>no (by simp[z])),λo ho=>.inl ho⟩
      have as:Rps q H (h1.length::O) (j++[y]) (f++[v]):=((ra.mv E).mv al).app ⟨v,[],rfl,rv,rfl⟩;rw[Pb]at a
      cases er:dq W.p t.p e.p Q l s2 with
      |bad=>rw[er]at a;cases a
      |exc _ _=>rw[er]at a;cases a
      |ok r' s3 =>
       rw[er]at a;cases a;have X:KB q h1 H:=(kb.trans k2).trans k3;have c4:Cx q (H.set h1.length (.lst (f++[v]))) L B (h1.length::O) u Z1 l s2:=by
        refine⟨λo ho=>by simpa using G.bd o ho,G.sub,G.bb,G.pb,by simpa using G.hL,?_,?_⟩
        .unfold bF;rw[nr ⋯];exact p3
        .refine⟨G.sr.len,λi d e M=>let⟨v,e1,q1⟩:=G.sr.fz i d e M;⟨v,e1,q1.mv F⟩,λi d e M=>?_⟩;obtain⟨n,kd,ys,es,b1,b2,b3,b4,b5,b6⟩:=G.sr.ow i d e M;have z:=R i M d e n b2;exact⟨n,kd,ys,es,b1,b2,b3,b4,by rw[nr ⋯];exact b5,b6.mv F⟩
       obtain⟨C,U,a1,a2,a3,a4,a5⟩:=ih xr l Z1 (H.set h1.length (.lst (f++[v]))) (j++[y]) (f++[v]) s2 r' _ R ⟨by simpa using X.len,λn hn hp=>by rw[nr ⋯];exact X.keep n hn hp⟩ c4 (((r2.mv E).mv al).mv F) (xJ (aW an)) (as.mv F) (by simp at hl ⊢;lia) er;refine⟨C,U,?_,a2,a3,a4,by simpa using a5⟩;rw[A4,b_ ok,f1];simp only[f2,Out.ne_ok,Out.bind_ok,if_true,f3,an];rw[b_ (by have:=dS;have:=ra.length;simp at hl;lia)];exact a1
def aG(a:Nat)(fm:UQ)(i:Xi ws){ws':UQ}(g:Xg ws')(t:Xt ws')(e:Xe ws')(hw:CK a fm ws=ws':=by exact ys rfl)(hz:e.fz=I:=by exact ys rfl):Xe ws where
 m:=dY a fm i.m g.m t.m e.m
 p:=λenv s=>(i.p env s).bind λl y=>if l.length<=100000 then (match dq g.p t.p e.p l (q_ a fm env) y with
  |.ok r H=>.ok (.lst r) H
  |_=>.bad)else .bad
 fz:=I
 fr:=I
 ok {q h L B O Z env s} c:=by
  subst hw;refine(i.ok c).bind λl it j y Q E ⟨rx,gd,_⟩=>?_;have C:=c.kb Q E;by_cases G:l.length<=100000
  .rw[b_ G]
   cases W:dq g.p t.p e.p l (q_ a fm env) y with
   |bad=>trivial
   |exc _ _=>trivial
   |ok r H =>
    have mv:Mv O j (j.length::O) (j++[MO.lst []]):=⟨λn F _=>qr F,λo u=>by
     rcases k4.mp u with z|z
     .exact .inr ⋯
     .exact .inl z⟩
    have sr:=(C.sr.comp a fm).mv mv (λo u=>lb _ u) λn F _ _=>qr F;have c2:Cx q (j++[MO.lst []]) L B (j.length::O) (CK a fm ws) (CV a fm Z) (q_ a fm env) y:=by
     refine⟨λo u=>?_,λo u=>lb _ (c.sub o u),c.bb,c.pb,by have:=C.hL;simp;lia,E.app,sr⟩;rcases k4.mp u with z|z
     .subst z;simp
     .have:=C.bd o z;simp;lia
    have hq:q<j.length:=aW E
    obtain⟨R,zs,X,U,a3,a4,a5⟩:=Jp g t e hz (L:=L) (B:=B) (O:=O) hq gd l it.xs (q_ a fm env) (CV a fm Z) (j++[MO.lst []]) [] [] y r H (λi hi d ed n M=>by
     obtain⟨n',_,_,_,_,S,_,_,b5,_⟩:=(C.sr.comp a fm).ow i d ed hi;rw[S]at M;cases M
     exact aW b5) (KB.app _ _ _) c2 (rx.mv mv) (by simp) rfl (by simpa using G) W
    have f:Frs q h.length O R (.lst r) (.loc j.length):=λk l e=>by
     obtain⟨rfl,rfl⟩:=ip e;exact⟨_,zs,rfl,Q.len,a4,by simpa using a5⟩
    have P:=f.rp (k:=Y) c.bd rfl;exact⟨.loc j.length,R,by show(A4 _ _ _ _ _ _ _ _).bind _=_;rw[X];rfl,U,a3,.inl P,λ_=>P,λ_=>f⟩
  .rw[f_ G];trivial
end
inductive PS where
 |nx(e:aq)(s:g_)
 |rt(d:D)(s:g_)
 |bk(e:aq)(s:g_)
 |ct(e:aq)(s:g_)
 |exc(c:Str)(e:aq)(s:g_)
 |rse(c:Str)(e:aq)(s:g_)
 |bad
structure Stp(q L:Nat)(h:MH)(O:UQ)(h':MH)(O':UQ):Prop where
 len:h.length<=h'.length
 mv:Mv O h O' h'
 sub:∀o∈O,o∈O'
 base:∀n:Nat,n<L->n≠q->h'[n]?=h[n]?
def Stp.refl(q L:Nat)(h:MH)(O:UQ):Stp q L h O h O:=⟨il _,⟨λ_ _ _=>rfl,λ_ h=>.inl h⟩,λ_ h=>h,λ_ _ _=>rfl⟩
def Stp.trans(a:Stp q L h O h1 O1)(b:Stp q L h1 O1 h2 O2):Stp q L h O h2 O2:=by
 refine⟨mu a.len b.len,⟨λn f l=>?_,λo i=>?_⟩,λo i=>b.sub o (a.sub o i),λn f j=>(b.base n f j).trans (a.base n f j)⟩
 .have r:n∉O1:=λz=>by
   rcases a.mv.new n z with q|q
   .exact l q
   .lia
  exact(b.mv.keep n (oQ f a.len) r).trans (a.mv.keep n f l)
 .rcases b.mv.new o i with z|z
  .exact a.mv.new o z
  .exact .inr (mu a.len z)
def Dis(a:UQ)(Z:k_)(env:aq):Prop:=∀i j,i∈a->j∈a->i≠j->∀d f n,env[i]?=J (J d)->env[j]?=J (J f)->Z[i]?=J (J (.loc n))->Z[j]?≠J (J (.loc n))
inductive Nxt(q L:Nat)(h:MH)(B O ws:UQ)(Z':k_)(h':MH)(env:aq)(s:g_):Prop
 |mk(O':UQ)(a:Stp q L h O h' O')(c:Cx q h' L B O' ws Z' env s)(d:Dis ws Z' env):Nxt q L h B O ws Z' h' env s
inductive K2(q L:Nat)(h:MH)(B O ws:UQ)(f:k_->MH->SOut)(o:SOut)(env:aq)(s:g_):Prop
 |mk(Z':k_)(h':MH)(e:o=f Z' h')(n:Nxt q L h B O ws Z' h' env s):K2 q L h B O ws f o env s
inductive Te(q L:Nat)(h:MH)(B:UQ)(fr:Bool)(o:SOut)(d:D)(s:g_):Prop
 |mk(v:PV)(h':MH)(e:o=.rt v h')(l:h.length<=h'.length)(b:∀n:Nat,n<L->n≠q->h'[n]?=h[n]?)(p:bF h' q s)(r:Rp q h' B d v)(f:fr=I->Frs q L B h' d v):Te q L h B fr o d s
def SOk(q L:Nat)(h:MH)(B O a:UQ)(fr:Bool)(o:SOut)(r:PS):Prop:=match r with
 |.nx env s=>K2 q L h B O a .nx o env s
 |.bk env s=>K2 q L h B O a .bk o env s
 |.ct env s=>K2 q L h B O a .ct o env s
 |.exc c env s=>K2 q L h B O a (.exc ⟨c,[]⟩) o env s
 |.rse c env s=>K2 q L h B O a (.rse ⟨c,[]⟩) o env s
 |.rt d s=>Te q L h B fr o d s
 |.bad=>True
structure Xd(ws:UQ) where
 m:lg
 p:aq->g_->PS
 fr:Bool
 ok:∀{q h L B O Z env s},Cx q h L B O ws Z env s->Dis ws Z env->SOk q L h B O ws fr (m Z h) (p env s)
def Nxt.after(a:Stp q L h O h1 O1)(n:Nxt q L h1 B O1 ws Z' h' env s):Nxt q L h B O ws Z' h' env s :=
 let⟨f,b,c,d⟩:=n;⟨f,a.trans b,c,d⟩
def SOk.after(a:Stp q L h O h1 O1)(k:SOk q L h1 B O1 ws fr o r):SOk q L h B O ws fr o r:=by
 cases r with
 |nx env s=>obtain⟨i,f,e,n⟩:=k;exact⟨i,f,e,n.after a⟩
 |bk env s=>obtain⟨i,f,e,n⟩:=k;exact⟨i,f,e,n.after a⟩
 |ct env s=>obtain⟨i,f,e,n⟩:=k;exact⟨i,f,e,n.after a⟩
 |exc c env s=>obtain⟨i,f,e,n⟩:=k;exact⟨i,f,e,n.after a⟩
 |rse c env s=>obtain⟨i,f,e,n⟩:=k;exact⟨i,f,e,n.after a⟩
 |rt d s=>obtain⟨v,f,e,l,b,y,z,C⟩:=k;exact⟨v,f,e,mu a.len l,λn j u=>(b n j u).trans (a.base n j u),y,z,C⟩
 |bad=>trivial
def SOk.fr(hf:f'=I->f=I)(k:SOk q L h B O ws f o r):SOk q L h B O ws f' o r:=by
 cases r with
 |rt d s=>obtain⟨v,a,e,l,b,p,r,z⟩:=k;exact⟨v,a,e,l,b,p,r,λy=>z (hf y)⟩
 |nx env s=>exact k
 |bk env s=>exact k
 |ct env s=>exact k
 |exc c env s=>exact k
 |rse c env s=>exact k
 |bad=>trivial
def KB.stp(c:Cx q h L B O ws Z env s)(k:KB q h h'):Stp q L h O h' O :=
 ⟨k.len,k.mv c.pO,λ_ h=>h,λn f a=>k.keep n (oQ f c.hL) a⟩
def PR.go{α:Type}(r:PR α)(env:aq)(k:α->aq->g_->PS):PS:=match r with
 |.ok a s=>k a env s
 |.exc c s=>.exc c env s
 |.bad=>.bad
@[simp]theorem Pg(a:α)(s:g_)(env:aq)(k:α->aq->g_->PS):(PR.ok a s).go env k=k a env s:=rfl
@[simp]theorem PR.go_exc(c:Str)(s:g_)(env:aq)(k:α->aq->g_->PS):(PR.exc c s:PR α).go env k=.exc c env s:=rfl
@[simp]theorem PR.go_bad(env:aq)(k:α->aq->g_->PS):(PR.bad:PR α).go env k=.bad:=rfl
theorem SOk.ex{α β:Type}{q L:Nat}{h:MH}{B O j:UQ}{fr:Bool}{Z:k_}{env:aq}{s:g_}{o:Out β}{r:PR α}{R:MH->α->β->Prop}{f:β->lg}{g:α->aq->g_->PS}(c:Cx q h L B O j Z env s)(d:Dis j Z env)(k:Ok q h o r R)(n:∀a b i l,KB q h i->Cx q i L B O j Z env l->R i a b->SOk q L i B O j fr (f b Z i) (g a env l)):
  SOk q L h B O j fr (o.go Z f) (r.go env g):=by
 cases r with
 |ok a l =>
  obtain⟨b,i,rfl,kb,pn,u⟩:=k;exact(n a b i l kb (c.kb kb pn) u).after (kb.stp c)
 |exc x l =>
  obtain⟨i,rfl,kb,pn⟩:=k;exact⟨Z,i,rfl,O,kb.stp c,c.kb kb pn,d⟩
 |bad=>trivial
noncomputable section
variable{ws:UQ}
def PS.then(r:PS)(k:aq->g_->PS):PS:=match r with
 |.nx env s=>k env s
 |r=>r
@[simp]theorem ak:(PS.nx env s).then k=k env s:=rfl
@[simp]theorem vH:(PS.rt d s).then k=.rt d s:=rfl
@[simp]theorem then_bk:(PS.bk env s).then k=.bk env s:=rfl
@[simp]theorem then_ct:(PS.ct env s).then k=.ct env s:=rfl
@[simp]theorem BO:(PS.exc c env s).then k=.exc c env s:=rfl
@[simp]theorem BA:(PS.rse c env s).then k=.rse c env s:=rfl
@[simp]theorem AB:PS.bad.then k=.bad:=rfl
def aC(a b:Xd ws):Xd ws where
 m:=aZ a.m b.m
 p:=λenv s=>(a.p env s).then b.p
 fr:=a.fr&&b.fr
 ok {q h L B O Z env s} c d:=by
  have k:=a.ok c d;show SOk q L h B O ws _ ((a.m Z h).then b.m) _
  cases e:a.p env s with
  |nx i u =>
   rw[e]at k;obtain⟨Q,M,e1,P,st,G,H⟩:=k;rw[e1];exact((b.ok G H).fr (by simp)).after st
  |rt x u=>rw[e]at k;obtain⟨v,j,e1,y,z,C,F,E⟩:=k;rw[e1];exact SOk.fr (f:=a.fr) (by simp;exact λh _=>h) (show SOk q L h B O ws a.fr (.rt v j) (.rt x u) from⟨v,j,rfl,y,z,C,F,E⟩)
  |bk i u=>rw[e]at k;obtain⟨l,j,e1,r⟩:=k;rw[e1];exact⟨l,j,rfl,r⟩
  |ct i u=>rw[e]at k;obtain⟨l,j,e1,r⟩:=k;rw[e1];exact⟨l,j,rfl,r⟩
  |exc x i u=>rw[e]at k;obtain⟨l,j,e1,r⟩:=k;rw[e1];exact⟨l,j,rfl,r⟩
  |rse x i u=>rw[e]at k;obtain⟨l,j,e1,r⟩:=k;rw[e1];exact⟨l,j,rfl,r⟩
  |bad=>trivial
def iw:Xd ws where
 m:=kw
 p:=.nx
 fr:=I
 ok {q h L B O Z env s} c d:=⟨Z,h,rfl,O,Stp.refl _ _ _ _,c,d⟩
def Jq{m:Mx PV}{Z:k_}{h:MH}:bP m Z h=(m Z h).go Z λv _ a=>.rt v a:=by unfold bP;cases m Z h<;>rfl
def bv(e:Xe ws):Xd ws where
 m:=bP e.m
 p:=λenv s=>(e.p env s).go env λd _ s=>.rt d s
 fr:=e.fr
 ok {q h L B O Z env s} c d:=by
  rw[Jq];refine SOk.ex (f:=λv _ F=>.rt v F) (g:=λd _ s=>.rt d s) c d (e.ok c) λx v i H kb a ⟨w,z,f⟩=>?_;refine⟨v,i,rfl,il _,λ_ _ _=>rfl,a.pen,w.base a.sub a.bb,λy=>?_⟩;intro k r l;obtain⟨n,xs,j,G,C,u⟩:=f y k r l
  have:=c.hL
  exact⟨n,xs,j,⋯,C,u.mv ⟨λ_ _ _=>rfl,λo E=>.inl (by
   rcases k4.mp E with z|z
   .subst z;simp
   .exact lb _ (c.sub o z))⟩⟩
def nF(i:Nat)(F:ws.contains i=I:=by exact ys rfl):Xd ws where
 m:=bP (ae i)
 p:=λenv s=>match env[i]? with
  |some (J d)=>.rt d s
  |_=>.bad
 fr:=I
 ok {q h L B O Z env s} c d:=by
  show SOk q L h B O ws _ _ (match env[i]? with|some (J d)=>PS.rt d s|_=>.bad)
  cases e:env[i]? with
  |none=>trivial
  |some o =>
   cases o with
   |none=>trivial
   |some x =>
    obtain⟨n,l,xs,u,e1,e2,a,b,g,r⟩:=c.sr.ow i x e (by simpa using F);subst e1
    have C:Mv O h (n::B) h:=⟨λ_ _ _=>rfl,λo E=>.inl (by
     rcases k4.mp E with z|z
     .subst z;exact a
     .exact c.sub o z)⟩
    have f:Frs q L B h (dl l u) (.loc n):=λy j e=>by
     have:y=l/\j=u:=by cases l<;>cases y<;>cases e<;>exact⟨rfl,rfl⟩
     obtain⟨rfl,rfl⟩:=this;exact⟨n,xs,rfl,b,g,r.mv C⟩
    refine⟨.loc n,h,by simp[bP,ae,e2],il _,λ_ _ _=>rfl,c.pen,f.rp c.bb rfl,λ_=>f⟩
def fx(e:Xe ws):Xd ws where
 m:=gZ e.m
 p:=λenv s=>(e.p env s).go env λ_=>.nx
 fr:=I
 ok {q h L B O Z env s} c d:=SOk.ex (f:=λ_=>kw) (g:=λ_=>.nx) c d (e.ok c) λx v a j kb i _=>⟨Z,a,rfl,O,Stp.refl _ _ _ _,i,d⟩
def p0(t:Xt ws)(a b:Xd ws):Xd ws where
 m:=BN t.m a.m b.m
 p:=λenv s=>(t.p env s).go env λx env s=>if x=I then a.p env s else b.p env s
 fr:=a.fr&&b.fr
 ok {q h L B O Z env s} c d:=SOk.ex (f:=λx=>if x=I then a.m else b.m) (g:=λx env s=>if x=I then a.p env s else b.p env s) c d (t.ok c) λx v j l kb i e=>by
  subst e
  cases x with
  |true=>exact(a.ok i d).fr (by simp;exact λh _=>h)
  |false=>exact(b.ok i d).fr (by simp)
def Dis.keep(d:Dis ws Z env)(k:∀i∈ws,Z'[i]?=Z[i]?/\env'[i]?=env[i]?):Dis ws Z' env':=λi j l f ne x y n a b e=>by
 rw[(k i l).1]at e;rw[(k i l).2]at a;rw[(k j f).2]at b;rw[(k j f).1];exact d i j l f ne x y n a b e
def bc(i:Nat)(e:Xe ws)(u:ws.contains i=T:=by exact ys rfl)(r:e.fz=I:=by exact ys rfl):Xd ws where
 m:=bp i e.m
 p:=λenv s=>(e.p env s).go env λd env s=>.nx (env.set i (J d)) s
 fr:=I
 ok {q h L B O Z env s} c d:=by refine SOk.ex (f:=λv Z h=>.nx (Z.set i (J v)) h) (g:=λd env s=>.nx (env.set i (J d)) s) c d (e.ok c) λx v l y kb j ⟨_,z,_⟩=>?_;obtain⟨a,b⟩:=j.sr.set (i:=i) (λz=>by simp[z]at u) (z r);exact⟨_,l,rfl,O,Stp.refl _ _ _ _,⟨j.bd,j.sub,j.bb,j.pb,j.hL,j.pen,a⟩,d.keep b⟩
def eK(i:Nat)(e:Xe ws)(hi:ws.contains i=I:=by exact ys rfl)(hz:e.fr=I:=by exact ys rfl):Xd ws where
 m:=bp i e.m
 p:=λenv s=>(e.p env s).go env λd env s=>match d with
  |.lst l=>.nx (env.set i (J (.lst l))) s
  |.dic R l=>.nx (env.set i (J (.dic R l))) s
  |_=>.bad
 fr:=I
 ok {q h L B O Z env s} c d:=by
  show SOk q L h B O ws _ _ _;have k:=e.ok c;show SOk q L h B O ws _ ((e.m Z h).go Z λv Z h=>.nx (Z.set i (J v)) h) _
  cases ee:e.p env s with
  |bad=>trivial
  |exc x s1 =>
   rw[ee]at k;obtain⟨M,e1,kb,pn⟩:=k;rw[e1];exact⟨Z,M,rfl,O,kb.stp c,c.kb kb pn,d⟩
  |ok x s1 =>
   rw[ee]at k;obtain⟨v,M,e1,kb,pn,_,_,f⟩:=k;rw[e1];have own:∀H l,x=dl H l->SOk q L h B O ws I ((Out.ok v M).go Z λv Z h=>.nx (Z.set i (J v)) h) (.nx (env.set i (J (dl H l))) s1):=by
    rintro H l rfl;obtain⟨n,xs,rfl,hn,g,r⟩:=f hz H l rfl;have c1:=c.kb kb pn;have W:i∈ws:=by simpa using hi
    have mv:Mv O h (n::O) M:=⟨λm P no=>kb.keep m P λz=>no (z▸c.pO),λo C=>by
     rcases k4.mp C with z|z
     .exact .inr ⋯
     .exact .inl z⟩
    have U:n∉O:=λz=>by have:=c.bd n z;lia
    refine⟨Z.set i (J (.loc n)),M,rfl,n::O,⟨kb.len,mv,λo C=>lb _ C,λm P hq=>kb.keep m (oQ P c.hL) hq⟩,⟨λo C=>?_,λo C=>lb _ (c.sub o C),c.bb,c.pb,c1.hL,pn,?_⟩,?_⟩
    .rcases k4.mp C with z|z
     .subst z;exact aW g
     .exact c1.bd o z
    .have sr:=c.sr.mv mv (λo C=>lb _ C) λm P E _=>kb.keep m P (by have:=c.pL;lia);refine⟨by simp[sr.len],λj x u F=>?_,λj x u F=>?_⟩
     .have ne:i≠j:=λz=>F (z▸W);rw[nr ne]at u;rw[nr ne];exact sr.fz j x u F
     .by_cases z:i=j
      .subst z;have E:i<env.length:=by have:=(oI.mp u).1;simpa using this
       rw[xJ E]at u;cases u;exact⟨n,H,xs,l,rfl,xJ (by rw[sr.len];exact E),by simp,by have:=c.hL;lia,g,r⟩
      .rw[nr z]at u;rw[nr z];exact sr.ow j x u F
    .have old:∀j d,j∈ws->i≠j->(env.set i (J (dl H l)))[j]?=J (J d)->(Z.set i (J (.loc n)))[j]?≠J (J (.loc n)):=λj d F ne u z=>by
      rw[nr ne]at u z;obtain⟨n',_,_,_,_,b2,b3,_⟩:=c.sr.ow j d u F;rw[z]at b2;cases b2;exact U b3
     intro a b ha hb ne x y m X Q G;by_cases S:i=a
     .subst S;have E:i<Z.length:=by have:=(oI.mp G).1;simpa using this
      rw[xJ E]at G;cases G;exact old b y hb ne Q
     .by_cases z2:i=b
      .subst z2;intro z;have E:i<Z.length:=by have:=(oI.mp z).1;simpa using this
       rw[xJ E]at z;cases z;exact old a x ha S X G
      .rw[nr S]at X G;rw[nr z2]at Q ⊢;exact d a b ha hb ne x y m X Q G
   cases x with
   |lst l=>exact own Y l rfl
   |dic R l=>exact own (J R) l rfl
   |_=>trivial
end
end PU
namespace PU
open MM
open L2 (wx)
noncomputable section
variable{ws:UQ}
def PS.turn(r:PS)(k:aq->g_->PS):PS:=match r with
 |.nx e s=>k e s
 |.ct e s=>k e s
 |.bk e s=>.nx e s
 |r=>r
@[simp]theorem turn_nx:(PS.nx e s).turn k=k e s:=rfl
@[simp]theorem turn_ct:(PS.ct e s).turn k=k e s:=rfl
@[simp]theorem turn_bk:(PS.bk e s).turn k=.nx e s:=rfl
@[simp]theorem turn_rt:(PS.rt d s).turn k=.rt d s:=rfl
@[simp]theorem BL:(PS.exc c e s).turn k=.exc c e s:=rfl
@[simp]theorem Aj:(PS.rse c e s).turn k=.rse c e s:=rfl
@[simp]theorem Nb:PS.bad.turn k=.bad:=rfl
def B7(g:D->aq->Option aq)(b:aq->g_->PS):UR->aq->g_->PS
 |[],env,s=>.nx env s
 |d::f,env,s=>match g d env with
  |none=>.bad
  |some a=>(b a s).turn (B7 g b f)
def Jr(g:Xg ws)(b:Xd ws):∀(G:UR)(xs:UL)(env:aq)(Z:k_)(h:MH)(O:UQ)(s:g_),Cx q h L B O ws Z env s->Dis ws Z env->Rps q h O G xs->(∀y∈it.gd,h[y.1]?=J (.lst y.2)/\y.1∉O) ->
  SOk q L h B O ws b.fr (xm it g.m b.m xs Z h) (B7 g.p b.p G env s):=by
 intro G
 induction G with
 |nil =>
  intro xs env Z h O s c d r gd
  have:=r
  subst this;have ok:it.ok h:=λy z=>(gd y z).1;refine⟨Z,h,by rw[xm];dsimp only;rw[b_ ok],O,Stp.refl _ _ _ _,c,d⟩
 |cons x G R =>
  intro xs env Z h O s c d r gd;obtain⟨v,E,rfl,M,H⟩:=r;have ok:it.ok h:=λy z=>(gd y z).1;rw[B7]
  cases W:g.p x env with
  |none=>trivial
  |some j =>
   obtain⟨S,X,sr,k⟩:=g.ok c.sr M W;have c1:Cx q h L B O ws S j s:=⟨c.bd,c.sub,c.bb,c.pb,c.hL,c.pen,sr⟩;have kb:=b.ok c1 (d.keep k)
   have em:xm it g.m b.m (v::E) Z h=(match b.m S h with
    |.nx i f=>xm it g.m b.m E i f
    |.ct i f=>xm it g.m b.m E i f
    |.bk i f=>.nx i f
    |.rt v f=>.rt v f
    |.exc e i f=>.exc e i f
    |.rse e i f=>.rse e i f
    |.bad=>.bad):=by rw[xm];dsimp only;(rw[b_ ok,X])<;>rfl
   rw[em];have F:∀{f:MH}{C:UQ},Stp q L h O f C->∀y∈it.gd,f[y.1]?=J (.lst y.2)/\y.1∉C:=λst y z=>by
    obtain⟨a,b⟩:=st.mv.get (gd y z).1 (gd y z).2;exact⟨b,a⟩
   dsimp only
   cases u:b.p j s with
   |bad=>trivial
   |nx e2 l =>
    rw[u]at kb;obtain⟨i,f,e1,C,st,Q,P⟩:=kb;rw[e1];exact(R E e2 i f C l Q P (H.mv st.mv) (F st)).after st
   |ct e2 l =>
    rw[u]at kb;obtain⟨i,f,e1,C,st,Q,P⟩:=kb;rw[e1];exact(R E e2 i f C l Q P (H.mv st.mv) (F st)).after st
   |bk e2 l=>rw[u]at kb;obtain⟨i,f,e1,r⟩:=kb;rw[e1];exact⟨i,f,rfl,r⟩
   |exc x e2 l=>rw[u]at kb;obtain⟨i,f,e1,r⟩:=kb;rw[e1];exact⟨i,f,rfl,r⟩
   |rse x e2 l=>rw[u]at kb;obtain⟨i,f,e1,r⟩:=kb;rw[e1];exact⟨i,f,rfl,r⟩
   |rt x l=>rw[u]at kb;obtain⟨v,f,e1,M,H,U,r4,r5⟩:=kb;rw[e1];exact⟨v,f,rfl,M,H,U,r4,r5⟩
def cu(i:Xi ws)(g:Xg ws)(b:Xd ws)(z:i.fz=I:=by exact ys rfl):Xd ws where
 m:=mK i.m g.m b.m
 p:=λenv s=>(i.p env s).go env λa env s=>B7 g.p b.p a env s
 fr:=b.fr
 ok {q h L B O Z env s} c d:=SOk.ex (f:=λj=>xm j g.m b.m j.xs) (g:=λa env s=>B7 g.p b.p a env s) c d (i.ok c) λa j u C kb E r =>
  Jr g b a j.xs env Z u O C E d r.1 λy l=>⟨(r.2.1 y l).1,r.2.2 z y l⟩
def eU(t:aq->g_->PR Bool)(b:aq->g_->PS):Nat->aq->g_->PS
 |0,_,_=>.bad
 |n+1,env,s=>(t env s).go env λx env s=>if x=I then(b env s).turn (eU t b n)else .nx env s
def pG(t:Xt ws)(b:Xd ws):∀(n:Nat)(env:aq)(Z:k_)(h:MH)(O:UQ)(s:g_),Cx q h L B O ws Z env s->Dis ws Z env->SOk q L h B O ws b.fr (b9 t.m b.m n Z h) (eU t.p b.p n env s)
 |0,env,Z,h,O,s,c,d=>trivial
 |n+1,env,Z,h,O,s,c,d=>by
  refine SOk.ex c d (t.ok c) λx v F H kb z e=>?_;subst e
  cases x with
  |false=>exact⟨Z,F,rfl,O,Stp.refl _ _ _ _,z,d⟩
  |true =>
   have k:=b.ok z d;rw[b_ rfl]
   cases j:b.p env H with
   |bad=>trivial
   |nx e2 i =>
    rw[j]at k;obtain⟨f,a,e1,u,st,y,l⟩:=k;rw[e1];exact(pG t b n e2 f a u i y l).after st
   |ct e2 i =>
    rw[j]at k;obtain⟨f,a,e1,u,st,y,l⟩:=k;rw[e1];exact(pG t b n e2 f a u i y l).after st
   |bk e2 i=>rw[j]at k;obtain⟨f,a,e1,r⟩:=k;rw[e1];exact⟨f,a,rfl,r⟩
   |exc x e2 i=>rw[j]at k;obtain⟨f,a,e1,r⟩:=k;rw[e1];exact⟨f,a,rfl,r⟩
   |rse x e2 i=>rw[j]at k;obtain⟨f,a,e1,r⟩:=k;rw[e1];exact⟨f,a,rfl,r⟩
   |rt x i=>rw[j]at k;obtain⟨v,a,e1,C,E,G,P,M⟩:=k;rw[e1];exact⟨v,a,rfl,C,E,G,P,M⟩
def K3(N:Nat)(t:Xt ws)(b:Xd ws)(f:∀{Z h n},b9 t.m b.m n Z h≠.bad->Ie t.m b.m Z h=b9 t.m b.m n Z h):Xd ws where
 m:=Ie t.m b.m
 p:=eU t.p b.p N
 fr:=b.fr
 ok {q h L B O Z env s} c d:=by
  have k:=pG t b N env Z h O s c d;by_cases z:b9 t.m b.m N Z h=.bad
  .rw[z]at k
   cases e:eU t.p b.p N env s with
   |bad=>trivial
   |nx e2 a=>rw[e]at k;obtain⟨_,_,e1,_⟩:=k;cases e1
   |ct e2 a=>rw[e]at k;obtain⟨_,_,e1,_⟩:=k;cases e1
   |bk e2 a=>rw[e]at k;obtain⟨_,_,e1,_⟩:=k;cases e1
   |exc x e2 a=>rw[e]at k;obtain⟨_,_,e1,_⟩:=k;cases e1
   |rse x e2 a=>rw[e]at k;obtain⟨_,_,e1,_⟩:=k;cases e1
   |rt x a=>rw[e]at k;obtain⟨_,_,e1,_⟩:=k;cases e1
  .rw[f z];exact k
structure CL where
 m:Nat->UL->MH->UZ
 p:UR->UR->Option (D×UR)
 ok:∀{q:Nat}{h:MH}{O:UQ}{n:Nat}{xs:UL}{ds as:UR}{vs:UL}{d:D}{ds':UR},h[n]?=J (.lst xs)->Rps q h O ds xs->Rps q h O as vs->p ds as=J (d,ds')->∃v xs',m n vs h=.ok v (h.set n (.lst xs'))/\Rps q h O ds' xs'/\Rp q h O d v
def tU{q h L B O Z env s n xs' ds' i d0 kd}(c:Cx q h L B O ws Z env s)(d:Dis ws Z env)(M:i∈ws)(e:env[i]?=J (J d0))(F:Z[i]?=J (J (.loc n)))(r:Rps q h O ds' xs'):
  Nxt q L h B O ws Z (h.set n (mo kd xs')) (env.set i (J (dl kd ds'))) s:=by
 obtain⟨n',k0,xs,al,e0,e2,a,b,g,r0⟩:=c.sr.ow i _ e M;rw[F]at e2;cases e2;have mv:Mv O h O (h.set n (mo kd xs')):=⟨λm U R=>nr (λ(z:n=m)=>R (z▸a)),λo H=>.inl H⟩;have hp:=c.pL;have W:i<env.length:=(oI.mp e).1;refine⟨O,⟨by simp,mv,λ_ h=>h,λm U _=>nr ⋯⟩,⟨λo H=>by simpa using c.bd o H,c.sub,c.bb,c.pb,by simpa using c.hL,?_,⟨by simp[c.sr.len],λj x f l=>?_,λj x f l=>?_⟩⟩,?_⟩
 .unfold bF;rw[nr ⋯];exact c.pen
 .have ne:i≠j:=λz=>l (z▸M);rw[nr ne]at f;obtain⟨v,e1,w⟩:=c.sr.fz j x f l;exact⟨v,e1,w.mv mv⟩
 .by_cases z:i=j
  .subst z;rw[xJ W]at f;cases f;exact⟨n,kd,xs',ds',rfl,F,a,b,xJ (aW g),r.mv mv⟩
  .rw[nr z]at f;obtain⟨m,k1,ys,E,e1,e3,S,b4,X,b6⟩:=c.sr.ow j x f l
   have:n≠m:=λy=>d i j M l z _ _ n e f F (y▸e3)
   exact⟨m,k1,ys,E,e1,e3,S,b4,by rw[nr this];exact X,b6.mv mv⟩
 .intro j k l Q ne x y m f ek e1;have P:∀j x,(env.set i (J (dl kd ds')))[j]?=J (J x)->∃G,env[j]?=J (J G):=λj x f=>by
   by_cases z:i=j
   .subst z;exact⟨_,e⟩
   .rw[nr z]at f;exact⟨x,f⟩
  obtain⟨G,u⟩:=P j x f;obtain⟨y',C⟩:=P k y ek;exact d j k l Q ne G y' m u C e1
def pU{q h L B O Z env s n xs' ds' i ds}(c:Cx q h L B O ws Z env s)(d:Dis ws Z env)(f:i∈ws)(e:env[i]?=J (J (D.lst ds)))(a:Z[i]?=J (J (.loc n)))(r:Rps q h O ds' xs'):
  Nxt q L h B O ws Z (h.set n (.lst xs')) (env.set i (J (.lst ds'))) s:=tU (kd:=Y) c d f e a r
def Gq(o:CL)(i:Nat)(a:Xs ws)(Q:i∈ws)(E:a.fz=I){q h L B O Z env s}(c:Cx q h L B O ws Z env s)(d:Dis ws Z env)(M:a.p env s=.ok as s1)(z:env[i]?=J (J (.lst ds)))(C:o.p ds as=J (r,ds')):∃v j n f,KB q h j/\Cx q j L B O ws Z env s1/\Z[i]?=J (J (.loc n))/\Ek o.m (ae i) a.m Z h=.ok v (j.set n (.lst f))/\Rps q j O ds' f/\Rp q j O r v:=by
 obtain⟨n,kd,xs,S,G,e2,U,W,g,F⟩:=c.sr.ow i _ z Q;obtain⟨rfl,rfl⟩:=ip G;replace g:h[n]?=J (.lst xs):=g;have l:=a.ok c;rw[M]at l;obtain⟨X,j,e3,kb,pn,_,P⟩:=l;have H:=c.kb kb pn;have R:j[n]?=J (.lst xs):=(kb.keep n (aW g) (by have:=c.pL;lia)).trans g;obtain⟨v,f,e4,u,y⟩:=o.ok R (F.mv (kb.mv c.pO)) (P E) C;refine⟨v,j,n,f,kb,H,e2,?_,u,y⟩;have em:ae i Z h=.ok (.loc n) h:=by simp[ae,e2]
 simp_all
def Cf(o:CL)(i:Nat)(a:aq->g_->PR (UR))(env:aq)(s:g_)(k:D->aq->g_->PS):PS:=match a env s with
 |.ok j u=>(match env[i]? with
  |some (J (.lst l))=>(match o.p l j with
   |some (r,f)=>k r (env.set i (J (.lst f))) u
   |none=>.bad)
  |_=>.bad)
 |_=>.bad
def nD(e1:a env s=.ok as s1)(e2:env[i]?=J (J (.lst ds)))(e3:o.p ds as=J (r,ds')):Cf o i a env s k=k r (env.set i (J (.lst ds'))) s1:=by simp only[Cf,e1,e2,e3]
def v7:Cf o i a env s k=.bad\/∃j u l r f,a env s=.ok j u/\env[i]?=J (J (.lst l))/\o.p l j=J (r,f)/\Cf o i a env s k=k r (env.set i (J (.lst f))) u:=by
 cases e1:a env s with
 |bad=>left;simp only[Cf,e1]
 |exc _ _=>left;simp only[Cf,e1]
 |ok j u =>
  cases e2:env[i]? with
  |none=>left;simp only[Cf,e1,e2]
  |some x =>
   cases x with
   |none=>left;simp only[Cf,e1,e2]
   |some d =>
    cases d with
    |lst l =>
     cases e3:o.p l j with
     |none=>left;simp only[Cf,e1,e2,e3]
     |some y=>exact .inr ⟨j,u,l,y.1,y.2,rfl,rfl,e3,nD e1 e2 e3⟩
    |_=>left;simp only[Cf,e1,e2]
def v_(o:CL)(i:Nat)(a:Xs ws)(G:ws.contains i=I:=by exact ys rfl)(E:a.fz=I:=by exact ys rfl):Xd ws where
 m:=gZ (Ek o.m (ae i) a.m)
 p:=λenv s=>Cf o i a.p env s λ_=>.nx
 fr:=I
 ok {q h L B O Z env s} c d:=by
  rcases v7 (o:=o) (i:=i) (a:=a.p) (env:=env) (s:=s) (k:=λ_=>.nx)with z|⟨M,P,Q,r,u,e1,e2,e3,z⟩
  .rw[z];trivial
  .rw[z];have f:i∈ws:=by simpa using G
   obtain⟨v,y,n,j,kb,F,C,em,l,H⟩:=Gq o i a f E c d e1 e2 e3;refine⟨Z,y.set n (.lst j),?_,(pU F d f e2 C l).after (kb.stp c)⟩;unfold gZ wH;rw[em];rfl
def kI(j:Nat)(o:CL)(i:Nat)(a:Xs ws)(U:ws.contains i=I:=by exact ys rfl)(P:ws.contains j=T:=by exact ys rfl)(S:a.fz=I:=by exact ys rfl):Xd ws where
 m:=bp j (Ek o.m (ae i) a.m)
 p:=λenv s=>Cf o i a.p env s λr env s=>.nx (env.set j (J r)) s
 fr:=I
 ok {q h L B O Z env s} c d:=by
  rcases v7 (o:=o) (i:=i) (a:=a.p) (env:=env) (s:=s) (k:=λr env s=>.nx (env.set j (J r)) s)with z|⟨X,s1,ds,r,M,e1,e2,e3,z⟩
  .rw[z];trivial
  .rw[z];have l:i∈ws:=by simpa using U
   obtain⟨v,R,n,C,kb,H,G,em,F,Q⟩:=Gq o i a l S c d e1 e2 e3;obtain⟨W,st,c2,d2⟩:=(pU H d l e2 G F).after (kb.stp c);obtain⟨y,u,f,E⟩:=pU H d l e2 G F;obtain⟨A,b⟩:=f.sr.set (i:=j) (λz=>by simp[z]at P) (Q.mv u.mv);refine⟨Z.set j (J v),R.set n (.lst C),?_,y,(kb.stp c).trans u,⟨f.bd,f.sub,f.bb,f.pb,f.hL,f.pen,A⟩,E.keep b⟩;unfold bp wH;rw[em]
def Vw.int(w:Vw q h L O (.int b) v):v=.int b:=by
 rcases w with r|⟨n,a,xs,f,e,_⟩
 .exact r
 .cases a<;>cases e
def PS.fin(r:PS):PR D:=match r with
 |.nx _ s=>.ok .non s
 |.rt d s=>.ok d s
 |.exc c _ s=>.exc c s
 |.rse c _ s=>.exc c s
 |_=>.bad
@[simp]theorem fin_nx:(PS.nx e s).fin=.ok .non s:=rfl
@[simp]theorem iu:(PS.rt d s).fin=.ok d s:=rfl
@[simp]theorem fin_exc:(PS.exc c e s).fin=.exc c s:=rfl
@[simp]theorem fin_rse:(PS.rse c e s).fin=.exc c s:=rfl
@[simp]theorem Pm:PS.bad.fin=.bad:=rfl
def li(n:Nat)(a:UR):aq:=a.map J++List.replicate (n-a.length) Y
def b7(n B:Nat)(b:Xd ws)(Q:ws.all (λi=>decide (B<=i))=I:=by exact ys rfl):Fn where
 m:=cc n B b.m
 p:=λu s=>if u.length=B then(b.p (li n u) s).fin else .bad
 fr:=b.fr
 ok {q h O vs u s} bd H pn r:=by
  by_cases L:u.length=B
  .rw[b_ L];have hv:vs.length=B:=by rw[r.length];exact L
   have low:∀i d,(li n u)[i]?=J (J d)->i<B/\u[i]?=J d:=λi d e=>by
    by_cases z:i<u.length
    .refine⟨⋯,?_⟩;unfold li at e;rw[qr (by simpa using z)]at e;simp at e;simpa using e
    .unfold li at e;rw[Ch (by simpa using z)]at e;by_cases y:i-(u.map J).length<n-u.length
     .simp[GN,y]at e
     .simp at y e;exact absurd e (by simp[GN])
   have M:∀i d,(li n u)[i]?=J (J d)->i∉ws:=λi d e F=>by
    have:=(low i d e).1
    rw[P6]at Q
    have:=Q i F
    simp at this;lia
   have c:Cx q h h.length O O ws (bO n vs) (li n u) s:=by refine⟨bd,λ_ h=>h,bd,H,il _,pn,⟨by simp[bO,li,r.length],λi d e _=>?_,λi d e F=>absurd F (M i d e)⟩⟩;obtain⟨v,P,X⟩:=r.get (low i d e).2;refine⟨v,?_,X⟩;unfold bO;rw[qr (by simpa using(oI.mp P).1)];simp[P]
   have k:=b.ok c λi j F _ _ d _ _ e=>absurd F (M i d e)
   have em:cc n B b.m vs h=(match b.m (bO n vs) h with
    |.nx _ a=>.ok .non a
    |.rt v a=>.ok v a
    |.exc x _ a=>.exc x a
    |.rse x _ a=>.exc x a
    |_=>.bad):=by unfold cc;(rw[b_ hv])<;>(cases b.m (bO n vs) h<;>rfl)
   rw[em];have kb:∀{a G},Stp q h.length h O a G->KB q h a:=λst=>⟨st.len,λm S H=>st.base m S H⟩
   cases e:b.p (li n u) s with
   |nx e1 E=>rw[e]at k;obtain⟨R,a,f,G,st,C,_⟩:=k;rw[f];exact⟨.non,a,rfl,kb st,C.pen,rfl,λ_ k u e=>by cases k<;>cases e⟩
   |exc x e1 E=>rw[e]at k;obtain⟨R,a,f,G,st,C,_⟩:=k;rw[f];exact⟨a,rfl,kb st,C.pen⟩
   |rse x e1 E=>rw[e]at k;obtain⟨R,a,f,G,st,C,_⟩:=k;rw[f];exact⟨a,rfl,kb st,C.pen⟩
   |rt x E=>rw[e]at k;obtain⟨v,a,f,l,b,p,U,W⟩:=k;rw[f];exact⟨v,a,rfl,⟨l,b⟩,p,U,W⟩
   |bk e1 E=>trivial
   |ct e1 E=>trivial
   |bad=>trivial
  .rw[f_ L];trivial
def Gr(m:UL->MH->UZ):Fn where
 m:=m
 p:=λ_ _=>.bad
 fr:=I
 ok _ _ _ _:=trivial
end
end PU
namespace PU
open MM SetT SortT
open L2 (wx mh gK)
noncomputable section
section
variable{q:Nat}{h:MH}{L:Nat}{O:UQ}{v:PV}
def Vw.non(w:Vw q h L O .non v):v=.non:=by
 rcases w with r|⟨n,k,xs,a,e,_⟩
 .exact r
 .cases k<;>cases e
def Vw.str(w:Vw q h L O (.str x) v):v=.str x:=by
 rcases w with r|⟨n,k,xs,a,e,_⟩
 .exact r
 .cases k<;>cases e
inductive Tf(h:MH)(P:UL->Prop)(v:PV):Prop
 |mk(n:Nat)(xs:UL)(e:v=.loc n)(g:h[n]?=J (.lst xs))(r:P xs):Tf h P v
def Vw.lst(w:Vw q h L O (.lst ds) v):Tf h (Rps q h O ds) v:=by
 rcases w with⟨n,xs,e,_,g,r⟩|⟨n,k,xs,a,e,e1,_,_,g,r⟩
 .exact⟨n,xs,e,g,r⟩
 .obtain⟨rfl,rfl⟩:=ip e;exact⟨n,xs,e1,g,r⟩
def Vw.tup(w:Vw q h L O (.tup ds) v):Ri (Rps q h O ds) v:=by
 rcases w with r|⟨n,k,xs,a,e,_⟩
 .exact r
 .cases k<;>cases e
def Js(r:Rp q h O d v)(hf:fr=I->∀k a,d≠dl k a):Gv q h O fr (.ok v h) d :=
 ⟨v,[],by simp,by simpa using r,λz k a e=>absurd e (hf z k a)⟩
def CY:Gv q h O fr (.ok (.int i) h) (.int i):=Js rfl λ_ k _ e=>by cases k<;>cases e
def y6:Gv q h O fr (.ok (.bl i) h) (.bl i):=Js rfl λ_ k _ e=>by cases k<;>cases e
def gJ(w:Jn q h L O [d] vs):∃x,vs=[x]/\Vw q h L O d x:=by
 obtain⟨x,r,e,a,b⟩:=w
 have:r=[]:=b
 subst this;exact⟨x,e,a⟩
def Jt(w:Jn q h L O [d,d'] vs):∃x y,vs=[x,y]/\Vw q h L O d x/\Vw q h L O d' y:=by obtain⟨x,r,e,a,b⟩:=w;obtain⟨y,rfl,c⟩:=gJ b;exact⟨x,y,e,a,c⟩
end
def E1(m:PV->PV->MH->UZ)(f:Int->Int->D)(g:Int->Int->PV)(l:∀i j h,m (.int i) (.int j) h=.ok (g i j) h)(r:∀i j q h O fr,Gv q h O fr (.ok (g i j) h) (f i j)):y4 where
 m:=m
 p:=λa b=>match a,b with
  |.int i,.int j=>J (f i j)
  |_,_=>Y
 fr:=I
 ok {q h L O a x b y d} bd wa wb e:=by
  cases a with
  |int i =>
   cases b with
   |int j=>cases e;rw[wa.int,wb.int,l];exact r i j q h O I
   |_=>cases e
  |_=>cases e
def bH:y4:=E1 A0 (λi j=>.int (i-j)) (λi j=>.int (i-j)) (λ_ _ _=>rfl) λ_ _ _ _ _ _=>CY
def w5:y4:=E1 BU (λi j=>.bl (decide (i<j))) (λi j=>.bl (decide (i<j))) (λ_ _ _=>rfl) λ_ _ _ _ _ _=>y6
def Rm:y4:=E1 Ig (λi j=>.bl (decide (i<=j))) (λi j=>.bl (decide (i<=j))) (λ_ _ _=>rfl) λ_ _ _ _ _ _=>y6
def Cr:y4:=E1 BV (λi j=>.bl (decide (j<i))) (λi j=>.bl (decide (j<i))) (λ_ _ _=>rfl) λ_ _ _ _ _ _=>y6
def bo:y4 where
 m:=j3
 p:=λa b=>match a,b with
  |.int i,.int j=>J (.int (i+j))
  |.lst x,.lst y=>if x.length+y.length<=100000 then J (.lst (x++y))else Y
  |.tup (a::x),.tup y=>if x.length+1+y.length<=100000 then J (.tup (a::x++y))else Y
  |_,_=>Y
 fr:=I
 ok {q h L O a x b y d} bd wa wb e:=by
  cases a with
  |int i =>
   cases b with
   |int j=>cases e;rw[wa.int,wb.int];exact CY
   |_=>cases e
  |lst x =>
   cases b with
   |lst y =>
    dsimp only at e;by_cases z:x.length+y.length<=100000
    .rw[b_ z]at e;cases e;obtain⟨n,xs,rfl,g,r⟩:=wa.lst;obtain⟨u,ys,rfl,l,f⟩:=wb.lst;show Gv q h O I (match h[n]?,h[u]? with|some (.lst xs),J (.lst ys)=>pe (xs++ys) h|_,_=>.bad) _;rw[g,l];exact oP bd (r.app f) (by simpa using z)
    .rw[f_ z]at e;cases e
   |_=>cases e
  |tup x =>
   cases x with
   |nil=>cases b<;>cases e
   |cons a x =>
    cases b with
    |tup y =>
     dsimp only at e;by_cases z:x.length+1+y.length<=100000
     .rw[b_ z]at e;cases e;obtain⟨xs,rfl,r⟩:=wa.tup;obtain⟨ys,rfl,f⟩:=wb.tup;have ne:xs≠[]:=λz=>by have:=r.length;simp[z]at this
      show Gv q h O I (if xs≠[]then r_ (xs++ys) h else .bad) _;rw[b_ ne];exact vz (r.app f) (by simp;lia)
     .rw[f_ z]at e;cases e
    |_=>cases e
  |_=>cases e
def E2:y4 where
 m:=kx
 p:=λa b=>match a,b with
  |.int i,.int j=>if j≠0 then J (.int (i.fmod j))else Y
  |_,_=>Y
 fr:=I
 ok {q h L O a x b y d} bd wa wb e:=by
  cases a with
  |int i =>
   cases b with
   |int j =>
    dsimp only at e;by_cases z:j≠0
    .rw[b_ z]at e;cases e;rw[wa.int,wb.int];show Gv q h O I (if j≠0 then .ok (.int (i.fmod j)) h else .bad) _;rw[b_ z];exact CY
    .rw[f_ z]at e;cases e
   |_=>cases e
  |_=>cases e
def i3:y4 where
 m:=aU
 p:=λa b=>match a,b with
  |.lst x,.int j=>mh x j
  |.tup x,.int j=>mh x j
  |_,_=>Y
 fr:=T
 ok {q h L O a x b y d} bd wa wb e:=by
  have at':∀{f:UR}{xs:UL}{j:Int},Rps q h O f xs->mh f j=J d->∃v,mh xs j=J v/\Rp q h O d v:=λ{f xs j} r e=>by
   unfold mh at e ⊢;rw[r.length]
   cases e1:wx f.length j with
   |none=>rw[e1]at e;cases e
   |some k=>rw[e1]at e;exact r.get e
  cases b with
  |int j =>
   rw[wb.int]
   cases a with
   |lst f =>
    obtain⟨n,xs,rfl,g,r⟩:=wa.lst;obtain⟨v,e1,i⟩:=at' r e;show Gv q h O T (match h[n]? with|some (.lst xs)=>(match mh xs j with|some v=>.ok v h|none=>.bad)|_=>.bad) _;rw[g];dsimp only;rw[e1];exact Js i λz=>by cases z
   |tup f =>
    obtain⟨xs,rfl,r⟩:=wa.tup;obtain⟨v,e1,i⟩:=at' r e;show Gv q h O T (match mh xs j with|some v=>.ok v h|none=>.bad) _;rw[e1];exact Js i λz=>by cases z
   |_=>cases e
  |_=>cases a<;>cases e
def Nc(f:Bool):y4 where
 m:=Mj f
 p:=λa b=>match b with
  |.non=>(match a with
   |.non=>J (.bl (!f))
   |_=>J (.bl f))
  |.bl b=>(match a with
   |.bl c=>J (.bl (if f then !(c==b)else c==b))
   |.non=>J (.bl f)
   |.int _=>J (.bl f)
   |.str _=>J (.bl f)
   |.tup _=>J (.bl f)
   |_=>Y)
  |_=>Y
 fr:=I
 ok {q h L O a x b y d} bd wa wb e:=by
  have loc:∀{a:D}{x:PV},Vw q h L O a x->(∃i,a=.lst i)\/(∃j i,a=.dic j i)\/(∃c,a=.exc c)\/a=.pen->∃n,x=.loc n:=λ{a x} w z=>by
   rcases w with r|⟨n,k,xs,i,e,e1,_⟩
   .rcases z with⟨i,rfl⟩|⟨j,i,rfl⟩|⟨c,rfl⟩|rfl
    .obtain⟨n,_,e,_⟩:=r;exact⟨n,e⟩
    .obtain⟨n,_,e,_⟩:=r;exact⟨n,e⟩
    .obtain⟨n,e,_⟩:=r;exact⟨n,e⟩
    .exact⟨q,r⟩
   .exact⟨n,e1⟩
  cases b with
  |non =>
   rw[wb.non]
   cases a with
   |non=>cases e;rw[wa.non];exact y6
   |bl c=>cases e;rw[wa.bl];exact y6
   |int c=>cases e;rw[wa.int];exact y6
   |str c=>cases e;rw[wa.str];exact y6
   |tup c=>cases e;obtain⟨xs,rfl,_⟩:=wa.tup;exact y6
   |lst c=>cases e;obtain⟨n,rfl⟩:=loc wa (.inl ⟨_,rfl⟩);exact y6
   |dic j i=>cases e;obtain⟨n,rfl⟩:=loc wa (.inr (.inl ⟨_,_,rfl⟩));exact y6
   |exc c=>cases e;obtain⟨n,rfl⟩:=loc wa (.inr (.inr (.inl ⟨_,rfl⟩)));exact y6
   |pen=>cases e;obtain⟨n,rfl⟩:=loc wa (.inr (.inr (.inr rfl)));exact y6
  |bl b =>
   rw[wb.bl]
   cases a with
   |non=>cases e;rw[wa.non];exact y6
   |bl c=>cases e;rw[wa.bl];exact y6
   |int c=>cases e;rw[wa.int];exact y6
   |str c=>cases e;rw[wa.str];exact y6
   |tup c=>cases e;obtain⟨xs,rfl,_⟩:=wa.tup;exact y6
   |_=>cases e
  |_=>cases e
mutual
def py:D->Option PyData
 |.non=>J .none
 |.bl b=>J (.bool b)
 |.int i=>J (.int i)
 |.str x=>J (.str x)
 |.tup a=>(Cs a).map .tuple
 |.lst a=>(Cs a).map .list
 |_=>Y
def Cs:UR->Option (List PyData)
 |[]=>J []
 |d::a=>match py d,Cs a with
  |some x,J xs=>J (x::xs)
  |_,_=>Y
end
mutual
def x_:D->Nat
 |.tup a=>1+sf a
 |.lst a=>1+sf a
 |_=>0
def sf:UR->Nat
 |[]=>0
 |d::a=>max (x_ d) (sf a)
end
def vU(d:D):(∀(v:PV)(e:PyData)(n:Nat),Rp q h O d v->py d=J e->x_ d<=n->rd n h v=J e):=by
 refine D.rec (motive_1:=λd=>∀(v:PV)(e:PyData)(n:Nat),Rp q h O d v->py d=J e->x_ d<=n->rd n h v=J e)
  (motive_2:=λf=>∀(j:UL)(i:List PyData)(n:Nat),Rps q h O f j->Cs f=J i->sf f<=n->cC (rd n h) j=J i)
  (λv _ n r e _=>?_) (λb v _ n r e _=>?_) (λb v _ n r e _=>?_) (λb v _ n r e _=>?_) (λf u v e n r l hd=>?_) (λf u v e n r l hd=>?_) (λ_ _ _ _ _ _ _ e _=>?_) (λ_ _ _ _ _ e _=>?_) (λ_ _ _ _ e _=>?_)
  (λj i n r e _=>?_) (λd f E C j i n r e hd=>?_) d
 .rw[show v=PV.non from r];cases e;cases n<;>rfl
 .rw[show v=PV.bl b from r];cases e;cases n<;>rfl
 .rw[show v=PV.int b from r];cases e;cases n<;>rfl
 .rw[show v=PV.str b from r];cases e;cases n<;>rfl
 .obtain⟨xs,ex,r⟩:=r;subst ex;rw[py,vu]at l;obtain⟨i,e1,rfl⟩:=l;rw[x_]at hd
  cases n with
  |zero=>lia
  |succ n=>simp only[rd];rw[u _ _ n r e1 ⋯];rfl
 .obtain⟨m,xs,ex,_,g,r⟩:=r;subst ex;rw[py,vu]at l;obtain⟨i,e1,rfl⟩:=l;rw[x_]at hd
  cases n with
  |zero=>lia
  |succ n=>simp only[rd,g];rw[u _ _ n r e1 ⋯];rfl
 .simp[py]at e
 .simp[py]at e
 .simp[py]at e
 .rw[show j=[]from r];rw[Cs]at e;cases e;rfl
 .obtain⟨x,t,ex,a,b⟩:=r;subst ex;rw[sf]at hd;rw[Cs]at e
  cases e1:py d with
  |none=>rw[e1]at e;cases e
  |some y =>
   cases e2:Cs f with
   |none=>rw[e1,e2]at e;cases e
   |some ys =>
    rw[e1,e2]at e;cases e;have B:=E _ _ n a e1 ⋯;have z:=C _ _ n b e2 ⋯;simp only[cC,B,z]
def Nd(r:Rp q h O d v)(a:py d=J e)(hd:x_ d<=n):rd n h v=J e:=vU d v e n r a hd
def zv(r:Rps q h O ds vs)(a:Cs ds=J es)(hd:sf ds<=n):cC (rd n h) vs=J es:=by
 have:=vU (.tup ds) (.tup vs) (.tuple es) (n+1) (⟨vs,rfl,r⟩) (by rw[py,a];rfl) (by rw[x_];lia)
 simp only[rd]at this
 simp_all
def nW(w:Vw q h L O d v)(a:py d=J e)(hd:x_ d<=60):rd 60 h v=J e:=by
 rcases w with r|⟨n,j,xs,f,rfl,rfl,_,_,g,r⟩
 .exact Nd r a hd
 cases j with
 |some _=>cases a
 |none =>
 replace a:py (.lst f)=J e:=a;replace hd:x_ (.lst f)<=60:=hd;replace g:h[n]?=J (.lst xs):=g
 .rw[py,vu]at a;obtain⟨l,e1,rfl⟩:=a;rw[x_]at hd;have i:=zv (n:=59) r e1 ⋯;show(match h[n]? with|some (.lst xs)=>(cC (rd 59 h) xs).map PyData.list|_=>Y)=_;rw[g];dsimp only;rw[i];rfl
def CM(f:Bool)(a b:D):UC:=match py a,py b with
 |some x,J y=>if(x_ a<=60/\x_ b<=60)/\SeqAt.shaped x=I/\SeqAt.shaped y=I then J (.bl (if f then !PyData.eqv x y else PyData.eqv x y))else Y
 |_,_=>Y
def vM(e:CM neg a b=J d):∃x y,py a=J x/\py b=J y/\(x_ a<=60/\x_ b<=60)/\(SeqAt.shaped x=I/\SeqAt.shaped y=I)/\d=.bl (if neg then !PyData.eqv x y else PyData.eqv x y):=by
 unfold CM at e
 cases e1:py a with
 |none=>rw[e1]at e;cases e
 |some x =>
  cases e2:py b with
  |none=>rw[e1,e2]at e;cases e
  |some y =>
   simp_all
def y_:y4 where
 m:=BS
 p:=CM T
 fr:=I
 ok {q h L O a x b y d} bd wa wb e:=by obtain⟨u,w,e1,e2,hd,f,rfl⟩:=vM e;unfold BS;rw[nW wa e1 hd.1,nW wb e2 hd.2];dsimp only;rw[b_ f];exact y6
def Az:y4 where
 m:=Ae
 p:=CM I
 fr:=I
 ok {q h L O a x b y d} bd wa wb e:=by obtain⟨u,w,e1,e2,hd,f,rfl⟩:=vM e;unfold Ae;rw[nW wa e1 hd.1,nW wb e2 hd.2];dsimp only;rw[b_ f];exact y6
def Vw.seqOf(w:Vw q h L O d v)(e:d.items=J ds):∃xs,MM.bZ h v=J xs/\Rps q h O ds xs:=by
 cases d with
 |lst a=>cases e;obtain⟨n,xs,rfl,g,r⟩:=w.lst;exact⟨xs,by simp[MM.bZ,g],r⟩
 |tup a=>cases e;obtain⟨xs,rfl,r⟩:=w.tup;exact⟨xs,rfl,r⟩
 |_=>cases e
def Ju(f:Bool)(a b:D):UC:=match b.items with
 |some i=>(match py a,Cs i with
  |some x,J ys=>if(x_ a<=60/\sf i<=60)/\x.canLay0=I/\PyData.canLayAll0 ys=I then J (.bl (if f then !ys.any (λe=>PyData.eqv e x)else ys.any (λe=>PyData.eqv e x)))else Y
  |_,_=>Y)
 |none=>Y
def wh(f:Bool):y4 where
 m:=El f
 p:=Ju f
 fr:=I
 ok {q h L O a x b y d} bd wa wb e:=by
  unfold Ju at e
  cases i:b.items with
  |none=>rw[i]at e;cases e
  |some j =>
   rw[i]at e;dsimp only at e
   cases e1:py a with
   |none=>rw[e1]at e;cases e
   |some u =>
    cases e2:Cs j with
    |none=>rw[e1,e2]at e;cases e
    |some l =>
     rw[e1,e2]at e;dsimp only at e;by_cases z:(x_ a<=60/\sf j<=60)/\u.canLay0=I/\PyData.canLayAll0 l=I
     .rw[b_ z]at e;cases e;obtain⟨xs,B,r⟩:=wb.seqOf i;unfold El;rw[B,nW wa e1 z.1.1];dsimp only;rw[zv r e2 z.1.2];dsimp only;rw[b_ z.2];exact y6
     .rw[f_ z]at e;cases e
end
noncomputable section
def oK:Pj where
 m:=CT
 p:=λa=>match a with
  |.int i=>J (.int (-i))
  |_=>Y
 fr:=I
 ok {q h L O a x d} bd w e:=by
  cases a with
  |int i=>cases e;rw[w.int];exact CY
  |_=>cases e
def Dc:D->Option String
 |.non=>J "NoneType"
 |.bl _=>J "bool"
 |.int _=>J "int"
 |.str _=>J "str"
 |.tup _=>J "tuple"
 |.lst _=>J "list"
 |.dic _ _=>J "dict"
 |_=>Y
def Nf(w:Vw q h L O d v)(e:Dc d=J t):Gb h v=J t:=by
 cases d with
 |non=>cases e;rw[w.non];rfl
 |bl b=>cases e;rw[w.bl];rfl
 |int b=>cases e;rw[w.int];rfl
 |str b=>cases e;rw[w.str];rfl
 |tup b=>cases e;obtain⟨xs,rfl,_⟩:=w.tup;rfl
 |lst b=>cases e;obtain⟨n,xs,rfl,g,_⟩:=w.lst;simp[Gb,g]
 |dic a f =>
  cases e;rcases w with⟨n,xs,rfl,_,g,_⟩|⟨n,k,xs,f,e,rfl,_,_,g,_⟩
  .simp[Gb,g]
  .obtain⟨rfl,rfl⟩:=sB e;replace g:h[n]?=J (.dic a xs):=g;simp[Gb,g]
 |_=>cases e
def E3(f:List String):Pj where
 m:=tq f
 p:=λa=>(Dc a).map λt=>.bl (f.any (gP t))
 fr:=I
 ok {q h L O a x d} bd w e:=by rw[vu]at e;obtain⟨t,e1,rfl⟩:=e;unfold tq;rw[Nf w e1];exact y6
def Tg(f:UL->MH->UZ)(g:Int->Int->Int)(hf:∀i j h,f [.int i,.int j] h=.ok (.int (g i j)) h):B1 where
 k:=λxs h=>(f xs h).ne
 p:=λl=>match l with
  |[.int i,.int j]=>J (.int (g i j))
  |_=>Y
 fr:=I
 ok {q h L O l xs d} bd w e:=by
  match l,e with
  |[.int i,.int j],e =>
   cases e;obtain⟨x,y,rfl,a,b⟩:=Jt w;rw[a.int,b.int,hf];exact CY
def k8:B1:=Tg BX (λi j=>if j<i then j else i) λ_ _ _=>rfl
def kT:B1:=Tg DY (λi j=>if j>i then j else i) λ_ _ _=>rfl
def jI:B1 where
 k:=λxs h=>(p9 xs h).ne
 p:=λi=>match i with
  |[.lst f]=>J (.int f.length)
  |[.tup f]=>J (.int f.length)
  |[.str x]=>if x.length<=sizeLine then J (.int x.length)else Y
  |_=>Y
 fr:=I
 ok {q h L O i xs d} bd w e:=by
  match i,e with
  |[.lst f],e =>
   cases e;obtain⟨x,rfl,a⟩:=gJ w;obtain⟨n,ys,rfl,g,r⟩:=a.lst;simp only[p9,g];rw[r.length];exact CY
  |[.tup f],e =>
   cases e;obtain⟨x,rfl,a⟩:=gJ w;obtain⟨ys,rfl,r⟩:=a.tup;simp only[p9];rw[r.length];exact CY
  |[.str x],e =>
   dsimp only at e;by_cases z:x.length<=sizeLine
   .rw[b_ z]at e;cases e;obtain⟨x,rfl,a⟩:=gJ w;rw[a.str];simp only[p9];rw[b_ z];exact CY
   .rw[f_ z]at e;cases e
def lL:B1 where
 k:=λxs h=>(Co xs h).ne
 p:=λi=>match i with
  |[d]=>d.items.bind λf=>if f.length<=100000 then J (.lst f)else Y
  |_=>Y
 fr:=I
 ok {q h L O i xs d} bd w e:=by
  match i,e with
  |[a],e =>
   obtain⟨x,rfl,j⟩:=gJ w;rw[C3]at e;obtain⟨f,e1,e2⟩:=e;obtain⟨xs,e3,r⟩:=j.seqOf e1;by_cases z:f.length<=100000
   .rw[b_ z]at e2;cases e2;obtain⟨v,g,e4,u,l⟩:=oP bd r z;exact⟨v,g,by simp only[Co,e3];rw[e4];rfl,u,l⟩
   .rw[f_ z]at e2;cases e2
def iB:B1 where
 k:=λxs h=>(xZ xs h).ne
 p:=λf=>match f with
  |[d]=>d.items.map .tup
  |_=>Y
 fr:=I
 ok {q h L O f xs d} bd w e:=by
  match f,e with
  |[a],e =>
   obtain⟨x,rfl,i⟩:=gJ w;rw[vu]at e;obtain⟨j,e1,rfl⟩:=e;obtain⟨xs,e3,r⟩:=i.seqOf e1;simp only[xZ,e3];exact Js ⟨xs,rfl,r⟩ λ_ k _ e=>by cases k<;>cases e
def di:UR->Option (UN)
 |[]=>J []
 |.int b::r=>(di r).map (b::·)
 |_=>Y
def j4:∀{f:UR}{xs:UL}{bs:UN},Rps q h O f xs->di f=J bs->xs=bs.map .int
 |[],_,_,r,e=>by rw[show _=[]from r];cases e;rfl
 |d::f,_,bs,⟨x,t,ex,a,b⟩,e=>by
  subst ex
  cases d with
  |int c =>
   rw[show x=PV.int c from a];rw[di,vu]at e;obtain⟨i,e1,rfl⟩:=e;rw[j4 b e1];rfl
  |_=>cases e
def qj:∀(bs:UN),f7 (bs.map .int)=J bs
 |[]=>rfl
 |b::bs=>by rw[n9,f7,qj bs];rfl
def qS:∀(bs:UN),i7 (bs.map .int)=J bs
 |[]=>rfl
 |b::bs=>by rw[n9,i7,qS bs];rfl
def r9(f:UL->MH->UZ)(c:UN->Nat->Nat->Bool)(g:Int->Int->Int)(hf:∀l x h,(bZ h x).bind f7=J l->0<l.length->f [x] h=.ok (.int (lS (c l) l)) h)(C:∀i j h,f [.int i,.int j] h=.ok (.int (g i j)) h):B1 where
 k:=λxs h=>(f xs h).ne
 p:=λu=>match u with
  |[d]=>(d.items.bind di).bind λl=>if 0<l.length then J (.int (lS (c l) l))else Y
  |[.int i,.int j]=>J (.int (g i j))
  |_=>Y
 fr:=I
 ok {q h L O u xs d} bd w e:=by
  match u,e with
  |[a],e =>
   obtain⟨x,rfl,B⟩:=gJ w;rw[C3]at e;obtain⟨l,e1,e2⟩:=e;rw[C3]at e1;obtain⟨E,e1,e3⟩:=e1;obtain⟨xs,e4,r⟩:=B.seqOf e1;by_cases z:0<l.length
   .rw[b_ z]at e2;cases e2;show Gv q h O I (f [x] h).ne _;rw[hf l x h (by rw[e4,Cv,j4 r e3];exact qj l) z];exact CY
   .rw[f_ z]at e2;cases e2
  |[.int i,.int j],e =>
   cases e;obtain⟨x,y,rfl,a,b⟩:=Jt w;rw[a.int,b.int,C];exact CY
def nY:B1:=r9 Cp (λa i j=>decide (a.getD i 0>a.getD j 0)) (λi j=>if j>i then j else i) (λa x h e z=>by simp only[Cp,e];rw[b_ z]) λi j h=>rfl
def eI:B1:=r9 A_ (λa i j=>decide (a.getD i 0<a.getD j 0)) (λi j=>if j<i then j else i) (λa x h e z=>by simp only[A_,e];rw[b_ z]) λi j h=>rfl
def kD(k:UN):D:=.tup (k.map .int)
def cN:D->Option (UN)
 |.tup a=>di a
 |_=>Y
def gf:UR->Option (UP)
 |[]=>J []
 |d::f=>match cN d,gf f with
  |some k,J a=>J (k::a)
  |_,_=>Y
def Jv(r:Rp q h O d v)(e:cN d=J k):v=kP k:=by
 cases d with
 |tup a=>obtain⟨xs,rfl,r⟩:=r;rw[j4 r e];rfl
 |_=>cases e
def uo:∀{f:UR}{xs:UL}{i:UP},Rps q h O f xs->gf f=J i->xs=i.map kP
 |[],_,_,r,e=>by rw[show _=[]from r];cases e;rfl
 |d::f,_,i,⟨x,t,ex,a,b⟩,e=>by
  subst ex;rw[gf]at e
  cases e1:cN d with
  |none=>rw[e1]at e;cases e
  |some k =>
   cases e2:gf f with
   |none=>rw[e1,e2]at e;cases e
   |some j =>
    rw[e1,e2]at e;cases e;rw[Jv a e1,uo b e2];rfl
def Jw(k:UN):Pa (kP k)=J k:=qS k
def qB:∀(a:UP),km (a.map kP)=J a
 |[]=>rfl
 |k::a=>by rw[n9,km,Jw,qB a]
def mR:∀(bs:UN),Rps q h O (bs.map .int) (bs.map .int)
 |[]=>rfl
 |b::bs=>⟨_,_,rfl,rfl,mR bs⟩
def sS:∀(a:UP),Rps q h O (a.map kD) (a.map kP)
 |[]=>rfl
 |b::bs=>⟨_,_,rfl,⟨_,rfl,mR b⟩,sS bs⟩
def Vw.lstOf(w:Vw q h L O (.lst ds) v):∃xs,MM.dJ h v=J xs/\Rps q h O ds xs:=by obtain⟨n,xs,rfl,g,r⟩:=w.lst;exact⟨xs,by simp[MM.dJ,g],r⟩
def Rn(bd:Bd h O)(r:∀h O,Rps q h O ds xs):Gv q h O I (.ok (.loc h.length) (h++[.lst xs])) (.lst ds):=by
 have g:(h++[MO.lst xs])[h.length]?=J (.lst xs):=by simp
 exact⟨_,_,rfl,⟨_,_,rfl,λz=>by have:=bd _ z;ext,g,r _ _⟩,λ_ k a e=>by obtain⟨rfl,rfl⟩:=ip e;exact⟨_,_,rfl,il _,g,r _ _⟩⟩
def Po:B1 where
 k:=λl f=>match l with
  |[x]=>(match (dJ f x).bind km with
   |some a=>if(∀k∈a,k≠[])/\(l7 a).length<=66 then .ok (.loc f.length) (f++[.lst ((cf (l7 a)).map kP)])else .bad
   |none=>.bad)
  |_=>.bad
 p:=λi=>match i with
  |[.lst j]=>(gf j).bind λa=>if(∀k∈a,k≠[])/\(l7 a).length<=66 then J (.lst ((cf (l7 a)).map kD))else Y
  |_=>Y
 fr:=I
 ok {q h L O i xs d} bd w e:=by
  match i,e with
  |[.lst j],e =>
   obtain⟨x,rfl,u⟩:=gJ w;obtain⟨ys,y,r⟩:=u.lstOf;rw[C3]at e;obtain⟨a,e1,e2⟩:=e;by_cases z:(∀k∈a,k≠[])/\(l7 a).length<=66
   .rw[b_ z]at e2;cases e2;simp only[y,Cv,uo r e1,qB];rw[b_ z];exact Rn bd λ_ _=>sS _
   .rw[f_ z]at e2;cases e2
def cm(lo:Int)(n:Nat):UR:=(List.range n).map λ(i:Nat)=>D.int (lo+(i:Int))
def oR:Rps q h O (cm lo n) (bz lo n):=by
 have:=mR (q:=q) (h:=h) (O:=O) ((List.range n).map λ(i:Nat)=>lo+(i:Int))
 rw[Bp,Bp]at this;exact this
def Ro:B1 where
 k:=λi f=>match i with
  |[.int j]=>if -(2^62)<=j/\j<2^62/\j.toNat<=sizeLine then .ok (.loc f.length) (f++[.lst (bz 0 j.toNat)])else .bad
  |_=>.bad
 p:=λa=>match a with
  |[.int j]=>if -100000<=j/\j<=100000 then J (.lst (cm 0 j.toNat))else Y
  |_=>Y
 fr:=I
 ok {q h L O a xs d} bd w e:=by
  match a,e with
  |[.int j],e =>
   obtain⟨x,rfl,l⟩:=gJ w;rw[l.int];dsimp only at e;by_cases z:-100000<=j/\j<=100000
   .rw[b_ z]at e;cases e;dsimp only
    have:=dS
    rw[b_ ⟨by ext,by ext,by ext⟩];exact Rn bd λ_ _=>oR
   .rw[f_ z]at e;cases e
def w8:Pk where
 k:=λi l=>match i with
  |[.int j]=>if -(2^62)<=j/\j<2^62 then .ok ⟨bz 0 j.toNat,[]⟩ l else .bad
  |_=>.bad
 p:=λa=>match a with
  |[.int j]=>if -100000<=j/\j<=100000 then J (cm 0 j.toNat)else Y
  |_=>Y
 ok {q h L O a xs d} hq hO bd w e:=by
  match a,e with
  |[.int j],e =>
   obtain⟨x,rfl,r⟩:=gJ w;rw[r.int];dsimp only at e;by_cases z:-100000<=j/\j<=100000
   .rw[b_ z]at e;cases e;dsimp only;rw[b_ ⟨by ext,by ext⟩];exact⟨_,rfl,oR,(λ_ f=>nomatch f),λ_ _ f=>nomatch f⟩
   .rw[f_ z]at e;cases e
def Vw.sqAny(u:q<L)(j:q∈O)(w:Vw q h L O d v)(e:d.items=J ds):∃t xs gd,MM.gh v h=J (t,xs,gd)/\Rps q h O ds xs/\(∀g∈gd,h[g.1]?=J (.lst g.2)/\g.1≠q)/\(Rp q h O d v->∀g∈gd,g.1∉O):=by
 obtain⟨xs,gd,e1,r,i,f⟩:=w.seq u j e
 cases d with
 |lst l =>
  cases e;obtain⟨n,ys,rfl,g,a⟩:=w.lst;simp only[wT,g]at e1;cases e1;exact⟨T,xs,[(n,xs)],by simp[MM.gh,g],a,i,f⟩
 |tup l =>
  cases e;obtain⟨ys,rfl,a⟩:=w.tup;cases e1;exact⟨I,_,[],rfl,a,i,f⟩
 |_=>cases e
def fD(a:UR):UR:=a.zipIdx.map λp=>.tup [.int (p.2:Int),p.1]
def sJ:∀{f:UR}{xs:UL}(n:Nat),Rps q h O f xs->Rps q h O ((f.zipIdx n).map λp=>.tup [.int (p.2:Int),p.1]) ((xs.zipIdx n).map λp=>.tup [.int (p.2:Int),p.1])
 |[],_,_,r=>by rw[show _=[]from r];rfl
 |d::f,_,n,⟨x,t,e,a,b⟩=>by
  subst e;exact⟨_,_,rfl,⟨_,rfl,⟨_,_,rfl,rfl,⟨_,_,rfl,a,rfl⟩⟩⟩,sJ (n+1) b⟩
def iE:Pk where
 k:=λl i=>match l with
  |[x]=>(match gh x i with
   |some (_,xs,gd)=>.ok ⟨iR xs,gd⟩ i
   |none=>.bad)
  |_=>.bad
 p:=λf=>match f with
  |[d]=>d.items.map fD
  |_=>Y
 ok {q h L O f xs d} hq hO bd w e:=by
  match f,e with
  |[a],e =>
   obtain⟨x,rfl,u⟩:=gJ w;rw[vu]at e;obtain⟨C,e1,rfl⟩:=e;obtain⟨t,ys,gd,e2,r,y,j⟩:=u.sqAny hq hO e1;refine⟨⟨iR ys,gd⟩,by simp only[e2],sJ 0 r,y,λz=>j ?_⟩;obtain⟨E,B,e3,a,_⟩:=z;cases e3;exact a
def mD(xs:UR)(lo a:UW):UR:=(xs.drop (HT.ki xs.length 0 lo)).take (HT.ki xs.length xs.length a-HT.ki xs.length 0 lo)
def wg(lo a:UW)(r:Rps q h O ds xs):Rps q h O (mD ds lo a) (fM xs lo a):=by unfold mD fM;rw[r.length];exact(r.drop _).take _
structure Xo(ws:UQ) where
 m:Mx (UW)
 p:aq->g_->PR (UW)
 ok:∀{q h L B O Z env s},Cx q h L B O ws Z env s->Ok q h (m Z h) (p env s) (λ_ a b=>a=b)
section
variable{ws:UQ}
def K4:Xo ws where
 m:=SM
 p:=λ_ s=>.ok Y s
 ok {q h L B O Z env s} c:=⟨Y,h,rfl,KB.refl _ _,c.pen,rfl⟩
def K5(e:Xe ws):Xo ws where
 m:=SO e.m
 p:=λenv s=>(e.p env s).bind λd s=>match d with
  |.int i=>.ok (J i) s
  |_=>.bad
 ok {q h L B O Z env s} c:=by
  refine(e.ok c).bind λx v a j l f ⟨w,_,_⟩=>?_
  cases x with
  |int i=>rw[w.int];exact⟨J i,a,rfl,KB.refl _ _,f,rfl⟩
  |_=>trivial
def K6(d:D)(lo f:UW):UC:=match d with
 |.lst a=>J (.lst (mD a lo f))
 |.tup a=>if HT.ki a.length 0 lo=0/\HT.ki a.length a.length f=a.length then Y else J (.tup (mD a lo f))
 |_=>Y
def Ng(bd:Bd h O)(w:Vw q h L O a x)(e:K6 a lo hi=J d):Gv q h O I (Is x lo hi h) d:=by
 cases a with
 |lst f =>
  cases e;obtain⟨n,xs,rfl,g,r⟩:=w.lst;simp only[Is,g];have r:=wg lo hi r;have m:Mv O h O (h++[MO.lst (fM xs lo hi)]):=⟨λn i _=>qr i,λo j=>.inl j⟩
  have u:Mv O h (h.length::O) (h++[MO.lst (fM xs lo hi)]):=⟨λn i _=>qr i,λo j=>by
   rcases k4.mp j with z|z
   .exact .inr (by ext)
   .exact .inl z⟩
  have g:(h++[MO.lst (fM xs lo hi)])[h.length]?=J (.lst (fM xs lo hi)):=by simp
  exact⟨_,_,rfl,⟨_,_,rfl,λz=>by have:=bd _ z;ext,g,r.mv m⟩,λ_ k l e=>by obtain⟨rfl,rfl⟩:=ip e;exact⟨_,_,rfl,il _,g,r.mv u⟩⟩
 |tup f =>
  unfold K6 at e;dsimp only at e;by_cases z:HT.ki f.length 0 lo=0/\HT.ki f.length f.length hi=f.length
  .rw[b_ z]at e;cases e
  .rw[f_ z]at e;cases e;obtain⟨xs,rfl,r⟩:=w.tup;simp only[Is];rw[r.length,f_ z];exact Js ⟨_,rfl,wg lo hi r⟩ λ_ k _ e=>by cases k<;>cases e
 |_=>cases e
def K7(a:Xe ws)(lo j:Xo ws):Xe ws where
 m:=SQ a.m lo.m j.m
 p:=λenv s=>(a.p env s).bind λx s=>(lo.p env s).bind λl s=>(j.p env s).bind λu s=>.of (K6 x l u) s
 fz:=I
 fr:=I
 ok {q h L B O Z env s} c:=by
  refine(a.ok c).bind λx v R W C P ⟨w,_,_⟩=>?_;have F:=c.kb C P;refine(lo.ok F).bind λl l' U s2 i M e=>?_;subst e;have E:=F.kb i M;refine(j.ok E).bind λu Q S X f z e=>?_;subst e;have G:=E.kb f z
  cases e:K6 x l u with
  |none=>trivial
  |some d =>
   obtain⟨y,g,e1,r,H⟩:=Ng G.bd ((w.kb i c.pO c.pL).kb f c.pO c.pL) e;exact Cz (mu (mu C.len i.len) f.len) z ⟨y,g,by rw[e1];rfl,r,H⟩
end
def p8:CL where
 m:=lz
 p:=λf i=>match i with
  |[a]=>if f.length<100000 then J (.non,f++[a])else Y
  |_=>Y
 ok {q h O n xs f i vs d ds'} g r ra e:=by
  match i,e with
  |[a],e =>
   obtain⟨x,t,rfl,a,b⟩:=ra
   have:t=[]:=b
   subst this;dsimp only at e;by_cases z:f.length<100000
   .rw[b_ z]at e;cases e;refine⟨.non,xs++[x],?_,r.app ⟨x,[],rfl,a,rfl⟩,rfl⟩;simp only[lz,g];rw[b_ (by have:=dS;rw[r.length];ext)]
   .rw[f_ z]at e;cases e
def i_:CL where
 m:=jB
 p:=λj u=>match u with
  |[a]=>a.items.bind λi=>if j.length+i.length<=100000 then J (.non,j++i)else Y
  |_=>Y
 ok {q h O n xs j u vs d ds'} g r ra e:=by
  match u,e with
  |[a],e =>
   obtain⟨x,t,rfl,w,b⟩:=ra
   have:t=[]:=b
   subst this;rw[C3]at e;obtain⟨i,e1,e2⟩:=e;by_cases z:j.length+i.length<=100000
   .rw[b_ z]at e2;cases e2;have B:=dS
    cases a with
    |lst l =>
     cases e1;obtain⟨m,ys,rfl,_,y,f⟩:=w;refine⟨.non,xs++ys,?_,r.app f,rfl⟩;simp only[jB,g,y];rw[b_ (by rw[r.length,f.length];ext)]
    |tup l =>
     cases e1;obtain⟨ys,rfl,f⟩:=w;refine⟨.non,xs++ys,?_,r.app f,rfl⟩;simp only[jB,g];rw[b_ (by rw[r.length,f.length];ext)]
    |_=>cases e1
   .rw[f_ z]at e2;cases e2
def xn:CL where
 m:=lM
 p:=λf j=>match j with
  |[.int i,a]=>if(0<=i/\i<=100000)/\f.length<100000 then J (.non,f.take (min i.toNat f.length)++a::f.drop (min i.toNat f.length))else Y
  |_=>Y
 ok {q h O n xs f j vs d ds'} g r ra e:=by
  match j,e with
  |[.int i,a],e =>
   obtain⟨x,t,rfl,l,y,u,rfl,w,b⟩:=ra
   have:u=[]:=b
   subst this;rw[show x=PV.int i from l];dsimp only at e;by_cases z:(0<=i/\i<=100000)/\f.length<100000
   .rw[b_ z]at e;cases e;refine⟨.non,lj xs i y,?_,?_,rfl⟩
    .simp only[lM,g];rw[b_ ⟨by ext,by have:=dS;rw[r.length];ext⟩]
    .unfold lj;rw[f_ (by ext),r.length];exact(r.take _).app ⟨y,_,rfl,w,r.drop _⟩
   .rw[f_ z]at e;cases e
end
section
variable{ws:UQ}{env:aq}{s:g_}
@[simp]theorem am{d:D}{r:aq}:(aa 0:Xe ws).p (J d::r) s=.ok d s:=rfl
@[simp]theorem au{i:Nat}{o:UC}{r:aq}:(aa (i+1):Xe ws).p (o::r) s=(aa i:Xe ws).p r s:=by simp[aa]
theorem E8(e:env[i]?=J (J d)):(aa i:Xe ws).p env s=.ok d s:=by show(match env[i]? with|some (J d)=>PR.ok d s|_=>.bad)=_;rw[e]
@[simp]theorem bC:(xC k:Xe ws).p env s=.ok k.d s:=rfl
@[simp]theorem zD:Cn.non.d=.non:=rfl
@[simp]theorem Th:(Cn.bl b).d=.bl b:=rfl
@[simp]theorem aX:(Cn.int b).d=.int b:=rfl
@[simp]theorem Rq:(Cn.str b).d=.str b:=rfl
@[simp]theorem aF:(ac o a b).p env s=(a.p env s).bind λx s1=>(b.p env s1).bind λy s2=>.of (o.p x y) s2:=rfl
@[simp]theorem wU:(CJ o a).p env s=(a.p env s).bind λx s1=>.of (o.p x) s1:=rfl
@[simp]theorem ar:(a_:Xs ws).p env s=.ok [] s:=rfl
@[simp]theorem ag:(ab a r).p env s=(a.p env s).bind λx s1=>(r.p env s1).bind λy s2=>.ok (x::y) s2:=rfl
@[simp]theorem cT:(mm o a).p env s=(a.p env s).bind λx s1=>.of (o.p x) s1:=rfl
@[simp]theorem aE:(ai f a h).p env s=(a.p env s).bind f.p:=rfl
@[simp]theorem c7:(bM a h).p env s=(a.p env s).bind λx s1=>if x.length<=100000 then .ok (.lst x) s1 else .bad:=rfl
@[simp]theorem cG:(aJ a h).p env s=(a.p env s).bind λx s1=>if x.length<=100000 then .ok (.tup x) s1 else .bad:=rfl
@[simp]theorem Jx:(EY:Xe ws).p env s=.ok (.dic [] []) s:=rfl
@[simp]theorem eT:(xB a).p env s=(a.p env s).bl:=rfl
@[simp]theorem Rr:(EZ a).p env s=(a.p env s).bind λb s=>.ok (!b) s:=rfl
@[simp]theorem yP:(eV a b).p env s=(a.p env s).bind λx s=>if x=I then b.p env s else .ok T s:=rfl
@[simp]theorem Gs:(E0 a b).p env s=(a.p env s).bind λx s=>if x=I then .ok I s else b.p env s:=rfl
@[simp]theorem Pp:(jj:Xt ws).p env s=.ok I s:=rfl
@[simp]theorem Pq:(nR a b).p env s=(a.p env s).bl.bind λx s=>if x=I then(b.p env s).bl.bind λy s=>.ok (.bl y) s else .ok (.bl T) s:=rfl
@[simp]theorem Pr:(rY a).p env s=(a.p env s).bl.bind λx s=>.ok (.bl (!x)) s:=rfl
@[simp]theorem Nh:(oC f g a b e).p env s=(a.p env s).bind λx s1=>(b.p env s1).bind λy s2=>match f.p x y with
  |some (.bl t)=>if t=I then(e.p env s2).bind λz s3=>.of (g.p y z) s3 else .ok (.bl T) s2
  |_=>.bad:=rfl
@[simp]theorem fH:(bG o a).p env s=(a.p env s).bind λx s1=>.of (o.p x) s1:=rfl
@[simp]theorem fJ:(aI a).p env s=(a.p env s).bind λx s1=>.of x.items s1:=rfl
@[simp]theorem Ti{i:Nat}{h:ws.contains i=T}{d:D}:(i0 i h).p d env=J (env.set i (J d)):=rfl
@[simp]theorem Tj:(Bu:Gp ws).p [] env=J env:=rfl
@[simp]theorem Tk:(pq a t).p (d::ds) env=(a.p d env).bind λenv1=>t.p ds env1:=rfl
@[simp]theorem Tl:(By t n).p (.tup ds) env=if ds.length=n then t.p ds env else Y:=rfl
@[simp]theorem lN{nv:Nat}{fm:UQ}{i:Xi ws}{ws':UQ}{g:Xg ws'}{t:Xt ws'}{e:Xe ws'}{hw:CK nv fm ws=ws'}{hz:e.fz=I}:(aG nv fm i g t e hw hz).p env s=(i.p env s).bind λds s1=>if ds.length<=100000 then (match dq g.p t.p e.p ds (q_ nv fm env) s1 with
  |.ok r s2=>.ok (.lst r) s2
  |_=>.bad)else .bad:=rfl
@[simp]theorem Tn:(K4:Xo ws).p env s=.ok Y s:=rfl
@[simp]theorem To:(K5 e).p env s=(e.p env s).bind λd s=>match d with
  |.int i=>.ok (J i) s
  |_=>.bad:=rfl
@[simp]theorem Tp:(K7 a lo hi).p env s=(a.p env s).bind λx s=>(lo.p env s).bind λl s=>(hi.p env s).bind λu s=>.of (K6 x l u) s:=rfl
@[simp]theorem az:(aC a b).p env s=(a.p env s).then b.p:=rfl
@[simp]theorem jf:(iw:Xd ws).p env s=.nx env s:=rfl
@[simp]theorem cz:(bv e).p env s=(e.p env s).go env λd _ s=>.rt d s:=rfl
theorem vJ{i:Nat}{h:ws.contains i=I}{d:D}(e:env[i]?=J (J d)):(nF i h).p env s=.rt d s:=by show(match env[i]? with|some (J d)=>PS.rt d s|_=>.bad)=_;rw[e]
@[simp]theorem Ps:(fx e).p env s=(e.p env s).go env λ_=>.nx:=rfl
@[simp]theorem dn:(p0 t a b).p env s=(t.p env s).go env λx env s=>if x=I then a.p env s else b.p env s:=rfl
@[simp]theorem bw:(bc i e hi hz).p env s=(e.p env s).go env λd env s=>.nx (env.set i (J d)) s:=rfl
@[simp]theorem hX:(eK i e hi hz).p env s=(e.p env s).go env λd env s=>match d with
  |.lst ds=>.nx (env.set i (J (.lst ds))) s | .dic ks ds=>.nx (env.set i (J (.dic ks ds))) s
  |_=>.bad:=rfl
@[simp]theorem dy:(cu i g b hz).p env s=(i.p env s).go env λds env s=>B7 g.p b.p ds env s:=rfl
@[simp]theorem Ni:(v_ o i a hi hz).p env s=Cf o i a.p env s λ_=>.nx:=rfl
theorem bB{hw}(a:ds.length=np):(b7 n np b hw).p ds s=(b.p (li n ds) s).fin:=by show(if ds.length=np then _ else _)=_;rw[b_ a]
variable{i j:Int}{b:Bool}{x y:UR}
@[simp]theorem ic:bo.p (.int i) (.int j)=J (.int (i+j)):=rfl
theorem fg(h:x.length+y.length<=100000):bo.p (.lst x) (.lst y)=J (.lst (x++y)):=by show(if x.length+y.length<=100000 then _ else _)=_;rw[b_ h]
@[simp]theorem fV:bH.p (.int i) (.int j)=J (.int (i-j)):=rfl
@[simp]theorem nI:w5.p (.int i) (.int j)=J (.bl (decide (i<j))):=rfl
@[simp]theorem Rs:Rm.p (.int i) (.int j)=J (.bl (decide (i<=j))):=rfl
@[simp]theorem Jy:Cr.p (.int i) (.int j)=J (.bl (decide (j<i))):=rfl
@[simp]theorem j5:i3.p (.lst x) (.int j)=mh x j:=rfl
@[simp]theorem xy:i3.p (.tup x) (.int j)=mh x j:=rfl
theorem E9(h:j≠0):E2.p (.int i) (.int j)=J (.int (i.fmod j)):=by show(if j≠0 then _ else _)=_;rw[b_ h]
@[simp]theorem Rt:(E3 Ts).p d=(Dc d).map λt=>.bl (Ts.any (gP t)):=rfl
@[simp]theorem Ru:Dc .non=J "NoneType":=rfl
@[simp]theorem Tq:Dc (.bl b)=J "bool":=rfl
@[simp]theorem Rv:Dc (.int i)=J "int":=rfl
@[simp]theorem Rw:Dc (.str z)=J "str":=rfl
@[simp]theorem Rx:Dc (.tup x)=J "tuple":=rfl
@[simp]theorem Ry:Dc (.lst x)=J "list":=rfl
@[simp]theorem Rz:Dc (.dic ks ds)=J "dict":=rfl
@[simp]theorem E_:k8.p [.int i,.int j]=J (.int (if j<i then j else i)):=rfl
@[simp]theorem Fa:kT.p [.int i,.int j]=J (.int (if j>i then j else i)):=rfl
@[simp]theorem zK:jI.p [.lst x]=J (.int x.length):=rfl
@[simp]theorem RB:jI.p [.tup x]=J (.int x.length):=rfl
theorem Fb(h:x.length<=100000):lL.p [.lst x]=J (.lst x):=by show(if x.length<=100000 then _ else _)=_;rw[b_ h]
def Fc(h:x.length<=100000):lL.p [.tup x]=J (.lst x):=by show(if x.length<=100000 then _ else _)=_;rw[b_ h]
@[simp]theorem mF:iB.p [.lst x]=J (.tup x):=rfl
@[simp]theorem Nj:iB.p [.tup x]=J (.tup x):=rfl
theorem Nk(h:-100000<=i/\i<=100000):Ro.p [.int i]=J (.lst (cm 0 i.toNat)):=by show(if _ then _ else _)=_;rw[b_ h]
def iS(h:-100000<=i/\i<=100000):w8.p [.int i]=J (cm 0 i.toNat):=by show(if _ then _ else _)=_;rw[b_ h]
@[simp]theorem RC:iE.p [.lst x]=J (fD x):=rfl
@[simp]theorem Tr:K6 (.lst x) lo hi=J (.lst (mD x lo hi)):=rfl
theorem qO(h:x.length<100000):p8.p x [a]=J (.non,x++[a]):=by show(if _ then _ else _)=_;rw[b_ h]
def gA(h:x.length+y.length<=100000):i_.p x [.lst y]=J (.non,x++y):=by show(if _ then _ else _)=_;rw[b_ h]
def zg{a:D}{i:Nat}(h:i<=x.length)(f:x.length<100000):xn.p x [.int i,a]=J (.non,x.take i++a::x.drop i):=by show(if _ then _ else _)=_;rw[b_ ⟨by ext,f⟩,AO,KD h]
end
section
variable{i j:Int}{b c:Bool}
def qV(a:x.canLay0=I)(f:x.depth<=64):SeqAt.shaped x=I:=by simp[SeqAt.shaped,a,f]
@[simp]theorem jy:CM neg (.int i) (.int j)=J (.bl (if neg then !decide (i=j)else decide (i=j))):=rfl
@[simp]theorem Jz:CM neg (.bl b) (.bl c)=J (.bl (if neg then !(b==c)else b==c)):=rfl
@[simp]theorem rS:y_.p a d=CM T a d:=rfl
@[simp]theorem nZ:Az.p a d=CM I a d:=rfl
@[simp]theorem Gu:(wh neg).p a d=Ju neg a d:=rfl
theorem fO:∀(k:UN),Cs (k.map .int)=J (k.map .int)/\sf (k.map .int)=0
 |[]=>⟨rfl,rfl⟩
 |i::k=>by
  obtain⟨a,b⟩:=fO k;simp[Cs,py,a,sf,x_,b]
def t9:∀(f:UP),Cs (f.map kD)=J (f.map λk=>.tuple (k.map .int))/\sf (f.map kD)<=1
 |[]=>⟨rfl,by simp[sf]⟩
 |k::f=>by
  obtain⟨a,b⟩:=t9 f;obtain⟨c,d⟩:=fO k;constructor
  .simp[Cs,kD,py,a,c]
  .simp only[n9,sf,kD,x_,d];lia
def qz:∀(xs:UN),(xs.map PyData.int).any (λe=>PyData.eqv e (.int x))=decide (x∈xs)
 |[]=>by simp
 |y::ys=>by
  rw[n9,OE,qz ys]
  have:PyData.eqv (.int y) (.int x)=decide (x=y):=by simp[PyData.eqv,Bool.beq_eq_decide_eq,eq_comm]
  grind
def jd:∀(k f:UN),PyData.eqvAll (k.map .int) (f.map .int)=decide (k=f)
 |[],[]=>by simp[PyData.eqvAll]
 |[],_::_=>by simp[PyData.eqvAll]
 |_::_,[]=>by simp[PyData.eqvAll]
 |a::k,b::f=>by
  simp only[n9,PyData.eqvAll,PyData.eqv,jd k f];by_cases z:a=b<;>simp[z]
def re:∀(a:UP),(a.map λk=>PyData.tuple (k.map .int)).any (λe=>PyData.eqv e (.tuple (k.map .int)))=decide (k∈a)
 |[]=>by simp
 |y::ys=>by
  rw[n9,OE,re ys]
  have:PyData.eqv (.tuple (y.map .int)) (.tuple (k.map .int))=decide (y=k):=by simp only[PyData.eqv,jd]
  grind
def iO{neg:Bool}{x:Int}{d:D}{xs:UN}(e:d.items=J (xs.map .int)):Ju neg (.int x) d=J (.bl (if neg then !decide (x∈xs)else decide (x∈xs))):=by obtain⟨a,b⟩:=fO xs;simp only[Ju,e,py,a];rw[b_ ⟨⟨by simp[x_],⋯⟩,rfl,(fN xs).1⟩,qz]
def wz{r:Bool}{k:UN}{d:D}{l:UP}(e:d.items=J (l.map kD)):Ju r (kD k) d=J (.bl (if r then !decide (k∈l)else decide (k∈l))):=by
 obtain⟨a,b⟩:=t9 l;obtain⟨c,f⟩:=fO k;have y:py (kD k)=J (.tuple (k.map .int)):=by simp[kD,py,c]
 have u:(x_ (kD k)<=60/\sf (l.map kD)<=60)/\(PyData.tuple (k.map .int)).canLay0=I/\PyData.canLayAll0 (l.map λk=>.tuple (k.map .int))=I:=⟨⟨by simp[kD,x_,f],⋯⟩,by simpa [PyData.canLay0]using(fN k).1,(sh l).1⟩;unfold Ju;rw[e];dsimp only;rw[y,a];dsimp only;rw[b_ u,re]
def ux{neg:Bool}{xs ys:UN}:CM neg (.lst (xs.map .int)) (.lst (ys.map .int))=J (.bl (if neg then !decide (xs=ys)else decide (xs=ys))):=by obtain⟨a,b⟩:=fO xs;obtain⟨c,d⟩:=fO ys;obtain⟨f,l⟩:=fN xs;obtain⟨l3,l4⟩:=fN ys;simp only[CM,py,a,c,GZ];rw[b_ ⟨⟨by simp[x_,b],by simp[x_,d]⟩,qV (by simpa [PyData.canLay0]using f) (by simp only[PyData.depth];lia),qV (by simpa [PyData.canLay0]using l3) (by simp only[PyData.depth];lia)⟩];simp only[PyData.eqv,jd]
end
@[simp]theorem Pt:B7 g b [] env s=.nx env s:=rfl
theorem jT(e:g d env=J env1):B7 g b (d::ds) env s=(b env1 s).turn (B7 g b ds):=by rw[B7,e]
def cZ(i:Nat->aq->g_->Prop):∀(l:UR)(j:Nat)(env:aq)(s:g_),i j env s ->
  (∀m env s d,i (j+m) env s->l[m]?=J d->∃f a r,g d env=J f/\b f s=.nx a r/\i (j+m+1) a r)->∃a r,B7 g b l env s=.nx a r/\i (j+l.length) a r
 |[],j,env,s,B,_=>⟨env,s,rfl,B⟩
 |d::l,j,env,s,B,st=>by
  obtain⟨f,u,G,e1,e2,E⟩:=st 0 env s d B rfl;obtain⟨y,C,e3,F⟩:=cZ i l (j+1) u G E λm a r x q z=>by
   have:=st (m+1) a r x (by rw[show j+(m+1)=j+1+m by lia];exact q) (by simpa using z)
   rw[show j+(m+1)+1=j+1+m+1 by lia]at this;exact this
  refine⟨y,C,?_,by rw[AQ,show j+(l.length+1)=j+1+l.length by lia];exact F⟩;rw[jT e1,e2];exact e3
def jP(p:D->Bool)(f:D->D):∀(l:UR)(j:aq),j.length=nv ->
  (∀x∈l,∀j:aq,j.length=nv->∃a:aq,a.length=nv/\g x (j++fr)=J (a++fr)/\t (a++fr) s=.ok (p x) s/\(p x=I->e (a++fr) s=.ok (f x) s))->dq g t e l (j++fr) s=.ok ((l.filter p).map f) s
 |[],j,hv,i=>rfl
 |x::l,j,hv,i=>by
  obtain⟨a,r,e1,e2,e3⟩:=i x (by simp) j hv;have z:=jP p f l a r λy B=>i y (lb _ B);rw[dq,e1];dsimp only;rw[e2]
  cases u:p x with
  |true=>simp only[Pb,if_true,e3 u,z,List.filter_cons_of_pos u,n9]
  |false=>simp only[Pb,o0,if_false,z,List.filter_cons_of_neg (show ¬p x=I by simp[u])]
def nK{y a:UQ}{env:aq}{s:g_}{u:Nat}{fm:UQ}{i:Xi y}{g:Xg a}{t:Xt a}{e:Xe a}{E:CK u fm y=a}{C:e.fz=I}{r:UR}(p:D->Bool)(f:D->D)(B:i.p env s=.ok r s)(F:r.length<=100000)(l:∀x∈r,∀z:aq,z.length=u->∃j:aq,j.length=u/\g.p x (z++fm.map λi=>(env[i]?).getD Y)=J (j++fm.map λi=>(env[i]?).getD Y)/\t.p (j++fm.map λi=>(env[i]?).getD Y) s=.ok (p x) s/\(p x=I->e.p (j++fm.map λi=>(env[i]?).getD Y) s=.ok (f x) s)):
  (aG u fm i g t e E C).p env s=.ok (.lst ((r.filter p).map f)) s:=by
 rw[lN,B,Pb,b_ F];unfold q_;rw[jP p f r _ (by simp) l]
def fy{ws ws':UQ}{env:aq}{s:g_}{fm:UQ}{i:Xi ws}{t:Xt ws'}{e:Xe ws'}{ds:UR}(p:D->Bool)(f:D->D)(l:i.p env s=.ok ds s)(B:ds.length<=100000)(a:∀x∈ds,t.p (J x::fm.map λi=>(env[i]?).getD Y) s=.ok (p x) s/\(p x=I->e.p (J x::fm.map λi=>(env[i]?).getD Y) s=.ok (f x) s))(r:ws'.contains 0=T:=by exact ys rfl)(z:CK 1 fm ws=ws':=by exact ys rfl)(u:e.fz=I:=by exact ys rfl):
  (aG 1 fm i (i0 0 r) t e z u).p env s=.ok (.lst ((ds.filter p).map f)) s :=
 nK p f l B λx y j hv=>match j,hv with
  |[_],_=>⟨[J x],rfl,rfl,a x y⟩
def lI{ws ws':UQ}{env:aq}{s:g_}{fm:UQ}{i:Xi ws}{t:Xt ws'}{e:Xe ws'}{ds:UR}(p:D->Bool)(f:D->D)(u:i.p env s=.ok ds s)(B:ds.length<=100000)(j:∀x∈ds,∃a b,x=.tup [a,b]/\t.p (J a::J b::fm.map λi=>(env[i]?).getD Y) s=.ok (p x) s/\(p x=I->e.p (J a::J b::fm.map λi=>(env[i]?).getD Y) s=.ok (f x) s))(y:ws'.contains 0=T:=by exact ys rfl)(r:ws'.contains 1=T:=by exact ys rfl)(hw:CK 2 fm ws=ws':=by exact ys rfl)(hz:e.fz=I:=by exact ys rfl):
  (aG 2 fm i (By (pq (i0 0 y) (pq (i0 1 r) Bu)) 2) t e hw hz).p env s=.ok (.lst ((ds.filter p).map f)) s :=
 nK p f u B λx z l hv=>match l,hv with
  |[_,_],_=>let⟨a,b,e,q⟩:=j x z;⟨[J a,J b],rfl,by subst e;rfl,q⟩
def fc{α:Type}(l:List α):(l.filter λ_=>I)=l:=List.filter_eq_self.mpr (by simp)
def IsT(n:Int)(k:UN):Prop:=∃a b:Int,k=[a,b]/\0<=a/\a<n/\0<=b/\b<n/\a≠b
def n8:UN->UN
 |[a,b]=>[if b<a then b else a,if b>a then b else a]
 |k=>k
structure ia(n:Int)(ks:UP):Prop where
 n0:0<=n
 n12:n<=12
 tie:∀k∈ks,∃a b:Int,k=[a,b]/\0<=a/\a<b/\b<n
 ris:SortT.EI ks
 nd:ks.Nodup
def JA:UP:=(List.range 12).flatMap λb=>(List.range b).map λ(a:Nat)=>[(a:Int),(b:Int)]
def A9:JA.length=66:=by decide
def Bs(j:n<=12)(i:0<=a)(l:a<b)(f:b<n):[a,b]∈JA:=by
 unfold JA;rw[GY];refine⟨b.toNat,by simp;lia,?_⟩;rw[nw];refine⟨a.toNat,by simp;lia,?_⟩;congr 1
 .lia
 .lia
def gn{n:Int}{i:UP}(y:n<=12)(j:∀k∈i,∃a b:Int,k=[a,b]/\0<=a/\a<b/\b<n)(nd:i.Nodup):i.length<=66:=by rw[<-A9];refine List.Nodup.length_le_of_subset nd λk f=>?_;obtain⟨a,b,rfl,r,u,l⟩:=j k f;exact Bs y r u l
def yU(h:a<b):n8 [a,b]=[a,b]:=by simp[n8,show ¬b<a by lia,show b>a from h]
def JB(h:b<a):n8 [a,b]=[b,a]:=by simp[n8,h,show ¬b>a by lia]
def below(v:Int)(f:UP):UN:=f.filterMap λk=>match k with|[a,b]=>if b=v then J a else Y|_=>Y
def above(v:Int)(f:UP):UN:=f.filterMap λk=>match k with|[a,b]=>if a=v then J b else Y|_=>Y
def c_(n:Nat):UN:=(List.range n).map λ(i:Nat)=>(i:Int)
def aT:i∈c_ n↔0<=i/\i<n:=by
 unfold c_;rw[nw];constructor
 .rintro⟨k,f,rfl⟩;rw[Ck]at f;lia
 .intro ⟨a,b⟩;exact⟨i.toNat,by rw[Ck];lia,⋯⟩
def cE(n:Nat):(c_ n).Nodup:=by exact List.Pairwise.map _ (λa b h=>by lia) OB
def eG(h:0<=i):∃n:Nat,i=(n:Int):=⟨i.toNat,⋯⟩
def Nl(h:SortT.bV [c,d] [a,b]=T):a<c\/(a=c/\b<=d):=by
 simp only[SortT.bV]at h;by_cases z:c=a
 .rw[b_ z]at h
  grind
 .rw[f_ z]at h;simp at h;lia
def Fd(w:ia n f):(below v f++above v f).Pairwise (·<=·):=by
 have tie:=w.tie;have ris:=w.ris;clear w;rw[PQ];have C:∀(f:UP)(x:Int),x∈below v f->(∀k∈f,∃a b:Int,k=[a,b]/\0<=a/\a<b/\b<n)->[x,v]∈f/\x<v:=λf x u tie=>by
  obtain⟨k,r,e⟩:=C6.mp u;obtain⟨a,b,rfl,_,lt,_⟩:=tie k r;by_cases z:b=v
  .simp[z]at e;subst e;subst z;exact⟨r,lt⟩
  .simp[z]at e
 have E:∀(f:UP)(x:Int),x∈above v f->(∀k∈f,∃a b:Int,k=[a,b]/\0<=a/\a<b/\b<n)->[v,x]∈f/\v<x:=λf x u tie=>by
  obtain⟨k,r,e⟩:=C6.mp u;obtain⟨a,b,rfl,_,lt,_⟩:=tie k r;by_cases z:a=v
  .simp[z]at e;subst e;subst z;exact⟨r,lt⟩
  .simp[z]at e
 refine⟨?_,?_,λx u y F=>?_⟩
 .induction f with
  |nil=>exact .nil
  |cons k f B =>
   obtain⟨a,b,rfl,_⟩:=tie k (by simp);have l:=λk r=>tie k (lb _ r);have j:=(GU.mp ris);have i:=B l j.2;have e1:below v ([a,b]::f)=(if b=v then [a]else [])++below v f:=by unfold below;by_cases z:b=v<;>simp[z]
   rw[e1];by_cases z:b=v
   .rw[b_ z];refine GU.mpr ⟨λx u=>?_,i⟩
    have:=Nl (j.1 _ (C f x u l).1)
    lia
   .rw[f_ z];exact i
 .induction f with
  |nil=>exact .nil
  |cons k f B =>
   obtain⟨a,b,rfl,_⟩:=tie k (by simp);have l:=λk r=>tie k (lb _ r);have j:=(GU.mp ris);have i:=B l j.2;have e1:above v ([a,b]::f)=(if a=v then [b]else [])++above v f:=by unfold above;by_cases z:a=v<;>simp[z]
   rw[e1];by_cases z:a=v
   .rw[b_ z];refine GU.mpr ⟨λx u=>?_,i⟩
    have:=Nl (j.1 _ (E f x u l).1)
    lia
   .rw[f_ z];exact i
 .have:=(C f x u tie).2
  have:=(E f y F tie).2
  lia
def kB(w:ia n C):(below v C++above v C).Nodup/\∀x∈below v C++above v C,0<=x/\x<n:=by
 have F:∀x,x∈below v C->0<=x/\x<v/\x<n:=λx f=>by
  obtain⟨k,j,e⟩:=C6.mp f;obtain⟨a,b,rfl,_,lt,_⟩:=w.tie k j;by_cases z:b=v
  .simp[z]at e;subst e;lia
  .simp[z]at e
 have G:∀x,x∈above v C->0<=x/\v<x/\x<n:=λx f=>by
  obtain⟨k,j,e⟩:=C6.mp f;obtain⟨a,b,rfl,_,lt,_⟩:=w.tie k j;by_cases z:a=v
  .simp[z]at e;subst e;lia
  .simp[z]at e
 refine⟨?_,λx f=>?_⟩
 .rw[Cj];refine⟨?_,?_,λx f y i=>?_⟩
  .unfold below List.Nodup;rw[PM];refine List.Pairwise.imp_of_mem (λ{k E} j r u x f y i=>?_) w.nd;obtain⟨a,b,rfl,_⟩:=w.tie k j;obtain⟨c,d,rfl,_⟩:=w.tie E r;by_cases l:b=v
   .by_cases B:d=v
    .simp[l]at f;simp[B]at i;subst f i;rintro rfl;exact u (by rw[l,B])
    .simp[B]at i
   .simp[l]at f
  .unfold above List.Nodup;rw[PM];refine List.Pairwise.imp_of_mem (λ{k E} j r u x f y i=>?_) w.nd;obtain⟨a,b,rfl,_⟩:=w.tie k j;obtain⟨c,d,rfl,_⟩:=w.tie E r;by_cases l:a=v
   .by_cases B:c=v
    .simp[l]at f;simp[B]at i;subst f i;rintro rfl;exact u (by rw[l,B])
    .simp[B]at i
   .simp[l]at f
  .have:=F x f
   have:=G y i
   lia
 .rcases lT.mp f with q|q
  .have:=F x q;lia
  .have:=G x q;lia
def aO(ns:UN)(j:Nat):UP:=(List.range j).flatMap λi=>(ns.drop (i+1)).map λb=>[ns.getD i 0,b]
def tN:aO ns (j+1)=aO ns j++(ns.drop (j+1)).map λb=>[ns.getD j 0,b]:=by simp[aO,List.range_succ]
def fI(a:ns.length<=12):∀(j:Nat),(aO ns j).length<=12*j
 |0=>by simp[aO]
 |j+1=>by
  have:=fI a j
  rw[tN,z_,q7,Cu];lia
def fk(B:ns.Pairwise (·<·))(y:∀x∈ns,0<=x/\x<n):∀k∈aO ns ns.length,∃a b:Int,k=[a,b]/\0<=a/\a<b/\b<n:=λk r=>by
 obtain⟨i,l,r⟩:=GY.mp r;rw[Ck]at l;obtain⟨b,f,rfl⟩:=nw.mp r;obtain⟨j,z,u⟩:=GQ f;rw[Cu]at z;rw[OA]at u;have e1:ns.getD i 0=ns[i]:=by simp[l]
 rw[e1];have lt:=FP.mp B i (i+1+j) l ⋯ ⋯;rw[u]at lt;exact⟨_,_,rfl,(y _ (OC l)).1,lt,(y _ (Ov f)).2⟩
noncomputable section
def oT:D->Option Bool
 |.non=>J T
 |.bl b=>J b
 |.int i=>J (i != 0)
 |.tup xs=>J (!xs.isEmpty)
 |.lst xs=>J (!xs.isEmpty)
 |_=>Y
def Rps.empty(r:Rps p h O a vs):vs.isEmpty=a.isEmpty:=by
 cases a with
 |nil=>rw[show vs=[]from r];rfl
 |cons d a=>obtain⟨x,t,e,_⟩:=r;rw[e];rfl
def ss(w:Vw q h L O d v)(e:oT d=J b):mz h v=J b:=by
 cases d with
 |non=>cases e;rw[w.non];rfl
 |bl c=>cases e;rw[w.bl];rfl
 |int c=>cases e;rw[w.int];rfl
 |tup c=>cases e;obtain⟨xs,rfl,r⟩:=w.tup;rw[mz,r.empty]
 |lst c=>cases e;obtain⟨n,xs,rfl,g,r⟩:=w.lst;simp only[mz,g];rw[r.empty]
 |_=>cases e
section
variable{ws:UQ}
def Nm(a:Xe ws):Xt ws where
 m:=S7 a.m
 p:=λenv s=>(a.p env s).bind λd s=>.of (oT d) s
 ok {q h L B O Z env s} c:=by
  refine(a.ok c).bind λx v f j l i ⟨w,_,_⟩=>?_
  cases e:oT x with
  |none=>trivial
  |some b=>rw[ss w e];exact⟨b,f,rfl,KB.refl _ _,i,rfl⟩
structure OpR where
 m:Nat->UL->MH->UZ
 p:UR->UR->UC
 ok:∀{q:Nat}{h:MH}{L:Nat}{O:UQ}{n:Nat}{xs:UL}{ds as:UR}{vs:UL}{d:D},h[n]?=J (.lst xs)->Rps q h O ds xs->Jn q h L O as vs->p ds as=J d->∃v,m n vs h=.ok v h/\Rp q h O d v/\∀k es,d≠dl k es
end
section
variable{ws:UQ}{env:aq}{s:g_}
@[simp]theorem Tt:(Nm a).p env s=(a.p env s).bind λd s=>.of (oT d) s:=rfl
end
end
noncomputable section
section
variable{ws:UQ}{env:aq}{s:g_}
end
end
noncomputable section
section
variable{ws:UQ}
end
end
noncomputable section
variable{ws:UQ}
end
end PU
namespace MM
open PySem.Spec PyProof.Rows L2
def JC:lg:=λ_ _=>.bad
def zi{X:Cx}{st:Stmt}:MS X st JC:=λl s Z H D f ⟨U,a,h,i,j,q⟩=>q.elim
end MM
namespace PU
open MM
def JD{ws:UQ}:Xd ws where
 m:=JC
 p:=λ_ _=>.bad
 fr:=I
 ok _ _:=trivial
end PU
namespace MM
open PySem.Spec PyProof.Rows L2
abbrev Pu(scope sc:Scope)(vars frees:UM):Prop:=(∀y∈scope.names,y.2=.cell->scope.names.lookup y.1=J .cell)/\(∀y∈scope.names,y.2=.local->scope.names.lookup y.1=J .local)/\(∀x∈vars,scope.names.lookup x=J .local\/scope.names.lookup x=J .cell)/\(∀x∈frees,scope.names.lookup x=J .free)/\(∀y∈scope.names,y.2=.free->y.1∈frees)/\(∀x∈frees,sc.names.lookup x=J .cell)
def No(a f:Scope):Scope:={ a with names:=a.names.map λ(n,k)=>if(k == .free&&f.kind == .function&&f.names.lookup n==J .cell)then(n,.cell)else(n,k)}
def ym{a f:Scope}{env:Env}(h:env.scope=f):relabel a env=No a f:=by subst h;rfl
def lF{X:Cx}{N:UM}{a j:Scope}{f frees:UM}{fm:UQ}(Ap:X.env.scope=j)(r:a.kind=.function)(l:fm.map (λi=>N[i]?)=frees.map J)(h:Pu a j f frees):xP X N a f frees fm :=
 Iq Ap r h.1 h.2.1 h.2.2.1 h.2.2.2.1 h.2.2.2.2.1 l h.2.2.2.2.2
def Pw{Q:UT->Prop}(h:∀f,Q [f]):∀a,a.length=1->Q a
 |[_],_=>h _
def RD{Q:UT->Prop}(h:∀f i,Q [f,i]):∀a,a.length=2->Q a
 |[_,_],_=>h _ _
def RE{Q:UT->Prop}(h:∀f i j,Q [f,i,j]):∀a,a.length=3->Q a
 |[_,_,_],_=>h _ _ _
def RF{Q:UT->Prop}(h:∀f j l i,Q [f,j,l,i]):∀a,a.length=4->Q a
 |[_,_,_,_],_=>h _ _ _ _
abbrev Zn(K:ib)(x:Str):Prop:=PySem.W.nsIn K mainGlobals x=J Y
abbrev Nn(X:Cx)(x:Str):Prop:=X.mg x=Y
abbrev Sc(X:Cx)(s:Stmt):Prop:=X.env.scope=aj s
abbrev Gd(X:Cx)(N G:UM)(k:Nat):Prop:=Good X N N G k
structure Ba(P:Program)(w:World)(K:ib)(mg:UB)(base:Heap):Prop where
 kin:K.In base
 ns:base.Ns mainGlobals mg
structure EE(X:Cx)(P:Program)(w:World)(K:ib)(mg:UB)(base:Heap):Prop where
 e1:X.prog=P
 e2:X.w=w
 e3:X.K=K
 e4:X.mg=mg
 e5:X.base=base
 b:Ba P w K mg base
section
variable{P:Program}{w:World}{K:ib}{mg:UB}{base:Heap}{X:Cx}
def EE.n(e:EE X P w K mg base){x:Str}(z:Zn K x):Nn X x:=by show X.mg x=Y;rw[e.e4];exact PySem.W.mg_none_of e.b.kin e.b.ns z
def FnAt.c{x:Str}{f:UM}{F:UL->MH->UZ}{i j:Nat}(a:FnAt P w K mg base x f F i)(e:EE X P w K mg base)(h:i<=j:=by decide):Cal X x f F j :=
 (a.mono h).cal e.e1 e.e2 e.e3 e.e4 e.e5
def JE{x:Str}{st:Stmt}{N G ps:UM}{m:lg}{k:Nat}(b:Ba P w K mg base)(D:e_ K x st)(j:∀X:Cx,EE X P w K mg base->Sc X st->Gd X N G k->i4 X->Bq X (aD st) m)(B:hJ x st ps:=by first | exact λ_ _ _ _ _ _=>Pw λ_=>rfl | exact λ_ _ _ _ _ _=>RD λ_ _=>rfl | exact λ_ _ _ _ _ _=>RE λ_ _ _=>rfl | exact λ_ _ _ _ _ _=>RF λ_ _ _ _=>rfl | exact λ_ _ _ _ _ _=>ar5 λ_ _ _ _ _=>rfl)(S:n_ N ps (aj st):=by exact⟨rfl,rfl,rfl,by decide +kernel,rfl,by decide +kernel,by decide +kernel⟩)(l:∀y∈N,(aj st).names.lookup y=J .local\/(aj st).names.lookup y=J .cell:=by decide +kernel)(a:∀y∈G,(aj st).names.lookup y=J .globalImplicit:=by decide +kernel)(dbg:∀x∈N++G,(x==("__debug__":Str))=T/\(x==("__classdict__":Str))=T/\x≠"__name__":=by decide +kernel):
  FnAt P w K mg base x ps (cc N.length ps.length m) (k+1) :=
 sP b.kin b.ns D S B l a dbg λX e1 e2 e3 e4 e5 f g i=>j X ⟨e1,e2,e3,e4,e5,b⟩ f g i
end
structure YE(Y X:Cx):Prop where
 e1:Y.prog=X.prog
 e2:Y.w=X.w
 e3:Y.K=X.K
 e4:Y.mg=X.mg
 e5:Y.base=X.base
section
variable{X Y:Cx}{N W G:UM}{k:Nat}{x:Str}{p pos:Pos}{e:Expr}{es:UX}{m:Mx (UL)}{f:UL->MH->UZ}
def YE.c(y:YE Y X){a:UM}{F:UL->MH->UZ}{i:Nat}(c:Cal X x a F i):Cal Y x a F i:=c.at y.e1 y.e2 y.e3 y.e4 y.e5
def kV(g:Good X N W G k)(i:Nat)(a:N[i]?=J x:=by rfl):ME X (.Name x pos) (ae i):=yk g i a
def Px(g:Good X N W G k)(i:Nat)(j:N[i]?=J x:=by rfl)(a:W[i]?=J x:=by rfl):MG X (.Name x pos) (Cm i):=wm g i j a
def rb{a b:Expr}{i j:Mx PV}(u:ME X a i)(r:ME X b j)(l:ly b:=by exact λ_ _=>rfl):ME X (.Subscript a b pos) (ah aU i j):=F_ u r l
def CA{i:CmpOp}{f:PV->PV->MH->UZ}{a b:Expr}{j l:Mx PV}(r:xk X (compareOp i) f)(z:ME X a j)(u:ME X b l)(y:behindInMarks i b=T:=by first | exact CP _ | rfl):MT X (.Compare a [i] [b] pos) (mB (ah f j l)):=yI r z u y
def B8(g:Good X N W G k)(j:Nat){i:UM}{F:UL->MH->UZ}(C:Cal X x i F k)(u:MA X (e::es) m)(r:G[j]?=J x:=by rfl)(l:starEach (e::es) X.env=(T,eval e X.env)::starEach es X.env:=by rfl)(a:(backTo pos (starEach es X.env)).any (·.1)=T:=by rfl):ME X (.Call (.Name x p) (e::es) [] pos) (bA F m):=vO g r C u l a
def Dd{id:String}(g:Good X N W G k)(j:Nat)(y:cU X (.builtin id) f)(r:X.mg x=none)(hv:bootBuiltins x=J (.builtin id))(u:MA X (e::es) m)(i:G[j]?=J x:=by rfl)(l:starEach (e::es) X.env=(T,eval e X.env)::starEach es X.env:=by rfl)(a:(backTo pos (starEach es X.env)).any (·.1)=T:=by rfl):ME X (.Call (.Name x p) (e::es) [] pos) (wR f m):=tJ g j i y r hv u l a
def T_{a:String}(g:Good X N W G k)(j:Nat)(z:cU X (.type a) f)(u:X.mg x=none)(hv:bootBuiltins x=J (.type a))(y:MA X (e::es) m)(l:G[j]?=J x:=by rfl)(r:starEach (e::es) X.env=(T,eval e X.env)::starEach es X.env:=by rfl)(i:(backTo pos (starEach es X.env)).any (·.1)=T:=by rfl):ME X (.Call (.Name x p) (e::es) [] pos) (wR f m):=qK g j l z u hv y r i
def Ua{u a:Expr}(g:Good X N W G k)(j:Nat)(r:X.mg "range"=none)(y:MA X [a] m)(i:G[j]?=J "range":=by rfl)(l:starEach [a] X.env=[(T,eval a X.env)]:=by rfl):MI X u (.Call (.Name "range" p) [a] [] pos) (lv m):=qY (g.gl _ (aL i)) r y l
section
variable{tg iter elt:Expr}{ifs:UX}{scope sc:Scope}{mi:Mx MIt}{gt:Mg}{mt:Mx Bool}{me:Mx PV}
def Tu(g:Good X N W G k)(Ap:X.env.scope=sc)(a frees l:UM)(fm:UQ)(H:MI X tg iter mi)(y:∀Y:Cx,YE Y X->Good Y (a++frees) a l k->MG Y tg gt/\Gg Y ifs mt/\ME Y elt me)(r:scope.kind=.function:=by rfl)(B:fm.map (λi=>N[i]?)=frees.map J:=by rfl)(h:Pu scope sc a frees:=by decide +kernel)(nd:(a++frees).Nodup:=by decide +kernel)(j:∀x∈l,scope.names.lookup x=J .globalImplicit:=by decide +kernel)(dbg:∀x∈(a++frees)++l,(x==("__debug__":Str))=T/\(x==("__classdict__":Str))=T/\x≠"__name__":=by decide +kernel)(C:∀x,foldedSetIterable iter X.env x=pure x:=by exact λ_=>rfl):ME X (.ListComp elt [⟨tg,iter,ifs,0⟩] scope pos) (dY a.length fm mi gt mt me) :=
 vY g (lF Ap r B h) nd j dbg H (λY z L E F u _ g=>y Y ⟨z,L,E,F,u⟩ g) C
def Ub{j py:Pos}{y:Str}(g:Good X N W G k)(Ap:X.env.scope=sc)(i:Nat)(a frees z:UM)(fm:UQ)(P:MI X tg iter mi)(E:∀Y:Cx,YE Y X->Good Y (a++frees) a z k->MG Y tg gt/\Gg Y ifs mt/\ME Y elt me)(l:∀env:Env,env.scope=sc->swapsWith (.ListComp elt [⟨tg,iter,ifs,0⟩] scope pos) (J (.Name y py)) j.line env=pure I:=by(intro env h;cases env;cases h;rfl))(u:N[i]?=J y:=by rfl)(Q:W[i]?=J y:=by rfl)(B:scope.kind=.function:=by rfl)(H:fm.map (λi=>N[i]?)=frees.map J:=by rfl)(h:Pu scope sc a frees:=by decide +kernel)(nd:(a++frees).Nodup:=by decide +kernel)(r:∀x∈z,scope.names.lookup x=J .globalImplicit:=by decide +kernel)(dbg:∀x∈(a++frees)++z,(x==("__debug__":Str))=T/\(x==("__classdict__":Str))=T/\x≠"__name__":=by decide +kernel)(L:∀x,foldedSetIterable iter X.env x=pure x:=by exact λ_=>rfl):MS X (.Assign [.Name y py] (.ListComp elt [⟨tg,iter,ifs,0⟩] scope pos) j) (bp i (dY a.length fm mi gt mt me)) :=
 wp g i u Q (l X.env Ap) (lF Ap B H h) nd r dbg P (λY F R M O C _ g=>E Y ⟨F,R,M,O,C⟩ g) L
end
end
abbrev zJ:=@PyProof.Rows.Boot.«abs»
abbrev jt:=@PyProof.Rows.Boot.«min»
abbrev zN:=@PyProof.Rows.Boot.«max»
abbrev JF:=@PyProof.Rows.Boot.«int»
abbrev jo:=@PyProof.Rows.Boot.«len»
abbrev Fe:=@PyProof.Rows.Boot.«list»
abbrev uy:=@PyProof.Rows.Boot.«tuple»
abbrev Ff:=@PyProof.Rows.Boot.«bool»
abbrev yW:=@PySem.F.slot_list_append
abbrev zh:=@PySem.F.type_list_append
abbrev yu:=@PySem.F.slot_list_extend
abbrev yX:=@PySem.F.type_list_extend
abbrev JG:=@PySem.F.slot_list_pop
abbrev JH:=@PySem.F.type_list_pop
abbrev y9:=@PySem.F.slot_list_insert
abbrev yB:=@PySem.F.type_list_insert
end MM
namespace PU
open MM
open L2 (wx mh gK)
noncomputable section
section
variable{ws:UQ}
end
end
noncomputable section
end
noncomputable section
end
section
variable{ws:UQ}
end
end PU
namespace PU
open MM L2
def s_:CL where
 m:=rZ
 p:=λj a=>match a,j with
  |[.int 0],d::r=>J (d,r)
  |_,_=>Y
 ok {q h O n xs j a vs d ds'} g r f e:=by
  match a,j,r,f,e with
  |[.int 0],d::l,r,f,e =>
   cases e;obtain⟨x,t,rfl,z,b⟩:=f
   have:t=[]:=b
   subst this;rw[show x=PV.int 0 from z];obtain⟨y,u,rfl,B,i⟩:=r;exact⟨y,u,by simp only[rZ,g],i,B⟩
noncomputable section
end
end PU
namespace PU
open MM
noncomputable section
def g9:y4 where
 m:=oq
 p:=λa b=>match a,b with
  |.tup [],.tup y=>J (.tup y)
  |a,b=>bo.p a b
 fr:=I
 ok {q h L O a x b y d} bd wa wb e:=by
  by_cases z:(∃j,b=.tup j)/\a=.tup []
  .obtain⟨⟨j,rfl⟩,rfl⟩:=z;cases e;obtain⟨xs,rfl,r⟩:=wa.tup;obtain⟨ys,rfl,B⟩:=wb.tup
   have:xs=[]:=r
   subst this;exact Js ⟨_,rfl,B⟩ λ_ k _ e=>by cases k<;>cases e
  .have f:bo.p a b=J d:=by
    revert e;split
    .exact absurd ⟨⟨_,rfl⟩,rfl⟩ z
    .exact id
   have:oq x y h=j3 x y h:=by
    unfold oq;split
    .exfalso
     cases a with
     |tup u =>
      obtain⟨xs,ex,r⟩:=wa.tup;cases ex
      have:=r.length
      cases u with
      |nil =>
       cases b with
       |tup bs=>exact z ⟨⟨_,rfl⟩,rfl⟩
       |_=>cases f
      |cons _ _=>simp at this
     |int i=>have:=wa.int;cases this
     |lst l=>obtain⟨n,xs,ex,_⟩:=wa.lst;cases ex
     |_=>cases f
    .rfl
   show Gv q h O I (oq x y h) d;rw[this];exact bo.ok bd wa wb f
section
variable{ws:UQ}
end
end
end PU
namespace MM
open PySem.Spec PyProof.Rows L2
open PU (Xe Xs Xt Xi Xg Gp Xo Xd Pj y4 B1 Pk CL OpR Fn aa xC ac CJ a_ ab mm ai bM aJ EY xB EZ eV E0 jj nR rY oC aG bG aI i0 Bu pq By aC iw bv nF fx p0 bc eK cu K3 v_ kI b7 Gr K4 K5 K7 Nm JD)
structure CC(X:Cx)(e:Expr)(m:Mx Bool):Prop where
 h:MT X e m
structure JI(X:Cx)(e:Expr)(m:Mx Bool):Prop where
 h:MW X e m
structure K8(X:Cx)(tg e:Expr)(m:Mx MIt):Prop where
 h:MI X tg e m
structure Np(X:Cx)(e:Expr)(m:Mg):Prop where
 h:MG X e m
structure Py(X:Cx)(e:UX)(m:DU):Prop where
 h:Mc X e m
structure RG(X:Cx)(e:UX)(m:Mx Bool):Prop where
 h:Gg X e m
structure Pz(X:Cx)(e:Option Expr)(m:Mx (UW)):Prop where
 h:MO' X e m
structure OJ(X:Cx)(r:Value->Value->Sem Value)(o:y4):Prop where
 h:xk X r o.m
def JJ(a:Scope):UM:=(a.names.filter λy=>match y.2 with|.globalImplicit=>I|_=>T).map (·.1)
abbrev gm(sc:Scope)(x:Str):Prop:=x∈JJ sc
def Gw:Expr->UM
 |.Name x _=>[x]
 |.Tuple a _ _=>a.flatMap λe=>match e with
  |.Name x _=>[x]
  |.Tuple a _ _=>a.flatMap λe=>match e with
   |.Name x _=>[x]
   |_=>[]
  |_=>[]
 |_=>[]
def K9(N:UM)(fm:UQ):UM:=fm.filterMap (N[·]?)
structure Wc(X:Cx)(P:Program)(w:World)(K:ib)(mg:UB)(base:Heap)(N W:UM)(k:Nat)(sc:Scope):Prop where
 g:Good X N W (JJ sc) k
 e:EE X P w K mg base
 s:X.env.scope=sc
section
variable{X Y:Cx}{P:Program}{w:World}{K:ib}{mg:UB}{base:Heap}{N W:UM}{k:Nat}{sc:Scope}{ws:UQ}{x y:Str}{p p' pos spos:Pos}{e a b d tg:Expr}{es:UX}{i j:Nat}{st:Stmt}{rest body:List Stmt}{xa xb xd:Xe ws}{ta tb:Xt ws}{sa:Xs ws}{da db:Xd ws}
def Wc.gj(c:Wc X P w K mg base N W k sc)(h:gm sc x):∃j:Nat,(JJ sc)[j]?=J x:=List.getElem?_of_mem h
def Wc.n(c:Wc X P w K mg base N W k sc)(z:Zn K x):X.mg x=none:=c.e.n z
def Nq{i:Int}:j_ X (.Constant (.int i) j pos) (xC (ws:=ws) (.int i)).m:=⟨ao⟩
def Nr{i:Str}:j_ X (.Constant (.str i) j pos) (xC (ws:=ws) (.str i)).m:=⟨HM⟩
def RI{i:Bool}:j_ X (.Constant (.bool i) j pos) (xC (ws:=ws) (.bl i)).m:=⟨oB⟩
def Nt:j_ X (.Constant .none j pos) (xC (ws:=ws) .non).m:=⟨HN⟩
def Nu{f:Operator}{o:y4}(l:OJ X (binaryOp f) o)(u:j_ X a xa.m)(r:j_ X b xb.m):j_ X (.BinOp a f b pos) (ac o xa xb).m:=⟨aH l.h u.h r.h⟩
def Nv{f:CmpOp}{o:y4}(l:OJ X (compareOp f) o)(z:j_ X a xa.m)(r:j_ X b xb.m)(u:behindInMarks f b=T):j_ X (.Compare a [f] [b] pos) (ac o xa xb).m:=⟨HP l.h z.h r.h u⟩
def RJ(l:j_ X a xa.m)(f:j_ X b xb.m)(r:ly b):j_ X (.Subscript a b pos) (ac PU.i3 xa xb).m:=⟨F_ l.h f.h r⟩
def Nw(f:j_ X a xa.m):j_ X (.UnaryOp .USub a pos) (CJ PU.oK xa).m:=⟨Ma Ih f.h⟩
def JK(f:j_ X a xa.m):j_ X (.UnaryOp .Not a pos) (rY xa).m:=⟨HX f.h⟩
def Fg{r f:CmpOp}{o u:y4}(z:OJ X (compareOp r) o)(l:OJ X (compareOp f) u)(E:j_ X a xa.m)(B:j_ X b xb.m)(hd:j_ X d xd.m)(C:lastMarks [r,f] [b,d]=T):j_ X (.Compare a [r,f] [b,d] pos) (oC o u xa xb xd).m:=⟨BG z.h l.h E.h B.h hd.h C⟩
def Nx{l:BoolOp}(f:j_ X a xa.m):j_ X (.BoolOp l [a] pos) xa.m:=⟨HV f.h⟩
def JL(l:j_ X a xa.m)(f:j_ X (.BoolOp .And (b::es) pos) xb.m):j_ X (.BoolOp .And (a::b::es) pos) (nR xa xb).m:=⟨HW l.h f.h⟩
def Ny{hz}(h:BP X es sa.m):j_ X (.Tuple es j pos) (aJ sa hz).m:=KY h
def Nz{hz}(h:BP X es sa.m):j_ X (.List es pos) (bM sa hz).m:=M6 h
def NA:j_ X (.Dict [] [] pos) (EY (ws:=ws)).m:=⟨v9⟩
def RK{lo r:Option Expr}{l f:Xo ws}(B:j_ X a xa.m)(u:Pz X lo l.m)(z:Pz X r f.m):j_ X (.Subscript a (.Slice lo r none p) pos) (K7 xa l f).m:=⟨MF B.h u.h z.h⟩
def RL:Pz X none (K4 (ws:=ws)).m:=⟨En⟩
def RM(f:j_ X a xa.m):Pz X (J a) (K5 xa).m:=⟨Eo f.h⟩
def NB:BP X [] (a_ (ws:=ws)).m:=eB
def JM(f:j_ X e xa.m)(l:BP X es sa.m)(r:bJ e=I):BP X (e::es) (ab xa sa).m:=bI f l r
def NC:OJ X (binaryOp .Add) PU.bo:=⟨c6⟩
def ND:OJ X (binaryOp .Sub) PU.bH:=⟨nN⟩
def RN:OJ X (compareOp .Lt) PU.w5:=⟨nT⟩
def RQ:OJ X (compareOp .LtE) PU.Rm:=⟨Mh⟩
def RT:OJ X (compareOp .Gt) PU.Cr:=⟨sd⟩
def NE:OJ X (compareOp .IsNot) (PU.Nc I):=⟨Ii⟩
section
variable(c:Wc X P w K mg base N W k sc)
include c
def w_var(f:N[i]?=J x):j_ X (.Name x pos) (aa (ws:=ws) i).m:=⟨yk c.g i f⟩
def RU:OJ X (compareOp .Eq) PU.y_:=⟨F8 c.g.room⟩
def RV:OJ X (compareOp .NotEq) PU.Az:=⟨se c.g.room⟩
def RW:OJ X (compareOp .In) (PU.wh T):=⟨Gi c.g.room T⟩
def NF:OJ X (compareOp .NotIn) (PU.wh I):=⟨Gi c.g.room I⟩
end
def g7{env:Env}:∀{es:UX},es.all bJ=I->(backTo pos (starEach es env)).any (·.1)=T
 |[],_=>rfl
 |e::es,h=>by
  have f:bJ e=I/\es.all bJ=I:=by simpa using h
  have:=g7 (env:=env) f.2
  rw[bf f.1];simpa [backTo]using this
section
variable(c:Wc X P w K mg base N W k sc)
include c
def JN{F:Fn}{r:UM}{hz}(C:BP X (e::es) sa.m)(f:FnAt P w K mg base x r F.m i)(h:i<=k)(z:gm sc x)(B:(e::es).all bJ=I):j_ X (.Call (.Name x p) (e::es) [] pos) (ai F sa hz).m :=
 let⟨_,u⟩:=c.gj z
 have l:bJ e=I/\es.all bJ=I:=by simpa using B
 ⟨vO c.g u (f.c c.e h) C.h (bf l.1) (g7 l.2)⟩
end
inductive BB(X:Cx)(x:Str)(o:B1):Prop
 |fn(id:String)(f:UL->MH->UZ)(h:bootBuiltins x=J (.builtin id))(c:cU X (.builtin id) f)(e:o.k=λxs h=>(f xs h).ne:=by rfl):BB X x o
 |ty(T:String)(f:UL->MH->UZ)(h:bootBuiltins x=J (.type T))(c:cU X (.type T) f)(e:o.k=λxs h=>(f xs h).ne:=by rfl):BB X x o
def NG:BB X "len" PU.jI:=.fn _ _ jo kW
def JO:BB X "list" PU.lL:=.ty _ _ Fe Em
def Fh:BB X "tuple" PU.iB:=.ty _ _ uy tj
section
variable(c:Wc X P w K mg base N W k sc)
include c
def NH{o:B1}(B:BB X x o)(u:BP X (e::es) sa.m)(z:Zn K x)(C:gm sc x)(F:(e::es).all bJ=I):j_ X (.Call (.Name x p) (e::es) [] pos) (mm o sa).m:=by
 obtain⟨j,r⟩:=c.gj C;have l:bJ e=I/\es.all bJ=I:=by simpa using F
 refine⟨?_⟩;show ME X _ (λZ h=>(sa.m Z h).bind o.k)
 cases B with
 |fn id f h d q=>rw[q];exact tJ c.g j r d (c.n z) h u.h (bf l.1) (g7 l.2)
 |ty E f h d q=>rw[q];exact qK c.g j r d (c.n z) h u.h (bf l.1) (g7 l.2)
def NI:BB X "min" PU.k8:=.fn _ _ jt (sY c.g)
def NJ:BB X "max" PU.kT:=.fn _ _ zN (Ij c.g)
def JP:BB X "min" PU.eI:=.fn _ _ jt (pI c.g)
def JQ:BB X "max" PU.nY:=.fn _ _ zN (Ep c.g)
def RX(z:BP X [a] sa.m)(f:Zn K "sorted")(B:Zn K "set")(l:gm sc "sorted")(r:gm sc "set")(u:bJ a=I):j_ X (.Call (.Name "sorted" p) [.Call (.Name "set" p') [a] [] spos] [] pos) (mm PU.Po sa).m :=
 let⟨_,i⟩:=c.gj l;let⟨_,j⟩:=c.gj r
 ⟨uk c.g i (c.n f) j (c.n B) z.h (bf u)⟩
def RY(z:BP X [a] sa.m)(f:Zn K "list")(B:Zn K "range")(l:gm sc "list")(r:gm sc "range")(u:bJ a=I):j_ X (.Call (.Name "list" p) [.Call (.Name "range" p') [a] [] spos] [] pos) (mm PU.Ro sa).m :=
 let⟨_,i⟩:=c.gj l;let⟨_,j⟩:=c.gj r
 ⟨A1 c.g i (c.n f) j (c.n B) z.h (bf u)⟩
end
structure BT(x:Str)(T:String):Prop where
 h:bootBuiltins x=J (.type T)
 o:Mk T
def NK:BT "int" "int":=⟨JF,DZ⟩
def JR:BT "bool" "bool":=⟨Ff,AD⟩
section
variable(c:Wc X P w K mg base N W k sc)
include c
def NL{f:String}(B:BT x f)(C:j_ X a xa.m)(l:Zn K "isinstance")(E:Zn K x)(r:gm sc "isinstance")(u:gm sc x)(z:bJ a=I):j_ X (.Call (.Name "isinstance" p) [a,.Name x p'] [] pos) (CJ (PU.E3 [f]) xa).m :=
 let⟨_,i⟩:=c.gj r;let⟨_,j⟩:=c.gj u
 ⟨Ik c.g i (c.n l) j (c.n E) B.h B.o C.h (bf z)⟩
end
abbrev MJ(X:Cx)(name:Str)(f:Nat->UL->MH->UZ):Prop:=∃id,Slot "list" name id/\typeOf (.builtin id)=pure (.type "method_descriptor")/\Hy X id (Ir X f)
section
variable{name:Str}{f:Nat->UL->MH->UZ}{o:CL}{m:Mx PV}
def RZ{l:Mx (UL)}(M:MJ X name f)(r:j_ X a m)(u:BP X (e::es) l)(h:(((backTo pos (starEach (e::es) X.env)).all (λx=>!x.1)&&(backToKw pos (keywordEach [] X.env)).all (λx=>x.1.isSome)&&decide ((e::es).length+([]:List Keyword).length+(if([]:List Keyword).isEmpty then 0 else 1)<30))=I/\(p.endLine==pos.line)=I)/\attributeBase a name X.env (eval a X.env)=eval a X.env/\starEach (e::es) X.env=(T,eval e X.env)::starEach es X.env/\(backTo pos (starEach es X.env)).any (·.1)=T):j_ X (.Call (.Attribute a name p) (e::es) [] pos) (Ek f m l) :=
 let⟨_,x,y,z⟩:=M
 ⟨MC x y z r.h u.h h.2.1 h.1.1 h.1.2 h.2.2.1 h.2.2.2⟩
def R0{hi hz}(h:j_ X e (Ek o.m (aa (ws:=ws) i).m sa.m))(l:swapsWith e none pos.line X.env=pure T):y3 X (.Expr e pos) (v_ o i sa hi hz).m:=⟨vL h.h l⟩
def NM{hi hj hz}(c:Wc X P w K mg base N W k sc)(h:j_ X e (Ek o.m (aa (ws:=ws) i).m sa.m))(u:swapsWith e (J (.Name y p)) pos.line X.env=pure T)(r:N[j]?=J y)(l:W[j]?=J y):y3 X (.Assign [.Name y p] e pos) (kI j o i sa hi hj hz).m:=⟨lm c.g j r l h.h u⟩
end
def AV:MJ X "append" PU.p8.m:=⟨_,yW,zh,yO⟩
def Ao:MJ X "extend" PU.i_.m:=⟨_,yu,yX,zB⟩
def Bg:MJ X "insert" PU.xn.m:=⟨_,y9,yB,yf⟩
def JS:MJ X "pop" PU.s_.m:=⟨_,JG,JH,EQ⟩
def JT{f:CmpOp}{o:y4}(l:OJ X (compareOp f) o)(z:j_ X a xa.m)(r:j_ X b xb.m)(u:behindInMarks f b=T):CC X (.Compare a [f] [b] pos) (xB (ac o xa xb)).m:=⟨yI l.h z.h r.h u⟩
def JU(h:CC X a ta.m):CC X (.UnaryOp .Not a pos) (EZ ta).m:=⟨HU h.h⟩
def R1{f:BoolOp}(h:JI X (.BoolOp f es pos) ta.m):CC X (.BoolOp f es pos) ta.m:=⟨MW.mt h.h⟩
def JV(h:CC X a ta.m):JI X (.BoolOp .And [a] pos) ta.m:=⟨vm h.h⟩
def NN(h:CC X a ta.m):JI X (.BoolOp .Or [a] pos) ta.m:=⟨yn h.h⟩
def w_and(h:CC X a ta.m)(f:JI X (.BoolOp .And (b::es) pos) tb.m):JI X (.BoolOp .And (a::b::es) pos) (eV ta tb).m:=⟨zS h.h f.h⟩
def w_or(h:CC X a ta.m)(f:JI X (.BoolOp .Or (b::es) pos) tb.m):JI X (.BoolOp .Or (a::b::es) pos) (E0 ta tb).m:=⟨F6 h.h f.h⟩
def NO(h:j_ X e xa.m)(l:∀f,isTrue e X.env f=(do let v <-f;standAt e.pos;holding [v] (truthy v))):CC X e (Nm xa).m:=⟨Jh h.h l⟩
def NP(h:j_ X e xa.m)(l:∀f,isTrue e X.env f=(do let v <-f;standAt e.pos;holding [v] (truthy v))):CC X e (xB xa).m:=⟨HQ h.h l⟩
def NQ:RG X [] (jj (ws:=ws)).m:=⟨oH⟩
def NR(h:CC X a ta.m):RG X [a] ta.m:=⟨vB h.h⟩
def R3:Py X [] (Bu (ws:=ws)).m:=⟨DV⟩
def R4{ga:Xg ws}{f:Gp ws}(r:Np X e ga.m)(u:Py X es f.m)(l:(assignEach (e::es) X.env).map (·.2)=assign e X.env::(assignEach es X.env).map (·.2)):Py X (e::es) (pq ga f).m:=⟨Ar r.h u.h l⟩
def NS(h:j_ X a xa.m):K8 X tg a (aI xa).m:=⟨n4 h.h⟩
section
variable(c:Wc X P w K mg base N W k sc)
include c
def R5{hi}(h:N[i]?=J x)(f:W[i]?=J x):Np X (.Name x pos) (i0 (ws:=ws) i hi).m:=⟨wm c.g i h f⟩
def R6{l:Gp ws}{n:Nat}(h:Py X es l.m)(r:(assignEach es X.env).length=n)(f:(assignEach es X.env).findIdx? (·.1)=none):Np X (.Tuple es j pos) (By l n).m:=⟨Ib c.g h.h r f⟩
def R7{n:Nat}(h:BP X [a] sa.m)(z:Zn K "enumerate")(l:gm sc "enumerate")(r:bJ a=I):K8 X (.Tuple es n p) (.Call (.Name "enumerate" p') [a] [] pos) (bG PU.iE sa).m:=let⟨_,f⟩:=c.gj l;⟨EO c.g f (c.n z) h.h (bf r)⟩
def NT(h:BP X [a] sa.m)(z:Zn K "range")(f:gm sc "range")(l:bJ a=I):K8 X tg (.Call (.Name "range" p) [a] [] pos) (bG PU.w8 sa).m:=⟨qY (c.g.gl _ f) (c.n z) h.h (bf l)⟩
end
structure CB(Y:Cx)(tg elt:Expr)(ifs:UX)(gt:Mg)(mt:Mx Bool)(me:Mx PV):Prop where
 g:Np Y tg gt
 t:RG Y ifs mt
 e:j_ Y elt me
section
variable{iter elt:Expr}{ifs:UX}{scope:Scope}{nv:Nat}{fm ws':UQ}{xi:Xi ws}{gt:Xg ws'}{xt:Xt ws'}{xe:Xe ws'}{hw:PU.CK nv fm ws=ws'}{hz:xe.fz=true}
abbrev Tv(N:UM)(tg:Expr)(nv:Nat)(fm:UQ)(scope sc:Scope):Prop:=Pu scope sc (Gw tg) (K9 N fm)/\(Gw tg++K9 N fm).Nodup/\(∀x∈JJ (No scope sc),scope.names.lookup x=J .globalImplicit)/\(∀x∈(Gw tg++K9 N fm)++JJ (No scope sc),(x==("__debug__":Str))=T/\(x==("__classdict__":Str))=T/\x≠"__name__")/\fm.map (λi=>N[i]?)=(K9 N fm).map J/\(Gw tg).length=nv
section
variable(c:Wc X P w K mg base N W k sc)
include c
def JW(L:K8 X tg iter xi.m)(r:∀Y:Cx,Wc Y P w K mg base (Gw tg++K9 N fm) (Gw tg) k (No scope sc)->CB Y tg elt ifs gt.m xt.m xe.m)(f:scope.kind=.function)(h:Tv N tg nv fm scope sc)(C:∀x,foldedSetIterable iter X.env x=pure x):j_ X (.ListComp elt [⟨tg,iter,ifs,0⟩] scope pos) (aG nv fm xi gt xt xe hw hz).m:=by
 obtain⟨E,nd,H,dbg,z,rfl⟩:=h;exact⟨vY c.g (lF c.s f z E) nd H dbg L.h (λY B M F G l u g=>let q:=r Y ⟨g,⟨B.trans c.e.e1,M.trans c.e.e2,F.trans c.e.e3,G.trans c.e.e4,l.trans c.e.e5,c.e.b⟩,u.trans (ym c.s)⟩;⟨q.g.h,q.t.h,q.e.h⟩) C⟩
end
section
variable(c:Wc X P w K mg base N W k sc)(hsw:∀env:Env,env.scope=sc->swapsWith (.ListComp elt [⟨tg,iter,ifs,0⟩] scope pos) (some (.Name y p)) spos.line env=pure true)(hi:K8 X tg iter xi.m)(hY:∀Y:Cx,Wc Y P w K mg base (Gw tg++K9 N fm) (Gw tg) k (No scope sc)->CB Y tg elt ifs gt.m xt.m xe.m)(hyi:N[i]?=some y)(hyw:W[i]?=some y)(h1:scope.kind=.function)(h:Tv N tg nv fm scope sc)(hs:∀x,foldedSetIterable iter X.env x=pure x)
include hsw hi hY c hyi hyw h1 h hs
def Fi:y3 X (.Assign [.Name y p] (.ListComp elt [⟨tg,iter,ifs,0⟩] scope pos) spos) (bp i (dY nv fm xi.m gt.m xt.m xe.m)):=by
 try clear hw
 obtain⟨B,nd,E,dbg,r,rfl⟩:=h;exact⟨wp c.g i hyi hyw (hsw X.env c.s) (lF c.s h1 r B) nd E dbg hi.h (λY u F l z C f g=>let q:=hY Y ⟨g,⟨u.trans c.e.e1,F.trans c.e.e2,l.trans c.e.e3,z.trans c.e.e4,C.trans c.e.e5,c.e.b⟩,f.trans (ym c.s)⟩;⟨q.g.h,q.t.h,q.e.h⟩) hs⟩
def JX{hi' hz'}:y3 X (.Assign [.Name y p] (.ListComp elt [⟨tg,iter,ifs,0⟩] scope pos) spos) (bc i (aG nv fm xi gt xt xe hw hz) hi' hz').m:=Fi c hsw hi hY hyi hyw h1 h hs
end
end
def R8:lB X [] (iw (ws:=ws)).m:=⟨dH⟩
def gR(h:y3 X st da.m):lB X [st] da.m:=Bt h
def gF(f:y3 X st da.m)(l:lB X rest db.m):lB X (st::rest) (aC da db).m:=w4 f l
def NU(h:j_ X e xa.m):y3 X (.Return (J e) pos) (bv xa).m:=Cy h
def JY{hi}(h:j_ X e (aa (ws:=ws) i).m):y3 X (.Return (J e) pos) (nF (ws:=ws) i hi).m:=Cy h
def JZ(h:j_ X e xa.m)(f:swapsWith e none pos.line X.env=pure T):y3 X (.Expr e pos) (fx xa).m:=⟨vL h.h f⟩
def R9(l:CC X e ta.m)(f:lB X body da.m)(r:lB X rest db.m):y3 X (.If e body rest pos) (p0 ta da db).m:=⟨fi l.h f.h r.h⟩
def NV:y3 X st (JD (ws:=ws)).m:=⟨zi⟩
section
variable(c:Wc X P w K mg base N W k sc)
include c
def NW{f:Xi ws}{l:Xg ws}{hz}(u:K8 X tg e f.m)(B:Np X tg l.m)(z:lB X body da.m)(r:∀x,foldedSetIterable e X.env x=pure x):y3 X (.For tg e body [] pos) (cu f l da hz).m:=⟨zr c.g u.h B.h z.h r⟩
def R_{n hm}(l:CC X e ta.m)(f:lB X body da.m):y3 X (.While e body [] pos) (K3 n ta da hm).m:=⟨Bc c.g l.h f.h⟩
def J0{hi' hz}(f:j_ X e xa.m)(r:swapsWith e (J (.Name x p)) pos.line X.env=pure T)(u:N[i]?=J x)(l:W[i]?=J x):y3 X (.Assign [.Name x p] e pos) (eK i xa hi' hz).m:=⟨lm c.g i u l f.h r⟩
def J1{hi' hz}(l:∀env:Env,env.scope=sc->swapsWith e (J (.Name x p)) pos.line env=pure T)(f:j_ X e xa.m)(r:N[i]?=J x)(u:W[i]?=J x):y3 X (.Assign [.Name x p] e pos) (bc i xa hi' hz).m:=⟨lm c.g i r u f.h (l _ c.s)⟩
end
def Sa{np:Nat}{F:UL->MH->UZ}(N:UM)(b:Ba P w K mg base)(D:e_ K x st)(f:hJ x st (N.take np):=by first | exact λ_ _ _ _ _ _=>Pw λ_=>rfl | exact λ_ _ _ _ _ _=>RD λ_ _=>rfl | exact λ_ _ _ _ _ _=>RE λ_ _ _=>rfl | exact λ_ _ _ _ _ _=>RF λ_ _ _ _=>rfl | exact λ_ _ _ _ _ _=>ar5 λ_ _ _ _ _=>rfl)(S:n_ N (N.take np) (aj st):=by exact⟨rfl,rfl,rfl,by decide +kernel,rfl,by decide +kernel,by decide +kernel⟩)(r:∀y∈N,(aj st).names.lookup y=J .local\/(aj st).names.lookup y=J .cell:=by decide +kernel)(dbg:∀x∈N++[],(x==("__debug__":Str))=T/\(x==("__classdict__":Str))=T/\x≠"__name__":=by decide +kernel)(l:F=cc N.length (N.take np).length λ_ _=>.bad:=by rfl):FnAt P w K mg base x (N.take np) F (k+1):=by
 subst l;exact sP (G:=[]) b.kin b.ns D S f r (λ_ h=>nomatch h) dbg λX e1 e2 e3 e4 e5 u g z=>wG
def za{F:Fn}{f:Nat}{ws:UQ}{B:Xd ws}{hw}(N:UM)(b:Ba P w K mg base)(D:e_ K x st)(G:∀X:Cx,Wc X P w K mg base N N k (aj st)->i4 X->lB X (aD st) B.m)(C:F=b7 N.length f B hw:=by rfl)(r:hJ x st (N.take f):=by first | exact λ_ _ _ _ _ _=>Pw λ_=>rfl | exact λ_ _ _ _ _ _=>RD λ_ _=>rfl | exact λ_ _ _ _ _ _=>RE λ_ _ _=>rfl | exact λ_ _ _ _ _ _=>RF λ_ _ _ _=>rfl | exact λ_ _ _ _ _ _=>ar5 λ_ _ _ _ _=>rfl)(S:n_ N (N.take f) (aj st):=by exact⟨rfl,rfl,rfl,by decide +kernel,rfl,by decide +kernel,by decide +kernel⟩)(H:∀y∈N,(aj st).names.lookup y=J .local\/(aj st).names.lookup y=J .cell:=by decide +kernel)(l:∀y∈JJ (aj st),(aj st).names.lookup y=J .globalImplicit:=by decide +kernel)(dbg:∀x∈N++JJ (aj st),(x==("__debug__":Str))=T/\(x==("__classdict__":Str))=T/\x≠"__name__":=by decide +kernel)(u:(N.take f).length=f:=by rfl):
  FnAt P w K mg base x (N.take f) F.m (k+1):=by
 have q:=sP b.kin b.ns D S r H l dbg λX e1 e2 e3 e4 e5 z g E=>(G X ⟨g,⟨e1,e2,e3,e4,e5,b⟩,z⟩ E).h;rw[u]at q;subst C;exact q
end
end MM
namespace PU
open MM
section
variable{q:Nat}{h:MH}{O:UQ}
end
end PU
namespace PU
open MM SetT SortT
open L2 (wx mh gK)
noncomputable section
section
variable{ws:UQ}
def Kept(i:Nat)(m:lg):Prop:=∀Z h a f,m Z h=.nx a f->a[i]?=Z[i]?
def pR(i:Nat)(e:aq->g_->PR D)(b:aq->g_->PS)(env:aq)(s:g_):PS:=match e env s with
 |.ok (.lst f) j=>(match b (env.set i (J (.lst f))) j with
  |.nx a l=>(match a[i]? with
   |some (J d)=>.nx a l
   |_=>.bad)
  |_=>.bad)
 |_=>.bad
def sU(i:Nat)(e:Xe ws)(b:Xd (i::ws))(r:Xd ws)(k1:Kept i b.m)(hi:ws.contains i=T:=by exact ys rfl)(hz:e.fr=I:=by exact ys rfl):Xd ws where
 m:=aZ (bp i e.m) (aZ b.m r.m)
 p:=λenv s=>(pR i e.p b.p env s).then r.p
 fr:=r.fr
 ok {q h L B O Z env s} c d:=by
  have a9:i∉ws:=λz=>by simp[z]at hi
  cases F:pR i e.p b.p env s with
  |nx Q s2 =>
   unfold pR at F
   split at F
   .rename_i ds s1 ee
    split at F
    .rename_i a2 bj eb
     split at F
     .rename_i dd ed
      cases F;have k:=e.ok c;rw[ee]at k;obtain⟨v,h1,em,kb,pn,_,_,f⟩:=k;obtain⟨n,xs,rfl,hn,g,rr⟩:=f hz Y ds rfl;have c1:=c.kb kb pn
      have mv:Mv O h (n::O) h1:=⟨λm hm no=>kb.keep m hm λz=>no (z▸c.pO),λo l=>by
       rcases k4.mp l with z|z
       .exact .inr ⋯
       .exact .inl z⟩
      have an:n∉O:=λz=>by have:=c.bd n z;lia
      have a7:Stp q L h O h1 (n::O):=⟨kb.len,mv,λo l=>lb _ l,λm hm hq=>kb.keep m (oQ hm c.hL) hq⟩;have a5:Cx q h1 L B (n::O) (i::ws) (Z.set i (J (.loc n))) (env.set i (J (.lst ds))) s1:=by
       refine⟨λo l=>?_,λo l=>lb _ (c.sub o l),c.bb,c.pb,c1.hL,pn,?_⟩
       .rcases k4.mp l with z|z
        .subst z;exact aW g
        .exact c1.bd o z
       .have sr:=c.sr.mv mv (λo l=>lb _ l) λm hm H _=>kb.keep m hm (by have:=c.pL;lia);refine⟨by simp[sr.len],λj x C E=>?_,λj x C E=>?_⟩
        .have ne:i≠j:=λz=>E (by simp[z]);rw[nr ne]at C;rw[nr ne];exact sr.fz j x C λz=>E (lb _ z)
        .by_cases z:i=j
         .subst z;have H:i<env.length:=by have:=(oI.mp C).1;simpa using this
          rw[xJ H]at C;cases C;exact⟨n,Y,xs,ds,rfl,xJ (by rw[sr.len];exact H),by simp,by have:=c.hL;lia,g,rr⟩
         .rw[nr z]at C;rw[nr z];exact sr.ow j x C ((k4.mp E).resolve_left λq=>z q.symm)
      have a1:Dis (i::ws) (Z.set i (J (.loc n))) (env.set i (J (.lst ds))):=by
       have old:∀j d,j∈ws->i≠j->(env.set i (J (.lst ds)))[j]?=J (J d)->(Z.set i (J (.loc n)))[j]?≠J (J (.loc n)):=λj d E ne C z=>by
        rw[nr ne]at C z;obtain⟨n',_,_,_,_,b2,b3,_⟩:=c.sr.ow j d C E;rw[z]at b2;cases b2;exact an b3
       intro a b ha hb ne x y m ea eb M;by_cases z1:i=a
       .subst z1;have H:i<Z.length:=by have:=(oI.mp M).1;simpa using this
        rw[xJ H]at M;cases M;exact old b y ((k4.mp hb).resolve_left λq=>ne q.symm) ne eb
       .have a0:a∈ws:=(k4.mp ha).resolve_left λq=>z1 q.symm;by_cases z2:i=b
        .subst z2;intro z;have H:i<Z.length:=by have:=(oI.mp z).1;simpa using this
         rw[xJ H]at z;cases z;exact old a x a0 z1 ea M
        .have a3:b∈ws:=(k4.mp hb).resolve_left λq=>z2 q.symm;rw[nr z1]at ea M;rw[nr z2]at eb ⊢;exact d a b a0 a3 ne x y m ea eb M
      have kk:=b.ok a5 a1;rw[eb]at kk;obtain⟨Z',h2,e2,P,a8,u,ap⟩:=kk;have ba:Z'[i]?=(Z.set i (J (.loc n)))[i]?:=k1 _ _ _ _ e2;have U:Z'[i]?=J (J (.loc n)):=by obtain⟨_,_,_,_,_,M,_⟩:=u.sr.ow i dd ed (by simp);rw[ba]at M ⊢;have H:=(oI.mp M).1;exact xJ (by simpa using H)
      have G:∀o∈P.filter (λo=>o != n),o∈P:=λo l=>(n3.mp l).1;have W:∀o,o∈P->o≠n->o∈P.filter (λo=>o != n):=λo l ne=>n3.mpr ⟨l,by simpa using ne⟩;have ax:n∉P.filter (λo=>o != n):=λz=>by simpa using(n3.mp z).2
      have st:Stp q L h O h2 (P.filter (λo=>o != n)):=by have t:=a7.trans a8;exact⟨t.len,⟨t.mv.keep,λo l=>t.mv.new o (G o l)⟩,λo l=>W o (t.sub o l) λz=>an (z▸l),t.base⟩
      have R:Mv P h2 (P.filter (λo=>o != n)) h2:=⟨λ_ _ _=>rfl,λo l=>.inl (G o l)⟩;have a6:Cx q h2 L B (P.filter (λo=>o != n)) ws Z' Q s2:=by
       refine⟨λo l=>u.bd o (G o l),λo l=>W o (u.sub o l) λz=>?_,c.bb,c.pb,u.hL,u.pen,u.sr.len,λj x C E=>?_,λj x C E=>?_⟩
       .have:=c.bb o l
        have:=c.hL
        lia
       .by_cases z:j=i
        .subst z;obtain⟨n',k',S,X,e1,e2,_,_,g',r'⟩:=u.sr.ow j x C (by simp);rw[U]at e2;cases e2;exact⟨.loc n,U,by rw[e1];cases k'<;>exact⟨n,S,rfl,ax,g',r'.mv R⟩⟩
        .obtain⟨v,e1,r1⟩:=u.sr.fz j x C λq=>(k4.mp q).elim z E;exact⟨v,e1,r1.mv R⟩
       .have ne:i≠j:=λz=>a9 (z▸E);obtain⟨n',k',S,X,e1,ay,bi,e4,g',r'⟩:=u.sr.ow j x C (lb _ E);have a4:n'≠n:=λz=>by
         subst z;exact ap i j (by simp) (lb _ E) ne dd x _ ed C U ay
        exact⟨n',k',S,X,e1,ay,W n' bi a4,e4,g',r'.mv R⟩
      have al:Dis ws Z' Q:=λa b ha hb=>ap a b (lb _ ha) (lb _ hb);have fin:=(r.ok a6 al).after st;have be:bp i e.m Z h=.nx (Z.set i (J (.loc n))) h1:=by unfold bp wH;rw[em]
      have as:aZ (bp i e.m) (aZ b.m r.m) Z h=r.m Z' h2:=by
       show(bp i e.m Z h).then (aZ b.m r.m)=_
       rw[be];show(b.m (Z.set i (J (.loc n))) h1).then r.m=_
       rw[e2];rfl
      rw[as,ak];exact fin
     .cases F
    .cases F
   .cases F
  |bad=>trivial
  |_ =>
   exfalso;unfold pR at F
   repeat' split at F
   all_goals cases F
def J2{i:Nat}{e:Xe ws}{b:Xd (i::ws)}{r:Xd ws}{k1 hi hz}{env env':aq}{s s1 s2:g_}{ds:UR}{d:D}(e1:e.p env s=.ok (.lst ds) s1)(e2:b.p (env.set i (J (.lst ds))) s1=.nx env' s2)(e3:env'[i]?=J (J d)):(sU i e b r k1 hi hz).p env s=r.p env' s2:=by
 show(pR i e.p b.p env s).then r.p=_
 unfold pR;rw[e1];simp only[e2,e3,ak]
def px{B:MIt}{g:Mg}{b:lg}{j:Nat}(i:∀x Z h a f,g x Z h=.nx a f->a[j]?=Z[j]?)(kb:∀Z h a f,b Z h=.nx a f\/b Z h=.ct a f\/b Z h=.bk a f->a[j]?=Z[j]?):∀xs,Kept j (xm B g b xs)
 |[]=>λZ h a f z=>by
  unfold xm at z
  split at z
  .cases z;rfl
  .cases z
 |x::r=>λZ h a f z=>by
  unfold xm at z
  split at z
  .split at z
   .rename_i E C e1
    have l:=i _ _ _ _ _ e1
    split at z
    .rename_i u y e2
     rw[px i kb r _ _ _ _ z,kb _ _ _ _ (.inl e2),l]
    .rename_i u y e2
     rw[px i kb r _ _ _ _ z,kb _ _ _ _ (.inr (.inl e2)),l]
    .grind
    all_goals cases z
   all_goals cases z
  .cases z
def AG{l:Mx MIt}{g:Mg}{b:lg}{j:Nat}(i:∀x Z h a f,g x Z h=.nx a f->a[j]?=Z[j]?)(kb:∀Z h a f,b Z h=.nx a f\/b Z h=.ct a f\/b Z h=.bk a f->a[j]?=Z[j]?):Kept j (mK l g b):=λZ h a f z=>by
 unfold mK wH at z
 split at z
 .exact px i kb _ _ _ _ _ z
 all_goals cases z
def Fj{i j:Nat}(ne:i≠j):∀x Z h a f,Cm i x Z h=.nx a f->a[j]?=Z[j]?:=by simp_all
def zM{m:Mx PV}{j:Nat}:∀Z h a f,gZ m Z h=.nx a f\/gZ m Z h=.ct a f\/gZ m Z h=.bk a f->a[j]?=Z[j]?:=λZ h a f z=>by
 rcases z with z | z | z<;>unfold gZ wH at z<;>split at z<;>first | (cases z;rfl) | cases z
def oo{f:Xi ws}{i j l:Nat}{o:CL}{a:Xs ws}{hn hi hz hf}(ne:i≠j):Kept j (cu f (i0 i hn) (v_ o l a hi hz) hf).m:=AG (Fj ne) zM
end
end
end PU
namespace MM
open PySem.Spec PyProof.Rows L2
open PU (Xe Xd sU eK)
def NX{X:Cx}{P:Program}{w:World}{K:ib}{mg:UB}{base:Heap}{N W:UM}{k i:Nat}{F:Scope}{j:UQ}{l:Xe j}{b:Xd (i::j)}{r:Xd j}{e:Expr}{st:Stmt}{a:List Stmt}{x:Str}{p f:Pos}{kk hi' hz'}(c:Wc X P w K mg base N W k F)(u:j_ X e l.m)(B:y3 X st b.m)(y:lB X a r.m)(z:swapsWith e (J (.Name x p)) f.line X.env=pure T)(C:N[i]?=J x)(E:W[i]?=J x):lB X (.Assign [.Name x p] e f::st::a) (sU i l b r kk hi' hz').m:=w4 ⟨lm c.g i C E u.h z⟩ (w4 B y)
end MM
namespace PU
open MM SetT
noncomputable section
def ku(ns:UN):di (ns.map .int)=J ns:=by
 induction ns with
 |nil=>rfl
 |cons i k a=>rw[n9,di,a];rfl
end
end PU
namespace PU
open MM
open L2 (wx mh gK)
noncomputable section
def sv:B1 where
 k:=λl f=>match l with
  |[.int i,.int j]=>if(-(2^62)<=i/\i<2^62) /\ -(2^62)<=j/\j<2^62/\(j-i).toNat<=sizeLine then .ok (.loc f.length) (f++[.lst (bz i (j-i).toNat)])else .bad
  |_=>.bad
 p:=λa=>match a with
  |[.int i,.int j]=>if(-10000<=i/\i<=10000) /\ -10000<=j/\j<=10000 then J (.lst (cm i (j-i).toNat))else Y
  |_=>Y
 fr:=I
 ok {q h L O a xs d} bd w e:=by
  match a,e with
  |[.int i,.int j],e =>
   obtain⟨x,y,rfl,u,r⟩:=Jt w;rw[u.int,r.int];dsimp only at e;by_cases z:(-10000<=i/\i<=10000) /\ -10000<=j/\j<=10000
   .rw[b_ z]at e;cases e;dsimp only
    have:=dS
    rw[b_ ⟨⟨by ext,by ext⟩,by ext,by ext,by ext⟩];exact Rn bd λ_ _=>oR
   .rw[f_ z]at e;cases e
end
end PU
namespace PU
open MM
section
variable{q:Nat}{h:MH}{O:UQ}
end
end PU
namespace MM
open PySem.Spec PyProof.Rows L2
open PU (Xe Xs Xt Xi Xg Xd Fn CJ ac aa xC ab a_ mm)
section
variable{X:Cx}{P:Program}{w:World}{K:ib}{mg:UB}{base:Heap}{N W:UM}{k:Nat}{sc:Scope}{ws:UQ}{x y z n:Str}{p p' q cp yp np sp hp pos cpos pt spos:Pos}{e a b:Expr}{es:UX}{sa:Xs ws}{xa:Xe ws}{i j l kt:Nat}{body:List Stmt}{da:Xd ws}{cs sup sups:UM}
def NY(c:Wc X P w K mg base N W k sc)(E:BP X [a,b] sa.m)(u:Zn K "list")(F:Zn K "range")(B:gm sc "list")(C:gm sc "range")(hp:bJ a=I)(f:bJ b=I):j_ X (.Call (.Name "list" p) [.Call (.Name "range" p') [a,b] [] spos] [] pos) (mm PU.sv sa).m :=
 let⟨_,i⟩:=c.gj B;let⟨_,j⟩:=c.gj C
 have r:starEach [b] X.env=[(T,eval b X.env)]:=bf f
 ⟨y0 c.g i (c.n u) j (c.n F) E.h ((bf hp).trans (by rw[r])) r⟩
end
end MM
namespace PU
open MM L2
noncomputable section
inductive VwD(h:MH)(ks:UP)(P:UL->Prop)(v:PV):Prop
 |mk(n:Nat)(xs:UL)(e:v=.loc n)(g:h[n]?=J (.dic ks xs))(r:P xs):VwD h ks P v
def Vw.dic(w:Vw q h L O (.dic ks ds) v):VwD h ks (Rps q h O ds) v:=by
 rcases w with⟨n,xs,e,_,g,r⟩|⟨n,f,xs,a,e,e1,_,_,g,r⟩
 .exact⟨n,xs,e,g,r⟩
 .obtain⟨rfl,rfl⟩:=sB e;exact⟨n,xs,e1,g,r⟩
def VwD.of(w:VwD h ks P v):∃xs,cV h v=J (ks,xs)/\P xs:=by obtain⟨n,xs,rfl,g,r⟩:=w;exact⟨xs,by simp only[cV,g],r⟩
def yY(w:Vw q h L O d v)(e:cN d=J k):oX v=J k:=by
 cases d with
 |tup a=>obtain⟨xs,rfl,r⟩:=w.tup;rw[j4 r e];exact mI k
 |_=>cases e
def Fk{ks:UP}(r:Rps q h O f xs)(w:Rp q h O d v)(i:UN):(h_ ks f i d).1=(h_ ks xs i v).1/\Rps q h O (h_ ks f i d).2 (h_ ks xs i v).2:=by
 induction ks generalizing f xs with
 |nil=>exact⟨by simp[h_],by simpa [h_]using⟨v,[],rfl,w,rfl⟩⟩
 |cons k ks u =>
  cases f with
  |nil=>rw[show xs=[]from r];exact⟨rfl,v,[],rfl,w,rfl⟩
  |cons y f =>
   obtain⟨x,t,rfl,a,b⟩:=r;unfold h_;by_cases e:k=i
   .simp only[b_ e];exact⟨trivial,v,t,rfl,w,b⟩
   .simp only[f_ e];obtain⟨j,l⟩:=u b;exact⟨by rw[j],x,_,rfl,a,l⟩
def uu(f:Bool):y4 where
 m:=i5 f
 p:=λa b=>match b with
  |.dic l j=>(cN a).map λi=>.bl (if f then !(n5 l j i).isSome else(n5 l j i).isSome)
  |_=>Y
 fr:=I
 ok {q h L O a x b y d} bd wa wb e:=by
  cases b with
  |dic l j =>
   obtain⟨i,e1,rfl⟩:=vu.mp e;obtain⟨xs,e2,r⟩:=wb.dic.of;have e3:=yY wa e1;show Gv q h O I (i5 f x y h) _;rw[tO (show j.length=xs.length from r.length.symm)];simp only[i5,e2,e3];exact y6
  |_=>cases e
variable{ws:UQ}
def jW(i:Nat)(e l:aq->g_->PR D)(env:aq)(s:g_):PS:=match e env s with
 |.ok v r=>(match l env r with
  |.ok k u=>(match cN k,env[i]? with
   |some j,J (J (.dic a f))=>if a.length<100000 then .nx (env.set i (J (.dic (h_ a f j v).1 (h_ a f j v).2))) u else .bad
   |_,_=>.bad)
  |_=>.bad)
 |_=>.bad
def ue(e1:e env s=.ok v s1)(e2:ix env s1=.ok k s2)(a:cN k=J j)(e3:env[i]?=J (J (.dic ks ds)))(e4:ks.length<100000):
  jW i e ix env s=.nx (env.set i (J (.dic (h_ ks ds j v).1 (h_ ks ds j v).2))) s2:=by
 simp only[jW,e1,e2,e3,a];rw[b_ e4]
def yJ:jW i e ix env s=.bad\/∃v l k j r a f,e env s=.ok v l/\ix env l=.ok k r/\cN k=J j/\env[i]?=J (J (.dic a f))/\a.length<100000/\jW i e ix env s=.nx (env.set i (J (.dic (h_ a f j v).1 (h_ a f j v).2))) r:=by
 unfold jW;split
 .rename_i v l e1
  split
  .rename_i k r e2
   split
   .rename_i j a f e3 e4
    by_cases h:a.length<100000
    .rw[b_ h];exact .inr ⟨v,l,k,j,r,a,f,e1,e2,e3,e4,h,rfl⟩
    .rw[f_ h];exact .inl rfl
   .exact .inl rfl
  .exact .inl rfl
 .exact .inl rfl
def lU(i:Nat)(e C:Xe ws)(hi:ws.contains i=I:=by exact ys rfl)(hz:e.fz=I:=by exact ys rfl):Xd ws where
 m:=mW e.m (k6 (ae i) C.m)
 p:=jW i e.p C.p
 fr:=I
 ok {q h L B O Z env s} c d:=by
  rcases yJ (i:=i) (e:=e.p) (ix:=C.p) (env:=env) (s:=s)with z|⟨v,s1,k,j,s2,a,F,e1,e2,ek,e3,e4,z⟩
  .rw[z];trivial
  .rw[z];have u:i∈ws:=by simpa using hi
   have R:=e.ok c;rw[e1]at R;obtain⟨x,G,f1,E,M,_,W,_⟩:=R;have S:=c.kb E M;have P:=C.ok S;rw[e2]at P;obtain⟨y,r,f2,f,H,w,_,_⟩:=P;have U:=S.kb f H;obtain⟨l,kd,xs,al,e0,Q,b1,b2,g,r0⟩:=U.sr.ow i _ e3 u;obtain⟨rfl,rfl⟩:=sB e0;replace g:r[l]?=J (.dic a xs):=g;have em:ae i Z G=.ok (.loc l) G:=by simp[ae,Q]
   obtain⟨X,p2⟩:=Fk (ks:=a) r0 ((W hz).mv (f.mv c.pO)) j;have nx:=tU (kd:=J (h_ a F j v).1) U d u e3 Q p2;refine⟨Z,r.set l (.dic (h_ a F j v).1 (h_ a xs j x).2),?_,nx.after ((E.trans f).stp c)⟩;have e5:pY (.loc l) y x r=J (r.set l (.dic (h_ a F j v).1 (h_ a xs j x).2)):=by simp only[pY,cV,g,yY w ek];rw[b_ e4,X]
   have e6:k6 (ae i) C.m x Z G=.nx Z (r.set l (.dic (h_ a F j v).1 (h_ a xs j x).2)):=by simp only[k6,wH,em,f2,e5]
   unfold mW wH;rw[f1];dsimp only;rw[e6]
def wu{hi hz}:(lU i e ix hi hz).p env s=jW i e.p ix.p env s:=rfl
end
end PU
namespace MM
open PySem.Spec PyProof.Rows L2
open PU (Xe Xs Xt Xi Xg Xd Fn CJ ac aa xC ab a_ mm)
section
variable{X:Cx}{P:Program}{w:World}{K:ib}{mg:UB}{base:Heap}{N W:UM}{k:Nat}{sc:Scope}{ws:UQ}{p pos:Pos}{e a b:Expr}{xa xb:Xe ws}{i:Nat}
def J3{hi hz}(c:Wc X P w K mg base N W k sc)(r:j_ X e xa.m)(l:j_ X a (aa (ws:=ws) i).m)(y:j_ X b xb.m)(C:∀v,assign (.Subscript a b p) X.env v=(do
   let f <-holding [v] (eval a X.env)
   let j <-holding [v,f] (eval b X.env)
   standAt p
   holding [v,f,j] (setItem f j v)
   release [v,f,j] []))(u:swapsWithSole [.Subscript a b p] e pos.line X.env=pure T)(B:swappedStores [.Subscript a b p] e X.env=pure Y)(z:(assignEach [.Subscript a b p] X.env).map (·.2)=[assign (.Subscript a b p) X.env]):y3 X (.Assign [.Subscript a b p] e pos) (PU.lU i xa xb hi hz).m:=⟨nX r.h (vx c.g.room l.h y.h C) u B z⟩
def NZ(c:Wc X P w K mg base N W k sc):OJ X (compareOp .In) (PU.uu T):=⟨yw c.g.room T⟩
end
end MM
namespace PU
open MM L2
noncomputable section
def xR:B1 where
 k:=λxs h=>(B0 xs h).ne
 p:=λa=>match a with
  |[.dic f i]=>J (.int f.length)
  |_=>Y
 fr:=I
 ok {q h L O a xs d} bd w e:=by
  match a,e with
  |[.dic f i],e =>
   cases e;obtain⟨x,rfl,j⟩:=gJ w;obtain⟨xs,e1,r⟩:=j.dic.of;show Gv q h O I (B0 [x] h).ne _;simp only[B0,e1];exact CY
end
end PU
namespace MM
open PySem.Spec PyProof.Rows L2
section
variable{X:Cx}{P:Program}{w:World}{K:ib}{mg:UB}{base:Heap}{N W:UM}{k:Nat}{sc:Scope}
def J4(c:Wc X P w K mg base N W k sc):BB X "len" PU.xR:=.fn _ _ jo EU
end
end MM
namespace PU
open MM L2
noncomputable section
def N0:UR->Option (UN)
 |[]=>J []
 |.int i::r=>(N0 r).map (i::·)
 |_::_=>Y
def tL:D->Option (Int×UN)
 |.tup [.int i,.lst a]=>(N0 a).map (i,·)
 |_=>Y
def rW:UR->Option (List (Int×UN))
 |[]=>J []
 |d::r=>(tL d).bind λp=>(rW r).map (p::·)
def vV:∀{j:UR}{f:UN}{xs:UL}{q:Nat}{h:MH}{O:UQ},N0 j=J f->Rps q h O j xs->je xs=J f
 |[],_,_,_,_,_,e,r=>by cases e;rw[show _=[]from r];rfl
 |d::j,_,_,_,_,_,e,⟨x,t,e1,a,b⟩=>by
  subst e1
  cases d with
  |int i =>
   obtain⟨f,e2,rfl⟩:=vu.mp e;rw[show x=.int i from a];show(je t).map (i::·)=_;rw[vV e2 b];rfl
  |_=>cases e
def A8{d:D}{p:Int×UN}{x:PV}{q:Nat}{h:MH}{O:UQ}(e:tL d=J p)(r:Rp q h O d x):pN h x=J p:=by
 unfold tL at e
 split at e
 .rename_i i E
  obtain⟨C,e2,rfl⟩:=vu.mp e;obtain⟨xs,rfl,f⟩:=r;obtain⟨y,t,rfl,a,j⟩:=f;obtain⟨z,l,rfl,b,u⟩:=j;rw[show l=[]from u,show y=.int i from a];obtain⟨ys,e4,B⟩:=Vw.lstOf (L:=0) (.inl b);simp only[pN,e4,Cv,vV e2 B,GZ]
 .cases e
def nM:∀{i:UR}{f:List (Int×UN)}{xs:UL}{q:Nat}{h:MH}{O:UQ},rW i=J f->Rps q h O i xs->lq h xs=J f
 |[],_,_,_,_,_,e,r=>by cases e;rw[show _=[]from r];rfl
 |d::i,_,_,_,_,_,e,⟨x,t,e1,a,b⟩=>by
  subst e1;obtain⟨p,e2,e3⟩:=C3.mp e;obtain⟨f,e4,rfl⟩:=vu.mp e3;simp only[lq,A8 e2 a,nM e4 b,Cv,GZ]
end
noncomputable section
end
end PU
namespace MM
open PySem.Spec PyProof.Rows L2
section
variable{X:Cx}{P:Program}{w:World}{K:ib}{mg:UB}{base:Heap}{N W:UM}{k:Nat}{sc:Scope}{ws:UQ}{xa xb:PU.Xe ws}{a b:Expr}{p kp pos:Pos}(c:Wc X P w K mg base N W k sc)
include c
end
end MM
namespace Law
open PySem.Spec PyProof.Rows L2 MM
set_option maxHeartbeats 4000000
noncomputable section
def xq:lg:=(aZ (bp 2 (ah j3 (ah j0 (mC (.int 7919)) (ae 1)) (mC (.int 11))))
 (aZ (BN (mB (ah BU (ae 1) (wR BX (af (wR p9 (af (ae 0) h8)) (af (mC (.int 63)) h8))))) (bp 2 (ah aU (ae 0) (ae 1))) (BN (mB (ah BV (wR p9 (af (ae 0) h8)) (mC (.int 0)))) (bp 2 (ah j3 (ah kx (ah aU (ae 0) (ah kx (ae 1) (wR BX (af (wR p9 (af (ae 0) h8)) (af (mC (.int 63)) h8))))) (ah pk (mC (.int 10)) (mC (.int 15)))) (ah j0 (mC (.int 48271)) (ae 1)))) kw))
 (aZ (BN (mB (ah CQ (wR BW (af (ae 2) h8)) (ah pk (mC (.int 10)) (mC (.int 18))))) (bP (eX (af (mC (.int 1)) (af (wR BW (af (ae 2) h8)) (af (mC (.int 0)) h8))))) kw)
 (bP (eX (af (mC (.int 0)) (af (ah j3 (ah kx (ae 2) (mC (.int 2147483587))) (ah j0 (mC (.int 40009)) (ae 1))) (af (mC (.int 0)) h8))))))))
def fT:UL->MH->UZ:=cc 3 2 xq
def tt:lg:=(aZ (mW (ah j3 (ah aU (ae 0) (mC (.int 2))) (mC (.int 1))) (Md (ae 0) (mC (.int 2))))
 (aZ (BN (mB (ah BS (ah aU (ae 0) (mC (.int 0))) (mC (.int 1)))) (aZ (bp 3 (ah kx (ah aU (ae 0) (mC (.int 1))) (ae 1)))
 (aZ (mW (ah Cw (ah aU (ae 0) (mC (.int 1))) (ae 1)) (Md (ae 0) (mC (.int 1))))
 (bP (ae 3)))) kw)
 (aZ (bp 2 (ah kx (ah j0 (ah j3 (ah j3 (ah aU (ae 0) (mC (.int 1))) (ah j0 (mC (.int 40503)) (ah aU (ae 0) (mC (.int 2))))) (mC (.int 1))) (mC (.int 48271))) (mC (.int 2147483647))))
 (aZ (bp 2 (ah kx (ah j0 (ae 2) (ah j3 (ah j3 (ah kx (ae 2) (mC (.int 65521))) (ah aU (ae 0) (mC (.int 2)))) (mC (.int 3)))) (mC (.int 2147483629))))
 (bP (ah kx (ah Cw (ah kx (ah j0 (ae 2) (ah j3 (ah kx (ae 2) (mC (.int 8191))) (mC (.int 7)))) (mC (.int 2147483563))) (mC (.int 64))) (ae 1)))))))
def dj:UL->MH->UZ:=cc 4 2 tt
end
end Law
namespace Law
open MM PU
open SetT SortT
open L2 (wx mh gK)
set_option maxHeartbeats 4000000
noncomputable section
def fw:Xd []:=(bv (nR (CJ (E3 ["int"]) (aa 0)) (rY (CJ (E3 ["bool"]) (aa 0)))))
def fA:Fn:=b7 1 1 fw
def uE{a:UR}{s:g_}(h:a.length=1):fA.p a s=(fw.p (li 1 a) s).fin:=bB h
def fj:Xd []:=(bv (nR (ai fA (ab (aa 1) a_)) (oC Rm w5 (xC (.int 0)) (aa 1) (aa 0))))
def fB:Fn:=b7 2 2 fj
def uI{a:UR}{s:g_}(h:a.length=2):fB.p a s=(fj.p (li 2 a) s).fin:=bB h
def dA:Xd []:=(p0 (EZ (xB (ai fB (ab (aa 0) (ab (aa 1) a_))))) JD iw)
def bh:Fn:=b7 2 2 dA
def pW{a:UR}{s:g_}(h:a.length=2):bh.p a s=(dA.p (li 2 a) s).fin:=bB h
def de:Xd []:=(cu (aI (aa 1)) (i0 2) (fx (ai bh (ab (aa 0) (ab (aa 2) a_)))))
def cj:Fn:=b7 3 2 de
def nz{a:UR}{s:g_}(h:a.length=2):cj.p a s=(de.p (li 3 a) s).fin:=bB h
def dC:Xd []:=(bv (mm iB (ab (mm Po (ab (aG 1 [] (aI (aa 0)) (ws':=[]) (i0 0) jj (aJ (ab (mm eI (ab (aa 0) a_)) (ab (mm nY (ab (aa 0) a_)) a_)))) a_)) a_)))
def bg:Fn:=b7 1 1 dC
def oU{a:UR}{s:g_}(h:a.length=1):bg.p a s=(dC.p (li 1 a) s).fin:=bB h
def dQ:Xd []:=(aC (fx (ai bh (ab (ac i3 (aa 0) (xC (.int 0))) (ab (aa 1) a_))))
 (aC (bc 2 (aG 2 [1] (aI (ac i3 (aa 0) (xC (.int 1)))) (ws':=[]) (By (pq (i0 0) (pq (i0 1) Bu)) 2) (xB (ac y_ (aa 1) (aa 2))) (aa 0)))
 (aC (bc 3 (aG 2 [1] (aI (ac i3 (aa 0) (xC (.int 1)))) (ws':=[]) (By (pq (i0 0) (pq (i0 1) Bu)) 2) (xB (ac y_ (aa 0) (aa 2))) (aa 1)))
 (bv (ac bo (aa 2) (aa 3))))))
def br:Fn:=b7 4 2 dQ
def rN{a:UR}{s:g_}(h:a.length=2):br.p a s=(dQ.p (li 4 a) s).fin:=bB h
def dD:Xd [1]:=(aC (eK 1 (bM a_))
 (aC (cu (bG iE (ab (aa 0) a_)) (By (pq (i0 2) (pq (i0 3) Bu)) 2) (v_ i_ 1 (ab (aG 1 [3] (aI (K7 (aa 0) (K5 (ac bo (aa 2) (xC (.int 1)))) K4)) (ws':=[]) (i0 0) jj (aJ (ab (aa 1) (ab (aa 0) a_)))) a_)))
 (nF 1)))
def bT:Fn:=b7 4 1 dD
def pF{a:UR}{s:g_}(h:a.length=1):bT.p a s=(dD.p (li 4 a) s).fin:=bB h
def du:Xd []:=(bv (ai bT (ab (aG 1 [1] (aI (ai br (ab (aa 0) (ab (aa 2) a_)))) (ws':=[]) (i0 0) (xB (ac (wh T) (aa 0) (aa 1))) (aa 0)) a_)))
def bS:Fn:=b7 3 3 du
def oY{a:UR}{s:g_}(h:a.length=3):bS.p a s=(du.p (li 3 a) s).fin:=bB h
def d9:Xd []:=(bv (aG 1 [0] (aI (ai bS (ab (aa 0) (ab (aa 1) (ab (aa 2) a_))))) (ws':=[]) (i0 0) (xB (ac (wh I) (aa 0) (ac i3 (aa 1) (xC (.int 1))))) (aa 0)))
def bN:Fn:=b7 3 3 d9
def sD{a:UR}{s:g_}(h:a.length=3):bN.p a s=(d9.p (li 3 a) s).fin:=bB h
def dO:Xd []:=(aC (fx (ai bh (ab (ac i3 (aa 0) (xC (.int 0))) (ab (aa 2) a_))))
 (aC (fx (ai cj (ab (ac i3 (aa 0) (xC (.int 0))) (ab (aa 1) a_))))
 (aC (bc 3 (aG 1 [2] (aI (ac i3 (aa 0) (xC (.int 1)))) (ws':=[]) (i0 0) (xB (ac (wh I) (aa 1) (aa 0))) (aa 0)))
 (bv (aJ (ab (ac i3 (aa 0) (xC (.int 0))) (ab (ai bg (ab (ac bo (aa 3) (ai bS (ab (aa 0) (ab (aa 1) (ab (aa 2) a_))))) a_)) a_)))))))
def cw:Fn:=b7 4 3 dO
def rf{a:UR}{s:g_}(h:a.length=3):cw.p a s=(dO.p (li 4 a) s).fin:=bB h
def jm:Xd []:=(bv (ai bg (ab (aG 2 [0] (bG iE (ab (aa 0) a_)) (ws':=[]) (By (pq (i0 0) (pq (i0 1) Bu)) 2) jj (aJ (ab (ac i3 (aa 2) (ac bH (aa 0) (xC (.int 1)))) (ab (aa 1) a_)))) a_)))
def jg:Fn:=b7 1 1 jm
def BE{a:UR}{s:g_}(h:a.length=1):jg.p a s=(jm.p (li 1 a) s).fin:=bB h
def dB:Xd []:=(aC (bc 1 (ai jg (ab (aa 0) a_)))
 (bv (aG 1 [1] (aI (ai bg (ab (ai bT (ab (aa 0) a_)) a_))) (ws':=[]) (i0 0) (xB (ac (wh I) (aa 0) (aa 1))) (aa 0))))
def dz:Fn:=b7 2 1 dB
def oN{a:UR}{s:g_}(h:a.length=1):dz.p a s=(dB.p (li 2 a) s).fin:=bB h
def cX:Xd [4,5]:=(aC (eK 4 (bM (ab (bM (ab (aa 2) a_)) a_)))
 (aC (eK 5 (bM (ab (aa 2) a_)))
 (aC (K3 400 (Nm (aa 4)) (aC (kI 6 s_ 4 (ab (xC (.int 0)) a_))
 (aC (p0 (xB (ac y_ (ac i3 (aa 6) (CJ oK (xC (.int 1)))) (aa 3))) (bv (aa 6)) iw)
 (cu (aI (ai br (ab (aa 0) (ab (ac i3 (aa 6) (CJ oK (xC (.int 1)))) a_)))) (i0 7) (p0 (eV (xB (ac (wh T) (aa 7) (aa 1))) (xB (ac (wh I) (aa 7) (aa 5)))) (aC (v_ p8 5 (ab (aa 7) a_))
 (v_ p8 4 (ab (ac bo (aa 6) (bM (ab (aa 7) a_))) a_))) iw)))) jp)
 (bv (xC .non)))))
def bu:Fn:=b7 8 4 cX
def oA{a:UR}{s:g_}(h:a.length=4):bu.p a s=(cX.p (li 8 a) s).fin:=bB h
def eD:Xd []:=(aC (bc 1 (mm Ro (ab (ac i3 (aa 0) (xC (.int 0))) a_)))
 (aC (cu (aI (aa 1)) (i0 2) (aC (bc 3 (ai br (ab (aa 0) (ab (aa 2) a_))))
 (aC (bc 4 (aG 1 [2,3] (aI (aa 1)) (ws':=[]) (i0 0) (eV (xB (ac Az (aa 0) (aa 1))) (xB (ac (wh I) (aa 0) (aa 2)))) (aa 0)))
 (cu (aI (ai bN (ab (aa 0) (ab (aa 1) (ab (aa 2) a_))))) (By (pq (i0 5) (pq (i0 6) Bu)) 2) (aC (bc 7 (ai bu (ab (aa 0) (ab (ac bo (aa 4) (bM (ab (aa 6) a_))) (ab (aa 5) (ab (aa 6) a_))))))
 (p0 (xB (ac (Nc I) (aa 7) (xC .non))) (bv (ac bo (bM (ab (aa 2) a_)) (aa 7))) iw))))))
 (bv (xC .non))))
def cP:Fn:=b7 8 1 eD
def tX{a:UR}{s:g_}(h:a.length=1):cP.p a s=(eD.p (li 8 a) s).fin:=bB h
def eE:Xd []:=(bv (aJ (ab (ac i3 (aa 0) (xC (.int 0))) (ab (ai bg (ab (ac bo (mm lL (ab (ac i3 (aa 0) (xC (.int 1))) a_)) (bM (ab (aa 1) a_))) a_)) a_))))
def cO:Fn:=b7 2 2 eE
def sR{a:UR}{s:g_}(h:a.length=2):cO.p a s=(eE.p (li 2 a) s).fin:=bB h
def cF(F:Fn):Xd []:=(aC (p0 (xB (ac w5 (aa 1) (xC (.int 0)))) (bv (xC .non)) iw)
 (aC (bc 2 (ai cP (ab (aa 0) a_)))
 (aC (p0 (xB (ac Cr (ac bH (mm jI (ab (aa 2) a_)) (xC (.int 3))) (aa 1))) (bv (aJ (ab (xC (.str "need")) (ab (aa 2) a_)))) iw)
 (aC (bc 3 (aG 1 [0,1] (aI (ai dz (ab (aa 2) a_))) (ws':=[]) (i0 0) jj (ai F (ab (ai cO (ab (aa 1) (ab (aa 0) a_))) (ab (ac bH (aa 2) (xC (.int 1))) a_)))))
 (bv (aJ (ab (xC (.str "chords")) (ab (aa 2) (ab (mm iB (ab (aa 3) a_)) a_)))))))))
def aQ:Nat->Fn
 |0=>Gr (cc 4 2 λ_ _=>.bad)
 |n+1=>b7 4 2 (cF (aQ n))
def mw{n:Nat}{a:UR}{s:g_}(h:a.length=2):(aQ (n+1)).p a s=((cF (aQ n)).p (li 4 a) s).fin:=bB h
def cK:Fn:=aQ 70
def oJ{h:MH}{p:Nat}{o:MO}(a:p<h.length):(h.set p o)[p]?=J o:=xJ a
def Tw:wx 3 2=J 2:=u9 (n:=3) (m:=2) (by decide)
def Uc:wx 3 1=J 1:=u9 (n:=3) (m:=1) (by decide)
def jD(s:g_)(size:Int)(E:0<size)(M:size.natAbs.log2<9000):∃x:Int×Int,(0<=x.1/\x.1<size)/\∀(h:MH)(p:Nat),bF h p s->dj [.loc p,.int size] h=.ok (.int x.1) (h.set p (.lst [.int s.1,.int x.2,.int (s.2.2+1)])):=by
 obtain⟨m,c,t⟩:=s;have a:size≠0:=by ext
 have st:∀n:Int,0<=n.fmod size/\n.fmod size<size:=λn=>by
  rw[Op n (by ext)];exact⟨Qc n a,P1 n E⟩
 by_cases r:m=1
 .subst r;refine⟨(c.fmod size,c.fdiv size),st c,λh p e=>?_⟩;have e:h[p]?=J (.lst [.int 1,.int c,.int t]):=e;have j:p<h.length:=(oI.mp e).1;have e2:(h.set p (.lst [.int 1,.int c,.int (t+1)]))[p]?=J (.lst [.int 1,.int c,.int (t+1)]):=oJ j;unfold dj;refine(e9 (by rfl)).trans ?_;unfold tt;simp[bO,List.replicate,jH e,mQ e,Tw,jH e2,fR a,wF a M,mQ e2,Uc]
 .have f:∀n k:Int,0<k->0<=n.fmod k/\n.fmod k<k:=λn k B=>by
   rw[Op n (by ext)];exact⟨Qc n (by ext),P1 n B⟩
  generalize u:((c+40503*(t+1)+1)*48271).fmod 2147483647=A;have y:=f ((c+40503*(t+1)+1)*48271) 2147483647 (by decide);rw[u]at y;generalize l:(A*(A.fmod 65521+(t+1)+3)).fmod 2147483629=C;have z:=f (A*(A.fmod 65521+(t+1)+3)) 2147483629 (by decide);rw[l]at z;refine⟨((((C*(C.fmod 8191+7)).fmod 2147483563).fdiv 64).fmod size,c),st _,λh p e=>?_⟩;have e:h[p]?=J (.lst [.int m,.int c,.int t]):=e;have j:p<h.length:=(oI.mp e).1;have e2:(h.set p (.lst [.int m,.int c,.int (t+1)]))[p]?=J (.lst [.int m,.int c,.int (t+1)]):=oJ j;have L:-(2^64)<A/\A<2^64:=by ext
  have H:-(2^64)<C/\C<2^64:=by ext
  have F:∀{i:Int}{h:MH},j0 (.int 40503) (.int i) h=.ok (.int (40503*i)) h:=hU (by decide);have G:∀{i:Int}{h:MH},j0 (.int i) (.int 48271) h=.ok (.int (i*48271)) h:=Ef (by decide);unfold dj;refine(e9 (by rfl)).trans ?_;unfold tt;simp[bO,List.replicate,jH e,mQ e,Tw,jH e2,r,F,G,fR,u,hU L,l,hU H,wF (show(64:Int)≠0 by decide) (show(64:Int).natAbs.log2<9000 by decide +kernel),fR a]
open Classical in
def lP(s:g_)(size:Int):Int×Int:=if z:0<size/\size.natAbs.log2<9000 then(jD s size z.1 z.2).choose else(0,0)
def oz(a:UR):UW:=match a with
 |[.pen,.int i]=>J i
 |_=>Y
def yb{a:UR}{i:Int}(e:oz a=J i):a=[.pen,.int i]:=by
 unfold oz at e
 split at e
 .cases e;rfl
 .cases e
open Classical in
def aM:Fn where
 m:=dj
 p:=λa s=>match oz a with
  |some size=>if 0<size/\size.natAbs.log2<9000 then .ok (.int (lP s size).1) (s.1,(lP s size).2,s.2.2+1)else .bad
  |none=>.bad
 fr:=I
 ok {q h O vs a s} bd hq pn r:=by
  cases e:oz a with
  |none=>trivial
  |some size =>
   have:=yb e
   subst this;dsimp only;by_cases z:0<size/\size.natAbs.log2<9000
   .rw[b_ z];obtain⟨x,t,rfl,u,y,f,rfl,l,i⟩:=r;rw[show x=PV.loc q from u,show y=PV.int size from l,show f=[]from i];have k:=(jD s size z.1 z.2).choose_spec.2 h q pn;have B:lP s size=(jD s size z.1 z.2).choose:=by unfold lP;rw[dif_pos z]
    rw[<-B]at k;refine⟨_,_,k,⟨by simp,λn C j=>nr (Ne.symm j)⟩,oJ (aW pn),rfl,λ_ k a e=>by cases k<;>cases e⟩
   .rw[f_ z];trivial
open Classical in
theorem dw{s:g_}{size:Int}(f:0<size)(u:size<=2000000000):∃d i,0<=d/\d<size/\aM.p [.pen,.int size] s=.ok (.int d) i:=by
 have a:size.natAbs.log2<9000:=by
  have l:size.natAbs<=2000000000:=by ext
  have r:size.natAbs.log2<31:=(Nat.log2_lt (by ext)).mpr (by ext);ext
 have z:0<size/\size.natAbs.log2<9000:=⟨f,a⟩;have j:lP s size=(jD s size z.1 z.2).choose:=by unfold lP;rw[dif_pos z]
 have k:=(jD s size z.1 z.2).choose_spec.1;rw[<-j]at k;exact⟨_,_,k.1,k.2,by show(if 0<size/\size.natAbs.log2<9000 then _ else _)=_;rw[b_ z]⟩
def gv:Xd [2]:=(aC (eK 2 (bM a_))
 (aC (cu (bG w8 (ab (aa 1) a_)) (i0 3) (v_ xn 2 (ab (ai aM (ab (aa 0) (ab (ac bo (aa 3) (xC (.int 1))) a_))) (ab (aa 3) a_))))
 (nF 2)))
def dh:Fn:=b7 4 2 gv
def x4{a:UR}{s:g_}(h:a.length=2):dh.p a s=(gv.p (li 4 a) s).fin:=bB h
def iq:Xd []:=(bv (aJ (ab (aa 0) (ab (mm iB (ab (mm Po (ab (aG 2 [] (aI (aa 1)) (ws':=[]) (By (pq (i0 0) (pq (i0 1) Bu)) 2) jj (aJ (ab (mm k8 (ab (aa 0) (ab (aa 1) a_))) (ab (mm kT (ab (aa 0) (ab (aa 1) a_))) a_)))) a_)) a_)) a_))))
def cQ:Fn:=b7 2 2 iq
def zZ{a:UR}{s:g_}(h:a.length=2):cQ.p a s=(iq.p (li 2 a) s).fin:=bB h
def gr:Xd []:=(bv (aG 1 [0] (bG w8 (ab (mm jI (ab (aa 0) a_)) a_)) (ws':=[]) (i0 0) jj (aJ (ab (ac i3 (aa 1) (ac bH (aa 0) (xC (.int 1)))) (ab (ac i3 (aa 1) (aa 0)) a_)))))
def eZ:Fn:=b7 1 1 gr
def wZ{a:UR}{s:g_}(h:a.length=1):eZ.p a s=(gr.p (li 1 a) s).fin:=bB h
def jv:Xd [6]:=(aC (bc 2 (ai aM (ab (aa 0) (ab (ac bo (aa 1) (xC (.int 1))) a_))))
 (aC (bc 3 (ai dh (ab (aa 0) (ab (aa 2) a_))))
 (aC (bc 4 (ai aM (ab (aa 0) (ab (xC (.int 5)) a_))))
 (aC (bc 5 (ai aM (ab (aa 0) (ab (ac bo (aa 2) (xC (.int 1))) a_))))
 (aC (eK 6 (bM a_))
 (aC (cu (bG w8 (ab (aa 2) a_)) (i0 7) (aC (p0 (xB (ac w5 (aa 4) (xC (.int 2)))) (v_ i_ 6 (ab (aG 1 [7,0,4] (bG w8 (ab (aa 7) a_)) (ws':=[]) (i0 0) (xB (ac y_ (ai aM (ab (aa 2) (ab (ac bo (xC (.int 2)) (aa 3)) a_))) (xC (.int 0)))) (aJ (ab (aa 1) (ab (aa 0) a_)))) a_)) iw)
 (aC (p0 (xB (ac y_ (aa 4) (xC (.int 2)))) (v_ i_ 6 (ab (aG 1 [7,5] (bG w8 (ab (aa 7) a_)) (ws':=[]) (i0 0) (xB (ac Az (ac w5 (aa 1) (aa 2)) (ac w5 (aa 0) (aa 2)))) (aJ (ab (aa 1) (ab (aa 0) a_)))) a_)) iw)
 (p0 (xB (ac y_ (aa 4) (xC (.int 4)))) (v_ i_ 6 (ab (aG 1 [7,0,2] (bG w8 (ab (aa 7) a_)) (ws':=[]) (i0 0) (E0 (xB (ac (wh T) (ac bH (aa 1) (aa 0)) (aJ (ab (xC (.int 1)) (ab (ac bH (aa 3) (xC (.int 1))) a_))))) (xB (ac y_ (ai aM (ab (aa 2) (ab (xC (.int 6)) a_))) (xC (.int 0))))) (aJ (ab (aa 1) (ab (aa 0) a_)))) a_)) iw))))
 (aC (bc 8 (xC (.int 0)))
 (aC (K3 400 (eV (xB (ac y_ (aa 4) (xC (.int 3)))) (xB (ac Cr (ac bH (aa 2) (aa 8)) (xC (.int 2))))) (aC (bc 9 (ac bo (xC (.int 3)) (ai aM (ab (aa 0) (ab (ac bH (ac bH (aa 2) (aa 8)) (xC (.int 2))) a_)))))
 (aC (v_ i_ 6 (ab (ai eZ (ab (mm sv (ab (aa 8) (ab (ac bo (aa 8) (aa 9)) a_))) a_)) a_))
 (bc 8 (ac bo (aa 8) (aa 9))))) jp)
 (aC (p0 (xB (ac Cr (aa 2) (xC (.int 1)))) (aC (bc 10 (aG 1 [0,2] (bG w8 (ab (ai aM (ab (aa 0) (ab (xC (.int 3)) a_))) a_)) (ws':=[]) (i0 0) jj (aJ (ab (ai aM (ab (aa 1) (ab (aa 2) a_))) (ab (ai aM (ab (aa 1) (ab (aa 2) a_))) a_)))))
 (v_ i_ 6 (ab (aG 2 [] (aI (aa 10)) (ws':=[]) (By (pq (i0 0) (pq (i0 1) Bu)) 2) (xB (ac Az (aa 0) (aa 1))) (aJ (ab (aa 0) (ab (aa 1) a_)))) a_))) iw)
 (bv (ai cQ (ab (aa 2) (ab (aG 2 [3] (aI (aa 6)) (ws':=[]) (By (pq (i0 0) (pq (i0 1) Bu)) 2) jj (aJ (ab (ac i3 (aa 2) (aa 0)) (ab (ac i3 (aa 2) (aa 1)) a_)))) a_)))))))))))))
def im:Fn:=b7 11 2 jv
def Ay{a:UR}{s:g_}(h:a.length=2):im.p a s=(jv.p (li 11 a) s).fin:=bB h
def iF:Xd [2,4]:=(aC (eK 2 EY)
 (aC (cu (aI (ac i3 (aa 0) (xC (.int 1)))) (i0 3) (lU 2 (xC (.bl I)) (aa 3)))
 (aC (eK 4 (mm lL (ab (aa 1) a_)))
 (aC (K3 400 (xB (ac Az (aa 4) (bM a_))) (aC (kI 5 s_ 4 (ab (xC (.int 0)) a_))
 (aC (bc 6 (aG 1 [2,5] (aI (aa 4)) (ws':=[1]) (i0 0) (xB (ac (uu T) (aJ (ab (mm k8 (ab (aa 0) (ab (aa 2) a_))) (ab (mm kT (ab (aa 0) (ab (aa 2) a_))) a_))) (aa 1))) (aa 0)))
 (cu (aI (aa 6)) (i0 7) (cu (aI (aa 6)) (i0 8) (p0 (xB (ac w5 (aa 7) (aa 8))) (lU 2 (xC (.bl I)) (aJ (ab (aa 7) (ab (aa 8) a_)))) iw))))) jp)
 (bv (ac bH (mm xR (ab (aa 2) a_)) (mm jI (ab (ac i3 (aa 0) (xC (.int 1))) a_))))))))
def bU:Fn:=b7 9 2 iF
def zq{a:UR}{s:g_}(h:a.length=2):bU.p a s=(iF.p (li 9 a) s).fin:=bB h
def ft:Xd []:=(aC (p0 (xB (ac Cr (aa 1) (xC (.int 5)))) (bv (aG 1 [0,1] (bG w8 (ab (xC (.int 16)) a_)) (ws':=[]) (i0 0) jj (ai dh (ab (aa 1) (ab (aa 2) a_))))) iw)
 (aC (bc 2 (bM (ab (bM a_) a_)))
 (aC (cu (bG w8 (ab (aa 1) a_)) (i0 3) (sU 4 (bM a_) (cu (aI (aa 2)) (i0 5) (v_ i_ 4 (ab (aG 1 [5] (bG w8 (ab (aa 1) a_)) (ws':=[]) (i0 0) (xB (ac (wh I) (aa 0) (aa 1))) (ac bo (aa 1) (bM (ab (aa 0) a_)))) a_)))
 (bc 2 (aa 4)) (oo (by decide))))
 (bv (aa 2)))))
def cL:Fn:=b7 6 2 ft
def uR{a:UR}{s:g_}(h:a.length=2):cL.p a s=(ft.p (li 6 a) s).fin:=bB h
def bW(F:UL->MH->UZ):lg:=(aZ (bp 4 (wR xZ (af (dY 1 [2] (iQ (ae 1)) (Cm 0) (mB (ah Ae (ae 0) (ae 1))) (ae 0)) h8)))
 (aZ (bp 5 (bA F (af (bA cw.m (af (ae 0) (af (ae 1) (af (ae 2) h8)))) (af (ae 4) (af (ae 3) h8)))))
 (bP (iA (af (ah j3 (wR p9 (af (bA bN.m (af (ae 0) (af (ae 1) (af (ae 2) h8)))) h8)) (ah aU (ae 5) (mC (.int 0)))) (af (ah j3 (eX (af (ae 2) h8)) (ah aU (ae 5) (mC (.int 1)))) h8))))))
def ff(F:UL->MH->UZ):lg:=(aZ (BN (mB (ah (i5 I) (ae 1) (ae 2))) (mW (ah f9 (dY 1 [0,1,2] (iQ (ae 1)) (Cm 0) xQ (bA F (af (ae 1) (af (ae 2) (af (ae 0) (af (ae 3) h8)))))) (iA (af (mC (.int 0)) (af (eX h8) h8)))) (k6 (ae 2) (ae 1))) kw)
 (bP (ah jM (ae 2) (ae 1))))
def eY:Nat->UL->MH->UZ
 |0=>cc 3 3 (λ_ _=>.bad)
 |n+1=>cc 3 3 (ff (cc 6 4 (bW (eY n))))
def kJ:UL->MH->UZ:=eY 8
def Bz:lg:=(aZ (BN (mB (ah BV (ah aU (ae 0) (mC (.int 0))) (mC (.int 7)))) JC kw)
 (aZ (bp 1 (bA kJ (af (ae 0) (af (Ph (af (ah aU (ae 0) (mC (.int 0))) h8)) (af D_ h8)))))
 (bP (iA (af (ah aU (ae 1) (mC (.int 0))) (af (ah aU (ae 1) (mC (.int 1))) (af (bA cK.m (af (ae 0) (af (ah A0 (ah aU (ae 1) (mC (.int 0))) (mC (.int 1))) h8))) h8)))))))
def jq:UL->MH->UZ:=cc 2 1 Bz
def CZ:lg:=(aZ (mK (lv (af (mC (.int 2)) h8)) (Cm 1) (aZ (bp 2 (bA fT (af (ae 0) (af (ae 1) h8))))
 (aZ (bp 3 (bA im.m (af (ae 2) (af (ah aU (eX (af (mC (.int 5)) (af (mC (.int 7)) h8))) (ae 1)) h8))))
 (aZ (bp 4 (bA jq (af (ae 3) h8)))
 (aZ (bp 5 (dY 1 [3] (iQ (bA cL.m (af (ae 2) (af (ah aU (ae 3) (mC (.int 0))) h8)))) (Cm 0) xQ (bA bU.m (af (ae 1) (af (ae 0) h8)))))
 (aZ (BN (OP (mB (ah BU (wR A_ (af (ae 5) h8)) (ah aU (ae 4) (mC (.int 0))))) (mB (ah Ae (bA bU.m (af (ae 3) (af (ah aU (ae 4) (mC (.int 1))) h8))) (ah aU (ae 4) (mC (.int 0)))))) (bP (mC (.bl T))) kw)
 (aZ (BN (DP (mB (ah BU (ah aU (ae 3) (mC (.int 0))) (mC (.int 6)))) (mB (ah Ae (wR A_ (af (ae 5) h8)) (ah aU (ae 4) (mC (.int 0)))))) (bP (mC (.bl T))) kw)
 (BN (mB (ah BV (ah aU (ae 3) (mC (.int 0))) (mC (.int 1)))) (aZ (bp 6 (bA dj (af (ae 2) (af (ah aU (ae 3) (mC (.int 0))) h8))))
 (aZ (bp 7 (ah kx (ah oq (ah oq (ae 6) (mC (.int 1))) (bA dj (af (ae 2) (af (ah A0 (ah aU (ae 3) (mC (.int 0))) (mC (.int 1))) h8)))) (ah aU (ae 3) (mC (.int 0)))))
 (BN (mB (ah BU (ah aU (bA jq (af (bA cQ.m (af (ah aU (ae 3) (mC (.int 0))) (af (ah oq (ah aU (ae 3) (mC (.int 1))) (iA (af (iA (af (ae 6) (af (ae 7) h8))) h8))) h8))) h8)) (mC (.int 0))) (ah A0 (ah aU (ae 4) (mC (.int 0))) (mC (.int 1))))) (bP (mC (.bl T))) kw))) kw))))))))
 (bP (mC (.bl I))))
def Ct:UL->MH->UZ:=cc 8 1 CZ
end
end Law
namespace Law
open MM PU SetT SortT
open L2 (wx mh gK)
set_option maxHeartbeats 1000000
def Fm{i:Int}{s:g_}:fA.p [.int i] s=.ok (.bl I) s:=by rw[uE (by rfl)];unfold fw;simp[li,gP]
def Fo{n i:Int}{s:g_}:fB.p [.int n,.int i] s=.ok (.bl (decide (0<=i)&&decide (i<n))) s:=by rw[uI (by rfl)];unfold fj;by_cases z:0<=i<;>simp[li,Fm,z]
def pj{n i:Int}{s:g_}(a:0<=i)(f:i<n):bh.p [.int n,.int i] s=.ok .non s:=by rw[pW (by rfl)];unfold dA;simp[li,Fo,a,f]
abbrev Sb(d:D)(ks:UP):Prop:=d.items=J (ks.map kD)
def gC:∀(a:UP),gf (a.map kD)=J a
 |[]=>rfl
 |k::a=>by
  have:cN (kD k)=J k:=by
   show di (k.map .int)=J k
   induction k with
   |nil=>rfl
   |cons i k f=>rw[n9,di,f];rfl
  rw[n9,gf,this,gC a]
open Classical in
theorem Gx{ks:UP}(h:(∀k∈ks,k≠[])/\(SetT.l7 ks).length<=66):Po.p [.lst (ks.map kD)]=J (.lst ((cf (SetT.l7 ks)).map kD)):=by show(gf (ks.map kD)).bind _=_;rw[gC,Cv,b_ h]
def J5{a b:Int}:eI.p [.tup [.int a,.int b]]=J (.int (if b<a then b else a)):=by
 simp[eI,r9,D.items,di,lS,argBest]
 split<;>simp
def J6{a b:Int}:nY.p [.tup [.int a,.int b]]=J (.int (if b>a then b else a)):=by
 simp[nY,r9,D.items,di,lS,argBest]
 split<;>simp
def av(n:Int)(a:UP):D:=.tup [.int n,.tup (a.map kD)]
def xG{n v:Int}:∀(f:UP),(∀k∈f,∃a b:Int,k=[a,b]/\0<=a/\a<b/\b<n)->(((f.map kD).filter λx=>match x with|.tup [.int a,.int b]=>decide (b=v)|_=>T).map λx=>match x with|.tup [.int a,.int b]=>.int a|_=>.non)=(below v f).map D.int:=by
 intro f
 induction f with
 |nil=>intro _;rfl
 |cons k f l =>
  intro j;obtain⟨a,b,rfl,_⟩:=j k (by simp)
  have:=l λk i=>j k (lb _ i)
  by_cases z:b=v<;>simp[below,kD,z]at this ⊢<;>exact this
def wS{n v:Int}:∀(f:UP),(∀k∈f,∃a b:Int,k=[a,b]/\0<=a/\a<b/\b<n)->(((f.map kD).filter λx=>match x with|.tup [.int a,.int b]=>decide (a=v)|_=>T).map λx=>match x with|.tup [.int a,.int b]=>.int b|_=>.non)=(above v f).map D.int:=by
 intro f
 induction f with
 |nil=>intro _;rfl
 |cons k f l =>
  intro j;obtain⟨a,b,rfl,_⟩:=j k (by simp)
  have:=l λk i=>j k (lb _ i)
  by_cases z:a=v<;>simp[above,kD,z]at this ⊢<;>exact this
def y1(v:Int)(a:UP):UN:=below v a++above v a
def ya{n v:Int}{f:UP}{s:g_}(w:ia n f)(B:0<=v)(hv:v<n):br.p [av n f,.int v] s=.ok (.lst ((y1 v f).map .int)) s:=by
 have z:f.length<=66:=gn w.n12 w.tie w.nd;rw[rN (by rfl)];unfold dQ
 have r:=lI (ws:=[]) (ws':=[]) (env:=[J (av n f),J (.int v),Y,Y]) (s:=s) (fm:=[1]) (i:=aI (ac i3 (aa 0) (xC (.int 1)))) (t:=xB (ac y_ (aa 1) (aa 2))) (e:=aa 0) (ds:=f.map kD) (λx=>match x with|.tup [.int a,.int b]=>decide (b=v)|_=>T) (λx=>match x with|.tup [.int a,.int b]=>.int a|_=>.non) (by simp[av]) (by simp;ext) (λx l=>by
   obtain⟨k,j,rfl⟩:=nw.mp l;obtain⟨a,b,rfl,_⟩:=w.tie k j
   exact⟨.int a,.int b,rfl,by simp[kD],λ_=>by simp[kD]⟩)
 have u:=lI (ws:=[]) (ws':=[]) (env:=[J (av n f),J (.int v),J (.lst ((below v f).map .int)),Y]) (s:=s) (fm:=[1]) (i:=aI (ac i3 (aa 0) (xC (.int 1)))) (t:=xB (ac y_ (aa 0) (aa 2))) (e:=aa 1) (ds:=f.map kD) (λx=>match x with|.tup [.int a,.int b]=>decide (a=v)|_=>T) (λx=>match x with|.tup [.int a,.int b]=>.int b|_=>.non) (by simp[av]) (by simp;ext) (λx l=>by
   obtain⟨k,j,rfl⟩:=nw.mp l;obtain⟨a,b,rfl,_⟩:=w.tie k j
   exact⟨.int a,.int b,rfl,by simp[kD],λ_=>by simp[kD]⟩)
 rw[xG f w.tie]at r;rw[wS f w.tie]at u;have bl:(below v f).length<=66:=mu (Ot _ _) z;have E:(above v f).length<=66:=mu (Ot _ _) z;have C:(fx (ai bh (ab (ac i3 (aa 0) (xC (.int 0))) (ab (aa 1) a_))):Xd []).p (li 4 [av n f,.int v]) s=.nx [J (av n f),J (.int v),Y,Y] s:=by simp[li,av,pj B hv]
 rw[az,C,PU.ak,az,bw,r,Pg,PU.ak,az,bw];show(((aG 2 [1] _ _ _ _ _ _).p [J (av n f),J (.int v),J (.lst ((below v f).map .int)),Y] s).go _ _ |>.then _).fin=_;rw[u];simp[fg (x:=(below v f).map .int) (y:=(above v f).map .int) (by simp;ext),y1]
def qT(n:Nat):cm 0 n=(c_ n).map .int:=by simp[cm,c_]
def BC{ns:UN}{j:Nat}(a:j<=ns.length):mD (ns.map D.int) (J (j:Int)) Y=(ns.drop j).map .int:=by unfold mD;rw[HT.BJ,q7,HT.DF,KD a,List.map_drop];exact Lc (by simp)
def fe{f:UQ}{env:aq}{s s1:g_}{o:CL}{i:Nat}{a:Xs f}{j:f.contains i=I}{l:a.fz=I}{as ds ds':UR}{r:D}(e1:a.p env s=.ok as s1)(e2:env[i]?=J (J (.lst ds)))(e3:o.p ds as=J (r,ds')):(v_ o i a j l).p env s=.nx (env.set i (J (.lst ds'))) s1:=by rw[Ni,nD e1 e2 e3]
def mO{ns:UN}{j:Nat}{x:D}(e:(ns.map D.int)[j]?=J x):x=.int (ns.getD j 0)/\j<ns.length:=by rw[pr,vu]at e;obtain⟨i,e1,rfl⟩:=e;obtain⟨a,f⟩:=oI.mp e1;exact⟨by simp[List.getD,e1],a⟩
local macro_rules | `(tactic| simp! [$a,*]) => `(tactic| simp only [$a,*, Pb, ag, am, ar, au])
local macro_rules | `(tactic| dsimp! [$a,*]) => `(tactic| simp only [$a,*, Pb, am, au])
def A3{n:Int}{left:UN}{d:D}{s:g_}(hd:d.items=J (left.map .int))(h:∀x∈left,0<=x/\x<n):cj.p [.int n,d] s=.ok .non s:=by
 rw[nz (by rfl)];unfold de;obtain⟨f,a,e,z,rfl,B⟩:=cZ (g:=(i0 2:Xg []).p) (b:=(fx (ai bh (ab (aa 0) (ab (aa 2) a_))):Xd []).p)
  (λj env a=>∃z,env=[J (.int n),J (d),z]/\a=s) (left.map .int) 0 [J (.int n),J (d),Y] s ⟨Y,rfl,rfl⟩ (λj env a e ⟨z,y,u⟩ r=>by
   subst y u;obtain⟨i,l,rfl⟩:=nw.mp (Ci r)
   exact⟨[J (.int n),J (d),J (.int i)],[J (.int n),J (d),J (.int i)],a,rfl,by simp[pj (h i l).1 (h i l).2],_,rfl,rfl⟩)
 rw[B]at e;rw[show li 3 [D.int n,d]=[J (.int n),J (d),Y]from rfl,dy,fJ];dsimp![hd,Pf,Pg];rw[e];rfl
def ji{n:Int}{f:UP}(l:0<=n)(i:n<=12)(r:∀k∈f,∃a b:Int,k=[a,b]/\0<=a/\a<b/\b<n):ia n (cf (SetT.l7 f)) :=
 ⟨l,i,λk j=>r k ((SetT.fL k f).mp ((cg _).mem_iff.mp j)),jL _,(cg _).symm.nodup (i8 f)⟩
def k9{n:Int}{f:UP}(i:n<=12)(l:∀k∈f,∃a b:Int,k=[a,b]/\0<=a/\a<b/\b<n):(SetT.l7 f).length<=66 :=
 gn i (λk j=>l k ((SetT.fL k f).mp j)) (i8 f)
def tQ{n:Int}{f:UP}(r:∀k∈f,∃a b:Int,k=[a,b]/\0<=a/\a<b/\b<n):∀k∈f,IsT n k:=λk i=>by
 obtain⟨a,b,rfl,l,u,j⟩:=r k i;exact⟨a,b,rfl,l,by ext,by ext,j,by ext⟩
structure Ord(n:Nat)(qs:UN):Prop where
 n12:n<=12
 pm:qs.Perm (c_ n)
def Ord.len{n:Nat}{a:UN}(o:Ord n a):a.length=n:=by have:=o.pm.length_eq;simpa [c_]using this
def Ord.bd{n:Nat}{a:UN}(o:Ord n a):∀q∈a,0<=q/\q<(n:Int):=λq f=>aT.mp (o.pm.mem_iff.mp f)
def Ord.at{n:Nat}{a:UN}(o:Ord n a){j:Nat}(f:j<a.length):0<=a.getD j 0/\a.getD j 0<(n:Int):=o.bd _ (by
 have:a.getD j 0=a[j]:=by simp[List.getD,f]
 rw[this];exact OC f)
def kh{g:D->aq->Option aq}{t:aq->g_->PR Bool}{e:aq->g_->PR D}(S:aq->Prop)(P:D->Prop):∀(j:UR)(env:aq)(s:g_),S env ->
  (∀x∈j,∀env s,S env->∃a,g x env=J a/\S a/\∃b u,t a s=.ok b u/\(b=I->∃y F,e a u=.ok y F/\P y))->∃r L,dq g t e j env s=.ok r L/\r.length<=j.length/\∀y∈r,P y
 |[],env,s,G,f=>⟨[],s,rfl,by simp,by simp⟩
 |x::j,env,s,G,f=>by
  obtain⟨a,e1,l,b,u,e2,e3⟩:=f x (by simp) env s G;have i:=λy H=>f y (lb x H);rw[dq,e1];dsimp only;rw[e2,Pb]
  cases b with
  |true =>
   obtain⟨y,F,e4,py⟩:=e3 rfl;obtain⟨r,E,e5,M,B⟩:=kh S P j a F l i;refine⟨y::r,E,by simp only[if_true,e4,Pb,e5],by simp;ext,λz C=>?_⟩;rcases k4.mp C with rfl|C
   .exact py
   .exact B z C
  |false =>
   obtain⟨r,E,e5,M,B⟩:=kh S P j a u l i;exact⟨r,E,by simp only[o0,if_false,e5],by simp;ext,B⟩
def jX{ws ws':UQ}{env:aq}{s s0:g_}{fm:UQ}{i:Xi ws}{t:Xt ws'}{e:Xe ws'}{ds:UR}(P:D->Prop)(C:i.p env s=.ok ds s0)(G:ds.length<=100000)(a:∀x∈ds,∀s,∃b f,t.p (J x::fm.map λi=>(env[i]?).getD Y) s=.ok b f/\(b=I->∃y H,e.p (J x::fm.map λi=>(env[i]?).getD Y) f=.ok y H/\P y))(l:ws'.contains 0=T:=by exact ys rfl)(hw:CK 1 fm ws=ws':=by exact ys rfl)(hz:e.fz=I:=by exact ys rfl):
  ∃r j,(aG 1 fm i (i0 0 l) t e hw hz).p env s=.ok (.lst r) j/\r.length<=ds.length/\∀y∈r,P y:=by
 obtain⟨r,j,e1,B,E⟩:=kh (g:=(i0 0 l:Xg ws').p) (t:=t.p) (e:=e.p) (λv=>∃z,v=z::fm.map λi=>(env[i]?).getD Y) P ds (q_ 1 fm env) s0 ⟨Y,rfl⟩ λx F u s ⟨z,hz⟩=>by
  subst hz;obtain⟨b,f,e2,e3⟩:=a x F s;exact⟨_,rfl,⟨J x,rfl⟩,b,f,e2,e3⟩
 refine⟨r,j,?_,B,E⟩;rw[lN,C,Pb,b_ G,e1]
def cB{lo:Int}{c:Nat}:(cm lo c).length=c:=by simp[cm]
def sE{lo:Int}{c:Nat}{x:D}(h:x∈cm lo c):∃i:Int,x=.int i/\lo<=i/\i<lo+c:=by unfold cm at h;obtain⟨k,a,rfl⟩:=nw.mp h;rw[Ck]at a;exact⟨_,rfl,by ext,by ext⟩
def mH{c i:Nat}{x:D}(h:(cm 0 c)[i]?=J x):x=.int (i:Int)/\i<c:=by unfold cm at h;rw[pr,vu]at h;obtain⟨k,f,rfl⟩:=h;obtain⟨a,b⟩:=oI.mp f;simp at a b;subst b;exact⟨by simp,a⟩
def uV{n:Nat}{s:g_}(F:n<=12):∃f i,dh.p [.pen,.int n] s=.ok (.lst (f.map .int)) i/\Ord n f:=by
 rw[x4 (by rfl)];unfold gv;have G:li 4 [D.pen,.int n]=[J .pen,J (.int n),Y,Y]:=rfl;obtain⟨u,i,e,z,f,rfl,pm⟩:=cZ (g:=(i0 3:Xg [2]).p) (b:=(v_ xn 2 (ab (ai aM (ab (aa 0) (ab (ac bo (aa 3) (xC (.int 1))) a_))) (ab (aa 3) a_)):Xd [2]).p)
  (λj env i=>∃z f,env=[J .pen,J (.int n),J (.lst ((f:UN).map .int)),z]/\f.Perm (c_ j)) (cm 0 n) 0 [J .pen,J (.int n),J (.lst []),Y] s ⟨Y,[],rfl,by simp[c_]⟩ (λj env i d ⟨z,f,C,pm⟩ hd=>by
   rw[pu]at pm ⊢;subst C;obtain⟨rfl,H⟩:=mH hd;have B:f.length=j:=by have:=pm.length_eq;simpa [c_]using this
   obtain⟨d,l,y,L,E⟩:=dw (s:=i) (size:=(j:Int)+1) (by ext) (by ext);obtain⟨k,rfl⟩:=eG y;refine⟨[J .pen,J (.int n),J (.lst (f.map .int)),J (.int (j:Int))],[J .pen,J (.int n),J (.lst ((f.take k++(j:Int)::f.drop k).map .int)),J (.int (j:Int))],l,rfl,?_,_,f.take k++(j:Int)::f.drop k,rfl,?_⟩
   .rw[fe (s1:=l) (as:=[.int (k:Int),.int (j:Int)]) (ds:=f.map .int) (ds':=(f.take k++(j:Int)::f.drop k).map .int) (r:=.non) (by simp[E]) rfl (by
     rw[zg (by simp;ext) (by simp;ext)];simp)]
    rfl
   .have:(f.take k++((j:Int))::f.drop k).Perm (((j:Int))::f):=by
     have:=Lq (a:=(j:Int)) (l₁:=f.take k) (l₂:=f.drop k)
     rwa [FS]at this
    refine this.trans ((pm.cons _).trans ?_);have e1:c_ (j+1)=c_ j++[(j:Int)]:=by simp[c_,List.range_succ]
    rw[e1]
    exact(Sn _ _).symm)
 rw[cB,pu]at pm;refine⟨f,i,?_,F,pm⟩;rw[G,az,hX];simp![c7,Ca,wl,if_true,Pg,vv,t_,PU.ak,az,dy,fH];rw[iS (by ext),AO,Pf,Pg,e,PU.ak,vJ (d:=.lst (f.map .int)) rfl,PU.iu]
def kL{n:Int}{i:UP}(h:∀k∈i,IsT n k):∀k∈i.map n8,∃a b:Int,k=[a,b]/\0<=a/\a<b/\b<n:=λk j=>by
 obtain⟨l,f,rfl⟩:=nw.mp j;obtain⟨a,b,rfl,u,y,r,B,ne⟩:=h l f;rcases Ll ne with z|z
 .rw[yU z];exact⟨a,b,rfl,u,z,B⟩
 .rw[JB z];exact⟨b,a,rfl,r,z,y⟩
def B9(n:Nat)(y:D):Prop:=∃k,y=kD k/\IsT n k
def yS{n:Nat}:∀{ys:UR},(∀y∈ys,B9 n y)->∃a:UP,ys=a.map kD/\∀k∈a,IsT n k
 |[],_=>⟨[],rfl,(λ_ h=>nomatch h)⟩
 |y::ys,h=>by
  obtain⟨a,e,j⟩:=yS (ys:=ys) λy l=>h y (lb _ l);obtain⟨k,rfl,i⟩:=h y (by simp);exact⟨k::a,by rw[e];rfl,λx f=>(k4.mp f).elim (λq=>q▸i) (j x)⟩
def Fp{ws:UQ}{env:aq}{i:Nat}{ks:UP}{n:Int}{d:D}{s:g_}(hd:d.items=J (ks.map kD))(e:env[i]?=J (J d))(j:∀k∈ks,IsT n k)(u:ks.length<=100000)(l:CK 2 [] ws=[]){hz}:
  (aG 2 [] (aI (aa i)) (ws':=[]) (By (pq (i0 0) (pq (i0 1) Bu)) 2) jj (aJ (ab (mm k8 (ab (aa 0) (ab (aa 1) a_))) (ab (mm kT (ab (aa 0) (ab (aa 1) a_))) a_))) l hz:Xe ws).p env s=.ok (.lst ((ks.map n8).map kD)) s:=by
 have q:=lI (ws:=ws) (ws':=[]) (env:=env) (s:=s) (fm:=[]) (i:=aI (aa i)) (t:=jj) (e:=(aJ (ab (mm k8 (ab (aa 0) (ab (aa 1) a_))) (ab (mm kT (ab (aa 0) (ab (aa 1) a_))) a_)))) (ds:=ks.map kD) (λ_=>I) (λx=>match cN x with|some k=>kD (n8 k)|none=>.non) (by
  rw[fJ,E8 e,Pb,hd];rfl) (by simpa using u) (λx r=>by
   obtain⟨k,f,rfl⟩:=nw.mp r;obtain⟨a,b,rfl,_⟩:=j k f;refine⟨.int a,.int b,rfl,rfl,λ_=>?_⟩
   simp[kD,cN,di,n8]) (hw:=l) (hz:=hz)
 rw[fc,Bp]at q;rw[q,Bp];congr 2;refine FU λk f=>?_;obtain⟨a,b,rfl,_⟩:=j k f;rfl
def zL{n:Nat}{f:UP}{d:D}{s:g_}(hd:d.items=J (f.map kD))(B:n<=12)(j:∀k∈f,IsT n k)(z:f.length<=100000):cQ.p [.int (n:Int),d] s=.ok (av n (cf (SetT.l7 (f.map n8)))) s:=by have mt:=kL j;have r:=Gx (ks:=f.map n8) ⟨λk l=>by obtain⟨a,b,rfl,_⟩:=mt k l;simp,k9 (by ext) mt⟩;have u:∀{x y:D}{s:g_},(if [x,y].length<=100000 then PR.ok (D.tup [x,y]) s else .bad)=.ok (.tup [x,y]) s:=λ{x y s}=>b_ (by simp);rw[zZ (by rfl)];unfold iq;rw[show li 2 [.int (n:Int),d]=[J (.int (n:Int)),J d]from rfl];rw[cz,cG,ag,am,Pb,ag,cT,ag,cT,ag,Fp (ws:=[]) (i:=1) (ks:=f) hd rfl j z rfl];simp only[am,Pb,ar,r,Pf,mF,u,Pg,PU.iu,av]
structure Rg(n:Nat)(rs:UN):Prop where
 nd:rs.Nodup
 bd:∀x∈rs,0<=x/\x<(n:Int)
 n12:n<=12
 l3:3<=rs.length
def Rg.len{n:Nat}{a:UN}(g:Rg n a):a.length<=12:=by
 have:=List.Nodup.length_le_of_subset (l₂:=c_ 12) g.nd λx f=>by
  rw[aT];have:=g.bd x f;have:=g.n12;ext
 simpa [c_]using this
def Gy{a:UN}(nd:a.Nodup){i j:Nat}(f:i<a.length)(l:j<a.length)(e:a.getD i 0=a.getD j 0):i=j :=
 (List.getElem?_inj (i:=i) (j:=j) f nd).mp (by simp only[List.getD]at e;simp[f,l]at e ⊢;exact e)
def zy{n:Nat}{a:UN}(g:Rg n a){i j:Nat}(r:i<a.length)(l:j<a.length)(ne:i≠j):IsT n [a.getD i 0,a.getD j 0]:=by have u:=g.bd (a.getD i 0) (by simp[List.getD,r]);have f:=g.bd (a.getD j 0) (by simp[List.getD,l]);exact⟨_,_,rfl,u.1,u.2,f.1,f.2,λe=>ne (Gy g.nd r l e)⟩
def og{a:UN}{i:Nat}(f:i<a.length):mh (a.map D.int) (i:Int)=J (.int (a.getD i 0)):=L2.ik (by simp[List.getD,f])
def Fq{a:UN}{k:Nat}(f:k<a.length):mh (a.map D.int) ((k:Int)-1)=J (.int (a.getD (if k=0 then a.length-1 else k-1) 0)):=by
 by_cases z:k=0
 .subst z;rw[b_ rfl];unfold mh wx;rw[f_ (by ext),b_ (by simp;ext),Cv]
  have:(((0:Nat):Int)-1+((a.map D.int).length:Int)).toNat=a.length-1:=by simp;ext
  rw[this];simp[List.getD,show a.length-1<a.length by ext]
 .rw[f_ z,show(k:Int)-1=((k-1:Nat):Int) by ext];exact og (by ext)
def Fs{n:Nat}{a:UN}{s:g_}(g:Rg n a):∃f l,eZ.p [.lst (a.map .int)] s=.ok (.lst f) l/\f.length<=12/\∀y∈f,B9 n y:=by
 have C:=g.len;have l3:=g.l3;have u:∀{x y:D}{s:g_},(if [x,y].length<=100000 then PR.ok (D.tup [x,y]) s else .bad)=.ok (.tup [x,y]) s:=λ{x y s}=>b_ (by simp)
 obtain⟨r,l,q,F,B⟩:=jX (ws:=[]) (ws':=[]) (env:=[J (.lst (a.map .int))]) (s:=s) (s0:=s) (fm:=[0]) (i:=bG w8 (ab (mm jI (ab (aa 0) a_)) a_)) (t:=jj) (e:=aJ (ab (ac i3 (aa 1) (ac bH (aa 0) (xC (.int 1)))) (ab (ac i3 (aa 1) (aa 0)) a_))) (ds:=cm 0 a.length) (B9 n) (by
  simp only[fH,ag,cT,am,Pb,ar,zK,q7,Pf]
  rw[iS (by ext),AO];rfl) (by rw[cB];ext) (λx E s=>by
   obtain⟨i,rfl,z,G⟩:=sE E;obtain⟨k,rfl⟩:=eG z;refine⟨I,s,rfl,λ_=>⟨_,s,?_,_,rfl,zy g (i:=if k=0 then a.length-1 else k-1) (j:=k) (by split<;>ext) (by ext) (by split<;>ext)⟩⟩;simp![cG,aF,n9,Do,FR,C7,bC,aX,fV,Pf,j5,Fq (show k<a.length by ext),og (show k<a.length by ext),u]
   rfl)
 refine⟨r,l,?_,by rw[cB]at F;ext,B⟩;rw[wZ (by rfl)];unfold gr;rw[show li 1 [D.lst (a.map .int)]=[J (.lst (a.map .int))]from rfl,cz,q];rfl
variable{M:Int}
def rR{x y:D}{s:g_}:(if [x,y].length<=100000 then PR.ok (D.tup [x,y]) s else .bad)=.ok (.tup [x,y]) s:=b_ (by simp)
abbrev wE(M:Int)(n:Nat)(qs:UN)(way cut:Int)(ps:UR)(z7 z8 z9 z10:UC):aq:=[J .pen,J (.int M),J (.int n),J (.lst (qs.map .int)),J (.int way),J (.int cut),J (.lst ps),z7,z8,z9,z10]
def xO{n:Nat}{qs:UN}{way cut:Int}{ps:UR}{z7 z8 z9 z10:UC}{t:Xt [6]}{c:Xe [6]}{b:Bool}{s:g_}{hi hz}(i:t.p (wE M n qs way cut ps z7 z8 z9 z10) s=.ok b s)(u:b=I->∃r f,c.p (wE M n qs way cut ps z7 z8 z9 z10) s=.ok (.lst r) f/\r.length<=12/\∀y∈r,B9 n y)(z:ps.length<=1000)(pt:∀y∈ps,B9 n y):
  ∃a f,(p0 t (v_ i_ 6 (ab c a_) hi hz) iw:Xd [6]).p (wE M n qs way cut ps z7 z8 z9 z10) s=.nx (wE M n qs way cut a z7 z8 z9 z10) f/\a.length<=ps.length+12/\∀y∈a,B9 n y:=by
 rw[dn,i,Pg]
 cases b with
 |false=>exact⟨ps,s,rfl,by ext,pt⟩
 |true =>
  obtain⟨r,f,e,B,l⟩:=u rfl;exact⟨ps++r,f,fe (s1:=f) (as:=[.lst r]) (ds:=ps) (ds':=ps++r) (r:=.non) (by rw[ag,e];rfl) rfl (gA (by ext)),by rw[z_];ext,λy j=>(lT.mp j).elim (pt y) (l y)⟩
def N1{n j k:Nat}(f:j<n)(a:k<j):B9 n (.tup [.int (j:Int),.int (k:Int)]):=⟨[(j:Int),(k:Int)],rfl,_,_,rfl,by ext,by ext,by ext,by ext,by ext⟩
def tw{n j:Nat}{z:UN}{a cut:Int}{B:UR}{u C f:UC}{fm:UQ}{t:Xt []}{hw hz}{s:g_}(E:j<n)(n12:n<=12)(F:∀k:Nat,k<j->∀s,∃b l,t.p (J (.int (k:Int))::J (.int (j:Int))::fm.map λi=>((wE M n z a cut B (J (.int (j:Int))) u C f)[i]?).getD Y) s=.ok b l):
  ∃r O,(aG 1 (7::fm) (bG w8 (ab (aa 7) a_)) (ws':=[]) (i0 0) t (aJ (ab (aa 1) (ab (aa 0) a_))) hw hz:Xe [6]).p (wE M n z a cut B (J (.int (j:Int))) u C f) s=.ok (.lst r) O/\r.length<=12/\∀y∈r,B9 n y:=by
 obtain⟨r,l,q,P,H⟩:=jX (ws:=[6]) (ws':=[]) (env:=wE M n z a cut B (J (.int (j:Int))) u C f) (s:=s) (s0:=s) (fm:=7::fm) (i:=bG w8 (ab (aa 7) a_)) (t:=t) (e:=aJ (ab (aa 1) (ab (aa 0) a_))) (ds:=cm 0 j) (B9 n) (by
  simp![fH]
  rw[iS (by ext),AO];rfl) (by rw[cB];ext) (λx L s=>by
   obtain⟨i,rfl,G,Q⟩:=sE L;obtain⟨k,rfl⟩:=eG G;obtain⟨b,l,e⟩:=F k (by ext) s;refine⟨b,l,e,λ_=>⟨_,l,?_,N1 E (k:=k) (by ext)⟩⟩
   simp![cG,n9,FQ,FR,C7,rR]) (hw:=hw) (hz:=hz)
 rw[cB]at P;exact⟨r,l,q,by ext,H⟩
abbrev Tx:Xd [6]:=(aC (p0 (xB (ac w5 (aa 4) (xC (.int 2)))) (v_ i_ 6 (ab (aG 1 [7,0,4] (bG w8 (ab (aa 7) a_)) (ws':=[]) (i0 0) (xB (ac y_ (ai aM (ab (aa 2) (ab (ac bo (xC (.int 2)) (aa 3)) a_))) (xC (.int 0)))) (aJ (ab (aa 1) (ab (aa 0) a_)))) a_)) iw)
 (aC (p0 (xB (ac y_ (aa 4) (xC (.int 2)))) (v_ i_ 6 (ab (aG 1 [7,5] (bG w8 (ab (aa 7) a_)) (ws':=[]) (i0 0) (xB (ac Az (ac w5 (aa 1) (aa 2)) (ac w5 (aa 0) (aa 2)))) (aJ (ab (aa 1) (ab (aa 0) a_)))) a_)) iw)
 (p0 (xB (ac y_ (aa 4) (xC (.int 4)))) (v_ i_ 6 (ab (aG 1 [7,0,2] (bG w8 (ab (aa 7) a_)) (ws':=[]) (i0 0) (E0 (xB (ac (wh T) (ac bH (aa 1) (aa 0)) (aJ (ab (xC (.int 1)) (ab (ac bH (aa 3) (xC (.int 1))) a_))))) (xB (ac y_ (ai aM (ab (aa 2) (ab (xC (.int 6)) a_))) (xC (.int 0))))) (aJ (ab (aa 1) (ab (aa 0) a_)))) a_)) iw)))
def Sd{n j:Nat}{qs:UN}{a cut:Int}{l:UR}{z8 z9 z10:UC}{s:g_}(r:j<n)(n12:n<=12)(w0:0<=a)(pl:l.length<=900)(pt:∀y∈l,B9 n y):
  ∃f U,Tx.p (wE M n qs a cut l (J (.int (j:Int))) z8 z9 z10) s=.nx (wE M n qs a cut f (J (.int (j:Int))) z8 z9 z10) U/\f.length<=l.length+36/\∀y∈f,B9 n y:=by
 obtain⟨W,i,C,l1,S⟩:=xO (n:=n) (qs:=qs) (way:=a) (cut:=cut) (ps:=l) (z7:=J (.int (j:Int))) (z8:=z8) (z9:=z9) (z10:=z10) (s:=s) (t:=xB (ac w5 (aa 4) (xC (.int 2)))) (c:=aG 1 [7,0,4] (bG w8 (ab (aa 7) a_)) (ws':=[]) (i0 0) (xB (ac y_ (ai aM (ab (aa 2) (ab (ac bo (xC (.int 2)) (aa 3)) a_))) (xC (.int 0)))) (aJ (ab (aa 1) (ab (aa 0) a_)))) (b:=decide (a<2)) (hi:=rfl) (hz:=rfl) (by simp) (λz=>tw r n12 λk B s=>by
   have:a<2:=of_decide_eq_true z
   obtain⟨d,i,E,Z,u⟩:=dw (s:=s) (size:=2+a) (by ext) (by ext)
   exact⟨_,i,by simp![eT,aF,aE,n9,Do,FQ,FR,C7,bC,aX,ic,Pf,u,rS,jy,Pl];rfl⟩) (by ext) pt
 obtain⟨O,X,F,l2,G⟩:=xO (n:=n) (qs:=qs) (way:=a) (cut:=cut) (ps:=W) (z7:=J (.int (j:Int))) (z8:=z8) (z9:=z9) (z10:=z10) (s:=i) (t:=xB (ac y_ (aa 4) (xC (.int 2)))) (c:=aG 1 [7,5] (bG w8 (ab (aa 7) a_)) (ws':=[]) (i0 0) (xB (ac Az (ac w5 (aa 1) (aa 2)) (ac w5 (aa 0) (aa 2)))) (aJ (ab (aa 1) (ab (aa 0) a_)))) (b:=decide (a=2)) (hi:=rfl) (hz:=rfl) (by simp) (λz=>tw r n12 λk B s=>by
   exact⟨_,s,by dsimp![eT,aF,n9,Do,FQ,FR,C7,nI,Pf,nZ,Jz,Pl];rfl⟩) (by ext) S
 obtain⟨H,R,P,l3,L⟩:=xO (n:=n) (qs:=qs) (way:=a) (cut:=cut) (ps:=O) (z7:=J (.int (j:Int))) (z8:=z8) (z9:=z9) (z10:=z10) (s:=X) (t:=xB (ac y_ (aa 4) (xC (.int 4)))) (c:=aG 1 [7,0,2] (bG w8 (ab (aa 7) a_)) (ws':=[]) (i0 0) (E0 (xB (ac (wh T) (ac bH (aa 1) (aa 0)) (aJ (ab (xC (.int 1)) (ab (ac bH (aa 3) (xC (.int 1))) a_))))) (xB (ac y_ (ai aM (ab (aa 2) (ab (xC (.int 6)) a_))) (xC (.int 0))))) (aJ (ab (aa 1) (ab (aa 0) a_)))) (b:=decide (a=4)) (hi:=rfl) (hz:=rfl) (by simp) (λz=>tw r n12 λk B s=>by
   have Q:=iO (neg:=T) (x:=(j:Int)-(k:Int)) (d:=.tup [.int 1,.int ((n:Int)-1)]) (xs:=[1,(n:Int)-1]) rfl;obtain⟨d,i,E,Z,u⟩:=dw (s:=s) (size:=6) (by decide) (by decide);have e:∀b:Bool,((if b=I then PR.ok I s else PR.ok (decide (d=0)) i):PR Bool)=.ok (if b=I then I else decide (d=0)) (if b=I then s else i):=λb=>by cases b<;>rfl
   refine⟨_,_,Eq.trans ?_ (e (decide ((j:Int)-(k:Int)∈[1,(n:Int)-1])))⟩
   simp![Gs,eT,aF,aE,n9,Do,FQ,FR,C7,fV,Pf,cG,bC,aX,rR,Gu,Q,Pl,u,rS,jy,o0,if_false]) (by ext) G
 refine⟨H,R,?_,by ext,L⟩;rw[az,C,PU.ak,az,F,PU.ak,P]
def hZ(k:UN):cN (kD k)=J k:=by
 have:=gC [k]
 simp only[n9,Do,gf]at this;revert this
 cases cN (kD k) with
 |none=>intro h;cases h
 |some y=>intro h;simp at h;rw[h]
def xo{a:UQ}{N:Nat}{t:Xt a}{b:Xd a}(f:∀{Z h n},b9 t.m b.m n Z h≠.bad->Ie t.m b.m Z h=b9 t.m b.m n Z h){env:aq}{s:g_}:(K3 N t b f).p env s=eU t.p b.p N env s:=rfl
def Ft{n v:Int}{a:UP}(w:ia n a):(below v a++above v a).length<=12:=by
 have:=List.Nodup.length_le_of_subset (l₂:=c_ 12) (kB (v:=v) w).1 λx f=>by
  rw[aT]
  have:=(kB (v:=v) w).2 x f
  have:=w.n12
  ext
 simpa [c_]using this
variable{M:Int}
abbrev Tz:Xt [6]:=(eV (xB (ac y_ (aa 4) (xC (.int 3)))) (xB (ac Cr (ac bH (aa 2) (aa 8)) (xC (.int 2)))))
abbrev TB:Xd [6]:=(aC (bc 9 (ac bo (xC (.int 3)) (ai aM (ab (aa 0) (ab (ac bH (ac bH (aa 2) (aa 8)) (xC (.int 2))) a_)))))
 (aC (v_ i_ 6 (ab (ai eZ (ab (mm sv (ab (aa 8) (ab (ac bo (aa 8) (aa 9)) a_))) a_)) a_))
 (bc 8 (ac bo (aa 8) (aa 9)))))
def J7{i j:Int}(h:(-10000<=i/\i<=10000) /\ -10000<=j/\j<=10000):sv.p [.int i,.int j]=J (.lst (cm i (j-i).toNat)):=b_ h
def J8{n lo m:Nat}(n12:n<=12)(f:3<=m)(r:lo+m<=n):Rg n ((List.range m).map λi:Nat=>(lo:Int)+(i:Int)):=by
 refine⟨List.Pairwise.map (R:=λa b:Nat=>a≠b) _ (λa b h z=>h (by ext)) OB,λx j=>?_,n12,by simpa using f⟩;obtain⟨i,l,rfl⟩:=nw.mp j
 have:=Ck.mp l
 ext
def J9{n:Nat}{qs:UN}{way cut:Int}{z7 z10:UC}(n12:n<=12):∀(N lo:Nat)(f:UR)(l:UC)(s:g_),n-lo+1<=N->lo<=n->f.length+12*(n-lo)<=900->(∀y∈f,B9 n y) ->
  ∃a u j B,eU Tz.p TB.p N (wE M n qs way cut f z7 (J (.int (lo:Int))) l z10) s=.nx (wE M n qs way cut a z7 u j z10) B/\a.length<=900/\∀y∈a,B9 n y:=by
 intro N
 induction N with
 |zero=>intro _ _ _ _ h;ext
 |succ N S =>
  intro lo f l s hN R Z pt;have F:Tz.p (wE M n qs way cut f z7 (J (.int (lo:Int))) l z10) s=.ok (decide (way=3)&&decide (2<(n:Int)-(lo:Int))) s:=by by_cases z:way=3<;>simp[z]
  rw[eU,F,Pg];by_cases z:way=3/\2<(n:Int)-(lo:Int)
  .rw[b_ (by simp[z.1,z.2])];obtain⟨d,Q,W,d1,H⟩:=dw (s:=s) (size:=(n:Int)-(lo:Int)-2) (by ext) (by ext);obtain⟨m,L⟩:=eG (i:=3+d) (by ext);obtain⟨r,C,U,X,rt⟩:=Fs (s:=Q) (J8 (lo:=lo) (m:=m) n12 (by ext) (by ext));have G:sv.p [.int (lo:Int),.int ((lo:Int)+(m:Int))]=J (.lst (((List.range m).map λi:Nat=>(lo:Int)+(i:Int)).map .int)):=by
    rw[J7 ⟨⟨by ext,by ext⟩,by ext,by ext⟩,show((lo:Int)+(m:Int)-(lo:Int)).toNat=m by ext,Bp];rfl
   obtain⟨a,u,j,B,e,E,O⟩:=S (lo+m) (f++r) (J (.int (m:Int))) C (by ext) (by ext) (by
    rw[z_];ext) λy P=>(lT.mp P).elim (pt y) (rt y)
   refine⟨a,u,j,B,?_,E,O⟩;rw[<-e];have st:TB.p (wE M n qs way cut f z7 (J (.int (lo:Int))) l z10) s=.nx (wE M n qs way cut (f++r) z7 (J (.int ((lo+m:Nat):Int))) (J (.int (m:Int))) z10) C:=by
    rw[az,bw];simp![aF,bC,aX,aE,fV,Pf,H,ic,L,Pg,vv,t_,PU.ak]
    rw[az,fe (s1:=C) (as:=[.lst r]) (ds:=f) (ds':=f++r) (r:=.non) (by
     simp![aE,cT,aF,ic,Pf,G,U]) rfl (gA (by ext)),PU.ak]
    simp
   rw[st];rfl
  .refine⟨f,J (.int (lo:Int)),l,s,?_,by ext,pt⟩;rw[f_ (by simpa using z)]
abbrev Ud:Xd [6]:=(p0 (xB (ac Cr (aa 2) (xC (.int 1)))) (aC (bc 10 (aG 1 [0,2] (bG w8 (ab (ai aM (ab (aa 0) (ab (xC (.int 3)) a_))) a_)) (ws':=[]) (i0 0) jj (aJ (ab (ai aM (ab (aa 1) (ab (aa 2) a_))) (ab (ai aM (ab (aa 1) (ab (aa 2) a_))) a_)))))
 (v_ i_ 6 (ab (aG 2 [] (aI (aa 10)) (ws':=[]) (By (pq (i0 0) (pq (i0 1) Bu)) 2) (xB (ac Az (aa 0) (aa 1))) (aJ (ab (aa 0) (ab (aa 1) a_)))) a_))) iw)
def Se{n:Nat}{qs:UN}{way cut:Int}{f:UR}{z7 z8 z9 z10:UC}{s:g_}(n12:n<=12)(pl:f.length<=900)(pt:∀y∈f,B9 n y):
  ∃j l s',Ud.p (wE M n qs way cut f z7 z8 z9 z10) s=.nx (wE M n qs way cut j z7 z8 z9 l) s'/\j.length<=902/\∀y∈j,B9 n y:=by
 have R:(xB (ac Cr (aa 2) (xC (.int 1))):Xt [6]).p (wE M n qs way cut f z7 z8 z9 z10) s=.ok (decide ((1:Int)<(n:Int))) s:=by simp
 rw[dn,R,Pg];by_cases z:(1:Int)<(n:Int)
 .rw[b_ (by simpa using z)];obtain⟨d,X,Q,d1,U⟩:=dw (s:=s) (size:=3) (by decide) (by decide);obtain⟨m,rfl⟩:=eG Q
  obtain⟨r,G,q,hl,L⟩:=jX (ws:=[6]) (ws':=[]) (env:=wE M n qs way cut f z7 z8 z9 z10) (s:=s) (s0:=X) (fm:=[0,2]) (i:=bG w8 (ab (ai aM (ab (aa 0) (ab (xC (.int 3)) a_))) a_)) (t:=jj) (e:=aJ (ab (ai aM (ab (aa 1) (ab (aa 2) a_))) (ab (ai aM (ab (aa 1) (ab (aa 2) a_))) a_))) (ds:=cm 0 m) (λy=>∃a b:Int,y=.tup [.int a,.int b]/\0<=a/\a<n/\0<=b/\b<n) (by
   simp![fH,aE,bC,aX,U]
   rw[iS (by ext),AO];rfl) (by rw[cB];ext) (λx O s=>by
    obtain⟨a,s3,E,B,qa⟩:=dw (s:=s) (size:=(n:Int)) (by ext) (by ext);obtain⟨b,S,F,u,Z⟩:=dw (s:=s3) (size:=(n:Int)) (by ext) (by ext);refine⟨I,s,rfl,λ_=>⟨_,S,?_,a,b,rfl,E,B,F,u⟩⟩
    simp![cG,aE,n9,Do,FQ,FR,C7,qa,Z,rR])
  rw[cB]at hl
  have H:=lI (ws:=[6]) (ws':=[]) (env:=wE M n qs way cut f z7 z8 z9 (J (.lst r))) (s:=G) (fm:=[]) (i:=aI (aa 10)) (t:=xB (ac Az (aa 0) (aa 1))) (e:=aJ (ab (aa 0) (ab (aa 1) a_))) (ds:=r) (λx=>match x with|.tup [.int a,.int b]=>!decide (a=b)|_=>T) (λx=>x) (by simp) (by ext) (λx O=>by
   obtain⟨a,b,rfl,_⟩:=L x O
   exact⟨.int a,.int b,rfl,by simp,λ_=>by simp⟩)
  rw[List.map_id']at H;have fl:=C5 (λx:D=>match x with|.tup [.int a,.int b]=>!decide (a=b)|_=>T) r;refine⟨f++r.filter λx=>match x with|.tup [.int a,.int b]=>!decide (a=b)|_=>T,J (.lst r),G,?_,by rw[z_];ext,λy C=>(lT.mp C).elim (pt y) λC=>?_⟩
  .rw[az,bw,q,Pg];simp only[vv,t_,PU.ak];exact fe (s1:=G) (as:=[.lst _]) (ds:=f) (ds':=f++_) (r:=.non) (by rw[ag,H];rfl) rfl (gA (by ext))
  .obtain⟨P,W⟩:=n3.mp C;obtain⟨a,b,rfl,E,B,F,u⟩:=L y P;exact⟨[a,b],rfl,a,b,rfl,E,B,F,u,by simpa using W⟩
 .rw[f_ (by simpa using z)];exact⟨f,z10,s,rfl,by ext,pt⟩
def N2{n:Nat}{f:UN}{way cut:Int}{l:UP}{z7 z8 z9 z10:UC}{s:g_}(o:Ord n f)(C:∀k∈l,IsT n k)(Q:l.length<=902):
  ∃u:UP,(aG 2 [3] (aI (aa 6)) (ws':=[]) (By (pq (i0 0) (pq (i0 1) Bu)) 2) jj (aJ (ab (ac i3 (aa 2) (aa 0)) (ab (ac i3 (aa 2) (aa 1)) a_))):Xe [6]).p (wE M n f way cut (l.map kD) z7 z8 z9 z10) s=.ok (.lst (u.map kD)) s/\(∀k∈u,IsT n k)/\u.length<=902:=by
 have R:=o.len;have nd:f.Nodup:=o.pm.symm.nodup (cE n);refine⟨l.map λk=>match k with|[a,b]=>[f.getD a.toNat 0,f.getD b.toNat 0]|_=>[],?_,λk r=>?_,by simpa using Q⟩
 .have F:=lI (ws:=[6]) (ws':=[]) (env:=wE M n f way cut (l.map kD) z7 z8 z9 z10) (s:=s) (fm:=[3]) (i:=aI (aa 6)) (t:=jj) (e:=aJ (ab (ac i3 (aa 2) (aa 0)) (ab (ac i3 (aa 2) (aa 1)) a_))) (ds:=l.map kD) (λ_=>I) (λx=>match cN x with|some [a,b]=>kD [f.getD a.toNat 0,f.getD b.toNat 0]|_=>kD []) (by simp) (by simp;ext) (λx O=>by
   obtain⟨k,r,rfl⟩:=nw.mp O;obtain⟨a,b,rfl,y,L,B,H,_⟩:=C k r;obtain⟨a,rfl⟩:=eG y;obtain⟨b,rfl⟩:=eG B;refine⟨.int (a:Int),.int (b:Int),rfl,rfl,λ_=>?_⟩;rw[hZ];simp![cG,aF,n9,Do,FQ,FR,C7,j5,og (show a<f.length by ext),og (show b<f.length by ext),Pf,rR,AO]
   rfl)
  rw[fc,Bp]at F;rw[F,Bp];congr 2;refine FU λk r=>?_;obtain⟨a,b,rfl,_⟩:=C k r;simp[hZ]
 .obtain⟨P,z,rfl⟩:=nw.mp r;obtain⟨a,b,rfl,y,L,B,H,ne⟩:=C P z;obtain⟨a,rfl⟩:=eG y;obtain⟨b,rfl⟩:=eG B;have E:=o.at (j:=a) (by ext);have G:=o.at (j:=b) (by ext);simp only[AO];refine⟨_,_,rfl,E.1,E.2,G.1,G.2,λe=>ne ?_⟩;rw[Gy nd (i:=a) (j:=b) (by ext) (by ext) e]
def N3{s:g_}(hM:0<=M/\M<=12):∃(n:Nat)(C:UP)(u:g_),im.p [.pen,.int M] s=.ok (av n C) u/\(n:Int)<=M/\ia n C:=by
 obtain⟨a,s1,a0,a9,qa⟩:=dw (s:=s) (size:=M+1) (by ext) (by ext);obtain⟨n,rfl⟩:=eG a0;obtain⟨r,s2,Z,o⟩:=uV (n:=n) (s:=s1) (by ext);obtain⟨f,s3,w0,w9,qw⟩:=dw (s:=s2) (size:=5) (by decide) (by decide);obtain⟨cut,s4,c0,c9,qc⟩:=dw (s:=s3) (size:=(n:Int)+1) (by ext) (by ext);obtain⟨R,s5,e5,l,i,rfl,G,pt⟩:=cZ (g:=(i0 7:Xg [6]).p) (b:=Tx.p)
  (λj env u=>∃l i,env=wE M n r f cut i l Y Y Y/\i.length<=36*j/\∀y∈i,B9 n y) (cm 0 n) 0 _ s4 ⟨Y,[],rfl,by simp,by simp⟩ (λj env u d ⟨z,i,hE,G,pt⟩ hd=>by
   rw[pu]at G ⊢;subst hE;obtain⟨rfl,X⟩:=mH hd;obtain⟨F,H,q,al,L⟩:=Sd (cut:=cut) (z8:=Y) (z9:=Y) (z10:=Y) (s:=u) (qs:=r) X (by ext) w0 (by ext) pt
   exact⟨_,_,H,rfl,q,_,F,rfl,by ext,L⟩)
 rw[cB,pu]at G;obtain⟨p6,O,S,W,e6,l6,t6⟩:=J9 (n:=n) (qs:=r) (way:=f) (cut:=cut) (z7:=l) (z10:=Y) (by ext) 400 0 i Y s5 (by ext) (by ext) (by ext) pt;obtain⟨p7,B,E,e7,U,t7⟩:=Se (n:=n) (qs:=r) (way:=f) (cut:=cut) (z7:=l) (z8:=O) (z9:=S) (z10:=Y) (s:=W) (by ext) l6 t6;obtain⟨C,rfl,kt⟩:=yS t7;rw[q7]at U;obtain⟨Q,e8,P,hl⟩:=N2 (way:=f) (cut:=cut) (z7:=l) (z8:=O) (z9:=S) (z10:=B) (s:=E) o kt U;have mk:=zL (d:=.lst (Q.map kD)) (s:=E) (n:=n) rfl (by ext) P (by ext);refine⟨n,cf (SetT.l7 (Q.map n8)),E,?_,by ext,ji (by ext) (by ext) (kL P)⟩;rw[Ay (by rfl)];unfold jv;rw[show li 11 [D.pen,.int M]=[J .pen,J (.int M),Y,Y,Y,Y,Y,Y,Y,Y,Y]from rfl];rw[az,bw];simp![aF,bC,aX,aE,ic,Pf,qa,Pg,vv,t_,PU.ak];rw[az,bw];simp![aE,Z,Pg,vv,t_,PU.ak];rw[az,bw];simp![aE,bC,aX,qw,Pg,vv,t_,PU.ak];rw[az,bw];simp![aF,bC,aX,aE,ic,Pf,qc,Pg,vv,t_,PU.ak];rw[az,hX];simp only[c7,ar,Pb,Ca,wl,if_true,Pg,vv,t_,PU.ak];rw[az,dy,fH,ag];dsimp![ar];rw[iS (by ext),AO,Pf,Pg];refine(congrArg (λz:PS=>(z.then _).fin) e5).trans ?_;rw[PU.ak,az,bw];simp only[bC,aX,Pg,vv,t_,PU.ak];rw[az,xo jp];refine(congrArg (λz:PS=>(z.then _).fin) e6).trans ?_;rw[PU.ak,az];refine(congrArg (λz:PS=>(z.then _).fin) e7).trans ?_;rw[PU.ak,cz,aE,ag];dsimp![Pb];rw[ag,e8];simp only[Pb,ar,mk,Pg,PU.iu]
def Td(f:UP)(a b:Int):Prop:=[a,b]∈f\/[b,a]∈f
def Td.symm{f:UP}{a b:Int}(h:Td f a b):Td f b a:=h.elim .inr .inl
def gW{n:Int}{f:UP}(w:ia n f){a b:Int}(h:Td f a b):a≠b/\(0<=a/\a<n)/\0<=b/\b<n:=by rcases h with h|h<;>obtain⟨x,y,e,j,l,i⟩:=w.tie _ h<;>injection e with e1 e<;>injection e with e2 _<;>subst e1 e2<;>ext
def cY{n v x:Int}{i:UP}(w:ia n i):x∈y1 v i↔Td i v x:=by
 unfold y1 Td below above;rw[lT,C6,C6];constructor
 .rintro (⟨k,f,e⟩|⟨k,f,e⟩)<;>obtain⟨a,b,rfl,_⟩:=w.tie k f
  .by_cases z:b=v
   .simp[z]at e;subst e z;exact .inr f
   .simp[z]at e
  .by_cases z:a=v
   .simp[z]at e;subst e z;exact .inl f
   .simp[z]at e
 .rintro (h|h)
  .exact .inr ⟨_,h,by simp⟩
  .exact .inl ⟨_,h,by simp⟩
def mG{g:D->aq->Option aq}{b:aq->g_->PS}(l:Nat->aq->g_->Prop)(R:D->g_->Prop):∀(u:UR)(j:Nat)(env:aq)(s:g_),l j env s ->
  (∀m env s d,l (j+m) env s->u[m]?=J d->∃f,g d env=J f/\((∃a i,b f s=.nx a i/\l (j+m+1) a i)\/∃r i,b f s=.rt r i/\R r i)) ->
  (∃a i,B7 g b u env s=.nx a i/\l (j+u.length) a i)\/∃r i,B7 g b u env s=.rt r i/\R r i
 |[],j,env,s,C,_=>.inl ⟨env,s,rfl,C⟩
 |d::u,j,env,s,C,st=>by
  obtain⟨f,e1,h⟩:=st 0 env s d C rfl;rcases h with⟨y,E,e2,F⟩|⟨r,E,e2,B⟩
  .rcases mG l R u (j+1) y E F (λm a i x q z=>by
    have:=st (m+1) a i x (by rw[show j+(m+1)=j+1+m by ext];exact q) (by simpa using z)
    rw[show j+(m+1)+1=j+1+m+1 by ext]at this
    exact this)with⟨env3,s3,e3,I3⟩|⟨r,s3,e3,B⟩
   .refine .inl ⟨env3,s3,?_,by rw[AQ,show j+(u.length+1)=j+1+u.length by ext];exact I3⟩;rw[jT e1,e2];exact e3
   .refine .inr ⟨r,s3,?_,B⟩;rw[jT e1,e2];exact e3
  .refine .inr ⟨r,E,?_,B⟩;rw[jT e1,e2];rfl
inductive Iw(ks:UP)(ps:UN)(a:Int):UN->Int->Prop where
 |one:Iw ks ps a [a] a
 |more{wy:UN}{e p:Int}:Iw ks ps a wy e->Td ks e p->p∈ps->p∉wy->(∀x∈wy,x≠e->¬Td ks x p)->Iw ks ps a (wy++[p]) p
inductive Rc(ks:UP)(ps:UN)(a:Int):Int->Prop where
 |base:Rc ks ps a a
 |step{x y:Int}:Rc ks ps a x->Td ks x y->y∈ps->Rc ks ps a y
def Iw.last{i:UP}{j:UN}{a e:Int}{f:UN}(h:Iw i j a f e):∃l,f=l++[e]:=by
 cases h with
 |one=>exact⟨[],rfl⟩
 |@more w e p=>exact⟨w,rfl⟩
def Iw.nd{i:UP}{j:UN}{a e:Int}{f:UN}(h:Iw i j a f e):f.Nodup:=by
 induction h with
 |one=>simp
 |@more f e p _ _ _ u _ l =>
  rw[Cj];refine⟨l,by simp,λx r y B z=>u ?_⟩
  have:y=p:=by simpa using B
  rw[<-this,<-z];exact r
def BM{a:UR}{d:D}:mh (a++[d]) (-1)=J d:=by
 unfold mh wx;rw[f_ (by decide),b_ (by simp;ext),Cv]
 have:((-1:Int)+((a++[d]).length:Int)).toNat=a.length:=by simp;ext
 rw[this];simp
structure Bf(n:Nat)(ks:UP)(ps:UN)(a b:Int)(pd:UN)(qu:List (UN×Int))(sn:UN):Prop where
 eq:sn=pd++qu.map (·.2)
 nd:sn.Nodup
 bd:∀x∈sn,0<=x/\x<(n:Int)
 st:a∈sn
 gw:∀q∈qu,Iw ks ps a q.1 q.2/\∀x∈q.1,x≠q.2->x∈pd
 cl:∀x∈pd,∀y,Td ks x y->y∈ps->y∈sn
 nb:b∉pd
def bL(a f ns:UN):UN:=ns.filter λp=>decide (p∈a) && !decide (p∈f)
def iL{a f ns:UN}{p:Int}:p∈bL a f ns↔p∈ns/\p∈a/\p∉f:=by simp[bL]
def Bf.len{n:Nat}{l:UP}{j:UN}{a b:Int}{f:UN}{i:List (UN×Int)}{u:UN}(h:Bf n l j a b f i u):f.length+i.length<=n:=by
 have:=List.Nodup.length_le_of_subset (l₂:=c_ n) h.nd λx r=>aT.mpr (h.bd x r)
 rw[h.eq]at this;simpa [c_]using this
def Bf.step{n:Nat}{l:UP}{r:UN}{a b e:Int}{E C:UN}{O:List (UN×Int)}{j:UN}(w:ia n l)(h:Bf n l r a b E ((C,e)::O) j)(ne:e≠b):Bf n l r a b (E++[e]) (O++(bL r j (y1 e l)).map λp=>(C++[p],p)) (j++bL r j (y1 e l)):=by
 obtain⟨W,F⟩:Iw l r a C e/\∀x∈C,x≠e->x∈E:=h.gw (C,e) wj;have R:e∈j:=by rw[h.eq];simp
 have H:∀x∈E,x∈j:=λx f=>by rw[h.eq];exact xg _ f
 refine⟨?_,?_,λx f=>?_,xg _ h.st,λq u=>?_,λx f y t py=>?_,λB=>?_⟩
 .have e1:=h.eq;generalize bL r j (y1 e l)=Z;rw[e1];simp[Function.comp_def]
 .rw[Cj];refine⟨h.nd,((kB (v:=e) w).1).filter _,λx f y U z=>?_⟩;subst z;exact(iL.mp U).2.2 f
 .rcases lT.mp f with f|f
  .exact h.bd x f
  .exact (gW w ((cY w).mp (iL.mp f).1)).2.2
 .rcases lT.mp u with u|u
  .obtain⟨X,P⟩:=h.gw q (lb _ u);exact⟨X,λx f i=>xg _ (P x f i)⟩
  .obtain⟨p,S,rfl⟩:=nw.mp u;obtain⟨Q,L,G⟩:=iL.mp S;refine⟨.more W ((cY w).mp Q) L (λz=>?_) λx f i t=>G (h.cl x (F x f i) p t L),λx f i=>?_⟩
   .by_cases y:p=e
    .exact G (y▸R)
    .exact G (H p (F p z y))
   .rcases lT.mp f with f|f
    .by_cases y:x=e
     .subst y;simp
     .exact xg _ (F x f y)
    .exact absurd (by simpa using f) i
 .rcases lT.mp f with f|f
  .exact xg _ (h.cl x f y t py)
  .have:x=e:=by simpa using f
   subst this;by_cases z:y∈j
   .exact xg _ z
   .exact o_ _ (iL.mpr ⟨(cY w).mpr t,py,z⟩)
 .rcases lT.mp B with B|B
  .exact h.nb B
  .have:b=e:=by simpa using B
   exact ne this.symm
def Bf.stop{n:Nat}{f:UP}{i:UN}{a b:Int}{l j:UN}(h:Bf n f i a b l [] j):¬Rc f i a b:=λr=>by
 have e:j=l:=by rw[h.eq];simp
 have:∀y,Rc f i a y->y∈j:=λy r=>by
  induction r with
  |base=>exact h.st
  |step _ t py u=>exact h.cl _ (e▸u) _ t py
 exact h.nb (e▸this b r)
def Gz(q:UN×Int):D:=.lst (q.1.map .int)
abbrev BQ(n:Nat)(ks:UP)(ps:UN)(a b:Int)(qu:List (UN×Int))(sn:UN)(z6 z7:UC):aq:=[J (av n ks),J (.lst (ps.map .int)),J (.int a),J (.int b),J (.lst (qu.map Gz)),J (.lst (sn.map .int)),z6,z7]
abbrev Sf:Xd [4,5]:=(p0 (eV (xB (ac (wh T) (aa 7) (aa 1))) (xB (ac (wh I) (aa 7) (aa 5)))) (aC (v_ p8 5 (ab (aa 7) a_))
 (v_ p8 4 (ab (ac bo (aa 6) (bM (ab (aa 7) a_))) a_))) iw)
abbrev PC:Xd [4,5]:=(aC (kI 6 s_ 4 (ab (xC (.int 0)) a_))
 (aC (p0 (xB (ac y_ (ac i3 (aa 6) (CJ oK (xC (.int 1)))) (aa 3))) (bv (aa 6)) iw)
 (cu (aI (ai br (ab (aa 0) (ab (ac i3 (aa 6) (CJ oK (xC (.int 1)))) a_)))) (i0 7) Sf)))
abbrev N4:Xt [4,5]:=Nm (aa 4)
def J_{n:Nat}{ks:UP}{ps:UN}{a b:Int}{qu:List (UN×Int)}{sn wy ns:UN}{z7:UC}{s:g_}(nd:ns.Nodup)(Z:ns.length<=12)(X:qu.length<=100)(l3:sn.length<=100)(l4:wy.length<=100):
  ∃i,B7 (i0 7:Xg [4,5]).p Sf.p (ns.map .int) (BQ n ks ps a b qu sn (J (.lst (wy.map .int))) z7) s=.nx (BQ n ks ps a b (qu++(bL ps sn ns).map λp=>(wy++[p],p)) (sn++bL ps sn ns) (J (.lst (wy.map .int))) i) s:=by
 obtain⟨E,f,e,i,rfl,rfl⟩:=cZ (g:=(i0 7:Xg [4,5]).p) (b:=Sf.p)
  (λj env f=>∃i,env=BQ n ks ps a b (qu++(bL ps sn (ns.take j)).map λp=>(wy++[p],p)) (sn++bL ps sn (ns.take j)) (J (.lst (wy.map .int))) i/\f=s) (ns.map .int) 0 (BQ n ks ps a b qu sn (J (.lst (wy.map .int))) z7) s ⟨z7,by simp[bL],rfl⟩ (λj env f d ⟨i,C,G⟩ hd=>by
   rw[pu]at C ⊢;subst C G;obtain⟨rfl,y⟩:=mO hd;have R:ns.getD j 0=ns[j]:=by simp[List.getD,y]
   rw[R];have O:ns.take (j+1)=ns.take j++[ns[j]]:=by rw[C9];simp[y]
   have P:ns[j]∉ns.take j:=λz=>by
    have:=nd
    rw[<-FS j ns,Cj]at this;exact this.2.2 _ z _ (by rw[C2 y];exact wj) rfl
   have W:(bL ps sn (ns.take j)).length<=12:=by
    have:=C5 (λp=>decide (p∈ps) && !decide (p∈sn)) (ns.take j)
    have l:=List.length_take_le j ns;unfold bL;rw[Di]at this;ext
   have L:=iO (neg:=T) (x:=ns[j]) (d:=.lst (ps.map .int)) (xs:=ps) rfl;have F:=iO (neg:=I) (x:=ns[j]) (d:=.lst ((sn++bL ps sn (ns.take j)).map .int)) (xs:=sn++bL ps sn (ns.take j)) rfl;refine⟨BQ n ks ps a b (qu++(bL ps sn (ns.take j)).map λp=>(wy++[p],p)) (sn++bL ps sn (ns.take j)) (J (.lst (wy.map .int))) (J (.int ns[j])),BQ n ks ps a b (qu++(bL ps sn (ns.take (j+1))).map λp=>(wy++[p],p)) (sn++bL ps sn (ns.take (j+1))) (J (.lst (wy.map .int))) (J (.int ns[j])),f,rfl,?_,_,rfl,rfl⟩;have U:bL ps sn (ns.take (j+1))=bL ps sn (ns.take j)++(if ns[j]∈ps/\ns[j]∉sn then [ns[j]]else []):=by unfold bL;rw[O,List.filter_append];congr 1;by_cases u:ns[j]∈ps<;>by_cases B:ns[j]∈sn<;>simp[u,B]
   have S:ns[j]∈sn++bL ps sn (ns.take j)↔ns[j]∈sn:=by rw[lT];exact⟨λh=>h.elim id λh=>absurd (iL.mp h).1 P,.inl⟩
   have H:(eV (xB (ac (wh T) (aa 7) (aa 1))) (xB (ac (wh I) (aa 7) (aa 5))):Xt [4,5]).p (BQ n ks ps a b (qu++(bL ps sn (ns.take j)).map λp=>(wy++[p],p)) (sn++bL ps sn (ns.take j)) (J (.lst (wy.map .int))) (J (.int ns[j]))) f=.ok (decide (ns[j]∈ps/\ns[j]∉sn)) f:=by
    dsimp![yP,eT,aF,Gu,L,F,Pf,Pl,o0,if_false,if_true];by_cases u:ns[j]∈ps
    .simp only[u,decide_true,if_true,true_and,decide_not];by_cases B:ns[j]∈sn<;>simp[S,B]
    .simp[u]
   rw[dn,H,Pg,U];by_cases z:ns[j]∈ps/\ns[j]∉sn
   .rw[b_ (by simpa using z),b_ z,az];rw[fe (s1:=f) (as:=[.int ns[j]]) (ds:=(sn++bL ps sn (ns.take j)).map .int) (ds':=(sn++(bL ps sn (ns.take j)++[ns[j]])).map .int) (r:=.non) (by simp) rfl (by rw[qO (by simp;ext)];simp),PU.ak];have Q:bo.p (.lst (wy.map .int)) (.lst [.int ns[j]])=J (.lst ((wy++[ns[j]]).map .int)):=by
     rw[fg (by simp;ext)];simp
    rw[fe (s1:=f) (as:=[.lst ((wy++[ns[j]]).map .int)]) (ds:=(qu++(bL ps sn (ns.take j)).map λp=>(wy++[p],p)).map Gz) (ds':=(qu++(bL ps sn (ns.take j)++[ns[j]]).map λp=>(wy++[p],p)).map Gz) (r:=.non) (by
     simp![vv,t_,aF,c7,AQ,Ca,show(0+1:Nat)<=100000 by decide,if_true,Q,Pf]) rfl (by rw[qO (by simp;ext)];simp[Gz])]
    rfl
   .rw[f_ (by simpa using z),f_ z,KC]
    rfl)
 rw[q7,pu,FY]at e;exact⟨i,e⟩
def Ka{n:Nat}{f:UP}{u:UN}{a b:Int}{s:g_}(w:ia n f):∀(N:Nat)(F:UN)(B:List (UN×Int))(j:UN)(E C:UC),n-F.length+1<=N->Bf n f u a b F B j ->
  (∃i,eU N4.p PC.p N (BQ n f u a b B j E C) s=.rt (.lst (i.map .int)) s/\Iw f u a i b)\/(∃G,eU N4.p PC.p N (BQ n f u a b B j E C) s=.nx G s/\¬Rc f u a b):=by
 intro N
 induction N with
 |zero=>intro _ _ _ _ _ h;ext
 |succ N ih =>
  intro F B j E C hd h;have R:=h.len;have n12:=w.n12
  cases B with
  |nil=>exact .inr ⟨BQ n f u a b [] j E C,by rw[eU,show N4.p (BQ n f u a b [] j E C) s=.ok T s by simp[oT]];rfl,h.stop⟩
  |cons q B =>
   obtain⟨i,e⟩:=q;obtain⟨P,X⟩:Iw f u a i e/\∀x∈i,x≠e->x∈F:=h.gw (i,e) wj;have Z:e∈j:=by rw[h.eq];simp
   have H:=h.bd e Z;have W:N4.p (BQ n f u a b ((i,e)::B) j E C) s=.ok I s:=by simp[oT]
   rw[eU,W,Pg,b_ rfl];obtain⟨w0,O⟩:=P.last;have L:oK.p (.int 1)=J (.int (-1)):=rfl;have Q:mh (i.map D.int) (-1)=J (.int e):=by rw[O,F0];exact BM
   have S:(kI 6 s_ 4 (ab (xC (.int 0)) a_):Xd [4,5]).p (BQ n f u a b ((i,e)::B) j E C) s=.nx (BQ n f u a b B j (J (.lst (i.map .int))) C) s:=by refine Eq.trans (show _=Cf s_ 4 (ab (xC (.int 0)) a_:Xs [4,5]).p (BQ n f u a b ((i,e)::B) j E C) s (λr env s=>.nx (env.set 6 (J r)) s)from rfl) ?_;rw[nD (as:=[.int 0]) (s1:=s) (ds:=Gz (i,e)::B.map Gz) (r:=Gz (i,e)) (ds':=B.map Gz) (by simp) rfl rfl];rfl
   by_cases z:e=b
   .subst z;refine .inl ⟨i,?_,P⟩;rw[az,S,PU.ak,az,dn];dsimp![eT,aF,wU,bC,aX,L,Pf,j5,Q,rS,jy,decide_true,Pl,Pg,if_true,cz,PU.vH,o0,if_false];rfl
   .have U:i.length<=100:=by
     have l:=List.Nodup.length_le_of_subset (l₂:=c_ n) P.nd λx hx=>aT.mpr (by
      by_cases y:x=e
      .subst y;exact H
      .exact h.bd x (by rw[h.eq];exact xg _ (X x hx y)))
     simp[c_]at l;ext
    have sl:j.length<=100:=by
     have:=congrArg List.length h.eq
     simp at this R;ext
    have nl:(y1 e f).length<=12:=Ft (v:=e) w;obtain⟨y7,ef⟩:=J_ (n:=n) (ks:=f) (ps:=u) (a:=a) (b:=b) (qu:=B) (sn:=j) (wy:=i) (z7:=C) (s:=s) (kB (v:=e) w).1 nl (by simp at R;ext) sl U;have st:PC.p (BQ n f u a b ((i,e)::B) j E C) s=.nx (BQ n f u a b (B++(bL u j (y1 e f)).map λp=>(i++[p],p)) (j++bL u j (y1 e f)) (J (.lst (i.map .int))) y7) s:=by rw[az,S,PU.ak,az,dn];dsimp![eT,aF,wU,bC,aX,L,Pf,j5,Q,rS,jy,z,decide_false,Pl,Pg,o0,if_false,jf,PU.ak];rw[dy];simp![fJ,aE,aF,wU,bC,aX,L,Pf,j5,Q,ya w H.1 H.2,fh,Pg];exact ef
    rw[st];exact ih (F++[e]) _ _ _ _ (by simp at R ⊢;ext) (h.step w z)
def Fv{n:Nat}{f:UP}{ps:UN}{a b:Int}{s:g_}(w:ia n f)(y:0<=a/\a<(n:Int)):
  (∃i,bu.p [av n f,.lst (ps.map .int),.int a,.int b] s=.ok (.lst (i.map .int)) s/\Iw f ps a i b)\/(bu.p [av n f,.lst (ps.map .int),.int a,.int b] s=.ok .non s/\¬Rc f ps a b):=by
 have z:Bf n f ps a b [] [([a],a)] [a]:=by
  refine⟨rfl,by simp,λx l=>?_,by simp,λq B=>?_,by simp,by simp⟩
  .have:x=a:=by simpa using l
   subst this;exact y
  .have:q=([a],a):=by simpa using B
   subst this;exact⟨.one,λx l j=>absurd (by simpa using l) j⟩
 have r:=Ka (s:=s) w 400 [] [([a],a)] [a] Y Y (by have:=w.n12;simp;ext) z;have pre:bu.p [av n f,.lst (ps.map .int),.int a,.int b] s=((eU N4.p PC.p 400 (BQ n f ps a b [([a],a)] [a] Y Y) s).then (bv (xC .non):Xd [4,5]).p).fin:=by rw[oA (by rfl)];unfold cX;rw[show li 8 [av n f,.lst (ps.map .int),.int a,.int b]=[J (av n f),J (.lst (ps.map .int)),J (.int a),J (.int b),Y,Y,Y,Y]from rfl];rw[az,hX];simp![c7,AQ,Ca,show(0+1:Nat)<=100000 by decide,if_true,Pg,vv,t_,PU.ak,az,hX];rw[xo jp];rfl
 rw[pre];rcases r with⟨i,r,t⟩|⟨u,r,t⟩
 .refine .inl ⟨i,?_,t⟩;rw[r];rfl
 .refine .inr ⟨?_,t⟩;rw[r];rfl
def kE{a:UR}:(fD a).length=a.length:=by simp[fD]
def qq{a:UR}{j:Nat}{d:D}(e:(fD a)[j]?=J d):∃x,a[j]?=J x/\d=.tup [.int (j:Int),x]:=by
 unfold fD at e;rw[pr,PX]at e
 cases e1:a[j]? with
 |none=>rw[e1]at e;cases e
 |some x=>rw[e1]at e;simp at e;exact⟨x,rfl,e.symm⟩
def wt{ns:UN}{s:g_}(E:ns.length<=12):bT.p [.lst (ns.map .int)] s=.ok (.lst ((aO ns ns.length).map kD)) s:=by
 rw[pF (by rfl)];unfold dD;have G:li 4 [D.lst (ns.map .int)]=[J (.lst (ns.map .int)),Y,Y,Y]:=rfl;obtain⟨z,a,e,f,l,rfl,C⟩:=cZ (g:=(By (pq (i0 2) (pq (i0 3) Bu)) 2:Xg [1]).p) (b:=(v_ i_ 1 (ab (aG 1 [3] (aI (K7 (aa 0) (K5 (ac bo (aa 2) (xC (.int 1)))) K4)) (ws':=[]) (i0 0) jj (aJ (ab (aa 1) (ab (aa 0) a_)))) a_):Xd [1]).p)
  (λj env a=>∃f l,env=[J (.lst (ns.map .int)),J (.lst ((aO ns j).map kD)),f,l]/\a=s) (fD (ns.map .int)) 0 [J (.lst (ns.map .int)),J (.lst []),Y,Y] s ⟨Y,Y,rfl,rfl⟩ (λj env a d ⟨f,l,u,B⟩ hd=>by
   rw[pu]at u ⊢;subst u B;obtain⟨x,y,rfl⟩:=qq hd;obtain⟨rfl,L⟩:=mO y;have H:=fI E j
   have q:=fy (ws:=[1]) (ws':=[]) (env:=[J (.lst (ns.map .int)),J (.lst ((aO ns j).map kD)),J (.int (j:Int)),J (.int (ns.getD j 0))]) (s:=a) (fm:=[3]) (i:=(aI (K7 (aa 0) (K5 (ac bo (aa 2) (xC (.int 1)))) K4))) (t:=jj) (e:=(aJ (ab (aa 1) (ab (aa 0) a_)))) (ds:=(ns.drop (j+1)).map .int) (λ_=>I) (λx=>.tup [.int (ns.getD j 0),x]) (by
     have:=BC (ns:=ns) (j:=j+1) (by ext)
     push_cast at this
     simp[this]) (by simp;ext) (λx y=>⟨rfl,λ_=>by simp⟩)
   have e2:((((ns.drop (j+1)).map D.int).filter λ_=>I).map λx=>D.tup [.int (ns.getD j 0),x])=((ns.drop (j+1)).map λb=>[ns.getD j 0,b]).map kD:=by rw[fc,Bp,Bp];rfl
   rw[e2]at q;refine⟨[J (.lst (ns.map .int)),J (.lst ((aO ns j).map kD)),J (.int (j:Int)),J (.int (ns.getD j 0))],_,a,by simp,fe (s1:=a) (as:=[.lst (((ns.drop (j+1)).map λb=>[ns.getD j 0,b]).map kD)]) (ds:=(aO ns j).map kD) (ds':=(aO ns (j+1)).map kD) (r:=.non) (by rw[ag,q];simp only[Pb,ar]) rfl ?_,_,_,rfl,rfl⟩
   rw[gA (by simp;ext),tN,F0])
 rw[kE,q7,pu,C]at e;have F:(eK 1 (bM a_):Xd [1]).p [J (.lst (ns.map .int)),Y,Y,Y] s=.nx [J (.lst (ns.map .int)),J (.lst []),Y,Y] s:=by simp
 rw[G,az,F,PU.ak,az,dy,fH,ag];simp only[am,Pb,ar,RC,Pf,Pg];rw[e,PU.ak,vJ (d:=.lst ((aO ns ns.length).map kD)) rfl,PU.iu]
def kf{n:Int}{d:D}{j:UP}{s:g_}(e:Sb d j)(r:∀k∈j,IsT n k)(B:j.length<=100000)(hd:(SetT.l7 (j.map n8)).length<=66):
  bg.p [d] s=.ok (.tup ((cf (SetT.l7 (j.map n8))).map kD)) s:=by
 rw[oU (by rfl)];unfold dC
 have q:=fy (ws:=[]) (ws':=[]) (env:=li 1 [d]) (s:=s) (fm:=[]) (i:=aI (aa 0)) (t:=jj) (e:=(aJ (ab (mm eI (ab (aa 0) a_)) (ab (mm nY (ab (aa 0) a_)) a_)))) (ds:=j.map kD) (λ_=>I) (λx=>match cN x with|some k=>kD (n8 k)|none=>.non) (by simp[li,e]) (by simpa using B) (λx y=>by
   obtain⟨k,f,rfl⟩:=nw.mp y;obtain⟨a,b,rfl,_⟩:=r k f;refine⟨rfl,λ_=>?_⟩
   simp[kD,J5,J6,cN,di,n8])
 have e2:(((j.map kD).filter λ_=>I).map λx=>match cN x with|some k=>kD (n8 k)|none=>.non)=(j.map n8).map kD:=by rw[fc,Bp,Bp];refine FU λk f=>?_;obtain⟨a,b,rfl,_⟩:=r k f;rfl
 rw[e2]at q
 have u:=Gx (ks:=j.map n8) ⟨λk f=>by
  obtain⟨z,l,rfl⟩:=nw.mp f;obtain⟨a,b,rfl,_⟩:=r z l
  simp[n8],hd⟩
 rw[cz,cT,ag,cT,ag,q];simp only[Pb,ar,u,Pf,mF,Pg,PU.iu]
def Sg(left:UN)(x:D):Bool:=match x with
 |.int i=>decide (i∈left)
 |_=>T
def Fw(v:Int)(x:D):Bool:=match cN x with
 |some k=>!decide (v∈k)
 |none=>T
@[simp]theorem N5{left:UN}{i:Int}:Sg left (.int i)=decide (i∈left):=rfl
@[simp]theorem Kb{v:Int}{k:UN}:Fw v (kD k)=!decide (v∈k):=by simp[Fw,hZ]
def B_(v:Int)(a:UP):UP:=a.filter λk=>!decide (v∈k)
def rl(left:UN)(v:Int)(a:UP):UN:=(y1 v a).filter λx=>decide (x∈left)
def d8(left:UN)(v:Int)(a:UP):UP:=cf (SetT.l7 (B_ v a++aO (rl left v a) (rl left v a).length))
def dL{n v:Int}{left:UN}{f:UP}(w:ia n f):(rl left v f).Pairwise (·<·)/\(∀x∈rl left v f,0<=x/\x<n)/\(rl left v f).length<=12:=by
 obtain⟨nd,l⟩:=kB (v:=v) w;have ris:=Fd (v:=v) w;have lt:(y1 v f).Pairwise (·<·):=by
  refine(ris.and nd).imp λ{a b} h=>?_
  have:=h.1
  have:=h.2
  ext
 refine⟨lt.filter _,λx i=>l x (n3.mp i).1,?_⟩;have j:(rl left v f).Nodup:=nd.filter _
 have:=List.Nodup.length_le_of_subset (l₂:=c_ 12) j λx i=>by
  rw[aT]
  have:=l x (n3.mp i).1
  have:=w.n12
  ext
 simpa [c_]using this
def jn{n v:Int}{left:UN}{f:UP}(w:ia n f):∀k∈B_ v f++aO (rl left v f) (rl left v f).length,∃a b:Int,k=[a,b]/\0<=a/\a<b/\b<n:=λk i=>by
 obtain⟨j,l,r⟩:=dL (v:=v) (left:=left) w;rcases lT.mp i with q|q
 .exact w.tie k (n3.mp q).1
 .exact fk j l k q
def kU{n:Int}{f:UP}(j:∀k∈f,∃a b:Int,k=[a,b]/\0<=a/\a<b/\b<n):f.map n8=f:=by
 have:f.map n8=f.map id:=FU λk i=>by
  obtain⟨a,b,rfl,_,lt,_⟩:=j k i;exact yU lt
 rw[this,List.map_id]
def ie{n v:Int}{left:UN}{a:UP}(w:ia n a):ia n (d8 left v a):=ji w.n0 w.n12 (jn w)
def um{v:Int}:∀(f:UP),(((f.map kD).filter (Fw v)).map λx=>x)=(B_ v f).map kD
 |[]=>rfl
 |k::f=>by
  have a:=um (v:=v) f;unfold B_ at a ⊢;rw[n9,C8,C8,Kb];by_cases z:v∈k
  .simp[z]at a ⊢;exact a
  .simp[z]at a ⊢;exact a
def qk{left:UN}:∀(ns:UN),(((ns.map D.int).filter (Sg left)).map λx=>x)=(ns.filter λx=>decide (x∈left)).map D.int
 |[]=>rfl
 |i::ns=>by
  have a:=qk (left:=left) ns;rw[n9,C8,C8,N5];by_cases z:i∈left<;>simp[z]at a ⊢<;>exact a
def u0{n v:Int}{left:UN}{f:UP}{d:D}{s:g_}(hd:d.items=J (left.map .int))(w:ia n f)(l:0<=v)(hv:v<n):bS.p [av n f,d,.int v] s=.ok (.lst ((aO (rl left v f) (rl left v f).length).map kD)) s:=by
 obtain⟨y,z,j⟩:=dL (v:=v) (left:=left) w;have C:(y1 v f).length<=132:=by
  have:=gn w.n12 w.tie w.nd
  have a:(below v f).length<=f.length:=Ot _ _;have b:(above v f).length<=f.length:=Ot _ _;simp[y1];ext
 rw[oY (by rfl)];unfold du;have r:li 3 [av n f,d,.int v]=[J (av n f),J (d),J (.int v)]:=rfl
 have q:=fy (ws:=[]) (ws':=[]) (env:=[J (av n f),J (d),J (.int v)]) (s:=s) (fm:=[1]) (i:=aI (ai br (ab (aa 0) (ab (aa 2) a_)))) (t:=xB (ac (wh T) (aa 0) (aa 1))) (e:=aa 0) (ds:=(y1 v f).map .int) (Sg left) (λx=>x) (by simp[ya w l hv]) (by simp;ext) (λx u=>by
   obtain⟨i,B,rfl⟩:=nw.mp u
   exact⟨by simp[iO (d:=d) hd],λ_=>by simp⟩)
 rw[qk]at q;rw[r,cz,aE,ag,q]
 have:=wt (ns:=rl left v f) (s:=s) j
 simp only[Pb,ar];unfold rl at this ⊢;rw[this];simp
def t8{n v:Int}{left:UN}{a:UP}{d:D}{s:g_}(hd:d.items=J (left.map .int))(w:ia n a)(j:0<=v)(hv:v<n)(f:∀x∈left,0<=x/\x<n):cw.p [av n a,d,.int v] s=.ok (av n (d8 left v a)) s:=by
 have B:a.length<=66:=gn w.n12 w.tie w.nd;obtain⟨F,G,l⟩:=dL (v:=v) (left:=left) w;have H:=fI l (rl left v a).length;have L:(B_ v a).length<=66:=mu (C5 _ _) B;rw[rf (by rfl)];unfold dO;have y:li 4 [av n a,d,.int v]=[J (av n a),J (d),J (.int v),Y]:=rfl
 have q:=fy (ws:=[]) (ws':=[]) (env:=[J (av n a),J (d),J (.int v),Y]) (s:=s) (fm:=[2]) (i:=aI (ac i3 (aa 0) (xC (.int 1)))) (t:=xB (ac (wh I) (aa 1) (aa 0))) (e:=aa 0) (ds:=a.map kD) (Fw v) (λx=>x) (by simp[av]) (by simp;ext) (λx z=>by
   obtain⟨k,E,rfl⟩:=nw.mp z
   exact⟨by simp[iO (d:=kD k) (xs:=k) rfl],λ_=>by simp⟩)
 rw[um]at q;have r:=kf (n:=n) (d:=.lst ((B_ v a++aO (rl left v a) (rl left v a).length).map kD)) (s:=s) rfl (tQ (jn w)) (by simp;ext) (by rw[kU (jn (v:=v) (left:=left) w)];exact k9 w.n12 (jn w));rw[kU (jn (v:=v) (left:=left) w)]at r;have u:(fx (ai bh (ab (ac i3 (aa 0) (xC (.int 0))) (ab (aa 2) a_))):Xd []).p [J (av n a),J (d),J (.int v),Y] s=.nx [J (av n a),J (d),J (.int v),Y] s:=by simp[av,pj j hv]
 have C:(fx (ai cj (ab (ac i3 (aa 0) (xC (.int 0))) (ab (aa 1) a_))):Xd []).p [J (av n a),J (d),J (.int v),Y] s=.nx [J (av n a),J (d),J (.int v),Y] s:=by simp[av,A3 hd f]
 rw[y,az,u,PU.ak,az,C,PU.ak,az,bw,q];simp![Pg,PU.ak,vv,t_,cz,cG,aF,bC,aX,aE,u0 hd w j hv];rw[fg (by simp;ext)];rw[F0]at r;simp only[Pf,Pb,r,ar,av,xy,xw];simp[d8]
def pf(a:UP)(x:D):Bool:=match cN x with
 |some k=>!decide (k∈a)
 |none=>T
@[simp]theorem Kc{ks:UP}{k:UN}:pf ks (kD k)=!decide (k∈ks):=by simp[pf,hZ]
theorem mL{ks:UP}:∀(a:UP),(((a.map kD).filter (pf ks)).map λx=>x)=(a.filter λk=>!decide (k∈ks)).map kD
 |[]=>rfl
 |k::a=>by
  have f:=mL (ks:=ks) a;rw[n9,C8,C8,Kc];by_cases z:k∈ks<;>simp[z]at f ⊢<;>exact f
def d4{ns:UN}(u:ns.Pairwise (·<·)){a b:Int}:[a,b]∈aO ns ns.length↔a∈ns/\b∈ns/\a<b:=by
 unfold aO;rw[GY];constructor
 .rintro⟨i,f,h⟩;rw[Ck]at f;obtain⟨c,y,e⟩:=nw.mp h;injection e with e1 e
  injection e with e2 _
  subst e1 e2;have e1:ns.getD i 0=ns[i]:=by simp[List.getD,f]
  rw[e1];obtain⟨j,l,r⟩:=GQ y;rw[Cu]at l;rw[OA]at r;have lt:=FP.mp u i (i+1+j) f (by ext) (by ext);rw[r]at lt;exact⟨OC f,Ov y,lt⟩
 .rintro⟨B,C,lt⟩;obtain⟨i,f,rfl⟩:=GQ B;obtain⟨j,l,rfl⟩:=GQ C;have E:i<j:=by
   rcases Nat.lt_trichotomy i j with z|z | z
   .exact z
   .subst z;ext
   .have:=FP.mp u j i l f z;ext
  refine⟨i,Ck.mpr f,nw.mpr ⟨ns[j],?_,by simp[List.getD,f]⟩⟩;rw[List.mem_iff_getElem];exact⟨j-(i+1),by rw[Cu];ext,by rw[OA];congr 1;ext⟩
def jl{n v:Int}{left:UN}{B:UP}(w:ia n B){x y:Int}:Td (d8 left v B) x y↔(Td B x y/\x≠v/\y≠v)\/(x≠y/\x∈left/\y∈left/\Td B v x/\Td B v y):=by
 obtain⟨C,F,E⟩:=dL (v:=v) (left:=left) w;have mem:∀a b:Int,[a,b]∈d8 left v B↔([a,b]∈B/\a≠v/\b≠v)\/(a<b/\a∈left/\b∈left/\Td B v a/\Td B v b):=λa b=>by
  unfold d8;rw[(cg _).mem_iff,SetT.fL,lT,d4 C];unfold B_ rl;rw[n3,n3,n3,cY w,cY w];simp only[k4,GX,or_false,FX,decide_eq_false_iff_not,decide_eq_true_eq,not_or];constructor
  .rintro (⟨q,u,r⟩|⟨⟨f,i⟩,⟨l,j⟩,lt⟩)
   .exact .inl ⟨q,λz=>u z.symm,λz=>r z.symm⟩
   .exact .inr ⟨lt,i,j,f,l⟩
  .rintro (⟨q,u,r⟩|⟨lt,i,j,f,l⟩)
   .exact .inl ⟨q,λz=>u z.symm,λz=>r z.symm⟩
   .exact .inr ⟨⟨f,i⟩,⟨l,j⟩,lt⟩
 unfold Td;rw[mem,mem];constructor
 .rintro ((⟨q,u,r⟩|⟨lt,i,j,f,l⟩)|⟨q,u,r⟩|⟨lt,i,j,f,l⟩)
  .exact .inl ⟨.inl q,u,r⟩
  .exact .inr ⟨by ext,i,j,f,l⟩
  .exact .inl ⟨.inr q,r,u⟩
  .exact .inr ⟨by ext,j,i,l,f⟩
 .rintro (⟨q|q,u,r⟩|⟨ne,i,j,f,l⟩)
  .exact .inl (.inl ⟨q,u,r⟩)
  .exact .inr (.inl ⟨q,r,u⟩)
  .rcases Ll ne with lt|lt
   .exact .inl (.inr ⟨lt,i,j,f,l⟩)
   .exact .inr (.inr ⟨lt,j,i,l,f⟩)
def kc(a:UN):UP:=(List.range a.length).map λk=>[a.getD (if k=0 then a.length-1 else k-1) 0,a.getD k 0]
def tI{n:Nat}{a:UN}(g:Rg n a):∀k∈kc a,IsT n k:=λk j=>by
 obtain⟨i,f,rfl⟩:=nw.mp j;rw[Ck]at f;have l3:=g.l3;exact zy g (by split<;>ext) f (by split<;>ext)
def nJ(a:UN):UP:=cf (SetT.l7 ((kc a).map n8))
def Fx{n:Nat}{a:UN}{s:g_}(g:Rg n a):jg.p [.lst (a.map .int)] s=.ok (.tup ((nJ a).map kD)) s:=by
 have F:=g.len;have l3:=g.l3
 have q:=lI (ws:=[]) (ws':=[]) (env:=[J (.lst (a.map .int))]) (s:=s) (fm:=[0]) (i:=bG iE (ab (aa 0) a_)) (t:=jj) (e:=aJ (ab (ac i3 (aa 2) (ac bH (aa 0) (xC (.int 1)))) (ab (aa 1) a_))) (ds:=fD (a.map .int)) (λ_=>I) (λx=>match x with|.tup [.int k,.int v]=>kD [a.getD (if k=0 then a.length-1 else (k-1).toNat) 0,v]|_=>.non) (by simp) (by rw[kE];simp;ext) (λx C=>by
  obtain⟨j,f⟩:=Bo.mp C;obtain⟨y,B,rfl⟩:=qq f;obtain⟨rfl,E⟩:=mO B;refine⟨_,_,rfl,rfl,λ_=>?_⟩;have l:mh (a.map D.int) ((j:Int)-1)=J (.int (a.getD (if(j:Int)=0 then a.length-1 else((j:Int)-1).toNat) 0)):=by
   unfold mh wx;rw[q7];by_cases z:j=0
   .subst z;rw[f_ (by decide),b_ (by ext),b_ (show((0:Nat):Int)=0 from rfl)];have e1:(((0:Nat):Int)-1+(a.length:Int)).toNat=a.length-1:=by ext
    rw[Cv,e1,pr,zb (by ext)];simp[List.getD,show a.length-1<a.length by ext]
   .rw[b_ (by ext),b_ (by ext),f_ (by ext),Cv,pr,zb (by ext)];simp[List.getD,show j-1<a.length by ext]
  show(aJ _:Xe []).p [J (.int (j:Int)),J (.int (a.getD j 0)),J (.lst (a.map .int))] s=_
  simp[l,kD])
 have u:((fD (a.map D.int)).filter λ_=>I).map (λx=>match x with|.tup [.int k,.int v]=>kD [a.getD (if k=0 then a.length-1 else(k-1).toNat) 0,v]|_=>.non)=(kc a).map kD:=by
  rw[fc];apply Ky;intro j;unfold kc;rw[pr,Bp,pr];by_cases f:j<a.length
  .have e1:(fD (a.map D.int))[j]?=J (.tup [.int (j:Int),.int (a.getD j 0)]):=by
    unfold fD;rw[pr,PX,pr,zb f];simp[List.getD,f]
   rw[e1,List.getElem?_range f];simp only[GZ,Function.comp_apply];congr 3;by_cases z:j=0
   .subst z;rfl
   .rw[f_ (by ext),f_ z];congr 1;ext
  .rw[Dg (by rw[kE];simp;ext),Dg (by simp;ext)];rfl
 rw[u]at q;have dl:(SetT.l7 ((kc a).map n8)).length<=66:=k9 (n:=n) (by have:=g.n12;ext) (kL (tI g));have r:=kf (n:=n) (d:=.lst ((kc a).map kD)) (s:=s) rfl (tI g) (by unfold kc;simp;ext) dl;rw[BE (by rfl)];unfold jm;rw[show li 1 [D.lst (a.map .int)]=[J (.lst (a.map .int))]from rfl,cz,aE,ag,q];simp only[Pb,ar,r,Pg,PU.iu];rfl
def kO{n:Nat}{a:UN}(g:Rg n a):∀k∈aO a a.length,IsT n k:=λk l=>by
 unfold aO at l;obtain⟨i,f,l⟩:=GY.mp l;rw[Ck]at f;obtain⟨b,r,rfl⟩:=nw.mp l;obtain⟨j,B,u⟩:=GQ r;rw[Cu]at B;rw[OA]at u;have e1:a.getD i 0=a[i]:=by simp[List.getD,f]
 have y:=g.bd _ (OC f);have bb:=g.bd b (Ov r);refine⟨_,_,rfl,by rw[e1];exact y.1,by rw[e1];exact y.2,bb.1,bb.2,λz=>?_⟩;rw[e1,<-u]at z
 have:=(List.getElem?_inj (i:=i) (j:=i+1+j) f g.nd).mp (by rw[zb f,zb (by ext),z])
 ext
def uj(a:UN):UP:=(cf (SetT.l7 ((aO a a.length).map n8))).filter λk=>!decide (k∈nJ a)
def lD{n:Nat}{a:UN}(g:Rg n a):ia n (cf (SetT.l7 ((aO a a.length).map n8))):=ji (by ext) (by have:=g.n12;ext) (kL (kO g))
def Fy{n:Nat}{a:UN}{s:g_}(g:Rg n a):dz.p [.lst (a.map .int)] s=.ok (.lst ((uj a).map kD)) s:=by
 have j:=g.len;have f:=lD g;have z:=gn f.n12 f.tie f.nd;have y:=fI j a.length;have r:=kf (n:=n) (d:=.lst ((aO a a.length).map kD)) (s:=s) rfl (kO g) (by ext) (k9 (n:=n) (by have:=g.n12;ext) (kL (kO g)));rw[oN (by rfl)];unfold dB;rw[show li 2 [D.lst (a.map .int)]=[J (.lst (a.map .int)),Y]from rfl,az,bw];simp![aE,Fx g,Pg,vv,t_,PU.ak]
 have q:=fy (ws:=[]) (ws':=[]) (env:=[J (.lst (a.map .int)),J (.tup ((nJ a).map kD))]) (s:=s) (fm:=[1]) (i:=aI (ai bg (ab (ai bT (ab (aa 0) a_)) a_))) (t:=xB (ac (wh I) (aa 0) (aa 1))) (e:=aa 0) (ds:=(cf (SetT.l7 ((aO a a.length).map n8))).map kD) (pf (nJ a)) (λx=>x) (by
   simp only[fJ,aE,ag,am,Pb,ar,wt j,r];rfl) (by simp;ext) (λx l=>by
   obtain⟨k,u,rfl⟩:=nw.mp l
   exact⟨by simp[pf,hZ,wz (d:=.tup ((nJ a).map kD)) rfl],λ_=>by simp⟩)
 rw[mL]at q;rw[cz,q];rfl
def Fz{n:Nat}{f:UN}(g:Rg n f):(uj f).length<=66:=by have a:=lD g;exact mu (C5 _ _) (gn a.n12 a.tie a.nd)
section
variable{n:Nat}{ks:UP}{left ns:UN}{a b v e:Int}{wy:UN}{ps:UN}{s:g_}
def xM(w:ia n ks)(lt:a<b)(h:Td ks a b):[a,b]∈ks:=by
 rcases h with h|h
 .exact h
 .obtain⟨x,y,e,i,j,f⟩:=w.tie _ h;injection e with e1 e
  injection e with e2 _
  ext
def bE(left:UN)(v:Int)(ks:UP):UP:=(aO (rl left v ks) (rl left v ks).length).filter λk=>!decide (k∈ks)
def jR(w:ia n ks):∀k∈bE left v ks,∃a b:Int,k=[a,b]/\0<=a/\a<b/\b<n:=λk f=>by
 obtain⟨i,j,l⟩:=dL (v:=v) (left:=left) w;exact fk i j k (n3.mp f).1
def fS(w:ia n ks):[a,b]∈bE left v ks↔a<b/\a∈left/\b∈left/\Td ks v a/\Td ks v b/\¬Td ks a b:=by
 obtain⟨u,z,y⟩:=dL (v:=v) (left:=left) w;unfold bE;rw[n3,d4 u];unfold rl;rw[n3,n3,cY w,cY w];simp only[FX,decide_eq_false_iff_not,decide_eq_true_eq];constructor
 .rintro⟨⟨⟨l,f⟩,⟨i,r⟩,lt⟩,j⟩;exact⟨lt,f,r,l,i,λt=>j (xM w lt t)⟩
 .rintro⟨lt,f,r,l,i,j⟩;exact⟨⟨⟨l,f⟩,⟨i,r⟩,lt⟩,λt=>j (.inl t)⟩
def GA{d:D}(hd:d.items=J (left.map .int))(w:ia n ks)(r:0<=v)(hv:v<n):bN.p [av n ks,d,.int v] s=.ok (.lst ((bE left v ks).map kD)) s:=by
 obtain⟨z,B,j⟩:=dL (v:=v) (left:=left) w;have y:=fI j (rl left v ks).length;rw[sD (by rfl)];unfold d9;have f:li 3 [av n ks,d,.int v]=[J (av n ks),J (d),J (.int v)]:=rfl
 have q:=fy (ws:=[]) (ws':=[]) (env:=[J (av n ks),J (d),J (.int v)]) (s:=s) (fm:=[0]) (i:=aI (ai bS (ab (aa 0) (ab (aa 1) (ab (aa 2) a_))))) (t:=xB (ac (wh I) (aa 0) (ac i3 (aa 1) (xC (.int 1))))) (e:=aa 0) (ds:=(aO (rl left v ks) (rl left v ks).length).map kD) (pf ks) (λx=>x) (by simp[u0 hd w r hv]) (by simp;ext) (λx l=>by
   obtain⟨k,u,rfl⟩:=nw.mp l
   exact⟨by simp[av,wz (d:=.tup (ks.map kD)) rfl],λ_=>by simp⟩)
 rw[mL]at q;rw[f,cz,q];rfl
structure CD(n:Nat)(rs:UN):Prop where
 g:Rg n rs
 l4:4<=rs.length
def d7(n:Nat)(v:Int)(ks:UP):UN:=(c_ n).filter λx=>!decide (x=v) && !decide (x∈y1 v ks)
def pT{n:Nat}{v x:Int}{ks:UP}(w:ia n ks):x∈d7 n v ks↔(0<=x/\x<(n:Int))/\x≠v/\¬Td ks v x:=by unfold d7;rw[n3,aT];simp only[Lo,FX,decide_eq_false_iff_not,cY w]
def Iw.mem(h:Iw ks ps a wy e):(∀x∈wy,x=a\/x∈ps)/\((wy=[a]/\e=a)\/(wy=[a,e]/\Td ks a e)\/3<=wy.length):=by
 induction h with
 |one=>exact⟨λx h=>.inl (by simpa using h),.inl ⟨rfl,rfl⟩⟩
 |@more wy e p h t j _ _ f =>
  refine⟨λx i=>(lT.mp i).elim (f.1 x) λz=>.inr (by rw[B3.mp z];exact j),.inr ?_⟩;rcases f.2 with⟨e1,e2⟩|⟨e1,_⟩|l
  .subst e1 e2;exact .inl ⟨rfl,t⟩
  .subst e1;exact .inr (by simp)
  .exact .inr (by rw[z_];ext)
def FA(w:ia n ks)(hv:0<=v/\v<(n:Int))(l:[a,b]∈bE (c_ n) v ks)(h:Iw ks (d7 n v ks++[b]) a wy b):CD n (v::wy):=by
 obtain⟨lt,B,y,i,tb,j⟩:=(fS w).mp l;obtain⟨u,r⟩:=h.mem;have l3:3<=wy.length:=by
  rcases r with⟨_,z⟩|⟨_,z⟩|z
  .ext
  .exact absurd z j
  .exact z
 have bd:∀x∈wy,(0<=x/\x<(n:Int))/\x≠v:=λx f=>by
  rcases u x f with rfl|q
  .exact⟨(gW w i).2.2,λz=>(gW w i).1 z.symm⟩
  .rcases lT.mp q with q|q
   .exact⟨((pT w).mp q).1,((pT w).mp q).2.1⟩
   .rw[B3.mp q];exact⟨(gW w tb).2.2,λz=>(gW w tb).1 z.symm⟩
 exact⟨⟨Dk.mpr ⟨λz=>(bd v z).2 rfl,h.nd⟩,λx f=>(k4.mp f).elim (λz=>z▸hv) λz=>(bd x z).1,by have:=w.n12;ext,by simp;ext⟩,by simp;ext⟩
def uA(v:Int)(ns:UN)(x:D):Bool:=match x with
 |.int i=>!decide (i=v) && !decide (i∈ns)
 |_=>T
def uf:∀(f:UN),(((f.map D.int).filter (uA v ns)).map λx=>x)=(f.filter λx=>!decide (x=v) && !decide (x∈ns)).map D.int
 |[]=>rfl
 |i::f=>by
  have j:=uf f;rw[n9,C8,C8];by_cases z:(!decide (i=v) && !decide (i∈ns))=I
  .rw[b_ z,b_ (show uA v ns (.int i)=I from z),n9,j,n9]
  .rw[f_ z,f_ (show ¬uA v ns (.int i)=I from z),j]
abbrev Sh:Xd []:=(aC (bc 7 (ai bu (ab (aa 0) (ab (ac bo (aa 4) (bM (ab (aa 6) a_))) (ab (aa 5) (ab (aa 6) a_))))))
 (p0 (xB (ac (Nc I) (aa 7) (xC .non))) (bv (ac bo (bM (ab (aa 2) a_)) (aa 7))) iw))
abbrev Si:Xd []:=(aC (bc 3 (ai br (ab (aa 0) (ab (aa 2) a_))))
 (aC (bc 4 (aG 1 [2,3] (aI (aa 1)) (ws':=[]) (i0 0) (eV (xB (ac Az (aa 0) (aa 1))) (xB (ac (wh I) (aa 0) (aa 2)))) (aa 0)))
 (cu (aI (ai bN (ab (aa 0) (ab (aa 1) (ab (aa 2) a_))))) (By (pq (i0 5) (pq (i0 6) Bu)) 2) Sh)))
abbrev De(n:Nat)(ks:UP)(v:Int)(x0 x1 x2:UC):aq:=[J (av n ks),J (.lst ((c_ n).map .int)),J (.int v),J (.lst ((y1 v ks).map .int)),J (.lst ((d7 n v ks).map .int)),x0,x1,x2]
abbrev Sj:=B7 (By (pq (i0 5) (pq (i0 6) Bu)) 2:Xg []).p Sh.p
def N6{n:Nat}{ks:UP}{v:Int}{z5 z6 z7:UC}{s:g_}(w:ia n ks)(hv:0<=v/\v<(n:Int)):
  (∃u y i,Sj ((bE (c_ n) v ks).map kD) (De n ks v z5 z6 z7) s=.nx (De n ks v u y i) s/\∀a b,[a,b]∈bE (c_ n) v ks->¬Rc ks (d7 n v ks++[b]) a b) \/
  (∃l,Sj ((bE (c_ n) v ks).map kD) (De n ks v z5 z6 z7) s=.rt (.lst (l.map .int)) s/\CD n l):=by
 have n12:=w.n12;have Z:(d7 n v ks).length<=12:=by
  have:=C5 (λx=>!decide (x=v) && !decide (x∈y1 v ks)) (c_ n)
  unfold d7;simp[c_]at this ⊢;ext
 have r:=mG (g:=(By (pq (i0 5) (pq (i0 6) Bu)) 2:Xg []).p) (b:=Sh.p)
  (λj env f=>∃u y i,env=(De n ks v u y i)/\f=s/\∀a b,[a,b]∈(bE (c_ n) v ks).take j->¬Rc ks (d7 n v ks++[b]) a b) (λr f=>∃l,r=.lst (l.map .int)/\f=s/\CD n l)
  ((bE (c_ n) v ks).map kD) 0 (De n ks v z5 z6 z7) s ⟨z5,z6,z7,rfl,rfl,by simp⟩ (λj env f d ⟨u,y,i,Q,P,C⟩ hd=>by
   rw[pu]at C ⊢;subst Q P;rw[pr,vu]at hd;obtain⟨k,E,rfl⟩:=hd;have mk:=Ci E;obtain⟨a,b,rfl,W,lt,bn⟩:=jR (v:=v) (left:=c_ n) w k mk;refine⟨(De n ks v (J (.int a)) (J (.int b)) i),by simp[kD],?_⟩;have U:bo.p (.lst ((d7 n v ks).map .int)) (.lst [.int b])=J (.lst ((d7 n v ks++[b]).map .int)):=by rw[fg (by simp;ext)];simp
   have R:(bE (c_ n) v ks).take (j+1)=(bE (c_ n) v ks).take j++[[a,b]]:=by rw[C9,E];rfl
   have F:∀{r:D},bu.p [av n ks,.lst ((d7 n v ks++[b]).map .int),.int a,.int b] f=.ok r f->(bc 7 (ai bu (ab (aa 0) (ab (ac bo (aa 4) (bM (ab (aa 6) a_))) (ab (aa 5) (ab (aa 6) a_))))):Xd []).p (De n ks v (J (.int a)) (J (.int b)) i) f=.nx (De n ks v (J (.int a)) (J (.int b)) (J r)) f:=λ{r} z=>by
    simp![bw,aE,aF,c7,AQ,Ca,show(0+1:Nat)<=100000 by decide,if_true,U,Pf,z,Pg,vv,t_]
   rcases Fv (ps:=d7 n v ks++[b]) (b:=b) (s:=f) w ⟨W,show a<(n:Int) by ext⟩with⟨wy,z,O⟩|⟨z,S⟩
   .right;have B:=FA w hv mk O;have bl:=B.g.len;refine⟨.lst ((v::wy).map .int),f,?_,v::wy,rfl,rfl,B⟩;have X:bo.p (.lst [.int v]) (.lst (wy.map .int))=J (.lst ((v::wy).map .int)):=by
     rw[fg (by simp at bl ⊢;ext)];simp
    rw[az,F z,PU.ak,dn];simp![eT,aF,bC,zD,show(Nc I).p (.lst (wy.map .int)) .non=J (.bl I)from rfl,Pf,Pl,Pg,if_true,cz,c7,AQ,Ca,show(0+1:Nat)<=100000 by decide,X]
   .left;refine⟨(De n ks v (J (.int a)) (J (.int b)) (J .non)),f,?_,_,_,_,rfl,rfl,λL G h=>?_⟩
    .rw[az,F z,PU.ak,dn];dsimp![eT,aF,bC,zD,show(Nc I).p .non .non=J (.bl T)from rfl,Pf,Pl,Pg,o0,if_false,jf]
    .rw[R]at h;rcases lT.mp h with h|h
     .exact C L G h
     .have:L=a/\G=b:=by simpa using h
      rw[this.1,this.2];exact S)
 rcases r with⟨H,f,e,u,y,i,rfl,rfl,C⟩|⟨r,f,e,l,rfl,rfl,B⟩
 .rw[q7,pu,FY]at C;exact .inl ⟨u,y,i,e,C⟩
 .exact .inr ⟨l,e,B⟩
def uM{n:Nat}{ks:UP}{s:g_}(w:ia n ks):(∃l,cP.p [av n ks] s=.ok (.lst (l.map .int)) s/\CD n l)\/(cP.p [av n ks] s=.ok .non s/\∀v∈c_ n,∀a b,[a,b]∈bE (c_ n) v ks->¬Rc ks (d7 n v ks++[b]) a b):=by
 have n12:=w.n12;have r:=mG (g:=(i0 2:Xg []).p) (b:=Si.p)
  (λj env f=>∃L G E u y C,env=[J (av n ks),J (.lst ((c_ n).map .int)),L,G,E,u,y,C]/\f=s/\∀v∈(c_ n).take j,∀a b,[a,b]∈bE (c_ n) v ks->¬Rc ks (d7 n v ks++[b]) a b) (λr f=>∃l,r=.lst (l.map .int)/\f=s/\CD n l)
  ((c_ n).map .int) 0 [J (av n ks),J (.lst ((c_ n).map .int)),Y,Y,Y,Y,Y,Y] s ⟨_,_,_,_,_,_,rfl,rfl,by simp⟩ (λj env f d ⟨L,G,E,u,y,C,W,S,F⟩ hd=>by
   rw[pu]at F ⊢;subst W S;rw[pr,vu]at hd;obtain⟨v,O,rfl⟩:=hd;have hv:=aT.mp (Ci O);have X:(c_ n).take (j+1)=(c_ n).take j++[v]:=by rw[C9,O];rfl
   refine⟨[J (av n ks),J (.lst ((c_ n).map .int)),J (.int v),G,E,u,y,C],rfl,?_⟩
   have q:=fy (ws:=[]) (ws':=[]) (env:=[J (av n ks),J (.lst ((c_ n).map .int)),J (.int v),J (.lst ((y1 v ks).map .int)),E,u,y,C]) (s:=f) (fm:=[2,3]) (i:=aI (aa 1)) (t:=eV (xB (ac Az (aa 0) (aa 1))) (xB (ac (wh I) (aa 0) (aa 2)))) (e:=aa 0) (ds:=(c_ n).map .int) (uA v (y1 v ks)) (λx=>x) (by simp) (by simp[c_];ext) (λx hx=>by
    obtain⟨i,hi,rfl⟩:=nw.mp hx;refine⟨?_,λ_=>by simp⟩;have U:=iO (neg:=I) (x:=i) (d:=.lst ((y1 v ks).map .int)) (xs:=y1 v ks) rfl;show(eV _ _:Xt []).p [J (.int i),J (.int v),J (.lst ((y1 v ks).map .int))] f=_
    by_cases z:i=v<;>simp[z,U,uA])
   rw[uf]at q;have pre:Si.p [J (av n ks),J (.lst ((c_ n).map .int)),J (.int v),G,E,u,y,C] f=Sj ((bE (c_ n) v ks).map kD) (De n ks v u y C) f:=by rw[az,bw];simp![aE,ya w hv.1 hv.2,Pg,vv,t_,PU.ak];rw[az,bw,q];simp only[Pg,vv,t_,PU.ak];rw[dy];simp![fJ,aE,GA (d:=.lst ((c_ n).map .int)) rfl w hv.1 hv.2,fh,Pf,Pg];rfl
   rw[pre];rcases N6 (z5:=u) (z6:=y) (z7:=C) (s:=f) w hv with⟨x5,x6,x7,e,R⟩|⟨l,e,B⟩
   .refine .inl ⟨_,f,e,_,_,_,_,_,_,rfl,rfl,λP H=>?_⟩;rw[X]at H;rcases lT.mp H with h|h
    .exact F P h
    .have:P=v:=by simpa using h
     rw[this];exact R
   .exact .inr ⟨_,f,e,l,rfl,rfl,B⟩)
 have pre:cP.p [av n ks] s=((B7 (i0 2:Xg []).p Si.p ((c_ n).map .int) [J (av n ks),J (.lst ((c_ n).map .int)),Y,Y,Y,Y,Y,Y] s).then (bv (xC .non):Xd []).p).fin:=by rw[tX (by rfl)];unfold eD;rw[show li 8 [av n ks]=[J (av n ks),Y,Y,Y,Y,Y,Y,Y]from rfl];have Z:i3.p (av n ks) (.int 0)=J (.int (n:Int)):=rfl;rw[az,bw];simp![cT,aF,bC,aX,Z,Pf];rw[Nk (by ext),AO,qT];dsimp![Pf,Pg,vv,t_,PU.ak,az,dy,fJ,fh]
 rw[pre];rcases r with⟨Q,f,e,L,G,E,u,y,C,rfl,rfl,F⟩|⟨r,f,e,l,rfl,rfl,B⟩
 .rw[q7,pu,FY]at F;exact .inr ⟨by rw[e];rfl,F⟩
 .exact .inl ⟨l,by rw[e];rfl,B⟩
end
def Rc.on{f:UP}{i j:UN}{a t y:Int}(h:Rc f i a t)(sub:∀x∈j,x∈i)(r:Rc f j t y):Rc f i a y:=by
 induction r with
 |base=>exact h
 |step _ t py l=>exact .step l t (sub _ py)
structure Gd'(ks:UP)(ls T:UN):Prop where
 sub:∀t∈T,t∈ls
 nd:T.Nodup
 ne:T≠[]
 con:∀x∈T,∀y∈T,Rc ks T x y
 ex:∃r∈ls,r∉T/\∀t∈T,¬Td ks t r
def zF{ks:UP}{ls:UN}:∀(k:Nat)(a:UN),Gd' ks ls a->ls.length-a.length<=k->∃a,Gd' ks ls a/\∀f,Gd' ks ls f->f.length<=a.length
 |0,a,g,h=>⟨a,g,λf i=>by
  have:=List.Nodup.length_le_of_subset (l₂:=ls) i.nd λx j=>i.sub x j
  ext⟩
 |k+1,a,g,h=>by
  by_cases z:∃f,Gd' ks ls f/\a.length<f.length
  .obtain⟨f,i,lt⟩:=z;exact zF k f i (by ext)
  .exact⟨a,g,λf i=>Nat.le_of_not_lt λq=>z ⟨f,i,q⟩⟩
open Classical in
theorem GB{n:Nat}{j:UP}(w:ia n j)(nb:∀v∈c_ n,∀a b,[a,b]∈bE (c_ n) v j->¬Rc j (d7 n v j++[b]) a b):∀(m:Nat)(l:UN),l.length<=m->l≠[]->(∀v∈l,0<=v/\v<(n:Int))->∃v∈l,∀x∈l,∀y∈l,Td j v x->Td j v y->x≠y->Td j x y
 |0,l,hm,ne,_=>absurd (C4.mp (by ext)) ne
 |m+1,l,hm,ne,hb=>by
  by_cases cq:∀x∈l,∀y∈l,x≠y->Td j x y
  .obtain⟨v,hv⟩:=Sq l ne;exact⟨v,hv,λx i y C _ _=>cq x i y C⟩
  .obtain⟨u,hu,z,hz,uz,nt⟩:∃u∈l,∃z∈l,u≠z/\¬Td j u z:=Classical.byContradiction λq=>cq λx i y C e=>Classical.byContradiction λt=>q ⟨x,i,y,C,e,t⟩;have one:∀{t:Int},t∈[u]->t=u:=λh=>by simpa using h
   obtain⟨f,g,mx⟩:=zF (ks:=j) (ls:=l) l.length [u] ⟨λt h=>by rw[one h];exact hu,by simp,by simp,λx i y C=>by rw[one i,one C];exact .base,z,hz,by simpa using uz.symm,λt h=>by rw[one h];exact nt⟩ (by ext);have A:∀s∈l,s∉f->(∃t∈f,Td j t s)->∀r∈l,r∉f->(∀t∈f,¬Td j t r)->Td j s r:=λs hs sT ⟨t,E,Z⟩ r U W O=>by
    refine Classical.byContradiction λno=>?_;have up:∀x∈f,x∈s::f:=λx i=>lb _ i;have ms:s∈s::f:=wj;have fr:∀x∈f,Rc j (s::f) s x:=λx i=>Rc.on (.step .base Z.symm (up t E)) up (g.con t E x i);have to:∀x∈f,Rc j (s::f) x s:=λx i=>.step (Rc.on .base up (g.con x i t E)) Z ms
    have:=mx (s::f) ⟨λx i=>by
      rcases k4.mp i with rfl|i
      .exact hs
      .exact g.sub x i,Dk.mpr ⟨sT,g.nd⟩,by simp,λx i y C=>by
      rcases k4.mp i with Q|Q<;>rcases k4.mp C with R|R
      .rw[Q,R];exact .base
      .rw[Q];exact fr y R
      .rw[R];exact to x Q
      .exact Rc.on .base up (g.con x Q y R),r,U,λq=>by
      rcases k4.mp q with h|h
      .subst h;exact O t E Z
      .exact W h,λx i q=>by
      rcases k4.mp i with h|h
      .subst h;exact no q
      .exact O x h q⟩
    rw[AQ]at this;ext
   have B:∀s∈l,s∉f->(∃t∈f,Td j t s)->∀F∈l,F∉f->(∃t∈f,Td j t F)->s<F->Td j s F:=λs hs sT X F P as G lt=>by
    refine Classical.byContradiction λno=>?_;obtain⟨r,U,W,O⟩:=g.ex;have t1:=A s hs sT X r U W O;have t2:=A F P as G r U W O;obtain⟨t,E,Z⟩:=X;obtain⟨t',al,ap⟩:=G;have S:∀x∈f,x∈d7 n r j++[F]:=λx i=>xg _ ((pT w).mpr ⟨hb x (g.sub x i),λq=>W (q▸i),λq=>O x i q.symm⟩);exact nb r (aT.mpr (hb r U)) s F ((fS w).mpr ⟨lt,aT.mpr (hb s hs),aT.mpr (hb F P),t1.symm,t2.symm,no⟩) (.step (Rc.on (.step .base Z.symm (S t E)) S (g.con t E t' al)) ap (by simp))
   have inR:∀x,x∈(l.filter λx=>decide (x∉f/\∀t∈f,¬Td j t x))↔x∈l/\x∉f/\∀t∈f,¬Td j t x:=λx=>by
    rw[n3];exact and_congr_right λ_=>by rw[decide_eq_true_eq]
   obtain⟨r0,ax,an,ay⟩:=g.ex
   obtain⟨v,hv,fv⟩:=GB w nb m (l.filter λx=>decide (x∉f/\∀t∈f,¬Td j t x)) (by
    obtain⟨t,E⟩:=Sq f g.ne;refine FW (oQ ?_ hm);refine Nat.lt_of_le_of_ne (C5 _ _) λe=>?_
    have:=List.length_filter_eq_length_iff.mp e t (g.sub t E)
    rw[decide_eq_true_eq]at this
    exact this.1 E) (List.ne_nil_of_mem ((inR r0).mpr ⟨ax,an,ay⟩)) (λv hv=>hb v ((inR v).mp hv).1)
   obtain⟨vl,vT,nv⟩:=(inR v).mp hv;refine⟨v,vl,λx i y C tx ty ne=>?_⟩
   have cs:∀x∈l,Td j v x->x∉f/\((∃t∈f,Td j t x)\/∀t∈f,¬Td j t x):=λx i t=>⟨λq=>nv x q t.symm,by
    by_cases q:∃t∈f,Td j t x
    .exact .inl q
    .exact .inr λt E h=>q ⟨t,E,h⟩⟩
   obtain⟨xT,L⟩:=cs x i tx;obtain⟨yT,H⟩:=cs y C ty;rcases L with L|L<;>rcases H with H|H
   .rcases Ll ne with lt|lt
    .exact B x i xT L y C yT H lt
    .exact (B y C yT H x i xT L lt).symm
   .exact A x i xT L y C yT H
   .exact (A y C yT H x i xT L).symm
   .exact fv x ((inR x).mpr ⟨i,xT,L⟩) y ((inR y).mpr ⟨C,yT,H⟩) tx ty ne
def aK(a:UP):UN->Nat
 |[]=>0
 |v::r=>(bE (v::r) v a).length+aK (d8 (v::r) v a) r
section
variable{n:Nat}{ks ks':UP}{left l l' qs:UN}{v a b:Int}
def yD(h:∀x,x∈l↔x∈l'):rl l v ks=rl l' v ks:=List.filter_congr λx _=>decide_eq_decide.mpr (h x)
def FC(h:∀x,x∈l↔x∈l'):bE l v ks=bE l' v ks:=by unfold bE;rw[yD h]
def vF(h:∀x,x∈l↔x∈l'):d8 l v ks=d8 l' v ks:=by unfold d8;rw[yD h]
def vQ{k:UN}:k∈d8 left v ks↔k∈B_ v ks\/k∈aO (rl left v ks) (rl left v ks).length:=by unfold d8;rw[(cg _).mem_iff,SetT.fL,lT]
def qE{ns:UN}(u:ns.Pairwise (·<·)):(aO ns ns.length).Nodup:=by
 unfold aO List.Nodup;rw[List.pairwise_flatMap];refine⟨λi _=>Kx.mpr ((u.sublist (P4 _ _)).imp λh e=>?_),PN.imp_of_mem λ{i j} r f lt x z y B e=>?_⟩
 .injection e with _ e
  injection e with e _
  ext
 .rw[Ck]at r f;obtain⟨c,_,rfl⟩:=nw.mp z;obtain⟨d,_,rfl⟩:=nw.mp B;injection e with e _
  have:=FP.mp u i j r f lt
  simp[List.getD,r,f]at e;ext
def vp(w:ia n ks):(d8 left v ks).length=(B_ v ks).length+(bE left v ks).length:=by
 obtain⟨f,u,F⟩:=dL (v:=v) (left:=left) w;have d:∀k∈aO (rl left v ks) (rl left v ks).length,v∉k:=λk j hv=>by
  obtain⟨a,b,rfl,_⟩:=fk f u k j;obtain⟨C,E,_⟩:=(d4 f).mp j;have na:∀x,x∈rl left v ks->v≠x:=λx i=>(gW w ((cY w).mp (n3.mp i).1)).1;simp only[k4,GX,or_false]at hv;exact hv.elim (na a C) (na b E)
 rw[<-z_];have r:(bE left v ks).Nodup:=by exact(qE f).filter _
 have nd:(B_ v ks++bE left v ks).Nodup:=by rw[Cj];refine⟨w.nd.filter _,r,λx i y B e=>?_⟩;subst e;have h:=(n3.mp B).2;rw[decide_eq_true (n3.mp i).1]at h;cases h
 refine((K_ (ie w).nd nd).mpr λk=>?_).length_eq;rw[vQ,lT];refine⟨λh=>h.elim .inl λq=>?_,λh=>h.elim .inl λq=>.inr (n3.mp q).1⟩;by_cases z:k∈ks
 .exact .inl (n3.mpr ⟨z,by simp[d k q]⟩)
 .exact .inr (n3.mpr ⟨q,by simp[z]⟩)
def qi:∀(qs:UN){ks ks':UP},ia n ks->ia n ks'->(∀k∈ks,k∈ks')->aK ks qs+ks.length<=aK ks' qs+ks'.length
 |[],ks,ks',w,i,h=>by
  have:=List.Nodup.length_le_of_subset w.nd h
  simp only[aK];ext
 |v::r,ks,ks',w,i,h=>by
  have G:∀{a b:Int},Td ks a b->Td ks' a b:=λt=>t.imp (h _) (h _);have j:=qi r (ie (left:=v::r) (v:=v) w) (ie (left:=v::r) (v:=v) i) λk f=>by
   rw[vQ]at f ⊢;refine f.imp (λq=>n3.mpr ⟨h k (n3.mp q).1,(n3.mp q).2⟩) λq=>?_;obtain⟨u,E,O⟩:=dL (v:=v) (left:=v::r) w;obtain⟨a,b,rfl,_⟩:=fk u E k q;obtain⟨F,H,lt⟩:=(d4 u).mp q;have C:∀x,x∈rl (v::r) v ks->x∈rl (v::r) v ks':=λx B=>n3.mpr ⟨(cY i).mpr (G ((cY w).mp (n3.mp B).1)),(n3.mp B).2⟩;exact(d4 (dL (v:=v) (left:=v::r) i).1).mpr ⟨C a F,C b H,lt⟩
  have R:=vp (left:=v::r) (v:=v) w;have Q:=vp (left:=v::r) (v:=v) i;have y:∀{ks:UP},(B_ v ks).length+(ks.filter λk=>decide (v∈k)).length=ks.length:=λ{ks}=>by
   induction ks with
   |nil=>rfl
   |cons k ks j =>
    unfold B_ at j ⊢;by_cases z:v∈k<;>simp[z]at j ⊢<;>ext
  have P:=y (ks:=ks);have S:=y (ks:=ks');have L:(ks.filter λk=>decide (v∈k)).length<=(ks'.filter λk=>decide (v∈k)).length:=List.Nodup.length_le_of_subset (w.nd.filter _) λk f=>n3.mpr ⟨h k (n3.mp f).1,(n3.mp f).2⟩;simp only[aK];ext
def qC(X:ia n ks)(fr:∀f:UN,f≠[]->(∀v∈f,0<=v/\v<(n:Int))->∃v∈f,∀x∈f,∀y∈f,Td ks v x->Td ks v y->x≠y->Td ks x y):
  ∀(m:Nat)(f:UN)(ks':UP),f.length=m->(∀v∈f,0<=v/\v<(n:Int))->f.Nodup->ia n ks'->(∀x∈f,∀y∈f,Td ks' x y->Td ks x y)->(∀x∈f,∀y∈f,Td ks x y->Td ks' x y)->∃qs,qs.Perm f/\aK ks' qs=0
 |0,f,ks',B,_,_,_,_,_=>⟨[],by rw[C4.mp B],rfl⟩
 |m+1,f,ks',B,P,nd,w,j,F=>by
  obtain⟨v,hv,H⟩:=fr f (λz=>by rw[z]at B;cases B) P;have W:=PY hv;have sub:∀x∈f.erase v,x∈f:=λx i=>List.mem_of_mem_erase i;have O:∀x∈f.erase v,x≠v:=λx i z=>by rw[z]at i;exact(List.Nodup.not_mem_erase nd) i
  obtain⟨qs,R,U⟩:=qC X fr m (f.erase v) (d8 f v ks') (by rw[Sr hv];ext) (λx i=>P x (sub x i)) (nd.erase v) (ie w) (λx i y C t=>by
    rcases(jl w).mp t with⟨t,_⟩|⟨ne,G,L,S,ty⟩
    .exact j x (sub x i) y (sub y C) t
    .exact H x G y L (j v hv x G S) (j v hv y L ty) ne) λx i y C t=>(jl w).mpr (.inl ⟨F x (sub x i) y (sub y C) t,O x i,O y C⟩)
  have pm:(v::qs).Perm f:=(R.cons v).trans W.symm;refine⟨v::qs,pm,?_⟩;have e1:bE (v::qs) v ks'=[]:=List.eq_nil_iff_forall_not_mem.mpr λk E=>by
   obtain⟨a,b,rfl,_⟩:=jR w k E;obtain⟨lt,u,r,Z,tb,Q⟩:=(fS w).mp E;have u:=pm.mem_iff.mp u;have r:=pm.mem_iff.mp r;exact Q (F a u b r (H a u b r (j v hv a u Z) (j v hv b r tb) (by ext)))
  rw[aK,e1,vF (λx=>pm.mem_iff),U];rfl
end
inductive Wy(ks:UP)(P:Int->Prop):Int->Int->Prop where
 |tie{a b:Int}:Td ks a b->Wy ks P a b
 |thru{a b c:Int}:Wy ks P a c->P c->Wy ks P c b->Wy ks P a b
def Wy.symm{f:UP}{P:Int->Prop}{a b:Int}(h:Wy f P a b):Wy f P b a:=by
 induction h with
 |tie t=>exact .tie t.symm
 |thru _ p _ i j=>exact .thru j p i
def Wy.mono{f:UP}{P Q:Int->Prop}(l:∀x,P x->Q x){a b:Int}(h:Wy f P a b):Wy f Q a b:=by
 induction h with
 |tie t=>exact .tie t
 |thru _ p _ i j=>exact .thru i (l _ p) j
def Wy.cut{f:UP}{P Q:Int->Prop}{v:Int}(u:∀x,Q x->P x\/x=v){a b:Int}(h:Wy f Q a b):Wy f P a b\/(Wy f P a v/\Wy f P v b):=by
 induction h with
 |tie t=>exact .inl (.tie t)
 |@thru a b c _ p _ i j =>
  rcases u _ p with p|rfl
  .rcases i with i|⟨r,z⟩<;>rcases j with j|⟨y,l⟩
   .exact .inl (.thru i p j)
   .exact .inr ⟨.thru i p y,l⟩
   .exact .inr ⟨r,.thru z p j⟩
   .exact .inr ⟨r,l⟩
  .exact .inr ⟨i.elim id (·.1),j.elim id (·.2)⟩
open Classical in
def KW(n:Nat)(f:UP)(left:UN):UP:=cf (SetT.l7 ((aO (c_ n) (c_ n).length).filter λk=>decide (∃a b:Int,k=[a,b]/\a∈left/\b∈left/\Wy f (λx=>(0<=x/\x<(n:Int))/\x∉left) a b)))
def v8(n:Nat):(c_ n).Pairwise (·<·):=by unfold c_;exact Kx.mpr (PN.imp λh=>by ext)
section
variable{n:Nat}{ks ks':UP}{left qs:UN}{v a b:Int}
def vh(w:ia n ks)(i:ia n ks')(h:∀a b:Int,a<b->(Td ks a b↔Td ks' a b)):ks=ks':=by
 refine jK w.ris i.ris ((K_ w.nd i.nd).mpr λk=>?_);constructor
 .intro f;obtain⟨a,b,rfl,_,lt,_⟩:=w.tie k f;exact xM i lt ((h a b lt).mp (.inl f))
 .intro f;obtain⟨a,b,rfl,_,lt,_⟩:=i.tie k f;exact xM w lt ((h a b lt).mpr (.inl f))
def nG(w:ia n ks):ia n (KW n ks left):=ji (by ext) w.n12 λk f=>by
 have f:=(n3.mp f).1;exact fk (v8 n) (λx i=>aT.mp i) k f
open Classical in
theorem oD(w:ia n ks)(j:∀x∈left,0<=x/\x<(n:Int)):Td (KW n ks left) a b↔a≠b/\a∈left/\b∈left/\Wy ks (λx=>(0<=x/\x<(n:Int))/\x∉left) a b:=by
 have mem:∀a b:Int,[a,b]∈KW n ks left↔a<b/\a∈left/\b∈left/\Wy ks (λx=>(0<=x/\x<(n:Int))/\x∉left) a b:=λa b=>by
  unfold KW;rw[(cg _).mem_iff,SetT.fL,n3,d4 (v8 n),decide_eq_true_eq];constructor
  .rintro⟨⟨_,_,lt⟩,x,y,e,h⟩;injection e with e1 e
   injection e with e2 _
   subst e1 e2;exact⟨lt,h⟩
  .rintro⟨lt,i,f,h⟩;exact⟨⟨aT.mpr (j a i),aT.mpr (j b f),lt⟩,a,b,rfl,i,f,h⟩
 unfold Td;rw[mem,mem];constructor
 .rintro (⟨lt,i,f,h⟩|⟨lt,i,f,h⟩)
  .exact⟨by ext,i,f,h⟩
  .exact⟨by ext,f,i,h.symm⟩
 .rintro⟨ne,i,f,h⟩;rcases Ll ne with lt|lt
  .exact .inl ⟨lt,i,f,h⟩
  .exact .inr ⟨lt,f,i,h.symm⟩
def lR(w:ia n ks):KW n ks (c_ n)=ks:=vh (nG w) w λa b lt=>by
 rw[oD w λx i=>aT.mp i];constructor
 .rintro⟨_,_,_,h⟩
  have:∀a b,Wy ks (λx=>(0<=x/\x<(n:Int))/\x∉c_ n) a b->Td ks a b:=λa b h=>by
   induction h with
   |tie t=>exact t
   |thru _ p=>exact absurd (aT.mpr p.1) p.2
  exact this _ _ h
 .intro t;obtain⟨ne,f,bb⟩:=gW w t;exact⟨ne,aT.mpr f,aT.mpr bb,.tie t⟩
def aV(left:UN)(v:Int):UN:=left.filter λx=>!decide (x=v)
def dR{x:Int}:x∈aV left v↔x∈left/\x≠v:=by simp[aV]
def yK(w:ia n ks)(j:∀x∈left,0<=x/\x<(n:Int))(hv:v∈left):d8 left v (KW n ks left)=KW n ks (aV left v):=by
 have B:=nG (left:=left) w;have y:∀x∈aV left v,0<=x/\x<(n:Int):=λx E=>j x (dR.mp E).1;have C:∀x,(0<=x/\x<(n:Int))/\x∉aV left v->((0<=x/\x<(n:Int))/\x∉left)\/x=v:=λx h=>by
  by_cases z:x=v
  .exact .inr z
  .exact .inl ⟨h.1,λq=>h.2 (dR.mpr ⟨q,z⟩)⟩
 have u:∀x,(0<=x/\x<(n:Int))/\x∉left->(0<=x/\x<(n:Int))/\x∉aV left v:=λx h=>⟨h.1,λq=>h.2 (dR.mp q).1⟩;refine vh (ie B) (nG w) λa b lt=>?_;rw[jl B,oD w j,oD w j,oD w j,oD w y,dR,dR];constructor
 .rintro (⟨⟨ne,f,i,h⟩,na,nb⟩|⟨ne,f,i,⟨na,_,_,l⟩,nb,_,_,r⟩)
  .exact⟨ne,⟨f,na⟩,⟨i,nb⟩,h.mono u⟩
  .exact⟨ne,⟨f,na.symm⟩,⟨i,nb.symm⟩,.thru (l.mono u).symm ⟨j v hv,λq=>(dR.mp q).2 rfl⟩ (r.mono u)⟩
 .rintro⟨ne,⟨f,na⟩,⟨i,nb⟩,h⟩;rcases h.cut C with h|⟨l,r⟩
  .exact .inl ⟨⟨ne,f,i,h⟩,na,nb⟩
  .exact .inr ⟨ne,f,i,⟨na.symm,hv,f,l.symm⟩,nb.symm,hv,i,r⟩
def Kd(n:Nat)(ks:UP):Nat->UN->Int×UN
 |0,_=>(0,[])
 |m+1,left=>(left.map λv=>(((bE left v (KW n ks left)).length:Int)+(Kd n ks m (aV left v)).1,v::(Kd n ks m (aV left v)).2)).getD (argBest (cM (left.map λv=>(((bE left v (KW n ks left)).length:Int)+(Kd n ks m (aV left v)).1,v::(Kd n ks m (aV left v)).2))) (left.length-1)) (0,[])
def Wt(n:Nat)(ks:UP)(left:UN):Int×UN:=Kd n ks left.length left
def dI(n:Nat)(ks:UP)(left:UN)(v:Int):Int×UN:=(((bE left v (KW n ks left)).length:Int)+(Wt n ks (aV left v)).1,v::(Wt n ks (aV left v)).2)
def pi(nd:left.Nodup):aV left v=left.erase v:=by rw[nd.erase_eq_filter];exact List.filter_congr λx _=>by by_cases z:x=v<;>simp[z]
def ni(nd:left.Nodup)(hv:v∈left):(aV left v).length+1=left.length:=by
 have:=List.length_pos_of_mem hv
 rw[pi nd,Sr hv];ext
def GC(nd:left.Nodup):Wt n ks left=(left.map (dI n ks left)).getD (argBest (cM (left.map (dI n ks left))) (left.length-1)) (0,[]):=by
 cases left with
 |nil=>rfl
 |cons c r =>
  have e:(c::r).map (dI n ks (c::r))=(c::r).map λv=>(((bE (c::r) v (KW n ks (c::r))).length:Int)+(Kd n ks r.length (aV (c::r) v)).1,v::(Kd n ks r.length (aV (c::r) v)).2):=FU λv hv=>by
   have:=ni nd hv
   rw[AQ]at this;have l:(aV (c::r) v).length=r.length:=by ext
   unfold dI Wt;rw[l]
  rw[e];rfl
def N7{f:List (Int×UN)}{i j:Nat}(h:cM f i j=I):(f.getD i (0,[])).1<=(f.getD j (0,[])).1:=by
 unfold cM nS at h
 split at h
 .ext
 .have:=of_decide_eq_true h;ext
def N8{f:List (Int×UN)}{i j:Nat}(h:¬cM f i j=I):(f.getD j (0,[])).1<=(f.getD i (0,[])).1:=by
 unfold cM nS at h
 split at h
 .ext
 .rw[decide_eq_true_eq]at h;ext
def wC{rows:List (Int×UN)}:∀m,∀j≤m,(rows.getD (argBest (cM rows) m) (0,[])).1<=(rows.getD j (0,[])).1
 |0,j,h=>by rw[Nat.le_zero.mp h];exact Ls _
 |m+1,j,h=>by
  have f:=wC (rows:=rows) m;rw[argBest];by_cases z:cM rows (m+1) (argBest (cM rows) m)=I
  .rw[b_ z];by_cases q:j=m+1
   .rw[q];exact Ls _
   .exact Qh (N7 z) (f j (by ext))
  .rw[f_ z];by_cases q:j=m+1
   .rw[q];exact N8 z
   .exact f j (by ext)
def kY(w:ia n ks):∀(m:Nat)(left:UN),left.length=m->left.Nodup->(∀x∈left,0<=x/\x<(n:Int))->(Wt n ks left).2.Perm left/\(aK (KW n ks left) (Wt n ks left).2:Int)=(Wt n ks left).1/\∀qs:UN,qs.Perm left->(Wt n ks left).1<=aK (KW n ks left) qs
 |0,left,C,_,_=>by
  have e:=C4.mp C;subst e
  have:Wt n ks []=(0,[]):=rfl
  rw[this];exact⟨.nil,rfl,λqs h=>by rw[List.Perm.eq_nil h];exact Ls _⟩
 |m+1,left,C,nd,F=>by
  have st:∀v∈left,∀r:UN,r.Perm (aV left v)->(v::r).Perm left/\aK (KW n ks left) (v::r)=(bE left v (KW n ks left)).length+aK (KW n ks (aV left v)) r:=λv hv r l=>by
   have pm:(v::r).Perm left:=((pi nd▸l).cons v).trans (PY hv).symm;refine⟨pm,?_⟩;rw[aK,FC λx=>pm.mem_iff,vF λx=>pm.mem_iff,yK w F hv]
  have E:∀v∈left,_:=λv hv=>kY w m (aV left v) (by have:=ni nd hv;ext) (nd.filter _) λx L=>F x (dR.mp L).1;rw[GC nd];have z:argBest (cM (left.map (dI n ks left))) (left.length-1)<left.length:=Kw (j7 _ _) (by ext);have B:=wC (rows:=left.map (dI n ks left)) (left.length-1);have gd:∀j,j<left.length->(left.map (dI n ks left)).getD j (0,[])=dI n ks left (left.getD j 0):=λj f=>by simp[List.getD,f]
  have mg:∀j,j<left.length->left.getD j 0∈left:=λj f=>by simp[List.getD,f]
  rw[gd _ z]at B ⊢;have hv:=mg _ z;obtain⟨P,O,R⟩:=E _ hv;obtain⟨H,Q⟩:=st _ hv _ P;refine⟨H,?_,λqs y=>?_⟩
  .show (aK (KW n ks left) (_::_):Int)=_+_;rw[Q,<-O];push_cast;rfl
  .cases qs with
   |nil=>have:=y.length_eq;rw[Ca]at this;ext
   |cons u r =>
    have i:u∈left:=y.mem_iff.mp wj;obtain⟨j,f,G⟩:=GQ i
    have:=B j (by ext)
    rw[gd j f,show left.getD j 0=u by simp[List.getD,f,G]]at this;have l:r.Perm (aV left u):=by rw[pi nd];exact(List.perm_cons u).mp (y.trans (PY i))
    rw[(st u i r l).2]
    have:=(E u i).2.2 r l
    refine Qh ‹_› ?_;show _+_<=_;push_cast;ext
end
def ce(f:UP)(a:UN):Nat->UP
 |0=>f
 |j+1=>d8 (a.drop j) (a.getD j 0) (ce f a j)
def gI(a:UP)(f:UN):Nat->UP
 |0=>a
 |j+1=>gI a f j++ce a f (j+1)
def fU{n:Int}{a:UP}{qs:UN}(w:ia n a):∀j,ia n (ce a qs j)
 |0=>w
 |j+1=>ie (fU w j)
def o3{n:Int}{f:UP}{qs:UN}(w:ia n f):∀j,∀k∈gI f qs j,∃a b:Int,k=[a,b]/\0<=a/\a<b/\b<n
 |0=>w.tie
 |j+1=>λk i=>(lT.mp i).elim (o3 w j k) ((fU w (j+1)).tie k)
def uw{a:UP}{f:UN}{k:UN}:∀j,k∈gI a f j↔∃i≤j,k∈ce a f i
 |0=>⟨λh=>⟨0,il _,h⟩,λ⟨i,l,h⟩=>by
  have z:i=0:=by ext
  subst z;exact h⟩
 |j+1=>by
  rw[gI,lT,uw j];constructor
  .rintro (⟨i,l,h⟩|h)
   .exact⟨i,by ext,h⟩
   .exact⟨j+1,il _,h⟩
  .rintro⟨i,l,h⟩;by_cases z:i=j+1
   .subst z;exact .inr h
   .exact .inl ⟨i,by ext,h⟩
abbrev ky(p:UN):D:=.lst (p.map .int)
def iT(p:Int->Bool)(q:D->Bool):∀(ns:UN),(∀i∈ns,q (.int i)=p i)->(((ns.map D.int).filter q).map λx=>x)=(ns.filter p).map .int
 |[],_=>rfl
 |i::ns,h=>by
  have a:=iT p q ns λi f=>h i (lb _ f);rw[n9,C8,C8,h i wj]
  cases p i with
  |true=>simp only[if_true,n9,a]
  |false=>simpa using a
def Ke(p:Int->Bool):D->Bool
 |.int i=>p i
 |_=>T
abbrev tD(B:UP):D:=.dic B (B.map λ_=>.bl I)
def Kf{a b:Int}:cN (.tup [.int a,.int b])=J [a,b]:=rfl
def yy{B:UP}{k:UN}:D.dic (h_ B (B.map λ_=>D.bl I) k (.bl I)).1 (h_ B (B.map λ_=>D.bl I) k (.bl I)).2=tD (SetT.bq B k):=by
 have:(h_ B (B.map λ_=>D.bl I) k (.bl I)).1=SetT.bq B k/\(h_ B (B.map λ_=>D.bl I) k (.bl I)).2=(SetT.bq B k).map λ_=>.bl I:=by
  induction B with
  |nil=>exact⟨rfl,rfl⟩
  |cons x B j =>
   obtain⟨a,f⟩:=j;by_cases e:x=k
   .subst e
    have:SetT.bq (x::B) x=x::B:=by simp[SetT.bq]
    rw[this];simp[h_]
   .have i:SetT.bq (x::B) k=x::SetT.bq B k:=by
     unfold SetT.bq;by_cases h:k∈B
     .rw[b_ h,b_ (lb _ h)]
     .rw[f_ h,f_ (by simp[h,Ne.symm e])];rfl
    rw[i];simp[h_,e,a,f]
 rw[this.1,this.2]
def GD:∀{B:UP}{k:UN},(n5 B (B.map λ_=>D.bl I) k).isSome=decide (k∈B)
 |[],k=>by simp[n5]
 |x::B,k=>by
  have a:=GD (B:=B) (k:=k);unfold n5;by_cases e:x=k
  .simp[e]
  .simp[e,Ne.symm e,a]
def N9{f:Bool}{a b:Int}{B:UP}:(uu f).p (.tup [.int a,.int b]) (tD B)=J (.bl (if f then !decide ([a,b]∈B)else decide ([a,b]∈B))):=by show(cN (.tup [.int a,.int b])).map (λi=>D.bl (if f then !(n5 B (B.map λ_=>D.bl I) i).isSome else(n5 B (B.map λ_=>D.bl I) i).isSome))=_;rw[Kf,GZ,GD]
def stK(B:UP)(l:UP):UP:=l.foldl SetT.bq B
def pC{B l m:UP}:stK B (l++m)=stK (stK B l) m:=P2
def o6{B l:UP}:(stK B l).length<=B.length+l.length:=by
 induction l generalizing B with
 |nil=>simp[stK]
 |cons k l a =>
  have f:(SetT.bq B k).length<=B.length+1:=by unfold SetT.bq;split<;>simp
  have i:=a (B:=SetT.bq B k);show(stK (SetT.bq B k) l).length<=_;rw[AQ];ext
def Bi(a:Int)(l:UN):UP:=(l.filter λb=>decide (a<b)).map λb=>[a,b]
def B2(g l:UN):UP:=l.flatMap λa=>Bi a g
def wD{a:Int}{l:UN}:(Bi a l).length<=l.length:=by unfold Bi;rw[q7];exact C5 _ _
def u4{g:UN}:∀{l:UN},(B2 g l).length<=g.length*l.length
 |[]=>by simp[B2]
 |a::l=>by
  have f:=wD (a:=a) (l:=g);have i:=u4 (g:=g) (l:=l);have e:B2 g (a::l)=Bi a g++B2 g l:=rfl;rw[e,z_,AQ,Nat.mul_add];ext
def vk{g:UN}{k:UN}:k∈B2 g g↔∃a b:Int,k=[a,b]/\a<b/\a∈g/\b∈g:=by
 unfold B2 Bi;rw[GY];constructor
 .rintro⟨a,r,h⟩;obtain⟨b,l,rfl⟩:=nw.mp h;obtain⟨f,i⟩:=n3.mp l;exact⟨a,b,rfl,of_decide_eq_true i,r,f⟩
 .rintro⟨a,b,rfl,f,i,j⟩;exact⟨a,i,nw.mpr ⟨b,n3.mpr ⟨j,decide_eq_true f⟩,rfl⟩⟩
def zd:∀{l B:UP},(B++l).Nodup->stK B l=B++l
 |[],B,_=>by simp[stK]
 |k::l,B,h=>by
  have a:k∉B:=λz=>by
   rw[Cj]at h;exact h.2.2 k z k wj rfl
  have e:SetT.bq B k=B++[k]:=f_ a;show stK (SetT.bq B k) l=_;rw[e,zd (by rw[CN];exact h),CN];rfl
abbrev qp(n:Nat)(ks:UP)(qs:UN)(TT:UP)(L:UC)(z3 z5 z6 z7 z8:UC):aq:=[J (av n ks),J (.lst (qs.map .int)),J (tD TT),z3,L,z5,z6,z7,z8]
abbrev Sk:Xd [2,4]:=lU 2 (xC (.bl I)) (aa 3)
def Kg{n:Nat}{ks:UP}{qs:UN}{z3 z4 z5 z6 z7 z8:UC}{s:g_}(w:ia n ks):
  ∃f,(cu (aI (ac i3 (aa 0) (xC (.int 1)))) (i0 3) Sk:Xd [2,4]).p (qp n ks qs [] z4 z3 z5 z6 z7 z8) s=.nx (qp n ks qs ks z4 f z5 z6 z7 z8) s:=by
 have E:=gn w.n12 w.tie w.nd;obtain⟨r,a,e,f,rfl,rfl⟩:=cZ (g:=(i0 3:Xg [2,4]).p) (b:=Sk.p) (λj env a=>∃z3,env=qp n ks qs (stK [] (ks.take j)) z4 z3 z5 z6 z7 z8/\a=s) (ks.map kD) 0
  (qp n ks qs [] z4 z3 z5 z6 z7 z8) s ⟨z3,rfl,rfl⟩ (λj env a d ⟨z3,i,y⟩ hd=>by
   rw[pu]at i ⊢;subst i y;rw[pr,vu]at hd;obtain⟨k,u,rfl⟩:=hd;have C:=o6 (B:=[]) (l:=ks.take j);rw[Di,Ca]at C;have e:Sk.p (qp n ks qs (stK [] (ks.take j)) z4 (J (kD k)) z5 z6 z7 z8) a=.nx (qp n ks qs (SetT.bq (stK [] (ks.take j)) k) z4 (J (kD k)) z5 z6 z7 z8) a:=by show _=PS.nx [J (av n ks),J (.lst (qs.map .int)),J (tD (SetT.bq (stK [] (ks.take j)) k)),_,_,_,_,_,_] a;rw[wu,<-yy];exact ue (v:=.bl I) (s1:=a) (s2:=a) (k:=kD k) (j:=k) (ks:=stK [] (ks.take j)) (ds:=(stK [] (ks.take j)).map λ_=>.bl I) rfl rfl (hZ k) rfl (by ext)
   refine⟨_,_,a,rfl,e,J (kD k),?_,rfl⟩;rw[C9,u,Option.toList_some,pC]
   rfl)
 rw[q7,pu,FY]at e;rw[zd (by simpa using w.nd)]at e;refine⟨f,?_⟩;rw[dy];have z:(aI (ac i3 (aa 0) (xC (.int 1))):Xi [2,4]).p (qp n ks qs [] z4 z3 z5 z6 z7 z8) a=.ok (ks.map kD) a:=by simp[av]
 rw[z,Pg];exact e
abbrev Sl:Xd [2,4]:=(p0 (xB (ac w5 (aa 7) (aa 8))) (lU 2 (xC (.bl I)) (aJ (ab (aa 7) (ab (aa 8) a_)))) iw)
def Kh{n:Nat}{ks TT:UP}{qs:UN}{a b:Int}{L z3 z5 z6:UC}{s:g_}(l:TT.length<100000):
  Sl.p (qp n ks qs TT L z3 z5 z6 (J (.int a)) (J (.int b))) s=.nx (qp n ks qs (stK TT (Bi a [b])) L z3 z5 z6 (J (.int a)) (J (.int b))) s:=by
 have i:∀{x y:D}{s:g_},(if [x,y].length<=100000 then PR.ok (D.tup [x,y]) s else .bad)=.ok (.tup [x,y]) s:=λ{x y s}=>b_ (by simp);have f:(xB (ac w5 (aa 7) (aa 8)):Xt [2,4]).p (qp n ks qs TT L z3 z5 z6 (J (.int a)) (J (.int b))) s=.ok (decide (a<b)) s:=by simp
 rw[dn,f,Pg];by_cases z:a<b
 .rw[b_ (by simpa using z)];have e:Bi a [b]=[[a,b]]:=by simp[Bi,z]
  rw[e,wu];refine(ue (v:=.bl I) (s1:=s) (s2:=s) (k:=.tup [.int a,.int b]) (j:=[a,b]) (ks:=TT) (ds:=TT.map λ_=>.bl I) rfl ?_ rfl rfl l).trans ?_
  .simp![cG,i]
  .rw[yy];rfl
 .rw[f_ (by simpa using z)];have e:Bi a [b]=[]:=by simp[Bi,z]
  rw[e];rfl
abbrev PD:Xd [2,4]:=(cu (aI (aa 6)) (i0 8) Sl)
def Ki{n:Nat}{ks TT:UP}{qs g:UN}{a:Int}{L z3 z5 z8:UC}{s:g_}(F:g.length<=12)(G:TT.length+12<100000):
  ∃i,PD.p (qp n ks qs TT L z3 z5 (J (ky g)) (J (.int a)) z8) s=.nx (qp n ks qs (stK TT (Bi a g)) L z3 z5 (J (ky g)) (J (.int a)) i) s:=by
 obtain⟨u,f,e,i,rfl,rfl⟩:=cZ (g:=(i0 8:Xg [2,4]).p) (b:=Sl.p) (λj env f=>∃z8,env=qp n ks qs (stK TT (Bi a (g.take j))) L z3 z5 (J (ky g)) (J (.int a)) z8/\f=s) (g.map .int) 0
  (qp n ks qs TT L z3 z5 (J (ky g)) (J (.int a)) z8) s ⟨z8,rfl,rfl⟩ (λj env f d ⟨z8,r,y⟩ hd=>by
   rw[pu]at r ⊢;subst r y;rw[pr,vu]at hd;obtain⟨b,E,rfl⟩:=hd;have H:=o6 (B:=TT) (l:=Bi a (g.take j));have C:=wD (a:=a) (l:=g.take j);rw[Di]at C;have e:=Kh (n:=n) (ks:=ks) (qs:=qs) (TT:=stK TT (Bi a (g.take j))) (a:=a) (b:=b) (L:=L) (z3:=z3) (z5:=z5) (z6:=J (ky g)) (s:=f) (by ext);refine⟨_,_,f,rfl,e,J (.int b),?_,rfl⟩;rw[C9,E]
   have:Bi a (g.take j++[b])=Bi a (g.take j)++Bi a [b]:=by simp[Bi]
   show _=qp n ks qs (stK TT (Bi a (g.take j++[b]))) _ _ _ _ _ _
   rw[this,pC])
 rw[q7,pu,FY]at e;refine⟨i,?_⟩;rw[dy];have z:(aI (aa 6):Xi [2,4]).p (qp n ks qs TT L z3 z5 (J (ky g)) (J (.int a)) z8) f=.ok (g.map .int) f:=rfl;rw[z,Pg];exact e
def Kj{n:Nat}{ks TT:UP}{qs g:UN}{L z3 z5 z7 z8:UC}{s:g_}(u:g.length<=12)(H:TT.length+200<100000):
  ∃r f,(cu (aI (aa 6)) (i0 7) PD:Xd [2,4]).p (qp n ks qs TT L z3 z5 (J (ky g)) z7 z8) s=.nx (qp n ks qs (stK TT (B2 g g)) L z3 z5 (J (ky g)) r f) s:=by
 obtain⟨z,i,e,r,f,rfl,rfl⟩:=cZ (g:=(i0 7:Xg [2,4]).p) (b:=PD.p) (λj env i=>∃z7 z8,env=qp n ks qs (stK TT (B2 g (g.take j))) L z3 z5 (J (ky g)) z7 z8/\i=s) (g.map .int) 0
  (qp n ks qs TT L z3 z5 (J (ky g)) z7 z8) s ⟨z7,z8,rfl,rfl⟩ (λj env i d ⟨z7,z8,y,C⟩ hd=>by
   rw[pu]at y ⊢;subst y C;rw[pr,vu]at hd;obtain⟨a,F,rfl⟩:=hd;have O:=o6 (B:=TT) (l:=B2 g (g.take j));have G:=u4 (g:=g) (l:=g.take j);have l3:(g.take j).length<=12:=by rw[Di];ext
   have l4:g.length*(g.take j).length<=12*12:=Nat.mul_le_mul u l3;obtain⟨f,e⟩:=Ki (n:=n) (ks:=ks) (qs:=qs) (TT:=stK TT (B2 g (g.take j))) (a:=a) (g:=g) (L:=L) (z3:=z3) (z5:=z5) (z8:=z8) (s:=i) u (by ext);refine⟨_,_,i,rfl,e,J (.int a),f,?_,rfl⟩;rw[C9,F]
   have:B2 g (g.take j++[a])=B2 g (g.take j)++Bi a g:=by simp[B2]
   show _=qp n ks qs (stK TT (B2 g (g.take j++[a]))) _ _ _ _ _ _
   rw[this,pC])
 rw[q7,pu,FY]at e;refine⟨r,f,?_⟩;rw[dy];have E:(aI (aa 6):Xi [2,4]).p (qp n ks qs TT L z3 z5 (J (ky g)) z7 z8) i=.ok (g.map .int) i:=rfl;rw[E,Pg];exact e
def Lk(a TT:UP):Prop:=∀k,k∈TT↔k∈a
def rV{a b:Int}(h:a<b):n8 [a,b]=[a,b]/\n8 [b,a]=[a,b]:=by
 constructor
 .simp[n8,show ¬b<a by ext,show b>a by ext]
 .simp[n8,h,show ¬a>b by ext]
def GF{n:Int}{TT:UP}(f:∀k∈TT,∃a b:Int,k=[a,b]/\0<=a/\a<b/\b<n){u v:Int}:n8 [u,v]∈TT↔Td TT u v:=by
 rcases Int.lt_trichotomy u v with z|z | z
 .rw[(rV z).1];exact⟨.inl,λh=>h.elim id λh=>by obtain⟨a,b,e,_,i,_⟩:=f _ h;injection e with e1 e;injection e with e2 _;ext⟩
 .subst z;refine⟨λh=>?_,λh=>?_⟩
  .have:n8 [u,u]=[u,u]:=by simp[n8]
   rw[this]at h;exact .inl h
  .have h:[u,u]∈TT:=h.elim id id;obtain⟨a,b,e,_,i,_⟩:=f _ h;injection e with e1 e;injection e with e2 _;ext
 .rw[(rV z).2];exact⟨.inr,λh=>h.elim (λh=>by obtain⟨a,b,e,_,i,_⟩:=f _ h;injection e with e1 e;injection e with e2 _;ext) id⟩
def wK{A B:UP}(h:Lk A B){x y:Int}:Td B x y↔Td A x y:=or_congr (h _) (h _)
section
variable{n:Nat}{ks:UP}{qs:UN}
def GG(nd:qs.Nodup){j:Nat}(a:j<qs.length):qs[j]∉qs.drop (j+1):=by
 have:=List.Nodup.sublist (P4 j qs) nd
 rw[C2 a]at this;exact(Dk.mp this).1
def jA(w:ia n ks)(nd:qs.Nodup):∀j,j<=qs.length->∀x y,x∈qs.drop j->y∈qs.drop j->(Td (gI ks qs j) x y↔Td (ce ks qs j) x y)
 |0,_,_,_,_,_=>Iff.rfl
 |j+1,C,x,y,f,i=>by
  have a:j<qs.length:=by ext
  have r:qs.getD j 0=qs[j]:=by simp[List.getD,a]
  have l:∀x,x∈qs.drop (j+1)->x∈qs.drop j:=λx h=>by rw[C2 a];exact lb _ h
  have u:=jA w nd j (by ext) x y (l x f) (l y i);have B:Td (gI ks qs (j+1)) x y↔Td (gI ks qs j) x y\/Td (ce ks qs (j+1)) x y:=by
   unfold Td;rw[gI,lT,lT];constructor
   .rintro ((h|h) | (h|h))
    .exact .inl (.inl h)
    .exact .inr (.inl h)
    .exact .inl (.inr h)
    .exact .inr (.inr h)
   .rintro ((h|h) | (h|h))
    .exact .inl (.inl h)
    .exact .inr (.inl h)
    .exact .inl (.inr h)
    .exact .inr (.inr h)
  rw[B,u];refine⟨λh=>h.elim (λh=>?_) id,.inr⟩;rw[ce,jl (fU w j),r];exact .inl ⟨h,λz=>GG nd a (z▸f),λz=>GG nd a (z▸i)⟩
def CF(TT:UP)(qs:UN)(j:Nat):UN:=(qs.drop (j+1)).filter λu=>decide (n8 [u,qs.getD j 0]∈TT)
def As(w:ia n ks)(nd:qs.Nodup){TT:UP}{j:Nat}(F:j<qs.length)(h:Lk (gI ks qs j) TT):Lk (gI ks qs (j+1)) (stK TT (B2 (CF TT qs j) (CF TT qs j))):=by
 have r:qs.getD j 0=qs[j]:=by simp[List.getD,F]
 have at':=o3 (qs:=qs) w j;have W:∀k∈TT,∃a b:Int,k=[a,b]/\0<=a/\a<b/\b<(n:Int):=λk S=>at' k ((h k).mp S);have B:qs.drop j=qs[j]::qs.drop (j+1):=C2 F;have C:∀x,x∈qs.drop (j+1)->x∈qs.drop j:=λx h=>by rw[B];exact lb _ h
 have mv:qs[j]∈qs.drop j:=by rw[B];exact wj
 have i:=fU (qs:=qs) w j;have f:∀u,u∈CF TT qs j↔u∈qs.drop (j+1)/\Td (ce ks qs j) qs[j] u:=λu=>by
  unfold CF;rw[n3,decide_eq_true_iff,GF W,wK h,r];refine and_congr_right λhu=>?_;rw[jA w nd j (by ext) u qs[j] (C u hu) mv];exact⟨Td.symm,Td.symm⟩
 intro k;unfold stK;rw[SetT.kZ,h k,vk,gI,lT];refine⟨λq=>q.elim .inl ?_,λq=>q.elim .inl λq=>?_⟩
 .rintro⟨a,b,rfl,P,l,E⟩;obtain⟨Z,X⟩:=(f a).mp l;obtain⟨Q,R⟩:=(f b).mp E;refine .inr ?_
  have:Td (ce ks qs (j+1)) a b:=by rw[ce,jl i,r];exact .inr ⟨by ext,C a Z,C b Q,X,R⟩
  refine this.elim id λz=>?_;obtain⟨x,y,e,_,U,_⟩:=(fU (qs:=qs) w (j+1)).tie _ z;injection e with e1 e;injection e with e2 _;ext
 .obtain⟨a,b,rfl,_,P,_⟩:=(fU (qs:=qs) w (j+1)).tie _ q;have t:Td (ce ks qs (j+1)) a b:=.inl q;rw[ce,jl i,r]at t;rcases t with⟨t,_⟩|⟨_,l,E,L,G⟩
  .left
   have:[a,b]∈ce ks qs j:=t.elim id λz=>by
    obtain⟨x,y,e,_,U,_⟩:=i.tie _ z;injection e with e1 e;injection e with e2 _;ext
   exact(uw j).mpr ⟨j,il _,this⟩
  .right;have O:∀x,x∈qs.drop j->Td (ce ks qs j) qs[j] x->x∈qs.drop (j+1):=λx H t=>by
    rw[B]at H;exact(k4.mp H).resolve_left λz=>(gW i t).1 z.symm
   exact⟨a,b,rfl,P,(f a).mpr ⟨O a l L,L⟩,(f b).mpr ⟨O b E G,G⟩⟩
end
abbrev TC:Xd [2,4]:=(aC (kI 5 s_ 4 (ab (xC (.int 0)) a_))
 (aC (bc 6 (aG 1 [2,5] (aI (aa 4)) (ws':=[1]) (i0 0) (xB (ac (uu T) (aJ (ab (mm k8 (ab (aa 0) (ab (aa 2) a_))) (ab (mm kT (ab (aa 0) (ab (aa 2) a_))) a_))) (aa 1))) (aa 0)))
 (cu (aI (aa 6)) (i0 7) PD)))
abbrev Sm:Xt [2,4]:=xB (ac Az (aa 4) (bM a_))
section
variable{n:Nat}{ks:UP}{qs:UN}
structure Fl(n:Nat)(ks:UP)(qs:UN)(j:Nat)(TT:UP):Prop where
 lk:Lk (gI ks qs j) TT
 nd:TT.Nodup
 le:TT.length+aK (ce ks qs j) (qs.drop j)=ks.length+aK ks qs
def Fl.tie{j:Nat}{TT:UP}(w:ia n ks)(f:Fl n ks qs j TT):∀k∈TT,∃a b:Int,k=[a,b]/\0<=a/\a<b/\b<(n:Int):=λk i=>o3 (qs:=qs) w j k ((f.lk k).mp i)
def Fl.len{j:Nat}{TT:UP}(w:ia n ks)(f:Fl n ks qs j TT):TT.length<=66:=gn w.n12 (f.tie w) f.nd
def AF{B:UP}{k:UN}(h:B.Nodup):(SetT.bq B k).Nodup:=by
 unfold SetT.bq;split
 .exact h
 .rename_i z
  rw[Cj];refine⟨h,by simp,λx a y f e=>z ?_⟩;rw[B3.mp f]at e;exact e▸a
def o7:∀{l B:UP},B.Nodup->(stK B l).Nodup
 |[],_,h=>h
 |k::l,B,h=>o7 (l:=l) (AF h)
def Ag{TT:UP}{j:Nat}(w:ia n ks)(nd:qs.Nodup)(H:j<qs.length)(f:Fl n ks qs j TT):(stK TT (B2 (CF TT qs j) (CF TT qs j))).length+aK (ce ks qs (j+1)) (qs.drop (j+1))=ks.length+aK ks qs:=by
 have Q:qs.getD j 0=qs[j]:=by simp[List.getD,H]
 have F:qs.drop j=qs[j]::qs.drop (j+1):=C2 H;have r:=fU (qs:=qs) w j;have le:=f.le;have e1:aK (ce ks qs j) (qs.drop j)=(bE (qs.drop j) qs[j] (ce ks qs j)).length+aK (ce ks qs (j+1)) (qs.drop (j+1)):=by rw[ce,Q,F];rfl
 have X:(bE (qs.drop j) qs[j] (ce ks qs j)).Nodup:=(qE (dL r).1).filter _;have R:∀x,x∈qs.drop (j+1)->x∈qs.drop j:=λx h=>by rw[F];exact lb _ h
 have mv:qs[j]∈qs.drop j:=by rw[F];exact wj
 have L:∀k∈TT,∃a b:Int,k=[a,b]/\0<=a/\a<b/\b<(n:Int):=f.tie w;have i:∀u,u∈CF TT qs j↔u∈qs.drop j/\Td (ce ks qs j) qs[j] u:=λu=>by
  unfold CF;rw[n3,decide_eq_true_iff,GF L,wK f.lk,Q];constructor
  .rintro⟨C,t⟩;exact⟨R u C,((jA w nd j (by ext) u qs[j] (R u C) mv).mp t).symm⟩
  .rintro⟨C,t⟩;refine⟨?_,(jA w nd j (by ext) u qs[j] C mv).mpr t.symm⟩;rw[F]at C;exact(k4.mp C).resolve_left λz=>(gW r t).1 z.symm
 have E:∀a b:Int,a<b->a∈qs.drop j->b∈qs.drop j->([a,b]∈TT↔Td (ce ks qs j) a b):=λa b lt l B=>by
  rw[<-jA w nd j (by ext) a b l B,<-wK f.lk];refine⟨.inl,λt=>t.elim id λz=>?_⟩;obtain⟨x,y,e,_,h1,_⟩:=L _ z;injection e with e1 e;injection e with e2 _;ext
 have pm:(stK TT (B2 (CF TT qs j) (CF TT qs j))).Perm (TT++bE (qs.drop j) qs[j] (ce ks qs j)):=by
  refine(K_ (o7 f.nd) ?_).mpr λk=>?_
  .rw[Cj];refine⟨f.nd,X,λx Z y P e=>?_⟩;subst e;obtain⟨a,b,rfl,_⟩:=jR r x P;obtain⟨lt,l,B,_,_,U⟩:=(fS r).mp P;exact U ((E a b lt l B).mp Z)
  .unfold stK;rw[SetT.kZ,vk,lT];refine⟨λh=>h.elim .inl ?_,λh=>h.elim .inl λh=>.inr ?_⟩
   .rintro⟨a,b,rfl,lt,l,B⟩;obtain⟨O,W⟩:=(i a).mp l;obtain⟨G,S⟩:=(i b).mp B;by_cases z:[a,b]∈TT
    .exact .inl z
    .exact .inr ((fS r).mpr ⟨lt,O,G,W,S,λt=>z ((E a b lt O G).mpr t)⟩)
   .obtain⟨a,b,rfl,_⟩:=jR r k h;obtain⟨lt,l,B,ta,tb,_⟩:=(fS r).mp h;exact⟨a,b,rfl,lt,(i a).mpr ⟨l,ta⟩,(i b).mpr ⟨B,tb⟩⟩
 have pl:=pm.length_eq;rw[z_]at pl;ext
def Kk{TT:UP}{j:Nat}{z3 z5 z6 z7 z8:UC}{s:g_}(w:ia n ks)(o:Ord n qs)(B:j<qs.length)(f:Fl n ks qs j TT):
  ∃F C E a l,TC.p (qp n ks qs TT (J (ky (qs.drop j))) z3 z5 z6 z7 z8) s=.nx (qp n ks qs F (J (ky (qs.drop (j+1)))) z3 C E a l) s/\Fl n ks qs (j+1) F:=by
 have n12:=o.n12;have Q:=o.len;have nd:qs.Nodup:=o.pm.symm.nodup (cE n);have O:qs.drop j=qs.getD j 0::qs.drop (j+1):=by rw[C2 B];simp[List.getD,B]
 have P:(kI 5 s_ 4 (ab (xC (.int 0)) a_):Xd [2,4]).p (qp n ks qs TT (J (ky (qs.drop j))) z3 z5 z6 z7 z8) s=.nx (qp n ks qs TT (J (ky (qs.drop (j+1)))) z3 (J (.int (qs.getD j 0))) z6 z7 z8) s:=by refine Eq.trans (show _=Cf s_ 4 (ab (xC (.int 0)) a_:Xs [2,4]).p (qp n ks qs TT (J (ky (qs.drop j))) z3 z5 z6 z7 z8) s (λr env s=>.nx (env.set 5 (J r)) s)from rfl) ?_;rw[O,nD (as:=[.int 0]) (s1:=s) (ds:=.int (qs.getD j 0)::(qs.drop (j+1)).map .int) (r:=.int (qs.getD j 0)) (ds':=(qs.drop (j+1)).map .int) (by simp) rfl rfl];rfl
 have G:∀{x y:D}{s:g_},(if [x,y].length<=100000 then PR.ok (D.tup [x,y]) s else .bad)=.ok (.tup [x,y]) s:=λ{x y s}=>b_ (by simp)
 have q:=fy (ws:=[2,4]) (ws':=[1]) (env:=qp n ks qs TT (J (ky (qs.drop (j+1)))) z3 (J (.int (qs.getD j 0))) z6 z7 z8) (s:=s) (fm:=[2,5]) (i:=aI (aa 4)) (t:=xB (ac (uu T) (aJ (ab (mm k8 (ab (aa 0) (ab (aa 2) a_))) (ab (mm kT (ab (aa 0) (ab (aa 2) a_))) a_))) (aa 1))) (e:=aa 0) (ds:=(qs.drop (j+1)).map .int) (Ke λu=>decide (n8 [u,qs.getD j 0]∈TT)) (λx=>x) rfl (by rw[q7,Cu];ext) (λx H=>by
  obtain⟨u,R,rfl⟩:=nw.mp H;refine⟨?_,λ_=>by simp⟩;simp![eT,aF,cG,cT,n9,Do,FQ,FR,C7,E_,Fa,Pf,G,N9,Pl]
  rfl)
 rw[iT (λu=>decide (n8 [u,qs.getD j 0]∈TT)) _ _ λi _=>rfl]at q;have gl:(CF TT qs j).length<=12:=mu (C5 _ _) (by rw[Cu];ext);obtain⟨a,l,e⟩:=Kj (n:=n) (ks:=ks) (TT:=TT) (qs:=qs) (g:=CF TT qs j) (L:=J (ky (qs.drop (j+1)))) (z3:=z3) (z5:=J (.int (qs.getD j 0))) (z7:=z7) (z8:=z8) (s:=s) gl (by have:=f.len w;ext);refine⟨_,J (.int (qs.getD j 0)),J (ky (CF TT qs j)),a,l,?_,As w nd B f.lk,o7 f.nd,Ag w nd B f⟩;rw[az,P,PU.ak,az,bw];refine(congrArg (λz:PR D=>(z.go _ _).then _) q).trans ?_;rw[Pg,PU.ak];exact e
def zI{z3:UC}{s:g_}(w:ia n ks)(o:Ord n qs):∀(f N j:Nat)(TT:UP)(l i r a:UC),f<N->j+f=qs.length->Fl n ks qs j TT ->
  ∃u C E H L,eU Sm.p TC.p N (qp n ks qs TT (J (ky (qs.drop j))) z3 l i r a) s=.nx (qp n ks qs u (J (ky [])) z3 C E H L) s/\Fl n ks qs qs.length u:=by
 intro f
 induction f with
 |zero =>
  intro N j TT l i r a hN hf G;obtain⟨N,rfl⟩:∃m,N=m+1:=⟨N-1,by ext⟩;have Q:j=qs.length:=by ext
  subst Q;rw[GW];have F:=ux (neg:=I) (xs:=[]) (ys:=[]);have B:Sm.p (qp n ks qs TT (J (ky [])) z3 l i r a) s=.ok T s:=by dsimp![eT,aF,c7,ar,Ca,wl,if_true,nZ];rw[show CM I (ky []) (.lst [])=_ from F];rfl
  exact⟨TT,l,i,r,a,by rw[eU,B];rfl,G⟩
 |succ f ih =>
  intro N j TT l i r a hN hf G;obtain⟨N,rfl⟩:∃m,N=m+1:=⟨N-1,by ext⟩;have P:j<qs.length:=by ext
  have F:=ux (neg:=I) (xs:=qs.drop j) (ys:=[]);have ne:qs.drop j≠[]:=λz=>by have:=congrArg List.length z;rw[Cu,Ca]at this;ext
  have B:Sm.p (qp n ks qs TT (J (ky (qs.drop j))) z3 l i r a) s=.ok I s:=by dsimp![eT,aF,c7,ar,Ca,wl,if_true,nZ];rw[show CM I (ky (qs.drop j)) (.lst [])=_ from F];simp only[if_true,decide_eq_false ne,KG];rfl
  obtain⟨u,R,S,Z,y8,e,O⟩:=Kk (z3:=z3) (z5:=l) (z6:=i) (z7:=r) (z8:=a) (s:=s) w o P G;obtain⟨T2,X,W,x7,U,e2,y⟩:=ih N (j+1) u R S Z y8 (by ext) (by ext) O;refine⟨T2,X,W,x7,U,?_,y⟩;rw[eU,B,Pg,b_ rfl,e];exact e2
def yt{s:g_}(w:ia n ks)(o:Ord n qs):bU.p [av n ks,.lst (qs.map .int)] s=.ok (.int (aK ks qs)) s:=by have n12:=o.n12;have y:=o.len;obtain⟨j,e1⟩:=Kg (n:=n) (ks:=ks) (qs:=qs) (z3:=Y) (z4:=Y) (z5:=Y) (z6:=Y) (z7:=Y) (z8:=Y) (s:=s) w;obtain⟨TT,u,r,B,l,e2,i⟩:=zI (z3:=j) (s:=s) w o qs.length 400 0 ks Y Y Y Y (by ext) (by ext) ⟨λ_=>Iff.rfl,w.nd,rfl⟩;rw[List.drop_zero]at e2;have a:=i.le;rw[GW]at a;have ld:xR.p [tD TT]=J (.int TT.length):=rfl;have f:lL.p [ky qs]=J (ky qs):=Fb (by rw[q7];ext);rw[zq (by rfl)];unfold iF;rw[show li 9 [av n ks,.lst (qs.map .int)]=[J (av n ks),J (.lst (qs.map .int)),Y,Y,Y,Y,Y,Y,Y]from rfl];rw[az,hX,Jx];simp only[Pg,vv,t_,PU.ak];rw[az];refine(congrArg (λz:PS=>(z.then _).fin) e1).trans ?_;rw[PU.ak,az,hX];simp![cT,f,Pf,Pg,vv,t_,PU.ak];rw[az,xo jp];refine(congrArg (λz:PS=>(z.then _).fin) e2).trans ?_;rw[PU.ak,cz];simp![aF,cT,ld,Pf,bC,aX];simp[av];simp only[aK]at a;ext
end
def eQ(n:Nat)(q:UN):UP:=((c_ n).filter λv=>!decide (v∈q)).map λv=>q++[v]
def dU(n:Nat):Nat->UP
 |0=>[[]]
 |k+1=>(dU n k).flatMap (eQ n)
def pM{n:Nat}:∀(k:Nat)(q:UN),q∈dU n k->q.Nodup/\(∀x∈q,x∈c_ n)/\q.length=k
 |0,q,h=>by rw[B3.mp h];exact⟨.nil,by simp,rfl⟩
 |k+1,q,h=>by
  obtain⟨r,j,u⟩:=GY.mp h;obtain⟨v,hv,rfl⟩:=nw.mp u;obtain⟨l,a⟩:=n3.mp hv;have a:v∉r:=by simpa using a
  obtain⟨E,C,B⟩:=pM k r j;refine⟨Cj.mpr ⟨E,by simp,λx f y i e=>a ?_⟩,λx f=>(lT.mp f).elim (C x) λz=>by rw[B3.mp z];exact l,by simp[B]⟩;rw[<-B3.mp i,<-e];exact f
def mP{n:Nat}:∀(k:Nat)(q:UN),q.Nodup->(∀x∈q,x∈c_ n)->q.length=k->q∈dU n k
 |0,q,_,_,a=>by rw[C4.mp a];exact B3.mpr rfl
 |k+1,q,nd,f,a=>by
  obtain⟨r,v,rfl⟩:∃r v,q=r++[v]:=⟨q.dropLast,q.getLast (λz=>by rw[z]at a;cases a),(List.dropLast_concat_getLast _).symm⟩;obtain⟨i,_,l⟩:=Cj.mp nd;rw[z_]at a
  exact GY.mpr ⟨r,mP k r i (λx j=>f x (xg _ j)) (by simpa using a),nw.mpr ⟨v,n3.mpr ⟨f v (by simp),by
   have:v∉r:=λz=>l v z v (by simp) rfl
   simp[this]⟩,rfl⟩⟩
def A5{n:Nat}(a:n<=12){q:UN}(h:q∈dU n n):Ord n q:=by
 obtain⟨nd,sub,j⟩:=pM n q h;refine⟨a,(K_ nd (cE n)).mpr λx=>⟨sub x,λf=>Classical.byContradiction λz=>?_⟩⟩
 have:=List.Nodup.length_le_of_subset (l₁:=x::q) (l₂:=c_ n) (Dk.mpr ⟨z,nd⟩) λy i=>(k4.mp i).elim (λe=>e▸f) (sub y)
 simp[c_]at this;ext
def uZ{n:Nat}{q:UN}:(eQ n q).length<=n:=by unfold eQ;rw[q7];exact mu (C5 _ _) (by simp[c_])
def mT{n:Nat}(a:n<=5):∀(Q:UP),(Q.flatMap (eQ n)).length<=5*Q.length
 |[]=>by simp
 |q::Q=>by
  have:=mT a Q
  have:=uZ (n:=n) (q:=q)
  rw[List.flatMap_cons,z_,AQ];ext
def mU{n:Nat}(a:n<=5):∀m,(dU n m).length<=5^m
 |0=>by simp[dU]
 |m+1=>by
  have:=mT a (dU n m)
  have:=mU a m
  rw[dU,Qg];ext
def N_{m:Nat}(h:m<=5):5^m<=3125:=PP (by decide) h
abbrev TD:Xe [4]:=(aG 1 [5] (bG w8 (ab (aa 1) a_)) (ws':=[]) (i0 0) (xB (ac (wh I) (aa 0) (aa 1))) (ac bo (aa 1) (bM (ab (aa 0) a_))))
abbrev TF:Xd [4]:=(cu (aI (aa 2)) (i0 5) (v_ i_ 4 (ab TD a_)))
def Oa{n:Nat}{x3:UC}{Q:UP}{z5:UC}{s:g_}(G:n<=5)(S:Q.length<=3125)(L:∀q∈Q,q.length<=5):∃j,TF.p [J .pen,J (.int (n:Int)),J (.lst (Q.map ky)),x3,J (.lst []),z5] s=.nx [J .pen,J (.int (n:Int)),J (.lst (Q.map ky)),x3,J (.lst ((Q.flatMap (eQ n)).map ky)),j] s:=by
 obtain⟨u,f,e,j,rfl,E⟩:=cZ (g:=(i0 5:Xg [4]).p) (b:=(v_ i_ 4 (ab TD a_):Xd [4]).p)
  (λm env f=>∃z,env=[J .pen,J (.int (n:Int)),J (.lst (Q.map ky)),x3,J (.lst (((Q.take m).flatMap (eQ n)).map ky)),z]/\f=s) (Q.map ky) 0 [J .pen,J (.int (n:Int)),J (.lst (Q.map ky)),x3,J (.lst []),z5] s ⟨z5,rfl,rfl⟩ (λm env f d ⟨z,l,y⟩ hd=>by
   rw[pu]at l ⊢;subst l y;rw[pr,vu]at hd;obtain⟨q,eq,rfl⟩:=hd;have P:=L q (Ci eq);have C:(Q.take (m+1)).flatMap (eQ n)=(Q.take m).flatMap (eQ n)++eQ n q:=by rw[C9,eq,List.flatMap_append];simp
   have c:=fy (ws:=[4]) (ws':=[]) (env:=[J .pen,J (.int (n:Int)),J (.lst (Q.map ky)),x3,J (.lst (((Q.take m).flatMap (eQ n)).map ky)),J (ky q)]) (s:=f) (fm:=[5]) (i:=bG w8 (ab (aa 1) a_)) (t:=xB (ac (wh I) (aa 0) (aa 1))) (e:=ac bo (aa 1) (bM (ab (aa 0) a_))) (ds:=(c_ n).map .int) (Ke λv=>!decide (v∈q)) (λx=>.lst (q.map .int++[x])) (by
     simp![fH]
     rw[iS (by ext),AO,Pf,qT]) (by simp[c_];ext) (λx O=>by
     obtain⟨v,hv,rfl⟩:=nw.mp O;have B:=iO (neg:=I) (x:=v) (d:=ky q) (xs:=q) rfl;refine⟨?_,λ_=>?_⟩
     .show (xB (ac (wh I) (aa 0) (aa 1)):Xt []).p [J (.int v),J (ky q)] f=_;simp[B,Ke]
     .show (ac bo (aa 1) (bM (ab (aa 0) a_)):Xe []).p [J (.int v),J (ky q)] f=_;simp![aF,c7,AQ,Ca,show(0+1:Nat)<=100000 by decide,if_true]
      rw[fg (by simp;ext),Pf])
   have F:(((c_ n).map D.int).filter (Ke λv=>!decide (v∈q))).map (λx=>D.lst (q.map .int++[x]))=(eQ n q).map ky:=by
    have:=iT (λv=>!decide (v∈q)) (Ke λv=>!decide (v∈q)) (c_ n) λi _=>rfl
    rw[List.map_id']at this;rw[this];unfold eQ;rw[Bp,Bp];exact FU λa _=>by simp
   rw[F]at c;refine⟨[J .pen,J (.int (n:Int)),J (.lst (Q.map ky)),x3,J (.lst (((Q.take m).flatMap (eQ n)).map ky)),J (ky q)],_,f,rfl,?_,J (ky q),rfl,rfl⟩;rw[C,F0];have H:=mT G (Q.take m);have R:=uZ (n:=n) (q:=q);rw[Di]at H
   exact fe (s1:=f) (as:=[.lst ((eQ n q).map ky)]) (ds:=((Q.take m).flatMap (eQ n)).map ky) (r:=.non) (by rw[ag,c];rfl) rfl (by
    rw[gA (by rw[q7,q7];ext)]))
 rw[q7,pu,FY,E]at e;refine⟨j,?_⟩;rw[dy];dsimp![fJ,fh,Pf,Pg];exact e
def qx{g:D->aq->Option aq}{e:aq->g_->PR D}(S:aq->Prop)(P:D->Prop):∀(i:UR)(env:aq)(s:g_),S env ->
  (∀x∈i,∀env s,S env->∃a,g x env=J a/\S a/\∃y u,e a s=.ok y u/\P y)->∃r G,dq g (jj:Xt []).p e i env s=.ok r G/\r.length=i.length/\∀y∈r,P y
 |[],env,s,B,f=>⟨[],s,rfl,rfl,by simp⟩
 |x::i,env,s,B,f=>by
  obtain⟨a,e1,l,y,u,e4,py⟩:=f x (by simp) env s B;obtain⟨r,F,e5,H,E⟩:=qx S P i a u l λy C=>f y (lb x C);rw[dq,e1];dsimp only;rw[show(jj:Xt []).p a s=.ok I s from rfl,Pb];refine⟨y::r,F,by simp only[if_true,e4,Pb,e5],by simp[H],λz j=>?_⟩;rcases k4.mp j with rfl|j
  .exact py
  .exact E z j
def uW{n:Nat}:∀{r:UR},(∀y∈r,∃q,y=ky q/\Ord n q)->∃Q:UP,r=Q.map ky/\∀q∈Q,Ord n q
 |[],_=>⟨[],rfl,by simp⟩
 |y::r,h=>by
  obtain⟨q,rfl,i⟩:=h y (by simp);obtain⟨Q,rfl,f⟩:=uW λz a=>h z (lb _ a);exact⟨q::Q,rfl,λz a=>(k4.mp a).elim (λe=>e▸i) (f z)⟩
def Bn{n:Nat}{s:g_}(E:n<=12):∃Q a,cL.p [.pen,.int (n:Int)] s=.ok (.lst (Q.map ky)) a/\Q≠[]/\Q.length<=3125/\(∀q∈Q,Ord n q)/\(n<=5->∀q,Ord n q->q∈Q):=by
 rw[uR (by rfl)];unfold ft;rw[show li 6 [D.pen,D.int (n:Int)]=[J .pen,J (.int (n:Int)),Y,Y,Y,Y]from rfl,az,dn];have H:(xB (ac Cr (aa 1) (xC (.int 5))):Xt []).p [J .pen,J (.int (n:Int)),Y,Y,Y,Y] s=.ok (decide ((5:Int)<(n:Int))) s:=by simp
 rw[H,Pg];by_cases z:(5:Int)<(n:Int)
 .rw[b_ (by simpa using z),cz,lN];have O:(bG w8 (ab (xC (.int 16)) a_):Xi []).p [J .pen,J (.int (n:Int)),Y,Y,Y,Y] s=.ok (cm 0 16) s:=by
   simp only[fH,ag,bC,aX,Pb,ar];rw[iS (by decide)];rfl
  obtain⟨r,a,e1,l,R⟩:=qx (g:=(i0 0:Xg []).p) (e:=(ai dh (ab (aa 1) (ab (aa 2) a_)):Xe []).p) (λv=>∃z,v=[z,J .pen,J (.int (n:Int))]) (λy=>∃q,y=ky q/\Ord n q) (cm 0 16) (q_ 1 [0,1] [J .pen,J (.int (n:Int)),Y,Y,Y,Y]) s ⟨Y,rfl⟩ λx hx env s ⟨z,S⟩=>by
   subst S;obtain⟨L,a,e,o⟩:=uV (s:=s) E;exact⟨_,rfl,⟨J x,rfl⟩,_,a,by simp![aE,t_,e],L,rfl,o⟩
  obtain⟨Q,rfl,W⟩:=uW R;rw[q7,cB]at l;refine⟨Q,a,?_,(λz=>by rw[z]at l;cases l),by ext,W,λh=>by ext⟩;rw[O,Pb,b_ (by rw[cB];decide),e1];rfl
 .rw[f_ (by simpa using z),jf,PU.ak];have j:n<=5:=by ext
  obtain⟨F,a,e,u,i,f,rfl,P⟩:=cZ (g:=(i0 3:Xg []).p) (b:=(sU 4 (bM a_) TF (bc 2 (aa 4)) (oo (by decide)):Xd []).p)
   (λm env a=>∃u i f,env=[J .pen,J (.int (n:Int)),J (.lst ((dU n m).map ky)),u,i,f]/\a=s) (cm 0 n) 0 [J .pen,J (.int (n:Int)),J (.lst [.lst []]),Y,Y,Y] s ⟨Y,Y,Y,rfl,rfl⟩ (λm env a d ⟨u,i,f,C,G⟩ hd=>by
    rw[pu]at C ⊢;subst C G;obtain⟨rfl,Z⟩:=mH hd;have X:=mu (mU j m) (N_ (by ext));obtain⟨B,q⟩:=Oa (n:=n) (x3:=J (.int (m:Int))) (Q:=dU n m) (z5:=f) (s:=a) j X λq U=>by have:=(pM m q U).2.2;ext
    refine⟨[J .pen,J (.int (n:Int)),J (.lst ((dU n m).map ky)),J (.int (m:Int)),i,f],[J .pen,J (.int (n:Int)),J (.lst ((dU n (m+1)).map ky)),J (.int (m:Int)),J (.lst ((dU n (m+1)).map ky)),B],a,rfl,?_,_,_,_,rfl,rfl⟩;rw[J2 (ds:=[]) (s1:=a) (env':=[J .pen,J (.int (n:Int)),J (.lst ((dU n m).map ky)),J (.int (m:Int)),J (.lst ((dU n (m+1)).map ky)),B]) (s2:=a) (d:=.lst ((dU n (m+1)).map ky)) (by simp) q rfl]
    rfl)
  rw[cB,pu,P]at e;refine⟨dU n n,s,?_,λz=>?_,mu (mU j n) (N_ j),λq=>A5 E,λ_ q o=>mP n q (o.pm.symm.nodup (cE n)) (λx=>o.pm.mem_iff.mp) o.len⟩
  .rw[az,bw];simp only[c7,ag,ar,Pb,Ca,wl,if_true,AQ,show(0+1:Nat)<=100000 by decide,Pg,vv,t_,PU.ak];rw[az,dy,fH,ag];dsimp![ar];rw[iS (by ext),AO,Pf,Pg];refine(congrArg (λz:PS=>(z.then _).fin) e).trans ?_;rw[PU.ak];rfl
  .have:=mP n (c_ n) (cE n) (λ_ h=>h) (by simp[c_])
   rw[z]at this;cases this
def Ob{is:UN}(ne:is≠[]):∃m,eI.p [.lst (is.map .int)]=J (.int m)/\m∈is/\∀x∈is,m<=x:=by
 have B:=List.length_pos_iff.mpr ne;have key:∀k,k<is.length->(is.getD (argBest (λi j=>decide (is.getD i 0<is.getD j 0)) k) 0)∈is/\∀j≤k,is.getD (argBest (λi j=>decide (is.getD i 0<is.getD j 0)) k) 0<=is.getD j 0:=λk=>by
  induction k with
  |zero=>exact λh=>⟨by simp[argBest,List.getD,h],λj a=>by rw[Nat.le_zero.mp a];exact Ls _⟩
  |succ k z =>
   intro h;obtain⟨y,f⟩:=z (by ext);rw[argBest];split
   .rename_i c
    have c:=of_decide_eq_true c;refine⟨by simp[List.getD,h],λj a=>?_⟩;by_cases q:j=k+1
    .rw[q];exact Ls _
    .exact Qh (Int.le_of_lt c) (f j (by ext))
   .rename_i c
    rw[decide_eq_true_eq]at c;refine⟨y,λj a=>?_⟩;by_cases q:j=k+1
    .rw[q];ext
    .exact f j (by ext)
 obtain⟨l,u⟩:=key (is.length-1) (by ext);refine⟨_,?_,l,λx r=>?_⟩
 .show (((J (is.map D.int)).bind di).bind _)=_;rw[Cv,ku,Cv,b_ B];rfl
 .obtain⟨j,a,rfl⟩:=GQ r
  have:=u j (by ext)
  simpa [List.getD,a]using this
def FD{n:Nat}{a:UP}{qs:UN}(w:ia n a)(o:Ord n qs):aK a qs<=66:=by obtain⟨TT,_,_,_,_,_,f⟩:=zI (z3:=Y) (s:=((0,0,0):g_)) w o qs.length 400 0 a Y Y Y Y (by have:=o.len;have:=o.n12;ext) (by ext) ⟨λ_=>Iff.rfl,w.nd,rfl⟩;have j:=f.len w;have i:=f.le;rw[GW]at i;simp only[aK]at i;ext
section
variable{n:Nat}{ks:UP}{s:g_}
def fE(ks:UP)(p:UN):UP:=cf (SetT.l7 (ks++[p]))
def wn{p k:UN}:k∈fE ks p↔k∈ks\/k=p:=by unfold fE;rw[(cg _).mem_iff,SetT.fL,lT,B3]
def ve(w:ia n ks){p:UN}(i:∃a b:Int,p=[a,b]/\0<=a/\a<b/\b<(n:Int)):∀k∈ks++[p],∃a b:Int,k=[a,b]/\0<=a/\a<b/\b<(n:Int):=λk f=>by
 rcases lT.mp f with h|h
 .exact w.tie k h
 .rw[B3.mp h];exact i
def pA(w:ia n ks){p:UN}(f:∃a b:Int,p=[a,b]/\0<=a/\a<b/\b<(n:Int)):ia n (fE ks p):=ji w.n0 w.n12 (ve w f)
def FE(w:ia n ks){p:UN}:(fE ks p).length<=ks.length+1:=by
 have:=List.Nodup.length_le_of_subset (l₁:=fE ks p) (l₂:=p::ks) ((cg _).symm.nodup (i8 _)) λk a=>(wn.mp a).elim (λh=>lb _ h) λh=>h▸wj
 simpa using this
def tf(w:ia n ks){p:UN}(j:∃a b:Int,p=[a,b]/\0<=a/\a<b/\b<(n:Int))(f:UN):aK ks f<=aK (fE ks p) f+1:=by have l:=qi f w (pA w j) λk i=>wn.mpr (.inl i);have r:=FE (p:=p) w;ext
def Kl(w:ia n ks){p:UN}(l:∃a b:Int,p=[a,b]/\0<=a/\a<b/\b<(n:Int)):cO.p [av n ks,kD p] s=.ok (av n (fE ks p)) s:=by have u:=gn w.n12 w.tie w.nd;have f:=ve w l;have r:=kf (n:=n) (d:=.lst ((ks++[p]).map kD)) (s:=s) rfl (tQ f) (by simp;ext) (by rw[kU f];exact k9 w.n12 f);rw[kU f,F0]at r;rw[sR (by rfl)];unfold eE;rw[show li 2 [av n ks,kD p]=[J (av n ks),J (kD p)]from rfl];have j:i3.p (av n ks) (.int 0)=J (.int (n:Int)):=rfl;have i:i3.p (av n ks) (.int 1)=J (.tup (ks.map kD)):=rfl;simp![cz,cG,aF,bC,aX,j,i,Pf,aE,cT,c7,AQ,Ca,show(0+1:Nat)<=100000 by decide,if_true];rw[Fc (by simp;ext)];simp only[Pf,Pb];rw[fg (by simp;ext)];simp only[Pf,Pb];rw[show([kD p]:UR)=[p].map kD from rfl,r];rfl
def xh(w:ia n ks)(h:∀a,Ord n a->0<aK ks a):∃f,cP.p [av n ks] s=.ok (.lst (f.map .int)) s/\CD n f:=by
 rcases uM (s:=s) w with r|⟨_,j⟩
 .exact r
 .have n12:=w.n12;obtain⟨a,pm,u⟩:=qC w (λi ne l=>GB w j i.length i (il _) ne l) n (c_ n) ks (by simp[c_]) (λv hv=>aT.mp hv) (cE n) w (λ_ _ _ _ h=>h) λ_ _ _ _ h=>h
  have:=h a ⟨by ext,pm⟩
  ext
open Classical in
theorem vq:∀(N:Nat)(k:Int)(ks:UP),ia n ks->k<N->0<N->(0<=k->∀f,Ord n f->k<(aK ks f:Int))->∃d,(aQ N).p [av n ks,.int k] s=.ok d s
 |N+1,k,ks,w,F,_,h=>by
  rw[mw (by rfl)];unfold cF;rw[show li 4 [av n ks,D.int k]=[J (av n ks),J (.int k),Y,Y]from rfl,az,dn];have u:(xB (ac w5 (aa 1) (xC (.int 0))):Xt []).p [J (av n ks),J (.int k),Y,Y] s=.ok (decide (k<0)) s:=by simp
  rw[u,Pg];by_cases z:k<0
  .exact⟨.non,by rw[b_ (by simpa using z)];simp⟩
  .rw[f_ (by simpa using z),jf,PU.ak];obtain⟨a,r,B⟩:=xh (s:=s) w λf o=>by have:=h (by ext) f o;ext
   have H:=B.g.len;have O:=B.l4;rw[az,bw];simp![aE,r,Pg,vv,t_,PU.ak];rw[az,dn];have C:(xB (ac Cr (ac bH (mm jI (ab (aa 2) a_)) (xC (.int 3))) (aa 1)):Xt []).p [J (av n ks),J (.int k),J (.lst (a.map .int)),Y] s=.ok (decide (k<(a.length:Int)-3)) s:=by simp
   rw[C,Pg];by_cases y:k<(a.length:Int)-3
   .exact⟨.tup [.str "need",.lst (a.map .int)],by rw[b_ (by simpa using y)];simp⟩
   .rw[f_ (by simpa using y),jf,PU.ak];have G:=Fz B.g;have E:∀p∈uj a,∃d,(aQ N).p [av n (fE ks p),.int (k-1)] s=.ok d s:=λp j=>by
     have j:=(lD B.g).tie p (n3.mp j).1;exact vq N (k-1) (fE ks p) (pA w j) (by ext) (by ext) λL f o=>by
      have:=h (by ext) f o
      have:=tf w j f
      ext
    have fd:∀x∈(uj a).map kD,∃d,(ai (aQ N) (ab (ai cO (ab (aa 1) (ab (aa 0) a_))) (ab (ac bH (aa 2) (xC (.int 1))) a_)):Xe []).p [J x,J (av n ks),J (.int k)] s=.ok d s:=λx l=>by
     obtain⟨p,j,rfl⟩:=nw.mp l;obtain⟨d,e⟩:=E p j;refine⟨d,?_⟩;simp![aE,Kl w ((lD B.g).tie p (n3.mp j).1),aF,bC,aX,fV,Pf,e]
    have q:=fy (ws:=[]) (ws':=[]) (env:=[J (av n ks),J (.int k),J (.lst (a.map .int)),Y]) (s:=s) (fm:=[0,1]) (i:=aI (ai dz (ab (aa 2) a_))) (t:=jj) (e:=ai (aQ N) (ab (ai cO (ab (aa 1) (ab (aa 0) a_))) (ab (ac bH (aa 2) (xC (.int 1))) a_))) (ds:=(uj a).map kD) (λ_=>I) (λx=>if h:∃d,(ai (aQ N) (ab (ai cO (ab (aa 1) (ab (aa 0) a_))) (ab (ac bH (aa 2) (xC (.int 1))) a_)):Xe []).p [J x,J (av n ks),J (.int k)] s=.ok d s then Classical.choose h else .non) (by
     simp![fJ,aE,Fy B.g,fh,Pf]) (by simp;ext) (λx l=>⟨rfl,λ_=>by
      have h:=fd x l;rw[dif_pos h]
      exact Classical.choose_spec h⟩)
    rw[az,bw,q];simp![Pg,vv,t_,PU.ak,cz,cG,bC,cT,mF,Pf];exact⟨_,rfl⟩
end
abbrev BR(p:Int×UN):D:=.tup [.int p.1,.lst (p.2.map .int)]
abbrev xE(left:UN):PV:=.tup (left.map .int)
abbrev Km(k:UN):PV:=.tup (k.map .int)
abbrev cD(n:Int)(ks:UP):PV:=.tup [.int n,.tup (ks.map Km)]
structure Up(E:UQ)(h h':MH):Prop where
 len:h.length<=h'.length
 keep:∀i,i<h.length->i∉E->h'[i]?=h[i]?
def Up.trans{E:UQ}{h j l:MH}(a:Up E h j)(b:Up E j l):Up E h l :=
 ⟨mu a.len b.len,λi f n=>(b.keep i (oQ f a.len) n).trans (a.keep i f n)⟩
def Up.more{E f:UQ}{h j:MH}(a:Up E h j)(s:∀e∈E,e∈f):Up f h j:=⟨a.len,λi l n=>a.keep i l λz=>n (s i z)⟩
def Up.set{E:UQ}{h:MH}{m:Nat}{o:MO}(a:m∈E):Up E h (h.set m o):=⟨by simp,λi _ n=>nr (by rintro rfl;exact n a)⟩
section
variable{q:Nat}{h h':MH}{A:UQ}
def pH:∀{a:UN},Rps q h A (a.map .int) (a.map .int)
 |[]=>rfl
 |_::_=>⟨_,_,rfl,rfl,pH⟩
def pE:∀{f:UN}{i:UL},Rps q h A (f.map .int) i->i=f.map .int
 |[],_,r=>r
 |_::_,_,⟨_,_,e,a,b⟩=>by rw[e,show _=PV.int _ from a,pE b];rfl
def ww:∀{a:UP},Rps q h A (a.map kD) (a.map Km)
 |[]=>rfl
 |_::_=>⟨_,_,rfl,⟨_,rfl,pH⟩,ww⟩
def vK:∀{a:UP}{f:UL},Rps q h A (a.map kD) f->f=a.map Km
 |[],_,r=>r
 |_::_,_,⟨_,_,e,⟨xs,e2,r⟩,b⟩=>by rw[e,e2,pE r,vK b];rfl
def zP{n:Int}{a:UP}:Rp q h A (av n a) (cD n a):=⟨_,rfl,_,_,rfl,rfl,_,_,rfl,⟨_,rfl,ww⟩,rfl⟩
def zo{n:Int}{a:UP}{v:PV}(r:Rp q h A (av n a) v):v=cD n a:=by obtain⟨xs,rfl,x,t,rfl,e,y,f,rfl,⟨j,rfl,i⟩,e3⟩:=r;rw[show x=PV.int n from e,show f=[]from e3,vK i]
def Oc{left:UN}{v:PV}(r:Rp q h A (.tup (left.map .int)) v):v=xE left:=by obtain⟨xs,rfl,r⟩:=r;rw[pE r]
end
def FF{a:UP}{xs:UL}{i k:UN}{v w:PV}(l:xs.length=a.length)(e:n5 (h_ a xs i v).1 (h_ a xs i v).2 k=J w):(k=i/\w=v)\/n5 a xs k=J w:=by
 induction a generalizing xs with
 |nil =>
  cases xs with
  |cons _ _=>cases l
  |nil =>
   by_cases z:i=k
   .simp[h_,n5,z]at e;exact .inl ⟨z.symm,e.symm⟩
   .simp[h_,n5,z]at e
 |cons j a f =>
  cases xs with
  |nil=>cases l
  |cons x xs =>
   unfold h_ at e;by_cases z:j=i
   .rw[b_ z]at e;by_cases y:j=k
    .simp[n5,y]at e;exact .inl ⟨y▸z,e.symm⟩
    .simp[n5,y]at e;right;simp[n5,y,e]
   .rw[f_ z]at e;by_cases y:j=k
    .simp[n5,y]at e;right;simp[n5,y,e]
    .simp only[n5,f_ y]at e ⊢;exact f (by simpa using l) e
def FG{a:UP}{xs:UL}{i:UN}{v:PV}(l:xs.length=a.length):n5 (h_ a xs i v).1 (h_ a xs i v).2 i=J v/\(h_ a xs i v).2.length=(h_ a xs i v).1.length/\(h_ a xs i v).1=if i∈a then a else a++[i]:=by
 induction a generalizing xs with
 |nil =>
  cases xs with
  |cons _ _=>cases l
  |nil=>simp[h_,n5]
 |cons j a B =>
  cases xs with
  |nil=>cases l
  |cons x xs =>
   obtain⟨f,r,u⟩:=B (xs:=xs) (by simpa using l);unfold h_;by_cases z:j=i
   .rw[b_ z];simp[n5,z];simpa using l
   .rw[f_ z];refine⟨by simp[n5,z,f],by simp[r],?_⟩;show j::(h_ a xs i v).1=_;rw[u];by_cases y:i∈a<;>simp[y,Ne.symm z]
structure Tb(q b n:Nat)(ks:UP)(s:g_)(A:UQ)(h:MH):Prop where
 low:∀i≤b,i∈A
 bd:∀a∈A,a<h.length
 pen:bF h q s
 tab:∃js xs,h[b]?=J (.dic js xs)/\xs.length=js.length/\js.Nodup/\(∀j∈js,j.Sublist (c_ n))/\∀j v,n5 js xs j=J v->Rp q h A (BR (Wt n ks j)) v
section
variable{q b n:Nat}{ks:UP}{s:g_}{A:UQ}{h h':MH}{left:UN}
def Tb.mv(f:Tb q b n ks s A h)(l:h.length<=h'.length)(k:∀i,i<h.length->i∉A->h'[i]?=h[i]?)(p:bF h' q s)(t:h'[b]?=h[b]?):Tb q b n ks s A h':=by obtain⟨u,xs,e,B,nd,sb,v⟩:=f.tab;exact⟨f.low,λa y=>oQ (f.bd a y) l,p,u,xs,t.trans e,B,nd,sb,λj w r=>(v j w r).mv ⟨k,λo z=>.inl z⟩⟩
def Tb.kb(a:Tb q b n ks s A h)(f:q<b)(k:KB q h h')(p:bF h' q s):Tb q b n ks s A h' :=
 a.mv k.len (λi j l=>k.keep i j λz=>l (z▸a.low q (vw f))) p (k.keep b (a.bd b (a.low b (il b))) (by ext))
def xz(k:KB q h h'):Up [q,b] h h':=⟨k.len,λi a n=>k.keep i a λz=>n (by simp[z])⟩
def Tb.set(a:Tb q b n ks s A h)(l:q<b){m:Nat}(r:b<m)(j:m∈A){o:MO}:Tb q b n ks s A (h.set m o) :=
 a.mv (by simp) (λi _ f=>nr (by rintro rfl;exact f j)) (by unfold bF;rw[nr (by ext)];exact a.pen) (nr (by ext))
def Tb.app(a:Tb q b n ks s A h){g:MH}:Tb q b n ks s A (h++g) :=
 a.mv (by simp) (λi f _=>qr f) a.pen.app (qr (a.bd b (a.low b (il b))))
def Tb.grow(f:Tb q b n ks s A h){o:MO}:Tb q b n ks s (h.length::A) (h++[o]):=by
 obtain⟨z,xs,e,B,nd,sb,v⟩:=f.tab;refine⟨λi u=>lb _ (f.low i u),λa l=>?_,f.pen.app,z,xs,?_,B,nd,sb,λj w y=>(v j w y).mv ⟨λi u _=>qr u,λo r=>?_⟩⟩
 .rcases k4.mp l with rfl|l
  .simp
  .have:=f.bd a l;simp;ext
 .rw[qr (f.bd b (f.low b (il b)))];exact e
 .rcases k4.mp r with rfl|r
  .exact .inr (il _)
  .exact .inl r
def GH(a:Tb q b n ks s A h)(f:q<b){Z:k_}{env:aq}(l:Z.length=env.length)(fz:∀(i:Nat)(d:D),env[i]?=J (J d)->∃v,Z[i]?=J (J v)/\Rp q h A d v):PU.Cx q h h.length A A [] Z env s :=
 ⟨a.bd,λ_ h=>h,a.bd,a.low q (vw f),il _,a.pen,l,λi d e _=>fz i d e,λi d e j=>by cases j⟩
def rQ{E:Xe []}{d:D}{Z:k_}{env:aq}(c:PU.Cx q h h.length A A [] Z env s)(e:E.p env s=.ok d s):∃w a,E.m Z h=.ok w a/\KB q h a/\bF a q s/\Rp q a A d w:=by have o:=E.ok c;rw[e]at o;obtain⟨w,a,e1,k,p,f,_⟩:=o;exact⟨w,a,e1,k,p,f.base (λ_ h=>h) c.bd⟩
def E4:Xe []:=mm iB (ab (aG 1 [2] (aI (aa 1)) (ws':=[]) (i0 0) (xB (ac Az (aa 0) (aa 1))) (aa 0)) a_)
def E5:Xe []:=ai cw (ab (aa 0) (ab (aa 1) (ab (aa 2) a_)))
def E6:Xe []:=aJ (ab (ac bo (mm jI (ab (ai bN (ab (aa 0) (ab (aa 1) (ab (aa 2) a_)))) a_)) (ac i3 (aa 5) (xC (.int 0)))) (ab (ac bo (bM (ab (aa 2) a_)) (ac i3 (aa 5) (xC (.int 1)))) a_))
def Od{F:UL->MH->UZ}:bW F=aZ (bp 4 E4.m) (aZ (bp 5 (bA F (af E5.m (af (ae 4) (af (ae 3) h8))))) (bP E6.m)):=rfl
def oS(q b n:Nat)(ks:UP)(s:g_)(d:D)(o:MH->UZ):Prop:=∀A h,Tb q b n ks s A h->∃w h',o h=.ok w h'/\Up [q,b] h h'/\Tb q b n ks s A h'/\Rp q h' A d w
def Kn{F:UL->MH->UZ}{v:Int}(z:q<b)(B:ia n ks)(Q:left.Sublist (c_ n))(hv:v∈left)(hF:oS q b n ks s (BR (Wt n ks (aV left v))) (F [cD n (KW n ks (aV left v)),xE (aV left v),.loc b])):
  oS q b n ks s (BR (dI n ks left v)) (cc 6 4 (bW F) [cD n (KW n ks left),xE left,.int v,.loc b]):=λA h u=>by
 have n12:=B.n12;have j:∀x∈left,0<=x/\x<(n:Int):=λx y=>aT.mp (Q.subset y);have nd:left.Nodup:=Q.nodup (cE n);have ll:left.length<=12:=by have:=Q.length_le;simp[c_]at this;ext
 have wk:=nG (left:=left) B;have hd:(D.tup (left.map .int)).items=J (left.map .int):=rfl;have p4:∀{f l:UC},E4.p [J (av n (KW n ks left)),J (.tup (left.map .int)),J (.int v),Y,f,l] s=.ok (.tup ((aV left v).map .int)) s:=λ{f l}=>by
  have c:=fy (ws:=[]) (ws':=[]) (env:=[J (av n (KW n ks left)),J (.tup (left.map .int)),J (.int v),Y,f,l]) (s:=s) (fm:=[2]) (i:=aI (aa 1)) (t:=xB (ac Az (aa 0) (aa 1))) (e:=aa 0) (ds:=left.map .int) (Ke λx=>!decide (x=v)) (λx=>x) (by simp[hd]) (by simp;ext) (λx y=>by
   obtain⟨i,hi,rfl⟩:=nw.mp y
   exact⟨by simp[Ke],λ_=>by simp⟩)
  rw[iT (λx=>!decide (x=v)) _ _ λi _=>rfl]at c;unfold E4;rw[cT,ag,c];rfl
 have p5:∀{f l:UC},E5.p [J (av n (KW n ks left)),J (.tup (left.map .int)),J (.int v),Y,f,l] s=.ok (av n (KW n ks (aV left v))) s:=λ{f l}=>by
  unfold E5;simp![aE,t8 hd wk (j v hv).1 (j v hv).2 j,yK B j hv]
 have ol:=(kY B (aV left v).length (aV left v) rfl (nd.filter _) λx y=>j x (dR.mp y).1).1.length_eq;have l2:(aV left v).length<=12:=mu (C5 _ _) ll;have p6:∀{f:UC},E6.p [J (av n (KW n ks left)),J (.tup (left.map .int)),J (.int v),Y,f,J (BR (Wt n ks (aV left v)))] s=.ok (BR (dI n ks left v)) s:=λ{f}=>by
  unfold E6;simp![cG,aF,cT,aE,GA hd wk (j v hv).1 (j v hv).2,zK,q7,Pf,bC,aX,xy,xw,Gf,ic,c7,AQ,Ca,show(0+1:Nat)<=100000 by decide,if_true];rw[fg (by simp;ext)];rfl
 have R:∀{a:MH}(P C:Option PV)(e4 e5:UC)(Z:Tb q b n ks s A a),e4=Y->(∀d,e5=J d->∃w,C=J w/\Rp q a A d w)->PU.Cx q a a.length A A [] [J (cD n (KW n ks left)),J (xE left),J (.int v),J (.loc b),P,C] [J (av n (KW n ks left)),J (.tup (left.map .int)),J (.int v),Y,e4,e5] s:=λ{a} P C e4 e5 Z L h5=>GH Z z rfl λi d e=>by
  match i,e with
  |0,e=>cases e;exact⟨_,rfl,zP⟩
  |1,e=>cases e;exact⟨_,rfl,_,rfl,pH⟩
  |2,e=>cases e;exact⟨_,rfl,rfl⟩
  |3,e=>cases e
  |4,e=>rw[L]at e;cases e
  |5,e =>
   have e:e5=J d:=by simpa using e
   obtain⟨w,ew,r⟩:=h5 d e;exact⟨w,by rw[ew];rfl,r⟩
  |n+6,e=>simp at e
 obtain⟨P,h1,e1,U,G,r1⟩:=rQ (E:=E4) (R Y Y Y Y u rfl λd e=>by cases e) p4;have e4:=Oc r1;subst e4;have W:=u.kb z U G;obtain⟨C,h2,e2,X,H,r2⟩:=rQ (E:=E5) (R (J (xE (aV left v))) Y Y Y W rfl λd e=>by cases e) p5;have e5:=zo r2;subst e5;have T2:=W.kb z X H;obtain⟨w,h3,e3,u3,T3,r3⟩:=hF A h2 T2;obtain⟨w6,L,e6,S,O,r6⟩:=rQ (E:=E6) (R (J (xE (aV left v))) (J w) Y (J (BR (Wt n ks (aV left v)))) T3 rfl λd e=>by cases e;exact⟨w,rfl,r3⟩) p6;refine⟨w6,L,?_,(xz U).trans ((xz X).trans (u3.trans (xz S))),T3.kb z S O,r6⟩;refine(e9 rfl).trans ?_;rw[Od,dG,oW];have st:bO 6 [cD n (KW n ks left),xE left,.int v,.loc b]=[J (cD n (KW n ks left)),J (xE left),J (.int v),J (.loc b),Y,Y]:=rfl;have v4:∀a,ae 4 [J (cD n (KW n ks left)),J (xE left),J (.int v),J (.loc b),J (xE (aV left v)),Y] a=.ok (xE (aV left v)) a:=λ_=>rfl;have v3:∀a,ae 3 [J (cD n (KW n ks left)),J (xE left),J (.int v),J (.loc b),J (xE (aV left v)),Y] a=.ok (.loc b) a:=λ_=>rfl;rw[st,e1];simp only[MM.aA,MM.ak,vv,t_,dG,oW,m8,fP,e2,Out.bind_ok,v4,v3,lA,e3,pZ,e6];rfl
abbrev cI(x:UL):MIt:=⟨x,[]⟩
def uq{G:UL->MH->UZ}{W L:PV}{f:Int->Int×UN}{it:MIt}(y:∀h,it.ok h)(hq:q<b){m:Nat}(Q:m∈A)(bm:b<m):
  ∀(B:UN)(R:Option PV)(a:UL)(C:List (Int×UN))(h:MH),(∀v∈B,oS q b n ks s (BR (f v)) (G [W,L,.int v,.loc b]))->Tb q b n ks s A h->h[m]?=J (.lst a)->Rps q h A (C.map BR) a->a.length+B.length<1000 ->
  ∃h' j,A4 it m (Cm 0) xQ (bA G (af (ae 1) (af (ae 2) (af (ae 0) (af (ae 3) h8))))) (B.map .int) [R,J W,J L,J (.loc b)] h=.ok () h'/\Up [q,b,m] h h'/\Tb q b n ks s A h'/\h'[m]?=J (.lst j)/\Rps q h' A ((C++B.map f).map BR) j
 |[],R,a,C,h,_,l,H,r,_=>⟨h,a,Ei (y h),⟨il _,λ_ _ _=>rfl⟩,l,H,by simpa using r⟩
 |v::B,R,a,C,h,Z,l,H,r,hl=>by
  obtain⟨w,u,e1,S,T1,r1⟩:=Z v (by simp) A h l;have F:u[m]?=J (.lst a):=(S.keep m (aW H) (by simp;ext)).trans H
  have ra:=r.mv (h':=u) (O':=A) ⟨λi hi O=>S.keep i hi λz=>O (by
   simp at z
   exact l.low i (by ext)),λo U=>.inl U⟩
  have up:=Up.set (E:=[q,b,m]) (h:=u) (m:=m) (o:=.lst (a++[w])) (by simp);have mv:Mv A u A (u.set m (.lst (a++[w]))):=⟨λi _ O=>nr (by rintro rfl;exact O Q),λo U=>.inl U⟩;have r2:Rps q (u.set m (.lst (a++[w]))) A ((C++[f v]).map BR) (a++[w]):=by rw[F0];exact(ra.mv mv).app ⟨_,_,rfl,r1.mv mv,rfl⟩
  obtain⟨h2,j,e2,u2,T2,P,X⟩:=uq y hq Q bm B (J (.int v)) (a++[w]) (C++[f v]) (u.set m (.lst (a++[w]))) (λx hx=>Z x (lb _ hx)) (T1.set hq bm Q) (xJ (aW F)) r2 (by simp at hl ⊢;ext);refine⟨h2,j,?_,((S.more λe he=>by simp at he ⊢;ext).trans up).trans u2,T2,P,by rw[CN]at X;exact X⟩
  rw[n9,Ej (y h) (Z1:=[J (.int v),J W,J L,J (.loc b)]) (h1:=h) rfl rfl (by
   rw[m8]
   exact e1) F (by simp at hl;ext)]
  exact e2
def qI:∀{f:List (Int×UN)},rW (f.map BR)=J f
 |[]=>rfl
 |p::f=>by
  have e:∀a:UN,N0 (a.map .int)=J a:=λa=>by
   induction a with
   |nil=>rfl
   |cons i a j=>rw[n9,N0,j];rfl
  rw[n9,rW,show tL (BR p)=J p by simp[tL,e],qI];rfl
def CG:UN->UP
 |[]=>[[]]
 |x::l=>CG l++(CG l).map (x::·)
def tT:∀l:UN,(CG l).length=2^l.length
 |[]=>rfl
 |x::l=>by rw[CG,z_,q7,tT l,AQ,Qg];ext
def AW{j l:UN}(h:j.Sublist l):j∈CG l:=by
 induction h with
 |slnil=>exact B3.mpr rfl
 |cons x _ a=>exact xg _ a
 |cons_cons x _ a=>exact o_ _ (nw.mpr ⟨_,a,rfl⟩)
def FH{n:Nat}{a:UP}(i:n<=12)(nd:a.Nodup)(h:∀j∈a,j.Sublist (c_ n)):a.length<=4096:=by
 have:=List.Nodup.length_le_of_subset (l₂:=CG (c_ n)) nd λj f=>AW (h j f)
 rw[tT]at this
 have:2^(c_ n).length<=2^12:=PP (by decide) (by simp[c_];ext)
 ext
abbrev Cg(n:Nat)(ks:UP)(left:UN)(b:Nat):k_:=[J (cD n (KW n ks left)),J (xE left),J (.loc b)]
def Ko{G:UL->MH->UZ}(hq:q<b)(w0:ia n ks)(hl:left.Sublist (c_ n))(hG:∀v∈left,oS q b n ks s (BR (dI n ks left v)) (G [cD n (KW n ks left),xE left,.int v,.loc b])):
  oS q b n ks s (BR (Wt n ks left)) (cc 3 3 (ff G) [cD n (KW n ks left),xE left,.loc b]):=λA h u=>by
 have n12:=w0.n12;have nd:left.Nodup:=hl.nodup (cE n);have ll:left.length<=12:=by have:=hl.length_le;simp[c_]at this;ext
 have tk:oX (xE left)=J left:=mI left;have fin:∀{C:MH}{H:UP}{xs:UL}{w:PV},C[b]?=J (.dic H xs)->n5 H xs left=J w->(bP (ah jM (ae 2) (ae 1)) (Cg n ks left b) C)=.rt w C:=λ{C H xs w} e1 e2=>by
  have U:cV C (.loc b)=J (H,xs):=by simp[cV,e1]
  rw[pZ,lO];simp only[show ae 2 (Cg n ks left b) C=.ok (.loc b) C from rfl,show ae 1 (Cg n ks left b) C=.ok (xE left) C from rfl,Out.bind_ok,jM,tk,U,e2];rfl
 obtain⟨H,xs,et,lx,nj,sj,vj⟩:=u.tab;have U:cV h (.loc b)=J (H,xs):=by simp[cV,et]
 have B:mB (ah (i5 I) (ae 1) (ae 2)) (Cg n ks left b) h=.ok (!(n5 H xs left).isSome) h:=by rw[Ge,lO];simp only[show ae 2 (Cg n ks left b) h=.ok (.loc b) h from rfl,show ae 1 (Cg n ks left b) h=.ok (xE left) h from rfl,Out.bind_ok,i5,tk,U];rfl
 have st:bO 3 [cD n (KW n ks left),xE left,.loc b]=Cg n ks left b:=rfl
 cases L:n5 H xs left with
 |some w =>
  rw[L]at B;refine⟨w,h,?_,⟨il _,λ_ _ _=>rfl⟩,u,vj left w L⟩;refine(e9 rfl).trans ?_;rw[st,ff,dG,tP,B,MM.aA,Option.isSome_some,Dm,f_ FV,tK,MM.ak,fin et L];rfl
 |none =>
  rw[L]at B;have T1:=u.grow (o:=.lst []);obtain⟨l,r,e1,u1,T2,ea,ra⟩:=uq (f:=dI n ks left) (it:=cI (left.map .int)) (λ_ p hp=>by cases hp) hq (A:=h.length::A) (m:=h.length) (by simp) (u.bd b (u.low b (il b))) left Y [] [] (h++[MO.lst []]) hG T1 (by simp) rfl (by simp;ext);rw[List.nil_append]at ra;have al:r.length=left.length:=by have:=ra.length;simpa using this
  have T3:=T2.app (g:=[MO.lst []]);have Z:=ra.mv (h':=l++[MO.lst []]) (O':=h.length::A) ⟨λi hi _=>qr hi,λo ho=>.inl ho⟩;have an:(l++[MO.lst []])[h.length]?=J (.lst r):=by rw[qr (aW ea)];exact ea
  obtain⟨w,ew,W⟩:∃w,f9 (.loc h.length) (.tup [.int 0,.loc l.length]) (l++[MO.lst []])=.ok w (l++[MO.lst []])/\Rp q (l++[MO.lst []]) (h.length::A) (BR (Wt n ks left)) w:=by
   have lo:dJ (l++[MO.lst []]) (.loc h.length)=J r:=by simp only[dJ,an]
   have rp:lq (l++[MO.lst []]) r=J (left.map (dI n ks left)):=nM qI Z;have ef:f9 (.loc h.length) (.tup [.int 0,.loc l.length]) (l++[MO.lst []])=.ok (if r.length=0 then .tup [.int 0,.loc l.length]else r.getD (argBest (cM (left.map (dI n ks left))) (r.length-1)) .non) (l++[MO.lst []]):=by simp only[f9,lo,rp]
   refine⟨_,ef,?_⟩;rw[GC nd];by_cases z:r.length=0
   .rw[b_ z]
    have:left=[]:=C4.mp (by ext)
    subst this;refine⟨_,rfl,_,_,rfl,rfl,_,_,rfl,⟨_,[],rfl,λz=>?_,by simp,rfl⟩,rfl⟩
    have:=T2.bd _ z;ext
   .rw[f_ z];have hk:argBest (cM (left.map (dI n ks left))) (left.length-1)<left.length:=Kw (j7 _ _) (by ext);obtain⟨v,L,rv⟩:=Z.get (i:=argBest (cM (left.map (dI n ks left))) (left.length-1)) (zb (by simpa using hk));rw[al];simp only[So,L,zb (show argBest (cM (left.map (dI n ks left))) (left.length-1)<(left.map (dI n ks left)).length by simpa using hk),C7];simpa using rv
  obtain⟨E,F,X,S,O,P,as⟩:=T3.tab;obtain⟨d1,d2,d3⟩:=FG (i:=left) (v:=w) S;have R:b<(l++[MO.lst []]).length:=aW X;have nl:=FH (by ext) O P;have mA:Mv (h.length::A) (l++[MO.lst []]) A ((l++[MO.lst []]).set b (MO.dic (h_ E F left w).1 (h_ E F left w).2)):=⟨λi _ no=>nr (by rintro rfl;exact no (lb _ (u.low _ (il _)))),λo ho=>.inl (lb _ ho)⟩;refine⟨w,(l++[MO.lst []]).set b (MO.dic (h_ E F left w).1 (h_ E F left w).2),?_,?_,?_,W.mv mA⟩
  .have c:dY 1 [0,1,2] (iQ (ae 1)) (Cm 0) xQ (bA G (af (ae 1) (af (ae 2) (af (ae 0) (af (ae 3) h8))))) (Cg n ks left b) h=.ok (.loc h.length) l:=by
    rw[Aq];have ei:iQ (ae 1) (Cg n ks left b) h=.ok (cI (left.map .int)) h:=rfl;rw[ei,Out.bind_ok];refine(congrArg (λz:Out Unit=>z.bind λ_ h3=>Out.ok (PV.loc h.length) h3) e1).trans ?_;rfl
   have df:iA (af (mC (.int 0)) (af (eX h8) h8)) (Cg n ks left b) l=.ok (.tup [.int 0,.loc l.length]) (l++[MO.lst []]):=by
    have l0:pe [] l=.ok (.loc l.length) (l++[MO.lst []]):=nC (by simp);have t0:r_ [.int 0,.loc l.length] (l++[MO.lst []])=.ok (.tup [.int 0,.loc l.length]) (l++[MO.lst []]):=by unfold r_;rw[b_ (mu (show _<=1000 by simp) (by decide))]
    simp only[Eb,fP,Gc,Out.bind_ok,Ea,lA,l0,t0]
   have mn:ah f9 (dY 1 [0,1,2] (iQ (ae 1)) (Cm 0) xQ (bA G (af (ae 1) (af (ae 2) (af (ae 0) (af (ae 3) h8)))))) (iA (af (mC (.int 0)) (af (eX h8) h8))) (Cg n ks left b) h=.ok w (l++[MO.lst []]):=by rw[lO,c,Out.bind_ok,df,Out.bind_ok,ew];rfl
   have sb:k6 (ae 2) (ae 1) w (Cg n ks left b) (l++[MO.lst []])=.nx (Cg n ks left b) ((l++[MO.lst []]).set b (MO.dic (h_ E F left w).1 (h_ E F left w).2)):=by
    have e0:pY (.loc b) (xE left) w (l++[MO.lst []])=J ((l++[MO.lst []]).set b (MO.dic (h_ E F left w).1 (h_ E F left w).2)):=by
     have U:cV (l++[MO.lst []]) (.loc b)=J (E,F):=by simp only[cV,X]
     simp only[pY,tk,U];rw[b_ (by ext)]
    unfold k6;simp only[Ip,show ae 2 (Cg n ks left b) (l++[MO.lst []])=.ok (.loc b) (l++[MO.lst []])from rfl,show ae 1 (Cg n ks left b) (l++[MO.lst []])=.ok (xE left) (l++[MO.lst []])from rfl,MM.aA,e0]
   refine(e9 rfl).trans ?_;rw[st,ff,dG,tP,B,MM.aA,Option.isSome_none,KG,b_ rfl,Ed,mn,MM.aA,sb];dsimp only;rw[MM.ak,fin (xJ R) d1];rfl
  .refine⟨by have:=u1.len;simp at this ⊢;ext,λi hi no=>?_⟩;have ap:i≠q/\i≠b:=by simpa using no
   have l1:=u1.len;rw[z_,List.length_singleton]at l1;rw[nr (λz=>ap.2 z.symm),qr (by ext),u1.keep i (by simp;ext) (by simp;ext),qr hi]
  .refine⟨u.low,λa ha=>?_,?_,_,_,xJ R,d2,?_,?_,λj v L=>?_⟩
   .have:=T3.bd a (lb _ ha);simpa using this
   .unfold bF;rw[nr (by ext)];exact T3.pen
   .rw[d3];split
    .exact O
    .rename_i z
     rw[Cj];exact⟨O,by simp,λx hx y hy e=>z (by rw[<-B3.mp hy,<-e];exact hx)⟩
   .rw[d3];intro j Q
    split at Q
    .exact P j Q
    .rcases lT.mp Q with Q|Q
     .exact P j Q
     .rw[B3.mp Q];exact hl
   .rcases FF S L with⟨rfl,rfl⟩|z
    .exact W.mv mA
    .exact (as j v z).mv mA
def sX(f:q<b)(i:ia n ks):∀(m:Nat)(left:UN),left.length<m->left.Sublist (c_ n)->oS q b n ks s (BR (Wt n ks left)) (eY m [cD n (KW n ks left),xE left,.loc b])
 |m+1,left,j,a=>Ko f i a λv hv=>Kn f i a hv (sX f i m (aV left v) (by have:=ni (a.nodup (cE n)) hv;ext) (List.filter_sublist.trans a))
end
def E7:Xe []:=aJ (ab (ac i3 (aa 1) (xC (.int 0))) (ab (ac i3 (aa 1) (xC (.int 1))) (ab (ai cK (ab (aa 0) (ab (ac bH (ac i3 (aa 1) (xC (.int 0))) (xC (.int 1))) a_))) a_)))
structure FI(ds:UR)(s:g_)(n:Nat)(ks:UP)(d:D):Prop where
 e:ds=[av n ks]
 w:ia n ks
 n7:n<=7
 p:cK.p [av n ks,.int ((Wt n ks (c_ n)).1-1)] s=.ok d s
abbrev GJ(n:Nat)(ks:UP)(d:D):D:=.tup [.int (Wt n ks (c_ n)).1,.lst ((Wt n ks (c_ n)).2.map .int),d]
open Classical in
def nA(a:UR)(s:g_):PR D:=if h:∃x:Nat×UP×D,FI a s x.1 x.2.1 x.2.2 then .ok (GJ (choose h).1 (choose h).2.1 (choose h).2.2) s else .bad
def zO{q n:Nat}{f:UP}{s:g_}{d:D}{h:MH}{O:UQ}{L:UL}(bd:Bd h O)(hq:q∈O)(pn:bF h q s)(r:Rps q h O [av n f] L)(l:FI [av n f] s n f d):Rk q h (jq L h) (GJ n f d) s (λR d v=>Rp q R O d v/\(T=I->Frs q h.length O R d v)):=by
 have P:=l.w;have n7:=l.n7;have y:q<h.length:=bd q hq;have T0:Tb q h.length n f s (List.range (h.length+1)) (h++[.dic [] []]):=⟨λi S=>Ck.mpr (by ext),λa ha=>by have:=Ck.mp ha;simpa using this,pn.app,[],[],by simp,rfl,.nil,(λj W=>by cases W),λj v e=>by cases e⟩;obtain⟨w,h2,e2,C,T2,X⟩:=sX y P 8 (c_ n) (by simp[c_];ext) (List.Sublist.refl _) _ _ T0;rw[lR P]at e2;have U:E7.p [J (av n f),J (BR (Wt n f (c_ n)))] s=.ok (GJ n f d) s:=by unfold E7;simp![cG,aF,aE,bC,aX,xy,xw,Gf,Pf,fV,l.p];rfl
 obtain⟨v3,h3,e3,H,G,r3⟩:=rQ (E:=E7) (GH T2 y (Z:=[J (cD n f),J w]) (env:=[J (av n f),J (BR (Wt n f (c_ n)))]) rfl λi d e=>by
  match i,e with
  |0,e=>cases e;exact⟨_,rfl,zP⟩
  |1,e=>cases e;exact⟨_,rfl,X⟩
  |n+2,e=>simp at e) U
 obtain⟨v,t,rfl,a,et⟩:=r;rw[show t=[]from et,zo a];refine⟨v3,h3,?_,⟨?_,λi S ne=>?_⟩,G,r3.mv ⟨λ_ _ _=>rfl,λo ho=>.inl (Ck.mpr (by have:=bd o ho;ext))⟩,λz=>by cases z⟩
 .have st:bO 2 [cD n f]=[J (cD n f),Y]:=rfl;have Q:∀B,ah aU (ae 0) (mC (.int 0)) [J (cD n f),Y] B=.ok (.int n) B:=λ_=>rfl;have u:mB (ah BV (ah aU (ae 0) (mC (.int 0))) (mC (.int 7))) [J (cD n f),Y] h=.ok T h:=by
   rw[Ge,lO,Q,Out.bind_ok,Gc,Out.bind_ok];show Out.ok (decide ((7:Int)<(n:Int))) h=_;rw[decide_eq_false (by ext)]
  have rg:bz 0 n=(c_ n).map .int:=by unfold bz c_;rw[Bp];exact FU λi _=>by simp
  have tr:Ph (af (ah aU (ae 0) (mC (.int 0))) h8) [J (cD n f),Y] h=.ok (xE (c_ n)) h:=by unfold Ph;rw[fP,Q,Out.bind_ok,lA,Out.bind_ok,Out.bind_ok];dsimp only;rw[b_ ⟨by ext,by ext,mu (show _<=1000 by ext) (by decide)⟩,AO,rg]
  have v0:∀B,ae 0 [J (cD n f),Y] B=.ok (cD n f) B:=λ_=>rfl;refine(e9 rfl).trans ?_;rw[st,Bz,dG,tP,u,MM.aA,f_ FV,tK,MM.ak,dG,oW,m8,fP,v0,Out.bind_ok,fP,tr,Out.bind_ok,fP,Ec,Out.bind_ok,lA,Out.bind_ok,Out.bind_ok,Out.bind_ok,Out.bind_ok];unfold kJ;rw[e2,MM.aA,MM.ak,pZ];refine(congrArg (λz:UZ=>(z.rt _).fin) e3).trans ?_;rfl
 .have F:=C.len;have h4:=H.len;simp at F;ext
 .have F:=C.len;rw[H.keep i (by simp at F;ext) ne,C.keep i (by simp;ext) (by simp;ext),qr S]
open Classical in
def ju:Fn where
 m:=jq
 p:=nA
 fr:=T
 ok {q h O vs ds s} bd hq pn r:=by
  unfold nA;by_cases a:∃x:Nat×UP×D,FI ds s x.1 x.2.1 x.2.2
  .rw[dif_pos a];have f:=choose_spec a;generalize choose a=x at f ⊢;obtain⟨n,i,d⟩:=x;have e:=f.e;dsimp only at e;subst e;exact zO bd hq pn r f
  .rw[dif_neg a];trivial
def BF{m n:Nat}{f a:UP}(e:[av m f]=[av n a]):m=n/\f=a:=by
 injection e with e _
 injection e with e
 injection e with e1 e
 injection e with e2 _
 injection e1 with e1
 injection e2 with e2
 have:=congrArg gf e2
 rw[gC,gC]at this;exact⟨by ext,by injection this⟩
open Classical in
theorem u8{n:Nat}{a:UP}{s:g_}(w:ia n a)(n7:n<=7):∃d,ju.p [av n a] s=.ok (GJ n a d) s:=by
 have i:=kY w (c_ n).length (c_ n) rfl (cE n) λx f=>aT.mp f;rw[lR w]at i;obtain⟨j,u,r⟩:=i;have g:=FD w (qs:=(Wt n a (c_ n)).2) ⟨by ext,j⟩;obtain⟨d,e⟩:=vq (s:=s) 70 ((Wt n a (c_ n)).1-1) a w (by ext) (by decide) λ_ l o=>by have:=r l o.pm;ext
 have f:∃x:Nat×UP×D,FI [av n a] s x.1 x.2.1 x.2.2:=⟨(n,a,d),rfl,w,n7,e⟩;obtain⟨e1,e2⟩:=BF (choose_spec f).e;refine⟨(choose f).2.2,?_⟩;show nA _ _=_;unfold nA;rw[dif_pos f,<-e1,<-e2]
def fb:Xd []:=(aC (bc 3 (ai im (ab (aa 2) (ab (ac i3 (bM (ab (xC (.int 5)) (ab (xC (.int 7)) a_))) (aa 1)) a_))))
 (aC (bc 4 (ai ju (ab (aa 3) a_)))
 (aC (bc 5 (aG 1 [3] (aI (ai cL (ab (aa 2) (ab (ac i3 (aa 3) (xC (.int 0))) a_)))) (ws':=[]) (i0 0) jj (ai bU (ab (aa 1) (ab (aa 0) a_)))))
 (aC (p0 (E0 (xB (ac w5 (mm eI (ab (aa 5) a_)) (ac i3 (aa 4) (xC (.int 0))))) (xB (ac Az (ai bU (ab (aa 3) (ab (ac i3 (aa 4) (xC (.int 1))) a_))) (ac i3 (aa 4) (xC (.int 0)))))) (bv (xC (.bl T))) iw)
 (aC (p0 (eV (xB (ac w5 (ac i3 (aa 3) (xC (.int 0))) (xC (.int 6)))) (xB (ac Az (mm eI (ab (aa 5) a_)) (ac i3 (aa 4) (xC (.int 0)))))) (bv (xC (.bl T))) iw)
 (p0 (xB (ac Cr (ac i3 (aa 3) (xC (.int 0))) (xC (.int 1)))) (aC (bc 6 (ai aM (ab (aa 2) (ab (ac i3 (aa 3) (xC (.int 0))) a_))))
 (aC (bc 7 (ac E2 (ac g9 (ac g9 (aa 6) (xC (.int 1))) (ai aM (ab (aa 2) (ab (ac bH (ac i3 (aa 3) (xC (.int 0))) (xC (.int 1))) a_)))) (ac i3 (aa 3) (xC (.int 0)))))
 (p0 (xB (ac w5 (ac i3 (ai ju (ab (ai cQ (ab (ac i3 (aa 3) (xC (.int 0))) (ab (ac g9 (ac i3 (aa 3) (xC (.int 1))) (aJ (ab (aJ (ab (aa 6) (ab (aa 7) a_))) a_))) a_))) a_)) (xC (.int 0))) (ac bH (ac i3 (aa 4) (xC (.int 0))) (xC (.int 1))))) (bv (xC (.bl T))) iw))) iw))))))
abbrev TJ:Xd []:=(p0 (E0 (xB (ac w5 (mm eI (ab (aa 5) a_)) (ac i3 (aa 4) (xC (.int 0))))) (xB (ac Az (ai bU (ab (aa 3) (ab (ac i3 (aa 4) (xC (.int 1))) a_))) (ac i3 (aa 4) (xC (.int 0)))))) (bv (xC (.bl T))) iw)
abbrev TL:Xd []:=(p0 (eV (xB (ac w5 (ac i3 (aa 3) (xC (.int 0))) (xC (.int 6)))) (xB (ac Az (mm eI (ab (aa 5) a_)) (ac i3 (aa 4) (xC (.int 0)))))) (bv (xC (.bl T))) iw)
abbrev PF:Xd []:=(bc 6 (ai aM (ab (aa 2) (ab (ac i3 (aa 3) (xC (.int 0))) a_))))
abbrev TM:Xd []:=(bc 7 (ac E2 (ac g9 (ac g9 (aa 6) (xC (.int 1))) (ai aM (ab (aa 2) (ab (ac bH (ac i3 (aa 3) (xC (.int 0))) (xC (.int 1))) a_)))) (ac i3 (aa 3) (xC (.int 0)))))
abbrev TN:Xd []:=(p0 (xB (ac w5 (ac i3 (ai ju (ab (ai cQ (ab (ac i3 (aa 3) (xC (.int 0))) (ab (ac g9 (ac i3 (aa 3) (xC (.int 1))) (aJ (ab (aJ (ab (aa 6) (ab (aa 7) a_))) a_))) a_))) a_)) (xC (.int 0))) (ac bH (ac i3 (aa 4) (xC (.int 0))) (xC (.int 1))))) (bv (xC (.bl T))) iw)
abbrev Ue:Xd []:=p0 (xB (ac Cr (ac i3 (aa 3) (xC (.int 0))) (xC (.int 1)))) (aC PF (aC TM TN)) iw
def wV{lo:Int}{c i:Nat}{x:PV}(h:(bz lo c)[i]?=J x):x=.int (lo+i)/\i<c:=by
 unfold bz at h;rw[pr,vu]at h;obtain⟨k,f,rfl⟩:=h
 have:=oI.mp f
 obtain⟨a,b⟩:=this;simp at a b;subst b;exact⟨rfl,a⟩
def xf{c i:Nat}{x:PV}(h:(bz 0 c)[i]?=J x):x=.int (i:Int)/\i<c:=by have:=wV h;simpa using this
def u6{ns:UN}{k:Nat}(a:k<ns.length):mh (ns.map PV.int) (k:Int)=J (.int ns[k]):=L2.ik (by simp[a])
def tS{h:MH}:pk (.int 10) (.int 18) h=.ok (.int (10^18)) h:=uv (by decide)
def Bm{h:MH}:pk (.int 10) (.int 15) h=.ok (.int (10^15)) h:=uv (by decide)
def BD{h:MH}{ns:UN}{k:Nat}(hk:k<64):∃m c:Int,fT [.frl (ns.map .int),.int k] h=.ok (.loc h.length) (h++[.lst [.int m,.int c,.int 0]]):=by
 unfold fT;have E:∀{i:Int}{h:MH},j0 (.int 7919) (.int i) h=.ok (.int (7919*i)) h:=hU (by decide);have W:∀{i:Int}{h:MH},j0 (.int 48271) (.int i) h=.ok (.int (48271*i)) h:=hU (by decide);have P:∀{i:Int}{h:MH},j0 (.int 40009) (.int i) h=.ok (.int (40009*i)) h:=hU (by decide);have O:∀{a b c:PV}{h:MH},pe [a,b,c] h=.ok (.loc h.length) (h++[.lst [a,b,c]]):=nC (by simp)
 have fin:∀cell:Int,∃m c:Int,(aZ (BN (mB (ah CQ (wR BW (af (ae 2) h8)) (ah pk (mC (.int 10)) (mC (.int 18))))) (bP (eX (af (mC (.int 1)) (af (wR BW (af (ae 2) h8)) (af (mC (.int 0)) h8))))) kw)
   (bP (eX (af (mC (.int 0)) (af (ah j3 (ah kx (ae 2) (mC (.int 2147483587))) (ah j0 (mC (.int 40009)) (ae 1))) (af (mC (.int 0)) h8)))))) [J (.frl (ns.map .int)),J (.int k),J (.int cell)] h=.rt (.loc h.length) (h++[.lst [.int m,.int c,.int 0]]):=λcell=>by
  by_cases z:(10:Int)^18<=(if cell<0 then -cell else cell)
  .exact⟨1,(if cell<0 then -cell else cell),by simp[tS,O,z,-Int.reducePow]⟩
  .exact⟨0,cell.fmod 2147483587+40009*k,by simp[tS,O,z,P,fR,-Int.reducePow]⟩
 have u:∀cell:Int,∃m c:Int,((aZ (BN (mB (ah CQ (wR BW (af (ae 2) h8)) (ah pk (mC (.int 10)) (mC (.int 18))))) (bP (eX (af (mC (.int 1)) (af (wR BW (af (ae 2) h8)) (af (mC (.int 0)) h8))))) kw)
   (bP (eX (af (mC (.int 0)) (af (ah j3 (ah kx (ae 2) (mC (.int 2147483587))) (ah j0 (mC (.int 40009)) (ae 1))) (af (mC (.int 0)) h8)))))) [J (.frl (ns.map .int)),J (.int k),J (.int cell)] h).fin=.ok (.loc h.length) (h++[.lst [.int m,.int c,.int 0]]):=λcell=>by
  obtain⟨m,c,q⟩:=fin cell;exact⟨m,c,by rw[q];rfl⟩
 have j:∀cell:Int,(aZ (bp 2 (ah j3 (ah j0 (mC (.int 7919)) (ae 1)) (mC (.int 11))))
 (BN (mB (ah BU (ae 1) (wR BX (af (wR p9 (af (ae 0) h8)) (af (mC (.int 63)) h8))))) (bp 2 (ah aU (ae 0) (ae 1))) (BN (mB (ah BV (wR p9 (af (ae 0) h8)) (mC (.int 0)))) (bp 2 (ah j3 (ah kx (ah aU (ae 0) (ah kx (ae 1) (wR BX (af (wR p9 (af (ae 0) h8)) (af (mC (.int 63)) h8))))) (ah pk (mC (.int 10)) (mC (.int 15)))) (ah j0 (mC (.int 48271)) (ae 1)))) kw))) [J (.frl (ns.map .int)),J (.int k),Y] h=.nx [J (.frl (ns.map .int)),J (.int k),J (.int cell)] h ->
   ∃m c:Int,cc 3 2 xq [.frl (ns.map .int),.int k] h=.ok (.loc h.length) (h++[.lst [.int m,.int c,.int 0]]):=λcell q=>by
  obtain⟨m,c,R⟩:=u cell;refine⟨m,c,(e9 (by rfl)).trans ?_⟩;rw[<-R];unfold xq;simp only[dG]at q ⊢;have U:bO 3 [PV.frl (ns.map .int),PV.int k]=[J (.frl (ns.map .int)),J (.int k),Y]:=rfl;rw[U];generalize (bp 2 (ah j3 (ah j0 (mC (.int 7919)) (ae 1)) (mC (.int 11)))) [J (.frl (ns.map .int)),J (.int k),Y] h=Z at q ⊢
  cases Z with
  |nx Z1 B =>
   simp only[MM.ak,dG]at q ⊢;rw[q];rfl
  |_=>cases q
 have r:∃f:Nat,(if(63:Int)<(ns.length:Int)then(63:Int)else(ns.length:Int))=(f:Int)/\f<=ns.length/\(0<ns.length->0<f):=by
  by_cases z:(63:Int)<(ns.length:Int)
  .exact⟨63,by rw[b_ z];rfl,by ext,by ext⟩
  .exact⟨ns.length,by rw[f_ z],by ext,by ext⟩
 obtain⟨f,C,F,l⟩:=r;by_cases B:k<f
 .refine j (ns[k]'(by ext)) ?_;simp[E,C,B,u6 (show k<ns.length by ext)]
 .by_cases y:0<ns.length
  .have G:(f:Int)≠0:=by have:=l y;ext
   have H:k % f<ns.length:=oQ (Nat.mod_lt _ (l y)) F;have Q:(k:Int).fmod (f:Int)=((k % f:Nat):Int):=by rw[Op _ (by ext)];rfl
   refine j ((ns[k % f]'H).fmod (10^15)+48271*k) ?_;have X:((10:Int)^15)≠0:=by decide
   have L:=u6 H;rw[Int.natCast_emod]at L;simp[E,C,B,y,fR G,Q,L,Bm,fR X,W,-Int.reducePow]
  .have S:ns=[]:=C4.mp (by ext);refine j (7919*k+11) ?_;have z:¬((k:Int)<(f:Int)):=by ext
   simp[E,C,z,y]
def KS(Z:k_)(o:SOut):Prop:=match o with
 |.nx a _=>a.length=Z.length/\a[0]?=Z[0]?
 |.bk a _=>a.length=Z.length/\a[0]?=Z[0]?
 |.ct a _=>a.length=Z.length/\a[0]?=Z[0]?
 |_=>True
def KS.of{Z f:k_}{o:SOut}(h:f.length=Z.length/\f[0]?=Z[0]?)(k:KS f o):KS Z o:=by
 cases o with
 |nx a b=>exact⟨k.1.trans h.1,k.2.trans h.2⟩
 |bk a b=>exact⟨k.1.trans h.1,k.2.trans h.2⟩
 |ct a b=>exact⟨k.1.trans h.1,k.2.trans h.2⟩
 |_=>trivial
def K0(m:lg):Prop:=∀Z h,KS Z (m Z h)
def yN:K0 kw:=λZ h=>⟨rfl,rfl⟩
def Oe{α:Type}{m:Mx α}{k:α->lg}(a:∀v,K0 (k v)):K0 (wH m k):=λZ h=>by
 unfold wH
 cases m Z h with
 |ok v f=>exact a v Z f
 |_=>trivial
def Of{m:Mx PV}:K0 (bP m):=λZ h=>by
 unfold bP
 cases m Z h with
 |ok v a=>trivial
 |_=>trivial
def Og{i:Nat}{v:PV}{Z:k_}(h:i≠0):(Z.set i (J v)).length=Z.length/\(Z.set i (J v))[0]?=Z[0]?:=⟨by simp,nr h⟩
def Oh{i:Nat}{m:Mx PV}(h:i≠0):K0 (bp i m):=Oe λv Z a=>Og h
def Oi{a b:lg}(l:K0 a)(j:K0 b):K0 (aZ a b):=λZ h=>by
 have:=l Z h
 unfold aZ
 cases e:a Z h with
 |nx i f=>rw[e]at this;exact KS.of this (j i f)
 |bk i f=>rw[e]at this;exact this
 |ct i f=>rw[e]at this;exact this
 |_=>trivial
def Oj{c:Mx Bool}{a b:lg}(i:K0 a)(f:K0 b):K0 (BN c a b):=Oe λx=>by
 cases x
 .exact f
 .exact i
section
variable{ws:UQ}
def iJ{a b:Xd ws}(i:K0 a.m)(f:K0 b.m):K0 (aC a b).m:=Oi i f
def lc{i:Nat}{e:Xe ws}{a:ws.contains i=T}{f:e.fz=I}(h:i≠0):K0 (bc i e a f).m:=Oh h
def Ol{t:Xt ws}{a b:Xd ws}(i:K0 a.m)(f:K0 b.m):K0 (p0 t a b).m:=Oj i f
def wJ{t:Xt ws}{e:Xe ws}:K0 (p0 t (bv e) iw).m:=Oj Of yN
end
def Kq{ks:UP}{p:UN}(h:ks.length<=66):g9.p (.tup (ks.map kD)) (.tup [kD p])=J (.tup ((ks++[p]).map kD)):=by
 cases ks with
 |nil=>rfl
 |cons k ks =>
  have:(ks.map kD).length+1+[kD p].length<=100000:=by simp at h ⊢;ext
  show(if _ then _ else _)=_;rw[b_ this,F0];rfl
abbrev Bk(z0:UC)(c:Nat)(n:Nat)(ks:UP)(d:D)(z5 z6 z7:UC):aq:=[z0,J (.int (c:Int)),J .pen,J (av n ks),J (GJ n ks d),z5,z6,z7]
def PH(a:UP)(x:D):D:=match x with
 |.lst f=>(match di f with
  |some q=>.int (aK a q)
  |none=>.non)
 |_=>.non
def Kr{c:Nat}{z0:UC}{s:g_}(hc:c<2):∃E s',fb.p [z0,J (.int (c:Int)),J .pen,Y,Y,Y,Y,Y] s=.nx E s':=by
 have t2:∀{x y:D}{s:g_},(if [x,y].length<=100000 then PR.ok (D.lst [x,y]) s else .bad)=.ok (.lst [x,y]) s:=λ{x y s}=>b_ (by simp);have t3:∀{x y:D}{s:g_},(if [x,y].length<=100000 then PR.ok (D.tup [x,y]) s else .bad)=.ok (.tup [x,y]) s:=λ{x y s}=>b_ (by simp);have t1:∀{x:D}{s:g_},(if [x].length<=100000 then PR.ok (D.tup [x]) s else .bad)=.ok (.tup [x]) s:=λ{x s}=>b_ (by simp);obtain⟨M,e,hM⟩:∃M:Int,i3.p (.lst [.int 5,.int 7]) (.int (c:Int))=J (.int M)/\0<=M/\M<=7:=by
  have:c=0\/c=1:=by ext
  rcases this with rfl|rfl
  .exact⟨5,by rw[j5];rfl,by decide,by decide⟩
  .exact⟨7,by rw[j5];rfl,by decide,by decide⟩
 obtain⟨n,f,G,q1,hn,w⟩:=N3 (M:=M) (s:=s) ⟨hM.1,by ext⟩;have n7:n<=7:=by ext
 have kl:=gn w.n12 w.tie w.nd;obtain⟨d,q2⟩:=u8 (s:=G) w n7;obtain⟨Q,l,q3,Qn,Ql,Qo,Qa⟩:=Bn (n:=n) (s:=G) (by ext);have op:=kY w (c_ n).length (c_ n) rfl (cE n) λx F=>aT.mp F;rw[lR w]at op;obtain⟨p1,Z,p3⟩:=op;have fo:=yt (s:=l) w (⟨by ext,p1⟩:Ord n _);obtain⟨m,qm,mi,ml⟩:=Ob (is:=Q.map λq=>(aK f q:Int)) (by simpa using Qn);obtain⟨q0,R,em⟩:=nw.mp mi;have lo:(Wt n f (c_ n)).1<=m:=by rw[<-em];exact p3 q0 (Qo q0 R).pm
 have S:(n:Int)<6->m=(Wt n f (c_ n)).1:=λh=>by
  have:=ml _ (nw.mpr ⟨_,Qa (by ext) _ ⟨by ext,p1⟩,rfl⟩)
  rw[Z]at this;ext
 have C:i3.p (av n f) (.int 0)=J (.int (n:Int)):=rfl;have i1:i3.p (av n f) (.int 1)=J (.tup (f.map kD)):=rfl;have U:i3.p (GJ n f d) (.int 0)=J (.int (Wt n f (c_ n)).1):=rfl;have j1:i3.p (GJ n f d) (.int 1)=J (.lst ((Wt n f (c_ n)).2.map .int)):=rfl;have c5:∀H:UC,(aG 1 [3] (aI (ai cL (ab (aa 2) (ab (ac i3 (aa 3) (xC (.int 0))) a_)))) (ws':=[]) (i0 0) jj (ai bU (ab (aa 1) (ab (aa 0) a_))):Xe []).p (Bk z0 c n f d H Y Y) G=.ok (.lst ((Q.map λq=>(aK f q:Int)).map .int)) l:=λH=>by
  have P:(aI (ai cL (ab (aa 2) (ab (ac i3 (aa 3) (xC (.int 0))) a_))):Xi []).p (Bk z0 c n f d H Y Y) G=.ok (Q.map ky) l:=by simp![fJ,aE,aF,bC,aX,C,Pf,q3,fh]
  rw[lN,P,Pb,b_ (by rw[q7];ext)];have pc:dq (i0 0:Xg []).p (jj:Xt []).p (ai bU (ab (aa 1) (ab (aa 0) a_)):Xe []).p (Q.map ky) (q_ 1 [3] (Bk z0 c n f d H Y Y)) l=.ok (((Q.map ky).filter λ_=>I).map (PH f)) l:=by
   unfold q_
   refine jP (nv:=1) (λ_=>I) (PH f) _ _ (by simp) λx F vs hv=>match vs,hv with
    |[_],_=>⟨[J x],rfl,rfl,rfl,λ_=>?_⟩
   obtain⟨q,hq,rfl⟩:=nw.mp F;show(ai bU (ab (aa 1) (ab (aa 0) a_)):Xe []).p [J (ky q),J (av n f)] l=_;simp![aE,yt w (Qo q hq),PH,ku]
  rw[pc,fc,Bp,Bp];refine congrArg (λz=>PR.ok (D.lst z) l) (FU λq _=>?_);simp[PH,ku]
 have pre:fb.p [z0,J (.int (c:Int)),J .pen,Y,Y,Y,Y,Y] s=(aC TJ (aC TL Ue):Xd []).p (Bk z0 c n f d (J (.lst ((Q.map λq=>(aK f q:Int)).map .int))) Y Y) l:=by unfold fb;rw[az,bw];simp![aE,aF,c7,bC,aX,t2,e,Pf,q1,Pg,vv,t_,PU.ak];rw[az,bw];simp![aE,q2,Pg,vv,t_,PU.ak];rw[az,bw];refine(congrArg (λz:PR D=>(z.go _ _).then _) (c5 Y)).trans ?_;rfl
 have A:TJ.p (Bk z0 c n f d (J (.lst ((Q.map λq=>(aK f q:Int)).map .int))) Y Y) l=.nx (Bk z0 c n f d (J (.lst ((Q.map λq=>(aK f q:Int)).map .int))) Y Y) l:=by
  have u:(E0 (xB (ac w5 (mm eI (ab (aa 5) a_)) (ac i3 (aa 4) (xC (.int 0))))) (xB (ac Az (ai bU (ab (aa 3) (ab (ac i3 (aa 4) (xC (.int 1))) a_))) (ac i3 (aa 4) (xC (.int 0))))):Xt []).p (Bk z0 c n f d (J (.lst ((Q.map λq=>(aK f q:Int)).map .int))) Y Y) l=.ok T l:=by simp![Gs,eT,aF,cT,aE,qm,Pf,bC,aX,U,j1,nI,Pl,fo,Z,nZ,jy];simp;ext
  rw[dn,u];rfl
 have B:TL.p (Bk z0 c n f d (J (.lst ((Q.map λq=>(aK f q:Int)).map .int))) Y Y) l=.nx (Bk z0 c n f d (J (.lst ((Q.map λq=>(aK f q:Int)).map .int))) Y Y) l:=by
  have u:(eV (xB (ac w5 (ac i3 (aa 3) (xC (.int 0))) (xC (.int 6)))) (xB (ac Az (mm eI (ab (aa 5) a_)) (ac i3 (aa 4) (xC (.int 0))))):Xt []).p (Bk z0 c n f d (J (.lst ((Q.map λq=>(aK f q:Int)).map .int))) Y Y) l=.ok T l:=by
   simp![yP,eT,aF,cT,qm,Pf,bC,aX,C,U,nI,Pl,nZ,jy];by_cases z:(n:Int)<6
   .simp[z,S z]
   .simp[z]
  rw[dn,u];rfl
 rw[pre,az,A,PU.ak,az,B,PU.ak];have tc:(xB (ac Cr (ac i3 (aa 3) (xC (.int 0))) (xC (.int 1))):Xt []).p (Bk z0 c n f d (J (.lst ((Q.map λq=>(aK f q:Int)).map .int))) Y Y) l=.ok (decide ((1:Int)<(n:Int))) l:=by dsimp![eT,aF,bC,aX,C,Pf,Jy,Pl]
 rw[dn,tc,Pg];by_cases z:(1:Int)<(n:Int)
 .rw[b_ (by simpa using z)];obtain⟨a,L,a0,X,qa⟩:=dw (s:=l) (size:=(n:Int)) (by ext) (by ext);obtain⟨b,r,b0,b1,qb⟩:=dw (s:=L) (size:=(n:Int)-1) (by ext) (by ext);have fm:∃v:Int,(a+1+b).fmod (n:Int)=v/\0<=v/\v<n/\v≠a:=by
   rw[Op _ (by ext)];refine⟨_,rfl,Qc _ (by ext),P1 _ (by ext),?_⟩;by_cases y:a+1+b<n
   .rw[Int.emod_eq_of_lt (by ext) y];ext
   .rw[show a+1+b=(a+1+b-n)+n by ext,Int.add_emod_right,Int.emod_eq_of_lt (by ext) (by ext)];ext
  obtain⟨v,ev,v0,v1,va⟩:=fm;have hp:∃x y:Int,n8 [a,v]=[x,y]/\0<=x/\x<y/\y<(n:Int):=by
   rcases Ll va with y|y
   .exact⟨v,a,(rV y).2,v0,y,X⟩
   .exact⟨a,v,(rV y).1,a0,y,v1⟩
  have u:∀k∈f++[[a,v]],IsT n k:=λk hk=>(lT.mp hk).elim (tQ w.tie k) λh=>by
   rw[B3.mp h];exact⟨a,v,rfl,a0,X,v0,v1,Ne.symm va⟩
  have mk:=zL (d:=.tup ((f++[[a,v]]).map kD)) (s:=r) (n:=n) rfl (by ext) u (by simp;ext);have em:cf (SetT.l7 ((f++[[a,v]]).map n8))=fE f (n8 [a,v]):=by rw[F0,kU w.tie];rfl
  rw[em]at mk;have O:=pA w hp;obtain⟨d',q4⟩:=u8 (s:=r) O n7;have oa:=kY O (c_ n).length (c_ n) rfl (cE n) λx F=>aT.mp F;rw[lR O]at oa;obtain⟨o1,o2,_⟩:=oa;have lt:(Wt n f (c_ n)).1-1<=(Wt n (fE f (n8 [a,v])) (c_ n)).1:=by have h1:=p3 _ o1;have h2:=tf w hp (Wt n (fE f (n8 [a,v])) (c_ n)).2;ext
  have j2:i3.p (GJ n (fE f (n8 [a,v])) d') (.int 0)=J (.int (Wt n (fE f (n8 [a,v])) (c_ n)).1):=rfl;have W:∀i j:Int,g9.p (.int i) (.int j)=J (.int (i+j)):=λ_ _=>rfl;have om:E2.p (.int (a+1+b)) (.int (n:Int))=J (.int v):=by rw[E9 (by ext),ev]
  have e6:PF.p (Bk z0 c n f d (J (.lst ((Q.map λq=>(aK f q:Int)).map .int))) Y Y) l=.nx (Bk z0 c n f d (J (.lst ((Q.map λq=>(aK f q:Int)).map .int))) (J (.int a)) Y) L:=by rw[bw];simp![aE,aF,bC,aX,C,Pf,qa,Pg,vv,t_]
  have e7:TM.p (Bk z0 c n f d (J (.lst ((Q.map λq=>(aK f q:Int)).map .int))) (J (.int a)) Y) L=.nx (Bk z0 c n f d (J (.lst ((Q.map λq=>(aK f q:Int)).map .int))) (J (.int a)) (J (.int v))) r:=by rw[bw];simp![aE,aF,bC,aX,C,Pf,W,fV,qb,om,Pg,vv,t_]
  have e8:TN.p (Bk z0 c n f d (J (.lst ((Q.map λq=>(aK f q:Int)).map .int))) (J (.int a)) (J (.int v))) r=.nx (Bk z0 c n f d (J (.lst ((Q.map λq=>(aK f q:Int)).map .int))) (J (.int a)) (J (.int v))) r:=by
   have ad:=Kq (ks:=f) (p:=[a,v]) kl;have ep:(aJ (ab (aJ (ab (aa 6) (ab (aa 7) a_))) a_):Xe []).p (Bk z0 c n f d (J (.lst ((Q.map λq=>(aK f q:Int)).map .int))) (J (.int a)) (J (.int v))) r=.ok (.tup [kD [a,v]]) r:=by simp![cG];rfl
   have u:(xB (ac w5 (ac i3 (ai ju (ab (ai cQ (ab (ac i3 (aa 3) (xC (.int 0))) (ab (ac g9 (ac i3 (aa 3) (xC (.int 1))) (aJ (ab (aJ (ab (aa 6) (ab (aa 7) a_))) a_))) a_))) a_)) (xC (.int 0))) (ac bH (ac i3 (aa 4) (xC (.int 0))) (xC (.int 1)))):Xt []).p (Bk z0 c n f d (J (.lst ((Q.map λq=>(aK f q:Int)).map .int))) (J (.int a)) (J (.int v))) r=.ok T r:=by
    rw[eT,aF,aF,aE,ag,aE,ag,aF];dsimp![bC,aX,C,Pf];have P:(ac i3 (aa 3) (xC (.int 1)):Xe []).p (Bk z0 c n f d (J (.lst ((Q.map λq=>(aK f q:Int)).map .int))) (J (.int a)) (J (.int v))) r=.ok (.tup (f.map kD)) r:=by dsimp![aF,bC,aX,i1,Pf]
    rw[ag,aF,P,Pb,ep,Pb,ad];dsimp![bC,aX,Pf,ar,mk,q4,j2,aF,U,fV,nI,Pl];rw[decide_eq_false (by ext)]
   rw[dn,u];rfl
  exact⟨_,_,by rw[az,e6,PU.ak,az,e7,PU.ak,e8]⟩
 .rw[f_ (by simpa using z)];exact⟨_,_,rfl⟩
def AZ:CZ=aZ (mK (lv (af (mC (.int 2)) h8)) (Cm 1) (aZ (bp 2 (bA fT (af (ae 0) (af (ae 1) h8)))) fb.m)) (bP (mC (.bl I))):=rfl
def Ks:K0 fb.m:=iJ (lc (by decide)) (iJ (lc (by decide)) (iJ (lc (by decide)) (iJ wJ (iJ wJ (Ol (iJ (lc (by decide)) (iJ (lc (by decide)) wJ)) yN)))))
def Kt{h:MH}{a b:Int}{c:Nat}{z0:Option PV}{r:List (Option PV)}(P:c<2)(L:r.length=5):∃f y,fb.m (z0::J (.int (c:Int))::J (.loc h.length)::r) (h++[.lst [.int a,.int b,.int 0]])=.nx f y/\f.length=8/\f[0]?=J z0:=by
 match r,L with
 |[E,C,B,z,G],_ =>
  have l:bF (h++[.lst [.int a,.int b,.int 0]]) h.length (a,b,0):=Mz;have one:∀o∈[h.length],o<(h++[MO.lst [.int a,.int b,.int 0]]).length:=λo O=>by rw[B3.mp O];simp
  obtain⟨F,Q,q⟩:=Kr (z0:=Y) (s:=(a,b,0)) P;have H:PU.Cx h.length (h++[.lst [.int a,.int b,.int 0]]) (h++[MO.lst [.int a,.int b,.int 0]]).length [h.length] [h.length] [] [z0,J (.int (c:Int)),J (.loc h.length),E,C,B,z,G] [Y,J (.int (c:Int)),J .pen,Y,Y,Y,Y,Y] (a,b,0):=by
   refine⟨one,λ_ h=>h,one,by simp,il _,l,rfl,λi d e _=>?_,λi d e u=>by cases u⟩
   match i,e with
   |0,e=>cases e
   |1,e=>cases e;exact⟨_,rfl,rfl⟩
   |2,e=>cases e;exact⟨_,rfl,rfl⟩
   |i+3,e =>
    have:(List.replicate 5 (Y:UC))[i]?=J (J d):=e
    rw[GN]at this
    split at this<;>cases this
  have k:=fb.ok H λi j u _ _ _ _ _ _ _ _=>by cases u
  rw[q]at k;obtain⟨f,y,e,_⟩:=k;have K:=Ks [z0,J (.int (c:Int)),J (.loc h.length),E,C,B,z,G] (h++[.lst [.int a,.int b,.int 0]]);rw[e]at K;exact⟨f,y,e,K.1,K.2⟩
def Om{Z:k_}{x:Option PV}(h:Z.length=8)(j:Z[0]?=J x):∃i l r,Z=x::i::l::r/\r.length=5:=by
 match Z,h with
 |b0::a::f::r,h =>
  cases j;exact⟨a,f,r,rfl,by simpa using h⟩
def C0(ns:UN)(U:ns.length<=63):∃f,Ct [.frl (ns.map .int)] []=.ok (.bl I) f:=by
 unfold Ct;rw[e9 (by rfl),AZ];have H:bO 8 [PV.frl (ns.map .int)]=[J (.frl (ns.map .int)),Y,Y,Y,Y,Y,Y,Y]:=rfl;rw[H];obtain⟨W,f,e,O,i⟩:=vZ (it:=⟨bz 0 2,[]⟩) (g:=Cm 1) (b:=aZ (bp 2 (bA fT (af (ae 0) (af (ae 1) h8)))) fb.m)
  (λj Z h=>Z.length=8/\Z[0]?=J (J (.frl (ns.map .int)))) (bz 0 2) 0 [J (.frl (ns.map .int)),Y,Y,Y,Y,Y,Y,Y] [] ⟨rfl,rfl⟩ (λ_ _ _ _=>Eg.mpr trivial) (λm Z h x ⟨R,B⟩ P=>by
   obtain⟨S,l,r,rfl,F⟩:=Om R B;obtain⟨rfl,C⟩:=xf P;obtain⟨a,b,L⟩:=BD (h:=h) (ns:=ns) (k:=m) (by ext);obtain⟨u,E,e2,G,Q⟩:=Kt (h:=h) (a:=a) (b:=b) (c:=m) (z0:=J (.frl (ns.map .int))) (r:=r) C F;refine⟨_,_,u,E,rfl,?_,G,Q⟩;rw[dG];have e1:bp 2 (bA fT (af (ae 0) (af (ae 1) h8))) (J (.frl (ns.map .int))::J (.int (m:Int))::l::r) h=.nx (J (.frl (ns.map .int))::J (.int (m:Int))::J (.loc h.length)::r) (h++[.lst [.int a,.int b,.int 0]]):=by simp -implicitDefEqProofs [L]
   refine(congrArg (λz:SOut=>z.then _) e1).trans ?_;rw[MM.ak]
   exact e2)
 refine⟨f,?_⟩;have y:lv (af (mC (.int 2)) h8) [J (.frl (ns.map .int)),Y,Y,Y,Y,Y,Y,Y] []=.ok ⟨bz 0 2,[]⟩ []:=by simp -implicitDefEqProofs
 rw[dG,Ee,y,aA,e,MM.ak];rfl
end Law
namespace Law
open PySem.Spec PyProof.Rows L2 MM
set_option maxHeartbeats 4000000
def vi(i:Nat):Stmt:=PySem.Challenge.pw_fewfills_k22_least_of_all_orders.main.body.getD i (.Pass ⟨0,0,0,0⟩)
local macro_rules | `(tactic| contradiction)=>do let q <-[`w_var,`Nq,`RI,`Nr,`Nt,`NB,`JM,`RJ,`JN,`RX,`NY,`RY,`NL,`NH,`Nu,`Nv,`Nw,`JK,`Fg,`Nx,`JL,`Ny,`Nz,`NA,`RK,`RL,`RM,`JW,`NQ,`NR,`RZ,`w_glI,`JT,`w_tchain,`JU,`R1,`JV,`w_and,`NN,`w_or,`NO,`NP,`R5,`R3,`R4,`R6,`R7,`NT,`NS,`R8,`gR,`gF,`NX,`NU,`JY,`R9,`NW,`R_,`w_set,`J0,`J3,`R0,`NM,`AV,`Ao,`Bg,`JS,`JZ,`w_pass,`w_bads,`NV,`NC,`ND,`j_Mod,`RN,`RQ,`RT,`RU,`RV,`j_AddT,`NE,`NZ,`RW,`NF,`NI,`NJ,`JP,`JQ,`NG,`JO,`Fh,`J4,`NK,`JR].foldrM (λn t=>`(tactic| first | apply $(Lean.mkIdent n) | $t:tactic)) (<-`(tactic| fail));`(tactic| (first | assumption | (apply JX;assumption;(intro env h;cases env;cases h;first | rfl | with_unfolding_all rfl)) | (apply J1;assumption;(intro env h;cases env;cases h;first | rfl | with_unfolding_all rfl)) | with_reducible $q:tactic | exact rfl | decide +kernel | refine λY c=>⟨?_,?_,?_⟩ | (intro _;rfl) | exact λ_ _=>rfl | exact CP _ | omega | exact⟨⟨rfl,rfl⟩,rfl,rfl,rfl⟩ | with_unfolding_all rfl) <;> contradiction)
abbrev gX:Stmt:=vi 5
abbrev g8:Stmt:=vi 7
abbrev eM:Stmt:=vi 8
abbrev dZ:Stmt:=vi 9
abbrev eL:Stmt:=vi 10
abbrev fG:Stmt:=vi 11
abbrev eO:Stmt:=vi 13
abbrev eJ:Stmt:=vi 14
abbrev fZ:Stmt:=vi 15
abbrev fF:Stmt:=vi 16
abbrev lE:Stmt:=vi 18
abbrev eN:Stmt:=vi 19
abbrev d6:Stmt:=vi 20
abbrev gk:Stmt:=vi 21
abbrev f8:Stmt:=vi 23
abbrev ck:Stmt:=vi 26
abbrev iI:UM:=["web","left","v","known","others","behind"]
abbrev io:UM:=["tuple","best_of","struck_out","len","new_pairs"]
abbrev iz:UM:=["web","left","v","known"]
abbrev qo:UM:=["web","left","known"]
def nk(Ap:Sc X ck)(g:Gd X iI io k)(r:i4 X)(a:Cal X "best_of" qo F k)(j:Cal X "new_pairs" ["web","left","v"] bN.m k)(f:Cal X "struck_out" ["web","left","v"] cw.m k)(l:Nn X "len")(n12:Nn X "tuple"):Bq X (aD ck) (bW F) :=
 (lB.h (w4 (Cq g 4 (oF (T_ g 0 tj n12 uy (aw (Tu g Ap ["place"] ["v"] [] [2] (n4 (kV g 1)) λi y g=>⟨(Px g 0),(vB (CA (se g.room) (kV g 0) (kV g 1))),(kV g 0)⟩) aS))))
 (w4 (Cq g 5 (oF (B8 g 1 a (aw (B8 g 2 f (aw (kV g 0) (aw (kV g 1) (aw (kV g 2) aS)))) (aw (kV g 4) (aw (kV g 3) aS))))))
 (Bt (Cy (KY (bI (oF (aH c6 (Dd g 3 kW l jo (aw (B8 g 4 j (aw (kV g 0) (aw (kV g 1) (aw (kV g 2) aS)))) aS)) (rb (kV g 5) ao))) (bI (T9 c6 (M6 (bI (oF (kV g 2)) eB)) (oF (rb (kV g 5) ao))) eB))))))))
abbrev gz:Stmt:=vi 27
abbrev kG:UM:=["web","left","known"]
abbrev kM:UM:=["min"]
def zW(Ap:Sc X gz)(g:Gd X kG kM k)(l:i4 X)(a:Cal X "best_beginning" iz F k)(f:Nn X "min"):Bq X (aD gz) (ff F) :=
 (lB.h (w4 (B6 (fi (CA (yw g.room I) (kV g 1) (kV g 2)) (lB.h (Bt (B6 (nX (EX g (j:=0) rfl f (Tu g Ap ["v"] ["web","left","known"] ["best_beginning"] [0,1,2] (n4 (kV g 1)) λi y g=>⟨(Px g 0),oH,(B8 g 0 (y.c a) (aw (kV g 1) (aw (kV g 2) (aw (kV g 0) (aw (kV g 3) aS)))))⟩) (j_.h (KY (bI (oF ao) (bI (oF (yi aS)) eB))))) (vx g.room (kV g 2) (kV g 1)))))) dH))
 (Bt (Cy (oF (Jj g.room (kV g 2) (kV g 1)))))))
abbrev iV:Stmt:=vi 28
abbrev lK:Stmt:=vi 29
abbrev vD:UM:=["web","best"]
abbrev wo:UM:=["MOST_PLACES_HERE","TooMany","best_of","tuple","range","paper_against"]
abbrev FJ:UM:=["web"]
def FK(Ap:Sc X lK)(g:Gd X vD wo k)(u:i4 X)(l:Cal X "paper_against" ["web","k"] cK.m k)(f:Cal X "best_of" ["web","left","known"] kJ k)(n12:Nn X "tuple")(r:Nn X "range")(a:∃t,X.mg "MOST_PLACES_HERE"=J (.int 7 t)):Bq X (aD lK) Bz :=
 (lB.h (w4 (B6 (fi (CA sd (rb (kV g 0) ao) (Iu g (j:=0) rfl a)) (lB.h (Bt (B6 zi))) dH))
 (w4 (Cq g 1 (oF (B8 g 2 f (aw (kV g 0) (aw (zw g (i:=3) (j:=4) rfl n12 rfl r (aw (rb (kV g 0) ao) aS)) (aw v9 aS))))))
 (Bt (Cy (KY (bI (oF (rb (kV g 1) ao)) (bI (oF (rb (kV g 1) ao)) (bI (oF (B8 g 5 l (aw (kV g 0) (aw (aH nN (rb (kV g 1) ao) ao) aS)))) eB)))))))))
abbrev lG:Stmt:=vi 31
abbrev vG:UM:=["_law_script","_law_k","_law_cell"]
abbrev vR:UM:=["min","len","abs"]
abbrev FL:UM:=["_law_script","_law_k"]
def FM(Ap:Sc X lG)(g:Gd X vG vR k)(i:i4 X)(n0:Nn X "abs")(a:Nn X "len")(f:Nn X "min"):Bq X (aD lG) xq :=
 (lB.h (w4 (Cq g 2 (oF (aH c6 (aH iK ao (kV g 1)) ao)))
 (w4 (B6 (fi (CA nT (kV g 1) (Dd g 0 (sY g) f jt (aw (Dd g 1 kW a jo (aw (kV g 0) aS)) (aw ao aS)))) (lB.h (Bt (Cq g 2 (oF (rb (kV g 0) (kV g 1)))))) (lB.h (Bt (B6 (fi (CA sd (Dd g 1 kW a jo (aw (kV g 0) aS)) ao) (lB.h (Bt (Cq g 2 (oF (aH c6 (aH dN (rb (kV g 0) (aH dN (kV g 1) (Dd g 0 (sY g) f jt (aw (Dd g 1 kW a jo (aw (kV g 0) aS)) (aw ao aS))))) (aH zG ao ao)) (aH iK ao (kV g 1))))))) dH))))))
 (w4 (B6 (fi (CA Mi (Dd g 2 zt n0 zJ (aw (kV g 2) aS)) (aH zG ao ao)) (lB.h (Bt (Cy (M6 (bI (oF ao) (bI (oF (Dd g 2 zt n0 zJ (aw (kV g 2) aS))) (bI (oF ao) eB))))))) dH))
 (Bt (Cy (M6 (bI (oF ao) (bI (oF (aH c6 (aH dN (kV g 2) ao) (aH iK ao (kV g 1)))) (bI (oF ao) eB))))))))))
abbrev j6:Stmt:=vi 32
abbrev sA:UM:=["_law_pen_here","_law_size","_law_number","_law_drawn"]
abbrev ur:UM:=[]
abbrev Ac:UM:=["_law_pen_here","_law_size"]
def AI(Ap:Sc X j6)(g:Gd X sA ur k)(a:i4 X):Bq X (aD j6) tt :=
 (lB.h (w4 (B6 (nX (aH c6 (rb (kV g 0) ao) ao) (yq (kV g 0) ao)))
 (w4 (B6 (fi (CA (F8 g.room) (rb (kV g 0) ao) ao) (lB.h (w4 (Cq g 3 (oF (aH dN (rb (kV g 0) ao) (kV g 1))))
 (w4 (B6 (nX (aH F9 (rb (kV g 0) ao) (kV g 1)) (yq (kV g 0) ao)))
 (Bt (Cy (oF (kV g 3))))))) dH))
 (w4 (Cq g 2 (oF (aH dN (aH iK (aH c6 (aH c6 (rb (kV g 0) ao) (aH iK ao (rb (kV g 0) ao))) ao) ao) ao)))
 (w4 (Cq g 2 (oF (aH dN (aH iK (kV g 2) (aH c6 (aH c6 (aH dN (kV g 2) ao) (rb (kV g 0) ao)) ao)) ao)))
 (Bt (Cy (oF (aH dN (aH F9 (aH dN (aH iK (kV g 2) (aH c6 (aH dN (kV g 2) ao) ao)) ao) ao) (kV g 1))))))))))
abbrev iU:Stmt:=vi 33
abbrev j8:Stmt:=vi 34
abbrev iW:Stmt:=vi 35
abbrev lC:Stmt:=vi 36
abbrev jJ:Stmt:=vi 37
abbrev g6:Stmt:=vi 38
abbrev oj:Stmt:=vi 39
abbrev GK:UM:=["_law_script","_law_turn","_law_pen_here","_law_web_here","_law_found","_law_fills","_law_a","_law_b"]
abbrev GL:UM:=["range","_law_pen","_law_web","least","_law_orders","min","_law_fill","_law_draw","_law_made"]
abbrev C1:UM:=["_law_script"]
def Oo(Ap:Sc X oj)(g:Gd X GK GL k)(E:i4 X)(u:Cal X "_law_made" ["_law_n","_law_pairs"] cQ.m k)(i:Cal X "least" ["web"] jq k)(f:Cal X "_law_draw" ["_law_pen_here","_law_size"] dj k)(a:Cal X "_law_fill" ["_law_web_here","_law_order_here"] bU.m k)(j:Cal X "_law_orders" ["_law_pen_here","_law_n"] cL.m k)(r:Cal X "_law_web" ["_law_pen_here","_law_most"] im.m k)(l:Cal X "_law_pen" ["_law_script","_law_k"] fT k)(B:Nn X "range")(z:Nn X "min"):Bq X (aD oj) CZ :=
 (lB.h (w4 (B6 (zr g (Ua g 0 B (aw ao aS)) (Px g 1) (lB.h (w4 (Cq g 2 (oF (B8 g 1 l (aw (kV g 0) (aw (kV g 1) aS)))))
 (w4 (Cq g 3 (oF (B8 g 2 r (aw (kV g 2) (aw (rb (j_.h (M6 (bI (oF ao) (bI (oF ao) eB)))) (kV g 1)) aS)))))
 (w4 (Cq g 4 (oF (B8 g 3 i (aw (kV g 3) aS))))
 (w4 (B6 (Ub g Ap 5 ["_law_order_here"] ["_law_web_here"] ["_law_fill"] [3] (n4 (B8 g 4 j (aw (kV g 2) (aw (rb (kV g 3) ao) aS)))) λC y g=>⟨(Px g 0),oH,(B8 g 0 (y.c a) (aw (kV g 1) (aw (kV g 0) aS)))⟩))
 (w4 (B6 (fi (MW.mt (F6 (CA nT (Dd g 5 (pI g) z jt (aw (kV g 5) aS)) (rb (kV g 4) ao)) (yn (CA (se g.room) (B8 g 6 a (aw (kV g 3) (aw (rb (kV g 4) ao) aS))) (rb (kV g 4) ao))))) (lB.h (Bt (Cy (oF oB)))) dH))
 (w4 (B6 (fi (MW.mt (zS (CA nT (rb (kV g 3) ao) ao) (vm (CA (se g.room) (Dd g 5 (pI g) z jt (aw (kV g 5) aS)) (rb (kV g 4) ao))))) (lB.h (Bt (Cy (oF oB)))) dH))
 (Bt (B6 (fi (CA sd (rb (kV g 3) ao) ao) (lB.h (w4 (Cq g 6 (oF (B8 g 7 f (aw (kV g 2) (aw (rb (kV g 3) ao) aS)))))
 (w4 (Cq g 7 (oF (aH dN (aH pJ (aH pJ (kV g 6) ao) (B8 g 7 f (aw (kV g 2) (aw (aH nN (rb (kV g 3) ao) ao) aS)))) (rb (kV g 3) ao))))
 (Bt (B6 (fi (CA nT (rb (B8 g 3 i (aw (B8 g 8 u (aw (rb (kV g 3) ao) (aw (aH pJ (rb (kV g 3) ao) (j_.h (KY (bI (KY (bI (oF (kV g 6)) (bI (oF (kV g 7)) eB))) eB)))) aS))) aS)) ao) (aH nN (rb (kV g 4) ao) ao)) (lB.h (Bt (Cy (oF oB)))) dH)))))) dH))))))))))))
 (Bt (Cy (oF oB)))))
def Ku:hJ "law" oj C1:=λ_ _ _ _ _ _=>Pw λ_=>rfl
def n6{K:ib}{k:Nat}(b:Ba P w K mg base)(D:e_ K "best_beginning" ck)(E:e_ K "best_of" gz)(j:FnAt P w K mg base "new_pairs" ["web","left","v"] bN.m k)(f:FnAt P w K mg base "struck_out" ["web","left","v"] cw.m k)(l:Zn K "len")(i:Zn K "min")(a:Zn K "tuple"):∀n:Nat,FnAt P w K mg base "best_of" qo (eY n) (k+2*n+1)
 |0=>JE (N:=kG) (G:=kM) (m:=λ_ _=>.bad) b E λX e h g d=>wG
 |n+1=>JE (N:=kG) (G:=kM) (k:=k+2*n+2) (m:=ff (cc 6 4 (bW (eY n)))) b E λX e h g d=>zW h g d ((JE (N:=iI) (G:=io) (ps:=iz) (k:=k+2*n+1) (m:=bW (eY n)) b D λX e h g d=>nk h g d ((n6 b D E j f l i a n).c e (il _)) ((j.mono (by omega:k<=k+2*n+1)).c e (il _)) ((f.mono (by omega:k<=k+2*n+1)).c e (il _)) (e.n l) (e.n a)).c e (il _)) (e.n i)
abbrev jU:UM:=["thing"]
def xA{K:ib}(c:Wc X P w K mg base jU jU 0 (aj gX))(d:i4 X)(i:Zn K "isinstance")(a:Zn K "bool")(f:Zn K "int"):lB X (aD gX) fw.m:=by unfold fw;apply gR<;>contradiction
abbrev jS:UM:=["n","thing"]
def xL{K:ib}(c:Wc X P w K mg base jS jS 1 (aj g8))(d:i4 X)(a:FnAt P w K mg base "is_whole" Ps0 fA.m 1):lB X (aD g8) fj.m:=by unfold fj;apply gR<;>contradiction
abbrev gE:UM:=["n","thing"]
def rO{K:ib}(c:Wc X P w K mg base gE gE 2 (aj eM))(d:i4 X)(a:FnAt P w K mg base "is_place" Ps1 fB.m 2):lB X (aD eM) dA.m:=by unfold dA;apply gR<;>contradiction
abbrev fY:UM:=["n","things","thing"]
def o5{K:ib}(c:Wc X P w K mg base fY fY 3 (aj dZ))(d:i4 X)(a:FnAt P w K mg base "check_place" Ps2 bh.m 3):lB X (aD dZ) de.m:=by unfold de;apply gR<;>contradiction
abbrev gQ:UM:=["pairs"]
def rA{K:ib}(c:Wc X P w K mg base gQ gQ 0 (aj eL))(d:i4 X)(a:Zn K "sorted")(f:Zn K "set")(j:Zn K "max")(l:Zn K "min")(i:Zn K "tuple"):lB X (aD eL) dC.m:=by unfold dC;apply gR<;>contradiction
abbrev iN:UM:=["web","v","below","above"]
def sI{K:ib}(c:Wc X P w K mg base iN iN 3 (aj fG))(d:i4 X)(a:FnAt P w K mg base "check_place" Ps2 bh.m 3):lB X (aD fG) dQ.m:=by unfold dQ;apply gF<;>contradiction
abbrev gL:UM:=["places","pairs","k","a"]
def rq{K:ib}(c:Wc X P w K mg base gL gL 0 (aj eO))(d:i4 X)(a:Zn K "enumerate"):lB X (aD eO) dD.m:=by unfold dD;apply gF<;>contradiction
abbrev gG:UM:=["web","left","v"]
def rj{K:ib}(c:Wc X P w K mg base gG gG 4 (aj eJ))(d:i4 X)(a:FnAt P w K mg base "neighbours" Ps5 br.m 4)(f:FnAt P w K mg base "pairs_among" Ps6 bT.m 1):lB X (aD eJ) du.m:=by unfold du;apply gR<;>contradiction
abbrev i9:UM:=["web","left","v"]
def uT{K:ib}(c:Wc X P w K mg base i9 i9 5 (aj fZ))(d:i4 X)(a:FnAt P w K mg base "pairs_round" Ps7 bS.m 5):lB X (aD fZ) d9.m:=by unfold d9;apply gR<;>contradiction
abbrev iD:UM:=["web","left","v","others"]
def t4{K:ib}(c:Wc X P w K mg base iD iD 5 (aj fF))(d:i4 X)(j:FnAt P w K mg base "pairs_round" Ps7 bS.m 5)(a:FnAt P w K mg base "rising_once" Ps4 bg.m 1)(f:FnAt P w K mg base "check_places" Ps3 cj.m 4)(i:FnAt P w K mg base "check_place" Ps2 bh.m 3):lB X (aD fF) dO.m:=by unfold dO;apply gF<;>contradiction
abbrev pK:UM:=["ring"]
def FN{K:ib}(c:Wc X P w K mg base pK pK 1 (aj lE))(d:i4 X)(f:Zn K "enumerate")(a:FnAt P w K mg base "rising_once" Ps4 bg.m 1):lB X (aD lE) jm.m:=by unfold jm;apply gR<;>contradiction
abbrev gN:UM:=["ring","beside"]
def rL{K:ib}(c:Wc X P w K mg base gN gN 2 (aj eN))(d:i4 X)(i:FnAt P w K mg base "pairs_among" Ps6 bT.m 1)(f:FnAt P w K mg base "rising_once" Ps4 bg.m 1)(a:FnAt P w K mg base "sides" Ps10 jg.m 2):lB X (aD eN) dB.m:=by unfold dB;apply gF<;>contradiction
abbrev fK:UM:=["web","places","a","b","ways","seen","way","place"]
def pQ{K:ib}(c:Wc X P w K mg base fK fK 4 (aj d6))(d:i4 X)(a:FnAt P w K mg base "neighbours" Ps5 br.m 4):lB X (aD d6) cX.m:=by unfold cX;apply gF<;>contradiction
abbrev jb:UM:=["web","places","v","near","far","a","b","way"]
def uP{K:ib}(c:Wc X P w K mg base jb jb 6 (aj gk))(d:i4 X)(f:Zn K "list")(j:Zn K "range")(l:FnAt P w K mg base "new_pairs" Ps8 bN.m 6)(a:FnAt P w K mg base "shortest_way" Ps12 bu.m 5)(i:FnAt P w K mg base "neighbours" Ps5 br.m 4):lB X (aD gk) eD.m:=by unfold eD;apply gF<;>contradiction
abbrev jc:UM:=["web","pair"]
def uQ{K:ib}(c:Wc X P w K mg base jc jc 1 (aj f8))(d:i4 X)(f:Zn K "list")(a:FnAt P w K mg base "rising_once" Ps4 bg.m 1):lB X (aD f8) eE.m:=by unfold eE;apply gR<;>contradiction
abbrev kA:UM:=["_law_pen_here","_law_n","_law_found","_law_k"]
def yG{K:ib}(c:Wc X P w K mg base kA kA 1 (aj iU))(d:i4 X)(f:Zn K "range")(a:FnAt P w K mg base "_law_draw" Ps20 dj 1):lB X (aD iU) gv.m:=by unfold gv;apply gF<;>contradiction
abbrev mE:UM:=["_law_n","_law_pairs"]
def Af{K:ib}(c:Wc X P w K mg base mE mE 0 (aj j8))(d:i4 X)(a:Zn K "sorted")(f:Zn K "set")(j:Zn K "max")(l:Zn K "min")(i:Zn K "tuple"):lB X (aD j8) iq.m:=by unfold iq;apply gR<;>contradiction
abbrev kQ:UM:=["_law_ring"]
def zR{K:ib}(c:Wc X P w K mg base kQ kQ 0 (aj iW))(d:i4 X)(a:Zn K "range")(f:Zn K "len"):lB X (aD iW) gr.m:=by unfold gr;apply gR<;>contradiction
abbrev oM:UM:=["_law_pen_here","_law_most","_law_n","_law_order_here","_law_way","_law_cut","_law_pairs","_law_a","_law_at","_law_size","_law_some"]
def FO{K:ib}(c:Wc X P w K mg base oM oM 2 (aj lC))(d:i4 X)(r:Zn K "range")(l:Zn K "list")(f:FnAt P w K mg base "_law_made" Ps22 cQ.m 1)(i:FnAt P w K mg base "_law_draw" Ps20 dj 1)(a:FnAt P w K mg base "_law_round" Ps23 eZ.m 1)(j:FnAt P w K mg base "_law_order" Ps21 dh.m 2):lB X (aD lC) jv.m:=by unfold jv;apply gF<;>contradiction
abbrev nh:UM:=["_law_web_here","_law_order_here","_law_ties","_law_pair","_law_left","_law_v","_law_near","_law_a","_law_b"]
def Bx{K:ib}(c:Wc X P w K mg base nh nh 0 (aj jJ))(d:i4 X)(j:Zn K "len")(f:Zn K "max")(i:Zn K "min")(a:Zn K "list"):lB X (aD jJ) iF.m:=by unfold iF;apply gF<;>contradiction
abbrev jF:UM:=["_law_pen_here","_law_n","_law_found","_law_k","_law_longer","_law_some"]
def xW{K:ib}(c:Wc X P w K mg base jF jF 2 (aj g6))(d:i4 X)(f:Zn K "range")(a:FnAt P w K mg base "_law_order" Ps21 dh.m 2):lB X (aD g6) ft.m:=by unfold ft;apply gF<;>contradiction
def Kv{K:ib}(b:Ba P w K mg base)(D0:e_ K "is_whole" gX)(D1:e_ K "is_place" g8)(D2:e_ K "check_place" eM)(D3:e_ K "check_places" dZ)(D4:e_ K "rising_once" eL)(D5:e_ K "neighbours" fG)(D6:e_ K "pairs_among" eO)(D7:e_ K "pairs_round" eJ)(D8:e_ K "new_pairs" fZ)(D9:e_ K "struck_out" fF)(bt:e_ K "sides" lE)(b6:e_ K "pairs_apart" eN)(b2:e_ K "shortest_way" d6)(as:e_ K "bare_ring" gk)(al:e_ K "with_tied" f8)(bi:e_ K "best_beginning" ck)(ap:e_ K "best_of" gz)(y:e_ K "paper_against" iV)(bn:e_ K "least" lK)(Q:e_ K "_law_pen" lG)(b0:e_ K "_law_draw" j6)(ay:e_ K "_law_order" iU)(bx:e_ K "_law_made" j8)(b4:e_ K "_law_round" iW)(Z:e_ K "_law_web" lC)(an:e_ K "_law_fill" jJ)(b1:e_ K "_law_orders" g6)(U:e_ K "law" oj)(z0:Zn K "abs")(z1:Zn K "bool")(z2:Zn K "enumerate")(z3:Zn K "int")(z4:Zn K "isinstance")(L:Zn K "len")(O:Zn K "list")(z7:Zn K "max")(u:Zn K "min")(r:Zn K "range")(z:Zn K "set")(C:Zn K "sorted")(i:Zn K "tuple")(a:∃t,PySem.W.nsIn K mainGlobals "MOST_PLACES_HERE"=J (J (.int 7 t))):FnAt P w K mg base "law" C1 Ct 80:=by
 have f:∃t,mg "MOST_PLACES_HERE"=J (.int 7 t):=let⟨t,e⟩:=a;⟨t,PySem.W.mg_of b.kin b.ns e⟩;have a0:=za (F:=fA) jU b D0 λX c d=>xA c d z4 z1 z3;have a1:=za (F:=fB) jS b D1 λX c d=>xL c d  a0;have a2:=za (F:=bh) gE b D2 λX c d=>rO c d  a1;have a3:=za (F:=cj) fY b D3 λX c d=>o5 c d  a2;have M:=za (F:=bg) gQ b D4 λX c d=>rA c d C z z7 u i;have a5:=za (F:=br) iN b D5 λX c d=>sI c d  a2;have a6:=za (F:=bT) gL b D6 λX c d=>rq c d z2;have a7:=za (F:=bS) gG b D7 λX c d=>rj c d  a5 a6;have a8:=za (F:=bN) i9 b D8 λX c d=>uT c d  a7;have a9:=za (F:=cw) iD b D9 λX c d=>t4 c d  a7 M a3 a2;have R:=za (F:=jg) pK b bt λX c d=>FN c d z2 M;have cb:=za (F:=dz) gN b b6 λX c d=>rL c d  a6 M R;have S:=za (F:=bu) fK b b2 λX c d=>pQ c d  a5;have cd:=za (F:=cP) jb b as λX c d=>uP c d O r a8 S a5;have ca:=za (F:=cO) jc b al λX c d=>uQ c d O M;have ax:=n6 (P:=P) (w:=w) (k:=6) b bi ap (a8.mono (by decide)) (a9.mono (by decide)) L u i 8;have l:∀n,FnAt P w K mg base "paper_against" _ (aQ n).m (7+n+1):=λn=>by
  induction n with
  |zero=>exact Sa (np:=2) ["web","k","ring","papers"] b y
  |succ n ih=>exact za (F:=aQ (n+1)) (B:=cF (aQ n)) ["web","k","ring","papers"] b y λX c d=>by unfold cF;apply gF<;>contradiction
 have l:FnAt P w K mg base "paper_against" _ cK.m 78:=l 70;have bj:=JE (k:=78) (N:=vD) (G:=wo) (ps:=FJ) b bn λX e h g d=>FK h g d (l.c e) (ax.c e) (e.n i) (e.n r) (e.e4▸f);have ba:=JE (k:=0) (N:=vG) (G:=vR) (ps:=FL) b Q λX e h g d=>FM h g d (e.n z0) (e.n L) (e.n u);have j:=JE (k:=0) (N:=sA) (G:=ur) (ps:=Ac) b b0 λX e h g d=>AI h g d;have H:=za (F:=dh) kA b ay λX c d=>yG c d r j;have E:=za (F:=cQ) mE b bx λX c d=>Af c d C z z7 u i;have b5:=za (F:=eZ) kQ b b4 λX c d=>zR c d r L;have bm:=za (F:=im) oM b Z λX c d=>FO c d r O E j b5 H;have W:=za (F:=bU) nh b an λX c d=>Bx c d L z7 u O;have be:=za (F:=cL) jF b b1 λX c d=>xW c d r H;have b3:=JE (k:=79) (N:=GK) (G:=GL) (ps:=C1) b U λX e h g d=>Oo h g d (E.c e) (bj.c e) (j.c e) (W.c e) (be.c e) (bm.c e) (ba.c e) (e.n r) (e.n u);exact b3
end Law
namespace PySem.W.Fast
def tw7729400445605977205:=0
def tw766746244173886137:=0
def tw14630424760702822032:=0
def tw2235280874245398878:=0
def tw1142556222765557731:=0
def tw15477450384343713097:=0
def tw14308843459663573208:=0
def tw18148561337925841146:=0
def tw14715254733179656711:=0
def tw5523286424185195842:=0
def tw1890569016065439223:=0
def tw15936638914109425238:=0
def tw5837514581684760631:=0
def tw2500269040019224904:=0
def tw10095061579811067796:=0
def tw9182568695782651456:=0
def tw15834776355273158214:=0
def tw15433546843962862721:=0
def tw8244780426993414478:=0
def tw12975773611955099222:=0
def tw16038737522254892276:=0
def tw2686111324823939053:=0
def tw2323890614199927841:=0
def tw16573731237303157739:=0
def tw9776154077520027124:=0
def tw13215578115471245882:=0
def tw5135961214504492279:=0
def tw3764185134682172491:=0
def tw11919058323629055897:=0
def tw13899614825494131500:=0
def tw15882942243900242376:=0
def tw6073979559016011173:=0
def tw9800589042555768430:=0
def tw1738593347823274640:=0
def tw1925388428878231451:=0
def tw7297789707948877107:=0
def tw4441285719966627447:=0
def tw12156097016219284754:=0
def tw7592094680000824274:=0
def tw5155395817480818186:=0
def tw16053404389366404315:=0
def tw3095681019278029934:=0
def tw7195394462719443968:=0
def tw4404492117968332245:=0
def tw1993034322570030552:=0
def tw11636147290996677298:=0
def tw4999463102619781626:=0
def tw5759332913585135297:=0
def tw13756601717193289091:=0
def tw7922531941606628442:=0
def tw13372663915660086682:=0
def tw18374621606404160195:=0
def tw12137162664685546314:=0
def tw12615517619322715630:=0
def tw10011722753987150769:=0
def tw8218302372590280248:=0
def tw6293354579610488217:=0
def tw10797256385124207487:=0
def tw17174672148043897469:=0
def tw13912625382973842564:=0
def tw15178186292365827522:=0
def tw1153682279633460688:=0
def tw855241092096733946:=0
def tw14544595991350154105:=0
def tw14163197710136980055:=0
def tw7846346555787118804:=0
def tw17593412747894314822:=0
def tw10421440668497614400:=0
def tw5318020748311065143:=0
def tw14095985889077995497:=0
def tw9533339447224359660:=0
def tw8045781850553654248:=0
def tw15074196889838724769:=0
def tw14677936331755292368:=0
def tw9549987701986242909:=0
def tw8052858868659840302:=0
def tw1089112816733818756:=0
def tw3925067744136929969:=0
def tw7481566416735755691:=0
def tw18325012549053629001:=0
def tw10921561690007767496:=0
def tw14115980871990811696:=0
def tw13634809038259794974:=0
def tw11014430277298620468:=0
def tw6283209104546184177:=0
def tw1877778480897345390:=0
def tw17966095316962457426:=0
def tw17880228926235605743:=0
def tw1694699986712690917:=0
def tw5968421472627322591:=0
def tw11356229386485699757:=0
def tw2197198178004242523:=0
def tw14405126846992285873:=0
def tw15530643269810625737:=0
def tw8176075323521296824:=0
def tw1724466951814264621:=0
def tw3798421659259750370:=0
def tw3212147770215733307:=0
def tw1490566667668376729:=0
def tw4140306221854965311:=0
def tw11337754463333263541:=0
def tw4361995609518658126:=0
def tw18300293289281217523:=0
def tw3586693129089789918:=0
def tw16270733446918030270:=0
def tw1753222277675414426:=0
def tw10365272808769898771:=0
def tw9518093048097423038:=0
def tw16280103414413542370:=0
def tw7066102852141196467:=0
def tw6033244031449921349:=0
def tw6863052801913419862:=0
def tw8005882301591851259:=0
def tw17299581169998174452:=0
def tw5496123711928511005:=0
def tw1522154543419334341:=0
def tw6232439719032295347:=0
def tw2213929894197336851:=0
def tw5275989115962423457:=0
def tw3048618429443085473:=0
def tw17598443522556592401:=0
def tw12411339283676913741:=0
def tw5200176740864787789:=0
def tw5160059284928335276:=0
def tw9200928215340644572:=0
def tw9471418292992417759:=0
def tw7965677164141205634:=0
def tw7129851849040233486:=0
end PySem.W.Fast
open PySem PySem.W PyProof.Rows
local macro_rules | `(tactic| and_intros) => `(tactic| (dsimp only [L2.ny]; first | k_is | (refine' MM.CU ?a ?l ?c ?k; (case a => k_is); (case l => k_is); (case c => k_is); (case k => k_is))))
set_option maxRecDepth 100000 in
set_option maxHeartbeats 0 in
theorem PySem.Challenge.cw_fewfills_k22_least_of_all_orders_holds : PySem.Challenge.rw_fewfills_k22_least_of_all_orders.Holds := by
  w_on; o_law; k_head; (case hw=>w_witness2)
  k_fill
  refine MM.Io (l:=PySem.Challenge.rw_fewfills_k22_least_of_all_orders) (k:=80) (x:="_law_script") (F:=Law.Ct) rfl rfl ⟨rfl,by decide,by decide,rfl⟩ (fun w h Y=>PySem.W.kIn_of Y) ?F Law.C0
  case F=>
    intro w mg fa h KX G hmg
    have Dlaw:MM.e_ (L2.ny KX) "law" Law.oj:=by and_intros
    have D0:MM.e_ (L2.ny KX) "is_whole" Law.gX:=by and_intros
    have D1:MM.e_ (L2.ny KX) "is_place" Law.g8:=by and_intros
    have D2:MM.e_ (L2.ny KX) "check_place" Law.eM:=by and_intros
    have D3:MM.e_ (L2.ny KX) "check_places" Law.dZ:=by and_intros
    have D4:MM.e_ (L2.ny KX) "rising_once" Law.eL:=by and_intros
    have D5:MM.e_ (L2.ny KX) "neighbours" Law.fG:=by and_intros
    have D6:MM.e_ (L2.ny KX) "pairs_among" Law.eO:=by and_intros
    have D7:MM.e_ (L2.ny KX) "pairs_round" Law.eJ:=by and_intros
    have D8:MM.e_ (L2.ny KX) "new_pairs" Law.fZ:=by and_intros
    have D9:MM.e_ (L2.ny KX) "struck_out" Law.fF:=by and_intros
    have D10:MM.e_ (L2.ny KX) "sides" Law.lE:=by and_intros
    have D11:MM.e_ (L2.ny KX) "pairs_apart" Law.eN:=by and_intros
    have D12:MM.e_ (L2.ny KX) "shortest_way" Law.d6:=by and_intros
    have D13:MM.e_ (L2.ny KX) "bare_ring" Law.gk:=by and_intros
    have D14:MM.e_ (L2.ny KX) "with_tied" Law.f8:=by and_intros
    have D15:MM.e_ (L2.ny KX) "best_beginning" Law.ck:=by and_intros
    have D16:MM.e_ (L2.ny KX) "best_of" Law.gz:=by and_intros
    have D17:MM.e_ (L2.ny KX) "paper_against" Law.iV:=by and_intros
    have D18:MM.e_ (L2.ny KX) "least" Law.lK:=by and_intros
    have D19:MM.e_ (L2.ny KX) "_law_pen" Law.lG:=by and_intros
    have D20:MM.e_ (L2.ny KX) "_law_draw" Law.j6:=by and_intros
    have D21:MM.e_ (L2.ny KX) "_law_order" Law.iU:=by and_intros
    have D22:MM.e_ (L2.ny KX) "_law_made" Law.j8:=by and_intros
    have D23:MM.e_ (L2.ny KX) "_law_round" Law.iW:=by and_intros
    have D24:MM.e_ (L2.ny KX) "_law_web" Law.lC:=by and_intros
    have D25:MM.e_ (L2.ny KX) "_law_fill" Law.jJ:=by and_intros
    have D26:MM.e_ (L2.ny KX) "_law_orders" Law.g6:=by and_intros
    have Z27:PySem.W.nsIn (L2.ny KX) mainGlobals "abs" = some none:=by and_intros
    have Z28:PySem.W.nsIn (L2.ny KX) mainGlobals "bool" = some none:=by and_intros
    have Z29:PySem.W.nsIn (L2.ny KX) mainGlobals "enumerate" = some none:=by and_intros
    have Z30:PySem.W.nsIn (L2.ny KX) mainGlobals "int" = some none:=by and_intros
    have Z31:PySem.W.nsIn (L2.ny KX) mainGlobals "isinstance" = some none:=by and_intros
    have Z32:PySem.W.nsIn (L2.ny KX) mainGlobals "len" = some none:=by and_intros
    have Z33:PySem.W.nsIn (L2.ny KX) mainGlobals "list" = some none:=by and_intros
    have Z34:PySem.W.nsIn (L2.ny KX) mainGlobals "max" = some none:=by and_intros
    have Z35:PySem.W.nsIn (L2.ny KX) mainGlobals "min" = some none:=by and_intros
    have Z36:PySem.W.nsIn (L2.ny KX) mainGlobals "range" = some none:=by and_intros
    have Z37:PySem.W.nsIn (L2.ny KX) mainGlobals "set" = some none:=by and_intros
    have Z38:PySem.W.nsIn (L2.ny KX) mainGlobals "sorted" = some none:=by and_intros
    have Z39:PySem.W.nsIn (L2.ny KX) mainGlobals "tuple" = some none:=by and_intros
    have YMOST_PLACES_HERE:∃ t,PySem.W.nsIn (L2.ny KX) mainGlobals "MOST_PLACES_HERE" = some (some (.int 7 t)):=by
      dsimp only [L2.ny]
      refine' MM.Jg ?h
      (case h=>k_is)
    exact MM.Im Dlaw Law.Ku hmg KX G fun base kb nb=>Law.Kv ⟨kb,nb⟩ D0 D1 D2 D3 D4 D5 D6 D7 D8 D9 D10 D11 D12 D13 D14 D15 D16 D17 D18 D19 D20 D21 D22 D23 D24 D25 D26 Dlaw Z27 Z28 Z29 Z30 Z31 Z32 Z33 Z34 Z35 Z36 Z37 Z38 Z39 YMOST_PLACES_HERE
